/- Texts of this claim put together; each theorem states its conditions. -/
import Derived.Test.YtccoicjmmeoggaaDoorHMacAlone1
import Derived.Test.YtccoicjmmeoggaaDoorCards
import Derived.Test.YtccoicjmmeoggaaDoorTie
import Derived.WalkKit
import Derived.ProofKit
import Derived.OpenShut
import Derived.LaidMore
import Derived.Deep.DeepHandedRow
import Derived.Deep.DeepWitnessRowRef
import Derived.Lib.LaidTab
import Derived.Stop.LaidErr
import Derived.ChangeOld
import Derived.SizedLaws
/- mac.checkKeys; the search for a key's number. Each theorem states its conditions. -/
namespace Go.Proofs.YtccoicjmmeoggaaDoor
open Go.RowKit
set_option linter.unusedVariables false
set_option linter.unusedSimpArgs false

/-- the least error of the first keys -/
def ckE (K : Nat → It) : Nat → Int
  | 0 => 0
  | j + 1 => lea (ckE K j) (secE (K j).n)
theorem lea_3 {a b : Int} (ha : 0 ≤ a ∧ a ≤ 3) (hb : 0 ≤ b ∧ b ≤ 3) : 0 ≤ lea a b ∧ lea a b ≤ 3 := by unfold lea; (repeat' split) <;> omega
theorem ckE_bd (K : Nat → It) (m : Nat) : 0 ≤ ckE K m ∧ ckE K m ≤ 3 := by
  induction m with
  | zero => exact ⟨Int.le_refl 0, by show (0 : Int) ≤ 3; decide⟩
  | succ m ih => exact lea_3 ih (secE_bd _)
def keysE (K : Nat → It) (m : Nat) : Int := if 8 < m then 2 else ckE K m
theorem keysE_bd (K : Nat → It) (m : Nat) : 0 ≤ keysE K m ∧ keysE K m ≤ 3 := by
  unfold keysE; split
  · decide
  · exact ckE_bd K m
theorem rdK_rng {w : World} {b off m : Nat} {K : Nat → It} (h : RowR w b off m 2 (kR K)) (j : Nat) (hj : j < m) : w.rangeAt b (off + j * 2) (kC (K j)).toList := h.2 j hj
set_option maxHeartbeats 8000000 in
set_option maxRecDepth 100000 in
theorem checkKeys_any (A : Option Addr) (m c : Nat) (K : Nat → It) (w : World) (h : RdK w A m K) :
    Calls Tryd.prog 46 #[.slice A m c] w fun e w' => e = .returned (.int .i64 (keysE K m)) ∧ Below w.heap.size w w' := by
  have HR := Lib.hid h
  clear h
  by_cases hl : 8 < m
  · have hl2 : (8 : Int) < (m : Int) := by omega
    have hE : Hid (keysE K m = 2) := Lib.hid (if_pos hl)
    clear hl
    go_enter Tryd.func46, Tryd.ntmps46
    go_wp2_with fail
    go_ret
    exact ⟨by rw [hE.out]; rfl, Below.refl _ _⟩
  · have hl2 : ¬ (8 : Int) < (m : Int) := by omega
    have hE : Hid (keysE K m = ckE K m) := Lib.hid (if_neg hl)
    have hm8 : m ≤ 8 := by omega
    clear hl
    go_enter Tryd.func46, Tryd.ntmps46
    go_wp2_with fail
    go_loopw [3, 11] (fun t i wr => ∃ k : Nat, k ≤ m ∧ i = .int .i64 k ∧ t = .int .i64 (ckE K k) ∧ Hid (Below w.heap.size w wr)) (fun _ i _ => m - (intOf i).toNat)
    case atStart => exact ⟨0, by omega, rfl, rfl, Lib.hid (Below.refl _ _)⟩
    case round =>
      obtain ⟨k, hk, rfl, rfl, HB⟩ := hrel
      by_cases hlt : k < m
      · have hki : (k : Int) < (m : Int) := by omega
        obtain ⟨b, off, rfl, hr⟩ := (HR.out.below HB.out).1.row (by omega)
        have hr2 := Lib.hid (rdK_rng hr k hlt)
        clear hr
        obtain ⟨a, ha⟩ : ∃ a, ckE K k = a := ⟨_, rfl⟩
        have ba := ckE_bd K k
        rw [ha] at ba
        rw [ha]
        have HA := Lib.hid ha
        have BA := Lib.hid ba
        clear ha ba
        go_wp2_with (refine wpList_ld (op := ⟨some 14, _, _, _, _, _⟩) (by rfl) 45 (.tmp 13) rfl b (off + k * 2) rfl (kC (K k)) _ hr2.out Tryd.underlying45 rfl info_key ?_; refine Hid.out ?_)
        refine Lib.hid ?_
        clear hr2
        obtain ⟨N1, hN1⟩ : ∃ N, wr.heap.size = N := ⟨_, rfl⟩
        have HN1 := Lib.hid hN1
        clear hN1
        go_wp2_with (refine wpList_new (op := ⟨some 5, _, _, _, _, _⟩) rfl 45 rfl (kC ⟨0, none, 0, 0, nou⟩) zero_key2 N1 HN1.out ?_; intro w1 k1 b1 s1; refine Hid.out ?_)
        refine Lib.hid ?_
        have K5 := Lib.hid k1
        clear k1
        have le_HB_N1 : w.heap.size ≤ N1 := by rw [← HN1.out]; exact HB.out.size
        have HBn := Lib.hid (HB.out.trans (b1.mono HB.out.size))
        clear HB
        have HB := HBn
        clear HBn
        clear b1 HN1
        go_wp2_with (refine wpList_st rfl 45 (.tmp 5) (.tmp 14) rfl N1 0 rfl (.agg (kC (K k))) (kC (K k)) rfl rfl info_key (kC_one _) K5.out (Nat.le_of_ble_eq_true rfl) (C' := kC (K k)) (by rfl) ?_; intro w2 q1; refine Hid.out ?_)
        refine Lib.hid ?_
        have HBn := Lib.hid (HB.out.trans (q1.2.1 _ (by omega)))
        clear HB
        have HB := HBn
        clear HBn
        have K5n : Hid (Blk 45 w2 N1 (kC (K k))) := Lib.hid q1.1
        clear K5
        have K5 := K5n
        clear K5n q1
        have c5 : w2.cell? ⟨N1, 1, none⟩ = some (.slice (K k).A (K k).n (K k).c) := (K5.out.cell 1).trans rfl
        go_wp2_with fail
        refine (secret_any (K k).A (K k).n (K k).c w2).mono ?_
        rintro e w90 ⟨rfl, rfl⟩
        go_wp2_with fail
        have BS := secE_bd (K k).n
        refine (least_any a (secE (K k).n) w90 (by have := BA.out; omega) (by omega)).mono ?_
        rintro e w91 ⟨rfl, rfl⟩
        clear BS c5
        go_wp2_with fail
        go_roundw
        case rel => exact ⟨k + 1, by omega, by go_num, by show Value.int .i64 (lea a (secE (K k).n)) = .int .i64 (lea (ckE K k) (secE (K k).n)); rw [HA.out], HB⟩
        case measure => simp only [intOf]; omega
      · obtain rfl : k = m := by omega
        go_wp2_with fail
        go_ret
        exact ⟨by rw [hE.out]; rfl, HB.out⟩
set_option maxHeartbeats 4000000 in
set_option maxRecDepth 100000 in
theorem isKey_any (t : It) (N num : Nat) (w : World) (ht : 0 ≤ t.ty ∧ t.ty ≤ 65535) (hN : w.cell? ⟨N, 0, none⟩ = some (.int .u64 (num : Int))) :
    Calls Tryd.prog 75 #[.agg (kC t), .pointer (some ⟨N, 0, none⟩)] w fun e w' => e = .returned (.bool (t.ty == (num : Int))) ∧ Below w.heap.size w w' := by
  obtain ⟨id, hid⟩ : ∃ id : Nat, t.ty = (id : Int) := ⟨t.ty.toNat, by omega⟩
  have hid2 : (0 : Int) ≤ (id : Int) ∧ (id : Int) ≤ 65535 := ⟨by omega, by omega⟩
  have hNl : N < w.heap.size := cell_lt hN
  rw [hid]
  have HID := Lib.hid hid
  clear hid ht
  go_enter Tryd.func75, Tryd.ntmps75
  have HB := Lib.hid (Below.refl w.heap.size w)
  obtain ⟨N1, hN1⟩ : ∃ N, w.heap.size = N := ⟨_, rfl⟩
  have HN1 := Lib.hid hN1
  clear hN1
  go_wp2_with (refine wpList_box (op := ⟨some 2, _, _, _, _, _⟩) rfl 45 (.tmp 0) rfl (kC t) rfl N1 HN1.out ?_; intro w1 k1 b1 s1; refine Hid.out ?_)
  refine Lib.hid ?_
  have K1 := Lib.hid k1
  have c2 : w1.cell? ⟨N, 0, none⟩ = some (.int .u64 (num : Int)) := (b1.cell (p := ⟨N, 0, none⟩) hNl).trans hN
  clear k1 hN
  have HBn := Lib.hid (HB.out.trans (b1.mono HB.out.size))
  clear HB
  have HB := HBn
  clear HBn
  clear b1 HN1
  have c1 : w1.cell? ⟨N1, 0, none⟩ = some (.int .u16 (id : Int)) := (K1.out.cell 0).trans (by show some (Value.int .u16 t.ty) = _; rw [HID.out])
  go_wp2_with fail
  go_ret
  exact ⟨by simp, HB.out⟩
/-- the first of that number; none -/
def NoKey (K : Nat → It) (num n : Nat) : Prop := ∀ j, j < n → (K j).ty ≠ (num : Int)
def FstKey (K : Nat → It) (num m f : Nat) : Prop := f < m ∧ (K f).ty = (num : Int) ∧ NoKey K num f
theorem noKey_next {K : Nat → It} {num k : Nat} (h : NoKey K num k) (hq : ((K k).ty == (num : Int)) = false) : NoKey K num (k + 1) := by
  intro j hj
  by_cases e : j = k
  · subst e; simpa using hq
  · exact h j (by omega)
def IdxK (K : Nat → It) (num m : Nat) (w : World) (e : Ending) (w' : World) : Prop := ∃ r : Int, e = .returned (.int .i64 r) ∧ ((∃ f : Nat, r = (f : Int) ∧ FstKey K num m f) ∨ (r = -1 ∧ NoKey K num m)) ∧ Below w.heap.size w w'
set_option maxHeartbeats 4000000 in
set_option maxRecDepth 100000 in
theorem idxK_any (A : Option Addr) (n c : Nat) (K : Nat → It) (N num : Nat) (w : World) (hR : RdK w A n K) (hn : n ≤ 140737488351232) (hN : w.cell? ⟨N, 0, none⟩ = some (.int .u64 (num : Int))) :
    Calls Tryd.prog 74 #[.slice A n c, .func (.func 75) #[] #[.pointer (some ⟨N, 0, none⟩)]] w (IdxK K num n w) := by
  have hNl : N < w.heap.size := cell_lt hN
  have HNN := Lib.hid hN
  clear hN
  rcases Nat.eq_zero_or_pos n with rfl | hpos
  · clear hR
    go_enter Tryd.func74, Tryd.ntmps74
    go_wp2
    refine wp_loop_rounds 1 ?_
    rw [rounds_succ]
    go_wp2
    go_ret
    exact ⟨-1, rfl, .inr ⟨rfl, fun j hj => by omega⟩, Below.refl _ _⟩
  · obtain ⟨b, off, rfl, hr⟩ := hR.1.row hpos
    have HR := Lib.hid hr
    have HKE := Lib.hid hR.2
    clear hR hr
    go_enter Tryd.func74, Tryd.ntmps74
    have HB := Lib.hid (Below.refl w.heap.size w)
    go_wp2_with fail
    go_loopw [8] (fun t wr => ∃ k : Nat, k ≤ n ∧ t = .int .i64 k ∧ Hid (NoKey K num k) ∧ Hid (Below w.heap.size w wr)) (fun t _ => n - (intOf t).toNat)
    case atStart => exact ⟨0, by omega, rfl, Lib.hid (fun j hj => absurd hj (Nat.not_lt_zero _)), HB⟩
    case round =>
      obtain ⟨k, hk, rfl, HA, HW⟩ := hrel
      by_cases hlt : k < n
      · have hki : (k : Int) < (n : Int) := by omega
        have h1 : Hid (wr.rangeAt b (off + k * 2) (kC (K k)).toList) := Lib.hid (rangeAt_below (rdK_rng HR.out k hlt) HW.out HR.out.1)
        go_wp2_with (refine wpList_ld (op := ⟨some 15, _, _, _, _, _⟩) (by rfl) 45 (.tmp 14) rfl b (off + k * 2) rfl (kC (K k)) _ h1.out Tryd.underlying45 rfl info_key ?_; refine Hid.out ?_)
        refine Lib.hid ?_
        clear h1
        go_wp2_with fail
        refine (isKey_any (K k) N num wr (HKE.out k hlt).1 ((HW.out.cell (p := ⟨N, 0, none⟩) hNl).trans HNN.out)).mono ?_
        rintro e w2 ⟨rfl, b1⟩
        have HW2 := Lib.hid (HW.out.trans (b1.mono HW.out.size))
        clear b1
        cases hq : (K k).ty == (num : Int) with
        | true =>
          go_wp2_with fail
          go_ret
          exact ⟨k, rfl, .inl ⟨k, rfl, hlt, by simpa using hq, HA.out⟩, HW2.out⟩
        | false =>
          go_wp2_with fail
          go_roundw
          case rel => exact ⟨k + 1, by omega, by go_num, Lib.hid (noKey_next HA.out hq), HW2⟩
          case measure => simp only [intOf]; omega
      · obtain rfl : k = n := by omega
        go_wp2_with fail
        go_ret
        exact ⟨-1, rfl, .inr ⟨rfl, HA.out⟩, HW.out⟩
end Go.Proofs.YtccoicjmmeoggaaDoor

/- mac.isSigned: is a packet signed with one of the keys? Each theorem states its conditions. -/
namespace Go.Proofs.YtccoicjmmeoggaaDoor
open Go.RowKit
set_option linter.unusedVariables false
set_option linter.unusedSimpArgs false

theorem guard_d2 : Tryd.prog.eqGuardType Tryd.prog.depth 26 = false := by kernel_rfl
theorem und_d : Tryd.prog.underlying 26 = some (.array 32 5) := by kernel_rfl
theorem cells_eq {n : Nat} {z y : Nat → Int} (hz : ∀ j, 0 ≤ z j ∧ z j ≤ 255) (hy : ∀ j, 0 ≤ y j ∧ y j ≤ 255) :
    (((List.range n).map fun j => UInt8.ofNat (z j).toNat) == ((List.range n).map fun j => UInt8.ofNat (y j).toNat)) = decide (∀ j, j < n → z j = y j) := by
  rw [Bool.eq_iff_iff, beq_iff_eq, decide_eq_true_iff]
  constructor
  · intro h j hj
    have := congrArg (·[j]?) h
    simp only [List.getElem?_map, List.getElem?_range hj, Option.map_some, Option.some.injEq] at this
    have h1 := congrArg UInt8.toNat this
    have a := hz j
    have b := hy j
    simp at h1
    omega
  · intro h
    exact List.map_congr_left fun j hj => by rw [h j (List.mem_range.1 hj)]
/-- are the first n the same? -/
def eqD (z1 z2 : Nat → Int) (n : Nat) : Bool := decide (∀ j, j < n → z1 j = z2 j)
/-- equality of two sums, as an operation -/
theorem eql_d (o : Oper) (e : Operand → Value) (x y : Operand) (ho : o.op = .binOp .eql 26 x y 26) (z1 z2 : Nat → Int) (hz1 : ∀ j, 0 ≤ z1 j ∧ z1 j ≤ 255) (hz2 : ∀ j, 0 ≤ z2 j ∧ z2 j ≤ 255) (h0 : e x = .agg (bytC 32 z1)) (h1 : e y = .agg (bytC 32 z2)) (W : World) :
    (execOp e o).run Tryd.prog W = .ok (.value (.bool (eqD z1 z2 32))) W := by
  have hs : (Op.equalIn 10000 26 (.agg (bytC 32 z1)) (.agg (bytC 32 z2))).run Tryd.prog W = .ok (eqD z1 z2 32) W := by
    unfold bytC
    rw [vals_cells z1 32 hz1, vals_cells z2 32 hz2, run_equalIn_bytes W 9998 26 5 32 und_d Tryd.underlying5 size_u8 _ _ (by simp) (by simp), cells_eq hz1 hz2]
    rfl
  unfold execOp
  simp only [ho, h0, h1]
  simp [Sem.run_bind, run_eqGuard_agg _ _ _ _ _ _ _ guard_d2, run_eql_struct, hs]
theorem s2a_run (o : Oper) (e : Operand → Value) (x : Operand) (ho : o.op = .sliceToArrayPointer 26 x) (a : Option Addr) (c : Nat) (h0 : e x = .slice a 32 c) (W : World) : (execOp e o).run Tryd.prog W = .ok (.value (.pointer a)) W := by
  unfold execOp
  simp only [ho, h0, Instr.arrayAt]
  simp [run_underlying und_d]
theorem slice_3 (o : Oper) (e : Operand → Value) (x : Operand) (ho : o.op = .slice 22 x (some (.const (.int .i64 3))) none none) (b off c : Nat) (h0 : e x = .slice (some ⟨b, off, none⟩) 35 c) (hc : e (.const (.int .i64 3)) = .int .i64 3) (hcm : 35 ≤ c) (W : World) :
    (execOp e o).run Tryd.prog W = .ok (.value (.slice (some ⟨b, off + 3, none⟩) 32 (c - 3))) W := by
  unfold execOp
  simp only [ho, h0, hc, Option.map_none, Option.map_some]
  have e1 : ¬ (c = 3) := by omega
  simp [go_sem, e1]
  try omega
/-- the last of the list signs the packet with key f -/
def Signed (L : Nat → It) (m : Nat) (kd : Int) (z : Nat → Int) (n : Nat) (K : Nat → It) (mk : Nat) : Prop :=
  0 < m ∧ AtSig L m (m - 1) ∧ (L (m - 1)).n = 35 ∧ (L (m - 1)).z 0 = 3 ∧ ∃ f, FstKey K (numZ (L (m - 1)).z 1 2).toNat mk f ∧ ∀ j, j < 32 → (L (m - 1)).z (3 + j) = hmacZ (K f).z (K f).n (blkZ (kd = 18 ∨ kd = 20) z n) n j
def SgnP (L : Nat → It) (m : Nat) (kd : Int) (z : Nat → Int) (n : Nat) (K : Nat → It) (mk : Nat) (w : World) (e : Ending) (w' : World) : Prop :=
  ∃ r : Bool, e = .returned (.bool r) ∧ ((r = true ∧ Signed L m kd z n K mk) ∨ (r = false ∧ ¬ Signed L m kd z n K mk)) ∧ Below w.heap.size w w'
theorem atSig_one {L : Nat → It} {m j k : Nat} (h1 : AtSig L m j) (h2 : AtSig L m k) : j = k := by
  rcases Nat.lt_trichotomy j k with h | h | h
  · exact absurd h1.2.1 (h2.2.2 j h)
  · exact h
  · exact absurd h2.2.1 (h1.2.2 k h)
theorem fst_one {K : Nat → It} {num m j k : Nat} (h1 : FstKey K num m j) (h2 : FstKey K num m k) : j = k := by
  rcases Nat.lt_trichotomy j k with h | h | h
  · exact absurd h1.2.1 (h2.2.2 j h)
  · exact h
  · exact absurd h2.2.1 (h1.2.2 k h)
theorem run_m1 (o : Oper) (e : Operand → Value) (x y : Operand) (t u : TypeId) (ho : o.op = .binOp .sub t x y u) (m l : Nat) (h0 : e x = .int .i64 (m : Int)) (h1 : e y = .int .i64 1) (hm : m = l + 1) (hl : l ≤ 1000) (W : World) : (execOp e o).run Tryd.prog W = .ok (.value (.int .i64 (l : Int))) W := by
  subst hm
  unfold execOp
  simp only [ho, h0, h1]
  have e1 : ((l + 1 : Nat) : Int) - 1 = (l : Int) := by omega
  simp [go_sem, IntKind.wrap_i64]
  omega
theorem zero_u64c : (Tryd.prog.info? 78).map (·.zero) = some (some (.int .u64 0)) := by kernel_rfl
theorem info_u64c : (Tryd.prog.info? 78).map (·.size) = some 1 := by kernel_rfl
theorem one_u64 (n : Int) : (#[Value.int .u64 n] : Array Value).all (·.oneCell') = true := by kernel_rfl
theorem alloc1_run (o : Oper) (e : Operand → Value) (t : TypeId) (ho : o.op = .alloc t) (hz : (Tryd.prog.info? t).map (·.zero) = some (some (.int .u64 0))) (W : World) :
    (execOp e o).run Tryd.prog W = .ok (.value (.pointer (some ⟨W.heap.size, 0, none⟩))) (W.alloc (.cells #[.int .u64 0] t)) := by
  unfold execOp
  simp only [ho]
  cases hq : Tryd.prog.info? t with
  | none => rw [hq] at hz; cases hz
  | some i =>
    rw [hq] at hz
    have hz' : i.zero = some (.int .u64 0) := by simpa using hz
    simp [Instr.alloc, zeroValue, typeInfo, hq, hz', go_sem]
/-- a new variable of one cell, in the order of the text -/
theorem wpList_new1 {ops : Array Oper} {Q : Exit → Act → World → Prop} {rest : List Oper} {op : Oper} {a : Act} {w : World} (hgd : op.guard = none) (t : TypeId) (ho : op.op = .alloc t) (C : Array Value) (hz : (Tryd.prog.info? t).map (·.zero) = some (some (.int .u64 0)) ∧ C = #[.int .u64 0])
    (N : Nat) (hN : w.heap.size = N) (h : ∀ w', Blk t w' N C → Below w.heap.size w w' → N + 1 ≤ w'.heap.size → wpList Tryd.prog ops Q rest (a.put op.dst (.pointer (some ⟨N, 0, none⟩))) w') : wpList Tryd.prog ops Q (op :: rest) a w := by
  obtain ⟨hz, rfl⟩ := hz
  exact wpList_mk hgd t _ (alloc1_run op a.eval t ho hz w) N hN h
theorem row_32 {w : World} {b off : Nat} {z : Nat → Int} (h : Row8 w b off 35 z) : w.rangeAt b (off + 3) (bytC 32 fun j => z (3 + j)).toList := by
  intro j v hv
  have hj : j < 32 := by
    rcases Nat.lt_or_ge j 32 with h | h
    · exact h
    · rw [List.getElem?_eq_none (by simp [bytC, vals_len]; omega)] at hv; cases hv
  rw [Array.getElem?_toList, byt_at _ _ hj] at hv
  rw [← hv, Nat.add_assoc]
  exact h.2.1 (3 + j) (by omega)
theorem index_k (o : Oper) (e : Operand → Value) (x y : Operand) (ho : o.op = .indexAddr 50 x y) (b off m c f : Nat) (h0 : e x = .slice (some ⟨b, off, none⟩) m c) (h1 : e y = .int .i64 (f : Int)) (hf : f < m) (hm : m ≤ 1000) (W : World) :
    (execOp e o).run Tryd.prog W = .ok (.value (.pointer (some ⟨b, off + f * 2, none⟩))) W := by
  unfold execOp
  simp only [ho, h0, h1]
  have e1 : (f : Int) < (m : Int) := by omega
  simp [go_sem, e1, hf]
  try omega
theorem numZ_nn (z : Nat → Int) (s k : Nat) (hz : ∀ j, 0 ≤ z j ∧ z j ≤ 255) : 0 ≤ numZ z s k := by
  induction k with
  | zero => exact Int.le_refl 0
  | succ k ih =>
    have := hz (s + k)
    simp only [numZ]
    omega
set_option maxHeartbeats 40000000 in
set_option maxRecDepth 100000 in
theorem isSigned_at (p : Pd) (L : Nat → It) (B : Option Addr) (n c : Nat) (z : Nat → Int) (A : Option Addr) (mk ck : Nat) (K : Nat → It) (w : World) (hpos : 0 < p.m) (hm9 : p.m ≤ 1000) (hR : RdT w p.A p.m L) (hB : Rd w B n z) (hBn : B = none → n = 0 ∧ c = 0) (hn2 : n ≤ 1492) (h54 : (L (p.m - 1)).n = 35 → 54 ≤ n) (hcv : (L (p.m - 1)).n ≤ (L (p.m - 1)).c ∧ (L (p.m - 1)).c ≤ maxLen)
    (hK : RdK w A mk K) (hmk : mk ≤ 8) (hs : ∀ j, j < mk → (K j).n ≤ 64) (hg : Rts w 0) :
    Calls Tryd.prog 47 #[.slice B n c, .agg (pdC p), .slice A mk ck] w (SgnP L p.m p.kd z n K mk w) := by
  have HR := Lib.hid hR
  have HBB := Lib.hid hB
  have HBN := Lib.hid hBn
  have HN2 := Lib.hid hn2
  have H54 := Lib.hid h54
  have HCV := Lib.hid hcv
  have HK := Lib.hid hK
  have HKS := Lib.hid hs
  have RT := Lib.hid hg
  have hg9 := hg.2
  have hmm1 : ¬ ((p.m : Int) - 1 < 0) := by omega
  obtain ⟨l, hl⟩ : ∃ l, p.m = l + 1 := ⟨p.m - 1, by omega⟩
  have HL := Lib.hid hl
  have hl1 : p.m - 1 = l := by omega
  rw [hl1] at HCV H54
  have hli : (p.m : Int) - 1 = (l : Int) := by omega
  have hl9 : l ≤ 1000 := by omega
  have hlm : (l : Int) < (p.m : Int) := by omega
  have hl0 : ¬ ((l : Int) < 0) := by omega
  have hSg : Hid (∀ r, r = Signed L p.m p.kd z n K mk → r = (AtSig L p.m l ∧ (L l).n = 35 ∧ (L l).z 0 = 3 ∧ ∃ f, FstKey K (numZ (L l).z 1 2).toNat mk f ∧ ∀ j, j < 32 → (L l).z (3 + j) = hmacZ (K f).z (K f).n (blkZ (p.kd = 18 ∨ p.kd = 20) z n) n j)) := Lib.hid (fun r h => by rw [h]; unfold Signed; rw [hl1]; exact propext ⟨fun h => h.2, fun h => ⟨hpos, h⟩⟩)
  clear hR hB hBn hn2 h54 hcv hK hs hg hl hl1 hpos hm9
  go_enter Tryd.func47, Tryd.ntmps47
  have HB := Lib.hid (Below.refl w.heap.size w)
  obtain ⟨N1, hN1⟩ : ∃ N, w.heap.size = N := ⟨_, rfl⟩
  have HN1 := Lib.hid hN1
  clear hN1
  go_wp2_with (refine wpList_box (op := ⟨some 4, _, _, _, _, _⟩) rfl 46 (.tmp 1) rfl (pdC p) rfl N1 HN1.out ?_; intro w1 k1 b1 s1; refine Hid.out ?_)
  refine Lib.hid ?_
  have KP := Lib.hid k1
  clear k1
  have lt_0_N1 : 0 < N1 := by rw [← HN1.out]; exact RT.out.lt
  have le_HB_N1 : w.heap.size ≤ N1 := by rw [← HN1.out]; exact HB.out.size
  have RTn := Lib.hid (RT.out.below b1 RT.out.lt)
  clear RT
  have RT := RTn
  clear RTn
  have HBn := Lib.hid (HB.out.trans (b1.mono HB.out.size))
  clear HB
  have HB := HBn
  clear HBn
  clear b1 HN1
  have cp : w1.cell? ⟨N1, 46, none⟩ = some (.slice p.A p.m p.c) := (KP.out.cell 46).trans (pd_46 p)
  go_wp2_with (refine wpList_v (op := ⟨some 15, _, _, _, _, _⟩) rfl (.int .i64 (l : Int)) (run_m1 _ _ _ _ _ _ rfl p.m l rfl rfl HL.out (by omega) _) ?_; refine Hid.out ?_)
  refine Lib.hid ?_
  go_wp2_with fail
  refine (idxS_any p.A p.m p.c L w1 (HR.out.below HB.out) (by have := HL.out; omega)).mono ?_
  rintro e w10 ⟨r, rfl, hr, b1⟩
  have HRR := Lib.hid hr
  clear hr cp
  have RTn := Lib.hid (RT.out.below b1 RT.out.lt)
  clear RT
  have RT := RTn
  clear RTn
  have KPn := Lib.hid (KP.out.below b1 KP.out.lt)
  clear KP
  have KP := KPn
  clear KPn
  have HBn := Lib.hid (HB.out.trans (b1.mono HB.out.size))
  clear HB
  have HB := HBn
  clear HBn
  clear b1
  have cp : w10.cell? ⟨N1, 46, none⟩ = some (.slice p.A p.m p.c) := (KP.out.cell 46).trans (pd_46 p)
  by_cases hq : r = (l : Int)
  · subst hq
    have hqb : ((l : Int) != (l : Int)) = false := by simp
    have HAT : Hid (AtSig L p.m l) := Lib.hid (by rcases HRR.out with ⟨k, e1, h1⟩ | ⟨e1, h1⟩; (obtain rfl : l = k := by omega); exact h1; omega)
    obtain ⟨bt, ot, ht, hrow⟩ := (HR.out.below HB.out).row (by have := HL.out; omega)
    have hlp : l < p.m := by have := HL.out; omega
    obtain ⟨ct0, ct1, hit⟩ := hrow.2 l hlp
    obtain ⟨vA, hvA⟩ : ∃ v, (L l).A = v := ⟨_, rfl⟩
    obtain ⟨vn, hvn⟩ : ∃ v, (L l).n = v := ⟨_, rfl⟩
    obtain ⟨vc, hvc⟩ : ∃ v, (L l).c = v := ⟨_, rfl⟩
    obtain ⟨vz, hvz⟩ : ∃ v, (L l).z = v := ⟨_, rfl⟩
    rw [hvA, hvn, hvc] at ct1
    have hrv : Rd w10 vA vn vz := by rw [← hvA, ← hvn, ← hvz]; exact hit.2.1
    have hvne : vA = none → vn = 0 ∧ vc = 0 := by rw [← hvA, ← hvn, ← hvc]; exact hit.2.2.1
    rw [hvn, hvc] at HCV
    rw [hvn] at H54
    have HSG2 : Hid (∀ r, r = Signed L p.m p.kd z n K mk → r = (AtSig L p.m l ∧ vn = 35 ∧ vz 0 = 3 ∧ ∃ f, FstKey K (numZ vz 1 2).toNat mk f ∧ ∀ j, j < 32 → vz (3 + j) = hmacZ (K f).z (K f).n (blkZ (p.kd = 18 ∨ p.kd = 20) z n) n j)) := Lib.hid (by rw [← hvn, ← hvz]; exact hSg.out)
    clear hSg
    have hSg := HSG2
    clear HSG2
    rw [ht] at cp
    have HRV := Lib.hid hrv
    have HVN := Lib.hid hvne
    clear hrv hvne hit hrow hvA hvn hvc hvz ct0 HRR
    by_cases h35 : vn = 35
    · subst h35
      have H54b : Hid (54 ≤ n) := Lib.hid (H54.out rfl)
      obtain ⟨bv, ov, rfl, hrv⟩ := HRV.out.row (by omega)
      have cv0 : w10.cell? ⟨bv, ov, none⟩ = some (.int .u8 (vz 0)) := by have := hrv.2.1 0 (by omega); rw [Nat.add_zero] at this; exact this
      have KV : Hid (Row8 w10 bv ov 35 vz) := Lib.hid hrv
      clear hrv HRV HVN
      have hvc1 := HCV.out.1
      have hvc2 : vc ≤ 9223372036854775807 := HCV.out.2
      obtain ⟨v0, hv0⟩ : ∃ v, vz 0 = v := ⟨_, rfl⟩
      rw [hv0] at cv0 hSg
      have HV0 := Lib.hid hv0
      clear hv0
      by_cases h3 : v0 = 3
      · subst h3
        go_wp2_with fail
        have HNM := Lib.hid (num_ok bv ov 35 vc vz 1 2 w10 KV.out.2.2 (by unfold maxLen; omega) hvc1 KV.out.2.1 (by omega) (by omega) (by omega) (by omega))
        obtain ⟨num, hnum⟩ : ∃ x, (numZ vz 1 2).toNat = x := ⟨_, rfl⟩
        have hnz : numZ vz 1 2 = (num : Int) := by have := numZ_nn vz 1 2 KV.out.2.2; omega
        rw [show numZ vz ((1 : Int).toNat) ((2 : Int).toNat) = (num : Int) from hnz] at HNM
        rw [hnum] at hSg
        clear hnum hnz
        refine HNM.out.mono ?_
        rintro e w20 ⟨rfl, rfl⟩
        clear HNM cv0 ct1 cp
        obtain ⟨N21, hN21⟩ : ∃ N, w10.heap.size = N := ⟨_, rfl⟩
        have HN21 := Lib.hid hN21
        clear hN21
        go_wp2_with (refine wpList_new1 (op := ⟨some 9, _, _, _, _, _⟩) rfl 78 rfl (#[.int .u64 0]) ⟨zero_u64c, rfl⟩ N21 HN21.out ?_; intro w21 k1 b1 s1; refine Hid.out ?_)
        refine Lib.hid ?_
        have K9 := Lib.hid k1
        clear k1
        have lt_0_N21 : 0 < N21 := by rw [← HN21.out]; exact RT.out.lt
        have lt_N1_N21 : N1 < N21 := by rw [← HN21.out]; exact KP.out.lt
        have lt_bv_N21 : bv < N21 := by rw [← HN21.out]; exact KV.out.lt
        have le_HB_N21 : w.heap.size ≤ N21 := by rw [← HN21.out]; exact HB.out.size
        have RTn := Lib.hid (RT.out.below b1 RT.out.lt)
        clear RT
        have RT := RTn
        clear RTn
        have KPn := Lib.hid (KP.out.below b1 KP.out.lt)
        clear KP
        have KP := KPn
        clear KPn
        have KVn := Lib.hid (KV.out.below b1 KV.out.lt)
        clear KV
        have KV := KVn
        clear KVn
        have HBn := Lib.hid (HB.out.trans (b1.mono HB.out.size))
        clear HB
        have HB := HBn
        clear HBn
        clear b1 HN21
        go_wp2_with (refine wpList_st rfl 78 (.tmp 9) (.tmp 43) rfl N21 0 rfl (.int .u64 (num : Int)) #[.int .u64 (num : Int)] rfl rfl info_u64c (one_u64 _) K9.out (Nat.le_of_ble_eq_true rfl) (C' := #[.int .u64 (num : Int)]) (by rfl) ?_; intro w30 q1; refine Hid.out ?_)
        refine Lib.hid ?_
        have RTn := Lib.hid (RT.out.far q1 (by omega))
        clear RT
        have RT := RTn
        clear RTn
        have KPn := Lib.hid (KP.out.far q1 (by omega))
        clear KP
        have KP := KPn
        clear KPn
        have KVn := Lib.hid (KV.out.far q1 (by omega))
        clear KV
        have KV := KVn
        clear KVn
        have HBn := Lib.hid (HB.out.trans (q1.2.1 _ (by omega)))
        clear HB
        have HB := HBn
        clear HBn
        have K9n : Hid (Blk 78 w30 N21 (#[.int .u64 (num : Int)])) := Lib.hid q1.1
        clear K9
        have K9 := K9n
        clear K9n q1
        have c9 : w30.cell? ⟨N21, 0, none⟩ = some (.int .u64 (num : Int)) := (K9.out.cell 0).trans rfl
        go_wp2_with fail
        refine (idxK_any A mk ck K N21 num w30 (HK.out.below HB.out) (by omega) c9).mono ?_
        rintro e w40 ⟨r2, rfl, hr2, b1⟩
        clear c9
        have RTn := Lib.hid (RT.out.below b1 RT.out.lt)
        clear RT
        have RT := RTn
        clear RTn
        have KPn := Lib.hid (KP.out.below b1 KP.out.lt)
        clear KP
        have KP := KPn
        clear KPn
        have KVn := Lib.hid (KV.out.below b1 KV.out.lt)
        clear KV
        have KV := KVn
        clear KVn
        have K9n := Lib.hid (K9.out.below b1 K9.out.lt)
        clear K9
        have K9 := K9n
        clear K9n
        have HBn := Lib.hid (HB.out.trans (b1.mono HB.out.size))
        clear HB
        have HB := HBn
        clear HBn
        clear b1
        rcases hr2 with ⟨f, rfl, hf⟩ | ⟨rfl, hf⟩
        · have HF := Lib.hid hf
          have hfm := hf.1
          clear hf
          have hf0 : (0 : Int) ≤ (f : Int) := by omega
          have hfk : (f : Int) < (mk : Int) := by omega
          obtain ⟨bk, ok, hA9, hrk⟩ := HK.out.1.row (by omega)
          have hrk2 := hrk.2 f hfm
          obtain ⟨t, htt⟩ : ∃ t, K f = t := ⟨_, rfl⟩
          rw [show kR K f = kC t from by unfold kR; rw [htt]] at hrk2
          have hbk := hrk.1
          have HKF := Lib.hid (HK.out.2 f hfm)
          rw [htt] at HKF
          have HTS : Hid (t.n ≤ 64) := Lib.hid (by rw [← htt]; exact HKS.out f hfm)
          have HTT := Lib.hid htt
          subst hA9
          have ck1 : Hid (w.cell? ⟨bk, ok + f * 2 + 1, none⟩ = some (.slice t.A t.n t.c)) := Lib.hid (hrk2 1 _ rfl)
          clear hrk hrk2 htt
          obtain ⟨M, hM⟩ : ∃ M, hmacZ t.z t.n (blkZ (p.kd = 18 ∨ p.kd = 20) z n) n = M := ⟨_, rfl⟩
          have HM := Lib.hid hM
          have HMB : Hid (∀ j, 0 ≤ M j ∧ M j ≤ 255) := Lib.hid (by rw [← hM]; exact dg_bd _)
          clear hM
          go_wp2_with fail
          refine wp_region_held_drew (S := fun w' => Rts w' 0  ∧ Blk 46 w' N1 (pdC p) ∧ Row8 w' bv ov 35 vz ∧ Blk 78 w' N21 (#[.int .u64 (num : Int)]) ∧ Below w.heap.size w w') (by kernel_rfl) ⟨RT.out, KP.out, KV.out, K9.out, HB.out.drew⟩ (fun hS => ?_)
          generalize hW201 : w40.drew = W201 at hS  ⊢
          clear hW201
          clear RT
          clear KP
          clear KV
          clear K9
          clear HB
          have RT := Lib.hid hS.1
          have KP := Lib.hid hS.2.1
          have KV := Lib.hid hS.2.2.1
          have K9 := Lib.hid hS.2.2.2.1
          have HB := Lib.hid hS.2.2.2.2
          refine takeY (i := 0) (some 48) (v := .int .i64 (f : Int)) rfl rfl (by kernel_rfl) (by kernel_rfl) (by kernel_rfl) (fun _ _ _ h => h) (by rfl) (fun w' hS => by go_simp) hS ?_
          simp only [Act.put, List.setIfInBounds_toArray, List.set_cons_zero, List.set_cons_succ]
          refine takeY (i := 1) (some 49) (v := .bool true) rfl rfl (by kernel_rfl) (by kernel_rfl) (by kernel_rfl) (fun _ _ _ h => h) (by rfl) (fun w' hS => by go_simp) hS ?_
          simp only [Act.put, List.setIfInBounds_toArray, List.set_cons_zero, List.set_cons_succ]
          refine takeY (i := 2) (some 50) (v := .bool true) rfl rfl (by kernel_rfl) (by kernel_rfl) (by kernel_rfl) (fun _ _ _ h => h) (by rfl) (fun w' hS => by go_simp) hS ?_
          simp only [Act.put, List.setIfInBounds_toArray, List.set_cons_zero, List.set_cons_succ]
          refine takeY (i := 3) (some 51) (v := .slice (some ⟨bv, ov, none⟩) 35 vc) rfl rfl (by kernel_rfl) (by kernel_rfl) (by kernel_rfl) (fun _ _ _ h => h) (by rfl) (fun w' hS => by go_simp) hS ?_
          simp only [Act.put, List.setIfInBounds_toArray, List.set_cons_zero, List.set_cons_succ]
          refine takeY (i := 4) (some 52) (v := .slice (some ⟨bv, ov + 3, none⟩) 32 (vc - 3)) rfl rfl (by kernel_rfl) (by kernel_rfl) (by kernel_rfl) (fun _ _ _ h => h) (by rfl) (fun w' hS => by exact slice_3 _ _ _ rfl bv ov vc rfl rfl hvc1 _) hS ?_
          simp only [Act.put, List.setIfInBounds_toArray, List.set_cons_zero, List.set_cons_succ]
          refine takeY (i := 5) (some 53) (v := .pointer (some ⟨bv, ov + 3, none⟩)) rfl rfl (by kernel_rfl) (by kernel_rfl) (by kernel_rfl) (fun _ _ _ h => h) (by rfl) (fun w' hS => by exact s2a_run _ _ _ rfl _ _ rfl _) hS ?_
          simp only [Act.put, List.setIfInBounds_toArray, List.set_cons_zero, List.set_cons_succ]
          refine takeL (i := 6) (some 54) 26 (.tmp 53) bv (ov + 3) (bytC 32 fun j => vz (3 + j)) _ rfl rfl (by kernel_rfl) (by kernel_rfl) (by kernel_rfl) (fun _ _ _ h => h) (by rfl) rfl rfl (fun w' hS => row_32 hS.2.2.1) Tryd.underlying26 rfl (info_dL _) hS ?_
          simp only [Act.put, List.setIfInBounds_toArray, List.set_cons_zero, List.set_cons_succ]
          refine takeY (i := 7) (some 55) (v := .slice B n c) rfl rfl (by kernel_rfl) (by kernel_rfl) (by kernel_rfl) (fun _ _ _ h => h) (by rfl) (fun w' hS => by go_simp) hS ?_
          simp only [Act.put, List.setIfInBounds_toArray, List.set_cons_zero, List.set_cons_succ]
          refine takeY (i := 8) (some 56) (v := .pointer (some ⟨N1, 0, none⟩)) rfl rfl (by kernel_rfl) (by kernel_rfl) (by kernel_rfl) (fun _ _ _ h => h) (by rfl) (fun w' hS => by go_simp) hS ?_
          simp only [Act.put, List.setIfInBounds_toArray, List.set_cons_zero, List.set_cons_succ]
          refine takeY (i := 9) (some 57) (v := .int .u8 p.kd) rfl rfl (by kernel_rfl) (by kernel_rfl) (by kernel_rfl) (fun _ _ _ h => h) (by rfl) (fun w' hS => by (have c9 : w'.cell? ⟨N1, 0, none⟩ = some (.int .u8 p.kd) := (hS.2.1.cell 0).trans rfl; clear hS; go_simp)) hS ?_
          simp only [Act.put, List.setIfInBounds_toArray, List.set_cons_zero, List.set_cons_succ]
          refine takeY (i := 10) (some 58) (v := .slice (some ⟨bk, ok, none⟩) mk ck) rfl rfl (by kernel_rfl) (by kernel_rfl) (by kernel_rfl) (fun _ _ _ h => h) (by rfl) (fun w' hS => by go_simp) hS ?_
          simp only [Act.put, List.setIfInBounds_toArray, List.set_cons_zero, List.set_cons_succ]
          refine takeY (i := 11) (some 59) (v := .int .i64 (f : Int)) rfl rfl (by kernel_rfl) (by kernel_rfl) (by kernel_rfl) (fun _ _ _ h => h) (by rfl) (fun w' hS => by go_simp) hS ?_
          simp only [Act.put, List.setIfInBounds_toArray, List.set_cons_zero, List.set_cons_succ]
          refine takeY (i := 12) (some 60) (v := .pointer (some ⟨bk, ok + f * 2, none⟩)) rfl rfl (by kernel_rfl) (by kernel_rfl) (by kernel_rfl) (fun _ _ _ h => h) (by rfl) (fun w' hS => by exact index_k _ _ _ _ rfl bk ok mk ck f rfl rfl hfm (by omega) _) hS ?_
          simp only [Act.put, List.setIfInBounds_toArray, List.set_cons_zero, List.set_cons_succ]
          refine takeY (i := 13) (some 61) (v := .pointer (some ⟨bk, ok + f * 2 + 1, none⟩)) rfl rfl (by kernel_rfl) (by kernel_rfl) (by kernel_rfl) (fun _ _ _ h => h) (by rfl) (fun w' hS => by go_simp) hS ?_
          simp only [Act.put, List.setIfInBounds_toArray, List.set_cons_zero, List.set_cons_succ]
          refine takeY (i := 14) (some 62) (v := .slice t.A t.n t.c) rfl rfl (by kernel_rfl) (by kernel_rfl) (by kernel_rfl) (fun _ _ _ h => h) (by rfl) (fun w' hS => by (have c9 := ((hS.2.2.2.2).cell (p := ⟨bk, ok + f * 2 + 1, none⟩) hbk).trans ck1.out; clear hS; go_simp)) hS ?_
          simp only [Act.put, List.setIfInBounds_toArray, List.set_cons_zero, List.set_cons_succ]
          have HRB := Lib.hid (HBB.out.below HB.out rfl)
          have HRS := Lib.hid (HKF.out.2.1.below HB.out rfl)
          refine takeCE (i := 15) (some 63) 41 #[.slice B n c, .int .u8 p.kd, .slice t.A t.n t.c] (R := fun v w' => v = .agg (bytC 32 M) ∧ Below W201.heap.size W201 w') rfl rfl (by kernel_rfl) (by rfl) (by go_simp) ((macOf_any B n c z p.kd t.A t.n t.c t.z W201 HRB.out HBN.out H54b.out HN2.out HRS.out HKF.out.2.2.1 HTS.out RT.out).mono fun e w' h => ⟨_, h.1, by rw [HM.out], h.2⟩) (fun v w' h => by obtain ⟨rfl, hb8⟩ := h; exact ⟨hS.1.below hb8 hS.1.lt, hS.2.1.below hb8 hS.2.1.lt, hS.2.2.1.below hb8 hS.2.2.1.lt, hS.2.2.2.1.below hb8 hS.2.2.2.1.lt, hS.2.2.2.2.trans (hb8.mono hS.2.2.2.2.size)⟩) (fun v W202 h hS2 => ?_)
          obtain ⟨rfl, hb8⟩ := h
          clear hS2
          simp only [Act.put, List.setIfInBounds_toArray, List.set_cons_zero, List.set_cons_succ]
          clear HRB HRS
          have RTn := Lib.hid (RT.out.below hb8 RT.out.lt)
          clear RT
          have RT := RTn
          clear RTn
          have KPn := Lib.hid (KP.out.below hb8 KP.out.lt)
          clear KP
          have KP := KPn
          clear KPn
          have KVn := Lib.hid (KV.out.below hb8 KV.out.lt)
          clear KV
          have KV := KVn
          clear KVn
          have K9n := Lib.hid (K9.out.below hb8 K9.out.lt)
          clear K9
          have K9 := K9n
          clear K9n
          have HBn := Lib.hid (HB.out.trans (hb8.mono HB.out.size))
          clear HB
          have HB := HBn
          clear HBn
          clear hb8 hS
          have hS := (And.intro RT.out (And.intro KP.out (And.intro KV.out (And.intro K9.out HB.out))))
          have HVB : Hid (∀ j, 0 ≤ vz (3 + j) ∧ vz (3 + j) ≤ 255) := Lib.hid (fun j => KV.out.2.2 _)
          obtain ⟨q, hq⟩ : ∃ q, eqD (fun j => vz (3 + j)) M 32 = q := ⟨_, rfl⟩
          have HQ := Lib.hid hq
          refine takeY (i := 16) (some 64) (v := .bool q) rfl rfl (by kernel_rfl) (by kernel_rfl) (by kernel_rfl) (fun _ _ _ h => h) (by rfl) (fun w' hS => by (rw [← hq]; exact eql_d _ _ _ _ rfl (fun j => vz (3 + j)) M HVB.out HMB.out rfl rfl _)) hS ?_
          simp only [Act.put, List.setIfInBounds_toArray, List.set_cons_zero, List.set_cons_succ]
          refine takeY (i := 17) (some 65) (v := .bool q) rfl rfl (by kernel_rfl) (by kernel_rfl) (by kernel_rfl) (fun _ _ _ h => h) (by rfl) (fun w' hS => by go_simp) hS ?_
          simp only [Act.put, List.setIfInBounds_toArray, List.set_cons_zero, List.set_cons_succ]
          refine takeY (i := 18) (some 6) (v := .bool q) rfl rfl (by kernel_rfl) (by kernel_rfl) (by kernel_rfl) (fun _ _ _ h => h) (by rfl) (fun w' hS => by go_simp) hS ?_
          simp only [Act.put, List.setIfInBounds_toArray, List.set_cons_zero, List.set_cons_succ]
          clear hq
          clear hS
          refine wpAnyH_done (by kernel_rfl) ?_ _
          go_wp2_with fail
          go_ret
          refine ⟨q, rfl, ?_, HB.out⟩
          cases q with
          | true => exact .inl ⟨rfl, by rw [hSg.out _ rfl]; exact ⟨HAT.out, by first | rfl | trivial, by first | rfl | trivial, f, HF.out, fun j hj => by rw [HTT.out, HM.out]; exact of_decide_eq_true (p := ∀ j, j < 32 → (fun j => vz (3 + j)) j = M j) HQ.out j hj⟩⟩
          | false => exact .inr ⟨rfl, fun h => by rw [hSg.out _ rfl] at h; obtain ⟨f2, h1, h2⟩ := h.2.2.2; rw [← fst_one HF.out h1, HTT.out, HM.out] at h2; exact of_decide_eq_false (p := ∀ j, j < 32 → (fun j => vz (3 + j)) j = M j) HQ.out h2⟩
        · have HF := Lib.hid hf
          clear hf
          have HNO : Hid (¬ Signed L p.m p.kd z n K mk) := Lib.hid (fun h => by rw [hSg.out _ rfl] at h; obtain ⟨f, h1, _⟩ := h.2.2.2; exact HF.out f h1.1 h1.2.1)
          go_wp2_with fail
          refine wp_region_held_drew (S := fun w' => Rts w' 0  ∧ Blk 46 w' N1 (pdC p) ∧ Row8 w' bv ov 35 vz ∧ Blk 78 w' N21 (#[.int .u64 (num : Int)]) ∧ Below w.heap.size w w') (by kernel_rfl) ⟨RT.out, KP.out, KV.out, K9.out, HB.out.drew⟩ (fun hS => ?_)
          generalize hW101 : w40.drew = W101 at hS  ⊢
          clear hW101
          clear RT
          clear KP
          clear KV
          clear K9
          clear HB
          have RT := Lib.hid hS.1
          have KP := Lib.hid hS.2.1
          have KV := Lib.hid hS.2.2.1
          have K9 := Lib.hid hS.2.2.2.1
          have HB := Lib.hid hS.2.2.2.2
          refine takeY (i := 0) (some 48) (v := .int .i64 (-1)) rfl rfl (by kernel_rfl) (by kernel_rfl) (by kernel_rfl) (fun _ _ _ h => h) (by rfl) (fun w' hS => by go_simp) hS ?_
          simp only [Act.put, List.setIfInBounds_toArray, List.set_cons_zero, List.set_cons_succ]
          refine takeY (i := 1) (some 49) (v := .bool false) rfl rfl (by kernel_rfl) (by kernel_rfl) (by kernel_rfl) (fun _ _ _ h => h) (by rfl) (fun w' hS => by go_simp) hS ?_
          simp only [Act.put, List.setIfInBounds_toArray, List.set_cons_zero, List.set_cons_succ]
          refine takeY (i := 2) (some 50) (v := .bool false) rfl rfl (by kernel_rfl) (by kernel_rfl) (by kernel_rfl) (fun _ _ _ h => h) (by rfl) (fun w' hS => by go_simp) hS ?_
          simp only [Act.put, List.setIfInBounds_toArray, List.set_cons_zero, List.set_cons_succ]
          refine takeN (i := 3) (some 51) rfl rfl (by kernel_rfl) (by kernel_rfl) (by kernel_rfl) (fun _ _ _ h => h) (by rfl) hS ?_
          simp only [Act.put, List.setIfInBounds_toArray, List.set_cons_zero, List.set_cons_succ]
          refine takeN (i := 4) (some 52) rfl rfl (by kernel_rfl) (by kernel_rfl) (by kernel_rfl) (fun _ _ _ h => h) (by rfl) hS ?_
          simp only [Act.put, List.setIfInBounds_toArray, List.set_cons_zero, List.set_cons_succ]
          refine takeN (i := 5) (some 53) rfl rfl (by kernel_rfl) (by kernel_rfl) (by kernel_rfl) (fun _ _ _ h => h) (by rfl) hS ?_
          simp only [Act.put, List.setIfInBounds_toArray, List.set_cons_zero, List.set_cons_succ]
          refine takeN (i := 6) (some 54) rfl rfl (by kernel_rfl) (by kernel_rfl) (by kernel_rfl) (fun _ _ _ h => h) (by rfl) hS ?_
          simp only [Act.put, List.setIfInBounds_toArray, List.set_cons_zero, List.set_cons_succ]
          refine takeN (i := 7) (some 55) rfl rfl (by kernel_rfl) (by kernel_rfl) (by kernel_rfl) (fun _ _ _ h => h) (by rfl) hS ?_
          simp only [Act.put, List.setIfInBounds_toArray, List.set_cons_zero, List.set_cons_succ]
          refine takeN (i := 8) (some 56) rfl rfl (by kernel_rfl) (by kernel_rfl) (by kernel_rfl) (fun _ _ _ h => h) (by rfl) hS ?_
          simp only [Act.put, List.setIfInBounds_toArray, List.set_cons_zero, List.set_cons_succ]
          refine takeN (i := 9) (some 57) rfl rfl (by kernel_rfl) (by kernel_rfl) (by kernel_rfl) (fun _ _ _ h => h) (by rfl) hS ?_
          simp only [Act.put, List.setIfInBounds_toArray, List.set_cons_zero, List.set_cons_succ]
          refine takeN (i := 10) (some 58) rfl rfl (by kernel_rfl) (by kernel_rfl) (by kernel_rfl) (fun _ _ _ h => h) (by rfl) hS ?_
          simp only [Act.put, List.setIfInBounds_toArray, List.set_cons_zero, List.set_cons_succ]
          refine takeN (i := 11) (some 59) rfl rfl (by kernel_rfl) (by kernel_rfl) (by kernel_rfl) (fun _ _ _ h => h) (by rfl) hS ?_
          simp only [Act.put, List.setIfInBounds_toArray, List.set_cons_zero, List.set_cons_succ]
          refine takeN (i := 12) (some 60) rfl rfl (by kernel_rfl) (by kernel_rfl) (by kernel_rfl) (fun _ _ _ h => h) (by rfl) hS ?_
          simp only [Act.put, List.setIfInBounds_toArray, List.set_cons_zero, List.set_cons_succ]
          refine takeN (i := 13) (some 61) rfl rfl (by kernel_rfl) (by kernel_rfl) (by kernel_rfl) (fun _ _ _ h => h) (by rfl) hS ?_
          simp only [Act.put, List.setIfInBounds_toArray, List.set_cons_zero, List.set_cons_succ]
          refine takeN (i := 14) (some 62) rfl rfl (by kernel_rfl) (by kernel_rfl) (by kernel_rfl) (fun _ _ _ h => h) (by rfl) hS ?_
          simp only [Act.put, List.setIfInBounds_toArray, List.set_cons_zero, List.set_cons_succ]
          refine takeN (i := 15) (some 63) rfl rfl (by kernel_rfl) (by kernel_rfl) (by kernel_rfl) (fun _ _ _ h => h) (by rfl) hS ?_
          simp only [Act.put, List.setIfInBounds_toArray, List.set_cons_zero, List.set_cons_succ]
          refine takeN (i := 16) (some 64) rfl rfl (by kernel_rfl) (by kernel_rfl) (by kernel_rfl) (fun _ _ _ h => h) (by rfl) hS ?_
          simp only [Act.put, List.setIfInBounds_toArray, List.set_cons_zero, List.set_cons_succ]
          refine takeY (i := 17) (some 65) (v := .bool false) rfl rfl (by kernel_rfl) (by kernel_rfl) (by kernel_rfl) (fun _ _ _ h => h) (by rfl) (fun w' hS => by go_simp) hS ?_
          simp only [Act.put, List.setIfInBounds_toArray, List.set_cons_zero, List.set_cons_succ]
          refine takeY (i := 18) (some 6) (v := .bool false) rfl rfl (by kernel_rfl) (by kernel_rfl) (by kernel_rfl) (fun _ _ _ h => h) (by rfl) (fun w' hS => by go_simp) hS ?_
          simp only [Act.put, List.setIfInBounds_toArray, List.set_cons_zero, List.set_cons_succ]
          clear hS
          refine wpAnyH_done (by kernel_rfl) ?_ _
          go_wp2_with fail
          go_ret
          exact ⟨false, rfl, .inr ⟨rfl, HNO.out⟩, HB.out⟩
      · have h3b : (v0 != 3) = true := by simpa using h3
        have H3 := Lib.hid h3
        clear h3
        have HNO : Hid (¬ Signed L p.m p.kd z n K mk) := Lib.hid (fun h => by rw [hSg.out _ rfl] at h; exact H3.out h.2.2.1)
        go_wp2_with fail
        go_ret
        exact ⟨false, rfl, .inr ⟨rfl, HNO.out⟩, HB.out⟩
    · have h35b : ((vn : Int) != 35) = true := by simp; omega
      have H35 := Lib.hid h35
      clear h35
      have HNO : Hid (¬ Signed L p.m p.kd z n K mk) := Lib.hid (fun h => by rw [hSg.out _ rfl] at h; exact H35.out h.2.1)
      go_wp2_with fail
      go_ret
      exact ⟨false, rfl, .inr ⟨rfl, HNO.out⟩, HB.out⟩
  · have hqb : (r != (l : Int)) = true := by simpa using hq
    have HQ := Lib.hid hq
    clear hq
    have HNO : Hid (¬ Signed L p.m p.kd z n K mk) := Lib.hid (fun h => by rw [hSg.out _ rfl] at h; rcases HRR.out with ⟨k, e1, h1⟩ | ⟨e1, h1⟩; exact HQ.out (by rw [e1, atSig_one h1 h.1]); exact h1 l h.1.1 h.1.2.1)
    go_wp2_with fail
    go_ret
    exact ⟨false, rfl, .inr ⟨rfl, HNO.out⟩, HB.out⟩
/-- is a packet signed? for every packet that was read, and every few keys -/
theorem macSigned_any (p : Pd) (L : Nat → It) (B : Option Addr) (n c : Nat) (z : Nat → Int) (A : Option Addr) (mk ck : Nat) (K : Nat → It) (w : World) (hm9 : p.m ≤ 1000) (hR : RdT w p.A p.m L) (hB : Rd w B n z) (hBn : B = none → n = 0 ∧ c = 0) (hn2 : n ≤ 1492) (h54 : 0 < p.m → (L (p.m - 1)).n = 35 → 54 ≤ n) (hcv : 0 < p.m → (L (p.m - 1)).n ≤ (L (p.m - 1)).c ∧ (L (p.m - 1)).c ≤ maxLen)
    (hK : RdK w A mk K) (hmk : mk ≤ 8) (hs : ∀ j, j < mk → (K j).n ≤ 64) (hg : Rts w 0) :
    Calls Tryd.prog 47 #[.slice B n c, .agg (pdC p), .slice A mk ck] w (SgnP L p.m p.kd z n K mk w) := by
  rcases Nat.eq_zero_or_pos p.m with h0 | hpos
  · have HNO : Hid (¬ Signed L p.m p.kd z n K mk) := Lib.hid (fun h => by have := h.1; omega)
    have hm0 : (p.m : Int) - 1 < 0 := by omega
    have hm1 : (p.m : Int) = 0 := by omega
    have H0 := Lib.hid h0
    clear hm9 hR hB hBn hn2 h54 hcv hK hmk hs hg h0
    go_enter Tryd.func47, Tryd.ntmps47
    have HB := Lib.hid (Below.refl w.heap.size w)
    obtain ⟨N1, hN1⟩ : ∃ N, w.heap.size = N := ⟨_, rfl⟩
    have HN1 := Lib.hid hN1
    clear hN1
    go_wp2_with (refine wpList_box (op := ⟨some 4, _, _, _, _, _⟩) rfl 46 (.tmp 1) rfl (pdC p) rfl N1 HN1.out ?_; intro w1 k1 b1 s1; refine Hid.out ?_)
    refine Lib.hid ?_
    have K1 := Lib.hid k1
    clear k1
    have HBn := Lib.hid (HB.out.trans (b1.mono HB.out.size))
    clear HB b1 HN1
    have cp : w1.cell? ⟨N1, 46, none⟩ = some (.slice p.A 0 p.c) := (K1.out.cell 46).trans (by rw [pd_46, H0.out])
    go_wp2_with fail
    go_ret
    exact ⟨false, rfl, .inr ⟨rfl, HNO.out⟩, HBn.out⟩
  · exact isSigned_at p L B n c z A mk ck K w hpos hm9 hR hB hBn hn2 (h54 hpos) (hcv hpos) hK hmk hs hg
end Go.Proofs.YtccoicjmmeoggaaDoor

/- mac.Open: what it answers, for all bytes and keys. Each theorem states its conditions. -/
namespace Go.Proofs.YtccoicjmmeoggaaDoor
open Go.RowKit
set_option linter.unusedVariables false
set_option linter.unusedSimpArgs false

/-- the items that bytes tell -/
def itL (q : Nat) (z : Nat → Int) : Nat → It := fun j => itZ (tlZ q z) j 0 0
theorem itL_al {q : Nat} {z : Nat → Int} {L : Nat → It} {m : Nat} (h : IsItZ (tlZ q z) L m) : ∀ j, j < m → Alike (itL q z j) (L j) := fun j hj => by
  obtain ⟨g, cap, e⟩ := h j hj
  rw [e]
  exact ⟨rfl, rfl, rfl⟩
theorem signed_al {L L2 : Nat → It} {m : Nat} {kd : Int} {z : Nat → Int} {n : Nat} {K : Nat → It} {mk : Nat} (h : ∀ j, j < m → Alike (L j) (L2 j)) : Signed L m kd z n K mk ↔ Signed L2 m kd z n K mk := by
  unfold Signed
  constructor
  · rintro ⟨h0, ⟨h1, h2, h3⟩, h4, h5, h6⟩
    obtain ⟨a1, a2, a3⟩ := h (m - 1) h1
    exact ⟨h0, ⟨h1, a1 ▸ h2, fun j hj => by rw [← (h j (by omega)).1]; exact h3 j hj⟩, a2 ▸ h4, a3 ▸ h5, a3 ▸ h6⟩
  · rintro ⟨h0, ⟨h1, h2, h3⟩, h4, h5, h6⟩
    obtain ⟨a1, a2, a3⟩ := h (m - 1) h1
    exact ⟨h0, ⟨h1, a1 ▸ h2, fun j hj => by rw [(h j (by omega)).1]; exact h3 j hj⟩, a2 ▸ h4, a3 ▸ h5, a3 ▸ h6⟩
theorem sz_2 (L : Nat → It) (m : Nat) : 2 * m ≤ sz L m := by
  induction m with
  | zero => exact Nat.zero_le _
  | succ m ih => simp only [sz]; omega
theorem sz_last {L : Nat → It} {m : Nat} (h : 0 < m) : (L (m - 1)).n + 2 ≤ sz L m := by
  obtain ⟨l, rfl⟩ : ∃ l, m = l + 1 := ⟨m - 1, by omega⟩
  simp only [sz, Nat.add_sub_cancel]
  omega
theorem build_pd0 (o : Oper) (e : Operand → Value) (ho : o.op = .build 46 #[]) (W : World) : (execOp e o).run Tryd.prog W = .ok (.value (.agg (pdC pd0))) W := by
  unfold execOp
  simp only [ho]
  kernel_rfl
theorem OwnT.farT {w w' : World} {base m b : Nat} {v : Value} {L : Nat → It} {C C0 : Array Value} {t : TypeId} (h : OwnT w base v m L) (hb : Blk 46 w b C0) (hs : Stored w w' b C t) : OwnT w' base v m L := by
  refine ⟨⟨h.1.1, ?_⟩, fun j hj => ?_⟩
  · rcases h.1.2 with h1 | ⟨g, cap, cur, hv, hg, hc, r⟩
    · exact .inl h1
    · refine .inr ⟨g, cap, cur, hv, hg, (hs.2.2 g fun e => ?_).trans hc, r⟩
      subst e
      have hb' : w.heap[g]? = _ := hb
      rw [hc] at hb'
      injection hb' with hb'
      injection hb' with _ hb' _
      exact absurd hb' (by decide)
  · obtain ⟨h1, h2, g, h3, h4, h5⟩ := h.2 j hj
    refine ⟨h1, h2, g, h3, h4, h5.block (hs.2.2 g fun e => ?_)⟩
    subst e
    obtain ⟨⟨cur, hc, _⟩, _⟩ := h5
    have hb' : w.heap[g]? = _ := hb
    rw [hc] at hb'
    injection hb' with hb'
    injection hb' with _ hb' _
    exact absurd hb' (by decide)
theorem OwnT.drop1 {w w' : World} {base m k : Nat} {v v' : Value} {L : Nat → It} (h : OwnT w base v m L) (hk : k ≤ m) (hr : w'.ownsRow base 49 2 v' (0 + k) ([] ++ cellsT L k)) (hb : Below w.heap.size w w') : OwnT w' base v' k L := by
  rw [Nat.zero_add, List.nil_append] at hr
  exact ⟨hr, fun j hj => (h.2 j (by omega)).below hb⟩
theorem ownV_caps {w : World} {base : Nat} {t : It} (h : OwnV w base t) : t.n ≤ t.c ∧ t.c ≤ maxLen := by
  obtain ⟨_, _, g, _, _, h5⟩ := h
  exact h5.caps
/-- what Open answers where the packet was read -/
def OpnP (q m n : Nat) (z : Nat → Int) (K : Nat → It) (mk : Nat) (w : World) (e : Ending) (w' : World) : Prop :=
  (keysE K mk ≠ 0 ∧ RdErr w (keysE K mk) e w') ∨ (keysE K mk = 0 ∧ mk = 0 ∧ RdOk w q z m e w') ∨
  (keysE K mk = 0 ∧ 0 < mk ∧ Signed (itL q z) m (z 4) z n K mk ∧ RdOk w q z (m - 1) e w') ∨ (keysE K mk = 0 ∧ 0 < mk ∧ ¬ Signed (itL q z) m (z 4) z n K mk ∧ RdErr w 9 e w')
theorem keysE_zero {K : Nat → It} {m : Nat} (h : keysE K m = 0) : m ≤ 8 ∧ ∀ j, j < m → 0 < (K j).n ∧ (K j).n ≤ 64 := by
  unfold keysE at h
  split at h
  · omega
  · refine ⟨by omega, ?_⟩
    have : ∀ k, ckE K k = 0 → ∀ j, j < k → 0 < (K j).n ∧ (K j).n ≤ 64 := by
      intro k
      induction k with
      | zero => intro _ j hj; omega
      | succ k ih =>
        intro hk j hj
        obtain ⟨h1, h2⟩ := lea_zero hk
        by_cases e : j = k
        · subst e; exact secE_zero h2
        · exact ih h1 j (by omega)
    exact this m h
theorem good_sz {z : Nat → Int} {n m q : Nat} {L : Nat → It} (h : GoodZ z n m) (hq : cls (z 4) = q) (hI : IsItZ (tlZ q z) L m) : sz L m + hdN q = n ∧ 17 ≤ hdN q := by
  subst hq
  have h1 := sz_it hI m (Nat.le_refl _)
  have h2 := h.2.2.2.1
  have h3 := h.1.2.2.1
  have h4 := hdN_bd (cls (z 4)) h.1.2.1
  omega
theorem slice_o (o : Oper) (e : Operand → Value) (x y : Operand) (ho : o.op = .slice 40 x none (some y) none) (g off m n c : Nat) (h0 : e x = .slice (some ⟨g, off, none⟩) n c) (h1 : e y = .int .i64 (m : Int)) (hm : m ≤ c) (W : World) :
    (execOp e o).run Tryd.prog W = .ok (.value (.slice (some ⟨g, off, none⟩) m c)) W := by
  unfold execOp
  simp only [ho, h0, h1, Option.map_none, Option.map_some]
  have e3 : ¬ ((c : Int) < (m : Int)) := by omega
  have e4 : ¬ (c < m) := by omega
  simp [go_sem, e3, e4]
set_option maxHeartbeats 8000000 in
set_option maxRecDepth 100000 in
theorem open_yes (B : Option Addr) (n c : Nat) (z : Nat → Int) (A : Option Addr) (mk ck : Nat) (K : Nat → It) (q m : Nat) (w : World) (hq : cls (z 4) = q) (hgood : GoodZ z n m) (hn2 : n ≤ 1492) (hrd : ∀ w, Rd w B n z → Calls Tryd.prog 45 #[.slice B n c] w (RdOk w q z m)) (hB : Rd w B n z) (hBn : B = none → n = 0 ∧ c = 0) (hK : RdK w A mk K) (hg : Rts w 0) :
    Calls Tryd.prog 22 #[.slice B n c, .slice A mk ck] w (OpnP q m n z K mk w) := by
  have HRD := Lib.hid hrd
  have HBB := Lib.hid hB
  have HBN := Lib.hid hBn
  have HN2 := Lib.hid hn2
  have HK := Lib.hid hK
  have HG := Lib.hid hgood
  have HQ := Lib.hid hq
  have RT := Lib.hid hg
  have hg9 := hg.2
  clear hrd hB hBn hK hgood hq hg hn2
  go_enter Tryd.func22, Tryd.ntmps22
  have HB := Lib.hid (Below.refl w.heap.size w)
  obtain ⟨N1, hN1⟩ : ∃ N, w.heap.size = N := ⟨_, rfl⟩
  have HN1 := Lib.hid hN1
  clear hN1
  go_wp2_with (refine wpList_new (op := ⟨some 4, _, _, _, _, _⟩) rfl 46 rfl (pdC pd0) zero_pdP N1 HN1.out ?_; intro w1 k1 b1 s1; refine Hid.out ?_)
  refine Lib.hid ?_
  have K4 := Lib.hid k1
  clear k1
  have lt_0_N1 : 0 < N1 := by rw [← HN1.out]; exact RT.out.lt
  have le_HB_N1 : w.heap.size ≤ N1 := by rw [← HN1.out]; exact HB.out.size
  have RTn := Lib.hid (RT.out.below b1 RT.out.lt)
  clear RT
  have RT := RTn
  clear RTn
  have HBn := Lib.hid (HB.out.trans (b1.mono HB.out.size))
  clear HB
  have HB := HBn
  clear HBn
  clear b1 HN1
  go_wp2_with fail
  refine (HRD.out w1 (HBB.out.below HB.out rfl)).mono ?_
  rintro e w10 ⟨A7, c7, L, rfl, ho, hI, hA7, hc71, hc72, b1⟩
  have HO : Hid (OwnT w10 w.heap.size (.slice A7 m c7) m L) := Lib.hid (ho.le HB.out.size)
  have HI := Lib.hid hI
  have HA7 := Lib.hid (And.intro hA7 (And.intro hc71 hc72))
  clear ho hI hA7 hc71 hc72
  have RTn := Lib.hid (RT.out.below b1 RT.out.lt)
  clear RT
  have RT := RTn
  clear RTn
  have K4n := Lib.hid (K4.out.below b1 K4.out.lt)
  clear K4
  have K4 := K4n
  clear K4n
  have HBn := Lib.hid (HB.out.trans (b1.mono HB.out.size))
  clear HB
  have HB := HBn
  clear HBn
  clear b1
  have HPK : Hid ((withT (rdP q z) A7 m c7).kd = z 4) := Lib.hid (rdP_kd q z)
  obtain ⟨p, hp⟩ : ∃ p, withT (rdP q z) A7 m c7 = p := ⟨_, rfl⟩
  have HP := Lib.hid hp
  have hpA : p.A = A7 := by rw [← hp]; rfl
  have hpm : p.m = m := by rw [← hp]; rfl
  have hpc : p.c = c7 := by rw [← hp]; rfl
  have hpk : p.kd = z 4 := by rw [← hp]; exact HPK.out
  rw [hp]
  have HPA := Lib.hid (And.intro hpA (And.intro hpm (And.intro hpc hpk)))
  clear hp hpA hpm hpc hpk HPK
  obtain ⟨N11, hN11⟩ : ∃ N, w10.heap.size = N := ⟨_, rfl⟩
  have HN11 := Lib.hid hN11
  clear hN11
  go_wp2_with (refine wpList_new (op := ⟨some 6, _, _, _, _, _⟩) rfl 46 rfl (pdC pd0) zero_pdP N11 HN11.out ?_; intro w11 k1 b1 s1; refine Hid.out ?_)
  refine Lib.hid ?_
  have K6 := Lib.hid k1
  have HO2 := Lib.hid (OwnT.below HO.out b1)
  clear k1
  have lt_0_N11 : 0 < N11 := by rw [← HN11.out]; exact RT.out.lt
  have lt_N1_N11 : N1 < N11 := by rw [← HN11.out]; exact K4.out.lt
  have le_HB_N11 : w.heap.size ≤ N11 := by rw [← HN11.out]; exact HB.out.size
  have RTn := Lib.hid (RT.out.below b1 RT.out.lt)
  clear RT
  have RT := RTn
  clear RTn
  have K4n := Lib.hid (K4.out.below b1 K4.out.lt)
  clear K4
  have K4 := K4n
  clear K4n
  have HBn := Lib.hid (HB.out.trans (b1.mono HB.out.size))
  clear HB
  have HB := HBn
  clear HBn
  clear b1 HN11
  go_wp2_with (refine wpList_st rfl 46 (.tmp 6) (.tmp 11) rfl N11 0 rfl (.agg (pdC p)) (pdC p) rfl rfl info_pdP (pdC_one _) K6.out (Nat.le_of_ble_eq_true rfl) (C' := pdC p) (pd_over _ _) ?_; intro w20 q1; refine Hid.out ?_)
  refine Lib.hid ?_
  have HO3 := Lib.hid (OwnT.farT HO2.out K6.out q1)
  have RTn := Lib.hid (RT.out.far q1 (by omega))
  clear RT
  have RT := RTn
  clear RTn
  have K4n := Lib.hid (K4.out.far q1 (by omega))
  clear K4
  have K4 := K4n
  clear K4n
  have HBn := Lib.hid (HB.out.trans (q1.2.1 _ (by omega)))
  clear HB
  have HB := HBn
  clear HBn
  have K6n : Hid (Blk 46 w20 N11 (pdC p)) := Lib.hid q1.1
  clear K6
  have K6 := K6n
  clear K6n q1
  clear HO HO2
  have HO := HO3
  clear HO3
  go_wp2_with fail
  have BK := keysE_bd K mk
  refine (checkKeys_any A mk ck K w20 (HK.out.below HB.out)).mono ?_
  rintro e w30 ⟨rfl, b1⟩
  have HO3 := Lib.hid (OwnT.below HO.out b1)
  clear HO
  have HO := HO3
  clear HO3
  have RTn := Lib.hid (RT.out.below b1 RT.out.lt)
  clear RT
  have RT := RTn
  clear RTn
  have K4n := Lib.hid (K4.out.below b1 K4.out.lt)
  clear K4
  have K4 := K4n
  clear K4n
  have K6n := Lib.hid (K6.out.below b1 K6.out.lt)
  clear K6
  have K6 := K6n
  clear K6n
  have HBn := Lib.hid (HB.out.trans (b1.mono HB.out.size))
  clear HB
  have HB := HBn
  clear HBn
  clear b1
  go_wp2_with fail
  refine (least_any 0 (keysE K mk) w30 (by decide) (by omega)).mono ?_
  rintro e w31 ⟨rfl, rfl⟩
  rw [show lea 0 (keysE K mk) = keysE K mk from if_pos rfl]
  obtain ⟨X, hX⟩ : ∃ X, keysE K mk = X := ⟨_, rfl⟩
  rw [hX]
  have HX := Lib.hid hX
  clear BK
  by_cases hX0 : X = 0
  · subst hX0
    have hXb : ((0 : Int) != 0) = false := rfl
    clear hX
    obtain ⟨hk8, hks⟩ := keysE_zero HX.out
    have HKS := Lib.hid hks
    clear hks
    by_cases hk0 : mk = 0
    · subst hk0
      go_wp2_with (refine wpList_ld (op := ⟨some 26, _, _, _, _, _⟩) (by rfl) 46 (.tmp 6) rfl N11 0 rfl (pdC p) _ K6.out.all Tryd.underlying46 rfl info_pdP ?_; refine Hid.out ?_)
      refine Lib.hid ?_
      go_wp2_with (refine wpList_st rfl 46 (.tmp 4) (.tmp 26) rfl N1 0 rfl (.agg (pdC p)) (pdC p) rfl rfl info_pdP (pdC_one _) K4.out (Nat.le_of_ble_eq_true rfl) (C' := pdC p) (pd_over _ _) ?_; intro w40 q1; refine Hid.out ?_)
      refine Lib.hid ?_
      have HO3 := Lib.hid (OwnT.farT HO.out K4.out q1)
      have RTn := Lib.hid (RT.out.far q1 (by omega))
      clear RT
      have RT := RTn
      clear RTn
      have K6n := Lib.hid (K6.out.far q1 (by omega))
      clear K6
      have K6 := K6n
      clear K6n
      have HBn := Lib.hid (HB.out.trans (q1.2.1 _ (by omega)))
      clear HB
      have HB := HBn
      clear HBn
      have K4n : Hid (Blk 46 w40 N1 (pdC p)) := Lib.hid q1.1
      clear K4
      have K4 := K4n
      clear K4n q1
      clear HO
      have HO := HO3
      clear HO3
      go_wp2_with fail
      exact bodyPost_ret (results_2 rfl _ _ N1 (pdC (p)) (.int .i64 0) Tryd.underlying46 rfl info_pdP rfl rfl K4.out) rfl (.inr (.inl ⟨HX.out, rfl, ⟨A7, c7, L, by rw [HP.out], (HO.out), HI.out, HA7.out.1, HA7.out.2.1, HA7.out.2.2, HB.out⟩⟩))
    · have hkb : ((mk : Int) == 0) = false := by simp; omega
      have hkp : 0 < mk := by omega
      clear hk0
      go_wp2_with (refine wpList_ld (op := ⟨some 29, _, _, _, _, _⟩) (by rfl) 46 (.tmp 6) rfl N11 0 rfl (pdC p) _ K6.out.all Tryd.underlying46 rfl info_pdP ?_; refine Hid.out ?_)
      refine Lib.hid ?_
      go_wp2_with fail
      have hRT : RdT w31 p.A p.m L := by rw [HPA.out.1, HPA.out.2.1]; obtain ⟨A8, c8, e8, _, _, _, h8⟩ := HO.out.shape; injection e8 with e8 _ _; rw [e8]; exact h8
      have hps : sz L m + hdN q = n ∧ 17 ≤ hdN q := good_sz HG.out HQ.out HI.out
      have hm9 : p.m ≤ 1000 := by rw [HPA.out.2.1]; have := sz_2 L m; have := HN2.out; omega
      have hmp : p.m = m := HPA.out.2.1
      have h54 : 0 < p.m → (L (p.m - 1)).n = 35 → 54 ≤ n := fun h0 h1 => by rw [hmp] at h0 h1; have := sz_last (L := L) h0; omega
      have hcv : 0 < p.m → (L (p.m - 1)).n ≤ (L (p.m - 1)).c ∧ (L (p.m - 1)).c ≤ maxLen := fun h0 => by rw [hmp] at h0 ⊢; exact ownV_caps (HO.out.2 (m - 1) (by omega))
      have HSG := Lib.hid (macSigned_any p L B n c z A mk ck K w31 hm9 hRT (HBB.out.below HB.out rfl) HBN.out HN2.out h54 hcv (HK.out.below HB.out) hk8 (fun j hj => (HKS.out j hj).2) RT.out)
      have hm92 : m ≤ 1000 := by omega
      clear hRT hps hm9 hmp h54 hcv
      refine HSG.out.mono ?_
      rintro e w50 ⟨r, rfl, hr, b1⟩
      clear HSG
      have hr2 : (r = true ∧ Signed (itL q z) m (z 4) z n K mk) ∨ (r = false ∧ ¬ Signed (itL q z) m (z 4) z n K mk) := by rw [HPA.out.2.1, HPA.out.2.2.2, ← signed_al (itL_al HI.out)] at hr; exact hr
      have HR2 := Lib.hid hr2
      clear hr hr2
      have HO3 := Lib.hid (OwnT.below HO.out b1)
      clear HO
      have HO := HO3
      clear HO3
      have RTn := Lib.hid (RT.out.below b1 RT.out.lt)
      clear RT
      have RT := RTn
      clear RTn
      have K4n := Lib.hid (K4.out.below b1 K4.out.lt)
      clear K4
      have K4 := K4n
      clear K4n
      have K6n := Lib.hid (K6.out.below b1 K6.out.lt)
      clear K6
      have K6 := K6n
      clear K6n
      have HBn := Lib.hid (HB.out.trans (b1.mono HB.out.size))
      clear HB
      have HB := HBn
      clear HBn
      clear b1
      cases r with
      | false =>
        go_wp2_with (refine wpList_v (op := ⟨some 33, _, _, _, _, _⟩) rfl (.agg (pdC pd0)) (build_pd0 _ _ rfl _) ?_; refine Hid.out ?_)
        refine Lib.hid ?_
        go_wp2_with (refine wpList_st rfl 46 (.tmp 4) (.tmp 33) rfl N1 0 rfl (.agg (pdC pd0)) (pdC pd0) rfl rfl info_pdP (pdC_one _) K4.out (Nat.le_of_ble_eq_true rfl) (C' := pdC pd0) (pd_over _ _) ?_; intro w60 q1; refine Hid.out ?_)
        refine Lib.hid ?_
        have RTn := Lib.hid (RT.out.far q1 (by omega))
        clear RT
        have RT := RTn
        clear RTn
        have K6n := Lib.hid (K6.out.far q1 (by omega))
        clear K6
        have K6 := K6n
        clear K6n
        have HBn := Lib.hid (HB.out.trans (q1.2.1 _ (by omega)))
        clear HB
        have HB := HBn
        clear HBn
        have K4n : Hid (Blk 46 w60 N1 (pdC pd0)) := Lib.hid q1.1
        clear K4
        have K4 := K4n
        clear K4n q1
        go_wp2_with fail
        exact bodyPost_ret (results_2 rfl _ _ N1 (pdC (pd0)) (.int .i64 9) Tryd.underlying46 rfl info_pdP rfl rfl K4.out) rfl (.inr (.inr (.inr ⟨HX.out, hkp, (HR2.out.resolve_left (fun h => by cases h.1)).2, rfl, HB.out⟩)))
      | true =>
        have hsg := (HR2.out.resolve_right (fun h => by cases h.1)).2
        have hm0 : 0 < m := hsg.1
        have HSG := Lib.hid hsg
        clear hsg
        obtain ⟨l, hl⟩ : ∃ l, m = l + 1 := ⟨m - 1, by omega⟩
        have HL := Lib.hid hl
        have cp : w50.cell? ⟨N11, 46, none⟩ = some (.slice A7 m c7) := (K6.out.cell 46).trans (by rw [pd_46, HPA.out.1, HPA.out.2.1, HPA.out.2.2.1])
        obtain ⟨A8, c8, e8, h81, h82, h83, h84⟩ := HO.out.shape
        injection e8 with e81 e82 e83
        subst e81 e83
        obtain ⟨b7, o7, rfl, hrow⟩ := h84.row (by omega)
        have HRL : Hid (RdT w50 (some ⟨b7, o7, none⟩) l L) := Lib.hid (.inr ⟨b7, o7, rfl, hrow.1, fun j hj => hrow.2 j (by omega)⟩)
        have hl9 : l ≤ 1000 := by omega
        have hlc : l ≤ c7 := by omega
        have hlc2 : c7 ≤ 9223372036854775807 := h82
        clear e82 h81 h82 h83 h84 hrow hl
        go_wp2_with (refine wpList_v (op := ⟨some 39, _, _, _, _, _⟩) rfl (.int .i64 (l : Int)) (run_m1 _ _ _ _ _ _ rfl m l rfl rfl HL.out (by omega) _) ?_; refine Hid.out ?_)
        refine Lib.hid ?_
        go_wp2_with (refine wpList_v (op := ⟨some 40, _, _, _, _, _⟩) rfl (.slice (some ⟨b7, o7, none⟩) l c7) (slice_o _ _ _ _ rfl b7 o7 l m c7 rfl rfl hlc _) ?_; refine Hid.out ?_)
        refine Lib.hid ?_
        clear cp
        obtain ⟨i0, hi, hz0, hz1, hz2⟩ := info_parts info_tlv
        go_wp2_with (at_builtin; refine wpList_append_any rfl (.const (.slice none 0 0)) (.tmp 40) 40 rfl w.heap.size 49 i0 _ 2 32 Tryd.underlying40 hi hz0 hz1 hz2 rfl (by decide) _ 0 [] rfl (World.ownsRow_nil _ _ _ _) (some ⟨b7, o7, none⟩) l c7 (cellsT L l) rfl (cellsT_len _ _) (fun e => by cases e) (rdT_news HRL.out) (cellsT_one _ _) (by unfold maxLen; omega) (by omega) HB.out.size ?_; intro v41 w60 ho hgr; refine Hid.out ?_)
        refine Lib.hid ?_
        have b1 : Below w50.heap.size w50 w60 := (Below.refl _ _).grown hgr (Nat.le_refl _) (fun x e => by cases e)
        have hod := OwnT.drop1 HO.out (by have := HL.out; omega) ho b1
        have HO3 := Lib.hid hod
        clear HO
        have HO := HO3
        clear HO3 ho hgr hod HRL hi hz0 hz1 hz2
        have RTn := Lib.hid (RT.out.below b1 RT.out.lt)
        clear RT
        have RT := RTn
        clear RTn
        have K4n := Lib.hid (K4.out.below b1 K4.out.lt)
        clear K4
        have K4 := K4n
        clear K4n
        have K6n := Lib.hid (K6.out.below b1 K6.out.lt)
        clear K6
        have K6 := K6n
        clear K6n
        have HBn := Lib.hid (HB.out.trans (b1.mono HB.out.size))
        clear HB
        have HB := HBn
        clear HBn
        clear b1
        obtain ⟨A9, c9, rfl, hc91, hc92, hA9, _⟩ := HO.out.shape
        have HA9 := Lib.hid (And.intro hA9 (And.intro hc91 hc92))
        clear hA9 hc91 hc92
        go_wp2_with (refine wpList_st rfl 40 (.tmp 42) (.tmp 41) rfl N11 46 rfl (.slice A9 l c9) (#[.slice A9 l c9]) rfl rfl info_lt one_sl K6.out (Nat.le_of_ble_eq_true rfl) (C' := pdC (withT p A9 l c9)) (pd_put _ _ _ _) ?_; intro w70 q1; refine Hid.out ?_)
        refine Lib.hid ?_
        have HO3 := Lib.hid (OwnT.farT HO.out K6.out q1)
        have RTn := Lib.hid (RT.out.far q1 (by omega))
        clear RT
        have RT := RTn
        clear RTn
        have K4n := Lib.hid (K4.out.far q1 (by omega))
        clear K4
        have K4 := K4n
        clear K4n
        have HBn := Lib.hid (HB.out.trans (q1.2.1 _ (by omega)))
        clear HB
        have HB := HBn
        clear HBn
        have K6n : Hid (Blk 46 w70 N11 (pdC (withT p A9 l c9))) := Lib.hid q1.1
        clear K6
        have K6 := K6n
        clear K6n q1
        clear HO
        have HO := HO3
        clear HO3
        go_wp2_with (refine wpList_ld (op := ⟨some 43, _, _, _, _, _⟩) (by rfl) 46 (.tmp 6) rfl N11 0 rfl (pdC (withT p A9 l c9)) _ K6.out.all Tryd.underlying46 rfl info_pdP ?_; refine Hid.out ?_)
        refine Lib.hid ?_
        go_wp2_with (refine wpList_st rfl 46 (.tmp 4) (.tmp 43) rfl N1 0 rfl (.agg (pdC (withT p A9 l c9))) (pdC (withT p A9 l c9)) rfl rfl info_pdP (pdC_one _) K4.out (Nat.le_of_ble_eq_true rfl) (C' := pdC (withT p A9 l c9)) (pd_over _ _) ?_; intro w80 q1; refine Hid.out ?_)
        refine Lib.hid ?_
        have HO3 := Lib.hid (OwnT.farT HO.out K4.out q1)
        have RTn := Lib.hid (RT.out.far q1 (by omega))
        clear RT
        have RT := RTn
        clear RTn
        have K6n := Lib.hid (K6.out.far q1 (by omega))
        clear K6
        have K6 := K6n
        clear K6n
        have HBn := Lib.hid (HB.out.trans (q1.2.1 _ (by omega)))
        clear HB
        have HB := HBn
        clear HBn
        have K4n : Hid (Blk 46 w80 N1 (pdC (withT p A9 l c9))) := Lib.hid q1.1
        clear K4
        have K4 := K4n
        clear K4n q1
        clear HO
        have HO := HO3
        clear HO3
        go_wp2_with fail
        have hml : m - 1 = l := by have := HL.out; omega
        exact bodyPost_ret (results_2 rfl _ _ N1 (pdC (withT p A9 l c9)) (.int .i64 0) Tryd.underlying46 rfl info_pdP rfl rfl K4.out) rfl (.inr (.inr (.inl ⟨HX.out, hkp, HSG.out, A9, c9, L, by rw [← HP.out, hml]; rfl, by rw [hml]; exact HO.out, fun j hj => HI.out j (by omega), by rw [hml]; exact HA9.out.1, by rw [hml]; exact HA9.out.2.1, HA9.out.2.2, HB.out⟩)))
  · have hXb : (X != 0) = true := by simpa using hX0
    have HX0 := Lib.hid hX0
    clear hX hX0
    go_wp2_with (refine wpList_v (op := ⟨some 20, _, _, _, _, _⟩) rfl (.agg (pdC pd0)) (build_pd0 _ _ rfl _) ?_; refine Hid.out ?_)
    refine Lib.hid ?_
    go_wp2_with (refine wpList_st rfl 46 (.tmp 4) (.tmp 20) rfl N1 0 rfl (.agg (pdC pd0)) (pdC pd0) rfl rfl info_pdP (pdC_one _) K4.out (Nat.le_of_ble_eq_true rfl) (C' := pdC pd0) (pd_over _ _) ?_; intro w40 q1; refine Hid.out ?_)
    refine Lib.hid ?_
    have RTn := Lib.hid (RT.out.far q1 (by omega))
    clear RT
    have RT := RTn
    clear RTn
    have K6n := Lib.hid (K6.out.far q1 (by omega))
    clear K6
    have K6 := K6n
    clear K6n
    have HBn := Lib.hid (HB.out.trans (q1.2.1 _ (by omega)))
    clear HB
    have HB := HBn
    clear HBn
    have K4n : Hid (Blk 46 w40 N1 (pdC pd0)) := Lib.hid q1.1
    clear K4
    have K4 := K4n
    clear K4n q1
    go_wp2_with fail
    exact bodyPost_ret (results_2 rfl _ _ N1 (pdC (pd0)) (.int .i64 X) Tryd.underlying46 rfl info_pdP rfl rfl K4.out) rfl (.inl ⟨by rw [HX.out]; exact HX0.out, by rw [HX.out]; exact ⟨rfl, HB.out⟩⟩)
end Go.Proofs.YtccoicjmmeoggaaDoor

/- What was read is written as just these bytes. Each theorem states its conditions. -/
namespace Go.Proofs.YtccoicjmmeoggaaDoor
open Go.RowKit
set_option linter.unusedVariables false
/-- what was read is written as just these bytes -/
theorem write_back {z : Nat → Int} {n m : Nat} (hn2 : n ≤ 1492) (hz : ∀ j, 0 ≤ z j ∧ z j ≤ 255) (hg : GoodZ z n m) {L : Nat → It} (hI : IsItZ (tlZ (cls (z 4)) z) L m) (A : Option Addr) (c : Nat) :
    JEnds L m m ∧ wrX (withT (rdP (cls (z 4)) z) A m c) L m = 0 ∧ wrN (withT (rdP (cls (z 4)) z) A m c) L m = n ∧ ∀ j, j < n → wrZ (withT (rdP (cls (z 4)) z) A m c) L m j = z j := by
  obtain ⟨hf, hft, hE, hp, hrb⟩ := hg
  have hf' := hf
  obtain ⟨h8, hq, hh, h1, h2⟩ := hf
  have hz' : ∀ j, 0 ≤ tlZ (cls (z 4)) z j ∧ tlZ (cls (z 4)) z j ≤ 255 := fun j => hz _
  have hbad := good_it hz' hI (by rw [hp]; omega)
  have hs : sz L m = n - hdN (cls (z 4)) := (sz_it hI m (Nat.le_refl _)).trans hp
  have hk : (withT (rdP (cls (z 4)) z) A m c).kd = z 4 := rdP_kd _ z
  have hfx : fitP (withT (rdP (cls (z 4)) z) A m c) (cls (z 4)) = true := (fit_withT _ _ _ _ _).trans hft
  have hmm : (withT (rdP (cls (z 4)) z) A m c).m = m := rfl
  have hne : ¬ (cls (withT (rdP (cls (z 4)) z) A m c).kd = 5 ∨ fitP (withT (rdP (cls (z 4)) z) A m c) (cls (withT (rdP (cls (z 4)) z) A m c).kd) = false) := by
    rw [hk]
    rintro (h | h)
    · omega
    · exact Bool.noConfusion (hfx.symm.trans h)
  have hnl : ¬ (m < (withT (rdP (cls (z 4)) z) A m c).m ∨ 1492 < hdN (cls (withT (rdP (cls (z 4)) z) A m c).kd) + sz L (withT (rdP (cls (z 4)) z) A m c).m) := by
    rw [hk, hmm, hs]
    omega
  obtain ⟨e1, e2, e3⟩ := wr_0 _ L m hne hnl
  refine ⟨⟨Nat.le_refl _, hbad, .inl rfl⟩, e1, by rw [e2, hk, hmm, hs]; omega, fun j hj => ?_⟩
  rw [e3, hk]
  have hb := (back_iff (cls (z 4)) hq z n m L A c rfl h8 hh hn2 hz hI hp).2 hf'
  by_cases h22 : cls (z 4) = 2
  · have hW : hdN 2 + sz L (withT (rdP (cls (z 4)) z) A m c).m = n := by rw [hmm, hs, h22]; rw [h22] at hh; omega
    have h27 : 27 ≤ n := by
      rw [h22] at hh
      have : hdN 2 = 27 := rfl
      omega
    have ha := (all_iff (withT (rdP (cls (z 4)) z) A m c) L n h27 hW z (fun j hj hne => by have := hb j hj (fun _ => hne); rw [h22] at this ⊢; exact this)).2 (hrb h22)
    have := ha j hj
    rw [h22] at this ⊢
    exact this
  · exact hb j hj (fun h => absurd h h22)
end Go.Proofs.YtccoicjmmeoggaaDoor

/- What was signed is signed: the bytes that Seal writes, read again. Each theorem states its conditions. -/
namespace Go.Proofs.YtccoicjmmeoggaaDoor
open Go.RowKit
set_option linter.unusedVariables false
set_option linter.unusedSimpArgs false

theorem hmac_congr (k : Nat → Int) (m : Nat) {z z' : Nat → Int} (n : Nat) (h : ∀ j, j < n → z j = z' j) : hmacZ k m z n = hmacZ k m z' n := by
  unfold hmacZ
  rw [sha_congr (z := catZ (xorZ (keyZ k m) 0x36) 64 z) (z' := catZ (xorZ (keyZ k m) 0x36) 64 z') (64 + n) fun j hj => ?_]
  unfold catZ
  split
  · rfl
  · exact h _ (by omega)
/-- bytes that are the same but for what a signature's sum doesn't look at -/
def SameB (q2 : Prop) (z z' : Nat → Int) (n : Nat) : Prop := ∀ j, j < n - 32 → (q2 → j ≠ 10 ∧ j ≠ 11 ∧ j ≠ 24 ∧ j ≠ 25) → z j = z' j
theorem blk_congr (q2 : Prop) [Decidable q2] {z z' : Nat → Int} {n : Nat} (h : SameB q2 z z' n) : ∀ j, j < n → blkZ q2 z n j = blkZ q2 z' n j := by
  intro j hj
  unfold blkZ
  by_cases hq : q2
  · rw [if_pos hq, if_pos hq]
    unfold zapZ
    by_cases h1 : 24 ≤ j ∧ j < 24 + 2
    · rw [if_pos h1, if_pos h1]
    · rw [if_neg h1, if_neg h1]
      by_cases h2 : 10 ≤ j ∧ j < 10 + 2
      · rw [if_pos h2, if_pos h2]
      · rw [if_neg h2, if_neg h2]
        by_cases h3 : n - 32 ≤ j ∧ j < n - 32 + 32
        · rw [if_pos h3, if_pos h3]
        · rw [if_neg h3, if_neg h3]
          exact h j (by omega) (fun _ => ⟨by omega, by omega, by omega, by omega⟩)
  · rw [if_neg hq, if_neg hq]
    unfold zapZ
    by_cases h3 : n - 32 ≤ j ∧ j < n - 32 + 32
    · rw [if_pos h3, if_pos h3]
    · rw [if_neg h3, if_neg h3]
      exact h j (by omega) (fun h => absurd h hq)
theorem cls_2 (k : Int) : cls k = 2 ↔ k = 18 ∨ k = 20 := by
  unfold cls
  constructor
  · intro h; (repeat' split at h) <;> omega
  · intro h; (repeat' split) <;> omega
/-- two lists that are alike but for the last one's bytes behind the third -/
theorem pdZ_diff {p : Pd} {q m : Nat} {La Lb : Nat → It} (hq : q ≤ 4) (hm : p.m = m + 1) (hal : ∀ j, j < m → (La j).ty = (Lb j).ty ∧ (La j).n = (Lb j).n ∧ ∀ i, i < (La j).n → (La j).z i = (Lb j).z i)
    (ht : (La m).ty = (Lb m).ty) (ha : (La m).n = 35) (hb : (Lb m).n = 35) (hz : ∀ i, i < 3 → (La m).z i = (Lb m).z i) : ∀ j, j < hdN q + sz La p.m - 32 → (q = 2 → j ≠ 24 ∧ j ≠ 25) → pdZ p q La j = pdZ p q Lb j := by
  have hs : sz La m = sz Lb m := sz_congr (m := m) (fun j hj => (hal j hj).2.1) m (Nat.le_refl _)
  have hsa : sz La p.m = sz La m + 37 := by rw [hm]; simp only [sz, ha]
  have hsb : sz Lb p.m = sz Lb m + 37 := by rw [hm]; simp only [sz, hb]
  have hw : ∀ j, j < hdN q + sz La p.m - 32 → wZ p q La j = wZ p q Lb j := by
    intro j hj
    unfold wZ
    rw [show sz Lb p.m = sz La p.m by omega]
    unfold cat
    split
    · rfl
    · rw [hm]
      simp only [J]
      rw [ht, ha, hb, ← hs]
      unfold cat
      by_cases h1 : j - hdN q < sz La m + 2
      · rw [if_pos h1, if_pos h1]
        by_cases h2 : j - hdN q < sz La m
        · rw [if_pos h2, if_pos h2]
          exact J_congr (m := m) hal m (Nat.le_refl _) _ h2
        · rw [if_neg h2, if_neg h2]
      · rw [if_neg h1, if_neg h1]
        exact hz _ (by omega)
  intro j hj h2
  unfold pdZ
  by_cases e : q = 2
  · rw [if_pos e, if_pos e]
    unfold sgZ
    obtain ⟨h3, h4⟩ := h2 e
    rw [if_neg h3, if_neg h3, if_neg h4, if_neg h4]
    exact hw j hj
  · rw [if_neg e, if_neg e]; exact hw j hj
/-- everything that is known of bytes that Seal wrote -/
structure Sl (p : Pd) (L : Nat → It) (m0 id sn : Nat) (k : Nat → Int) (q N : Nat) (F : Nat → Int) : Prop where
  hq : cls p.kd = q
  hq4 : q ≤ 4
  hn : wrN (slP p) (slT L p.m id nou) m0 = N
  h54 : 54 ≤ N
  h92 : N ≤ 1492
  hm0 : m0 = p.m + 1
  hb : ∀ j, 0 ≤ F j ∧ F j ≤ 255
  hz : seZ p L m0 id k sn false = cutN N F
  h4 : F 4 = p.kd
  good : GoodZ F N (p.m + 1)
  last : (itL q F p.m).ty = 10 ∧ (itL q F p.m).n = 35 ∧ ∀ i, i < 35 → (itL q F p.m).z i = sigZ id (seM p L m0 id k sn) i
  items : ∀ j, j < p.m → (itL q F j).ty = (L j).ty ∧ (itL q F j).n = (L j).n ∧ ∀ i, i < (L j).n → (itL q F j).z i = (L j).z i
  same : SameB (p.kd = 18 ∨ p.kd = 20) F (cutN N (wrZ (slP p) (slT L p.m id nou) m0)) N
  eq : rdP q F = rdP q (pdZ (slP p) q (slT L p.m id (seM p L m0 id k sn))) ∧ PdEq (rdP q F) (plQ q (slP p))
theorem isIt_I (q : Nat) (z : Nat → Int) (m : Nat) : IsItZ (tlZ q z) (itL q z) m := fun j _ => ⟨0, 0, rfl⟩
theorem seM_bd (p : Pd) (L : Nat → It) (m0 id : Nat) (k : Nat → Int) (sn : Nat) : ∀ j, 0 ≤ seM p L m0 id k sn j ∧ seM p L m0 id k sn j ≤ 255 := dg_bd _
theorem sealed (p : Pd) (hp : PdOk p) (L : Nat → It) (m0 id sn : Nat) (k : Nat → Int) (w : World) (hR : RdT w p.A p.m L) (hm : JEnds (slT L p.m id nou) (p.m + 1) m0) (h0 : seX p L m0 id sn false = 0) (hid : id ≤ 65535) :
    ∃ q N F, Sl p L m0 id sn k q N F := by
  have hX : wrX (slP p) (slT L p.m id nou) m0 = 0 := (lea_zero (show lea (wrX (slP p) (slT L p.m id nou) m0) (secE sn) = 0 from h0)).1
  have hXM := sl_x (z' := seM p L m0 id k sn) hX
  obtain ⟨h1, h2, h3⟩ := cls_x hXM
  have hmm : (slP p).m = p.m + 1 := rfl
  have hm0 : m0 = p.m + 1 := by have := hm.1; omega
  have hN : wrN (slP p) (slT L p.m id (seM p L m0 id k sn)) m0 = wrN (slP p) (slT L p.m id nou) m0 := (slT_z p L m0 id _ nou).2
  have hN2 : wrN (slP p) (slT L p.m id (seM p L m0 id k sn)) m0 = hdN (cls (slP p).kd) + sz (slT L p.m id (seM p L m0 id k sn)) (p.m + 1) := by unfold wrN; rw [if_pos hXM, hmm]
  have hF : wrZ (slP p) (slT L p.m id (seM p L m0 id k sn)) m0 = pdZ (slP p) (cls p.kd) (slT L p.m id (seM p L m0 id k sn)) := by unfold wrZ; rw [if_pos hXM]; rfl
  have hF0 : wrZ (slP p) (slT L p.m id nou) m0 = pdZ (slP p) (cls p.kd) (slT L p.m id nou) := by unfold wrZ; rw [if_pos hX]; rfl
  have hnb : ∀ j, j < p.m + 1 → ¬ bad (slT L p.m id nou) j := fun j hj => hm.2.1 j (by omega)
  have hJ : ∀ j, 0 ≤ J (slT L p.m id (seM p L m0 id k sn)) (p.m + 1) j ∧ J (slT L p.m id (seM p L m0 id k sn)) (p.m + 1) j ≤ 255 := by
    have hit : ∀ j, j < p.m → ItOk w (L j) := fun j hj => by obtain ⟨b, off, _, hr⟩ := hR.row (by omega); exact (hr.2 j hj).2.2
    refine J_bd _ _ (fun j hj => ?_) (fun j hj => ?_) (fun j hj i => ?_)
    · unfold slT
      by_cases e : j < p.m
      · rw [addT_lo _ _ _ _ e]; exact (hit j e).1
      · obtain rfl : j = p.m := by omega
        rw [addT_hi]; exact ⟨by show (0 : Int) ≤ 10; decide, by show (10 : Int) ≤ 255; decide⟩
    · have := hnb j hj
      unfold bad at this
      have h9 : (slT L p.m id (seM p L m0 id k sn) j).n = (slT L p.m id nou j).n := by
        unfold slT
        by_cases e : j < p.m
        · rw [addT_lo _ _ _ _ e, addT_lo _ _ _ _ e]
        · obtain rfl : j = p.m := by omega
          rw [addT_hi, addT_hi]
      omega
    · unfold slT
      by_cases e : j < p.m
      · rw [addT_lo _ _ _ _ e]; exact (hit j e).2.1.2 i
      · obtain rfl : j = p.m := by omega
        rw [addT_hi]; exact sigZ_bd id (seM_bd p L m0 id k sn) i
  have hFb := pdZ_bd (slP p) (cls p.kd) (slT L p.m id (seM p L m0 id k sn)) h1 hp hJ
  have htl : tlZ (cls p.kd) (pdZ (slP p) (cls p.kd) (slT L p.m id (seM p L m0 id k sn))) = J (slT L p.m id (seM p L m0 id k sn)) (p.m + 1) := by
    funext j
    exact pd_tail (slP p) (cls p.kd) _ h1 j
  have hback := J_back (L := slT L p.m id (seM p L m0 id k sn)) (L5 := itL (cls p.kd) (pdZ (slP p) (cls p.kd) (slT L p.m id (seM p L m0 id k sn)))) (m := p.m + 1) (by rw [← htl]; exact isIt_I _ _ _)
  have hle : hdN (cls (slP p).kd) + sz (slT L p.m id (seM p L m0 id k sn)) (slP p).m ≤ 1492 := by rw [hmm] at h3 ⊢; omega
  refine ⟨cls p.kd, wrN (slP p) (slT L p.m id nou) m0, pdZ (slP p) (cls p.kd) (slT L p.m id (seM p L m0 id k sn)), rfl, h1, rfl, sl_54 hX, wrN_le _ _ _, hm0, hFb, ?_, ?_, ?_, ?_, ?_, ?_, rfl, ?_⟩
  · unfold seZ; rw [if_pos h0, hF]
  · exact (pd_head (slP p) _ _ h1 4 (by omega)).trans rfl
  · have := good_pd (slP p) (slT L p.m id (seM p L m0 id k sn)) hp h1 h2 hle hFb
    rw [← hN, hN2]
    exact this
  · obtain ⟨a1, a2, a3⟩ := hback p.m (by omega)
    have e : slT L p.m id (seM p L m0 id k sn) p.m = ⟨10, none, 35, 35, sigZ id (seM p L m0 id k sn)⟩ := addT_hi _ _ _
    rw [e] at a1 a2 a3
    exact ⟨a1, a2, fun i hi => a3 i (by rw [a2]; exact hi)⟩
  · intro j hj
    obtain ⟨a1, a2, a3⟩ := hback j (by omega)
    have e : slT L p.m id (seM p L m0 id k sn) j = L j := addT_lo _ _ _ _ hj
    rw [e] at a1 a2 a3
    exact ⟨a1, a2, fun i hi => a3 i (by rw [a2]; exact hi)⟩
  · intro j hj h9
    rw [cutN_lt _ (by omega), hF0]
    refine pdZ_diff (m := p.m) h1 hmm (fun i hi => ?_) ?_ ?_ ?_ (fun i hi => ?_) j (by have e9 := hN.symm.trans hN2; show j < hdN (cls (slP p).kd) + sz (slT L p.m id (seM p L m0 id k sn)) (p.m + 1) - 32; omega) (fun e => (h9 ((cls_2 _).1 e)).2.2)
    · unfold slT; rw [addT_lo _ _ _ _ hi, addT_lo _ _ _ _ hi]; exact ⟨rfl, rfl, fun _ _ => rfl⟩
    · unfold slT; rw [addT_hi, addT_hi]
    · unfold slT; rw [addT_hi]
    · unfold slT; rw [addT_hi]
    · unfold slT
      rw [addT_hi, addT_hi]
      show sigZ id (seM p L m0 id k sn) i = sigZ id nou i
      unfold sigZ
      by_cases e : i = 0
      · rw [if_pos e, if_pos e]
      · rw [if_neg e, if_neg e, if_pos hi, if_pos hi]
  · exact rd_eq (slP p) _ hp (cls p.kd) rfl h1 h2
/-- the number in a signature -/
theorem sig_num {id : Nat} (h : id ≤ 65535) {y M : Nat → Int} (he : ∀ i, i < 35 → y i = sigZ id M i) : (numZ y 1 2).toNat = id := by
  have h1 := he 1 (by omega)
  have h2 := he 2 (by omega)
  have e1 : sigZ id M 1 = ((id / 256 : Nat) : Int) := (put_hi h).symm
  have e2 : sigZ id M 2 = ((id % 256 : Nat) : Int) := (put_lo h).symm
  show ((0 * 256 + y (1 + 0)) * 256 + y (1 + 1)).toNat = id
  rw [show (1 + 0 : Nat) = 1 from rfl, show (1 + 1 : Nat) = 2 from rfl, h1, h2, e1, e2]
  omega
/-- it is signed with its key, whatever stands in the life's place -/
theorem signed_yes {p : Pd} {L : Nat → It} {m0 id sn q N : Nat} {k F G : Nat → Int} (h : Sl p L m0 id sn k q N F) (hid : id ≤ 65535) (hns : NoSig L p.m) (hit : ∀ j, j < p.m + 1 → Alike (itL q F j) (itL q G j)) (hG : SameB (p.kd = 18 ∨ p.kd = 20) G F N) {K : Nat → It} {mk f : Nat} (hf : FstKey K id mk f) (hkz : (K f).z = k) (hkn : (K f).n = sn) :
    Signed (itL q G) (p.m + 1) p.kd G N K mk := by
  obtain ⟨a1, a2, a3⟩ := h.last
  obtain ⟨b1, b2, b3⟩ := hit p.m (by omega)
  refine ⟨by omega, ⟨by omega, ?_, fun j hj => ?_⟩, ?_, ?_, f, ?_, ?_⟩
  · show (itL q G p.m).ty = 10; rw [← b1]; exact a1
  · have hj' : j < p.m := hj
    rw [← (hit j (by omega)).1, (h.items j hj').1]; exact hns j hj'
  · show (itL q G p.m).n = 35; rw [← b2]; exact a2
  · show (itL q G p.m).z 0 = 3; rw [← b3]; exact a3 0 (by omega)
  · show FstKey K (numZ (itL q G p.m).z 1 2).toNat mk f
    rw [← b3, sig_num hid a3]; exact hf
  · intro j hj
    show (itL q G p.m).z (3 + j) = _
    rw [← b3, a3 (3 + j) (by omega), hkz, hkn]
    have e : sigZ id (seM p L m0 id k sn) (3 + j) = seM p L m0 id k sn j := by
      unfold sigZ; rw [if_neg (by omega), if_neg (by omega), Nat.add_sub_cancel_left]
    rw [e]
    unfold seM
    rw [h.hn]
    refine congrFun (hmac_congr _ _ _ (blk_congr _ fun i hi h9 => ?_)) j
    rw [hG i hi h9]
    exact (h.same i hi h9).symm
theorem al_refl (q : Nat) (F : Nat → Int) (m : Nat) : ∀ j, j < m → Alike (itL q F j) (itL q F j) := fun _ _ => ⟨rfl, rfl, rfl⟩
/-- what was opened -/
def plnP (q : Nat) (F : Nat → Int) (m : Nat) : Pd := withT (rdP q F) none m 0
/-- what was opened is signed again: the same bytes -/
theorem resign {p : Pd} {L : Nat → It} {m0 id sn q N : Nat} {k F : Nat → Int} (h : Sl p L m0 id sn k q N F) (hns : NoSig L p.m) (hsn : 0 < sn ∧ sn ≤ 64) :
    JEnds (slT (itL q F) p.m id nou) (p.m + 1) (p.m + 1) ∧ HasSig (itL q F) p.m false ∧ seX (plnP q F p.m) (itL q F) (p.m + 1) id sn false = 0 ∧ seN (plnP q F p.m) (itL q F) (p.m + 1) id sn false = N ∧
    ∀ j, j < N → seZ (plnP q F p.m) (itL q F) (p.m + 1) id k sn false j = F j := by
  have hcq : cls (F 4) = q := by rw [h.h4]; exact h.hq
  obtain ⟨a1, a2, a3⟩ := h.last
  have hI : IsItZ (tlZ (cls (F 4)) F) (itL q F) (p.m + 1) := by rw [hcq]; exact isIt_I q F _
  obtain ⟨w1, w2, w3, w4⟩ := write_back h.h92 h.hb h.good hI none 0
  rw [hcq] at w2 w3 w4
  -- the packet with the list whose last one is the signature
  have hP : slP (plnP q F p.m) = withT (rdP q F) none (p.m + 1) 0 := rfl
  have hm : (plnP q F p.m).m = p.m := rfl
  have hlk : AlikeL (p.m + 1) (itL q F) (slT (itL q F) p.m id (seM p L m0 id k sn)) := by
    intro j hj
    unfold slT
    by_cases e : j < p.m
    · rw [addT_lo _ _ _ _ e]; exact ⟨rfl, rfl, fun _ _ => rfl⟩
    · obtain rfl : j = p.m := by omega
      rw [addT_hi]
      exact ⟨a1, a2, fun i hi => a3 i (by rw [a2] at hi; exact hi)⟩
  obtain ⟨f1, f2, f3⟩ := wr_items (p := withT (rdP q F) none (p.m + 1) 0) (p.m + 1) hlk
  have hX : wrX (slP (plnP q F p.m)) (slT (itL q F) p.m id (seM p L m0 id k sn)) (p.m + 1) = 0 := by rw [hP, f1, w2]
  have hX0 : wrX (slP (plnP q F p.m)) (slT (itL q F) (plnP q F p.m).m id nou) (p.m + 1) = 0 := sl_x hX
  have hN : wrN (slP (plnP q F p.m)) (slT (itL q F) p.m id (seM p L m0 id k sn)) (p.m + 1) = N := by rw [hP, f2, w3]
  have hN0 : wrN (slP (plnP q F p.m)) (slT (itL q F) p.m id nou) (p.m + 1) = N := by rw [← hN]; exact (slT_z (plnP q F p.m) (itL q F) (p.m + 1) id nou _).2
  have hsX : seX (plnP q F p.m) (itL q F) (p.m + 1) id sn false = 0 := by
    unfold seX
    rw [hX0]
    exact se_ok hsn
  have hW : ∀ j, j < N → wrZ (slP (plnP q F p.m)) (slT (itL q F) p.m id (seM p L m0 id k sn)) (p.m + 1) j = F j := fun j hj => by
    rw [hP, f3 j (by rw [w3]; exact hj), w4 j hj]
  have hk4 : (plnP q F p.m).kd = p.kd := (rdP_kd q F).trans h.h4
  have hM : seM (plnP q F p.m) (itL q F) (p.m + 1) id k sn = seM p L m0 id k sn := by
    unfold seM
    rw [hm, hN0, h.hn, hk4]
    refine hmac_congr _ _ _ (blk_congr _ fun i hi h9 => ?_)
    rw [← h.same i hi h9, cutN_lt _ (by omega), ← hW i (by omega)]
    obtain ⟨c1, c2, c3⟩ := cls_x hX
    obtain ⟨d1, d2, d3⟩ := cls_x hX0
    have hkk : (slP (plnP q F p.m)).kd = p.kd := hk4
    have hN2 : hdN (cls (slP (plnP q F p.m)).kd) + sz (slT (itL q F) p.m id nou) (p.m + 1) = N := by
      rw [← hN0]; unfold wrN; rw [if_pos (show wrX (slP (plnP q F p.m)) (slT (itL q F) p.m id nou) (p.m + 1) = 0 from hX0)]; rfl
    unfold wrZ
    rw [if_pos hX, if_pos (show wrX (slP (plnP q F p.m)) (slT (itL q F) p.m id nou) (p.m + 1) = 0 from hX0)]
    refine pdZ_diff (m := p.m) c1 rfl (fun i hi => ?_) ?_ ?_ ?_ (fun i hi => ?_) i (by show i < hdN (cls (slP (plnP q F p.m)).kd) + sz (slT (itL q F) p.m id nou) (p.m + 1) - 32; omega) (fun e => (h9 ((cls_2 _).1 (by rw [← hkk]; exact e))).2.2)
    · unfold slT; rw [addT_lo _ _ _ _ hi, addT_lo _ _ _ _ hi]; exact ⟨rfl, rfl, fun _ _ => rfl⟩
    · unfold slT; rw [addT_hi, addT_hi]
    · unfold slT; rw [addT_hi]
    · unfold slT; rw [addT_hi]
    · unfold slT
      rw [addT_hi, addT_hi]
      show sigZ id nou i = sigZ id (seM p L m0 id k sn) i
      unfold sigZ
      by_cases e : i = 0
      · rw [if_pos e, if_pos e]
      · rw [if_neg e, if_neg e, if_pos hi, if_pos hi]
  refine ⟨?_, .inr ⟨rfl, fun j hj => by rw [(h.items j hj).1]; exact hns j hj⟩, hsX, ?_, fun j hj => ?_⟩
  · rw [hcq] at hI
    exact jends_congr (fun j hj => (hlk j hj).2.1.trans (by
      unfold slT
      by_cases e : j < p.m
      · rw [addT_lo _ _ _ _ e, addT_lo _ _ _ _ e]
      · obtain rfl : j = p.m := by omega
        rw [addT_hi, addT_hi])) w1
  · unfold seN; rw [if_pos hsX]; exact hN0
  · unfold seZ
    rw [if_pos hsX, hM]
    show cutN (wrN (slP (plnP q F p.m)) (slT (itL q F) p.m id nou) (p.m + 1)) (wrZ (slP (plnP q F p.m)) (slT (itL q F) p.m id (seM p L m0 id k sn)) (p.m + 1)) j = F j
    rw [hN0, cutN_lt _ hj]
    exact hW j hj
end Go.Proofs.YtccoicjmmeoggaaDoor

/- What was sealed, opened, sealed again and written bare: each call's answer. Each theorem states its conditions. -/
namespace Go.Proofs.YtccoicjmmeoggaaDoor
open Go.RowKit
set_option linter.unusedVariables false
set_option linter.unusedSimpArgs false

theorem rdK_none (w : World) (K : Nat → It) : RdK w none 0 K := ⟨.inl rfl, fun j hj => by omega⟩
theorem keysE_one {K : Nat → It} (h : 0 < (K 0).n ∧ (K 0).n ≤ 64) : keysE K 1 = 0 := by
  show (if 8 < 1 then 2 else ckE K 1) = 0
  rw [if_neg (by omega)]
  show lea 0 (secE (K 0).n) = 0
  rw [show secE (K 0).n = 0 from by unfold secE; rw [if_neg (by omega), if_neg (by omega)]]
  rfl
theorem fstK_one {K : Nat → It} {id : Nat} (h : (K 0).ty = (id : Int)) : FstKey K id 1 0 := ⟨by omega, h, fun j hj => by omega⟩
section
variable {p : Pd} {L : Nat → It} {m0 id sn q N : Nat} {k F : Nat → Int}
theorem rd_zc {w : World} {A : Option Addr} {n : Nat} {z z' : Nat → Int} (h : Rd w A n z) (he : ∀ j, j < n → z j = z' j) (hz : ∀ j, 0 ≤ z' j ∧ z' j ≤ 255) : Rd w A n z' := by
  refine ⟨?_, hz⟩
  rcases h.1 with h0 | ⟨b, off, rfl, h1, h2, h3⟩
  · exact .inl h0
  · exact .inr ⟨b, off, rfl, h1, fun j hj => by rw [← he j hj]; exact h2 j hj, hz⟩
theorem Sl.rd (h : Sl p L m0 id sn k q N F) {w : World} {A : Option Addr} (hr : Rd w A N (seZ p L m0 id k sn false)) : Rd w A N F := rd_zc hr (fun j hj => by rw [h.hz, cutN_lt _ hj]) h.hb
theorem Sl.cq (h : Sl p L m0 id sn k q N F) : cls (F 4) = q := by rw [h.h4]; exact h.hq
theorem al_open0 (h : Sl p L m0 id sn k q N F) (A : Option Addr) (c : Nat) (w : World) (hr : Rd w A N F) (hA : A = none → N = 0 ∧ c = 0) (hc : N ≤ c) (hcm : c ≤ maxLen) (hg : Rts w 0) :
    Calls Tryd.prog 22 #[.slice A N c, .slice none 0 0] w (RdOk w q F (p.m + 1)) := by
  have hrd : ∀ w, Rd w A N F → Calls Tryd.prog 45 #[.slice A N c] w (RdOk w q F (p.m + 1)) := fun w hr => by
    have := read_good A N c F w hr hc hcm h.h92 _ h.good
    rw [h.cq] at this
    exact this
  refine (open_yes A N c F none 0 0 (fun _ => ⟨0, none, 0, 0, nou⟩) q (p.m + 1) w h.cq h.good h.h92 hrd hr hA (rdK_none w _) hg).mono fun e w' hp => ?_
  rcases hp with ⟨h1, _⟩ | ⟨_, _, h3⟩ | ⟨_, h2, _⟩ | ⟨_, h2, _⟩
  · exact absurd rfl h1
  · exact h3
  · omega
  · omega
theorem al_openG (h : Sl p L m0 id sn k q N F) (hid : id ≤ 65535) (hns : NoSig L p.m) (G : Nat → Int) (hgood : GoodZ G N (p.m + 1)) (h4 : G 4 = p.kd) (hit : ∀ j, j < p.m + 1 → Alike (itL q F j) (itL q G j)) (hG : SameB (p.kd = 18 ∨ p.kd = 20) G F N)
    (A : Option Addr) (c : Nat) (w : World) (hr : Rd w A N G) (hA : A = none → N = 0 ∧ c = 0) (hc : N ≤ c) (hcm : c ≤ maxLen) (hg : Rts w 0)
    (KA : Option Addr) (mk ck : Nat) (K : Nat → It) (hK : RdK w KA mk K) (hke : keysE K mk = 0) (f : Nat) (hf : FstKey K id mk f) (hkz : (K f).z = k) (hkn : (K f).n = sn) :
    Calls Tryd.prog 22 #[.slice A N c, .slice KA mk ck] w (RdOk w q G p.m) := by
  have hcq : cls (G 4) = q := by rw [h4]; exact h.hq
  have hrd : ∀ w, Rd w A N G → Calls Tryd.prog 45 #[.slice A N c] w (RdOk w q G (p.m + 1)) := fun w hr => by
    have := read_good A N c G w hr hc hcm h.h92 _ hgood
    rw [hcq] at this
    exact this
  have hf1 := hf.1
  refine (open_yes A N c G KA mk ck K q (p.m + 1) w hcq hgood h.h92 hrd hr hA hK hg).mono fun e w' hp => ?_
  rcases hp with ⟨h1, _⟩ | ⟨_, h2, h3⟩ | ⟨_, h2, _, h3⟩ | ⟨_, h2, h3, _⟩
  · exact absurd hke h1
  · omega
  · exact h3
  · rw [h4] at h3
    exact absurd (signed_yes h hid hns hit hG hf hkz hkn) h3
theorem al_reseal (h : Sl p L m0 id sn k q N F) (hns : NoSig L p.m) (hsn : 0 < sn ∧ sn ≤ 64) (hid : id ≤ 65535) (w : World) (A : Option Addr) (c : Nat) (L' : Nat → It) (hI : IsItZ (tlZ q F) L' p.m) (hR : RdT w A p.m L') (hA : A = none → p.m = 0 ∧ c = 0) (h32 : p.m * 32 ≤ 140737488351232)
    (ak : Option Addr) (sk : Nat) (hk : Rd w ak sn k) (hkA : ak = none → sn = 0 ∧ sk = 0) (hg : Rts w 0) :
    Calls Tryd.prog 18 #[.agg (pdC (withT (rdP q F) A p.m c)), .agg (keyC id ak sn sk)] w (WrP w N 0 (seZ (plnP q F p.m) (itL q F) (p.m + 1) id k sn false)) := by
  obtain ⟨r1, r2, r3, r4, r5⟩ := resign h hns hsn
  have hs := seal_al (plnP q F p.m) (rdP_ok q h.hq4 F h.hb) (itL q F) L' A c (p.m + 1) id ak sn sk k false (itL_al hI) r1 w hR hA h32 hid hk hkA r2 hg
  rw [r3, r4] at hs
  exact hs
theorem al_reseal2 (h : Sl p L m0 id sn k q N F) (hsn : 0 < sn ∧ sn ≤ 64) (hid : id ≤ 65535) (w : World) (A : Option Addr) (c : Nat) (L' : Nat → It) (hI : IsItZ (tlZ q F) L' (p.m + 1)) (hR : RdT w A (p.m + 1) L') (hA : A = none → p.m + 1 = 0 ∧ c = 0) (h32 : (p.m + 1) * 32 ≤ 140737488351232)
    (ak : Option Addr) (sk : Nat) (hk : Rd w ak sn k) (hkA : ak = none → sn = 0 ∧ sk = 0) (hg : Rts w 0) :
    Calls Tryd.prog 18 #[.agg (pdC (withT (rdP q F) A (p.m + 1) c)), .agg (keyC id ak sn sk)] w fun e w' => ∃ A8 n8 c8, ∃ X : Int, e = .returned (.tuple #[.slice A8 n8 c8, .int .i64 X]) ∧ (X = 3 ∨ X = 2) ∧ Below w.heap.size w w' := by
  obtain ⟨m1, hm1⟩ := jends (slT (itL q F) (p.m + 1) id nou) (p.m + 2)
  have hsig : HasSig (itL q F) (p.m + 1) true := .inl ⟨rfl, (hasSig_ex (itL q F) (p.m + 1)).elim fun b hb => by
    rcases hb with ⟨_, h1⟩ | ⟨_, h1⟩
    · exact h1
    · exact absurd h.last.1 (h1 p.m (by omega))⟩
  have hs := seal_al (plnP q F (p.m + 1)) (rdP_ok q h.hq4 F h.hb) (itL q F) L' A c m1 id ak sn sk k true (itL_al hI) hm1 w hR hA h32 hid hk hkA hsig hg
  refine hs.mono fun e w' hp => ?_
  obtain ⟨A8, c8, he, _, _, _, hb, _⟩ := hp
  refine ⟨A8, _, c8, _, he, ?_, hb⟩
  have hk4 : (slP (plnP q F (p.m + 1))).kd = p.kd := (rdP_kd q F).trans h.h4
  have hft : fitP (slP (plnP q F (p.m + 1))) (cls (slP (plnP q F (p.m + 1))).kd) = true := by
    have := h.good.2.1
    rw [h.cq] at this
    rw [hk4, h.hq]
    exact (fit_withT _ _ _ _ _).trans ((fit_withT _ _ _ _ _).trans this)
  have hX : wrX (slP (plnP q F (p.m + 1))) (slT (itL q F) (p.m + 1) id nou) m1 = 0 ∨ wrX (slP (plnP q F (p.m + 1))) (slT (itL q F) (p.m + 1) id nou) m1 = 2 := by
    unfold wrX
    rw [if_neg]
    · split
      · exact .inr rfl
      · exact .inl rfl
    · rintro (h5 | h5)
      · rw [hk4, h.hq] at h5; have := h.hq4; omega
      · exact Bool.noConfusion (hft.symm.trans h5)
  have hse : secE sn = 0 := by unfold secE; rw [if_neg (by omega), if_neg (by omega)]
  show seX (plnP q F (p.m + 1)) (itL q F) m1 id sn true = 3 ∨ seX (plnP q F (p.m + 1)) (itL q F) m1 id sn true = 2
  unfold seX
  rw [if_pos rfl, hse]
  rcases hX with e1 | e1
  · rw [show wrX (slP (plnP q F (p.m + 1))) (slT (itL q F) (plnP q F (p.m + 1)).m id nou) m1 = 0 from e1]; exact .inl rfl
  · rw [show wrX (slP (plnP q F (p.m + 1))) (slT (itL q F) (plnP q F (p.m + 1)).m id nou) m1 = 2 from e1]; exact .inr rfl
/-- the packet as it stood can be written bare -/
theorem al_bare (h : Sl p L m0 id sn k q N F) (h0 : seX p L m0 id sn false = 0) (hm : JEnds (slT L p.m id nou) (p.m + 1) m0) (L2 : Nat → It) (hal : ∀ j, j < p.m → Alike (L j) (L2 j)) :
    fitP p q = true ∧ hdN q + sz L2 p.m ≤ 1492 ∧ JEnds L2 p.m p.m := by
  have hX : wrX (slP p) (slT L p.m id nou) m0 = 0 := (lea_zero (show lea (wrX (slP p) (slT L p.m id nou) m0) (secE sn) = 0 from h0)).1
  obtain ⟨h1, h2, h3⟩ := cls_x hX
  have hq : cls (slP p).kd = q := h.hq
  rw [hq] at h2 h3
  have hmm : (slP p).m = p.m + 1 := rfl
  rw [hmm] at h3
  have hn : ∀ j, j < p.m → (slT L p.m id nou j).n = (L2 j).n := fun j hj => by
    unfold slT; rw [addT_lo _ _ _ _ hj]; exact (hal j hj).2.1
  have hs : sz (slT L p.m id nou) p.m = sz L2 p.m := sz_congr (m := p.m) hn p.m (Nat.le_refl _)
  have hs2 : sz (slT L p.m id nou) p.m ≤ sz (slT L p.m id nou) (p.m + 1) := by simp only [sz]; omega
  refine ⟨(fit_withT _ _ _ _ _).symm.trans h2, by omega, ?_⟩
  refine jends_congr hn ⟨Nat.le_refl _, fun j hj => hm.2.1 j (by have := h.hm0; omega), .inl rfl⟩
theorem al_write (h : Sl p L m0 id sn k q N F) (hp : PdOk p) (h0 : seX p L m0 id sn false = 0) (hm : JEnds (slT L p.m id nou) (p.m + 1) m0) (L2 : Nat → It) (hal : ∀ j, j < p.m → Alike (L j) (L2 j)) (w : World) (A : Option Addr) (c : Nat) (hR : RdT w A p.m L2) (hc : p.m ≤ c) (hcm : c ≤ 9223372036854775807) :
    Calls Tryd.prog 28 #[.agg (pdC (withT p A p.m c))] w (WrP w (hdN q + sz L2 p.m) 0 (pdZ (withT p A p.m c) q L2)) := by
  obtain ⟨h1, h2, h3⟩ := al_bare h h0 hm L2 hal
  have hw := write_any (withT p A p.m c) hp L2 p.m h3 w ⟨hR, hc, hcm⟩
  have hq : cls (withT p A p.m c).kd = q := h.hq
  obtain ⟨e1, e2, e3⟩ := wr_0 (withT p A p.m c) L2 p.m (by
    rw [hq]
    rintro (h5 | h5)
    · have := h.hq4; omega
    · exact Bool.noConfusion (((fit_withT _ _ _ _ _).trans h1).symm.trans h5)) (by
    rw [hq]
    show ¬ (p.m < p.m ∨ 1492 < hdN q + sz L2 p.m)
    omega)
  rw [e1, e2, e3, hq] at hw
  exact hw
theorem al_openw (h : Sl p L m0 id sn k q N F) (hp : PdOk p) (h0 : seX p L m0 id sn false = 0) (hm : JEnds (slT L p.m id nou) (p.m + 1) m0) (hns : NoSig L p.m) (L2 : Nat → It) (hal : ∀ j, j < p.m → Alike (L j) (L2 j)) (A9 : Option Addr) (c9 : Nat)
    (A : Option Addr) (c : Nat) (w : World) (hr : Rd w A (hdN q + sz L2 p.m) (pdZ (withT p A9 p.m c9) q L2)) (hA : A = none → hdN q + sz L2 p.m = 0 ∧ c = 0) (hc : hdN q + sz L2 p.m ≤ c) (hcm : c ≤ maxLen) (hg : Rts w 0)
    (KA : Option Addr) (mk ck : Nat) (K : Nat → It) (hK : RdK w KA mk K) (hke : keysE K mk = 0) (hmk : 0 < mk) :
    Calls Tryd.prog 22 #[.slice A (hdN q + sz L2 p.m) c, .slice KA mk ck] w (RdErr w 9) := by
  obtain ⟨h1, h2, h3⟩ := al_bare h h0 hm L2 hal
  have hq : cls (withT p A9 p.m c9).kd = q := h.hq
  have hb : ∀ j, 0 ≤ pdZ (withT p A9 p.m c9) q L2 j ∧ pdZ (withT p A9 p.m c9) q L2 j ≤ 255 := hr.2
  have hgood := good_pd (withT p A9 p.m c9) L2 hp (by rw [hq]; exact h.hq4) (by rw [hq]; exact (fit_withT _ _ _ _ _).trans h1) (by rw [hq]; exact h2) (by rw [hq]; exact hb)
  rw [hq] at hgood
  obtain ⟨Z, hZ⟩ : ∃ Z, pdZ (withT p A9 p.m c9) q L2 = Z := ⟨_, rfl⟩
  have h4 : Z 4 = p.kd := by rw [← hZ]; exact pd_head _ q L2 h.hq4 4 (by omega)
  have htl : tlZ q Z = J L2 p.m := by funext j; rw [← hZ]; exact pd_tail _ q L2 h.hq4 j
  have hback := J_back (L := L2) (L5 := itL q Z) (m := p.m) (by rw [← htl]; exact isIt_I _ _ _)
  rw [hZ] at hr hgood
  have hcq : cls (Z 4) = q := by rw [h4]; exact h.hq
  have hrd : ∀ w, Rd w A (hdN q + sz L2 p.m) Z → Calls Tryd.prog 45 #[.slice A (hdN q + sz L2 p.m) c] w (RdOk w q Z p.m) := fun w hr => by
    have := read_good A _ c Z w hr hc hcm h2 _ hgood
    rw [hcq] at this
    exact this
  refine (open_yes A _ c Z KA mk ck K q p.m w hcq hgood h2 hrd hr hA hK hg).mono fun e w' hp => ?_
  rcases hp with ⟨h1, _⟩ | ⟨_, h2, h3⟩ | ⟨_, h2, h3, _⟩ | ⟨_, h2, h3, h4⟩
  · exact absurd hke h1
  · omega
  · obtain ⟨hm1, ⟨_, h5, _⟩, _⟩ := h3
    have := (hback (p.m - 1) (by omega)).1
    rw [h5] at this
    exact absurd ((hal (p.m - 1) (by omega)).1.trans this.symm) (hns _ (by omega))
  · exact h4
end
end Go.Proofs.YtccoicjmmeoggaaDoor

/- The walk of MacSeals: for every input the law returns true, and nothing that was there is written, if the table lies as the text lays it. -/
namespace Go.Proofs.YtccoicjmmeoggaaDoor
open Go.RowKit
set_option linter.unusedVariables false
set_option linter.unusedSimpArgs false

theorem rdK_one {w : World} {g : Nat} {t : It} (h : Blk 45 w g (kC t)) (hk : KeOk w t) : RdK w (some ⟨g, 0, none⟩) 1 (fun _ => t) :=
  ⟨.inr ⟨g, 0, rfl, h.lt, fun j hj => by
    obtain rfl : j = 0 := by omega
    exact h.all⟩, fun j hj => hk⟩
end Go.Proofs.YtccoicjmmeoggaaDoor

/- The walk of MacAlone: for every input the law returns true, and nothing that was there is written, if the table lies as the text lays it. -/
namespace Go.Proofs.YtccoicjmmeoggaaDoor
open Go.RowKit
set_option linter.unusedVariables false
set_option linter.unusedSimpArgs false

theorem sl_m {p : Pd} {L : Nat → It} {m0 id sn q N : Nat} {k F : Nat → Int} (h : Sl p L m0 id sn k q N F) : (p.m + 1) * 32 ≤ 140737488351232 := by
  have h1 := good_sz h.good h.cq (by rw [← h.cq]; exact isIt_I _ F (p.m + 1))
  have h2 := sz_2 (itL q F) (p.m + 1)
  have h3 := h.h92
  rw [← h.cq] at h2
  rw [h.cq] at h2
  have h4 := (good_sz h.good h.cq (L := itL q F) (isIt_I q F (p.m + 1))).1
  omega
theorem seX_f {p : Pd} {L : Nat → It} {m0 id sn : Nat} {b : Bool} (h : seX p L m0 id sn b = 0) : b = false := by
  cases b
  · rfl
  · unfold seX at h
    rw [if_pos rfl] at h
    have := (lea_zero h).2
    omega
theorem seX_s {p : Pd} {L : Nat → It} {m0 id sn : Nat} (h : seX p L m0 id sn false = 0) : 0 < sn ∧ sn ≤ 64 :=
  secE_zero (lea_zero (show lea (wrX (slP p) (slT L p.m id nou) m0) (secE sn) = 0 from h)).2
set_option maxHeartbeats 40000000 in
set_option maxRecDepth 100000 in
theorem walkMacAlone (p : Pd) (L : Nat → It) (t : It) (w : World) (hin : InP w p L) (hke : KeOk w t) (hg : Rts w 0) :
    Calls Tryd.prog 8 #[.agg (pdC p), .agg (kC t)] w fun e w' => e = .returned (.bool true) ∧ Below w.heap.size w w' := by
  obtain ⟨hp, hR, hA, hmc, h32⟩ := hin
  obtain ⟨ty, A, sn, sc, k⟩ := t
  obtain ⟨⟨hty1, hty2⟩, hk, hkA, hkn⟩ := hke
  dsimp only at hty1 hty2 hk hkA hkn
  obtain ⟨id, rfl⟩ : ∃ id : Nat, ty = (id : Int) := ⟨ty.toNat, by omega⟩
  have hid : id ≤ 65535 := by omega
  obtain ⟨m0, hm⟩ := jends (slT L p.m id nou) (p.m + 1)
  obtain ⟨b, hb⟩ := hasSig_ex L p.m
  obtain ⟨N9, hN9⟩ : ∃ N, seN p L m0 id sn b = N := ⟨_, rfl⟩
  obtain ⟨X9, hX9⟩ : ∃ N, seX p L m0 id sn b = N := ⟨_, rfl⟩
  obtain ⟨Z9, hZ9⟩ : ∃ N, seZ p L m0 id k sn b = N := ⟨_, rfl⟩
  have HP := Lib.hid hp
  have HM := Lib.hid hm
  have HR0 := Lib.hid hR
  have HA := Lib.hid hA
  have H32 : Hid (p.m * 32 ≤ 140737488351232) := Lib.hid (by omega)
  have HID := Lib.hid hid
  have HKEY : Hid (KeOk w ⟨(id : Int), A, sn, sc, k⟩) := Lib.hid ⟨⟨hty1, hty2⟩, hk, hkA, hkn⟩
  have HBB := Lib.hid hb
  have RT := Lib.hid hg
  have HSP := Lib.hid (And.intro hN9 (And.intro hX9 hZ9))
  have hg9 := hg.2
  clear hp hm hR hA h32 hid hk hkA hb hg hN9 hX9 hZ9 hmc hty1 hty2 hkn
  go_enter Tryd.func8, Tryd.ntmps8
  have HB := Lib.hid (Below.refl w.heap.size w)
  obtain ⟨N1, hN1⟩ : ∃ N, w.heap.size = N := ⟨_, rfl⟩
  have HN1 := Lib.hid hN1
  clear hN1
  go_wp2_with (refine wpList_box (op := ⟨some 2, _, _, _, _, _⟩) rfl 42 (.tmp 0) rfl (pdC p) rfl N1 HN1.out ?_; intro w1 k1 b1 s1; refine Hid.out ?_)
  refine Lib.hid ?_
  have KP := Lib.hid k1
  clear k1
  have lt_0_N1 : 0 < N1 := by rw [← HN1.out]; exact RT.out.lt
  have le_HB_N1 : w.heap.size ≤ N1 := by rw [← HN1.out]; exact HB.out.size
  have RTn := Lib.hid (RT.out.below b1 RT.out.lt)
  clear RT
  have RT := RTn
  clear RTn
  have HBn := Lib.hid (HB.out.trans (b1.mono HB.out.size))
  clear HB
  have HB := HBn
  clear HBn
  clear b1 HN1
  obtain ⟨N2, hN2⟩ : ∃ N, w1.heap.size = N := ⟨_, rfl⟩
  have HN2 := Lib.hid hN2
  clear hN2
  go_wp2_with (refine wpList_box (op := ⟨some 3, _, _, _, _, _⟩) rfl 45 (.tmp 1) rfl (kC ⟨(id : Int), A, sn, sc, k⟩) rfl N2 HN2.out ?_; intro w2 k1 b1 s1; refine Hid.out ?_)
  refine Lib.hid ?_
  have KK := Lib.hid k1
  clear k1
  have lt_0_N2 : 0 < N2 := by rw [← HN2.out]; exact RT.out.lt
  have lt_N1_N2 : N1 < N2 := by rw [← HN2.out]; exact KP.out.lt
  have le_HB_N2 : w.heap.size ≤ N2 := by rw [← HN2.out]; exact HB.out.size
  have RTn := Lib.hid (RT.out.below b1 RT.out.lt)
  clear RT
  have RT := RTn
  clear RTn
  have KPn := Lib.hid (KP.out.below b1 KP.out.lt)
  clear KP
  have KP := KPn
  clear KPn
  have HBn := Lib.hid (HB.out.trans (b1.mono HB.out.size))
  clear HB
  have HB := HBn
  clear HBn
  clear b1 HN2
  go_wp2_with fail
  refine (awakeH_any w2 RT.out).mono ?_
  rintro e w10 ⟨rfl, b1⟩
  have RTn := Lib.hid (RT.out.below b1 RT.out.lt)
  clear RT
  have RT := RTn
  clear RTn
  have KPn := Lib.hid (KP.out.below b1 KP.out.lt)
  clear KP
  have KP := KPn
  clear KPn
  have KKn := Lib.hid (KK.out.below b1 KK.out.lt)
  clear KK
  have KK := KKn
  clear KKn
  have HBn := Lib.hid (HB.out.trans (b1.mono HB.out.size))
  clear HB
  have HB := HBn
  clear HBn
  clear b1
  go_wp2_with (refine wpList_ld (op := ⟨some 22, _, _, _, _, _⟩) (by rfl) 42 (.tmp 2) rfl N1 0 rfl (pdC p) _ KP.out.all Tryd.underlying42 rfl info_pdR ?_; refine Hid.out ?_)
  refine Lib.hid ?_
  obtain ⟨N11, hN11⟩ : ∃ N, w10.heap.size = N := ⟨_, rfl⟩
  have HN11 := Lib.hid hN11
  clear hN11
  go_wp2_with (refine wpList_new (op := ⟨some 5, _, _, _, _, _⟩) rfl 46 rfl (pdC pd0) zero_pdP N11 HN11.out ?_; intro w11 k1 b1 s1; refine Hid.out ?_)
  refine Lib.hid ?_
  have K5 := Lib.hid k1
  clear k1
  have lt_0_N11 : 0 < N11 := by rw [← HN11.out]; exact RT.out.lt
  have lt_N1_N11 : N1 < N11 := by rw [← HN11.out]; exact KP.out.lt
  have lt_N2_N11 : N2 < N11 := by rw [← HN11.out]; exact KK.out.lt
  have le_HB_N11 : w.heap.size ≤ N11 := by rw [← HN11.out]; exact HB.out.size
  have RTn := Lib.hid (RT.out.below b1 RT.out.lt)
  clear RT
  have RT := RTn
  clear RTn
  have KPn := Lib.hid (KP.out.below b1 KP.out.lt)
  clear KP
  have KP := KPn
  clear KPn
  have KKn := Lib.hid (KK.out.below b1 KK.out.lt)
  clear KK
  have KK := KKn
  clear KKn
  have HBn := Lib.hid (HB.out.trans (b1.mono HB.out.size))
  clear HB
  have HB := HBn
  clear HBn
  clear b1 HN11
  go_wp2_with (refine wpList_st rfl 46 (.tmp 5) (.tmp 22) rfl N11 0 rfl (.agg (pdC p)) (pdC p) rfl rfl info_pdP (pdC_one _) K5.out (Nat.le_of_ble_eq_true rfl) (C' := pdC p) (pd_over _ _) ?_; intro w20 q1; refine Hid.out ?_)
  refine Lib.hid ?_
  have RTn := Lib.hid (RT.out.far q1 (by omega))
  clear RT
  have RT := RTn
  clear RTn
  have KPn := Lib.hid (KP.out.far q1 (by omega))
  clear KP
  have KP := KPn
  clear KPn
  have KKn := Lib.hid (KK.out.far q1 (by omega))
  clear KK
  have KK := KKn
  clear KKn
  have HBn := Lib.hid (HB.out.trans (q1.2.1 _ (by omega)))
  clear HB
  have HB := HBn
  clear HBn
  have K5n : Hid (Blk 46 w20 N11 (pdC p)) := Lib.hid q1.1
  clear K5
  have K5 := K5n
  clear K5n q1
  have cp : w20.cell? ⟨N1, 46, none⟩ = some (.slice p.A p.m p.c) := (KP.out.cell 46).trans rfl
  go_wp2_with fail
  clear cp
  refine (twinT_any p.A p.m p.c L w20 (HR0.out.below HB.out) H32.out).mono ?_
  rintro e w30 ⟨v25, L2, rfl, ho, hal, b1⟩
  obtain ⟨A9, c9, rfl, hmc9, hcx9, hA9, _⟩ := ho.shape
  have HO := Lib.hid ho
  have HAL := Lib.hid hal
  have HA9 := Lib.hid (And.intro hA9 (And.intro hmc9 hcx9))
  clear ho hal hA9 hmc9 hcx9
  have RTn := Lib.hid (RT.out.below b1 RT.out.lt)
  clear RT
  have RT := RTn
  clear RTn
  have KPn := Lib.hid (KP.out.below b1 KP.out.lt)
  clear KP
  have KP := KPn
  clear KPn
  have KKn := Lib.hid (KK.out.below b1 KK.out.lt)
  clear KK
  have KK := KKn
  clear KKn
  have K5n := Lib.hid (K5.out.below b1 K5.out.lt)
  clear K5
  have K5 := K5n
  clear K5n
  have HBn := Lib.hid (HB.out.trans (b1.mono HB.out.size))
  clear HB
  have HB := HBn
  clear HBn
  clear b1
  go_wp2_with (refine wpList_st rfl 40 (.tmp 26) (.tmp 25) rfl N11 46 rfl (.slice A9 p.m c9) (#[.slice A9 p.m c9]) rfl rfl info_lt one_sl K5.out (Nat.le_of_ble_eq_true rfl) (C' := pdC (withT p A9 p.m c9)) (pd_put _ _ _ _) ?_; intro w40 q1; refine Hid.out ?_)
  refine Lib.hid ?_
  have HO3 := Lib.hid (OwnT.farT HO.out K5.out q1)
  have RTn := Lib.hid (RT.out.far q1 (by omega))
  clear RT
  have RT := RTn
  clear RTn
  have KPn := Lib.hid (KP.out.far q1 (by omega))
  clear KP
  have KP := KPn
  clear KPn
  have KKn := Lib.hid (KK.out.far q1 (by omega))
  clear KK
  have KK := KKn
  clear KKn
  have HBn := Lib.hid (HB.out.trans (q1.2.1 _ (by omega)))
  clear HB
  have HB := HBn
  clear HBn
  have K5n : Hid (Blk 46 w40 N11 (pdC (withT p A9 p.m c9))) := Lib.hid q1.1
  clear K5
  have K5 := K5n
  clear K5n q1
  clear HO
  have HO : Hid (TwO w40 w20.heap.size (.slice A9 p.m c9) p.m L2) := Lib.hid HO3.out
  clear HO3
  go_wp2_with (refine wpList_ld (op := ⟨some 28, _, _, _, _, _⟩) (by rfl) 46 (.tmp 5) rfl N11 0 rfl (pdC (withT p A9 p.m c9)) _ K5.out.all Tryd.underlying46 rfl info_pdP ?_; refine Hid.out ?_)
  refine Lib.hid ?_
  go_wp2_with (refine wpList_ld (op := ⟨some 29, _, _, _, _, _⟩) (by rfl) 45 (.tmp 3) rfl N2 0 rfl (kC ⟨(id : Int), A, sn, sc, k⟩) _ KK.out.all Tryd.underlying45 rfl info_key ?_; refine Hid.out ?_)
  refine Lib.hid ?_
  go_wp2_with fail
  have HSE := Lib.hid (seal_al p HP.out L L2 A9 c9 m0 id A sn sc k b HAL.out HM.out w40 (by obtain ⟨A8, c8, e8, _, _, _, h8⟩ := OwnT.shape HO.out; injection e8 with e8 _ _; rw [e8]; exact h8) (fun e => (HA9.out.1 e)) H32.out HID.out (HKEY.out.below HB.out).2.1 (HKEY.out).2.2.1 HBB.out RT.out)
  rw [HSP.out.1, HSP.out.2.1, HSP.out.2.2] at HSE
  refine HSE.out.mono ?_
  rintro e w50 ⟨AU, cu, rfl, hu1, hu2, hu3, b1, hu4⟩
  have RTn := Lib.hid (RT.out.below b1 RT.out.lt)
  clear RT
  have RT := RTn
  clear RTn
  have KPn := Lib.hid (KP.out.below b1 KP.out.lt)
  clear KP
  have KP := KPn
  clear KPn
  have KKn := Lib.hid (KK.out.below b1 KK.out.lt)
  clear KK
  have KK := KKn
  clear KKn
  have K5n := Lib.hid (K5.out.below b1 K5.out.lt)
  clear K5
  have K5 := K5n
  clear K5n
  have HOn := Lib.hid (HO.out.below b1)
  clear HO
  have HO := HOn
  clear HOn
  have HBn := Lib.hid (HB.out.trans (b1.mono HB.out.size))
  clear HB
  have HB := HBn
  clear HBn
  have HU9 : Hid (RdO w50 AU N9 Z9) := Lib.hid hu1
  have HCU := Lib.hid (And.intro hu2 hu3)
  have HGU := Lib.hid hu4
  clear hu1 hu2 hu3 hu4 b1 HSE
  by_cases hX0 : X9 = 0
  · subst hX0
    have hXb : ((0 : Int) != 0) = false := rfl
    have hb := seX_f HSP.out.2.1
    subst hb
    have hsn := seX_s HSP.out.2.1
    have HSN := Lib.hid hsn
    have hns : NoSig L p.m := (HBB.out.resolve_left (fun h => by cases h.1)).2
    have HNS := Lib.hid hns
    obtain ⟨q, N, F, hsl⟩ := sealed p HP.out L m0 id sn k w HR0.out HM.out HSP.out.2.1 HID.out
    have hN9 : N9 = N := by rw [← HSP.out.1]; unfold seN; rw [if_pos HSP.out.2.1]; exact hsl.hn
    subst hN9
    have HSL := Lib.hid hsl
    have HU : Hid (RdO w50 AU N9 F) := Lib.hid (hsl.rd (by rw [HSP.out.2.2]; exact HU9.out))
    have h54 := hsl.h54
    have HAU : Hid (AU = none → N9 = 0 ∧ cu = 0) := Lib.hid (fun e => by obtain ⟨g, hg, _⟩ := HGU.out rfl; rw [hg] at e; cases e)
    have h92 := hsl.h92
    clear hsn hns hsl HU9 HGU hXb h54
    go_wp2_with fail
    refine (al_open0 HSL.out AU cu w50 HU.out HAU.out HCU.out.1 HCU.out.2 RT.out).mono ?_
    rintro e w60 ⟨A8, c8, L8, rfl, ho, hI, hA, hc1, hc2, b1⟩
    have RTn := Lib.hid (RT.out.below b1 RT.out.lt)
    clear RT
    have RT := RTn
    clear RTn
    have KPn := Lib.hid (KP.out.below b1 KP.out.lt)
    clear KP
    have KP := KPn
    clear KPn
    have KKn := Lib.hid (KK.out.below b1 KK.out.lt)
    clear KK
    have KK := KKn
    clear KKn
    have K5n := Lib.hid (K5.out.below b1 K5.out.lt)
    clear K5
    have K5 := K5n
    clear K5n
    have HOn := Lib.hid (HO.out.below b1)
    clear HO
    have HO := HOn
    clear HOn
    have HUn := Lib.hid (HU.out.below b1)
    clear HU
    have HU := HUn
    clear HUn
    have HBn := Lib.hid (HB.out.trans (b1.mono HB.out.size))
    clear HB
    have HB := HBn
    clear HBn
    have HO8 : Hid (TwO w60 w50.heap.size (.slice A8 (p.m + 1) c8) (p.m + 1) L8) := Lib.hid ho
    have HI8 := Lib.hid (And.intro hI hA)
    clear ho hI hA hc1 hc2 b1
    obtain ⟨N61, hN61⟩ : ∃ N, w60.heap.size = N := ⟨_, rfl⟩
    have HN61 := Lib.hid hN61
    clear hN61
    go_wp2_with (refine wpList_new (op := ⟨some 8, _, _, _, _, _⟩) rfl 46 rfl (pdC pd0) zero_pdP N61 HN61.out ?_; intro w61 k1 b1 s1; refine Hid.out ?_)
    refine Lib.hid ?_
    have K8 := Lib.hid k1
    have hNK8 := Lib.hid (Nat.le_of_eq HN61.out)
    have hbx := Lib.hid b1
    clear k1
    have lt_0_N61 : 0 < N61 := by rw [← HN61.out]; exact RT.out.lt
    have lt_N1_N61 : N1 < N61 := by rw [← HN61.out]; exact KP.out.lt
    have lt_N2_N61 : N2 < N61 := by rw [← HN61.out]; exact KK.out.lt
    have lt_N11_N61 : N11 < N61 := by rw [← HN61.out]; exact K5.out.lt
    have le_HB_N61 : w.heap.size ≤ N61 := by rw [← HN61.out]; exact HB.out.size
    have RTn := Lib.hid (RT.out.below b1 RT.out.lt)
    clear RT
    have RT := RTn
    clear RTn
    have KPn := Lib.hid (KP.out.below b1 KP.out.lt)
    clear KP
    have KP := KPn
    clear KPn
    have KKn := Lib.hid (KK.out.below b1 KK.out.lt)
    clear KK
    have KK := KKn
    clear KKn
    have K5n := Lib.hid (K5.out.below b1 K5.out.lt)
    clear K5
    have K5 := K5n
    clear K5n
    have HBn := Lib.hid (HB.out.trans (b1.mono HB.out.size))
    clear HB
    have HB := HBn
    clear HBn
    clear b1 HN61
    go_wp2_with (refine wpList_st rfl 46 (.tmp 8) (.tmp 41) rfl N61 0 rfl (.agg (pdC (withT (rdP q F) A8 (p.m + 1) c8))) (pdC (withT (rdP q F) A8 (p.m + 1) c8)) rfl rfl info_pdP (pdC_one _) K8.out (Nat.le_of_ble_eq_true rfl) (C' := pdC (withT (rdP q F) A8 (p.m + 1) c8)) (pd_over _ _) ?_; intro w70 q1; refine Hid.out ?_)
    refine Lib.hid ?_
    have hby := Lib.hid (hbx.out.trans (q1.2.1 _ hNK8.out))
    have RTn := Lib.hid (RT.out.far q1 (by omega))
    clear RT
    have RT := RTn
    clear RTn
    have KPn := Lib.hid (KP.out.far q1 (by omega))
    clear KP
    have KP := KPn
    clear KPn
    have KKn := Lib.hid (KK.out.far q1 (by omega))
    clear KK
    have KK := KKn
    clear KKn
    have K5n := Lib.hid (K5.out.far q1 (by omega))
    clear K5
    have K5 := K5n
    clear K5n
    have HBn := Lib.hid (HB.out.trans (q1.2.1 _ (by omega)))
    clear HB
    have HB := HBn
    clear HBn
    have K8n : Hid (Blk 46 w70 N61 (pdC (withT (rdP q F) A8 (p.m + 1) c8))) := Lib.hid q1.1
    clear K8
    have K8 := K8n
    clear K8n q1
    have HOn : Hid (TwO w70 w20.heap.size (.slice A9 p.m c9) p.m L2) := Lib.hid (HO.out.below hby.out)
    clear HO
    have HO := HOn
    clear HOn
    have HUn : Hid (RdO w70 AU N9 F) := Lib.hid (HU.out.below hby.out)
    clear HU
    have HU := HUn
    clear HUn
    have HO8n : Hid (TwO w70 w50.heap.size (.slice A8 (p.m + 1) c8) (p.m + 1) L8) := Lib.hid (HO8.out.below hby.out)
    clear HO8
    have HO8 := HO8n
    clear HO8n
    clear hby hbx hNK8
    go_wp2_with (refine wpList_ld (op := ⟨some 44, _, _, _, _, _⟩) (by rfl) 46 (.tmp 8) rfl N61 0 rfl (pdC (withT (rdP q F) A8 (p.m + 1) c8)) _ K8.out.all Tryd.underlying46 rfl info_pdP ?_; refine Hid.out ?_)
    refine Lib.hid ?_
    go_wp2_with (refine wpList_ld (op := ⟨some 45, _, _, _, _, _⟩) (by rfl) 45 (.tmp 3) rfl N2 0 rfl (kC ⟨(id : Int), A, sn, sc, k⟩) _ KK.out.all Tryd.underlying45 rfl info_key ?_; refine Hid.out ?_)
    refine Lib.hid ?_
    go_wp2_with fail
    refine (al_reseal2 HSL.out HSN.out HID.out w70 A8 c8 L8 HI8.out.1 (by obtain ⟨A7, c7, e7, _, _, _, h7⟩ := OwnT.shape HO8.out; injection e7 with e7 _ _; rw [e7]; exact h7) HI8.out.2 (sl_m HSL.out) A sc (HKEY.out.below HB.out).2.1 HKEY.out.2.2.1 RT.out).mono ?_
    rintro e w80 ⟨A6, n6, c6, X6, rfl, hX6, b1⟩
    have RTn := Lib.hid (RT.out.below b1 RT.out.lt)
    clear RT
    have RT := RTn
    clear RTn
    have KPn := Lib.hid (KP.out.below b1 KP.out.lt)
    clear KP
    have KP := KPn
    clear KPn
    have KKn := Lib.hid (KK.out.below b1 KK.out.lt)
    clear KK
    have KK := KKn
    clear KKn
    have K5n := Lib.hid (K5.out.below b1 K5.out.lt)
    clear K5
    have K5 := K5n
    clear K5n
    have K8n := Lib.hid (K8.out.below b1 K8.out.lt)
    clear K8
    have K8 := K8n
    clear K8n
    have HOn := Lib.hid (HO.out.below b1)
    clear HO
    have HO := HOn
    clear HOn
    have HUn := Lib.hid (HU.out.below b1)
    clear HU
    have HU := HUn
    clear HUn
    have HO8n := Lib.hid (HO8.out.below b1)
    clear HO8
    have HO8 := HO8n
    clear HO8n
    have HBn := Lib.hid (HB.out.trans (b1.mono HB.out.size))
    clear HB
    have HB := HBn
    clear HBn
    have HX6 := Lib.hid hX6
    clear b1 hX6
    clear HO8 HI8
    go_wp2_with (refine wpList_ld (op := ⟨some 51, _, _, _, _, _⟩) (by rfl) 45 (.tmp 3) rfl N2 0 rfl (kC ⟨(id : Int), A, sn, sc, k⟩) _ KK.out.all Tryd.underlying45 rfl info_key ?_; refine Hid.out ?_)
    refine Lib.hid ?_
    obtain ⟨N81, hN81⟩ : ∃ N, w80.heap.size = N := ⟨_, rfl⟩
    have HN81 := Lib.hid hN81
    clear hN81
    go_wp2_with (refine wpList_bsn (op := ⟨some 52, _, _, _, _, _⟩) 1 rfl 45 (kC ⟨(id : Int), A, sn, sc, k⟩) (bs_key _ _ _ rfl ⟨(id : Int), A, sn, sc, k⟩ rfl) N81 HN81.out ?_; intro w81 k1 b1 s1; refine Hid.out ?_)
    refine Lib.hid ?_
    have KQ := Lib.hid k1
    clear k1
    have lt_0_N81 : 0 < N81 := by rw [← HN81.out]; exact RT.out.lt
    have lt_N1_N81 : N1 < N81 := by rw [← HN81.out]; exact KP.out.lt
    have lt_N2_N81 : N2 < N81 := by rw [← HN81.out]; exact KK.out.lt
    have lt_N11_N81 : N11 < N81 := by rw [← HN81.out]; exact K5.out.lt
    have lt_N61_N81 : N61 < N81 := by rw [← HN81.out]; exact K8.out.lt
    have le_HB_N81 : w.heap.size ≤ N81 := by rw [← HN81.out]; exact HB.out.size
    have RTn := Lib.hid (RT.out.below b1 RT.out.lt)
    clear RT
    have RT := RTn
    clear RTn
    have KPn := Lib.hid (KP.out.below b1 KP.out.lt)
    clear KP
    have KP := KPn
    clear KPn
    have KKn := Lib.hid (KK.out.below b1 KK.out.lt)
    clear KK
    have KK := KKn
    clear KKn
    have K5n := Lib.hid (K5.out.below b1 K5.out.lt)
    clear K5
    have K5 := K5n
    clear K5n
    have K8n := Lib.hid (K8.out.below b1 K8.out.lt)
    clear K8
    have K8 := K8n
    clear K8n
    have HOn := Lib.hid (HO.out.below b1)
    clear HO
    have HO := HOn
    clear HOn
    have HUn := Lib.hid (HU.out.below b1)
    clear HU
    have HU := HUn
    clear HUn
    have HBn := Lib.hid (HB.out.trans (b1.mono HB.out.size))
    clear HB
    have HB := HBn
    clear HBn
    clear b1 HN81
    go_wp2_with fail
    refine (al_openG HSL.out HID.out HNS.out F HSL.out.good HSL.out.h4 (al_refl q F _) (fun _ _ _ => rfl) AU cu w81 HU.out HAU.out HCU.out.1 HCU.out.2 RT.out _ 1 1 _ (rdK_one KQ.out (HKEY.out.below HB.out)) (keysE_one HSN.out) 0 (fstK_one rfl) rfl rfl).mono ?_
    rintro e w100 ⟨A4, c4, L4, rfl, ho, hI, hA, hc1, hc2, b1⟩
    have RTn := Lib.hid (RT.out.below b1 RT.out.lt)
    clear RT
    have RT := RTn
    clear RTn
    have KPn := Lib.hid (KP.out.below b1 KP.out.lt)
    clear KP
    have KP := KPn
    clear KPn
    have KKn := Lib.hid (KK.out.below b1 KK.out.lt)
    clear KK
    have KK := KKn
    clear KKn
    have K5n := Lib.hid (K5.out.below b1 K5.out.lt)
    clear K5
    have K5 := K5n
    clear K5n
    have K8n := Lib.hid (K8.out.below b1 K8.out.lt)
    clear K8
    have K8 := K8n
    clear K8n
    have KQn := Lib.hid (KQ.out.below b1 KQ.out.lt)
    clear KQ
    have KQ := KQn
    clear KQn
    have HOn := Lib.hid (HO.out.below b1)
    clear HO
    have HO := HOn
    clear HOn
    have HUn := Lib.hid (HU.out.below b1)
    clear HU
    have HU := HUn
    clear HUn
    have HBn := Lib.hid (HB.out.trans (b1.mono HB.out.size))
    clear HB
    have HB := HBn
    clear HBn
    have HO4 : Hid (TwO w100 w81.heap.size (.slice A4 (p.m) c4) (p.m) L4) := Lib.hid ho
    have HI4 := Lib.hid (And.intro hI hA)
    clear ho hI hA hc1 hc2 b1
    clear KQ
    obtain ⟨N101, hN101⟩ : ∃ N, w100.heap.size = N := ⟨_, rfl⟩
    have HN101 := Lib.hid hN101
    clear hN101
    go_wp2_with (refine wpList_new (op := ⟨some 12, _, _, _, _, _⟩) rfl 46 rfl (pdC pd0) zero_pdP N101 HN101.out ?_; intro w101 k1 b1 s1; refine Hid.out ?_)
    refine Lib.hid ?_
    have K12 := Lib.hid k1
    have hNK12 := Lib.hid (Nat.le_of_eq HN101.out)
    have hbx := Lib.hid b1
    clear k1
    have lt_0_N101 : 0 < N101 := by rw [← HN101.out]; exact RT.out.lt
    have lt_N1_N101 : N1 < N101 := by rw [← HN101.out]; exact KP.out.lt
    have lt_N2_N101 : N2 < N101 := by rw [← HN101.out]; exact KK.out.lt
    have lt_N11_N101 : N11 < N101 := by rw [← HN101.out]; exact K5.out.lt
    have lt_N61_N101 : N61 < N101 := by rw [← HN101.out]; exact K8.out.lt
    have le_HB_N101 : w.heap.size ≤ N101 := by rw [← HN101.out]; exact HB.out.size
    have RTn := Lib.hid (RT.out.below b1 RT.out.lt)
    clear RT
    have RT := RTn
    clear RTn
    have KPn := Lib.hid (KP.out.below b1 KP.out.lt)
    clear KP
    have KP := KPn
    clear KPn
    have KKn := Lib.hid (KK.out.below b1 KK.out.lt)
    clear KK
    have KK := KKn
    clear KKn
    have K5n := Lib.hid (K5.out.below b1 K5.out.lt)
    clear K5
    have K5 := K5n
    clear K5n
    have K8n := Lib.hid (K8.out.below b1 K8.out.lt)
    clear K8
    have K8 := K8n
    clear K8n
    have HBn := Lib.hid (HB.out.trans (b1.mono HB.out.size))
    clear HB
    have HB := HBn
    clear HBn
    clear b1 HN101
    go_wp2_with (refine wpList_st rfl 46 (.tmp 12) (.tmp 54) rfl N101 0 rfl (.agg (pdC (withT (rdP q F) A4 p.m c4))) (pdC (withT (rdP q F) A4 p.m c4)) rfl rfl info_pdP (pdC_one _) K12.out (Nat.le_of_ble_eq_true rfl) (C' := pdC (withT (rdP q F) A4 p.m c4)) (pd_over _ _) ?_; intro w110 q1; refine Hid.out ?_)
    refine Lib.hid ?_
    have hby := Lib.hid (hbx.out.trans (q1.2.1 _ hNK12.out))
    have RTn := Lib.hid (RT.out.far q1 (by omega))
    clear RT
    have RT := RTn
    clear RTn
    have KPn := Lib.hid (KP.out.far q1 (by omega))
    clear KP
    have KP := KPn
    clear KPn
    have KKn := Lib.hid (KK.out.far q1 (by omega))
    clear KK
    have KK := KKn
    clear KKn
    have K5n := Lib.hid (K5.out.far q1 (by omega))
    clear K5
    have K5 := K5n
    clear K5n
    have K8n := Lib.hid (K8.out.far q1 (by omega))
    clear K8
    have K8 := K8n
    clear K8n
    have HBn := Lib.hid (HB.out.trans (q1.2.1 _ (by omega)))
    clear HB
    have HB := HBn
    clear HBn
    have K12n : Hid (Blk 46 w110 N101 (pdC (withT (rdP q F) A4 p.m c4))) := Lib.hid q1.1
    clear K12
    have K12 := K12n
    clear K12n q1
    have HOn : Hid (TwO w110 w20.heap.size (.slice A9 p.m c9) p.m L2) := Lib.hid (HO.out.below hby.out)
    clear HO
    have HO := HOn
    clear HOn
    have HUn : Hid (RdO w110 AU N9 F) := Lib.hid (HU.out.below hby.out)
    clear HU
    have HU := HUn
    clear HUn
    have HO4n : Hid (TwO w110 w81.heap.size (.slice A4 (p.m) c4) (p.m) L4) := Lib.hid (HO4.out.below hby.out)
    clear HO4
    have HO4 := HO4n
    clear HO4n
    clear hby hbx hNK12
    go_wp2_with (refine wpList_ld (op := ⟨some 57, _, _, _, _, _⟩) (by rfl) 46 (.tmp 12) rfl N101 0 rfl (pdC (withT (rdP q F) A4 p.m c4)) _ K12.out.all Tryd.underlying46 rfl info_pdP ?_; refine Hid.out ?_)
    refine Lib.hid ?_
    go_wp2_with (refine wpList_ld (op := ⟨some 58, _, _, _, _, _⟩) (by rfl) 45 (.tmp 3) rfl N2 0 rfl (kC ⟨(id : Int), A, sn, sc, k⟩) _ KK.out.all Tryd.underlying45 rfl info_key ?_; refine Hid.out ?_)
    refine Lib.hid ?_
    go_wp2_with fail
    refine (al_reseal HSL.out HNS.out HSN.out HID.out w110 A4 c4 L4 HI4.out.1 (by obtain ⟨A7, c7, e7, _, _, _, h7⟩ := OwnT.shape HO4.out; injection e7 with e7 _ _; rw [e7]; exact h7) HI4.out.2 H32.out A sc (HKEY.out.below HB.out).2.1 HKEY.out.2.2.1 RT.out).mono ?_
    rintro e w120 ⟨AV, cv, rfl, hu1, hu2, hu3, b1, hu4⟩
    have RTn := Lib.hid (RT.out.below b1 RT.out.lt)
    clear RT
    have RT := RTn
    clear RTn
    have KPn := Lib.hid (KP.out.below b1 KP.out.lt)
    clear KP
    have KP := KPn
    clear KPn
    have KKn := Lib.hid (KK.out.below b1 KK.out.lt)
    clear KK
    have KK := KKn
    clear KKn
    have K5n := Lib.hid (K5.out.below b1 K5.out.lt)
    clear K5
    have K5 := K5n
    clear K5n
    have K8n := Lib.hid (K8.out.below b1 K8.out.lt)
    clear K8
    have K8 := K8n
    clear K8n
    have K12n := Lib.hid (K12.out.below b1 K12.out.lt)
    clear K12
    have K12 := K12n
    clear K12n
    have HOn := Lib.hid (HO.out.below b1)
    clear HO
    have HO := HOn
    clear HOn
    have HUn := Lib.hid (HU.out.below b1)
    clear HU
    have HU := HUn
    clear HUn
    have HO4n := Lib.hid (HO4.out.below b1)
    clear HO4
    have HO4 := HO4n
    clear HO4n
    have HBn := Lib.hid (HB.out.trans (b1.mono HB.out.size))
    clear HB
    have HB := HBn
    clear HBn
    have HV : Hid (RdO w120 AV N9 F) := Lib.hid (rd_zc hu1 (fun j hj => (resign HSL.out HNS.out HSN.out).2.2.2.2 j hj) HSL.out.hb)
    clear hu1 hu2 hu3 hu4 b1
    clear HO4 HI4
    go_wp2_with (refine wpList_ld (op := ⟨some 63, _, _, _, _, _⟩) (by rfl) 46 (.tmp 5) rfl N11 0 rfl (pdC (withT p A9 p.m c9)) _ K5.out.all Tryd.underlying46 rfl info_pdP ?_; refine Hid.out ?_)
    refine Lib.hid ?_
    go_wp2_with fail
    refine (al_write HSL.out HP.out HSP.out.2.1 HM.out L2 HAL.out w120 A9 c9 (by obtain ⟨A7, c7, e7, _, _, _, h7⟩ := OwnT.shape HO.out; injection e7 with e7 _ _; rw [e7]; exact h7) HA9.out.2.1 HA9.out.2.2).mono ?_
    rintro e w130 ⟨AW, cw, rfl, hu1, hu2, hu3, b1, hu4⟩
    have RTn := Lib.hid (RT.out.below b1 RT.out.lt)
    clear RT
    have RT := RTn
    clear RTn
    have KPn := Lib.hid (KP.out.below b1 KP.out.lt)
    clear KP
    have KP := KPn
    clear KPn
    have KKn := Lib.hid (KK.out.below b1 KK.out.lt)
    clear KK
    have KK := KKn
    clear KKn
    have K5n := Lib.hid (K5.out.below b1 K5.out.lt)
    clear K5
    have K5 := K5n
    clear K5n
    have K8n := Lib.hid (K8.out.below b1 K8.out.lt)
    clear K8
    have K8 := K8n
    clear K8n
    have K12n := Lib.hid (K12.out.below b1 K12.out.lt)
    clear K12
    have K12 := K12n
    clear K12n
    have HOn := Lib.hid (HO.out.below b1)
    clear HO
    have HO := HOn
    clear HOn
    have HUn := Lib.hid (HU.out.below b1)
    clear HU
    have HU := HUn
    clear HUn
    have HVn := Lib.hid (HV.out.below b1)
    clear HV
    have HV := HVn
    clear HVn
    have HBn := Lib.hid (HB.out.trans (b1.mono HB.out.size))
    clear HB
    have HB := HBn
    clear HBn
    have HW : Hid (RdO w130 AW (hdN q + sz L2 p.m) (pdZ (withT p A9 p.m c9) q L2)) := Lib.hid hu1
    have HCW := Lib.hid (And.intro hu2 hu3)
    have HAW : Hid (AW = none → hdN q + sz L2 p.m = 0 ∧ cw = 0) := Lib.hid (fun e => by obtain ⟨g, hg, _⟩ := hu4 rfl; rw [hg] at e; cases e)
    clear hu1 hu2 hu3 hu4 b1
    clear HO
    go_wp2_with (refine wpList_ld (op := ⟨some 69, _, _, _, _, _⟩) (by rfl) 45 (.tmp 3) rfl N2 0 rfl (kC ⟨(id : Int), A, sn, sc, k⟩) _ KK.out.all Tryd.underlying45 rfl info_key ?_; refine Hid.out ?_)
    refine Lib.hid ?_
    obtain ⟨N131, hN131⟩ : ∃ N, w130.heap.size = N := ⟨_, rfl⟩
    have HN131 := Lib.hid hN131
    clear hN131
    go_wp2_with (refine wpList_bsn (op := ⟨some 70, _, _, _, _, _⟩) 1 rfl 45 (kC ⟨(id : Int), A, sn, sc, k⟩) (bs_key _ _ _ rfl ⟨(id : Int), A, sn, sc, k⟩ rfl) N131 HN131.out ?_; intro w131 k1 b1 s1; refine Hid.out ?_)
    refine Lib.hid ?_
    have KQ := Lib.hid k1
    clear k1
    have lt_0_N131 : 0 < N131 := by rw [← HN131.out]; exact RT.out.lt
    have lt_N1_N131 : N1 < N131 := by rw [← HN131.out]; exact KP.out.lt
    have lt_N2_N131 : N2 < N131 := by rw [← HN131.out]; exact KK.out.lt
    have lt_N11_N131 : N11 < N131 := by rw [← HN131.out]; exact K5.out.lt
    have lt_N61_N131 : N61 < N131 := by rw [← HN131.out]; exact K8.out.lt
    have lt_N101_N131 : N101 < N131 := by rw [← HN131.out]; exact K12.out.lt
    have le_HB_N131 : w.heap.size ≤ N131 := by rw [← HN131.out]; exact HB.out.size
    have RTn := Lib.hid (RT.out.below b1 RT.out.lt)
    clear RT
    have RT := RTn
    clear RTn
    have KPn := Lib.hid (KP.out.below b1 KP.out.lt)
    clear KP
    have KP := KPn
    clear KPn
    have KKn := Lib.hid (KK.out.below b1 KK.out.lt)
    clear KK
    have KK := KKn
    clear KKn
    have K5n := Lib.hid (K5.out.below b1 K5.out.lt)
    clear K5
    have K5 := K5n
    clear K5n
    have K8n := Lib.hid (K8.out.below b1 K8.out.lt)
    clear K8
    have K8 := K8n
    clear K8n
    have K12n := Lib.hid (K12.out.below b1 K12.out.lt)
    clear K12
    have K12 := K12n
    clear K12n
    have HUn := Lib.hid (HU.out.below b1)
    clear HU
    have HU := HUn
    clear HUn
    have HVn := Lib.hid (HV.out.below b1)
    clear HV
    have HV := HVn
    clear HVn
    have HWn := Lib.hid (HW.out.below b1)
    clear HW
    have HW := HWn
    clear HWn
    have HBn := Lib.hid (HB.out.trans (b1.mono HB.out.size))
    clear HB
    have HB := HBn
    clear HBn
    clear b1 HN131
    go_wp2_with fail
    refine (al_openw HSL.out HP.out HSP.out.2.1 HM.out HNS.out L2 HAL.out A9 c9 AW cw w131 HW.out HAW.out HCW.out.1 HCW.out.2 RT.out _ 1 1 _ (rdK_one KQ.out (HKEY.out.below HB.out)) (keysE_one HSN.out) (by decide)).mono ?_
    rintro e w150 ⟨rfl, b1⟩
    have RTn := Lib.hid (RT.out.below b1 RT.out.lt)
    clear RT
    have RT := RTn
    clear RTn
    have KPn := Lib.hid (KP.out.below b1 KP.out.lt)
    clear KP
    have KP := KPn
    clear KPn
    have KKn := Lib.hid (KK.out.below b1 KK.out.lt)
    clear KK
    have KK := KKn
    clear KKn
    have K5n := Lib.hid (K5.out.below b1 K5.out.lt)
    clear K5
    have K5 := K5n
    clear K5n
    have K8n := Lib.hid (K8.out.below b1 K8.out.lt)
    clear K8
    have K8 := K8n
    clear K8n
    have K12n := Lib.hid (K12.out.below b1 K12.out.lt)
    clear K12
    have K12 := K12n
    clear K12n
    have KQn := Lib.hid (KQ.out.below b1 KQ.out.lt)
    clear KQ
    have KQ := KQn
    clear KQn
    have HUn := Lib.hid (HU.out.below b1)
    clear HU
    have HU := HUn
    clear HUn
    have HVn := Lib.hid (HV.out.below b1)
    clear HV
    have HV := HVn
    clear HVn
    have HWn := Lib.hid (HW.out.below b1)
    clear HW
    have HW := HWn
    clear HWn
    have HBn := Lib.hid (HB.out.trans (b1.mono HB.out.size))
    clear HB
    have HB := HBn
    clear HBn
    clear b1
    clear KQ
    clear HW HCW HAW
    obtain ⟨N151, hN151⟩ : ∃ N, w150.heap.size = N := ⟨_, rfl⟩
    have HN151 := Lib.hid hN151
    clear hN151
    go_wp2_with (refine wpList_new (op := ⟨some 18, _, _, _, _, _⟩) rfl 46 rfl (pdC pd0) zero_pdP N151 HN151.out ?_; intro w151 k1 b1 s1; refine Hid.out ?_)
    refine Lib.hid ?_
    have K18 := Lib.hid k1
    have hNK18 := Lib.hid (Nat.le_of_eq HN151.out)
    have hbx := Lib.hid b1
    clear k1
    have lt_0_N151 : 0 < N151 := by rw [← HN151.out]; exact RT.out.lt
    have lt_N1_N151 : N1 < N151 := by rw [← HN151.out]; exact KP.out.lt
    have lt_N2_N151 : N2 < N151 := by rw [← HN151.out]; exact KK.out.lt
    have lt_N11_N151 : N11 < N151 := by rw [← HN151.out]; exact K5.out.lt
    have lt_N61_N151 : N61 < N151 := by rw [← HN151.out]; exact K8.out.lt
    have lt_N101_N151 : N101 < N151 := by rw [← HN151.out]; exact K12.out.lt
    have le_HB_N151 : w.heap.size ≤ N151 := by rw [← HN151.out]; exact HB.out.size
    have RTn := Lib.hid (RT.out.below b1 RT.out.lt)
    clear RT
    have RT := RTn
    clear RTn
    have KPn := Lib.hid (KP.out.below b1 KP.out.lt)
    clear KP
    have KP := KPn
    clear KPn
    have KKn := Lib.hid (KK.out.below b1 KK.out.lt)
    clear KK
    have KK := KKn
    clear KKn
    have K5n := Lib.hid (K5.out.below b1 K5.out.lt)
    clear K5
    have K5 := K5n
    clear K5n
    have K8n := Lib.hid (K8.out.below b1 K8.out.lt)
    clear K8
    have K8 := K8n
    clear K8n
    have K12n := Lib.hid (K12.out.below b1 K12.out.lt)
    clear K12
    have K12 := K12n
    clear K12n
    have HBn := Lib.hid (HB.out.trans (b1.mono HB.out.size))
    clear HB
    have HB := HBn
    clear HBn
    clear b1 HN151
    go_wp2_with (refine wpList_st rfl 46 (.tmp 18) (.tmp 72) rfl N151 0 rfl (.agg (pdC pd0)) (pdC pd0) rfl rfl info_pdP (pdC_one _) K18.out (Nat.le_of_ble_eq_true rfl) (C' := pdC pd0) (pd_over _ _) ?_; intro w160 q1; refine Hid.out ?_)
    refine Lib.hid ?_
    have hby := Lib.hid (hbx.out.trans (q1.2.1 _ hNK18.out))
    have RTn := Lib.hid (RT.out.far q1 (by omega))
    clear RT
    have RT := RTn
    clear RTn
    have KPn := Lib.hid (KP.out.far q1 (by omega))
    clear KP
    have KP := KPn
    clear KPn
    have KKn := Lib.hid (KK.out.far q1 (by omega))
    clear KK
    have KK := KKn
    clear KKn
    have K5n := Lib.hid (K5.out.far q1 (by omega))
    clear K5
    have K5 := K5n
    clear K5n
    have K8n := Lib.hid (K8.out.far q1 (by omega))
    clear K8
    have K8 := K8n
    clear K8n
    have K12n := Lib.hid (K12.out.far q1 (by omega))
    clear K12
    have K12 := K12n
    clear K12n
    have HBn := Lib.hid (HB.out.trans (q1.2.1 _ (by omega)))
    clear HB
    have HB := HBn
    clear HBn
    have K18n : Hid (Blk 46 w160 N151 (pdC pd0)) := Lib.hid q1.1
    clear K18
    have K18 := K18n
    clear K18n q1
    have HUn : Hid (RdO w160 AU N9 F) := Lib.hid (HU.out.below hby.out)
    clear HU
    have HU := HUn
    clear HUn
    have HVn : Hid (RdO w160 AV N9 F) := Lib.hid (HV.out.below hby.out)
    clear HV
    have HV := HVn
    clear HVn
    clear hby hbx hNK18
    rcases HX6.out with rfl | rfl
    · go_wp2_with fail
      refine (same_yes AV AU N9 cv cu F F w160 HV.out HU.out (fun _ _ => rfl) (by omega)).mono ?_
      rintro e w170 ⟨rfl, n9, rfl⟩
      have hbq := HB.out.trans ((drewB w160 n9).mono HB.out.size)
      go_wp2_with fail
      go_ret
      exact ⟨rfl, hbq⟩
    · go_wp2_with fail
      refine (same_yes AV AU N9 cv cu F F w160 HV.out HU.out (fun _ _ => rfl) (by omega)).mono ?_
      rintro e w170 ⟨rfl, n9, rfl⟩
      have hbq := HB.out.trans ((drewB w160 n9).mono HB.out.size)
      go_wp2_with fail
      go_ret
      exact ⟨rfl, hbq⟩
  · have hN0 : N9 = 0 := by rw [← HSP.out.1]; unfold seN; rw [HSP.out.2.1, if_neg hX0]
    subst hN0
    have hXb : (X9 != 0) = true := by simpa using hX0
    go_wp2
    go_ret
    exact ⟨rfl, HB.out⟩
end Go.Proofs.YtccoicjmmeoggaaDoor

/- What mac's rows have alike: the table of roots, out of the row's list; a start that meets the list. -/
namespace Go.Proofs.YtccoicjmmeoggaaDoor
open Go.ChangeShapes Go.WideShapes Go.ChangeAt Go.RowKit
set_option linter.unusedVariables false

theorem own : ownKnob Tryd.prog.godebug = none := by kernel_rfl
theorem laidOut : laidOutB Tryd.prog = true := by kernel_rfl
theorem gRoot : Tryd.prog.globalNamed "waymark/mac.roots" = some 0 := by kernel_rfl
theorem gRootT : (Tryd.prog.globals[0]?).map (·.type) = some 76 := by kernel_rfl
theorem gRootC : Tryd.prog.cellsOf 76 = 64 := by kernel_rfl
theorem cu32 : Tryd.prog.cellsOf 39 = 1 := by kernel_rfl
def rootI : List Int := rootL.map fun (n : Nat) => (n : Int)
/-- what the rows list -/
def laidL : List (String × DataW Unit) := Rows.macPadsRow.laid
theorem laidL_eq : laidL = [("waymark/mac.roots", Lib.tabData .u32 rootI)] := by kernel_rfl
theorem rts_of_laid {W : World} (h : laidMetH Tryd.prog laidL W) : Rts W 0 := by
  rw [laidL_eq] at h
  rw [MakeChecks.laidMetH_plain _ _ _ (by kernel_rfl)] at h
  have ht := Lib.tabIs_of_head gRoot gRootT Tryd.underlying76 Tryd.underlying39 cu32 gRootC h
  refine ⟨fun i hi => ?_, ?_⟩
  · rw [ht.cell gRoot i (by show i < 64; exact hi)]
    unfold rootI rootN
    rw [List.getD_eq_getElem?_getD, List.getD_eq_getElem?_getD, List.getElem?_map]
    have hl : rootL.length = 64 := rfl
    rw [List.getElem?_eq_getElem (by rw [hl]; exact hi)]
    rfl
  · have hc := ht.cell gRoot 0 (by decide)
    exact World.block_lt_of_cell? W _ hc
/-- A start for the witness: the door's own. -/
noncomputable def laidWorld (os : Os) : World := World.doorLaid Tryd.prog 72 os
theorem laid_met (os : Os) (args : Array Value) : laidMet Tryd.prog laidL ((laidWorld os).forCall (fun _ _ => 0) ⟨#[], args, []⟩).memory :=
  laidMet_of_run' 8 (by kernel_rfl) (by kernel_rfl)
end Go.Proofs.YtccoicjmmeoggaaDoor
