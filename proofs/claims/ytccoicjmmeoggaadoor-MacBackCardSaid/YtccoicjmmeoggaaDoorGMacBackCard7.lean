/- Texts of this claim put together; each theorem states its conditions. -/
import Derived.Test.YtccoicjmmeoggaaDoorGMacBackCard6
import Derived.Test.YtccoicjmmeoggaaDoorGMacBackCard5
import Derived.Test.YtccoicjmmeoggaaDoorGMacBackCard2
import Derived.Test.YtccoicjmmeoggaaDoorGMacBackCard4
/- mac.checkKeys; the search for a key's number. Each theorem states its conditions. -/
namespace Go.Proofs.YtccoicjmmeoggaaDoor
open Go.RowKit
set_option linter.unusedVariables false
set_option linter.unusedSimpArgs false

/-- the least error of the first keys -/
def ckE (K : Nat → It) : Nat → Int
  | 0 => 0
  | j + 1 => lea (ckE K j) (secE (K j).n)
theorem lea_3 {a b : Int} (ha : 0 ≤ a ∧ a ≤ 3) (hb : 0 ≤ b ∧ b ≤ 3) : 0 ≤ lea a b ∧ lea a b ≤ 3 := by unfold lea; (repeat' split) <;> omega
theorem ckE_bd (K : Nat → It) (m : Nat) : 0 ≤ ckE K m ∧ ckE K m ≤ 3 := by
  induction m with
  | zero => exact ⟨Int.le_refl 0, by show (0 : Int) ≤ 3; decide⟩
  | succ m ih => exact lea_3 ih (secE_bd _)
def keysE (K : Nat → It) (m : Nat) : Int := if 8 < m then 2 else ckE K m
theorem keysE_bd (K : Nat → It) (m : Nat) : 0 ≤ keysE K m ∧ keysE K m ≤ 3 := by
  unfold keysE; split
  · decide
  · exact ckE_bd K m
theorem rdK_rng {w : World} {b off m : Nat} {K : Nat → It} (h : RowR w b off m 2 (kR K)) (j : Nat) (hj : j < m) : w.rangeAt b (off + j * 2) (kC (K j)).toList := h.2 j hj
set_option maxHeartbeats 8000000 in
set_option maxRecDepth 100000 in
theorem checkKeys_any (A : Option Addr) (m c : Nat) (K : Nat → It) (w : World) (h : RdK w A m K) :
    Calls Tryd.prog 46 #[.slice A m c] w fun e w' => e = .returned (.int .i64 (keysE K m)) ∧ Below w.heap.size w w' := by
  have HR := Lib.hid h
  clear h
  by_cases hl : 8 < m
  · have hl2 : (8 : Int) < (m : Int) := by omega
    have hE : Hid (keysE K m = 2) := Lib.hid (if_pos hl)
    clear hl
    go_enter Tryd.func46, Tryd.ntmps46
    go_wp2_with fail
    go_ret
    exact ⟨by rw [hE.out]; rfl, Below.refl _ _⟩
  · have hl2 : ¬ (8 : Int) < (m : Int) := by omega
    have hE : Hid (keysE K m = ckE K m) := Lib.hid (if_neg hl)
    have hm8 : m ≤ 8 := by omega
    clear hl
    go_enter Tryd.func46, Tryd.ntmps46
    go_wp2_with fail
    go_loopw [3, 11] (fun t i wr => ∃ k : Nat, k ≤ m ∧ i = .int .i64 k ∧ t = .int .i64 (ckE K k) ∧ Hid (Below w.heap.size w wr)) (fun _ i _ => m - (intOf i).toNat)
    case atStart => exact ⟨0, by omega, rfl, rfl, Lib.hid (Below.refl _ _)⟩
    case round =>
      obtain ⟨k, hk, rfl, rfl, HB⟩ := hrel
      by_cases hlt : k < m
      · have hki : (k : Int) < (m : Int) := by omega
        obtain ⟨b, off, rfl, hr⟩ := (HR.out.below HB.out).1.row (by omega)
        have hr2 := Lib.hid (rdK_rng hr k hlt)
        clear hr
        obtain ⟨a, ha⟩ : ∃ a, ckE K k = a := ⟨_, rfl⟩
        have ba := ckE_bd K k
        rw [ha] at ba
        rw [ha]
        have HA := Lib.hid ha
        have BA := Lib.hid ba
        clear ha ba
        go_wp2_with (refine wpList_ld (op := ⟨some 14, _, _, _, _, _⟩) (by rfl) 45 (.tmp 13) rfl b (off + k * 2) rfl (kC (K k)) _ hr2.out Tryd.underlying45 rfl info_key ?_; refine Hid.out ?_)
        refine Lib.hid ?_
        clear hr2
        obtain ⟨N1, hN1⟩ : ∃ N, wr.heap.size = N := ⟨_, rfl⟩
        have HN1 := Lib.hid hN1
        clear hN1
        go_wp2_with (refine wpList_new (op := ⟨some 5, _, _, _, _, _⟩) rfl 45 rfl (kC ⟨0, none, 0, 0, nou⟩) zero_key2 N1 HN1.out ?_; intro w1 k1 b1 s1; refine Hid.out ?_)
        refine Lib.hid ?_
        have K5 := Lib.hid k1
        clear k1
        have le_HB_N1 : w.heap.size ≤ N1 := by rw [← HN1.out]; exact HB.out.size
        have HBn := Lib.hid (HB.out.trans (b1.mono HB.out.size))
        clear HB
        have HB := HBn
        clear HBn
        clear b1 HN1
        go_wp2_with (refine wpList_st rfl 45 (.tmp 5) (.tmp 14) rfl N1 0 rfl (.agg (kC (K k))) (kC (K k)) rfl rfl info_key (kC_one _) K5.out (Nat.le_of_ble_eq_true rfl) (C' := kC (K k)) (by rfl) ?_; intro w2 q1; refine Hid.out ?_)
        refine Lib.hid ?_
        have HBn := Lib.hid (HB.out.trans (q1.2.1 _ (by omega)))
        clear HB
        have HB := HBn
        clear HBn
        have K5n : Hid (Blk 45 w2 N1 (kC (K k))) := Lib.hid q1.1
        clear K5
        have K5 := K5n
        clear K5n q1
        have c5 : w2.cell? ⟨N1, 1, none⟩ = some (.slice (K k).A (K k).n (K k).c) := (K5.out.cell 1).trans rfl
        go_wp2_with fail
        refine (secret_any (K k).A (K k).n (K k).c w2).mono ?_
        rintro e w90 ⟨rfl, rfl⟩
        go_wp2_with fail
        have BS := secE_bd (K k).n
        refine (least_any a (secE (K k).n) w90 (by have := BA.out; omega) (by omega)).mono ?_
        rintro e w91 ⟨rfl, rfl⟩
        clear BS c5
        go_wp2_with fail
        go_roundw
        case rel => exact ⟨k + 1, by omega, by go_num, by show Value.int .i64 (lea a (secE (K k).n)) = .int .i64 (lea (ckE K k) (secE (K k).n)); rw [HA.out], HB⟩
        case measure => simp only [intOf]; omega
      · obtain rfl : k = m := by omega
        go_wp2_with fail
        go_ret
        exact ⟨by rw [hE.out]; rfl, HB.out⟩
set_option maxHeartbeats 4000000 in
set_option maxRecDepth 100000 in
theorem isKey_any (t : It) (N num : Nat) (w : World) (ht : 0 ≤ t.ty ∧ t.ty ≤ 65535) (hN : w.cell? ⟨N, 0, none⟩ = some (.int .u64 (num : Int))) :
    Calls Tryd.prog 75 #[.agg (kC t), .pointer (some ⟨N, 0, none⟩)] w fun e w' => e = .returned (.bool (t.ty == (num : Int))) ∧ Below w.heap.size w w' := by
  obtain ⟨id, hid⟩ : ∃ id : Nat, t.ty = (id : Int) := ⟨t.ty.toNat, by omega⟩
  have hid2 : (0 : Int) ≤ (id : Int) ∧ (id : Int) ≤ 65535 := ⟨by omega, by omega⟩
  have hNl : N < w.heap.size := cell_lt hN
  rw [hid]
  have HID := Lib.hid hid
  clear hid ht
  go_enter Tryd.func75, Tryd.ntmps75
  have HB := Lib.hid (Below.refl w.heap.size w)
  obtain ⟨N1, hN1⟩ : ∃ N, w.heap.size = N := ⟨_, rfl⟩
  have HN1 := Lib.hid hN1
  clear hN1
  go_wp2_with (refine wpList_box (op := ⟨some 2, _, _, _, _, _⟩) rfl 45 (.tmp 0) rfl (kC t) rfl N1 HN1.out ?_; intro w1 k1 b1 s1; refine Hid.out ?_)
  refine Lib.hid ?_
  have K1 := Lib.hid k1
  have c2 : w1.cell? ⟨N, 0, none⟩ = some (.int .u64 (num : Int)) := (b1.cell (p := ⟨N, 0, none⟩) hNl).trans hN
  clear k1 hN
  have HBn := Lib.hid (HB.out.trans (b1.mono HB.out.size))
  clear HB
  have HB := HBn
  clear HBn
  clear b1 HN1
  have c1 : w1.cell? ⟨N1, 0, none⟩ = some (.int .u16 (id : Int)) := (K1.out.cell 0).trans (by show some (Value.int .u16 t.ty) = _; rw [HID.out])
  go_wp2_with fail
  go_ret
  exact ⟨by simp, HB.out⟩
/-- the first of that number; none -/
def NoKey (K : Nat → It) (num n : Nat) : Prop := ∀ j, j < n → (K j).ty ≠ (num : Int)
def FstKey (K : Nat → It) (num m f : Nat) : Prop := f < m ∧ (K f).ty = (num : Int) ∧ NoKey K num f
theorem noKey_next {K : Nat → It} {num k : Nat} (h : NoKey K num k) (hq : ((K k).ty == (num : Int)) = false) : NoKey K num (k + 1) := by
  intro j hj
  by_cases e : j = k
  · subst e; simpa using hq
  · exact h j (by omega)
def IdxK (K : Nat → It) (num m : Nat) (w : World) (e : Ending) (w' : World) : Prop := ∃ r : Int, e = .returned (.int .i64 r) ∧ ((∃ f : Nat, r = (f : Int) ∧ FstKey K num m f) ∨ (r = -1 ∧ NoKey K num m)) ∧ Below w.heap.size w w'
set_option maxHeartbeats 4000000 in
set_option maxRecDepth 100000 in
theorem idxK_any (A : Option Addr) (n c : Nat) (K : Nat → It) (N num : Nat) (w : World) (hR : RdK w A n K) (hn : n ≤ 140737488351232) (hN : w.cell? ⟨N, 0, none⟩ = some (.int .u64 (num : Int))) :
    Calls Tryd.prog 74 #[.slice A n c, .func (.func 75) #[] #[.pointer (some ⟨N, 0, none⟩)]] w (IdxK K num n w) := by
  have hNl : N < w.heap.size := cell_lt hN
  have HNN := Lib.hid hN
  clear hN
  rcases Nat.eq_zero_or_pos n with rfl | hpos
  · clear hR
    go_enter Tryd.func74, Tryd.ntmps74
    go_wp2
    refine wp_loop_rounds 1 ?_
    rw [rounds_succ]
    go_wp2
    go_ret
    exact ⟨-1, rfl, .inr ⟨rfl, fun j hj => by omega⟩, Below.refl _ _⟩
  · obtain ⟨b, off, rfl, hr⟩ := hR.1.row hpos
    have HR := Lib.hid hr
    have HKE := Lib.hid hR.2
    clear hR hr
    go_enter Tryd.func74, Tryd.ntmps74
    have HB := Lib.hid (Below.refl w.heap.size w)
    go_wp2_with fail
    go_loopw [8] (fun t wr => ∃ k : Nat, k ≤ n ∧ t = .int .i64 k ∧ Hid (NoKey K num k) ∧ Hid (Below w.heap.size w wr)) (fun t _ => n - (intOf t).toNat)
    case atStart => exact ⟨0, by omega, rfl, Lib.hid (fun j hj => absurd hj (Nat.not_lt_zero _)), HB⟩
    case round =>
      obtain ⟨k, hk, rfl, HA, HW⟩ := hrel
      by_cases hlt : k < n
      · have hki : (k : Int) < (n : Int) := by omega
        have h1 : Hid (wr.rangeAt b (off + k * 2) (kC (K k)).toList) := Lib.hid (rangeAt_below (rdK_rng HR.out k hlt) HW.out HR.out.1)
        go_wp2_with (refine wpList_ld (op := ⟨some 15, _, _, _, _, _⟩) (by rfl) 45 (.tmp 14) rfl b (off + k * 2) rfl (kC (K k)) _ h1.out Tryd.underlying45 rfl info_key ?_; refine Hid.out ?_)
        refine Lib.hid ?_
        clear h1
        go_wp2_with fail
        refine (isKey_any (K k) N num wr (HKE.out k hlt).1 ((HW.out.cell (p := ⟨N, 0, none⟩) hNl).trans HNN.out)).mono ?_
        rintro e w2 ⟨rfl, b1⟩
        have HW2 := Lib.hid (HW.out.trans (b1.mono HW.out.size))
        clear b1
        cases hq : (K k).ty == (num : Int) with
        | true =>
          go_wp2_with fail
          go_ret
          exact ⟨k, rfl, .inl ⟨k, rfl, hlt, by simpa using hq, HA.out⟩, HW2.out⟩
        | false =>
          go_wp2_with fail
          go_roundw
          case rel => exact ⟨k + 1, by omega, by go_num, Lib.hid (noKey_next HA.out hq), HW2⟩
          case measure => simp only [intOf]; omega
      · obtain rfl : k = n := by omega
        go_wp2_with fail
        go_ret
        exact ⟨-1, rfl, .inr ⟨rfl, HA.out⟩, HW.out⟩
end Go.Proofs.YtccoicjmmeoggaaDoor

/- mac.isSigned: is a packet signed with one of the keys? Each theorem states its conditions. -/
namespace Go.Proofs.YtccoicjmmeoggaaDoor
open Go.RowKit
set_option linter.unusedVariables false
set_option linter.unusedSimpArgs false

theorem guard_d2 : Tryd.prog.eqGuardType Tryd.prog.depth 26 = false := by kernel_rfl
theorem und_d : Tryd.prog.underlying 26 = some (.array 32 5) := by kernel_rfl
theorem cells_eq {n : Nat} {z y : Nat → Int} (hz : ∀ j, 0 ≤ z j ∧ z j ≤ 255) (hy : ∀ j, 0 ≤ y j ∧ y j ≤ 255) :
    (((List.range n).map fun j => UInt8.ofNat (z j).toNat) == ((List.range n).map fun j => UInt8.ofNat (y j).toNat)) = decide (∀ j, j < n → z j = y j) := by
  rw [Bool.eq_iff_iff, beq_iff_eq, decide_eq_true_iff]
  constructor
  · intro h j hj
    have := congrArg (·[j]?) h
    simp only [List.getElem?_map, List.getElem?_range hj, Option.map_some, Option.some.injEq] at this
    have h1 := congrArg UInt8.toNat this
    have a := hz j
    have b := hy j
    simp at h1
    omega
  · intro h
    exact List.map_congr_left fun j hj => by rw [h j (List.mem_range.1 hj)]
/-- are the first n the same? -/
def eqD (z1 z2 : Nat → Int) (n : Nat) : Bool := decide (∀ j, j < n → z1 j = z2 j)
/-- equality of two sums, as an operation -/
theorem eql_d (o : Oper) (e : Operand → Value) (x y : Operand) (ho : o.op = .binOp .eql 26 x y 26) (z1 z2 : Nat → Int) (hz1 : ∀ j, 0 ≤ z1 j ∧ z1 j ≤ 255) (hz2 : ∀ j, 0 ≤ z2 j ∧ z2 j ≤ 255) (h0 : e x = .agg (bytC 32 z1)) (h1 : e y = .agg (bytC 32 z2)) (W : World) :
    (execOp e o).run Tryd.prog W = .ok (.value (.bool (eqD z1 z2 32))) W := by
  have hs : (Op.equalIn 10000 26 (.agg (bytC 32 z1)) (.agg (bytC 32 z2))).run Tryd.prog W = .ok (eqD z1 z2 32) W := by
    unfold bytC
    rw [vals_cells z1 32 hz1, vals_cells z2 32 hz2, run_equalIn_bytes W 9998 26 5 32 und_d Tryd.underlying5 size_u8 _ _ (by simp) (by simp), cells_eq hz1 hz2]
    rfl
  unfold execOp
  simp only [ho, h0, h1]
  simp [Sem.run_bind, run_eqGuard_agg _ _ _ _ _ _ _ guard_d2, run_eql_struct, hs]
theorem s2a_run (o : Oper) (e : Operand → Value) (x : Operand) (ho : o.op = .sliceToArrayPointer 26 x) (a : Option Addr) (c : Nat) (h0 : e x = .slice a 32 c) (W : World) : (execOp e o).run Tryd.prog W = .ok (.value (.pointer a)) W := by
  unfold execOp
  simp only [ho, h0, Instr.arrayAt]
  simp [run_underlying und_d]
theorem slice_3 (o : Oper) (e : Operand → Value) (x : Operand) (ho : o.op = .slice 22 x (some (.const (.int .i64 3))) none none) (b off c : Nat) (h0 : e x = .slice (some ⟨b, off, none⟩) 35 c) (hc : e (.const (.int .i64 3)) = .int .i64 3) (hcm : 35 ≤ c) (W : World) :
    (execOp e o).run Tryd.prog W = .ok (.value (.slice (some ⟨b, off + 3, none⟩) 32 (c - 3))) W := by
  unfold execOp
  simp only [ho, h0, hc, Option.map_none, Option.map_some]
  have e1 : ¬ (c = 3) := by omega
  simp [go_sem, e1]
  try omega
/-- the last of the list signs the packet with key f -/
def Signed (L : Nat → It) (m : Nat) (kd : Int) (z : Nat → Int) (n : Nat) (K : Nat → It) (mk : Nat) : Prop :=
  0 < m ∧ AtSig L m (m - 1) ∧ (L (m - 1)).n = 35 ∧ (L (m - 1)).z 0 = 3 ∧ ∃ f, FstKey K (numZ (L (m - 1)).z 1 2).toNat mk f ∧ ∀ j, j < 32 → (L (m - 1)).z (3 + j) = hmacZ (K f).z (K f).n (blkZ (kd = 18 ∨ kd = 20) z n) n j
def SgnP (L : Nat → It) (m : Nat) (kd : Int) (z : Nat → Int) (n : Nat) (K : Nat → It) (mk : Nat) (w : World) (e : Ending) (w' : World) : Prop :=
  ∃ r : Bool, e = .returned (.bool r) ∧ ((r = true ∧ Signed L m kd z n K mk) ∨ (r = false ∧ ¬ Signed L m kd z n K mk)) ∧ Below w.heap.size w w'
theorem atSig_one {L : Nat → It} {m j k : Nat} (h1 : AtSig L m j) (h2 : AtSig L m k) : j = k := by
  rcases Nat.lt_trichotomy j k with h | h | h
  · exact absurd h1.2.1 (h2.2.2 j h)
  · exact h
  · exact absurd h2.2.1 (h1.2.2 k h)
theorem fst_one {K : Nat → It} {num m j k : Nat} (h1 : FstKey K num m j) (h2 : FstKey K num m k) : j = k := by
  rcases Nat.lt_trichotomy j k with h | h | h
  · exact absurd h1.2.1 (h2.2.2 j h)
  · exact h
  · exact absurd h2.2.1 (h1.2.2 k h)
theorem run_m1 (o : Oper) (e : Operand → Value) (x y : Operand) (t u : TypeId) (ho : o.op = .binOp .sub t x y u) (m l : Nat) (h0 : e x = .int .i64 (m : Int)) (h1 : e y = .int .i64 1) (hm : m = l + 1) (hl : l ≤ 1000) (W : World) : (execOp e o).run Tryd.prog W = .ok (.value (.int .i64 (l : Int))) W := by
  subst hm
  unfold execOp
  simp only [ho, h0, h1]
  have e1 : ((l + 1 : Nat) : Int) - 1 = (l : Int) := by omega
  simp [go_sem, IntKind.wrap_i64]
  omega
theorem zero_u64c : (Tryd.prog.info? 78).map (·.zero) = some (some (.int .u64 0)) := by kernel_rfl
theorem info_u64c : (Tryd.prog.info? 78).map (·.size) = some 1 := by kernel_rfl
theorem one_u64 (n : Int) : (#[Value.int .u64 n] : Array Value).all (·.oneCell') = true := by kernel_rfl
theorem alloc1_run (o : Oper) (e : Operand → Value) (t : TypeId) (ho : o.op = .alloc t) (hz : (Tryd.prog.info? t).map (·.zero) = some (some (.int .u64 0))) (W : World) :
    (execOp e o).run Tryd.prog W = .ok (.value (.pointer (some ⟨W.heap.size, 0, none⟩))) (W.alloc (.cells #[.int .u64 0] t)) := by
  unfold execOp
  simp only [ho]
  cases hq : Tryd.prog.info? t with
  | none => rw [hq] at hz; cases hz
  | some i =>
    rw [hq] at hz
    have hz' : i.zero = some (.int .u64 0) := by simpa using hz
    simp [Instr.alloc, zeroValue, typeInfo, hq, hz', go_sem]
/-- a new variable of one cell, in the order of the text -/
theorem wpList_new1 {ops : Array Oper} {Q : Exit → Act → World → Prop} {rest : List Oper} {op : Oper} {a : Act} {w : World} (hgd : op.guard = none) (t : TypeId) (ho : op.op = .alloc t) (C : Array Value) (hz : (Tryd.prog.info? t).map (·.zero) = some (some (.int .u64 0)) ∧ C = #[.int .u64 0])
    (N : Nat) (hN : w.heap.size = N) (h : ∀ w', Blk t w' N C → Below w.heap.size w w' → N + 1 ≤ w'.heap.size → wpList Tryd.prog ops Q rest (a.put op.dst (.pointer (some ⟨N, 0, none⟩))) w') : wpList Tryd.prog ops Q (op :: rest) a w := by
  obtain ⟨hz, rfl⟩ := hz
  exact wpList_mk hgd t _ (alloc1_run op a.eval t ho hz w) N hN h
theorem row_32 {w : World} {b off : Nat} {z : Nat → Int} (h : Row8 w b off 35 z) : w.rangeAt b (off + 3) (bytC 32 fun j => z (3 + j)).toList := by
  intro j v hv
  have hj : j < 32 := by
    rcases Nat.lt_or_ge j 32 with h | h
    · exact h
    · rw [List.getElem?_eq_none (by simp [bytC, vals_len]; omega)] at hv; cases hv
  rw [Array.getElem?_toList, byt_at _ _ hj] at hv
  rw [← hv, Nat.add_assoc]
  exact h.2.1 (3 + j) (by omega)
theorem index_k (o : Oper) (e : Operand → Value) (x y : Operand) (ho : o.op = .indexAddr 50 x y) (b off m c f : Nat) (h0 : e x = .slice (some ⟨b, off, none⟩) m c) (h1 : e y = .int .i64 (f : Int)) (hf : f < m) (hm : m ≤ 1000) (W : World) :
    (execOp e o).run Tryd.prog W = .ok (.value (.pointer (some ⟨b, off + f * 2, none⟩))) W := by
  unfold execOp
  simp only [ho, h0, h1]
  have e1 : (f : Int) < (m : Int) := by omega
  simp [go_sem, e1, hf]
  try omega
theorem numZ_nn (z : Nat → Int) (s k : Nat) (hz : ∀ j, 0 ≤ z j ∧ z j ≤ 255) : 0 ≤ numZ z s k := by
  induction k with
  | zero => exact Int.le_refl 0
  | succ k ih =>
    have := hz (s + k)
    simp only [numZ]
    omega
set_option maxHeartbeats 40000000 in
set_option maxRecDepth 100000 in
theorem isSigned_at (p : Pd) (L : Nat → It) (B : Option Addr) (n c : Nat) (z : Nat → Int) (A : Option Addr) (mk ck : Nat) (K : Nat → It) (w : World) (hpos : 0 < p.m) (hm9 : p.m ≤ 1000) (hR : RdT w p.A p.m L) (hB : Rd w B n z) (hBn : B = none → n = 0 ∧ c = 0) (hn2 : n ≤ 1492) (h54 : (L (p.m - 1)).n = 35 → 54 ≤ n) (hcv : (L (p.m - 1)).n ≤ (L (p.m - 1)).c ∧ (L (p.m - 1)).c ≤ maxLen)
    (hK : RdK w A mk K) (hmk : mk ≤ 8) (hs : ∀ j, j < mk → (K j).n ≤ 64) (hg : Rts w 0) :
    Calls Tryd.prog 47 #[.slice B n c, .agg (pdC p), .slice A mk ck] w (SgnP L p.m p.kd z n K mk w) := by
  have HR := Lib.hid hR
  have HBB := Lib.hid hB
  have HBN := Lib.hid hBn
  have HN2 := Lib.hid hn2
  have H54 := Lib.hid h54
  have HCV := Lib.hid hcv
  have HK := Lib.hid hK
  have HKS := Lib.hid hs
  have RT := Lib.hid hg
  have hg9 := hg.2
  have hmm1 : ¬ ((p.m : Int) - 1 < 0) := by omega
  obtain ⟨l, hl⟩ : ∃ l, p.m = l + 1 := ⟨p.m - 1, by omega⟩
  have HL := Lib.hid hl
  have hl1 : p.m - 1 = l := by omega
  rw [hl1] at HCV H54
  have hli : (p.m : Int) - 1 = (l : Int) := by omega
  have hl9 : l ≤ 1000 := by omega
  have hlm : (l : Int) < (p.m : Int) := by omega
  have hl0 : ¬ ((l : Int) < 0) := by omega
  have hSg : Hid (∀ r, r = Signed L p.m p.kd z n K mk → r = (AtSig L p.m l ∧ (L l).n = 35 ∧ (L l).z 0 = 3 ∧ ∃ f, FstKey K (numZ (L l).z 1 2).toNat mk f ∧ ∀ j, j < 32 → (L l).z (3 + j) = hmacZ (K f).z (K f).n (blkZ (p.kd = 18 ∨ p.kd = 20) z n) n j)) := Lib.hid (fun r h => by rw [h]; unfold Signed; rw [hl1]; exact propext ⟨fun h => h.2, fun h => ⟨hpos, h⟩⟩)
  clear hR hB hBn hn2 h54 hcv hK hs hg hl hl1 hpos hm9
  go_enter Tryd.func47, Tryd.ntmps47
  have HB := Lib.hid (Below.refl w.heap.size w)
  obtain ⟨N1, hN1⟩ : ∃ N, w.heap.size = N := ⟨_, rfl⟩
  have HN1 := Lib.hid hN1
  clear hN1
  go_wp2_with (refine wpList_box (op := ⟨some 4, _, _, _, _, _⟩) rfl 46 (.tmp 1) rfl (pdC p) rfl N1 HN1.out ?_; intro w1 k1 b1 s1; refine Hid.out ?_)
  refine Lib.hid ?_
  have KP := Lib.hid k1
  clear k1
  have lt_0_N1 : 0 < N1 := by rw [← HN1.out]; exact RT.out.lt
  have le_HB_N1 : w.heap.size ≤ N1 := by rw [← HN1.out]; exact HB.out.size
  have RTn := Lib.hid (RT.out.below b1 RT.out.lt)
  clear RT
  have RT := RTn
  clear RTn
  have HBn := Lib.hid (HB.out.trans (b1.mono HB.out.size))
  clear HB
  have HB := HBn
  clear HBn
  clear b1 HN1
  have cp : w1.cell? ⟨N1, 46, none⟩ = some (.slice p.A p.m p.c) := (KP.out.cell 46).trans (pd_46 p)
  go_wp2_with (refine wpList_v (op := ⟨some 15, _, _, _, _, _⟩) rfl (.int .i64 (l : Int)) (run_m1 _ _ _ _ _ _ rfl p.m l rfl rfl HL.out (by omega) _) ?_; refine Hid.out ?_)
  refine Lib.hid ?_
  go_wp2_with fail
  refine (idxS_any p.A p.m p.c L w1 (HR.out.below HB.out) (by have := HL.out; omega)).mono ?_
  rintro e w10 ⟨r, rfl, hr, b1⟩
  have HRR := Lib.hid hr
  clear hr cp
  have RTn := Lib.hid (RT.out.below b1 RT.out.lt)
  clear RT
  have RT := RTn
  clear RTn
  have KPn := Lib.hid (KP.out.below b1 KP.out.lt)
  clear KP
  have KP := KPn
  clear KPn
  have HBn := Lib.hid (HB.out.trans (b1.mono HB.out.size))
  clear HB
  have HB := HBn
  clear HBn
  clear b1
  have cp : w10.cell? ⟨N1, 46, none⟩ = some (.slice p.A p.m p.c) := (KP.out.cell 46).trans (pd_46 p)
  by_cases hq : r = (l : Int)
  · subst hq
    have hqb : ((l : Int) != (l : Int)) = false := by simp
    have HAT : Hid (AtSig L p.m l) := Lib.hid (by rcases HRR.out with ⟨k, e1, h1⟩ | ⟨e1, h1⟩; (obtain rfl : l = k := by omega); exact h1; omega)
    obtain ⟨bt, ot, ht, hrow⟩ := (HR.out.below HB.out).row (by have := HL.out; omega)
    have hlp : l < p.m := by have := HL.out; omega
    obtain ⟨ct0, ct1, hit⟩ := hrow.2 l hlp
    obtain ⟨vA, hvA⟩ : ∃ v, (L l).A = v := ⟨_, rfl⟩
    obtain ⟨vn, hvn⟩ : ∃ v, (L l).n = v := ⟨_, rfl⟩
    obtain ⟨vc, hvc⟩ : ∃ v, (L l).c = v := ⟨_, rfl⟩
    obtain ⟨vz, hvz⟩ : ∃ v, (L l).z = v := ⟨_, rfl⟩
    rw [hvA, hvn, hvc] at ct1
    have hrv : Rd w10 vA vn vz := by rw [← hvA, ← hvn, ← hvz]; exact hit.2.1
    have hvne : vA = none → vn = 0 ∧ vc = 0 := by rw [← hvA, ← hvn, ← hvc]; exact hit.2.2.1
    rw [hvn, hvc] at HCV
    rw [hvn] at H54
    have HSG2 : Hid (∀ r, r = Signed L p.m p.kd z n K mk → r = (AtSig L p.m l ∧ vn = 35 ∧ vz 0 = 3 ∧ ∃ f, FstKey K (numZ vz 1 2).toNat mk f ∧ ∀ j, j < 32 → vz (3 + j) = hmacZ (K f).z (K f).n (blkZ (p.kd = 18 ∨ p.kd = 20) z n) n j)) := Lib.hid (by rw [← hvn, ← hvz]; exact hSg.out)
    clear hSg
    have hSg := HSG2
    clear HSG2
    rw [ht] at cp
    have HRV := Lib.hid hrv
    have HVN := Lib.hid hvne
    clear hrv hvne hit hrow hvA hvn hvc hvz ct0 HRR
    by_cases h35 : vn = 35
    · subst h35
      have H54b : Hid (54 ≤ n) := Lib.hid (H54.out rfl)
      obtain ⟨bv, ov, rfl, hrv⟩ := HRV.out.row (by omega)
      have cv0 : w10.cell? ⟨bv, ov, none⟩ = some (.int .u8 (vz 0)) := by have := hrv.2.1 0 (by omega); rw [Nat.add_zero] at this; exact this
      have KV : Hid (Row8 w10 bv ov 35 vz) := Lib.hid hrv
      clear hrv HRV HVN
      have hvc1 := HCV.out.1
      have hvc2 : vc ≤ 9223372036854775807 := HCV.out.2
      obtain ⟨v0, hv0⟩ : ∃ v, vz 0 = v := ⟨_, rfl⟩
      rw [hv0] at cv0 hSg
      have HV0 := Lib.hid hv0
      clear hv0
      by_cases h3 : v0 = 3
      · subst h3
        go_wp2_with fail
        have HNM := Lib.hid (num_ok bv ov 35 vc vz 1 2 w10 KV.out.2.2 (by unfold maxLen; omega) hvc1 KV.out.2.1 (by omega) (by omega) (by omega) (by omega))
        obtain ⟨num, hnum⟩ : ∃ x, (numZ vz 1 2).toNat = x := ⟨_, rfl⟩
        have hnz : numZ vz 1 2 = (num : Int) := by have := numZ_nn vz 1 2 KV.out.2.2; omega
        rw [show numZ vz ((1 : Int).toNat) ((2 : Int).toNat) = (num : Int) from hnz] at HNM
        rw [hnum] at hSg
        clear hnum hnz
        refine HNM.out.mono ?_
        rintro e w20 ⟨rfl, rfl⟩
        clear HNM cv0 ct1 cp
        obtain ⟨N21, hN21⟩ : ∃ N, w10.heap.size = N := ⟨_, rfl⟩
        have HN21 := Lib.hid hN21
        clear hN21
        go_wp2_with (refine wpList_new1 (op := ⟨some 9, _, _, _, _, _⟩) rfl 78 rfl (#[.int .u64 0]) ⟨zero_u64c, rfl⟩ N21 HN21.out ?_; intro w21 k1 b1 s1; refine Hid.out ?_)
        refine Lib.hid ?_
        have K9 := Lib.hid k1
        clear k1
        have lt_0_N21 : 0 < N21 := by rw [← HN21.out]; exact RT.out.lt
        have lt_N1_N21 : N1 < N21 := by rw [← HN21.out]; exact KP.out.lt
        have lt_bv_N21 : bv < N21 := by rw [← HN21.out]; exact KV.out.lt
        have le_HB_N21 : w.heap.size ≤ N21 := by rw [← HN21.out]; exact HB.out.size
        have RTn := Lib.hid (RT.out.below b1 RT.out.lt)
        clear RT
        have RT := RTn
        clear RTn
        have KPn := Lib.hid (KP.out.below b1 KP.out.lt)
        clear KP
        have KP := KPn
        clear KPn
        have KVn := Lib.hid (KV.out.below b1 KV.out.lt)
        clear KV
        have KV := KVn
        clear KVn
        have HBn := Lib.hid (HB.out.trans (b1.mono HB.out.size))
        clear HB
        have HB := HBn
        clear HBn
        clear b1 HN21
        go_wp2_with (refine wpList_st rfl 78 (.tmp 9) (.tmp 43) rfl N21 0 rfl (.int .u64 (num : Int)) #[.int .u64 (num : Int)] rfl rfl info_u64c (one_u64 _) K9.out (Nat.le_of_ble_eq_true rfl) (C' := #[.int .u64 (num : Int)]) (by rfl) ?_; intro w30 q1; refine Hid.out ?_)
        refine Lib.hid ?_
        have RTn := Lib.hid (RT.out.far q1 (by omega))
        clear RT
        have RT := RTn
        clear RTn
        have KPn := Lib.hid (KP.out.far q1 (by omega))
        clear KP
        have KP := KPn
        clear KPn
        have KVn := Lib.hid (KV.out.far q1 (by omega))
        clear KV
        have KV := KVn
        clear KVn
        have HBn := Lib.hid (HB.out.trans (q1.2.1 _ (by omega)))
        clear HB
        have HB := HBn
        clear HBn
        have K9n : Hid (Blk 78 w30 N21 (#[.int .u64 (num : Int)])) := Lib.hid q1.1
        clear K9
        have K9 := K9n
        clear K9n q1
        have c9 : w30.cell? ⟨N21, 0, none⟩ = some (.int .u64 (num : Int)) := (K9.out.cell 0).trans rfl
        go_wp2_with fail
        refine (idxK_any A mk ck K N21 num w30 (HK.out.below HB.out) (by omega) c9).mono ?_
        rintro e w40 ⟨r2, rfl, hr2, b1⟩
        clear c9
        have RTn := Lib.hid (RT.out.below b1 RT.out.lt)
        clear RT
        have RT := RTn
        clear RTn
        have KPn := Lib.hid (KP.out.below b1 KP.out.lt)
        clear KP
        have KP := KPn
        clear KPn
        have KVn := Lib.hid (KV.out.below b1 KV.out.lt)
        clear KV
        have KV := KVn
        clear KVn
        have K9n := Lib.hid (K9.out.below b1 K9.out.lt)
        clear K9
        have K9 := K9n
        clear K9n
        have HBn := Lib.hid (HB.out.trans (b1.mono HB.out.size))
        clear HB
        have HB := HBn
        clear HBn
        clear b1
        rcases hr2 with ⟨f, rfl, hf⟩ | ⟨rfl, hf⟩
        · have HF := Lib.hid hf
          have hfm := hf.1
          clear hf
          have hf0 : (0 : Int) ≤ (f : Int) := by omega
          have hfk : (f : Int) < (mk : Int) := by omega
          obtain ⟨bk, ok, hA9, hrk⟩ := HK.out.1.row (by omega)
          have hrk2 := hrk.2 f hfm
          obtain ⟨t, htt⟩ : ∃ t, K f = t := ⟨_, rfl⟩
          rw [show kR K f = kC t from by unfold kR; rw [htt]] at hrk2
          have hbk := hrk.1
          have HKF := Lib.hid (HK.out.2 f hfm)
          rw [htt] at HKF
          have HTS : Hid (t.n ≤ 64) := Lib.hid (by rw [← htt]; exact HKS.out f hfm)
          have HTT := Lib.hid htt
          subst hA9
          have ck1 : Hid (w.cell? ⟨bk, ok + f * 2 + 1, none⟩ = some (.slice t.A t.n t.c)) := Lib.hid (hrk2 1 _ rfl)
          clear hrk hrk2 htt
          obtain ⟨M, hM⟩ : ∃ M, hmacZ t.z t.n (blkZ (p.kd = 18 ∨ p.kd = 20) z n) n = M := ⟨_, rfl⟩
          have HM := Lib.hid hM
          have HMB : Hid (∀ j, 0 ≤ M j ∧ M j ≤ 255) := Lib.hid (by rw [← hM]; exact dg_bd _)
          clear hM
          go_wp2_with fail
          refine wp_region_held_drew (S := fun w' => Rts w' 0  ∧ Blk 46 w' N1 (pdC p) ∧ Row8 w' bv ov 35 vz ∧ Blk 78 w' N21 (#[.int .u64 (num : Int)]) ∧ Below w.heap.size w w') (by kernel_rfl) ⟨RT.out, KP.out, KV.out, K9.out, HB.out.drew⟩ (fun hS => ?_)
          generalize hW201 : w40.drew = W201 at hS  ⊢
          clear hW201
          clear RT
          clear KP
          clear KV
          clear K9
          clear HB
          have RT := Lib.hid hS.1
          have KP := Lib.hid hS.2.1
          have KV := Lib.hid hS.2.2.1
          have K9 := Lib.hid hS.2.2.2.1
          have HB := Lib.hid hS.2.2.2.2
          refine takeY (i := 0) (some 48) (v := .int .i64 (f : Int)) rfl rfl (by kernel_rfl) (by kernel_rfl) (by kernel_rfl) (fun _ _ _ h => h) (by rfl) (fun w' hS => by go_simp) hS ?_
          simp only [Act.put, List.setIfInBounds_toArray, List.set_cons_zero, List.set_cons_succ]
          refine takeY (i := 1) (some 49) (v := .bool true) rfl rfl (by kernel_rfl) (by kernel_rfl) (by kernel_rfl) (fun _ _ _ h => h) (by rfl) (fun w' hS => by go_simp) hS ?_
          simp only [Act.put, List.setIfInBounds_toArray, List.set_cons_zero, List.set_cons_succ]
          refine takeY (i := 2) (some 50) (v := .bool true) rfl rfl (by kernel_rfl) (by kernel_rfl) (by kernel_rfl) (fun _ _ _ h => h) (by rfl) (fun w' hS => by go_simp) hS ?_
          simp only [Act.put, List.setIfInBounds_toArray, List.set_cons_zero, List.set_cons_succ]
          refine takeY (i := 3) (some 51) (v := .slice (some ⟨bv, ov, none⟩) 35 vc) rfl rfl (by kernel_rfl) (by kernel_rfl) (by kernel_rfl) (fun _ _ _ h => h) (by rfl) (fun w' hS => by go_simp) hS ?_
          simp only [Act.put, List.setIfInBounds_toArray, List.set_cons_zero, List.set_cons_succ]
          refine takeY (i := 4) (some 52) (v := .slice (some ⟨bv, ov + 3, none⟩) 32 (vc - 3)) rfl rfl (by kernel_rfl) (by kernel_rfl) (by kernel_rfl) (fun _ _ _ h => h) (by rfl) (fun w' hS => by exact slice_3 _ _ _ rfl bv ov vc rfl rfl hvc1 _) hS ?_
          simp only [Act.put, List.setIfInBounds_toArray, List.set_cons_zero, List.set_cons_succ]
          refine takeY (i := 5) (some 53) (v := .pointer (some ⟨bv, ov + 3, none⟩)) rfl rfl (by kernel_rfl) (by kernel_rfl) (by kernel_rfl) (fun _ _ _ h => h) (by rfl) (fun w' hS => by exact s2a_run _ _ _ rfl _ _ rfl _) hS ?_
          simp only [Act.put, List.setIfInBounds_toArray, List.set_cons_zero, List.set_cons_succ]
          refine takeL (i := 6) (some 54) 26 (.tmp 53) bv (ov + 3) (bytC 32 fun j => vz (3 + j)) _ rfl rfl (by kernel_rfl) (by kernel_rfl) (by kernel_rfl) (fun _ _ _ h => h) (by rfl) rfl rfl (fun w' hS => row_32 hS.2.2.1) Tryd.underlying26 rfl (info_dL _) hS ?_
          simp only [Act.put, List.setIfInBounds_toArray, List.set_cons_zero, List.set_cons_succ]
          refine takeY (i := 7) (some 55) (v := .slice B n c) rfl rfl (by kernel_rfl) (by kernel_rfl) (by kernel_rfl) (fun _ _ _ h => h) (by rfl) (fun w' hS => by go_simp) hS ?_
          simp only [Act.put, List.setIfInBounds_toArray, List.set_cons_zero, List.set_cons_succ]
          refine takeY (i := 8) (some 56) (v := .pointer (some ⟨N1, 0, none⟩)) rfl rfl (by kernel_rfl) (by kernel_rfl) (by kernel_rfl) (fun _ _ _ h => h) (by rfl) (fun w' hS => by go_simp) hS ?_
          simp only [Act.put, List.setIfInBounds_toArray, List.set_cons_zero, List.set_cons_succ]
          refine takeY (i := 9) (some 57) (v := .int .u8 p.kd) rfl rfl (by kernel_rfl) (by kernel_rfl) (by kernel_rfl) (fun _ _ _ h => h) (by rfl) (fun w' hS => by (have c9 : w'.cell? ⟨N1, 0, none⟩ = some (.int .u8 p.kd) := (hS.2.1.cell 0).trans rfl; clear hS; go_simp)) hS ?_
          simp only [Act.put, List.setIfInBounds_toArray, List.set_cons_zero, List.set_cons_succ]
          refine takeY (i := 10) (some 58) (v := .slice (some ⟨bk, ok, none⟩) mk ck) rfl rfl (by kernel_rfl) (by kernel_rfl) (by kernel_rfl) (fun _ _ _ h => h) (by rfl) (fun w' hS => by go_simp) hS ?_
          simp only [Act.put, List.setIfInBounds_toArray, List.set_cons_zero, List.set_cons_succ]
          refine takeY (i := 11) (some 59) (v := .int .i64 (f : Int)) rfl rfl (by kernel_rfl) (by kernel_rfl) (by kernel_rfl) (fun _ _ _ h => h) (by rfl) (fun w' hS => by go_simp) hS ?_
          simp only [Act.put, List.setIfInBounds_toArray, List.set_cons_zero, List.set_cons_succ]
          refine takeY (i := 12) (some 60) (v := .pointer (some ⟨bk, ok + f * 2, none⟩)) rfl rfl (by kernel_rfl) (by kernel_rfl) (by kernel_rfl) (fun _ _ _ h => h) (by rfl) (fun w' hS => by exact index_k _ _ _ _ rfl bk ok mk ck f rfl rfl hfm (by omega) _) hS ?_
          simp only [Act.put, List.setIfInBounds_toArray, List.set_cons_zero, List.set_cons_succ]
          refine takeY (i := 13) (some 61) (v := .pointer (some ⟨bk, ok + f * 2 + 1, none⟩)) rfl rfl (by kernel_rfl) (by kernel_rfl) (by kernel_rfl) (fun _ _ _ h => h) (by rfl) (fun w' hS => by go_simp) hS ?_
          simp only [Act.put, List.setIfInBounds_toArray, List.set_cons_zero, List.set_cons_succ]
          refine takeY (i := 14) (some 62) (v := .slice t.A t.n t.c) rfl rfl (by kernel_rfl) (by kernel_rfl) (by kernel_rfl) (fun _ _ _ h => h) (by rfl) (fun w' hS => by (have c9 := ((hS.2.2.2.2).cell (p := ⟨bk, ok + f * 2 + 1, none⟩) hbk).trans ck1.out; clear hS; go_simp)) hS ?_
          simp only [Act.put, List.setIfInBounds_toArray, List.set_cons_zero, List.set_cons_succ]
          have HRB := Lib.hid (HBB.out.below HB.out rfl)
          have HRS := Lib.hid (HKF.out.2.1.below HB.out rfl)
          refine takeCE (i := 15) (some 63) 41 #[.slice B n c, .int .u8 p.kd, .slice t.A t.n t.c] (R := fun v w' => v = .agg (bytC 32 M) ∧ Below W201.heap.size W201 w') rfl rfl (by kernel_rfl) (by rfl) (by go_simp) ((macOf_any B n c z p.kd t.A t.n t.c t.z W201 HRB.out HBN.out H54b.out HN2.out HRS.out HKF.out.2.2.1 HTS.out RT.out).mono fun e w' h => ⟨_, h.1, by rw [HM.out], h.2⟩) (fun v w' h => by obtain ⟨rfl, hb8⟩ := h; exact ⟨hS.1.below hb8 hS.1.lt, hS.2.1.below hb8 hS.2.1.lt, hS.2.2.1.below hb8 hS.2.2.1.lt, hS.2.2.2.1.below hb8 hS.2.2.2.1.lt, hS.2.2.2.2.trans (hb8.mono hS.2.2.2.2.size)⟩) (fun v W202 h hS2 => ?_)
          obtain ⟨rfl, hb8⟩ := h
          clear hS2
          simp only [Act.put, List.setIfInBounds_toArray, List.set_cons_zero, List.set_cons_succ]
          clear HRB HRS
          have RTn := Lib.hid (RT.out.below hb8 RT.out.lt)
          clear RT
          have RT := RTn
          clear RTn
          have KPn := Lib.hid (KP.out.below hb8 KP.out.lt)
          clear KP
          have KP := KPn
          clear KPn
          have KVn := Lib.hid (KV.out.below hb8 KV.out.lt)
          clear KV
          have KV := KVn
          clear KVn
          have K9n := Lib.hid (K9.out.below hb8 K9.out.lt)
          clear K9
          have K9 := K9n
          clear K9n
          have HBn := Lib.hid (HB.out.trans (hb8.mono HB.out.size))
          clear HB
          have HB := HBn
          clear HBn
          clear hb8 hS
          have hS := (And.intro RT.out (And.intro KP.out (And.intro KV.out (And.intro K9.out HB.out))))
          have HVB : Hid (∀ j, 0 ≤ vz (3 + j) ∧ vz (3 + j) ≤ 255) := Lib.hid (fun j => KV.out.2.2 _)
          obtain ⟨q, hq⟩ : ∃ q, eqD (fun j => vz (3 + j)) M 32 = q := ⟨_, rfl⟩
          have HQ := Lib.hid hq
          refine takeY (i := 16) (some 64) (v := .bool q) rfl rfl (by kernel_rfl) (by kernel_rfl) (by kernel_rfl) (fun _ _ _ h => h) (by rfl) (fun w' hS => by (rw [← hq]; exact eql_d _ _ _ _ rfl (fun j => vz (3 + j)) M HVB.out HMB.out rfl rfl _)) hS ?_
          simp only [Act.put, List.setIfInBounds_toArray, List.set_cons_zero, List.set_cons_succ]
          refine takeY (i := 17) (some 65) (v := .bool q) rfl rfl (by kernel_rfl) (by kernel_rfl) (by kernel_rfl) (fun _ _ _ h => h) (by rfl) (fun w' hS => by go_simp) hS ?_
          simp only [Act.put, List.setIfInBounds_toArray, List.set_cons_zero, List.set_cons_succ]
          refine takeY (i := 18) (some 6) (v := .bool q) rfl rfl (by kernel_rfl) (by kernel_rfl) (by kernel_rfl) (fun _ _ _ h => h) (by rfl) (fun w' hS => by go_simp) hS ?_
          simp only [Act.put, List.setIfInBounds_toArray, List.set_cons_zero, List.set_cons_succ]
          clear hq
          clear hS
          refine wpAnyH_done (by kernel_rfl) ?_ _
          go_wp2_with fail
          go_ret
          refine ⟨q, rfl, ?_, HB.out⟩
          cases q with
          | true => exact .inl ⟨rfl, by rw [hSg.out _ rfl]; exact ⟨HAT.out, by first | rfl | trivial, by first | rfl | trivial, f, HF.out, fun j hj => by rw [HTT.out, HM.out]; exact of_decide_eq_true (p := ∀ j, j < 32 → (fun j => vz (3 + j)) j = M j) HQ.out j hj⟩⟩
          | false => exact .inr ⟨rfl, fun h => by rw [hSg.out _ rfl] at h; obtain ⟨f2, h1, h2⟩ := h.2.2.2; rw [← fst_one HF.out h1, HTT.out, HM.out] at h2; exact of_decide_eq_false (p := ∀ j, j < 32 → (fun j => vz (3 + j)) j = M j) HQ.out h2⟩
        · have HF := Lib.hid hf
          clear hf
          have HNO : Hid (¬ Signed L p.m p.kd z n K mk) := Lib.hid (fun h => by rw [hSg.out _ rfl] at h; obtain ⟨f, h1, _⟩ := h.2.2.2; exact HF.out f h1.1 h1.2.1)
          go_wp2_with fail
          refine wp_region_held_drew (S := fun w' => Rts w' 0  ∧ Blk 46 w' N1 (pdC p) ∧ Row8 w' bv ov 35 vz ∧ Blk 78 w' N21 (#[.int .u64 (num : Int)]) ∧ Below w.heap.size w w') (by kernel_rfl) ⟨RT.out, KP.out, KV.out, K9.out, HB.out.drew⟩ (fun hS => ?_)
          generalize hW101 : w40.drew = W101 at hS  ⊢
          clear hW101
          clear RT
          clear KP
          clear KV
          clear K9
          clear HB
          have RT := Lib.hid hS.1
          have KP := Lib.hid hS.2.1
          have KV := Lib.hid hS.2.2.1
          have K9 := Lib.hid hS.2.2.2.1
          have HB := Lib.hid hS.2.2.2.2
          refine takeY (i := 0) (some 48) (v := .int .i64 (-1)) rfl rfl (by kernel_rfl) (by kernel_rfl) (by kernel_rfl) (fun _ _ _ h => h) (by rfl) (fun w' hS => by go_simp) hS ?_
          simp only [Act.put, List.setIfInBounds_toArray, List.set_cons_zero, List.set_cons_succ]
          refine takeY (i := 1) (some 49) (v := .bool false) rfl rfl (by kernel_rfl) (by kernel_rfl) (by kernel_rfl) (fun _ _ _ h => h) (by rfl) (fun w' hS => by go_simp) hS ?_
          simp only [Act.put, List.setIfInBounds_toArray, List.set_cons_zero, List.set_cons_succ]
          refine takeY (i := 2) (some 50) (v := .bool false) rfl rfl (by kernel_rfl) (by kernel_rfl) (by kernel_rfl) (fun _ _ _ h => h) (by rfl) (fun w' hS => by go_simp) hS ?_
          simp only [Act.put, List.setIfInBounds_toArray, List.set_cons_zero, List.set_cons_succ]
          refine takeN (i := 3) (some 51) rfl rfl (by kernel_rfl) (by kernel_rfl) (by kernel_rfl) (fun _ _ _ h => h) (by rfl) hS ?_
          simp only [Act.put, List.setIfInBounds_toArray, List.set_cons_zero, List.set_cons_succ]
          refine takeN (i := 4) (some 52) rfl rfl (by kernel_rfl) (by kernel_rfl) (by kernel_rfl) (fun _ _ _ h => h) (by rfl) hS ?_
          simp only [Act.put, List.setIfInBounds_toArray, List.set_cons_zero, List.set_cons_succ]
          refine takeN (i := 5) (some 53) rfl rfl (by kernel_rfl) (by kernel_rfl) (by kernel_rfl) (fun _ _ _ h => h) (by rfl) hS ?_
          simp only [Act.put, List.setIfInBounds_toArray, List.set_cons_zero, List.set_cons_succ]
          refine takeN (i := 6) (some 54) rfl rfl (by kernel_rfl) (by kernel_rfl) (by kernel_rfl) (fun _ _ _ h => h) (by rfl) hS ?_
          simp only [Act.put, List.setIfInBounds_toArray, List.set_cons_zero, List.set_cons_succ]
          refine takeN (i := 7) (some 55) rfl rfl (by kernel_rfl) (by kernel_rfl) (by kernel_rfl) (fun _ _ _ h => h) (by rfl) hS ?_
          simp only [Act.put, List.setIfInBounds_toArray, List.set_cons_zero, List.set_cons_succ]
          refine takeN (i := 8) (some 56) rfl rfl (by kernel_rfl) (by kernel_rfl) (by kernel_rfl) (fun _ _ _ h => h) (by rfl) hS ?_
          simp only [Act.put, List.setIfInBounds_toArray, List.set_cons_zero, List.set_cons_succ]
          refine takeN (i := 9) (some 57) rfl rfl (by kernel_rfl) (by kernel_rfl) (by kernel_rfl) (fun _ _ _ h => h) (by rfl) hS ?_
          simp only [Act.put, List.setIfInBounds_toArray, List.set_cons_zero, List.set_cons_succ]
          refine takeN (i := 10) (some 58) rfl rfl (by kernel_rfl) (by kernel_rfl) (by kernel_rfl) (fun _ _ _ h => h) (by rfl) hS ?_
          simp only [Act.put, List.setIfInBounds_toArray, List.set_cons_zero, List.set_cons_succ]
          refine takeN (i := 11) (some 59) rfl rfl (by kernel_rfl) (by kernel_rfl) (by kernel_rfl) (fun _ _ _ h => h) (by rfl) hS ?_
          simp only [Act.put, List.setIfInBounds_toArray, List.set_cons_zero, List.set_cons_succ]
          refine takeN (i := 12) (some 60) rfl rfl (by kernel_rfl) (by kernel_rfl) (by kernel_rfl) (fun _ _ _ h => h) (by rfl) hS ?_
          simp only [Act.put, List.setIfInBounds_toArray, List.set_cons_zero, List.set_cons_succ]
          refine takeN (i := 13) (some 61) rfl rfl (by kernel_rfl) (by kernel_rfl) (by kernel_rfl) (fun _ _ _ h => h) (by rfl) hS ?_
          simp only [Act.put, List.setIfInBounds_toArray, List.set_cons_zero, List.set_cons_succ]
          refine takeN (i := 14) (some 62) rfl rfl (by kernel_rfl) (by kernel_rfl) (by kernel_rfl) (fun _ _ _ h => h) (by rfl) hS ?_
          simp only [Act.put, List.setIfInBounds_toArray, List.set_cons_zero, List.set_cons_succ]
          refine takeN (i := 15) (some 63) rfl rfl (by kernel_rfl) (by kernel_rfl) (by kernel_rfl) (fun _ _ _ h => h) (by rfl) hS ?_
          simp only [Act.put, List.setIfInBounds_toArray, List.set_cons_zero, List.set_cons_succ]
          refine takeN (i := 16) (some 64) rfl rfl (by kernel_rfl) (by kernel_rfl) (by kernel_rfl) (fun _ _ _ h => h) (by rfl) hS ?_
          simp only [Act.put, List.setIfInBounds_toArray, List.set_cons_zero, List.set_cons_succ]
          refine takeY (i := 17) (some 65) (v := .bool false) rfl rfl (by kernel_rfl) (by kernel_rfl) (by kernel_rfl) (fun _ _ _ h => h) (by rfl) (fun w' hS => by go_simp) hS ?_
          simp only [Act.put, List.setIfInBounds_toArray, List.set_cons_zero, List.set_cons_succ]
          refine takeY (i := 18) (some 6) (v := .bool false) rfl rfl (by kernel_rfl) (by kernel_rfl) (by kernel_rfl) (fun _ _ _ h => h) (by rfl) (fun w' hS => by go_simp) hS ?_
          simp only [Act.put, List.setIfInBounds_toArray, List.set_cons_zero, List.set_cons_succ]
          clear hS
          refine wpAnyH_done (by kernel_rfl) ?_ _
          go_wp2_with fail
          go_ret
          exact ⟨false, rfl, .inr ⟨rfl, HNO.out⟩, HB.out⟩
      · have h3b : (v0 != 3) = true := by simpa using h3
        have H3 := Lib.hid h3
        clear h3
        have HNO : Hid (¬ Signed L p.m p.kd z n K mk) := Lib.hid (fun h => by rw [hSg.out _ rfl] at h; exact H3.out h.2.2.1)
        go_wp2_with fail
        go_ret
        exact ⟨false, rfl, .inr ⟨rfl, HNO.out⟩, HB.out⟩
    · have h35b : ((vn : Int) != 35) = true := by simp; omega
      have H35 := Lib.hid h35
      clear h35
      have HNO : Hid (¬ Signed L p.m p.kd z n K mk) := Lib.hid (fun h => by rw [hSg.out _ rfl] at h; exact H35.out h.2.1)
      go_wp2_with fail
      go_ret
      exact ⟨false, rfl, .inr ⟨rfl, HNO.out⟩, HB.out⟩
  · have hqb : (r != (l : Int)) = true := by simpa using hq
    have HQ := Lib.hid hq
    clear hq
    have HNO : Hid (¬ Signed L p.m p.kd z n K mk) := Lib.hid (fun h => by rw [hSg.out _ rfl] at h; rcases HRR.out with ⟨k, e1, h1⟩ | ⟨e1, h1⟩; exact HQ.out (by rw [e1, atSig_one h1 h.1]); exact h1 l h.1.1 h.1.2.1)
    go_wp2_with fail
    go_ret
    exact ⟨false, rfl, .inr ⟨rfl, HNO.out⟩, HB.out⟩
/-- is a packet signed? for every packet that was read, and every few keys -/
theorem macSigned_any (p : Pd) (L : Nat → It) (B : Option Addr) (n c : Nat) (z : Nat → Int) (A : Option Addr) (mk ck : Nat) (K : Nat → It) (w : World) (hm9 : p.m ≤ 1000) (hR : RdT w p.A p.m L) (hB : Rd w B n z) (hBn : B = none → n = 0 ∧ c = 0) (hn2 : n ≤ 1492) (h54 : 0 < p.m → (L (p.m - 1)).n = 35 → 54 ≤ n) (hcv : 0 < p.m → (L (p.m - 1)).n ≤ (L (p.m - 1)).c ∧ (L (p.m - 1)).c ≤ maxLen)
    (hK : RdK w A mk K) (hmk : mk ≤ 8) (hs : ∀ j, j < mk → (K j).n ≤ 64) (hg : Rts w 0) :
    Calls Tryd.prog 47 #[.slice B n c, .agg (pdC p), .slice A mk ck] w (SgnP L p.m p.kd z n K mk w) := by
  rcases Nat.eq_zero_or_pos p.m with h0 | hpos
  · have HNO : Hid (¬ Signed L p.m p.kd z n K mk) := Lib.hid (fun h => by have := h.1; omega)
    have hm0 : (p.m : Int) - 1 < 0 := by omega
    have hm1 : (p.m : Int) = 0 := by omega
    have H0 := Lib.hid h0
    clear hm9 hR hB hBn hn2 h54 hcv hK hmk hs hg h0
    go_enter Tryd.func47, Tryd.ntmps47
    have HB := Lib.hid (Below.refl w.heap.size w)
    obtain ⟨N1, hN1⟩ : ∃ N, w.heap.size = N := ⟨_, rfl⟩
    have HN1 := Lib.hid hN1
    clear hN1
    go_wp2_with (refine wpList_box (op := ⟨some 4, _, _, _, _, _⟩) rfl 46 (.tmp 1) rfl (pdC p) rfl N1 HN1.out ?_; intro w1 k1 b1 s1; refine Hid.out ?_)
    refine Lib.hid ?_
    have K1 := Lib.hid k1
    clear k1
    have HBn := Lib.hid (HB.out.trans (b1.mono HB.out.size))
    clear HB b1 HN1
    have cp : w1.cell? ⟨N1, 46, none⟩ = some (.slice p.A 0 p.c) := (K1.out.cell 46).trans (by rw [pd_46, H0.out])
    go_wp2_with fail
    go_ret
    exact ⟨false, rfl, .inr ⟨rfl, HNO.out⟩, HBn.out⟩
  · exact isSigned_at p L B n c z A mk ck K w hpos hm9 hR hB hBn hn2 (h54 hpos) (hcv hpos) hK hmk hs hg
end Go.Proofs.YtccoicjmmeoggaaDoor

/- The document's DocRead: what it answers, for all bytes. Each theorem states its conditions. -/
namespace Go.Proofs.YtccoicjmmeoggaaDoor
open Go.RowKit
set_option linter.unusedVariables false

end Go.Proofs.YtccoicjmmeoggaaDoor

/- The document's DocRead: what it answers, for all bytes. Each theorem states its conditions. -/
namespace Go.Proofs.YtccoicjmmeoggaaDoor
open Go.RowKit
set_option linter.unusedVariables false

end Go.Proofs.YtccoicjmmeoggaaDoor

/- The document's DocRead: what it answers, for all bytes. Each theorem states its conditions. -/
namespace Go.Proofs.YtccoicjmmeoggaaDoor
open Go.RowKit
set_option linter.unusedVariables false

end Go.Proofs.YtccoicjmmeoggaaDoor

/- Read and the document's DocRead answer alike. Each theorem states its conditions. -/
namespace Go.Proofs.YtccoicjmmeoggaaDoor
open Go.RowKit
set_option linter.unusedVariables false

end Go.Proofs.YtccoicjmmeoggaaDoor

/- mac.Open: what it answers, for all bytes and keys. Each theorem states its conditions. -/
namespace Go.Proofs.YtccoicjmmeoggaaDoor
open Go.RowKit
set_option linter.unusedVariables false
set_option linter.unusedSimpArgs false

/-- the items that bytes tell -/
def itL (q : Nat) (z : Nat → Int) : Nat → It := fun j => itZ (tlZ q z) j 0 0
theorem itL_al {q : Nat} {z : Nat → Int} {L : Nat → It} {m : Nat} (h : IsItZ (tlZ q z) L m) : ∀ j, j < m → Alike (itL q z j) (L j) := fun j hj => by
  obtain ⟨g, cap, e⟩ := h j hj
  rw [e]
  exact ⟨rfl, rfl, rfl⟩
theorem signed_al {L L2 : Nat → It} {m : Nat} {kd : Int} {z : Nat → Int} {n : Nat} {K : Nat → It} {mk : Nat} (h : ∀ j, j < m → Alike (L j) (L2 j)) : Signed L m kd z n K mk ↔ Signed L2 m kd z n K mk := by
  unfold Signed
  constructor
  · rintro ⟨h0, ⟨h1, h2, h3⟩, h4, h5, h6⟩
    obtain ⟨a1, a2, a3⟩ := h (m - 1) h1
    exact ⟨h0, ⟨h1, a1 ▸ h2, fun j hj => by rw [← (h j (by omega)).1]; exact h3 j hj⟩, a2 ▸ h4, a3 ▸ h5, a3 ▸ h6⟩
  · rintro ⟨h0, ⟨h1, h2, h3⟩, h4, h5, h6⟩
    obtain ⟨a1, a2, a3⟩ := h (m - 1) h1
    exact ⟨h0, ⟨h1, a1 ▸ h2, fun j hj => by rw [(h j (by omega)).1]; exact h3 j hj⟩, a2 ▸ h4, a3 ▸ h5, a3 ▸ h6⟩
theorem sz_2 (L : Nat → It) (m : Nat) : 2 * m ≤ sz L m := by
  induction m with
  | zero => exact Nat.zero_le _
  | succ m ih => simp only [sz]; omega
theorem sz_last {L : Nat → It} {m : Nat} (h : 0 < m) : (L (m - 1)).n + 2 ≤ sz L m := by
  obtain ⟨l, rfl⟩ : ∃ l, m = l + 1 := ⟨m - 1, by omega⟩
  simp only [sz, Nat.add_sub_cancel]
  omega
theorem build_pd0 (o : Oper) (e : Operand → Value) (ho : o.op = .build 46 #[]) (W : World) : (execOp e o).run Tryd.prog W = .ok (.value (.agg (pdC pd0))) W := by
  unfold execOp
  simp only [ho]
  kernel_rfl
theorem OwnT.farT {w w' : World} {base m b : Nat} {v : Value} {L : Nat → It} {C C0 : Array Value} {t : TypeId} (h : OwnT w base v m L) (hb : Blk 46 w b C0) (hs : Stored w w' b C t) : OwnT w' base v m L := by
  refine ⟨⟨h.1.1, ?_⟩, fun j hj => ?_⟩
  · rcases h.1.2 with h1 | ⟨g, cap, cur, hv, hg, hc, r⟩
    · exact .inl h1
    · refine .inr ⟨g, cap, cur, hv, hg, (hs.2.2 g fun e => ?_).trans hc, r⟩
      subst e
      have hb' : w.heap[g]? = _ := hb
      rw [hc] at hb'
      injection hb' with hb'
      injection hb' with _ hb' _
      exact absurd hb' (by decide)
  · obtain ⟨h1, h2, g, h3, h4, h5⟩ := h.2 j hj
    refine ⟨h1, h2, g, h3, h4, h5.block (hs.2.2 g fun e => ?_)⟩
    subst e
    obtain ⟨⟨cur, hc, _⟩, _⟩ := h5
    have hb' : w.heap[g]? = _ := hb
    rw [hc] at hb'
    injection hb' with hb'
    injection hb' with _ hb' _
    exact absurd hb' (by decide)
theorem OwnT.drop1 {w w' : World} {base m k : Nat} {v v' : Value} {L : Nat → It} (h : OwnT w base v m L) (hk : k ≤ m) (hr : w'.ownsRow base 49 2 v' (0 + k) ([] ++ cellsT L k)) (hb : Below w.heap.size w w') : OwnT w' base v' k L := by
  rw [Nat.zero_add, List.nil_append] at hr
  exact ⟨hr, fun j hj => (h.2 j (by omega)).below hb⟩
theorem ownV_caps {w : World} {base : Nat} {t : It} (h : OwnV w base t) : t.n ≤ t.c ∧ t.c ≤ maxLen := by
  obtain ⟨_, _, g, _, _, h5⟩ := h
  exact h5.caps
/-- what Open answers where the packet was read -/
def OpnP (q m n : Nat) (z : Nat → Int) (K : Nat → It) (mk : Nat) (w : World) (e : Ending) (w' : World) : Prop :=
  (keysE K mk ≠ 0 ∧ RdErr w (keysE K mk) e w') ∨ (keysE K mk = 0 ∧ mk = 0 ∧ RdOk w q z m e w') ∨
  (keysE K mk = 0 ∧ 0 < mk ∧ Signed (itL q z) m (z 4) z n K mk ∧ RdOk w q z (m - 1) e w') ∨ (keysE K mk = 0 ∧ 0 < mk ∧ ¬ Signed (itL q z) m (z 4) z n K mk ∧ RdErr w 9 e w')
theorem keysE_zero {K : Nat → It} {m : Nat} (h : keysE K m = 0) : m ≤ 8 ∧ ∀ j, j < m → 0 < (K j).n ∧ (K j).n ≤ 64 := by
  unfold keysE at h
  split at h
  · omega
  · refine ⟨by omega, ?_⟩
    have : ∀ k, ckE K k = 0 → ∀ j, j < k → 0 < (K j).n ∧ (K j).n ≤ 64 := by
      intro k
      induction k with
      | zero => intro _ j hj; omega
      | succ k ih =>
        intro hk j hj
        obtain ⟨h1, h2⟩ := lea_zero hk
        by_cases e : j = k
        · subst e; exact secE_zero h2
        · exact ih h1 j (by omega)
    exact this m h
theorem good_sz {z : Nat → Int} {n m q : Nat} {L : Nat → It} (h : GoodZ z n m) (hq : cls (z 4) = q) (hI : IsItZ (tlZ q z) L m) : sz L m + hdN q = n ∧ 17 ≤ hdN q := by
  subst hq
  have h1 := sz_it hI m (Nat.le_refl _)
  have h2 := h.2.2.2.1
  have h3 := h.1.2.2.1
  have h4 := hdN_bd (cls (z 4)) h.1.2.1
  omega
theorem slice_o (o : Oper) (e : Operand → Value) (x y : Operand) (ho : o.op = .slice 40 x none (some y) none) (g off m n c : Nat) (h0 : e x = .slice (some ⟨g, off, none⟩) n c) (h1 : e y = .int .i64 (m : Int)) (hm : m ≤ c) (W : World) :
    (execOp e o).run Tryd.prog W = .ok (.value (.slice (some ⟨g, off, none⟩) m c)) W := by
  unfold execOp
  simp only [ho, h0, h1, Option.map_none, Option.map_some]
  have e3 : ¬ ((c : Int) < (m : Int)) := by omega
  have e4 : ¬ (c < m) := by omega
  simp [go_sem, e3, e4]
set_option maxHeartbeats 8000000 in
set_option maxRecDepth 100000 in
theorem open_yes (B : Option Addr) (n c : Nat) (z : Nat → Int) (A : Option Addr) (mk ck : Nat) (K : Nat → It) (q m : Nat) (w : World) (hq : cls (z 4) = q) (hgood : GoodZ z n m) (hn2 : n ≤ 1492) (hrd : ∀ w, Rd w B n z → Calls Tryd.prog 45 #[.slice B n c] w (RdOk w q z m)) (hB : Rd w B n z) (hBn : B = none → n = 0 ∧ c = 0) (hK : RdK w A mk K) (hg : Rts w 0) :
    Calls Tryd.prog 22 #[.slice B n c, .slice A mk ck] w (OpnP q m n z K mk w) := by
  have HRD := Lib.hid hrd
  have HBB := Lib.hid hB
  have HBN := Lib.hid hBn
  have HN2 := Lib.hid hn2
  have HK := Lib.hid hK
  have HG := Lib.hid hgood
  have HQ := Lib.hid hq
  have RT := Lib.hid hg
  have hg9 := hg.2
  clear hrd hB hBn hK hgood hq hg hn2
  go_enter Tryd.func22, Tryd.ntmps22
  have HB := Lib.hid (Below.refl w.heap.size w)
  obtain ⟨N1, hN1⟩ : ∃ N, w.heap.size = N := ⟨_, rfl⟩
  have HN1 := Lib.hid hN1
  clear hN1
  go_wp2_with (refine wpList_new (op := ⟨some 4, _, _, _, _, _⟩) rfl 46 rfl (pdC pd0) zero_pdP N1 HN1.out ?_; intro w1 k1 b1 s1; refine Hid.out ?_)
  refine Lib.hid ?_
  have K4 := Lib.hid k1
  clear k1
  have lt_0_N1 : 0 < N1 := by rw [← HN1.out]; exact RT.out.lt
  have le_HB_N1 : w.heap.size ≤ N1 := by rw [← HN1.out]; exact HB.out.size
  have RTn := Lib.hid (RT.out.below b1 RT.out.lt)
  clear RT
  have RT := RTn
  clear RTn
  have HBn := Lib.hid (HB.out.trans (b1.mono HB.out.size))
  clear HB
  have HB := HBn
  clear HBn
  clear b1 HN1
  go_wp2_with fail
  refine (HRD.out w1 (HBB.out.below HB.out rfl)).mono ?_
  rintro e w10 ⟨A7, c7, L, rfl, ho, hI, hA7, hc71, hc72, b1⟩
  have HO : Hid (OwnT w10 w.heap.size (.slice A7 m c7) m L) := Lib.hid (ho.le HB.out.size)
  have HI := Lib.hid hI
  have HA7 := Lib.hid (And.intro hA7 (And.intro hc71 hc72))
  clear ho hI hA7 hc71 hc72
  have RTn := Lib.hid (RT.out.below b1 RT.out.lt)
  clear RT
  have RT := RTn
  clear RTn
  have K4n := Lib.hid (K4.out.below b1 K4.out.lt)
  clear K4
  have K4 := K4n
  clear K4n
  have HBn := Lib.hid (HB.out.trans (b1.mono HB.out.size))
  clear HB
  have HB := HBn
  clear HBn
  clear b1
  have HPK : Hid ((withT (rdP q z) A7 m c7).kd = z 4) := Lib.hid (rdP_kd q z)
  obtain ⟨p, hp⟩ : ∃ p, withT (rdP q z) A7 m c7 = p := ⟨_, rfl⟩
  have HP := Lib.hid hp
  have hpA : p.A = A7 := by rw [← hp]; rfl
  have hpm : p.m = m := by rw [← hp]; rfl
  have hpc : p.c = c7 := by rw [← hp]; rfl
  have hpk : p.kd = z 4 := by rw [← hp]; exact HPK.out
  rw [hp]
  have HPA := Lib.hid (And.intro hpA (And.intro hpm (And.intro hpc hpk)))
  clear hp hpA hpm hpc hpk HPK
  obtain ⟨N11, hN11⟩ : ∃ N, w10.heap.size = N := ⟨_, rfl⟩
  have HN11 := Lib.hid hN11
  clear hN11
  go_wp2_with (refine wpList_new (op := ⟨some 6, _, _, _, _, _⟩) rfl 46 rfl (pdC pd0) zero_pdP N11 HN11.out ?_; intro w11 k1 b1 s1; refine Hid.out ?_)
  refine Lib.hid ?_
  have K6 := Lib.hid k1
  have HO2 := Lib.hid (OwnT.below HO.out b1)
  clear k1
  have lt_0_N11 : 0 < N11 := by rw [← HN11.out]; exact RT.out.lt
  have lt_N1_N11 : N1 < N11 := by rw [← HN11.out]; exact K4.out.lt
  have le_HB_N11 : w.heap.size ≤ N11 := by rw [← HN11.out]; exact HB.out.size
  have RTn := Lib.hid (RT.out.below b1 RT.out.lt)
  clear RT
  have RT := RTn
  clear RTn
  have K4n := Lib.hid (K4.out.below b1 K4.out.lt)
  clear K4
  have K4 := K4n
  clear K4n
  have HBn := Lib.hid (HB.out.trans (b1.mono HB.out.size))
  clear HB
  have HB := HBn
  clear HBn
  clear b1 HN11
  go_wp2_with (refine wpList_st rfl 46 (.tmp 6) (.tmp 11) rfl N11 0 rfl (.agg (pdC p)) (pdC p) rfl rfl info_pdP (pdC_one _) K6.out (Nat.le_of_ble_eq_true rfl) (C' := pdC p) (pd_over _ _) ?_; intro w20 q1; refine Hid.out ?_)
  refine Lib.hid ?_
  have HO3 := Lib.hid (OwnT.farT HO2.out K6.out q1)
  have RTn := Lib.hid (RT.out.far q1 (by omega))
  clear RT
  have RT := RTn
  clear RTn
  have K4n := Lib.hid (K4.out.far q1 (by omega))
  clear K4
  have K4 := K4n
  clear K4n
  have HBn := Lib.hid (HB.out.trans (q1.2.1 _ (by omega)))
  clear HB
  have HB := HBn
  clear HBn
  have K6n : Hid (Blk 46 w20 N11 (pdC p)) := Lib.hid q1.1
  clear K6
  have K6 := K6n
  clear K6n q1
  clear HO HO2
  have HO := HO3
  clear HO3
  go_wp2_with fail
  have BK := keysE_bd K mk
  refine (checkKeys_any A mk ck K w20 (HK.out.below HB.out)).mono ?_
  rintro e w30 ⟨rfl, b1⟩
  have HO3 := Lib.hid (OwnT.below HO.out b1)
  clear HO
  have HO := HO3
  clear HO3
  have RTn := Lib.hid (RT.out.below b1 RT.out.lt)
  clear RT
  have RT := RTn
  clear RTn
  have K4n := Lib.hid (K4.out.below b1 K4.out.lt)
  clear K4
  have K4 := K4n
  clear K4n
  have K6n := Lib.hid (K6.out.below b1 K6.out.lt)
  clear K6
  have K6 := K6n
  clear K6n
  have HBn := Lib.hid (HB.out.trans (b1.mono HB.out.size))
  clear HB
  have HB := HBn
  clear HBn
  clear b1
  go_wp2_with fail
  refine (least_any 0 (keysE K mk) w30 (by decide) (by omega)).mono ?_
  rintro e w31 ⟨rfl, rfl⟩
  rw [show lea 0 (keysE K mk) = keysE K mk from if_pos rfl]
  obtain ⟨X, hX⟩ : ∃ X, keysE K mk = X := ⟨_, rfl⟩
  rw [hX]
  have HX := Lib.hid hX
  clear BK
  by_cases hX0 : X = 0
  · subst hX0
    have hXb : ((0 : Int) != 0) = false := rfl
    clear hX
    obtain ⟨hk8, hks⟩ := keysE_zero HX.out
    have HKS := Lib.hid hks
    clear hks
    by_cases hk0 : mk = 0
    · subst hk0
      go_wp2_with (refine wpList_ld (op := ⟨some 26, _, _, _, _, _⟩) (by rfl) 46 (.tmp 6) rfl N11 0 rfl (pdC p) _ K6.out.all Tryd.underlying46 rfl info_pdP ?_; refine Hid.out ?_)
      refine Lib.hid ?_
      go_wp2_with (refine wpList_st rfl 46 (.tmp 4) (.tmp 26) rfl N1 0 rfl (.agg (pdC p)) (pdC p) rfl rfl info_pdP (pdC_one _) K4.out (Nat.le_of_ble_eq_true rfl) (C' := pdC p) (pd_over _ _) ?_; intro w40 q1; refine Hid.out ?_)
      refine Lib.hid ?_
      have HO3 := Lib.hid (OwnT.farT HO.out K4.out q1)
      have RTn := Lib.hid (RT.out.far q1 (by omega))
      clear RT
      have RT := RTn
      clear RTn
      have K6n := Lib.hid (K6.out.far q1 (by omega))
      clear K6
      have K6 := K6n
      clear K6n
      have HBn := Lib.hid (HB.out.trans (q1.2.1 _ (by omega)))
      clear HB
      have HB := HBn
      clear HBn
      have K4n : Hid (Blk 46 w40 N1 (pdC p)) := Lib.hid q1.1
      clear K4
      have K4 := K4n
      clear K4n q1
      clear HO
      have HO := HO3
      clear HO3
      go_wp2_with fail
      exact bodyPost_ret (results_2 rfl _ _ N1 (pdC (p)) (.int .i64 0) Tryd.underlying46 rfl info_pdP rfl rfl K4.out) rfl (.inr (.inl ⟨HX.out, rfl, ⟨A7, c7, L, by rw [HP.out], (HO.out), HI.out, HA7.out.1, HA7.out.2.1, HA7.out.2.2, HB.out⟩⟩))
    · have hkb : ((mk : Int) == 0) = false := by simp; omega
      have hkp : 0 < mk := by omega
      clear hk0
      go_wp2_with (refine wpList_ld (op := ⟨some 29, _, _, _, _, _⟩) (by rfl) 46 (.tmp 6) rfl N11 0 rfl (pdC p) _ K6.out.all Tryd.underlying46 rfl info_pdP ?_; refine Hid.out ?_)
      refine Lib.hid ?_
      go_wp2_with fail
      have hRT : RdT w31 p.A p.m L := by rw [HPA.out.1, HPA.out.2.1]; obtain ⟨A8, c8, e8, _, _, _, h8⟩ := HO.out.shape; injection e8 with e8 _ _; rw [e8]; exact h8
      have hps : sz L m + hdN q = n ∧ 17 ≤ hdN q := good_sz HG.out HQ.out HI.out
      have hm9 : p.m ≤ 1000 := by rw [HPA.out.2.1]; have := sz_2 L m; have := HN2.out; omega
      have hmp : p.m = m := HPA.out.2.1
      have h54 : 0 < p.m → (L (p.m - 1)).n = 35 → 54 ≤ n := fun h0 h1 => by rw [hmp] at h0 h1; have := sz_last (L := L) h0; omega
      have hcv : 0 < p.m → (L (p.m - 1)).n ≤ (L (p.m - 1)).c ∧ (L (p.m - 1)).c ≤ maxLen := fun h0 => by rw [hmp] at h0 ⊢; exact ownV_caps (HO.out.2 (m - 1) (by omega))
      have HSG := Lib.hid (macSigned_any p L B n c z A mk ck K w31 hm9 hRT (HBB.out.below HB.out rfl) HBN.out HN2.out h54 hcv (HK.out.below HB.out) hk8 (fun j hj => (HKS.out j hj).2) RT.out)
      have hm92 : m ≤ 1000 := by omega
      clear hRT hps hm9 hmp h54 hcv
      refine HSG.out.mono ?_
      rintro e w50 ⟨r, rfl, hr, b1⟩
      clear HSG
      have hr2 : (r = true ∧ Signed (itL q z) m (z 4) z n K mk) ∨ (r = false ∧ ¬ Signed (itL q z) m (z 4) z n K mk) := by rw [HPA.out.2.1, HPA.out.2.2.2, ← signed_al (itL_al HI.out)] at hr; exact hr
      have HR2 := Lib.hid hr2
      clear hr hr2
      have HO3 := Lib.hid (OwnT.below HO.out b1)
      clear HO
      have HO := HO3
      clear HO3
      have RTn := Lib.hid (RT.out.below b1 RT.out.lt)
      clear RT
      have RT := RTn
      clear RTn
      have K4n := Lib.hid (K4.out.below b1 K4.out.lt)
      clear K4
      have K4 := K4n
      clear K4n
      have K6n := Lib.hid (K6.out.below b1 K6.out.lt)
      clear K6
      have K6 := K6n
      clear K6n
      have HBn := Lib.hid (HB.out.trans (b1.mono HB.out.size))
      clear HB
      have HB := HBn
      clear HBn
      clear b1
      cases r with
      | false =>
        go_wp2_with (refine wpList_v (op := ⟨some 33, _, _, _, _, _⟩) rfl (.agg (pdC pd0)) (build_pd0 _ _ rfl _) ?_; refine Hid.out ?_)
        refine Lib.hid ?_
        go_wp2_with (refine wpList_st rfl 46 (.tmp 4) (.tmp 33) rfl N1 0 rfl (.agg (pdC pd0)) (pdC pd0) rfl rfl info_pdP (pdC_one _) K4.out (Nat.le_of_ble_eq_true rfl) (C' := pdC pd0) (pd_over _ _) ?_; intro w60 q1; refine Hid.out ?_)
        refine Lib.hid ?_
        have RTn := Lib.hid (RT.out.far q1 (by omega))
        clear RT
        have RT := RTn
        clear RTn
        have K6n := Lib.hid (K6.out.far q1 (by omega))
        clear K6
        have K6 := K6n
        clear K6n
        have HBn := Lib.hid (HB.out.trans (q1.2.1 _ (by omega)))
        clear HB
        have HB := HBn
        clear HBn
        have K4n : Hid (Blk 46 w60 N1 (pdC pd0)) := Lib.hid q1.1
        clear K4
        have K4 := K4n
        clear K4n q1
        go_wp2_with fail
        exact bodyPost_ret (results_2 rfl _ _ N1 (pdC (pd0)) (.int .i64 9) Tryd.underlying46 rfl info_pdP rfl rfl K4.out) rfl (.inr (.inr (.inr ⟨HX.out, hkp, (HR2.out.resolve_left (fun h => by cases h.1)).2, rfl, HB.out⟩)))
      | true =>
        have hsg := (HR2.out.resolve_right (fun h => by cases h.1)).2
        have hm0 : 0 < m := hsg.1
        have HSG := Lib.hid hsg
        clear hsg
        obtain ⟨l, hl⟩ : ∃ l, m = l + 1 := ⟨m - 1, by omega⟩
        have HL := Lib.hid hl
        have cp : w50.cell? ⟨N11, 46, none⟩ = some (.slice A7 m c7) := (K6.out.cell 46).trans (by rw [pd_46, HPA.out.1, HPA.out.2.1, HPA.out.2.2.1])
        obtain ⟨A8, c8, e8, h81, h82, h83, h84⟩ := HO.out.shape
        injection e8 with e81 e82 e83
        subst e81 e83
        obtain ⟨b7, o7, rfl, hrow⟩ := h84.row (by omega)
        have HRL : Hid (RdT w50 (some ⟨b7, o7, none⟩) l L) := Lib.hid (.inr ⟨b7, o7, rfl, hrow.1, fun j hj => hrow.2 j (by omega)⟩)
        have hl9 : l ≤ 1000 := by omega
        have hlc : l ≤ c7 := by omega
        have hlc2 : c7 ≤ 9223372036854775807 := h82
        clear e82 h81 h82 h83 h84 hrow hl
        go_wp2_with (refine wpList_v (op := ⟨some 39, _, _, _, _, _⟩) rfl (.int .i64 (l : Int)) (run_m1 _ _ _ _ _ _ rfl m l rfl rfl HL.out (by omega) _) ?_; refine Hid.out ?_)
        refine Lib.hid ?_
        go_wp2_with (refine wpList_v (op := ⟨some 40, _, _, _, _, _⟩) rfl (.slice (some ⟨b7, o7, none⟩) l c7) (slice_o _ _ _ _ rfl b7 o7 l m c7 rfl rfl hlc _) ?_; refine Hid.out ?_)
        refine Lib.hid ?_
        clear cp
        obtain ⟨i0, hi, hz0, hz1, hz2⟩ := info_parts info_tlv
        go_wp2_with (at_builtin; refine wpList_append_any rfl (.const (.slice none 0 0)) (.tmp 40) 40 rfl w.heap.size 49 i0 _ 2 32 Tryd.underlying40 hi hz0 hz1 hz2 rfl (by decide) _ 0 [] rfl (World.ownsRow_nil _ _ _ _) (some ⟨b7, o7, none⟩) l c7 (cellsT L l) rfl (cellsT_len _ _) (fun e => by cases e) (rdT_news HRL.out) (cellsT_one _ _) (by unfold maxLen; omega) (by omega) HB.out.size ?_; intro v41 w60 ho hgr; refine Hid.out ?_)
        refine Lib.hid ?_
        have b1 : Below w50.heap.size w50 w60 := (Below.refl _ _).grown hgr (Nat.le_refl _) (fun x e => by cases e)
        have hod := OwnT.drop1 HO.out (by have := HL.out; omega) ho b1
        have HO3 := Lib.hid hod
        clear HO
        have HO := HO3
        clear HO3 ho hgr hod HRL hi hz0 hz1 hz2
        have RTn := Lib.hid (RT.out.below b1 RT.out.lt)
        clear RT
        have RT := RTn
        clear RTn
        have K4n := Lib.hid (K4.out.below b1 K4.out.lt)
        clear K4
        have K4 := K4n
        clear K4n
        have K6n := Lib.hid (K6.out.below b1 K6.out.lt)
        clear K6
        have K6 := K6n
        clear K6n
        have HBn := Lib.hid (HB.out.trans (b1.mono HB.out.size))
        clear HB
        have HB := HBn
        clear HBn
        clear b1
        obtain ⟨A9, c9, rfl, hc91, hc92, hA9, _⟩ := HO.out.shape
        have HA9 := Lib.hid (And.intro hA9 (And.intro hc91 hc92))
        clear hA9 hc91 hc92
        go_wp2_with (refine wpList_st rfl 40 (.tmp 42) (.tmp 41) rfl N11 46 rfl (.slice A9 l c9) (#[.slice A9 l c9]) rfl rfl info_lt one_sl K6.out (Nat.le_of_ble_eq_true rfl) (C' := pdC (withT p A9 l c9)) (pd_put _ _ _ _) ?_; intro w70 q1; refine Hid.out ?_)
        refine Lib.hid ?_
        have HO3 := Lib.hid (OwnT.farT HO.out K6.out q1)
        have RTn := Lib.hid (RT.out.far q1 (by omega))
        clear RT
        have RT := RTn
        clear RTn
        have K4n := Lib.hid (K4.out.far q1 (by omega))
        clear K4
        have K4 := K4n
        clear K4n
        have HBn := Lib.hid (HB.out.trans (q1.2.1 _ (by omega)))
        clear HB
        have HB := HBn
        clear HBn
        have K6n : Hid (Blk 46 w70 N11 (pdC (withT p A9 l c9))) := Lib.hid q1.1
        clear K6
        have K6 := K6n
        clear K6n q1
        clear HO
        have HO := HO3
        clear HO3
        go_wp2_with (refine wpList_ld (op := ⟨some 43, _, _, _, _, _⟩) (by rfl) 46 (.tmp 6) rfl N11 0 rfl (pdC (withT p A9 l c9)) _ K6.out.all Tryd.underlying46 rfl info_pdP ?_; refine Hid.out ?_)
        refine Lib.hid ?_
        go_wp2_with (refine wpList_st rfl 46 (.tmp 4) (.tmp 43) rfl N1 0 rfl (.agg (pdC (withT p A9 l c9))) (pdC (withT p A9 l c9)) rfl rfl info_pdP (pdC_one _) K4.out (Nat.le_of_ble_eq_true rfl) (C' := pdC (withT p A9 l c9)) (pd_over _ _) ?_; intro w80 q1; refine Hid.out ?_)
        refine Lib.hid ?_
        have HO3 := Lib.hid (OwnT.farT HO.out K4.out q1)
        have RTn := Lib.hid (RT.out.far q1 (by omega))
        clear RT
        have RT := RTn
        clear RTn
        have K6n := Lib.hid (K6.out.far q1 (by omega))
        clear K6
        have K6 := K6n
        clear K6n
        have HBn := Lib.hid (HB.out.trans (q1.2.1 _ (by omega)))
        clear HB
        have HB := HBn
        clear HBn
        have K4n : Hid (Blk 46 w80 N1 (pdC (withT p A9 l c9))) := Lib.hid q1.1
        clear K4
        have K4 := K4n
        clear K4n q1
        clear HO
        have HO := HO3
        clear HO3
        go_wp2_with fail
        have hml : m - 1 = l := by have := HL.out; omega
        exact bodyPost_ret (results_2 rfl _ _ N1 (pdC (withT p A9 l c9)) (.int .i64 0) Tryd.underlying46 rfl info_pdP rfl rfl K4.out) rfl (.inr (.inr (.inl ⟨HX.out, hkp, HSG.out, A9, c9, L, by rw [← HP.out, hml]; rfl, by rw [hml]; exact HO.out, fun j hj => HI.out j (by omega), by rw [hml]; exact HA9.out.1, by rw [hml]; exact HA9.out.2.1, HA9.out.2.2, HB.out⟩)))
  · have hXb : (X != 0) = true := by simpa using hX0
    have HX0 := Lib.hid hX0
    clear hX hX0
    go_wp2_with (refine wpList_v (op := ⟨some 20, _, _, _, _, _⟩) rfl (.agg (pdC pd0)) (build_pd0 _ _ rfl _) ?_; refine Hid.out ?_)
    refine Lib.hid ?_
    go_wp2_with (refine wpList_st rfl 46 (.tmp 4) (.tmp 20) rfl N1 0 rfl (.agg (pdC pd0)) (pdC pd0) rfl rfl info_pdP (pdC_one _) K4.out (Nat.le_of_ble_eq_true rfl) (C' := pdC pd0) (pd_over _ _) ?_; intro w40 q1; refine Hid.out ?_)
    refine Lib.hid ?_
    have RTn := Lib.hid (RT.out.far q1 (by omega))
    clear RT
    have RT := RTn
    clear RTn
    have K6n := Lib.hid (K6.out.far q1 (by omega))
    clear K6
    have K6 := K6n
    clear K6n
    have HBn := Lib.hid (HB.out.trans (q1.2.1 _ (by omega)))
    clear HB
    have HB := HBn
    clear HBn
    have K4n : Hid (Blk 46 w40 N1 (pdC pd0)) := Lib.hid q1.1
    clear K4
    have K4 := K4n
    clear K4n q1
    go_wp2_with fail
    exact bodyPost_ret (results_2 rfl _ _ N1 (pdC (pd0)) (.int .i64 X) Tryd.underlying46 rfl info_pdP rfl rfl K4.out) rfl (.inl ⟨by rw [HX.out]; exact HX0.out, by rw [HX.out]; exact ⟨rfl, HB.out⟩⟩)
end Go.Proofs.YtccoicjmmeoggaaDoor

/- What was read is written as just these bytes. Each theorem states its conditions. -/
namespace Go.Proofs.YtccoicjmmeoggaaDoor
open Go.RowKit
set_option linter.unusedVariables false
end Go.Proofs.YtccoicjmmeoggaaDoor

/- What was signed is signed: the bytes that Seal writes, read again. Each theorem states its conditions. -/
namespace Go.Proofs.YtccoicjmmeoggaaDoor
open Go.RowKit
set_option linter.unusedVariables false
set_option linter.unusedSimpArgs false

theorem hmac_congr (k : Nat → Int) (m : Nat) {z z' : Nat → Int} (n : Nat) (h : ∀ j, j < n → z j = z' j) : hmacZ k m z n = hmacZ k m z' n := by
  unfold hmacZ
  rw [sha_congr (z := catZ (xorZ (keyZ k m) 0x36) 64 z) (z' := catZ (xorZ (keyZ k m) 0x36) 64 z') (64 + n) fun j hj => ?_]
  unfold catZ
  split
  · rfl
  · exact h _ (by omega)
/-- bytes that are the same but for what a signature's sum doesn't look at -/
def SameB (q2 : Prop) (z z' : Nat → Int) (n : Nat) : Prop := ∀ j, j < n - 32 → (q2 → j ≠ 10 ∧ j ≠ 11 ∧ j ≠ 24 ∧ j ≠ 25) → z j = z' j
theorem blk_congr (q2 : Prop) [Decidable q2] {z z' : Nat → Int} {n : Nat} (h : SameB q2 z z' n) : ∀ j, j < n → blkZ q2 z n j = blkZ q2 z' n j := by
  intro j hj
  unfold blkZ
  by_cases hq : q2
  · rw [if_pos hq, if_pos hq]
    unfold zapZ
    by_cases h1 : 24 ≤ j ∧ j < 24 + 2
    · rw [if_pos h1, if_pos h1]
    · rw [if_neg h1, if_neg h1]
      by_cases h2 : 10 ≤ j ∧ j < 10 + 2
      · rw [if_pos h2, if_pos h2]
      · rw [if_neg h2, if_neg h2]
        by_cases h3 : n - 32 ≤ j ∧ j < n - 32 + 32
        · rw [if_pos h3, if_pos h3]
        · rw [if_neg h3, if_neg h3]
          exact h j (by omega) (fun _ => ⟨by omega, by omega, by omega, by omega⟩)
  · rw [if_neg hq, if_neg hq]
    unfold zapZ
    by_cases h3 : n - 32 ≤ j ∧ j < n - 32 + 32
    · rw [if_pos h3, if_pos h3]
    · rw [if_neg h3, if_neg h3]
      exact h j (by omega) (fun h => absurd h hq)
theorem cls_2 (k : Int) : cls k = 2 ↔ k = 18 ∨ k = 20 := by
  unfold cls
  constructor
  · intro h; (repeat' split at h) <;> omega
  · intro h; (repeat' split) <;> omega
/-- two lists that are alike but for the last one's bytes behind the third -/
theorem pdZ_diff {p : Pd} {q m : Nat} {La Lb : Nat → It} (hq : q ≤ 4) (hm : p.m = m + 1) (hal : ∀ j, j < m → (La j).ty = (Lb j).ty ∧ (La j).n = (Lb j).n ∧ ∀ i, i < (La j).n → (La j).z i = (Lb j).z i)
    (ht : (La m).ty = (Lb m).ty) (ha : (La m).n = 35) (hb : (Lb m).n = 35) (hz : ∀ i, i < 3 → (La m).z i = (Lb m).z i) : ∀ j, j < hdN q + sz La p.m - 32 → (q = 2 → j ≠ 24 ∧ j ≠ 25) → pdZ p q La j = pdZ p q Lb j := by
  have hs : sz La m = sz Lb m := sz_congr (m := m) (fun j hj => (hal j hj).2.1) m (Nat.le_refl _)
  have hsa : sz La p.m = sz La m + 37 := by rw [hm]; simp only [sz, ha]
  have hsb : sz Lb p.m = sz Lb m + 37 := by rw [hm]; simp only [sz, hb]
  have hw : ∀ j, j < hdN q + sz La p.m - 32 → wZ p q La j = wZ p q Lb j := by
    intro j hj
    unfold wZ
    rw [show sz Lb p.m = sz La p.m by omega]
    unfold cat
    split
    · rfl
    · rw [hm]
      simp only [J]
      rw [ht, ha, hb, ← hs]
      unfold cat
      by_cases h1 : j - hdN q < sz La m + 2
      · rw [if_pos h1, if_pos h1]
        by_cases h2 : j - hdN q < sz La m
        · rw [if_pos h2, if_pos h2]
          exact J_congr (m := m) hal m (Nat.le_refl _) _ h2
        · rw [if_neg h2, if_neg h2]
      · rw [if_neg h1, if_neg h1]
        exact hz _ (by omega)
  intro j hj h2
  unfold pdZ
  by_cases e : q = 2
  · rw [if_pos e, if_pos e]
    unfold sgZ
    obtain ⟨h3, h4⟩ := h2 e
    rw [if_neg h3, if_neg h3, if_neg h4, if_neg h4]
    exact hw j hj
  · rw [if_neg e, if_neg e]; exact hw j hj
/-- everything that is known of bytes that Seal wrote -/
structure Sl (p : Pd) (L : Nat → It) (m0 id sn : Nat) (k : Nat → Int) (q N : Nat) (F : Nat → Int) : Prop where
  hq : cls p.kd = q
  hq4 : q ≤ 4
  hn : wrN (slP p) (slT L p.m id nou) m0 = N
  h54 : 54 ≤ N
  h92 : N ≤ 1492
  hm0 : m0 = p.m + 1
  hb : ∀ j, 0 ≤ F j ∧ F j ≤ 255
  hz : seZ p L m0 id k sn false = cutN N F
  h4 : F 4 = p.kd
  good : GoodZ F N (p.m + 1)
  last : (itL q F p.m).ty = 10 ∧ (itL q F p.m).n = 35 ∧ ∀ i, i < 35 → (itL q F p.m).z i = sigZ id (seM p L m0 id k sn) i
  items : ∀ j, j < p.m → (itL q F j).ty = (L j).ty ∧ (itL q F j).n = (L j).n ∧ ∀ i, i < (L j).n → (itL q F j).z i = (L j).z i
  same : SameB (p.kd = 18 ∨ p.kd = 20) F (cutN N (wrZ (slP p) (slT L p.m id nou) m0)) N
  eq : rdP q F = rdP q (pdZ (slP p) q (slT L p.m id (seM p L m0 id k sn))) ∧ PdEq (rdP q F) (plQ q (slP p))
theorem isIt_I (q : Nat) (z : Nat → Int) (m : Nat) : IsItZ (tlZ q z) (itL q z) m := fun j _ => ⟨0, 0, rfl⟩
theorem seM_bd (p : Pd) (L : Nat → It) (m0 id : Nat) (k : Nat → Int) (sn : Nat) : ∀ j, 0 ≤ seM p L m0 id k sn j ∧ seM p L m0 id k sn j ≤ 255 := dg_bd _
theorem sealedF (p : Pd) (hp : PdOk p) (L : Nat → It) (m0 id sn : Nat) (k : Nat → Int) (w : World) (hR : RdT w p.A p.m L) (hm : JEnds (slT L p.m id nou) (p.m + 1) m0) (h0 : seX p L m0 id sn false = 0) (hid : id ≤ 65535) :
    Sl p L m0 id sn k (cls p.kd) (wrN (slP p) (slT L p.m id nou) m0) (pdZ (slP p) (cls p.kd) (slT L p.m id (seM p L m0 id k sn))) := by
  have hX : wrX (slP p) (slT L p.m id nou) m0 = 0 := (lea_zero (show lea (wrX (slP p) (slT L p.m id nou) m0) (secE sn) = 0 from h0)).1
  have hXM := sl_x (z' := seM p L m0 id k sn) hX
  obtain ⟨h1, h2, h3⟩ := cls_x hXM
  have hmm : (slP p).m = p.m + 1 := rfl
  have hm0 : m0 = p.m + 1 := by have := hm.1; omega
  have hN : wrN (slP p) (slT L p.m id (seM p L m0 id k sn)) m0 = wrN (slP p) (slT L p.m id nou) m0 := (slT_z p L m0 id _ nou).2
  have hN2 : wrN (slP p) (slT L p.m id (seM p L m0 id k sn)) m0 = hdN (cls (slP p).kd) + sz (slT L p.m id (seM p L m0 id k sn)) (p.m + 1) := by unfold wrN; rw [if_pos hXM, hmm]
  have hF : wrZ (slP p) (slT L p.m id (seM p L m0 id k sn)) m0 = pdZ (slP p) (cls p.kd) (slT L p.m id (seM p L m0 id k sn)) := by unfold wrZ; rw [if_pos hXM]; rfl
  have hF0 : wrZ (slP p) (slT L p.m id nou) m0 = pdZ (slP p) (cls p.kd) (slT L p.m id nou) := by unfold wrZ; rw [if_pos hX]; rfl
  have hnb : ∀ j, j < p.m + 1 → ¬ bad (slT L p.m id nou) j := fun j hj => hm.2.1 j (by omega)
  have hJ : ∀ j, 0 ≤ J (slT L p.m id (seM p L m0 id k sn)) (p.m + 1) j ∧ J (slT L p.m id (seM p L m0 id k sn)) (p.m + 1) j ≤ 255 := by
    have hit : ∀ j, j < p.m → ItOk w (L j) := fun j hj => by obtain ⟨b, off, _, hr⟩ := hR.row (by omega); exact (hr.2 j hj).2.2
    refine J_bd _ _ (fun j hj => ?_) (fun j hj => ?_) (fun j hj i => ?_)
    · unfold slT
      by_cases e : j < p.m
      · rw [addT_lo _ _ _ _ e]; exact (hit j e).1
      · obtain rfl : j = p.m := by omega
        rw [addT_hi]; exact ⟨by show (0 : Int) ≤ 10; decide, by show (10 : Int) ≤ 255; decide⟩
    · have := hnb j hj
      unfold bad at this
      have h9 : (slT L p.m id (seM p L m0 id k sn) j).n = (slT L p.m id nou j).n := by
        unfold slT
        by_cases e : j < p.m
        · rw [addT_lo _ _ _ _ e, addT_lo _ _ _ _ e]
        · obtain rfl : j = p.m := by omega
          rw [addT_hi, addT_hi]
      omega
    · unfold slT
      by_cases e : j < p.m
      · rw [addT_lo _ _ _ _ e]; exact (hit j e).2.1.2 i
      · obtain rfl : j = p.m := by omega
        rw [addT_hi]; exact sigZ_bd id (seM_bd p L m0 id k sn) i
  have hFb := pdZ_bd (slP p) (cls p.kd) (slT L p.m id (seM p L m0 id k sn)) h1 hp hJ
  have htl : tlZ (cls p.kd) (pdZ (slP p) (cls p.kd) (slT L p.m id (seM p L m0 id k sn))) = J (slT L p.m id (seM p L m0 id k sn)) (p.m + 1) := by
    funext j
    exact pd_tail (slP p) (cls p.kd) _ h1 j
  have hback := J_back (L := slT L p.m id (seM p L m0 id k sn)) (L5 := itL (cls p.kd) (pdZ (slP p) (cls p.kd) (slT L p.m id (seM p L m0 id k sn)))) (m := p.m + 1) (by rw [← htl]; exact isIt_I _ _ _)
  have hle : hdN (cls (slP p).kd) + sz (slT L p.m id (seM p L m0 id k sn)) (slP p).m ≤ 1492 := by rw [hmm] at h3 ⊢; omega
  refine ⟨rfl, h1, rfl, sl_54 hX, wrN_le _ _ _, hm0, hFb, ?_, ?_, ?_, ?_, ?_, ?_, rfl, ?_⟩
  · unfold seZ; rw [if_pos h0, hF]
  · exact (pd_head (slP p) _ _ h1 4 (by omega)).trans rfl
  · have := good_pd (slP p) (slT L p.m id (seM p L m0 id k sn)) hp h1 h2 hle hFb
    rw [← hN, hN2]
    exact this
  · obtain ⟨a1, a2, a3⟩ := hback p.m (by omega)
    have e : slT L p.m id (seM p L m0 id k sn) p.m = ⟨10, none, 35, 35, sigZ id (seM p L m0 id k sn)⟩ := addT_hi _ _ _
    rw [e] at a1 a2 a3
    exact ⟨a1, a2, fun i hi => a3 i (by rw [a2]; exact hi)⟩
  · intro j hj
    obtain ⟨a1, a2, a3⟩ := hback j (by omega)
    have e : slT L p.m id (seM p L m0 id k sn) j = L j := addT_lo _ _ _ _ hj
    rw [e] at a1 a2 a3
    exact ⟨a1, a2, fun i hi => a3 i (by rw [a2]; exact hi)⟩
  · intro j hj h9
    rw [cutN_lt _ (by omega), hF0]
    refine pdZ_diff (m := p.m) h1 hmm (fun i hi => ?_) ?_ ?_ ?_ (fun i hi => ?_) j (by have e9 := hN.symm.trans hN2; show j < hdN (cls (slP p).kd) + sz (slT L p.m id (seM p L m0 id k sn)) (p.m + 1) - 32; omega) (fun e => (h9 ((cls_2 _).1 e)).2.2)
    · unfold slT; rw [addT_lo _ _ _ _ hi, addT_lo _ _ _ _ hi]; exact ⟨rfl, rfl, fun _ _ => rfl⟩
    · unfold slT; rw [addT_hi, addT_hi]
    · unfold slT; rw [addT_hi]
    · unfold slT; rw [addT_hi]
    · unfold slT
      rw [addT_hi, addT_hi]
      show sigZ id (seM p L m0 id k sn) i = sigZ id nou i
      unfold sigZ
      by_cases e : i = 0
      · rw [if_pos e, if_pos e]
      · rw [if_neg e, if_neg e, if_pos hi, if_pos hi]
  · exact rd_eq (slP p) _ hp (cls p.kd) rfl h1 h2
theorem sealed (p : Pd) (hp : PdOk p) (L : Nat → It) (m0 id sn : Nat) (k : Nat → Int) (w : World) (hR : RdT w p.A p.m L) (hm : JEnds (slT L p.m id nou) (p.m + 1) m0) (h0 : seX p L m0 id sn false = 0) (hid : id ≤ 65535) :
    ∃ q N F, Sl p L m0 id sn k q N F :=
  ⟨_, _, _, sealedF p hp L m0 id sn k w hR hm h0 hid⟩
/-- the number in a signature -/
theorem sig_num {id : Nat} (h : id ≤ 65535) {y M : Nat → Int} (he : ∀ i, i < 35 → y i = sigZ id M i) : (numZ y 1 2).toNat = id := by
  have h1 := he 1 (by omega)
  have h2 := he 2 (by omega)
  have e1 : sigZ id M 1 = ((id / 256 : Nat) : Int) := (put_hi h).symm
  have e2 : sigZ id M 2 = ((id % 256 : Nat) : Int) := (put_lo h).symm
  show ((0 * 256 + y (1 + 0)) * 256 + y (1 + 1)).toNat = id
  rw [show (1 + 0 : Nat) = 1 from rfl, show (1 + 1 : Nat) = 2 from rfl, h1, h2, e1, e2]
  omega
/-- it is signed with its key, whatever stands in the life's place -/
theorem signed_yes {p : Pd} {L : Nat → It} {m0 id sn q N : Nat} {k F G : Nat → Int} (h : Sl p L m0 id sn k q N F) (hid : id ≤ 65535) (hns : NoSig L p.m) (hit : ∀ j, j < p.m + 1 → Alike (itL q F j) (itL q G j)) (hG : SameB (p.kd = 18 ∨ p.kd = 20) G F N) {K : Nat → It} {mk f : Nat} (hf : FstKey K id mk f) (hkz : (K f).z = k) (hkn : (K f).n = sn) :
    Signed (itL q G) (p.m + 1) p.kd G N K mk := by
  obtain ⟨a1, a2, a3⟩ := h.last
  obtain ⟨b1, b2, b3⟩ := hit p.m (by omega)
  refine ⟨by omega, ⟨by omega, ?_, fun j hj => ?_⟩, ?_, ?_, f, ?_, ?_⟩
  · show (itL q G p.m).ty = 10; rw [← b1]; exact a1
  · have hj' : j < p.m := hj
    rw [← (hit j (by omega)).1, (h.items j hj').1]; exact hns j hj'
  · show (itL q G p.m).n = 35; rw [← b2]; exact a2
  · show (itL q G p.m).z 0 = 3; rw [← b3]; exact a3 0 (by omega)
  · show FstKey K (numZ (itL q G p.m).z 1 2).toNat mk f
    rw [← b3, sig_num hid a3]; exact hf
  · intro j hj
    show (itL q G p.m).z (3 + j) = _
    rw [← b3, a3 (3 + j) (by omega), hkz, hkn]
    have e : sigZ id (seM p L m0 id k sn) (3 + j) = seM p L m0 id k sn j := by
      unfold sigZ; rw [if_neg (by omega), if_neg (by omega), Nat.add_sub_cancel_left]
    rw [e]
    unfold seM
    rw [h.hn]
    refine congrFun (hmac_congr _ _ _ (blk_congr _ fun i hi h9 => ?_)) j
    rw [hG i hi h9]
    exact (h.same i hi h9).symm
end Go.Proofs.YtccoicjmmeoggaaDoor

/- What was sealed, opened, sealed again and written bare: each call's answer. Each theorem states its conditions. -/
namespace Go.Proofs.YtccoicjmmeoggaaDoor
open Go.RowKit
set_option linter.unusedVariables false
set_option linter.unusedSimpArgs false

theorem rdK_none (w : World) (K : Nat → It) : RdK w none 0 K := ⟨.inl rfl, fun j hj => by omega⟩
section
variable {p : Pd} {L : Nat → It} {m0 id sn q N : Nat} {k F : Nat → Int}
theorem rd_zc {w : World} {A : Option Addr} {n : Nat} {z z' : Nat → Int} (h : Rd w A n z) (he : ∀ j, j < n → z j = z' j) (hz : ∀ j, 0 ≤ z' j ∧ z' j ≤ 255) : Rd w A n z' := by
  refine ⟨?_, hz⟩
  rcases h.1 with h0 | ⟨b, off, rfl, h1, h2, h3⟩
  · exact .inl h0
  · exact .inr ⟨b, off, rfl, h1, fun j hj => by rw [← he j hj]; exact h2 j hj, hz⟩
theorem Sl.rd (h : Sl p L m0 id sn k q N F) {w : World} {A : Option Addr} (hr : Rd w A N (seZ p L m0 id k sn false)) : Rd w A N F := rd_zc hr (fun j hj => by rw [h.hz, cutN_lt _ hj]) h.hb
theorem Sl.cq (h : Sl p L m0 id sn k q N F) : cls (F 4) = q := by rw [h.h4]; exact h.hq
theorem al_openG (h : Sl p L m0 id sn k q N F) (hid : id ≤ 65535) (hns : NoSig L p.m) (G : Nat → Int) (hgood : GoodZ G N (p.m + 1)) (h4 : G 4 = p.kd) (hit : ∀ j, j < p.m + 1 → Alike (itL q F j) (itL q G j)) (hG : SameB (p.kd = 18 ∨ p.kd = 20) G F N)
    (A : Option Addr) (c : Nat) (w : World) (hr : Rd w A N G) (hA : A = none → N = 0 ∧ c = 0) (hc : N ≤ c) (hcm : c ≤ maxLen) (hg : Rts w 0)
    (KA : Option Addr) (mk ck : Nat) (K : Nat → It) (hK : RdK w KA mk K) (hke : keysE K mk = 0) (f : Nat) (hf : FstKey K id mk f) (hkz : (K f).z = k) (hkn : (K f).n = sn) :
    Calls Tryd.prog 22 #[.slice A N c, .slice KA mk ck] w (RdOk w q G p.m) := by
  have hcq : cls (G 4) = q := by rw [h4]; exact h.hq
  have hrd : ∀ w, Rd w A N G → Calls Tryd.prog 45 #[.slice A N c] w (RdOk w q G (p.m + 1)) := fun w hr => by
    have := read_good A N c G w hr hc hcm h.h92 _ hgood
    rw [hcq] at this
    exact this
  have hf1 := hf.1
  refine (open_yes A N c G KA mk ck K q (p.m + 1) w hcq hgood h.h92 hrd hr hA hK hg).mono fun e w' hp => ?_
  rcases hp with ⟨h1, _⟩ | ⟨_, h2, h3⟩ | ⟨_, h2, _, h3⟩ | ⟨_, h2, h3, _⟩
  · exact absurd hke h1
  · omega
  · exact h3
  · rw [h4] at h3
    exact absurd (signed_yes h hid hns hit hG hf hkz hkn) h3
end
end Go.Proofs.YtccoicjmmeoggaaDoor

/- The walk of MacSeals: for every input the law returns true, and nothing that was there is written, if the table lies as the text lays it. -/
namespace Go.Proofs.YtccoicjmmeoggaaDoor
open Go.RowKit
set_option linter.unusedVariables false
set_option linter.unusedSimpArgs false

theorem rdK_one {w : World} {g : Nat} {t : It} (h : Blk 45 w g (kC t)) (hk : KeOk w t) : RdK w (some ⟨g, 0, none⟩) 1 (fun _ => t) :=
  ⟨.inr ⟨g, 0, rfl, h.lt, fun j hj => by
    obtain rfl : j = 0 := by omega
    exact h.all⟩, fun j hj => hk⟩
end Go.Proofs.YtccoicjmmeoggaaDoor

/- What was sealed is opened with its key among others, with others alone, and with another life. Each theorem states its conditions. -/
namespace Go.Proofs.YtccoicjmmeoggaaDoor
open Go.RowKit
set_option linter.unusedVariables false
set_option linter.unusedSimpArgs false

theorem keysE_ok {K : Nat → It} {m : Nat} (h8 : m ≤ 8) (h : ∀ j, j < m → 0 < (K j).n ∧ (K j).n ≤ 64) : keysE K m = 0 := by
  have : ∀ k, k ≤ m → ckE K k = 0 := by
    intro k
    induction k with
    | zero => intro _; rfl
    | succ k ih =>
      intro hk
      show lea (ckE K k) (secE (K k).n) = 0
      obtain ⟨h1, h2⟩ := h k (by omega)
      rw [ih (by omega), show secE (K k).n = 0 from by unfold secE; rw [if_neg (by omega), if_neg (by omega)]]
      rfl
  unfold keysE
  rw [if_neg (by omega)]
  exact this m (Nat.le_refl _)
theorem PdEq.trans {p p' p'' : Pd} (h : PdEq p p') (h' : PdEq p' p'') : PdEq p p'' := by
  obtain ⟨⟨a1, a2, a3, a4, a5, a6, a7⟩, a8, a9, a10, a11, a12, a13⟩ := h
  obtain ⟨⟨b1, b2, b3, b4, b5, b6, b7⟩, b8, b9, b10, b11, b12, b13⟩ := h'
  exact ⟨⟨a1.trans b1, a2.trans b2, fun j hj => (a3 j hj).trans (b3 j hj), a4.trans b4, a5.trans b5, a6.trans b6, fun j hj => (a7 j hj).trans (b7 j hj)⟩, a8.trans b8, fun j hj => (a9 j hj).trans (b9 j hj), a10.trans b10, a11.trans b11, fun j hj => (a12 j hj).trans (b12 j hj), fun j hj => (a13 j hj).trans (b13 j hj)⟩
theorem pl_sl (q : Nat) (p : Pd) : PdEq (plQ q (slP p)) (plQ q p) := by
  unfold plQ
  (repeat' split) <;> exact ⟨⟨rfl, rfl, fun _ _ => rfl, rfl, rfl, rfl, fun _ _ => rfl⟩, rfl, fun _ _ => rfl, rfl, rfl, fun _ _ => rfl, fun _ _ => rfl⟩
/-- the bytes behind Seal, with another life or not; W: the packet that they tell -/
structure Bk (p : Pd) (q N : Nat) (F G : Nat → Int) (W : Pd) : Prop where
  bd : ∀ j, 0 ≤ G j ∧ G j ≤ 255
  good : GoodZ G N (p.m + 1)
  h4 : G 4 = p.kd
  hit : itL q G = itL q F
  hG : SameB (p.kd = 18 ∨ p.kd = 20) G F N
  eq : PdEq (rdP q G) W
  hw : W.A = p.A ∧ W.m = p.m ∧ W.c = p.c
section
variable {p : Pd} {L : Nat → It} {m0 id sn q N : Nat} {k F G : Nat → Int} {W : Pd}
theorem bk_self (h : Sl p L m0 id sn k q N F) : Bk p q N F F (plQ q p) :=
  ⟨h.hb, h.good, h.h4, rfl, fun _ _ _ => rfl, h.eq.2.trans (pl_sl q p), plQ_tl q p⟩
theorem bk_life (h : Sl p L m0 id sn k 2 N F) (hp : PdOk p) (hF : F = pdZ (slP p) 2 (slT L p.m id (seM p L m0 id k sn))) (hl : p.kd = 18 ∨ p.kd = 20) (n : Nat) (hn : n ≤ 65535) : Bk p 2 N F (upd (upd F 10 ((n : Int) / 256)) 11 ((n : Int) % 256)) (pl2 (setL p n)) := by
  have hb : ∀ j, 0 ≤ upd (upd F 10 ((n : Int) / 256)) 11 ((n : Int) % 256) j ∧ upd (upd F 10 ((n : Int) / 256)) 11 ((n : Int) % 256) j ≤ 255 :=
    upd_bd (upd_bd h.hb 10 _ ⟨by omega, by omega⟩) 11 _ ⟨by omega, by omega⟩
  have hlp := life_pd (slP p) (slT L p.m id (seM p L m0 id k sn)) n hn
  rw [← hF] at hlp
  obtain ⟨G, hG⟩ : ∃ G, upd (upd F 10 ((n : Int) / 256)) 11 ((n : Int) % 256) = G := ⟨_, rfl⟩
  have hGu : ∀ j, j ≠ 10 → j ≠ 11 → G j = F j := fun j h1 h2 => by rw [← hG, upd_other _ _ _ _ h2, upd_other _ _ _ _ h1]
  rw [hG] at hb hlp ⊢
  have hok : PdOk (setL (slP p) n) := setL_ok (withT_ok hp _ _ _) _ ⟨by omega, by omega⟩
  have hk : cls (setL (slP p) n).kd = 2 := h.hq
  have hft : fitP (setL (slP p) n) 2 = true := fit_setL (slP p) n hn
  have htF : tlZ 2 F = J (slT L p.m id (seM p L m0 id k sn)) (p.m + 1) := by funext j; rw [hF]; exact pd_tail (slP p) 2 _ (by decide) j
  have htG : tlZ 2 G = J (slT L p.m id (seM p L m0 id k sn)) (p.m + 1) := by funext j; rw [hlp]; exact pd_tail (setL (slP p) n) 2 _ (by decide) j
  have hback := J_back (L := slT L p.m id (seM p L m0 id k sn)) (L5 := itL 2 F) (m := p.m + 1) (by rw [← htF]; exact isIt_I _ _ _)
  have hs := sz_congr (m := p.m + 1) (fun j hj => (hback j hj).2.1) (p.m + 1) (Nat.le_refl _)
  have hgs := (good_sz h.good h.cq (isIt_I 2 F (p.m + 1))).1
  rw [hs] at hgs
  have h92 := h.h92
  have hgd := good_pd (setL (slP p) n) (slT L p.m id (seM p L m0 id k sn)) hok (by rw [hk]; decide) (by rw [hk]; exact hft) (by rw [hk]; show hdN 2 + sz (slT L p.m id (seM p L m0 id k sn)) (p.m + 1) ≤ 1492; omega) (by rw [hk, ← hlp]; exact hb)
  rw [hk, ← hlp] at hgd
  refine ⟨hb, ?_, ?_, ?_, ?_, ?_, ⟨rfl, rfl, rfl⟩⟩
  · have e : hdN 2 + sz (slT L p.m id (seM p L m0 id k sn)) (setL (slP p) n).m = N := by
      show hdN 2 + sz (slT L p.m id (seM p L m0 id k sn)) (p.m + 1) = N
      omega
    rw [e] at hgd
    exact hgd
  · exact (hGu 4 (by decide) (by decide)).trans h.h4
  · unfold itL
    rw [htF, htG]
  · intro j hj h9
    obtain ⟨a1, a2, _⟩ := h9 hl
    exact hGu j a1 a2
  · have := rd_eq (setL (slP p) n) (slT L p.m id (seM p L m0 id k sn)) hok 2 hk (by decide) hft
    rw [← hlp] at this
    exact this.trans ⟨⟨rfl, rfl, fun _ _ => rfl, rfl, rfl, rfl, fun _ _ => rfl⟩, rfl, fun _ _ => rfl, rfl, rfl, fun _ _ => rfl, fun _ _ => rfl⟩
theorem Bk.al (hb : Bk p q N F G W) : ∀ j, j < p.m + 1 → Alike (itL q F j) (itL q G j) := fun j _ => by rw [hb.hit]; exact ⟨rfl, rfl, rfl⟩
/-- with keys of which the first of its number is its own -/
theorem bk_open (h : Sl p L m0 id sn k q N F) (hid : id ≤ 65535) (hns : NoSig L p.m) (hb : Bk p q N F G W)
    (A : Option Addr) (c : Nat) (w : World) (hr : Rd w A N G) (hA : A = none → N = 0 ∧ c = 0) (hc : N ≤ c) (hcm : c ≤ maxLen) (hg : Rts w 0)
    (KA : Option Addr) (mk ck : Nat) (K : Nat → It) (hK : RdK w KA mk K) (hke : keysE K mk = 0) (f : Nat) (hf : FstKey K id mk f) (hkz : (K f).z = k) (hkn : (K f).n = sn) :
    Calls Tryd.prog 22 #[.slice A N c, .slice KA mk ck] w (RdOk w q G p.m) :=
  al_openG h hid hns G hb.good hb.h4 hb.al hb.hG A c w hr hA hc hcm hg KA mk ck K hK hke f hf hkz hkn
/-- with no key -/
theorem bk_open0 (h : Sl p L m0 id sn k q N F) (hb : Bk p q N F G W) (A : Option Addr) (c : Nat) (w : World) (hr : Rd w A N G) (hA : A = none → N = 0 ∧ c = 0) (hc : N ≤ c) (hcm : c ≤ maxLen) (hg : Rts w 0) :
    Calls Tryd.prog 22 #[.slice A N c, .slice none 0 0] w (RdOk w q G (p.m + 1)) := by
  have hcq : cls (G 4) = q := by rw [hb.h4]; exact h.hq
  have hrd : ∀ w, Rd w A N G → Calls Tryd.prog 45 #[.slice A N c] w (RdOk w q G (p.m + 1)) := fun w hr => by
    have := read_good A N c G w hr hc hcm h.h92 _ hb.good
    rw [hcq] at this
    exact this
  refine (open_yes A N c G none 0 0 (fun _ => ⟨0, none, 0, 0, nou⟩) q (p.m + 1) w hcq hb.good h.h92 hrd hr hA (rdK_none w _) hg).mono fun e w' hp => ?_
  rcases hp with ⟨h1, _⟩ | ⟨_, _, h3⟩ | ⟨_, h2, _⟩ | ⟨_, h2, _⟩
  · exact absurd rfl h1
  · exact h3
  · omega
  · omega
/-- with strangers' keys alone -/
theorem bk_openS (h : Sl p L m0 id sn k q N F) (hid : id ≤ 65535) (hb : Bk p q N F G W)
    (A : Option Addr) (c : Nat) (w : World) (hr : Rd w A N G) (hA : A = none → N = 0 ∧ c = 0) (hc : N ≤ c) (hcm : c ≤ maxLen) (hg : Rts w 0)
    (KA : Option Addr) (mk ck : Nat) (K : Nat → It) (hK : RdK w KA mk K) (hke : keysE K mk = 0) (hmk : 0 < mk) (hst : ∀ j, j < mk → (K j).ty ≠ (id : Int)) :
    Calls Tryd.prog 22 #[.slice A N c, .slice KA mk ck] w (RdErr w 9) := by
  have hcq : cls (G 4) = q := by rw [hb.h4]; exact h.hq
  have hrd : ∀ w, Rd w A N G → Calls Tryd.prog 45 #[.slice A N c] w (RdOk w q G (p.m + 1)) := fun w hr => by
    have := read_good A N c G w hr hc hcm h.h92 _ hb.good
    rw [hcq] at this
    exact this
  refine (open_yes A N c G KA mk ck K q (p.m + 1) w hcq hb.good h.h92 hrd hr hA hK hg).mono fun e w' hp => ?_
  rcases hp with ⟨h1, _⟩ | ⟨_, h2, h3⟩ | ⟨_, h2, h3, _⟩ | ⟨_, h2, h3, h4⟩
  · exact absurd hke h1
  · omega
  · obtain ⟨_, _, _, _, f, ⟨hf1, hf2, _⟩, _⟩ := h3
    have e : (numZ (itL q G (p.m + 1 - 1)).z 1 2).toNat = id := by
      rw [hb.hit]
      exact sig_num hid h.last.2.2
    rw [e] at hf2
    exact absurd hf2 (hst f hf1)
  · exact h4
/-- what was opened is the packet -/
theorem bk_same (h : Sl p L m0 id sn k q N F) (hb : Bk p q N F G W) (A : Option Addr) (c : Nat) (L' : Nat → It) (hI : IsItZ (tlZ q G) L' p.m) (w : World) (ha : RdT w A p.m L') (hR : RdT w p.A p.m L) (hm : p.m ≤ 9223372036854775807) :
    Calls Tryd.prog 24 #[.agg (pdC (withT (rdP q G) A p.m c)), .agg (pdC W)] w fun e w' => e = .returned (.bool true) ∧ Below w.heap.size w w' := by
  obtain ⟨w1, w2, w3⟩ := hb.hw
  refine same_pd (withT (rdP q G) A p.m c) W L' L w (withT_ok (rdP_ok q h.hq4 G hb.bd) _ _ _) ?_ ha (by rw [w1, w2]; exact hR) w2 hm fun j hj => ?_
  · have e := pdC_ext hb.eq W.A W.m W.c
    exact e.symm
  · have hj' : j < p.m := hj
    obtain ⟨a1, a2, a3⟩ := itL_al hI j hj'
    obtain ⟨b1, b2, b3⟩ := h.items j hj'
    rw [hb.hit] at a1 a2 a3
    exact ⟨a1.symm.trans b1, a2.symm.trans b2, fun i hi => by rw [← a3]; exact b3 i (by rw [← b2, a2]; exact hi)⟩
end
end Go.Proofs.YtccoicjmmeoggaaDoor

/- Lists of keys put together, where nothing else is written. Each theorem states its conditions. -/
namespace Go.Proofs.YtccoicjmmeoggaaDoor
open Go.RowKit
set_option linter.unusedVariables false
set_option linter.unusedSimpArgs false

/-- keys in a row of the call's own, whatever their bytes are -/
def RwK (w : World) (base : Nat) (v : Value) (m : Nat) (K : Nat → It) : Prop := w.ownsRow base 45 2 v m (cellsR (kR K) m)
theorem RwK.below {w w' : World} {base m : Nat} {v : Value} {K : Nat → It} (h : RwK w base v m K) (hb : Below w.heap.size w w') : RwK w' base v m K := ownsRow_below' h hb
theorem RwK.nil (w : World) (base : Nat) (K : Nat → It) : RwK w base (.slice none 0 0) 0 K := World.ownsRow_nil _ _ _ _
theorem RwK.one {w : World} {base N : Nat} {t : It} (h : Blk 45 w N (kC t)) (hb : base ≤ N) : RwK w base (.slice (some ⟨N, 0, none⟩) 1 1) 1 (fun _ => t) :=
  ⟨rfl, .inr ⟨N, 1, kC t, rfl, hb, h, Nat.le_refl _, by decide, rfl, rfl⟩⟩
theorem RwK.shape {w : World} {base m : Nat} {v : Value} {K : Nat → It} (h : RwK w base v m K) : ∃ A c, v = .slice A m c ∧ m ≤ c ∧ c ≤ maxLen ∧ (A = none → m = 0 ∧ c = 0) ∧ RdR w A m 2 (kR K) := ownR_shape (kR_recs K) (by decide) h
theorem kR_cat (K : Nat → It) (m n : Nat) (K2 : Nat → It) : cellsR (kR K) m ++ cellsR (kR K2) n = cellsR (kR (catT K m K2)) (m + n) := by
  rw [cellsR_cat]
  refine cellsR_congr _ fun j hj => ?_
  unfold catR kR catT
  split <;> rfl
theorem kapp_run {o : Oper} {a : Act} {w : World} (s x : Operand) (ho : o.op = .call { callee := .builtin .append, args := #[s, x], argTypes := #[50, 50] })
    (base : Nat) (v : Value) (m : Nat) (K : Nat → It) (hs : a.eval s = v) (h : RwK w base v m K) (A : Option Addr) (n c : Nat) (K2 : Nat → It) (hx : a.eval x = .slice A n c) (hA : A = none → n = 0 ∧ c = 0) (hR : RdR w A n 2 (kR K2)) (hm : (m + n) * 32 ≤ 140737488355328) (hb : base ≤ w.heap.size) :
    ∃ v' w', (execOp a.eval o).run Tryd.prog w = .ok (.value v') w' ∧ RwK w' base v' (m + n) (catT K m K2) ∧ w.grownBy w' v.ownBlock ∧ Below base w w' ∧ ∀ t, OwnKV w base t → OwnKV w' base t := by
  obtain ⟨i0, hi, hz0, hz1, hz2⟩ := info_parts info_key3
  rcases A with _ | ad
  · obtain ⟨rfl, rfl⟩ := hA rfl
    have hr := run_append_owned_none (P := Tryd.prog) (w := w) base 50 o.type 45 i0 2 Tryd.underlying50 hi v m _ h
    refine ⟨v, w, ?_, ?_, World.grownBy.refl _ _, Below.refl _ _, fun t h => h⟩
    · unfold execOp
      simp only [ho, resolve, invoke, builtin, Sem.run_bind, Sem.run_pure, Result.andThen_ok, List.map_toArray, List.map_cons, List.map_nil, hs, hx, hr]
    · have e := kR_cat K m 0 K2
      rw [show cellsR (kR K2) 0 = [] from rfl, List.append_nil] at e
      show w.ownsRow base 45 2 v (m + 0) (cellsR (kR (catT K m K2)) (m + 0))
      rw [← e]
      exact h
  · obtain ⟨v', w', hr, h2, h3, h4, h5⟩ := run_append_own_at (P := Tryd.prog) w base 50 o.type 45 i0 _ 2 32 Tryd.underlying50 hi hz0 hz1 hz2 rfl (by decide) v m _ h ad n c (cellsR (kR K2) n) (cellsR_len (kR_recs K2) n) (recs_news (kR_recs K2) (by decide) hR) (cellsR_one (kR_recs K2) n) (by unfold maxLen; omega) hm hb
    refine ⟨v', w', ?_, by rw [kR_cat] at h2; exact h2, h3, (Below.refl _ _).grown h3 hb (fun k e => (h.lt k e).1), fun t h9 => ?_⟩
    · unfold execOp
      simp only [ho, resolve, invoke, builtin, Sem.run_bind, Sem.run_pure, Result.andThen_ok, List.map_toArray, List.map_cons, List.map_nil, hs, hx, hr]
    · obtain ⟨a1, a2, g, a3, a4, a5⟩ := h9
      exact ⟨a1, a2, g, a3, a4, own8_grownK a5 h h3⟩
/-- where it alone may come up -/
theorem takeKq {ops : Array Oper} {Q : Exit → Act → World → Prop} {md : Region.Mode} {S : World → Prop} {i : Nat} {oi : Oper} (d : Option Tmp) {fuel : Nat} {listed : Array Bool} {a : Act} {w : World} (s x : Operand) (hi : ops[i]? = some oi) (hd : oi.dst = d)
    (hr : Region.ready md ops listed = [i]) (hw : Region.wanted oi (yielded ops a.tmps) = true)
    (ho : oi.op = .call { callee := .builtin .append, args := #[s, x], argTypes := #[50, 50] })
    {base : Nat} {v : Value} {m : Nat} {K : Nat → It} (hs : a.eval s = v) (h : RwK w base v m K) {A : Option Addr} {n c : Nat} {K2 : Nat → It} (hx : a.eval x = .slice A n c) (hA : A = none → n = 0 ∧ c = 0) (hR : RdR w A n 2 (kR K2)) (hm : (m + n) * 32 ≤ 140737488355328) (hb : base ≤ w.heap.size)
    (k : ∀ v' w', RwK w' base v' (m + n) (catT K m K2) → w.grownBy w' v.ownBlock → Below base w w' → (∀ t, OwnKV w base t → OwnKV w' base t) → S w' ∧ wpAnyH Tryd.prog md ops Q S fuel (listed.setIfInBounds i true) (a.put d v') w') :
    wpAnyH Tryd.prog md ops Q S (fuel + 1) listed a w := by
  obtain ⟨v', w', h1, h2, h3, h4, h5⟩ := kapp_run s x ho base v m K hs h A n c K2 hx hA hR hm hb
  obtain ⟨h7, h8⟩ := k v' w' h2 h3 h4 h5
  exact takeV d hi hd hr hw h1 h7 h8
theorem consKq {ops : Array Oper} {Q : Exit → Act → World → Prop} {md : Region.Mode} {S : World → Prop} {i : Nat} {oi : Oper} (d : Option Tmp) {rs : List Nat} {fuel : Nat} {listed : Array Bool} {a : Act} {w : World} (s x : Operand) (hi : ops[i]? = some oi) (hd : oi.dst = d)
    (hw : Region.wanted oi (yielded ops a.tmps) = true)
    (ho : oi.op = .call { callee := .builtin .append, args := #[s, x], argTypes := #[50, 50] })
    {base : Nat} {v : Value} {m : Nat} {K : Nat → It} (hs : a.eval s = v) (h : RwK w base v m K) {A : Option Addr} {n c : Nat} {K2 : Nat → It} (hx : a.eval x = .slice A n c) (hA : A = none → n = 0 ∧ c = 0) (hR : RdR w A n 2 (kR K2)) (hm : (m + n) * 32 ≤ 140737488355328) (hb : base ≤ w.heap.size)
    (k : ∀ v' w', RwK w' base v' (m + n) (catT K m K2) → w.grownBy w' v.ownBlock → Below base w w' → (∀ t, OwnKV w base t → OwnKV w' base t) → S w' ∧ wpAnyH Tryd.prog md ops Q S fuel (listed.setIfInBounds i true) (a.put d v') w') (hss : AllReadyH Tryd.prog md ops Q S fuel listed a w rs) :
    AllReadyH Tryd.prog md ops Q S fuel listed a w (i :: rs) := by
  obtain ⟨v', w', h1, h2, h3, h4, h5⟩ := kapp_run s x ho base v m K hs h A n c K2 hx hA hR hm hb
  obtain ⟨h7, h8⟩ := k v' w' h2 h3 h4 h5
  exact consVW d hi hd hw h1 h7 h8 hss
/-- in the order of the text -/
theorem wpList_kq {ops : Array Oper} {Q : Exit → Act → World → Prop} {rest : List Oper} {op : Oper} {a : Act} {w : World} (hgd : op.guard = none) (s x : Operand)
    (ho : op.op = .call { callee := .builtin .append, args := #[s, x], argTypes := #[50, 50] })
    {base : Nat} {v : Value} {m : Nat} {K : Nat → It} (hs : a.eval s = v) (h : RwK w base v m K) {A : Option Addr} {n c : Nat} {K2 : Nat → It} (hx : a.eval x = .slice A n c) (hA : A = none → n = 0 ∧ c = 0) (hR : RdR w A n 2 (kR K2)) (hm : (m + n) * 32 ≤ 140737488355328) (hb : base ≤ w.heap.size)
    (k : ∀ v' w', RwK w' base v' (m + n) (catT K m K2) → Below base w w' → wpList Tryd.prog ops Q rest (a.put op.dst v') w') : wpList Tryd.prog ops Q (op :: rest) a w := by
  obtain ⟨v', w', h1, h2, h3, h4, h5⟩ := kapp_run s x ho base v m K hs h A n c K2 hx hA hR hm hb
  refine wpList_plain hgd fun K hK => ?_
  unfold Oper.wp
  rw [h1, Oper.upon_value]
  exact hK _ _ (k v' w' h2 h4)
/-- carried along -/
def RwO (w : World) (base : Nat) (v : Value) (m : Nat) (K : Nat → It) : Prop := RwK w base v m K
theorem RwO.below {w w' : World} {base m : Nat} {v : Value} {K : Nat → It} (h : RwO w base v m K) (hb : Below w.heap.size w w') : RwO w' base v m K := RwK.below h hb
def RkO (w : World) (A : Option Addr) (m : Nat) (K : Nat → It) : Prop := RdK w A m K
theorem RkO.below {w w' : World} {A : Option Addr} {m : Nat} {K : Nat → It} (h : RkO w A m K) (hb : Below w.heap.size w w') : RkO w' A m K := RdK.below h hb
/-- strangers -/
def StG (w : World) (id m : Nat) (K : Nat → It) : Prop := m ≤ 6 ∧ ∀ j, j < m → KeOk w (K j) ∧ (K j).ty ≠ (id : Int) ∧ 0 < (K j).n ∧ (K j).n ≤ 64
theorem StG.nil (w : World) (id : Nat) (K : Nat → It) : StG w id 0 K := ⟨by omega, fun j hj => by omega⟩
theorem StG.push {w : World} {id m : Nat} {K : Nat → It} {t : It} (h : StG w id m K) (hm : m < 6) (ht : KeOk w t ∧ t.ty ≠ (id : Int) ∧ 0 < t.n ∧ t.n ≤ 64) : StG w id (m + 1) (catT K m fun _ => t) := ⟨by omega, fun j hj => by
  by_cases e : j < m
  · rw [catT_lo _ _ _ _ e]; exact h.2 j e
  · obtain rfl : j = m := by omega
    rw [show catT K j (fun _ => t) j = t from catT_hi K j 0 (fun _ => t)]; exact ht⟩
/-- behind strangers' twins, or ahead of them -/
theorem mixA {w : World} {base id ms : Nat} {KS K' : Nat → It} {t : It} {v : Value} (hs : StG w id ms KS) (hal : ∀ j, j < ms → Alike (KS j) (K' j)) {w' : World} (hr : RwK w' base v (ms + 1) (catT K' ms fun _ => t)) (ho : ∀ j, j < ms → OwnKV w' base (K' j)) (ht : KeOk w' t) (hid : t.ty = (id : Int)) (hn : 0 < t.n ∧ t.n ≤ 64) :
    ∃ A c, v = .slice A (ms + 1) c ∧ RkO w' A (ms + 1) (catT K' ms fun _ => t) ∧ keysE (catT K' ms fun _ => t) (ms + 1) = 0 ∧ FstKey (catT K' ms fun _ => t) id (ms + 1) ms ∧ catT K' ms (fun _ => t) ms = t := by
  obtain ⟨A, c, h1, h2, h3, h4, h5⟩ := hr.shape
  have hlo : ∀ j, j < ms → catT K' ms (fun _ => t) j = K' j := fun j hj => catT_lo _ _ _ _ hj
  have hhi : catT K' ms (fun _ => t) ms = t := catT_hi K' ms 0 (fun _ => t)
  refine ⟨A, c, h1, ⟨h5, fun j hj => ?_⟩, keysE_ok (by have := hs.1; omega) fun j hj => ?_, ⟨by omega, by rw [hhi]; exact hid, fun j hj => ?_⟩, hhi⟩
  · by_cases e : j < ms
    · rw [hlo j e]; exact (ho j e).ok
    · obtain rfl : j = ms := by omega
      rw [hhi]; exact ht
  · by_cases e : j < ms
    · rw [hlo j e, ← (hal j e).2.1]; exact (hs.2 j e).2.2
    · obtain rfl : j = ms := by omega
      rw [hhi]; exact hn
  · rw [hlo j hj, ← (hal j hj).1]; exact (hs.2 j hj).2.1
theorem mixB {w : World} {base id ms : Nat} {KS K' : Nat → It} {t : It} {v : Value} (hs : StG w id ms KS) (hal : ∀ j, j < ms → Alike (KS j) (K' j)) {w' : World} (hr : RwK w' base v (1 + ms) (catT (fun _ => t) 1 K')) (ho : ∀ j, j < ms → OwnKV w' base (K' j)) (ht : KeOk w' t) (hid : t.ty = (id : Int)) (hn : 0 < t.n ∧ t.n ≤ 64) :
    ∃ A c, v = .slice A (1 + ms) c ∧ RkO w' A (1 + ms) (catT (fun _ => t) 1 K') ∧ keysE (catT (fun _ => t) 1 K') (1 + ms) = 0 ∧ FstKey (catT (fun _ => t) 1 K') id (1 + ms) 0 ∧ catT (fun _ => t) 1 K' 0 = t := by
  obtain ⟨A, c, h1, h2, h3, h4, h5⟩ := hr.shape
  have hlo : catT (fun _ => t) 1 K' 0 = t := catT_lo _ _ _ _ (by omega)
  have hhi : ∀ j, catT (fun _ => t) 1 K' (1 + j) = K' j := fun j => catT_hi _ _ _ _
  refine ⟨A, c, h1, ⟨h5, fun j hj => ?_⟩, keysE_ok (by have := hs.1; omega) fun j hj => ?_, ⟨by omega, by rw [hlo]; exact hid, fun j hj => by omega⟩, hlo⟩
  · rcases Nat.eq_zero_or_pos j with rfl | e
    · rw [hlo]; exact ht
    · obtain ⟨i, rfl⟩ : ∃ i, j = 1 + i := ⟨j - 1, by omega⟩
      rw [hhi]; exact (ho i (by omega)).ok
  · rcases Nat.eq_zero_or_pos j with rfl | e
    · rw [hlo]; exact hn
    · obtain ⟨i, rfl⟩ : ∃ i, j = 1 + i := ⟨j - 1, by omega⟩
      rw [hhi, ← (hal i (by omega)).2.1]; exact (hs.2 i (by omega)).2.2
theorem OwnK.le {w : World} {base base' m : Nat} {v : Value} {K : Nat → It} (h : OwnK w base v m K) (hb : base' ≤ base) : OwnK w base' v m K :=
  ⟨ownsRow_mono h.1 hb, fun j hj => by
    obtain ⟨a1, a2, g, a3, a4, a5⟩ := h.2 j hj
    exact ⟨a1, a2, g, a3, Nat.le_trans hb a4, a5⟩⟩
theorem blk_grownK {w w' : World} {base g m : Nat} {C : Array Value} {v : Value} {K : Nat → It} (h : Blk 46 w g C) (hr : RwK w base v m K) (hg : w.grownBy w' v.ownBlock) : Blk 46 w' g C := by
  refine (hg.block g h.lt fun e => ?_).trans h
  rcases hr.2 with ⟨rfl, _⟩ | ⟨g2, cap, cur, rfl, hb, hc, _⟩
  · cases e
  · injection e with e
    subst e
    have h' : w.heap[g]? = _ := h
    rw [h'] at hc
    injection hc with hc
    injection hc with _ hc _
    exact absurd hc (by decide)
end Go.Proofs.YtccoicjmmeoggaaDoor

/- The walk of MacAlone: for every input the law returns true, and nothing that was there is written, if the table lies as the text lays it. -/
namespace Go.Proofs.YtccoicjmmeoggaaDoor
open Go.RowKit
set_option linter.unusedVariables false
set_option linter.unusedSimpArgs false

theorem seX_f {p : Pd} {L : Nat → It} {m0 id sn : Nat} {b : Bool} (h : seX p L m0 id sn b = 0) : b = false := by
  cases b
  · rfl
  · unfold seX at h
    rw [if_pos rfl] at h
    have := (lea_zero h).2
    omega
theorem seX_s {p : Pd} {L : Nat → It} {m0 id sn : Nat} (h : seX p L m0 id sn false = 0) : 0 < sn ∧ sn ≤ 64 :=
  secE_zero (lea_zero (show lea (wrX (slP p) (slT L p.m id nou) m0) (secE sn) = 0 from h)).2
end Go.Proofs.YtccoicjmmeoggaaDoor
