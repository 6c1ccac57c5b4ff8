/- Texts of this claim put together; each theorem states its conditions. -/
import Derived.Test.YtkiaijmhoikdiaaGStoreMerges2
import Derived.Lib.BytesEntry
import Derived.Lib.Bytealg
import Derived.Deep.DeepCutAuto
import Derived.Sort.Grow
import Derived.Sort.Statements
import Derived.BigQuiet
import Derived.Deep.QuietTactic
/- The program's comparisons of LSPs: compareEntries, compare. Each theorem states its conditions. -/
namespace Go.Proofs.Ytkiaijmhoikdiaa
open Go.RowKit
set_option linter.unusedVariables false
set_option linter.unusedSimpArgs false

theorem isNaN_u32 (x : Int) (w : World) : Calls Try.prog 76 #[.int .u32 x] w fun e w' => e = .returned (.bool false) ∧ w' = w := by
  go_enter Try.func76, Try.ntmps76
  go_wp2_with fail
  go_ret
  exact ⟨by simp, rfl⟩
theorem cmp_u32 (x y : Int) (w : World) : Calls Try.prog 62 #[.int .u32 x, .int .u32 y] w fun e w' => e = .returned (.int .i64 (cmp3 x y)) ∧ w' = w := by
  have hn := fun x W => isNaN_u32 x W
  go_enter Try.func62, Try.ntmps62
  by_cases h1 : x < y
  · have e : cmp3 x y = -1 := by unfold cmp3; rw [if_pos h1]
    rw [e]; clear e
    go_wp2_with (first | (go_at_call 76; refine (hn _ _).mono ?_; rintro e w' ⟨rfl, rfl⟩) | go_in)
    go_ret
    exact ⟨rfl, rfl⟩
  · by_cases h2 : y < x
    · have e : cmp3 x y = 1 := by unfold cmp3; rw [if_neg h1, if_pos h2]
      rw [e]; clear e
      go_wp2_with (first | (go_at_call 76; refine (hn _ _).mono ?_; rintro e w' ⟨rfl, rfl⟩) | go_in)
      go_ret
      exact ⟨rfl, rfl⟩
    · have e : cmp3 x y = 0 := by unfold cmp3; rw [if_neg h1, if_neg h2]
      rw [e]; clear e
      go_wp2_with (first | (go_at_call 76; refine (hn _ _).mono ?_; rintro e w' ⟨rfl, rfl⟩) | go_in)
      go_ret
      exact ⟨rfl, rfl⟩
theorem isNaN_u16 (x : Int) (w : World) : Calls Try.prog 78 #[.int .u16 x] w fun e w' => e = .returned (.bool false) ∧ w' = w := by
  go_enter Try.func78, Try.ntmps78
  go_wp2_with fail
  go_ret
  exact ⟨by simp, rfl⟩
theorem cmp_u16 (x y : Int) (w : World) : Calls Try.prog 64 #[.int .u16 x, .int .u16 y] w fun e w' => e = .returned (.int .i64 (cmp3 x y)) ∧ w' = w := by
  have hn := fun x W => isNaN_u16 x W
  go_enter Try.func64, Try.ntmps64
  by_cases h1 : x < y
  · have e : cmp3 x y = -1 := by unfold cmp3; rw [if_pos h1]
    rw [e]; clear e
    go_wp2_with (first | (go_at_call 78; refine (hn _ _).mono ?_; rintro e w' ⟨rfl, rfl⟩) | go_in)
    go_ret
    exact ⟨rfl, rfl⟩
  · by_cases h2 : y < x
    · have e : cmp3 x y = 1 := by unfold cmp3; rw [if_neg h1, if_pos h2]
      rw [e]; clear e
      go_wp2_with (first | (go_at_call 78; refine (hn _ _).mono ?_; rintro e w' ⟨rfl, rfl⟩) | go_in)
      go_ret
      exact ⟨rfl, rfl⟩
    · have e : cmp3 x y = 0 := by unfold cmp3; rw [if_neg h1, if_neg h2]
      rw [e]; clear e
      go_wp2_with (first | (go_at_call 78; refine (hn _ _).mono ?_; rintro e w' ⟨rfl, rfl⟩) | go_in)
      go_ret
      exact ⟨rfl, rfl⟩
/-- the first that isn't nought -/
def or3 (a b c : Int) : Int := if a ≠ 0 then a else if b ≠ 0 then b else c
set_option maxHeartbeats 4000000 in
set_option maxRecDepth 100000 in
theorem or_any (g : Nat) (a b c : Int) (w : World) (hg : Blk 3 w g #[.int .i64 a, .int .i64 b, .int .i64 c]) : Calls Try.prog 61 #[.slice (some ⟨g, 0, none⟩) 3 3] w fun e w' => e = .returned (.int .i64 (or3 a b c)) ∧ w' = w := by
  have c0 : w.cell? ⟨g, 0, none⟩ = some (.int .i64 a) := (hg.cell 0).trans rfl
  have c1 : w.cell? ⟨g, 1, none⟩ = some (.int .i64 b) := (hg.cell 1).trans rfl
  have c2 : w.cell? ⟨g, 2, none⟩ = some (.int .i64 c) := (hg.cell 2).trans rfl
  clear hg
  go_enter Try.func61, Try.ntmps61
  go_wp2_with fail
  by_cases ha : a = 0
  · subst ha
    by_cases hb : b = 0
    · subst hb
      by_cases hc : c = 0
      · subst hc
        refine wp_loop_rounds 4 ?_
        rw [rounds_succ]
        go_wp2
        rw [rounds_succ]
        go_wp2
        rw [rounds_succ]
        go_wp2
        rw [rounds_succ]
        go_wp2
        go_ret
        exact ⟨rfl, rfl⟩
      · refine wp_loop_rounds 3 ?_
        rw [rounds_succ]
        go_wp2
        rw [rounds_succ]
        go_wp2
        rw [rounds_succ]
        go_wp2
        refine bodyPost_ret (results_tmp rfl _ _ _) rfl ?_
        exact ⟨rfl, rfl⟩
    · refine wp_loop_rounds 2 ?_
      rw [rounds_succ]
      go_wp2
      rw [rounds_succ]
      go_wp2
      refine bodyPost_ret (results_tmp rfl _ _ _) rfl ?_
      exact ⟨by simp [or3, hb], rfl⟩
  · refine wp_loop_rounds 1 ?_
    rw [rounds_succ]
    go_wp2
    refine bodyPost_ret (results_tmp rfl _ _ _) rfl ?_
    exact ⟨by simp [or3, ha], rfl⟩
theorem num_hi {n : Nat} (h : IdOk n) : numZ (dg n) 0 6 = ((n / 65536 : Nat) : Int) := by
  unfold IdOk at h
  simp only [numZ, dg, pw, Nat.zero_add]
  omega
theorem bs_int (W : World) (o : Oper) (e : Operand → Value) {x y z : Operand} (ho : o.op = .buildSlice 138 3 #[(0, x), (1, y), (2, z)]) (a b c : Int) (hx : e x = .int .i64 a) (hy : e y = .int .i64 b) (hz : e z = .int .i64 c) :
    (execOp e o).run Try.prog W = .ok (.value (.slice (some ⟨W.heap.size, 0, none⟩) 3 3)) (W.alloc (.cells #[.int .i64 a, .int .i64 b, .int .i64 c] 3)) := by
  unfold execOp
  simp only [ho]
  simp only [List.map_toArray, List.map_cons, List.map_nil, hx, hy, hz]
  kernel_rfl
def BlO (t : TypeId) (w : World) (g : Nat) (C : Array Value) : Prop := Blk t w g C
theorem BlO.below {t : TypeId} {w w' : World} {g : Nat} {C : Array Value} (h : BlO t w g C) (hb : Below w.heap.size w w') : BlO t w' g C := Blk.below h hb (Blk.lt h)
/-- a slice of some values is made, where it alone may come up -/
theorem takeBsn {ops : Array Oper} {Q : Exit → Act → World → Prop} {md : Region.Mode} {S : World → Prop} {i : Nat} {oi : Oper} (d : Option Tmp) {fuel : Nat} {listed : Array Bool} {a : Act} {w : World} (n : Nat) (t : TypeId) (C : Array Value) (hi : ops[i]? = some oi) (hd : oi.dst = d)
    (hr : Region.ready md ops listed = [i]) (hw : Region.wanted oi (yielded ops a.tmps) = true) (hx : (execOp a.eval oi).run Try.prog w = .ok (.value (.slice (some ⟨w.heap.size, 0, none⟩) n n)) (w.alloc (.cells C t))) (N : Nat) (hN : w.heap.size = N)
    (h : ∀ w', Blk t w' N C → Below w.heap.size w w' → N + 1 ≤ w'.heap.size → S w' ∧ wpAnyH Try.prog md ops Q S fuel (listed.setIfInBounds i true) (a.put d (.slice (some ⟨N, 0, none⟩) n n)) w') : wpAnyH Try.prog md ops Q S (fuel + 1) listed a w := by
  subst hN
  obtain ⟨h1, h2⟩ := h _ (heap_alloc_new w _) ((Below.refl _ _).alloc (Nat.le_refl _) _) (by simp)
  exact takeV d hi hd hr hw hx h1 h2
theorem Row8.lt {w : World} {b o n : Nat} {z : Nat → Int} (h : Row8 w b o n z) : b < w.heap.size := h.1
theorem or3_2 (a b c : Int) : or3 a b c = or2 a (or2 b c) := by unfold or3 or2; (repeat' split) <;> first | rfl | omega
/-- bytes as the library has them -/
theorem cmp_lst : ∀ (xs ys : List Int), (∀ x ∈ xs, 0 ≤ x ∧ x ≤ 255) → (∀ x ∈ ys, 0 ≤ x ∧ x ≤ 255) → Lib.compareBytes (Lib.bytesOf xs) (Lib.bytesOf ys) = cmpL xs ys
  | [], [], _, _ => by simp [Lib.bytesOf, Lib.compareBytes, cmpL]
  | [], _ :: _, _, _ => by simp [Lib.bytesOf, Lib.compareBytes, cmpL]
  | _ :: _, [], _, _ => by simp [Lib.bytesOf, Lib.compareBytes, cmpL]
  | x :: xs, y :: ys, hx, hy => by
    have a := hx x (by simp)
    have b := hy y (by simp)
    have ih := cmp_lst xs ys (fun z hz => hx z (by simp [hz])) (fun z hz => hy z (by simp [hz]))
    show (if x.toNat.toUInt8 < y.toNat.toUInt8 then (-1 : Int) else if y.toNat.toUInt8 < x.toNat.toUInt8 then 1 else Lib.compareBytes (Lib.bytesOf xs) (Lib.bytesOf ys)) = _
    have u8 : ∀ {a b : Int}, (0 ≤ a ∧ a ≤ 255) → (0 ≤ b ∧ b ≤ 255) → ((a.toNat.toUInt8 < b.toNat.toUInt8) ↔ a < b) := fun ha hb => by
      rw [UInt8.lt_iff_toNat_lt]
      simp only [Nat.toUInt8, UInt8.toNat_ofNat']
      omega
    simp only [u8 a b, u8 b a, cmpL, ih]
theorem lstZ_len (z : Nat → Int) (a n : Nat) : (lstZ z a n).length = n := by simp [lstZ]
theorem lstZ_bd {z : Nat → Int} (h : ∀ j, 0 ≤ z j ∧ z j ≤ 255) (a n : Nat) : ∀ x ∈ lstZ z a n, 0 ≤ x ∧ x ≤ 255 := by
  intro x hx
  obtain ⟨j, _, rfl⟩ := List.mem_map.1 hx
  exact h _
theorem lstZ_at {z : Nat → Int} {a n j : Nat} {x : Int} (h : (lstZ z a n)[j]? = some x) : j < n ∧ x = z (a + j) := by
  unfold lstZ at h
  rw [List.getElem?_map] at h
  by_cases hj : j < n
  · rw [List.getElem?_range hj] at h
    exact ⟨hj, by simpa using h.symm⟩
  · rw [List.getElem?_eq_none (by simpa using hj)] at h
    cases h
theorem row_lst {w : World} {b off n : Nat} {z : Nat → Int} (h : Row8 w b off n z) (a m : Nat) (hm : a + m ≤ n) : ∀ j x, (lstZ z a m)[j]? = some x → w.cell? ((⟨b, off + a, none⟩ : Addr).add j) = some (.int .u8 x) := by
  intro j x hj
  obtain ⟨h1, rfl⟩ := lstZ_at hj
  have := h.2.1 (a + j) (by omega)
  rw [show (⟨b, off + a, none⟩ : Addr).add j = ⟨b, off + (a + j), none⟩ from by rw [add_none, Nat.add_assoc]]
  exact this
set_option maxRecDepth 100000 in
theorem cmpB_any (b1 o1 a1 n1 N1 c1 b2 o2 a2 n2 N2 c2 : Nat) (y z : Nat → Int) (w : World) (hy : Row8 w b1 o1 N1 y) (hz : Row8 w b2 o2 N2 z) (h1 : a1 + n1 ≤ N1) (h2 : a2 + n2 ≤ N2) :
    Calls Try.prog 66 #[.slice (some ⟨b1, o1 + a1, none⟩) n1 c1, .slice (some ⟨b2, o2 + a2, none⟩) n2 c2] w fun e w' => e = .returned (.int .i64 (cmpL (lstZ y a1 n1) (lstZ z a2 n2))) ∧ w' = w := by
  have hrun : (Extern.BytealgCompare.compare #[.slice (some ⟨b1, o1 + a1, none⟩) n1 c1, .slice (some ⟨b2, o2 + a2, none⟩) n2 c2]).run Try.prog w = .ok (.int .i64 (cmpL (lstZ y a1 n1) (lstZ z a2 n2))) w := by
    have e1 := Lib.run_loadBytesX (P := Try.prog) w (lstZ y a1 n1) ⟨b1, o1 + a1, none⟩ .empty (row_lst hy a1 n1 h1)
    have e2 := Lib.run_loadBytesX (P := Try.prog) w (lstZ z a2 n2) ⟨b2, o2 + a2, none⟩ .empty (row_lst hz a2 n2 h2)
    rw [lstZ_len] at e1 e2
    change Sem.run Try.prog (do pure (goInt (Extern.BytealgCompare.cmp (← Extern.Bytes.loadBytes ⟨b1, o1 + a1, none⟩ n1 .empty) (← Extern.Bytes.loadBytes ⟨b2, o2 + a2, none⟩ n2 .empty)))) w = _
    simp only [Sem.run_bind, e1, e2, Result.andThen, Sem.run_pure]
    rw [Lib.cmp_eq, ← cmp_lst _ _ (lstZ_bd hy.2.2 _ _) (lstZ_bd hz.2.2 _ _)]
    simp [goInt]
  clear hy hz h1 h2
  go_enter Try.func66, Try.ntmps66
  go_wp2
  rw [run_callFunc_extern Try.func83 (by kernel_rfl) (by kernel_rfl) (by kernel_rfl) (e := Extern.BytealgCompare.compare) (by kernel_rfl), hrun]
  simp only [Result.andThen]
  rw [Oper.upon_value]
  go_wp2
  go_ret
  exact ⟨rfl, rfl⟩
theorem isPurge_any (a : En) (w : World) : Calls Try.prog 77 #[.agg (enC a)] w fun e w' => e = .returned (.bool (a.li == 0)) ∧ Below w.heap.size w w' := by
  go_enter Try.func77, Try.ntmps77
  have HB := Lib.hid (Below.refl w.heap.size w)
  obtain ⟨N1, hN1⟩ : ∃ N, w.heap.size = N := ⟨_, rfl⟩
  have HN1 := Lib.hid hN1
  clear hN1
  go_wp2_with (refine wpList_box (op := ⟨some 1, _, _, _, _, _⟩) rfl 32 (.tmp 0) rfl (enC a) rfl N1 HN1.out ?_; intro w1 k1 b1 s1; refine Hid.out ?_)
  refine Lib.hid ?_
  have c1 : w1.cell? ⟨N1, 9, none⟩ = some (.int .i64 a.li) := (k1.cell 9).trans rfl
  have HBn := Lib.hid (HB.out.trans (b1.mono HB.out.size))
  clear k1 b1 HB s1
  go_wp2_with fail
  go_ret
  exact ⟨rfl, HBn.out⟩
set_option maxHeartbeats 8000000 in
set_option maxRecDepth 100000 in
theorem comparePurges_any (a b : En) (w : World) : Calls Try.prog 63 #[.agg (enC a), .agg (enC b)] w fun e w' => e = .returned (.int .i64 (cmp3 (if a.li = 0 then 1 else 0) (if b.li = 0 then 1 else 0))) ∧ Below w.heap.size w w' := by
  obtain ⟨pa, hpa⟩ : ∃ p, (a.li == 0) = p := ⟨_, rfl⟩
  obtain ⟨pb, hpb⟩ : ∃ p, (b.li == 0) = p := ⟨_, rfl⟩
  have HPA := Lib.hid hpa
  have HPB := Lib.hid hpb
  have HE : Hid (cmp3 (if a.li = 0 then 1 else 0) (if b.li = 0 then 1 else 0) = if pa = pb then 0 else if pa = true then 1 else -1) := Lib.hid (by
    rw [← hpa, ← hpb]
    by_cases h1 : a.li = 0 <;> by_cases h2 : b.li = 0 <;> (have e1 : (a.li == 0) = decide (a.li = 0) := rfl; have e2 : (b.li == 0) = decide (b.li = 0) := rfl; rw [e1, e2]; simp [h1, h2, cmp3]))
  rw [HE.out]
  clear hpa hpb HE
  go_enter Try.func63, Try.ntmps63
  have HB := Lib.hid (Below.refl w.heap.size w)
  obtain ⟨N1, hN1⟩ : ∃ N, w.heap.size = N := ⟨_, rfl⟩
  have HN1 := Lib.hid hN1
  clear hN1
  go_wp2_with (refine wpList_box (op := ⟨some 2, _, _, _, _, _⟩) rfl 32 (.tmp 0) rfl (enC a) rfl N1 HN1.out ?_; intro w1 k1 b1 s1; refine Hid.out ?_)
  refine Lib.hid ?_
  have K2 := Lib.hid k1
  clear k1
  have le_HB_N1 : w.heap.size ≤ N1 := by rw [← HN1.out]; exact HB.out.size
  have HBn := Lib.hid (HB.out.trans (b1.mono HB.out.size))
  clear HB
  have HB := HBn
  clear HBn
  clear b1 HN1
  obtain ⟨N2, hN2⟩ : ∃ N, w1.heap.size = N := ⟨_, rfl⟩
  have HN2 := Lib.hid hN2
  clear hN2
  go_wp2_with (refine wpList_box (op := ⟨some 3, _, _, _, _, _⟩) rfl 32 (.tmp 1) rfl (enC b) rfl N2 HN2.out ?_; intro w2 k1 b1 s1; refine Hid.out ?_)
  refine Lib.hid ?_
  have K3 := Lib.hid k1
  clear k1
  have lt_N1_N2 : N1 < N2 := by rw [← HN2.out]; exact K2.out.lt
  have le_HB_N2 : w.heap.size ≤ N2 := by rw [← HN2.out]; exact HB.out.size
  have K2n := Lib.hid (K2.out.below b1 K2.out.lt)
  clear K2
  have K2 := K2n
  clear K2n
  have HBn := Lib.hid (HB.out.trans (b1.mono HB.out.size))
  clear HB
  have HB := HBn
  clear HBn
  clear b1 HN2
  go_wp2_with fail
  refine wp_region_held_drew (S := fun w' => Blk 32 w' N1 (enC a) ∧ Blk 32 w' N2 (enC b) ∧ Below w.heap.size w w') (by kernel_rfl) ⟨K2.out, K3.out, HB.out.drew⟩ (fun hS => ?_)
  generalize hW3 : w2.drew = W3 at hS  ⊢
  clear hW3
  clear K2
  clear K3
  clear HB
  have K2 := Lib.hid hS.1
  have K3 := Lib.hid hS.2.1
  have HB := Lib.hid hS.2.2
  refine takeL (i := 0) (some 6) 32 (.tmp 2) N1 0 (enC a) _ rfl rfl (by kernel_rfl) (by kernel_rfl) (by kernel_rfl) (fun _ _ _ h => h) (by rfl) rfl rfl (fun w' hS => hS.1.all) Try.underlying32 rfl info_enP hS ?_
  simp only [Act.put, List.setIfInBounds_toArray, List.set_cons_zero, List.set_cons_succ]
  refine takeL (i := 2) (some 8) 32 (.tmp 3) N2 0 (enC b) _ rfl rfl (by kernel_rfl) (by kernel_rfl) (by kernel_rfl) (fun _ _ _ h => h) (by rfl) rfl rfl (fun w' hS => hS.2.1.all) Try.underlying32 rfl info_enP hS ?_
  simp only [Act.put, List.setIfInBounds_toArray, List.set_cons_zero, List.set_cons_succ]
  refine takeC (i := 1) (some 7) 77 #[.agg (enC a)] (.bool pa) (R := fun w' => Below W3.heap.size W3 w') rfl rfl (by kernel_rfl) (by rfl) (by go_simp) ((by rw [← HPA.out]; exact isPurge_any a W3)) (fun w' hb => ⟨hS.1.below hb hS.1.lt, hS.2.1.below hb hS.2.1.lt, hS.2.2.trans (hb.mono hS.2.2.size)⟩) (fun W4 hb1 hS2 => ?_)
  simp only [Act.put, List.setIfInBounds_toArray, List.set_cons_zero, List.set_cons_succ]
  clear K2
  clear K3
  clear HB
  clear hS hb1
  have hS := hS2
  clear hS2
  have K2 := Lib.hid hS.1
  have K3 := Lib.hid hS.2.1
  have HB := Lib.hid hS.2.2
  refine takeC (i := 3) (some 9) 77 #[.agg (enC b)] (.bool pb) (R := fun w' => Below W4.heap.size W4 w') rfl rfl (by kernel_rfl) (by rfl) (by go_simp) ((by rw [← HPB.out]; exact isPurge_any b W4)) (fun w' hb => ⟨hS.1.below hb hS.1.lt, hS.2.1.below hb hS.2.1.lt, hS.2.2.trans (hb.mono hS.2.2.size)⟩) (fun W5 hb1 hS2 => ?_)
  simp only [Act.put, List.setIfInBounds_toArray, List.set_cons_zero, List.set_cons_succ]
  clear K2
  clear K3
  clear HB
  clear hS hb1
  have hS := hS2
  clear hS2
  have K2 := Lib.hid hS.1
  have K3 := Lib.hid hS.2.1
  have HB := Lib.hid hS.2.2
  have HIS : Hid (∀ W, Calls Try.prog 77 #[.agg (enC a)] W fun e w' => e = .returned (.bool pa) ∧ Below W.heap.size W w') := Lib.hid (fun W => by rw [← HPA.out]; exact isPurge_any a W)
  cases pa <;> cases pb
  · refine takeY (i := 4) (some 10) (v := .bool true) rfl rfl (by kernel_rfl) (by kernel_rfl) (by kernel_rfl) (fun _ _ _ h => h) (by rfl) (fun w' hS => by go_simp) hS ?_
    simp only [Act.put, List.setIfInBounds_toArray, List.set_cons_zero, List.set_cons_succ]
    refine takeY (i := 5) (some 5) (v := .bool true) rfl rfl (by kernel_rfl) (by kernel_rfl) (by kernel_rfl) (fun _ _ _ h => h) (by rfl) (fun w' hS => by go_simp) hS ?_
    simp only [Act.put, List.setIfInBounds_toArray, List.set_cons_zero, List.set_cons_succ]
    clear hS
    refine wpAnyH_done (by kernel_rfl) ?_ _
    go_wp2_with fail
    go_ret
    exact ⟨rfl, HB.out⟩
  · refine takeY (i := 4) (some 10) (v := .bool false) rfl rfl (by kernel_rfl) (by kernel_rfl) (by kernel_rfl) (fun _ _ _ h => h) (by rfl) (fun w' hS => by go_simp) hS ?_
    simp only [Act.put, List.setIfInBounds_toArray, List.set_cons_zero, List.set_cons_succ]
    refine takeY (i := 5) (some 5) (v := .bool false) rfl rfl (by kernel_rfl) (by kernel_rfl) (by kernel_rfl) (fun _ _ _ h => h) (by rfl) (fun w' hS => by go_simp) hS ?_
    simp only [Act.put, List.setIfInBounds_toArray, List.set_cons_zero, List.set_cons_succ]
    clear hS
    refine wpAnyH_done (by kernel_rfl) ?_ _
    go_wp2_with (refine wpList_ld (op := ⟨some 12, _, _, _, _, _⟩) (by rfl) 32 (.tmp 2) rfl N1 0 rfl (enC a) _ K2.out.all Try.underlying32 rfl info_enP ?_; refine Hid.out ?_)
    refine Lib.hid ?_
    go_wp2_with fail
    refine (HIS.out W5).mono ?_
    rintro e w6 ⟨rfl, b1⟩
    have K2n := Lib.hid (K2.out.below b1 K2.out.lt)
    clear K2
    have K2 := K2n
    clear K2n
    have K3n := Lib.hid (K3.out.below b1 K3.out.lt)
    clear K3
    have K3 := K3n
    clear K3n
    have HBn := Lib.hid (HB.out.trans (b1.mono HB.out.size))
    clear HB
    have HB := HBn
    clear HBn
    clear b1
    go_wp2_with fail
    go_ret
    exact ⟨rfl, HB.out⟩
  · refine takeY (i := 4) (some 10) (v := .bool false) rfl rfl (by kernel_rfl) (by kernel_rfl) (by kernel_rfl) (fun _ _ _ h => h) (by rfl) (fun w' hS => by go_simp) hS ?_
    simp only [Act.put, List.setIfInBounds_toArray, List.set_cons_zero, List.set_cons_succ]
    refine takeY (i := 5) (some 5) (v := .bool false) rfl rfl (by kernel_rfl) (by kernel_rfl) (by kernel_rfl) (fun _ _ _ h => h) (by rfl) (fun w' hS => by go_simp) hS ?_
    simp only [Act.put, List.setIfInBounds_toArray, List.set_cons_zero, List.set_cons_succ]
    clear hS
    refine wpAnyH_done (by kernel_rfl) ?_ _
    go_wp2_with (refine wpList_ld (op := ⟨some 12, _, _, _, _, _⟩) (by rfl) 32 (.tmp 2) rfl N1 0 rfl (enC a) _ K2.out.all Try.underlying32 rfl info_enP ?_; refine Hid.out ?_)
    refine Lib.hid ?_
    go_wp2_with fail
    refine (HIS.out W5).mono ?_
    rintro e w6 ⟨rfl, b1⟩
    have K2n := Lib.hid (K2.out.below b1 K2.out.lt)
    clear K2
    have K2 := K2n
    clear K2n
    have K3n := Lib.hid (K3.out.below b1 K3.out.lt)
    clear K3
    have K3 := K3n
    clear K3n
    have HBn := Lib.hid (HB.out.trans (b1.mono HB.out.size))
    clear HB
    have HB := HBn
    clear HBn
    clear b1
    go_wp2_with fail
    go_ret
    exact ⟨rfl, HB.out⟩
  · refine takeY (i := 4) (some 10) (v := .bool true) rfl rfl (by kernel_rfl) (by kernel_rfl) (by kernel_rfl) (fun _ _ _ h => h) (by rfl) (fun w' hS => by go_simp) hS ?_
    simp only [Act.put, List.setIfInBounds_toArray, List.set_cons_zero, List.set_cons_succ]
    refine takeY (i := 5) (some 5) (v := .bool true) rfl rfl (by kernel_rfl) (by kernel_rfl) (by kernel_rfl) (fun _ _ _ h => h) (by rfl) (fun w' hS => by go_simp) hS ?_
    simp only [Act.put, List.setIfInBounds_toArray, List.set_cons_zero, List.set_cons_succ]
    clear hS
    refine wpAnyH_done (by kernel_rfl) ?_ _
    go_wp2_with fail
    go_ret
    exact ⟨rfl, HB.out⟩
set_option maxHeartbeats 8000000 in
set_option maxRecDepth 100000 in
theorem compareEntries_any (a b : En) (w : World) : Calls Try.prog 35 #[.agg (enC a), .agg (enC b)] w fun e w' => e = .returned (.int .i64 (relE a b)) ∧ Below w.heap.size w w' := by
  obtain ⟨cp, hcp⟩ : ∃ p, cmp3 (if a.li = 0 then 1 else 0) (if b.li = 0 then 1 else 0) = p := ⟨_, rfl⟩
  have HCP := Lib.hid hcp
  have HE : Hid (relE a b = or3 (cmp3 (a.sq : Int) (b.sq : Int)) cp (cmp3 (a.su : Int) (b.su : Int))) := Lib.hid (by rw [or3_2, ← hcp]; rfl)
  rw [HE.out]
  obtain ⟨X, hX⟩ : ∃ X, or3 (cmp3 (a.sq : Int) (b.sq : Int)) cp (cmp3 (a.su : Int) (b.su : Int)) = X := ⟨_, rfl⟩
  rw [hX]
  have HX := Lib.hid hX
  clear hcp HE hX
  go_enter Try.func35, Try.ntmps35
  have HB := Lib.hid (Below.refl w.heap.size w)
  obtain ⟨N1, hN1⟩ : ∃ N, w.heap.size = N := ⟨_, rfl⟩
  have HN1 := Lib.hid hN1
  clear hN1
  go_wp2_with (refine wpList_box (op := ⟨some 2, _, _, _, _, _⟩) rfl 32 (.tmp 0) rfl (enC a) rfl N1 HN1.out ?_; intro w1 k1 b1 s1; refine Hid.out ?_)
  refine Lib.hid ?_
  have K2 := Lib.hid k1
  clear k1
  have le_HB_N1 : w.heap.size ≤ N1 := by rw [← HN1.out]; exact HB.out.size
  have HBn := Lib.hid (HB.out.trans (b1.mono HB.out.size))
  clear HB
  have HB := HBn
  clear HBn
  clear b1 HN1
  obtain ⟨N2, hN2⟩ : ∃ N, w1.heap.size = N := ⟨_, rfl⟩
  have HN2 := Lib.hid hN2
  clear hN2
  go_wp2_with (refine wpList_box (op := ⟨some 3, _, _, _, _, _⟩) rfl 32 (.tmp 1) rfl (enC b) rfl N2 HN2.out ?_; intro w2 k1 b1 s1; refine Hid.out ?_)
  refine Lib.hid ?_
  have K3 := Lib.hid k1
  clear k1
  have lt_N1_N2 : N1 < N2 := by rw [← HN2.out]; exact K2.out.lt
  have le_HB_N2 : w.heap.size ≤ N2 := by rw [← HN2.out]; exact HB.out.size
  have K2n := Lib.hid (K2.out.below b1 K2.out.lt)
  clear K2
  have K2 := K2n
  clear K2n
  have HBn := Lib.hid (HB.out.trans (b1.mono HB.out.size))
  clear HB
  have HB := HBn
  clear HBn
  clear b1 HN2
  go_wp2_with fail
  refine wp_region_held_drew (S := fun w' => Blk 32 w' N1 (enC a) ∧ Blk 32 w' N2 (enC b) ∧ Below w.heap.size w w') (by kernel_rfl) ⟨K2.out, K3.out, HB.out.drew⟩ (fun hS => ?_)
  generalize hW3 : w2.drew = W3 at hS  ⊢
  clear hW3
  clear K2
  clear K3
  clear HB
  have K2 := Lib.hid hS.1
  have K3 := Lib.hid hS.2.1
  have HB := Lib.hid hS.2.2
  refine takeY (i := 0) (some 5) (v := .pointer (some ⟨N1, 8, none⟩)) rfl rfl (by kernel_rfl) (by kernel_rfl) (by kernel_rfl) (fun _ _ _ h => h) (by rfl) (fun w' hS => by go_simp) hS ?_
  simp only [Act.put, List.setIfInBounds_toArray, List.set_cons_zero, List.set_cons_succ]
  refine takeY (i := 1) (some 6) (v := .int .u32 (a.sq : Int)) rfl rfl (by kernel_rfl) (by kernel_rfl) (by kernel_rfl) (fun _ _ _ h => h) (by rfl) (fun w' hS => by (have c9 : w'.cell? ⟨N1, 8, none⟩ = some (.int .u32 (a.sq : Int)) := (hS.1.cell 8).trans rfl; clear hS; go_simp)) hS ?_
  simp only [Act.put, List.setIfInBounds_toArray, List.set_cons_zero, List.set_cons_succ]
  refine takeY (i := 2) (some 7) (v := .pointer (some ⟨N2, 8, none⟩)) rfl rfl (by kernel_rfl) (by kernel_rfl) (by kernel_rfl) (fun _ _ _ h => h) (by rfl) (fun w' hS => by go_simp) hS ?_
  simp only [Act.put, List.setIfInBounds_toArray, List.set_cons_zero, List.set_cons_succ]
  refine takeY (i := 3) (some 8) (v := .int .u32 (b.sq : Int)) rfl rfl (by kernel_rfl) (by kernel_rfl) (by kernel_rfl) (fun _ _ _ h => h) (by rfl) (fun w' hS => by (have c9 : w'.cell? ⟨N2, 8, none⟩ = some (.int .u32 (b.sq : Int)) := (hS.2.1.cell 8).trans rfl; clear hS; go_simp)) hS ?_
  simp only [Act.put, List.setIfInBounds_toArray, List.set_cons_zero, List.set_cons_succ]
  refine takeL (i := 5) (some 10) 32 (.tmp 2) N1 0 (enC a) _ rfl rfl (by kernel_rfl) (by kernel_rfl) (by kernel_rfl) (fun _ _ _ h => h) (by rfl) rfl rfl (fun w' hS => hS.1.all) Try.underlying32 rfl info_enP hS ?_
  simp only [Act.put, List.setIfInBounds_toArray, List.set_cons_zero, List.set_cons_succ]
  refine takeL (i := 6) (some 11) 32 (.tmp 3) N2 0 (enC b) _ rfl rfl (by kernel_rfl) (by kernel_rfl) (by kernel_rfl) (fun _ _ _ h => h) (by rfl) rfl rfl (fun w' hS => hS.2.1.all) Try.underlying32 rfl info_enP hS ?_
  simp only [Act.put, List.setIfInBounds_toArray, List.set_cons_zero, List.set_cons_succ]
  refine takeY (i := 8) (some 13) (v := .pointer (some ⟨N1, 10, none⟩)) rfl rfl (by kernel_rfl) (by kernel_rfl) (by kernel_rfl) (fun _ _ _ h => h) (by rfl) (fun w' hS => by go_simp) hS ?_
  simp only [Act.put, List.setIfInBounds_toArray, List.set_cons_zero, List.set_cons_succ]
  refine takeY (i := 9) (some 14) (v := .int .u16 (a.su : Int)) rfl rfl (by kernel_rfl) (by kernel_rfl) (by kernel_rfl) (fun _ _ _ h => h) (by rfl) (fun w' hS => by (have c9 : w'.cell? ⟨N1, 10, none⟩ = some (.int .u16 (a.su : Int)) := (hS.1.cell 10).trans rfl; clear hS; go_simp)) hS ?_
  simp only [Act.put, List.setIfInBounds_toArray, List.set_cons_zero, List.set_cons_succ]
  refine takeY (i := 10) (some 15) (v := .pointer (some ⟨N2, 10, none⟩)) rfl rfl (by kernel_rfl) (by kernel_rfl) (by kernel_rfl) (fun _ _ _ h => h) (by rfl) (fun w' hS => by go_simp) hS ?_
  simp only [Act.put, List.setIfInBounds_toArray, List.set_cons_zero, List.set_cons_succ]
  refine takeY (i := 11) (some 16) (v := .int .u16 (b.su : Int)) rfl rfl (by kernel_rfl) (by kernel_rfl) (by kernel_rfl) (fun _ _ _ h => h) (by rfl) (fun w' hS => by (have c9 : w'.cell? ⟨N2, 10, none⟩ = some (.int .u16 (b.su : Int)) := (hS.2.1.cell 10).trans rfl; clear hS; go_simp)) hS ?_
  simp only [Act.put, List.setIfInBounds_toArray, List.set_cons_zero, List.set_cons_succ]
  refine takeC (i := 4) (some 9) 62 #[.int .u32 (a.sq : Int), .int .u32 (b.sq : Int)] (.int .i64 (cmp3 (a.sq : Int) (b.sq : Int))) (R := fun w' => W3 = w') rfl rfl (by kernel_rfl) (by rfl) (by go_simp) ((cmp_u32 _ _ W3).mono fun e w' h => ⟨h.1, h.2.symm⟩) (fun w' hb => hb ▸ hS) (fun W4 hb1 hS2 => ?_)
  subst hb1
  clear hS2
  simp only [Act.put, List.setIfInBounds_toArray, List.set_cons_zero, List.set_cons_succ]
  refine takeC (i := 7) (some 12) 63 #[.agg (enC a), .agg (enC b)] (.int .i64 cp) (R := fun w' => Below W3.heap.size W3 w') rfl rfl (by kernel_rfl) (by rfl) (by go_simp) ((by rw [← HCP.out]; exact comparePurges_any a b W3)) (fun w' hb => ⟨hS.1.below hb hS.1.lt, hS.2.1.below hb hS.2.1.lt, hS.2.2.trans (hb.mono hS.2.2.size)⟩) (fun W5 hb1 hS2 => ?_)
  simp only [Act.put, List.setIfInBounds_toArray, List.set_cons_zero, List.set_cons_succ]
  clear K2
  clear K3
  clear HB
  clear hS hb1
  have hS := hS2
  clear hS2
  have K2 := Lib.hid hS.1
  have K3 := Lib.hid hS.2.1
  have HB := Lib.hid hS.2.2
  refine takeC (i := 12) (some 17) 64 #[.int .u16 (a.su : Int), .int .u16 (b.su : Int)] (.int .i64 (cmp3 (a.su : Int) (b.su : Int))) (R := fun w' => W5 = w') rfl rfl (by kernel_rfl) (by rfl) (by go_simp) ((cmp_u16 _ _ W5).mono fun e w' h => ⟨h.1, h.2.symm⟩) (fun w' hb => hb ▸ hS) (fun W6 hb1 hS2 => ?_)
  subst hb1
  clear hS2
  simp only [Act.put, List.setIfInBounds_toArray, List.set_cons_zero, List.set_cons_succ]
  obtain ⟨N7, hN7⟩ : ∃ N, W5.heap.size = N := ⟨_, rfl⟩
  have HN7 := Lib.hid hN7
  clear hN7
  refine takeBsn (i := 13) (some 18) 3 3 (#[.int .i64 (cmp3 (a.sq : Int) (b.sq : Int)), .int .i64 cp, .int .i64 (cmp3 (a.su : Int) (b.su : Int))]) rfl rfl (by kernel_rfl) (by rfl) (bs_int _ _ _ rfl _ _ _ rfl rfl rfl) N7 HN7.out (fun W7 k1 b1 s1 => ⟨⟨hS.1.below b1 hS.1.lt, hS.2.1.below b1 hS.2.1.lt, hS.2.2.trans (b1.mono hS.2.2.size)⟩, ?_⟩)
  simp only [Act.put, List.setIfInBounds_toArray, List.set_cons_zero, List.set_cons_succ]
  have KV : Hid (BlO 3 W7 N7 (#[.int .i64 (cmp3 (a.sq : Int) (b.sq : Int)), .int .i64 cp, .int .i64 (cmp3 (a.su : Int) (b.su : Int))])) := Lib.hid k1
  clear k1
  have K2n := Lib.hid (K2.out.below b1 K2.out.lt)
  clear K2
  have K2 := K2n
  clear K2n
  have K3n := Lib.hid (K3.out.below b1 K3.out.lt)
  clear K3
  have K3 := K3n
  clear K3n
  have HBn := Lib.hid (HB.out.trans (b1.mono HB.out.size))
  clear HB
  have HB := HBn
  clear HBn
  clear b1 hS HN7
  have hS := (And.intro K2.out (And.intro K3.out HB.out))
  refine takeC (i := 14) (some 19) 61 #[.slice (some ⟨N7, 0, none⟩) 3 3] (.int .i64 X) (R := fun w' => W7 = w') rfl rfl (by kernel_rfl) (by rfl) (by go_simp) ((by rw [← HX.out]; exact (or_any N7 _ _ _ W7 KV.out).mono fun e w' h => ⟨h.1, h.2.symm⟩)) (fun w' hb => hb ▸ hS) (fun W8 hb1 hS2 => ?_)
  subst hb1
  clear hS2
  simp only [Act.put, List.setIfInBounds_toArray, List.set_cons_zero, List.set_cons_succ]
  refine takeY (i := 15) (some 4) (v := .int .i64 X) rfl rfl (by kernel_rfl) (by kernel_rfl) (by kernel_rfl) (fun _ _ _ h => h) (by rfl) (fun w' hS => by go_simp) hS ?_
  simp only [Act.put, List.setIfInBounds_toArray, List.set_cons_zero, List.set_cons_succ]
  clear hS
  refine wpAnyH_done (by kernel_rfl) ?_ _
  go_wp2_with fail
  go_ret
  exact ⟨rfl, HB.out⟩
theorem hd_en {w : World} {g : Nat} {h : Hd} {A : Option Addr} {c : Nat} (k : Blk 92 w g (hdC h A c)) : w.rangeAt g 0 (enC (hdE h)).toList := fun j v hj => by
  have := k.all j v ?_
  · exact this
  · match j, hj with
    | 0, hj => exact hj
    | 1, hj => exact hj
    | 2, hj => exact hj
    | 3, hj => exact hj
    | 4, hj => exact hj
    | 5, hj => exact hj
    | 6, hj => exact hj
    | 7, hj => exact hj
    | 8, hj => exact hj
    | 9, hj => exact hj
    | 10, hj => exact hj
theorem slice_hi (o : Oper) (e : Operand → Value) (x : Operand) (ho : o.op = .slice 43 x none (some (.const (.int .i64 10))) none) (b off n c : Nat) (h0 : e x = .slice (some ⟨b, off, none⟩) n c) (hc : e (.const (.int .i64 10)) = .int .i64 10) (hcm : 10 ≤ c) (W : World) :
    (execOp e o).run Try.prog W = .ok (.value (.slice (some ⟨b, off, none⟩) 10 c)) W := by
  unfold execOp
  simp only [ho, h0, hc, Option.map_none, Option.map_some]
  have e1 : ¬ ((c : Int) < 10) := by omega
  have e2 : ¬ (c < 10) := by omega
  simp [go_sem, e1, e2]
theorem slice_lo (o : Oper) (e : Operand → Value) (x : Operand) (ho : o.op = .slice 43 x (some (.const (.int .i64 12))) none none) (b off n c : Nat) (h0 : e x = .slice (some ⟨b, off, none⟩) n c) (hc : e (.const (.int .i64 12)) = .int .i64 12) (hn : 12 < n) (hcm : n ≤ c) (W : World) :
    (execOp e o).run Try.prog W = .ok (.value (.slice (some ⟨b, off + 12, none⟩) (n - 12) (c - 12))) W := by
  unfold execOp
  simp only [ho, h0, hc, Option.map_none, Option.map_some]
  have e1 : ¬ (c = 12) := by omega
  have e2 : ¬ (n < 12) := by omega
  have e3 : ¬ ((n : Int) < 12) := by omega
  have e4 : (n : Int) - 12 = ((n - 12 : Nat) : Int) := by omega
  simp [go_sem, e1, e2, e3]
  try omega
set_option maxHeartbeats 16000000 in
set_option maxRecDepth 100000 in
theorem compare_any (x y : Hd) (g k : Nat) (w : World) (hx : HdR w g x) (hy : HdR w k y) (nx : 27 ≤ x.n ∧ x.n ≤ 1492) (ny : 27 ≤ y.n ∧ y.n ≤ 1492) : Calls Try.prog 41 #[.pointer (some ⟨g, 0, none⟩), .pointer (some ⟨k, 0, none⟩)] w fun e w' => e = .returned (.int .i64 (relH x y)) ∧ Below w.heap.size w w' := by
  obtain ⟨A1, c1, k1, r1, n1, m1⟩ := hx
  obtain ⟨A2, c2, k2, r2, n2, m2⟩ := hy
  obtain ⟨b1, o1, rfl, t1⟩ := r1.row (by omega)
  obtain ⟨b2, o2, rfl, t2⟩ := r2.row (by omega)
  have NX := Lib.hid nx
  have NY := Lib.hid ny
  have HC1 := Lib.hid (And.intro n1 m1)
  have HC2 := Lib.hid (And.intro n2 m2)
  have KX := Lib.hid k1
  have KY := Lib.hid k2
  have RX : Hid (Row8 w b1 o1 x.n x.z) := Lib.hid t1
  have RY : Hid (Row8 w b2 o2 y.n y.z) := Lib.hid t2
  clear nx ny n1 m1 n2 m2 k1 k2 r1 r2 t1 t2
  obtain ⟨re, hre⟩ : ∃ p, relE (hdE x) (hdE y) = p := ⟨_, rfl⟩
  have HRE := Lib.hid hre
  have HE : Hid (relH x y = or3 re (cmpL (lstZ x.z 0 10) (lstZ y.z 0 10)) (cmpL (lstZ x.z 12 (x.n - 12)) (lstZ y.z 12 (y.n - 12)))) := Lib.hid (by rw [or3_2, ← hre]; rfl)
  rw [HE.out]
  obtain ⟨X, hX⟩ : ∃ X, or3 re (cmpL (lstZ x.z 0 10) (lstZ y.z 0 10)) (cmpL (lstZ x.z 12 (x.n - 12)) (lstZ y.z 12 (y.n - 12))) = X := ⟨_, rfl⟩
  rw [hX]
  have HX := Lib.hid hX
  clear hre HE hX
  go_enter Try.func41, Try.ntmps41
  have HB := Lib.hid (Below.refl w.heap.size w)
  go_wp2_with fail
  refine wp_region_held_drew (S := fun w' => Blk 92 w' g (hdC x (some ⟨b1, o1, none⟩) c1) ∧ Blk 92 w' k (hdC y (some ⟨b2, o2, none⟩) c2) ∧ Row8 w' b1 o1 x.n x.z ∧ Row8 w' b2 o2 y.n y.z ∧ Below w.heap.size w w') (by kernel_rfl) ⟨KX.out, KY.out, RX.out, RY.out, HB.out.drew⟩ (fun hS => ?_)
  generalize hW1 : w.drew = W1 at hS  ⊢
  clear hW1
  clear KX
  clear KY
  clear RX
  clear RY
  clear HB
  have KX := Lib.hid hS.1
  have KY := Lib.hid hS.2.1
  have RX := Lib.hid hS.2.2.1
  have RY := Lib.hid hS.2.2.2.1
  have HB := Lib.hid hS.2.2.2.2
  refine takeY (i := 0) (some 5) (v := .pointer (some ⟨g, 0, none⟩)) rfl rfl (by kernel_rfl) (by kernel_rfl) (by kernel_rfl) (fun _ _ _ h => h) (by rfl) (fun w' hS => by clear hS; go_simp) hS ?_
  simp only [Act.put, List.setIfInBounds_toArray, List.set_cons_zero, List.set_cons_succ]
  refine takeY (i := 1) (some 6) (v := .pointer (some ⟨g, 0, none⟩)) rfl rfl (by kernel_rfl) (by kernel_rfl) (by kernel_rfl) (fun _ _ _ h => h) (by rfl) (fun w' hS => by clear hS; go_simp) hS ?_
  simp only [Act.put, List.setIfInBounds_toArray, List.set_cons_zero, List.set_cons_succ]
  refine takeY (i := 2) (some 7) (v := .pointer (some ⟨g, 0, none⟩)) rfl rfl (by kernel_rfl) (by kernel_rfl) (by kernel_rfl) (fun _ _ _ h => h) (by rfl) (fun w' hS => by clear hS; go_simp) hS ?_
  simp only [Act.put, List.setIfInBounds_toArray, List.set_cons_zero, List.set_cons_succ]
  refine takeL (i := 3) (some 8) 32 (.tmp 7) g 0 (enC (hdE x)) _ rfl rfl (by kernel_rfl) (by kernel_rfl) (by kernel_rfl) (fun _ _ _ h => h) (by rfl) rfl rfl (fun w' hS => hd_en hS.1) Try.underlying32 rfl info_enP hS ?_
  simp only [Act.put, List.setIfInBounds_toArray, List.set_cons_zero, List.set_cons_succ]
  refine takeY (i := 4) (some 9) (v := .pointer (some ⟨k, 0, none⟩)) rfl rfl (by kernel_rfl) (by kernel_rfl) (by kernel_rfl) (fun _ _ _ h => h) (by rfl) (fun w' hS => by clear hS; go_simp) hS ?_
  simp only [Act.put, List.setIfInBounds_toArray, List.set_cons_zero, List.set_cons_succ]
  refine takeY (i := 5) (some 10) (v := .pointer (some ⟨k, 0, none⟩)) rfl rfl (by kernel_rfl) (by kernel_rfl) (by kernel_rfl) (fun _ _ _ h => h) (by rfl) (fun w' hS => by clear hS; go_simp) hS ?_
  simp only [Act.put, List.setIfInBounds_toArray, List.set_cons_zero, List.set_cons_succ]
  refine takeY (i := 6) (some 11) (v := .pointer (some ⟨k, 0, none⟩)) rfl rfl (by kernel_rfl) (by kernel_rfl) (by kernel_rfl) (fun _ _ _ h => h) (by rfl) (fun w' hS => by clear hS; go_simp) hS ?_
  simp only [Act.put, List.setIfInBounds_toArray, List.set_cons_zero, List.set_cons_succ]
  refine takeL (i := 7) (some 12) 32 (.tmp 11) k 0 (enC (hdE y)) _ rfl rfl (by kernel_rfl) (by kernel_rfl) (by kernel_rfl) (fun _ _ _ h => h) (by rfl) rfl rfl (fun w' hS => hd_en hS.2.1) Try.underlying32 rfl info_enP hS ?_
  simp only [Act.put, List.setIfInBounds_toArray, List.set_cons_zero, List.set_cons_succ]
  refine takeY (i := 9) (some 14) (v := .pointer (some ⟨g, 0, none⟩)) rfl rfl (by kernel_rfl) (by kernel_rfl) (by kernel_rfl) (fun _ _ _ h => h) (by rfl) (fun w' hS => by clear hS; go_simp) hS ?_
  simp only [Act.put, List.setIfInBounds_toArray, List.set_cons_zero, List.set_cons_succ]
  refine takeY (i := 10) (some 15) (v := .pointer (some ⟨g, 0, none⟩)) rfl rfl (by kernel_rfl) (by kernel_rfl) (by kernel_rfl) (fun _ _ _ h => h) (by rfl) (fun w' hS => by clear hS; go_simp) hS ?_
  simp only [Act.put, List.setIfInBounds_toArray, List.set_cons_zero, List.set_cons_succ]
  refine takeY (i := 11) (some 16) (v := .pointer (some ⟨g, 11, none⟩)) rfl rfl (by kernel_rfl) (by kernel_rfl) (by kernel_rfl) (fun _ _ _ h => h) (by rfl) (fun w' hS => by clear hS; go_simp) hS ?_
  simp only [Act.put, List.setIfInBounds_toArray, List.set_cons_zero, List.set_cons_succ]
  refine takeY (i := 12) (some 17) (v := .slice (some ⟨b1, o1, none⟩) x.n c1) rfl rfl (by kernel_rfl) (by kernel_rfl) (by kernel_rfl) (fun _ _ _ h => h) (by rfl) (fun w' hS => by (have c9 : w'.cell? ⟨g, 11, none⟩ = some (.slice (some ⟨b1, o1, none⟩) x.n c1) := (hS.1.cell 11).trans rfl; clear hS; go_simp)) hS ?_
  simp only [Act.put, List.setIfInBounds_toArray, List.set_cons_zero, List.set_cons_succ]
  refine takeY (i := 13) (some 18) (v := .slice (some ⟨b1, o1, none⟩) 10 c1) rfl rfl (by kernel_rfl) (by kernel_rfl) (by kernel_rfl) (fun _ _ _ h => h) (by rfl) (fun w' hS => by exact slice_hi _ _ _ rfl b1 o1 x.n c1 rfl rfl (by have := HC1.out; have := NX.out; omega) _) hS ?_
  simp only [Act.put, List.setIfInBounds_toArray, List.set_cons_zero, List.set_cons_succ]
  refine takeY (i := 14) (some 19) (v := .pointer (some ⟨k, 0, none⟩)) rfl rfl (by kernel_rfl) (by kernel_rfl) (by kernel_rfl) (fun _ _ _ h => h) (by rfl) (fun w' hS => by clear hS; go_simp) hS ?_
  simp only [Act.put, List.setIfInBounds_toArray, List.set_cons_zero, List.set_cons_succ]
  refine takeY (i := 15) (some 20) (v := .pointer (some ⟨k, 0, none⟩)) rfl rfl (by kernel_rfl) (by kernel_rfl) (by kernel_rfl) (fun _ _ _ h => h) (by rfl) (fun w' hS => by clear hS; go_simp) hS ?_
  simp only [Act.put, List.setIfInBounds_toArray, List.set_cons_zero, List.set_cons_succ]
  refine takeY (i := 16) (some 21) (v := .pointer (some ⟨k, 11, none⟩)) rfl rfl (by kernel_rfl) (by kernel_rfl) (by kernel_rfl) (fun _ _ _ h => h) (by rfl) (fun w' hS => by clear hS; go_simp) hS ?_
  simp only [Act.put, List.setIfInBounds_toArray, List.set_cons_zero, List.set_cons_succ]
  refine takeY (i := 17) (some 22) (v := .slice (some ⟨b2, o2, none⟩) y.n c2) rfl rfl (by kernel_rfl) (by kernel_rfl) (by kernel_rfl) (fun _ _ _ h => h) (by rfl) (fun w' hS => by (have c9 : w'.cell? ⟨k, 11, none⟩ = some (.slice (some ⟨b2, o2, none⟩) y.n c2) := (hS.2.1.cell 11).trans rfl; clear hS; go_simp)) hS ?_
  simp only [Act.put, List.setIfInBounds_toArray, List.set_cons_zero, List.set_cons_succ]
  refine takeY (i := 18) (some 23) (v := .slice (some ⟨b2, o2, none⟩) 10 c2) rfl rfl (by kernel_rfl) (by kernel_rfl) (by kernel_rfl) (fun _ _ _ h => h) (by rfl) (fun w' hS => by exact slice_hi _ _ _ rfl b2 o2 y.n c2 rfl rfl (by have := HC2.out; have := NY.out; omega) _) hS ?_
  simp only [Act.put, List.setIfInBounds_toArray, List.set_cons_zero, List.set_cons_succ]
  refine takeY (i := 20) (some 25) (v := .pointer (some ⟨g, 0, none⟩)) rfl rfl (by kernel_rfl) (by kernel_rfl) (by kernel_rfl) (fun _ _ _ h => h) (by rfl) (fun w' hS => by clear hS; go_simp) hS ?_
  simp only [Act.put, List.setIfInBounds_toArray, List.set_cons_zero, List.set_cons_succ]
  refine takeY (i := 21) (some 26) (v := .pointer (some ⟨g, 0, none⟩)) rfl rfl (by kernel_rfl) (by kernel_rfl) (by kernel_rfl) (fun _ _ _ h => h) (by rfl) (fun w' hS => by clear hS; go_simp) hS ?_
  simp only [Act.put, List.setIfInBounds_toArray, List.set_cons_zero, List.set_cons_succ]
  refine takeY (i := 22) (some 27) (v := .pointer (some ⟨g, 11, none⟩)) rfl rfl (by kernel_rfl) (by kernel_rfl) (by kernel_rfl) (fun _ _ _ h => h) (by rfl) (fun w' hS => by clear hS; go_simp) hS ?_
  simp only [Act.put, List.setIfInBounds_toArray, List.set_cons_zero, List.set_cons_succ]
  refine takeY (i := 23) (some 28) (v := .slice (some ⟨b1, o1, none⟩) x.n c1) rfl rfl (by kernel_rfl) (by kernel_rfl) (by kernel_rfl) (fun _ _ _ h => h) (by rfl) (fun w' hS => by (have c9 : w'.cell? ⟨g, 11, none⟩ = some (.slice (some ⟨b1, o1, none⟩) x.n c1) := (hS.1.cell 11).trans rfl; clear hS; go_simp)) hS ?_
  simp only [Act.put, List.setIfInBounds_toArray, List.set_cons_zero, List.set_cons_succ]
  refine takeY (i := 24) (some 29) (v := .slice (some ⟨b1, o1 + 12, none⟩) (x.n - 12) (c1 - 12)) rfl rfl (by kernel_rfl) (by kernel_rfl) (by kernel_rfl) (fun _ _ _ h => h) (by rfl) (fun w' hS => by exact slice_lo _ _ _ rfl b1 o1 x.n c1 rfl rfl (by have := NX.out; omega) HC1.out.1 _) hS ?_
  simp only [Act.put, List.setIfInBounds_toArray, List.set_cons_zero, List.set_cons_succ]
  refine takeY (i := 25) (some 30) (v := .pointer (some ⟨k, 0, none⟩)) rfl rfl (by kernel_rfl) (by kernel_rfl) (by kernel_rfl) (fun _ _ _ h => h) (by rfl) (fun w' hS => by clear hS; go_simp) hS ?_
  simp only [Act.put, List.setIfInBounds_toArray, List.set_cons_zero, List.set_cons_succ]
  refine takeY (i := 26) (some 31) (v := .pointer (some ⟨k, 0, none⟩)) rfl rfl (by kernel_rfl) (by kernel_rfl) (by kernel_rfl) (fun _ _ _ h => h) (by rfl) (fun w' hS => by clear hS; go_simp) hS ?_
  simp only [Act.put, List.setIfInBounds_toArray, List.set_cons_zero, List.set_cons_succ]
  refine takeY (i := 27) (some 32) (v := .pointer (some ⟨k, 11, none⟩)) rfl rfl (by kernel_rfl) (by kernel_rfl) (by kernel_rfl) (fun _ _ _ h => h) (by rfl) (fun w' hS => by clear hS; go_simp) hS ?_
  simp only [Act.put, List.setIfInBounds_toArray, List.set_cons_zero, List.set_cons_succ]
  refine takeY (i := 28) (some 33) (v := .slice (some ⟨b2, o2, none⟩) y.n c2) rfl rfl (by kernel_rfl) (by kernel_rfl) (by kernel_rfl) (fun _ _ _ h => h) (by rfl) (fun w' hS => by (have c9 : w'.cell? ⟨k, 11, none⟩ = some (.slice (some ⟨b2, o2, none⟩) y.n c2) := (hS.2.1.cell 11).trans rfl; clear hS; go_simp)) hS ?_
  simp only [Act.put, List.setIfInBounds_toArray, List.set_cons_zero, List.set_cons_succ]
  refine takeY (i := 29) (some 34) (v := .slice (some ⟨b2, o2 + 12, none⟩) (y.n - 12) (c2 - 12)) rfl rfl (by kernel_rfl) (by kernel_rfl) (by kernel_rfl) (fun _ _ _ h => h) (by rfl) (fun w' hS => by exact slice_lo _ _ _ rfl b2 o2 y.n c2 rfl rfl (by have := NY.out; omega) HC2.out.1 _) hS ?_
  simp only [Act.put, List.setIfInBounds_toArray, List.set_cons_zero, List.set_cons_succ]
  refine takeC (i := 8) (some 13) 35 #[.agg (enC (hdE x)), .agg (enC (hdE y))] (.int .i64 re) (R := fun w' => Below W1.heap.size W1 w') rfl rfl (by kernel_rfl) (by rfl) (by go_simp) ((by rw [← HRE.out]; exact compareEntries_any _ _ W1)) (fun w' hb => ⟨hS.1.below hb hS.1.lt, hS.2.1.below hb hS.2.1.lt, hS.2.2.1.below hb hS.2.2.1.lt, hS.2.2.2.1.below hb hS.2.2.2.1.lt, hS.2.2.2.2.trans (hb.mono hS.2.2.2.2.size)⟩) (fun W2 hb1 hS2 => ?_)
  simp only [Act.put, List.setIfInBounds_toArray, List.set_cons_zero, List.set_cons_succ]
  clear KX
  clear KY
  clear RX
  clear RY
  clear HB
  clear hS hb1
  have hS := hS2
  clear hS2
  have KX := Lib.hid hS.1
  have KY := Lib.hid hS.2.1
  have RX := Lib.hid hS.2.2.1
  have RY := Lib.hid hS.2.2.2.1
  have HB := Lib.hid hS.2.2.2.2
  refine takeC (i := 19) (some 24) 66 #[.slice (some ⟨b1, o1, none⟩) 10 c1, .slice (some ⟨b2, o2, none⟩) 10 c2] (.int .i64 (cmpL (lstZ x.z 0 10) (lstZ y.z 0 10))) (R := fun w' => W2 = w') rfl rfl (by kernel_rfl) (by rfl) (by go_simp) ((cmpB_any b1 o1 0 10 x.n c1 b2 o2 0 10 y.n c2 x.z y.z W2 RX.out RY.out (by have := NX.out; omega) (by have := NY.out; omega)).mono fun e w' h => ⟨h.1, h.2.symm⟩) (fun w' hb => hb ▸ hS) (fun W3 hb1 hS2 => ?_)
  subst hb1
  clear hS2
  simp only [Act.put, List.setIfInBounds_toArray, List.set_cons_zero, List.set_cons_succ]
  refine takeC (i := 30) (some 35) 66 #[.slice (some ⟨b1, o1 + 12, none⟩) (x.n - 12) (c1 - 12), .slice (some ⟨b2, o2 + 12, none⟩) (y.n - 12) (c2 - 12)] (.int .i64 (cmpL (lstZ x.z 12 (x.n - 12)) (lstZ y.z 12 (y.n - 12)))) (R := fun w' => W2 = w') rfl rfl (by kernel_rfl) (by rfl) (by go_simp) ((cmpB_any b1 o1 12 (x.n - 12) x.n (c1 - 12) b2 o2 12 (y.n - 12) y.n (c2 - 12) x.z y.z W2 RX.out RY.out (by have := NX.out; omega) (by have := NY.out; omega)).mono fun e w' h => ⟨h.1, h.2.symm⟩) (fun w' hb => hb ▸ hS) (fun W4 hb1 hS2 => ?_)
  subst hb1
  clear hS2
  simp only [Act.put, List.setIfInBounds_toArray, List.set_cons_zero, List.set_cons_succ]
  obtain ⟨N5, hN5⟩ : ∃ N, W2.heap.size = N := ⟨_, rfl⟩
  have HN5 := Lib.hid hN5
  clear hN5
  refine takeBsn (i := 31) (some 36) 3 3 (#[.int .i64 re, .int .i64 (cmpL (lstZ x.z 0 10) (lstZ y.z 0 10)), .int .i64 (cmpL (lstZ x.z 12 (x.n - 12)) (lstZ y.z 12 (y.n - 12)))]) rfl rfl (by kernel_rfl) (by rfl) (bs_int _ _ _ rfl _ _ _ rfl rfl rfl) N5 HN5.out (fun W5 k1 b1 s1 => ⟨⟨hS.1.below b1 hS.1.lt, hS.2.1.below b1 hS.2.1.lt, hS.2.2.1.below b1 hS.2.2.1.lt, hS.2.2.2.1.below b1 hS.2.2.2.1.lt, hS.2.2.2.2.trans (b1.mono hS.2.2.2.2.size)⟩, ?_⟩)
  simp only [Act.put, List.setIfInBounds_toArray, List.set_cons_zero, List.set_cons_succ]
  have KV : Hid (BlO 3 W5 N5 (#[.int .i64 re, .int .i64 (cmpL (lstZ x.z 0 10) (lstZ y.z 0 10)), .int .i64 (cmpL (lstZ x.z 12 (x.n - 12)) (lstZ y.z 12 (y.n - 12)))])) := Lib.hid k1
  clear k1
  have KXn := Lib.hid (KX.out.below b1 KX.out.lt)
  clear KX
  have KX := KXn
  clear KXn
  have KYn := Lib.hid (KY.out.below b1 KY.out.lt)
  clear KY
  have KY := KYn
  clear KYn
  have RXn := Lib.hid (RX.out.below b1 RX.out.lt)
  clear RX
  have RX := RXn
  clear RXn
  have RYn := Lib.hid (RY.out.below b1 RY.out.lt)
  clear RY
  have RY := RYn
  clear RYn
  have HBn := Lib.hid (HB.out.trans (b1.mono HB.out.size))
  clear HB
  have HB := HBn
  clear HBn
  clear b1 hS HN5
  have hS := (And.intro KX.out (And.intro KY.out (And.intro RX.out (And.intro RY.out HB.out))))
  refine takeC (i := 32) (some 37) 61 #[.slice (some ⟨N5, 0, none⟩) 3 3] (.int .i64 X) (R := fun w' => W5 = w') rfl rfl (by kernel_rfl) (by rfl) (by go_simp) ((by rw [← HX.out]; exact (or_any N5 _ _ _ W5 KV.out).mono fun e w' h => ⟨h.1, h.2.symm⟩)) (fun w' hb => hb ▸ hS) (fun W6 hb1 hS2 => ?_)
  subst hb1
  clear hS2
  simp only [Act.put, List.setIfInBounds_toArray, List.set_cons_zero, List.set_cons_succ]
  refine takeY (i := 33) (some 4) (v := .int .i64 X) rfl rfl (by kernel_rfl) (by kernel_rfl) (by kernel_rfl) (fun _ _ _ h => h) (by rfl) (fun w' hS => by go_simp) hS ?_
  simp only [Act.put, List.setIfInBounds_toArray, List.set_cons_zero, List.set_cons_succ]
  clear hS
  refine wpAnyH_done (by kernel_rfl) ?_ _
  go_wp2_with fail
  go_ret
  exact ⟨rfl, HB.out⟩
end Go.Proofs.Ytkiaijmhoikdiaa

/- The order of IDs is that of their numbers; the order that the store's sorts are handed. Each theorem states its conditions. -/
namespace Go.Proofs.Ytkiaijmhoikdiaa
open Go.RowKit Go.Sort
set_option linter.unusedVariables false

def byte6 (z : Nat → Int) : Prop := ∀ j, 0 ≤ z j ∧ z j ≤ 255
def lst6 (z : Nat → Int) : List Int := [z 0, z 1, z 2, z 3, z 4, z 5]
theorem u8_lt {a b : Int} (ha : 0 ≤ a ∧ a ≤ 255) (hb : 0 ≤ b ∧ b ≤ 255) : (a.toNat.toUInt8 < b.toNat.toUInt8) ↔ a < b := by
  rw [UInt8.lt_iff_toNat_lt]
  simp only [Nat.toUInt8, UInt8.toNat_ofNat']
  omega
def fold6 : Int → List Int → Int
  | p, [] => p
  | p, x :: xs => fold6 (p * 256 + x) xs
theorem fold6_lt : ∀ (xs ys : List Int) (p q : Int), xs.length = ys.length → (∀ x ∈ xs, 0 ≤ x ∧ x ≤ 255) → (∀ x ∈ ys, 0 ≤ x ∧ x ≤ 255) → p < q → fold6 p xs < fold6 q ys
  | [], [], p, q, _, _, _, h => h
  | [], _ :: _, _, _, h, _, _, _ => by simp at h
  | _ :: _, [], _, _, h, _, _, _ => by simp at h
  | x :: xs, y :: ys, p, q, hl, hx, hy, h => by
    have a := hx x (by simp)
    have b := hy y (by simp)
    exact fold6_lt xs ys _ _ (by simpa using hl) (fun z hz => hx z (by simp [hz])) (fun z hz => hy z (by simp [hz])) (by omega)
theorem cmp_fold : ∀ (xs ys : List Int) (p : Int), xs.length = ys.length → (∀ x ∈ xs, 0 ≤ x ∧ x ≤ 255) → (∀ x ∈ ys, 0 ≤ x ∧ x ≤ 255) → Lib.compareBytes (Lib.bytesOf xs) (Lib.bytesOf ys) = cmp3 (fold6 p xs) (fold6 p ys)
  | [], [], p, _, _, _ => by simp [Lib.bytesOf, Lib.compareBytes, fold6, cmp3]
  | [], _ :: _, _, h, _, _ => by simp at h
  | _ :: _, [], _, h, _, _ => by simp at h
  | x :: xs, y :: ys, p, hl, hx, hy => by
    have a := hx x (by simp)
    have b := hy y (by simp)
    have hl' : xs.length = ys.length := by simpa using hl
    have hx' : ∀ z ∈ xs, 0 ≤ z ∧ z ≤ 255 := fun z hz => hx z (by simp [hz])
    have hy' : ∀ z ∈ ys, 0 ≤ z ∧ z ≤ 255 := fun z hz => hy z (by simp [hz])
    show (if x.toNat.toUInt8 < y.toNat.toUInt8 then (-1 : Int) else if y.toNat.toUInt8 < x.toNat.toUInt8 then 1 else Lib.compareBytes (Lib.bytesOf xs) (Lib.bytesOf ys)) = _
    simp only [u8_lt a b, u8_lt b a, fold6]
    by_cases h1 : x < y
    · rw [if_pos h1]
      have := fold6_lt xs ys (p * 256 + x) (p * 256 + y) hl' hx' hy' (by omega)
      unfold cmp3; rw [if_pos this]
    · rw [if_neg h1]
      by_cases h2 : y < x
      · rw [if_pos h2]
        have := fold6_lt ys xs (p * 256 + y) (p * 256 + x) hl'.symm hy' hx' (by omega)
        unfold cmp3; rw [if_neg (by omega), if_pos this]
      · rw [if_neg h2, cmp_fold xs ys (p * 256 + x) hl' hx' hy', show x = y by omega]
theorem lst6_bd {z : Nat → Int} (h : byte6 z) : ∀ x ∈ lst6 z, 0 ≤ x ∧ x ≤ 255 := by
  intro x hx
  simp only [lst6, List.mem_cons, List.not_mem_nil, or_false] at hx
  rcases hx with rfl | rfl | rfl | rfl | rfl | rfl <;> exact h _
theorem num_fold (z : Nat → Int) : numZ z 0 6 = fold6 0 (lst6 z) := by
  simp only [numZ, fold6, lst6, Nat.zero_add]
theorem cmp6_bytes {y z : Nat → Int} (hy : byte6 y) (hz : byte6 z) : Lib.compareBytes (Lib.bytesOf (lst6 y)) (Lib.bytesOf (lst6 z)) = cmp3 (numZ y 0 6) (numZ z 0 6) := by
  rw [num_fold, num_fold]
  exact cmp_fold _ _ 0 rfl (lst6_bd hy) (lst6_bd hz)
theorem row6_list {w : World} {b o : Nat} {z : Nat → Int} (h : w.rangeAt b o (syC z).toList) : ∀ j x, (lst6 z)[j]? = some x → w.cell? ((⟨b, o, none⟩ : Addr).add j) = some (.int .u8 x) := by
  intro j x hj
  rw [add_none]
  match j, hj with
  | 0, hj => simp [lst6] at hj; subst hj; exact h 0 _ rfl
  | 1, hj => simp [lst6] at hj; subst hj; exact h 1 _ rfl
  | 2, hj => simp [lst6] at hj; subst hj; exact h 2 _ rfl
  | 3, hj => simp [lst6] at hj; subst hj; exact h 3 _ rfl
  | 4, hj => simp [lst6] at hj; subst hj; exact h 4 _ rfl
  | 5, hj => simp [lst6] at hj; subst hj; exact h 5 _ rfl
theorem run_cmp6 (b1 o1 c1 b2 o2 c2 : Nat) (y z : Nat → Int) (w : World) (hy : w.rangeAt b1 o1 (syC y).toList) (hz : w.rangeAt b2 o2 (syC z).toList) (ky : byte6 y) (kz : byte6 z) :
    (Extern.BytealgCompare.compare #[.slice (some ⟨b1, o1, none⟩) 6 c1, .slice (some ⟨b2, o2, none⟩) 6 c2]).run Try.prog w = .ok (.int .i64 (cmp3 (numZ y 0 6) (numZ z 0 6))) w := by
  change Sem.run Try.prog (do pure (goInt (Extern.BytealgCompare.cmp (← Extern.Bytes.loadBytes ⟨b1, o1, none⟩ (lst6 y).length .empty) (← Extern.Bytes.loadBytes ⟨b2, o2, none⟩ (lst6 z).length .empty)))) w = _
  simp only [Sem.run_bind, Lib.run_loadBytesX w (lst6 y) ⟨b1, o1, none⟩ .empty (row6_list hy), Lib.run_loadBytesX w (lst6 z) ⟨b2, o2, none⟩ .empty (row6_list hz), Result.andThen, Sem.run_pure]
  rw [Lib.cmp_eq, ← cmp6_bytes ky kz]
  rfl
set_option maxHeartbeats 8000000 in
set_option maxRecDepth 100000 in
theorem cmp6_any (b1 o1 c1 b2 o2 c2 : Nat) (y z : Nat → Int) (w : World) (hy : w.rangeAt b1 o1 (syC y).toList) (hz : w.rangeAt b2 o2 (syC z).toList) (ky : byte6 y) (kz : byte6 z) :
    Calls Try.prog 66 #[.slice (some ⟨b1, o1, none⟩) 6 c1, .slice (some ⟨b2, o2, none⟩) 6 c2] w fun e w' => e = .returned (.int .i64 (cmp3 (numZ y 0 6) (numZ z 0 6))) ∧ w' = w := by
  have hrun := run_cmp6 b1 o1 c1 b2 o2 c2 y z w hy hz ky kz
  go_enter Try.func66, Try.ntmps66
  go_wp2
  rw [run_callFunc_extern Try.func83 (by kernel_rfl) (by kernel_rfl) (by kernel_rfl) (e := Extern.BytealgCompare.compare) (by kernel_rfl), hrun]
  simp only [Result.andThen]
  rw [Oper.upon_value]
  go_wp2
  go_ret
  exact ⟨rfl, rfl⟩

set_option maxHeartbeats 8000000 in
set_option maxRecDepth 100000 in
theorem isNaN_any (x : Int) (w : World) : Calls Try.prog 84 #[.int .u8 x] w fun e w' => e = .returned (.bool false) ∧ w' = w := by
  go_enter Try.func84, Try.ntmps84
  go_wp2_with fail
  go_ret
  exact ⟨by simp, rfl⟩
set_option maxHeartbeats 8000000 in
set_option maxRecDepth 100000 in
theorem cmpb_any (x y : Int) (w : World) : Calls Try.prog 67 #[.int .u8 x, .int .u8 y] w fun e w' => e = .returned (.int .i64 (cmp3 x y)) ∧ w' = w := by
  have hn := fun x W => isNaN_any x W
  go_enter Try.func67, Try.ntmps67
  by_cases h1 : x < y
  · have e : cmp3 x y = -1 := by unfold cmp3; rw [if_pos h1]
    rw [e]; clear e
    go_wp2_with (first | (go_at_call 84; refine (hn _ _).mono ?_; rintro e w' ⟨rfl, rfl⟩) | go_in)
    go_ret
    exact ⟨rfl, rfl⟩
  · by_cases h2 : y < x
    · have e : cmp3 x y = 1 := by unfold cmp3; rw [if_neg h1, if_pos h2]
      rw [e]; clear e
      go_wp2_with (first | (go_at_call 84; refine (hn _ _).mono ?_; rintro e w' ⟨rfl, rfl⟩) | go_in)
      go_ret
      exact ⟨rfl, rfl⟩
    · have e : cmp3 x y = 0 := by unfold cmp3; rw [if_neg h1, if_neg h2]
      rw [e]; clear e
      go_wp2_with (first | (go_at_call 84; refine (hn _ _).mono ?_; rintro e w' ⟨rfl, rfl⟩) | go_in)
      go_ret
      exact ⟨rfl, rfl⟩
theorem or_cmp {x y : Nat} (hx : IdOk x) (hy : IdOk y) : or3 (cmp3 (numZ (dg x) 0 6) (numZ (dg y) 0 6)) (cmp3 (dg x 6) (dg y 6)) (cmp3 (dg x 7) (dg y 7)) = cmp3 (x : Int) (y : Int) := by
  rw [num_hi hx, num_hi hy]
  unfold IdOk at hx hy
  simp only [dg, pw]
  unfold or3 cmp3
  repeat' split
  all_goals first | rfl | omega
theorem Blk.sys6 {w : World} {g n : Nat} (h : Blk 28 w g (iC n)) : w.rangeAt g 0 (syC (dg n)).toList := h.range (six ⟨rfl, rfl, rfl, rfl, rfl, rfl⟩)
abbrev IdT := { n : Nat // IdOk n }
instance : Inhabited IdT := ⟨⟨0, by unfold IdOk; decide⟩⟩
set_option maxHeartbeats 16000000 in
set_option maxRecDepth 100000 in
theorem order_any (x y : Nat) (W : World) (hx : IdOk x) (hy : IdOk y) : Calls Try.prog 43 #[.agg (iC x), .agg (iC y)] W fun e w' => e = .returned (.int .i64 (cmp3 (x : Int) (y : Int))) ∧ ∃ q os', w' = grow (W.drewN q) os' := by
  have HE := Lib.hid (or_cmp hx hy)
  clear hx hy
  go_enter Try.func43, Try.ntmps43
  go_wp2_with fail
  obtain ⟨W2, hW2⟩ : ∃ W2, (W.alloc (.cells (iC x) 28)).alloc (.cells (iC y) 28) = W2 := ⟨_, rfl⟩
  have k1 : Blk 28 W2 W.heap.size (iC x) := by rw [← hW2]; exact (Below.heap_alloc _ _ _ (by simp)).trans (heap_alloc_new W _)
  have k2 : Blk 28 W2 (W.heap.size + 1) (iC y) := by
    rw [← hW2]
    have h := heap_alloc_new (W.alloc (.cells (iC x) 28)) (.cells (iC y) 28)
    rw [World.size_alloc] at h
    exact h
  have HW : Hid (∀ o, ∃ os', W2.drew.alloc o = grow (W.drewN 1) os') := Lib.hid fun o => ⟨_, by
    rw [← hW2, alloc_eq_grow, alloc_eq_grow, alloc_eq_grow, grow_grow]
    change grow (grow W.drew (#[Obj.cells (iC x) _] ++ #[Obj.cells (iC y) _])) #[o] = _
    rw [grow_grow]
    rfl⟩
  rw [hW2]
  clear hW2
  obtain ⟨N1, hN1⟩ : ∃ N, W.heap.size = N := ⟨_, rfl⟩
  rw [hN1] at k1 k2 ⊢
  clear hN1
  obtain ⟨N2, hN2⟩ : ∃ N, N1 + 1 = N := ⟨_, rfl⟩
  rw [hN2] at k2 ⊢
  clear hN2
  refine wp_region_held_drew (S := fun w' => Blk 28 w' N1 (iC x) ∧ Blk 28 w' N2 (iC y)) (by kernel_rfl) ⟨k1, k2⟩ (fun hS => ?_)
  clear k1 k2
  generalize hW3 : W2.drew = W3 at hS ⊢
  rw [hW3] at HW
  clear hW3
  refine takeY (i := 0) (some 5) (v := .pointer (some ⟨N1, 0, none⟩)) rfl rfl (by kernel_rfl) (by kernel_rfl) (by kernel_rfl) (fun _ _ _ h => h) (by rfl) (fun w' hS => by clear hS; go_simp) hS ?_
  simp only [Act.put, List.setIfInBounds_toArray, List.set_cons_zero, List.set_cons_succ]
  refine takeY (i := 1) (some 6) (v := .pointer (some ⟨N1, 0, none⟩)) rfl rfl (by kernel_rfl) (by kernel_rfl) (by kernel_rfl) (fun _ _ _ h => h) (by rfl) (fun w' hS => by clear hS; go_simp) hS ?_
  simp only [Act.put, List.setIfInBounds_toArray, List.set_cons_zero, List.set_cons_succ]
  refine takeY (i := 2) (some 7) (v := .slice (some ⟨N1, 0, none⟩) 6 6) rfl rfl (by kernel_rfl) (by kernel_rfl) (by kernel_rfl) (fun _ _ _ h => h) (by rfl) (fun w' hS => by clear hS; go_simp) hS ?_
  simp only [Act.put, List.setIfInBounds_toArray, List.set_cons_zero, List.set_cons_succ]
  refine takeY (i := 3) (some 8) (v := .pointer (some ⟨N2, 0, none⟩)) rfl rfl (by kernel_rfl) (by kernel_rfl) (by kernel_rfl) (fun _ _ _ h => h) (by rfl) (fun w' hS => by clear hS; go_simp) hS ?_
  simp only [Act.put, List.setIfInBounds_toArray, List.set_cons_zero, List.set_cons_succ]
  refine takeY (i := 4) (some 9) (v := .pointer (some ⟨N2, 0, none⟩)) rfl rfl (by kernel_rfl) (by kernel_rfl) (by kernel_rfl) (fun _ _ _ h => h) (by rfl) (fun w' hS => by clear hS; go_simp) hS ?_
  simp only [Act.put, List.setIfInBounds_toArray, List.set_cons_zero, List.set_cons_succ]
  refine takeY (i := 5) (some 10) (v := .slice (some ⟨N2, 0, none⟩) 6 6) rfl rfl (by kernel_rfl) (by kernel_rfl) (by kernel_rfl) (fun _ _ _ h => h) (by rfl) (fun w' hS => by clear hS; go_simp) hS ?_
  simp only [Act.put, List.setIfInBounds_toArray, List.set_cons_zero, List.set_cons_succ]
  refine takeY (i := 7) (some 12) (v := .pointer (some ⟨N1, 0, none⟩)) rfl rfl (by kernel_rfl) (by kernel_rfl) (by kernel_rfl) (fun _ _ _ h => h) (by rfl) (fun w' hS => by clear hS; go_simp) hS ?_
  simp only [Act.put, List.setIfInBounds_toArray, List.set_cons_zero, List.set_cons_succ]
  refine takeY (i := 8) (some 13) (v := .pointer (some ⟨N1, 6, none⟩)) rfl rfl (by kernel_rfl) (by kernel_rfl) (by kernel_rfl) (fun _ _ _ h => h) (by rfl) (fun w' hS => by clear hS; go_simp) hS ?_
  simp only [Act.put, List.setIfInBounds_toArray, List.set_cons_zero, List.set_cons_succ]
  refine takeY (i := 9) (some 14) (v := .int .u8 (dg x 6)) rfl rfl (by kernel_rfl) (by kernel_rfl) (by kernel_rfl) (fun _ _ _ h => h) (by rfl) (fun w' hS => by (have c9 : w'.cell? ⟨N1, 6, none⟩ = some (.int .u8 (dg x 6)) := (hS.1.cell 6).trans rfl; clear hS; go_simp)) hS ?_
  simp only [Act.put, List.setIfInBounds_toArray, List.set_cons_zero, List.set_cons_succ]
  refine takeY (i := 10) (some 15) (v := .pointer (some ⟨N2, 0, none⟩)) rfl rfl (by kernel_rfl) (by kernel_rfl) (by kernel_rfl) (fun _ _ _ h => h) (by rfl) (fun w' hS => by clear hS; go_simp) hS ?_
  simp only [Act.put, List.setIfInBounds_toArray, List.set_cons_zero, List.set_cons_succ]
  refine takeY (i := 11) (some 16) (v := .pointer (some ⟨N2, 6, none⟩)) rfl rfl (by kernel_rfl) (by kernel_rfl) (by kernel_rfl) (fun _ _ _ h => h) (by rfl) (fun w' hS => by clear hS; go_simp) hS ?_
  simp only [Act.put, List.setIfInBounds_toArray, List.set_cons_zero, List.set_cons_succ]
  refine takeY (i := 12) (some 17) (v := .int .u8 (dg y 6)) rfl rfl (by kernel_rfl) (by kernel_rfl) (by kernel_rfl) (fun _ _ _ h => h) (by rfl) (fun w' hS => by (have c9 : w'.cell? ⟨N2, 6, none⟩ = some (.int .u8 (dg y 6)) := (hS.2.cell 6).trans rfl; clear hS; go_simp)) hS ?_
  simp only [Act.put, List.setIfInBounds_toArray, List.set_cons_zero, List.set_cons_succ]
  refine takeY (i := 14) (some 19) (v := .pointer (some ⟨N1, 7, none⟩)) rfl rfl (by kernel_rfl) (by kernel_rfl) (by kernel_rfl) (fun _ _ _ h => h) (by rfl) (fun w' hS => by clear hS; go_simp) hS ?_
  simp only [Act.put, List.setIfInBounds_toArray, List.set_cons_zero, List.set_cons_succ]
  refine takeY (i := 15) (some 20) (v := .int .u8 (dg x 7)) rfl rfl (by kernel_rfl) (by kernel_rfl) (by kernel_rfl) (fun _ _ _ h => h) (by rfl) (fun w' hS => by (have c9 : w'.cell? ⟨N1, 7, none⟩ = some (.int .u8 (dg x 7)) := (hS.1.cell 7).trans rfl; clear hS; go_simp)) hS ?_
  simp only [Act.put, List.setIfInBounds_toArray, List.set_cons_zero, List.set_cons_succ]
  refine takeY (i := 16) (some 21) (v := .pointer (some ⟨N2, 7, none⟩)) rfl rfl (by kernel_rfl) (by kernel_rfl) (by kernel_rfl) (fun _ _ _ h => h) (by rfl) (fun w' hS => by clear hS; go_simp) hS ?_
  simp only [Act.put, List.setIfInBounds_toArray, List.set_cons_zero, List.set_cons_succ]
  refine takeY (i := 17) (some 22) (v := .int .u8 (dg y 7)) rfl rfl (by kernel_rfl) (by kernel_rfl) (by kernel_rfl) (fun _ _ _ h => h) (by rfl) (fun w' hS => by (have c9 : w'.cell? ⟨N2, 7, none⟩ = some (.int .u8 (dg y 7)) := (hS.2.cell 7).trans rfl; clear hS; go_simp)) hS ?_
  simp only [Act.put, List.setIfInBounds_toArray, List.set_cons_zero, List.set_cons_succ]
  refine takeC (i := 6) (some 11) 66 #[.slice (some ⟨N1, 0, none⟩) 6 6, .slice (some ⟨N2, 0, none⟩) 6 6] (.int .i64 (cmp3 (numZ (dg x) 0 6) (numZ (dg y) 0 6))) (R := fun w' => W3 = w') rfl rfl (by kernel_rfl) (by rfl) (by go_simp) ((cmp6_any _ _ _ _ _ _ (dg x) (dg y) W3 hS.1.sys6 hS.2.sys6 (dg_bd x) (dg_bd y)).mono (fun e w' h => ⟨h.1, h.2.symm⟩)) (fun w' h => h ▸ hS) (fun w3 h3 _ => ?_)
  subst h3
  simp only [Act.put, List.setIfInBounds_toArray, List.set_cons_zero, List.set_cons_succ]
  refine takeC (i := 13) (some 18) 67 #[.int .u8 (dg x 6), .int .u8 (dg y 6)] (.int .i64 (cmp3 (dg x 6) (dg y 6))) (R := fun w' => W3 = w') rfl rfl (by kernel_rfl) (by rfl) (by go_simp) ((cmpb_any _ _ W3).mono (fun e w' h => ⟨h.1, h.2.symm⟩)) (fun w' h => h ▸ hS) (fun w3 h3 _ => ?_)
  subst h3
  simp only [Act.put, List.setIfInBounds_toArray, List.set_cons_zero, List.set_cons_succ]
  refine takeC (i := 18) (some 23) 67 #[.int .u8 (dg x 7), .int .u8 (dg y 7)] (.int .i64 (cmp3 (dg x 7) (dg y 7))) (R := fun w' => W3 = w') rfl rfl (by kernel_rfl) (by rfl) (by go_simp) ((cmpb_any _ _ W3).mono (fun e w' h => ⟨h.1, h.2.symm⟩)) (fun w' h => h ▸ hS) (fun w3 h3 _ => ?_)
  subst h3
  simp only [Act.put, List.setIfInBounds_toArray, List.set_cons_zero, List.set_cons_succ]
  obtain ⟨N3, hN3⟩ : ∃ N, W3.heap.size = N := ⟨_, rfl⟩
  obtain ⟨W4, hW4⟩ : ∃ W4, W3.alloc (.cells #[.int .i64 (cmp3 (numZ (dg x) 0 6) (numZ (dg y) 0 6)), .int .i64 (cmp3 (dg x 6) (dg y 6)), .int .i64 (cmp3 (dg x 7) (dg y 7))] 3) = W4 := ⟨_, rfl⟩
  have hb4 : Below W3.heap.size W3 W4 := by rw [← hW4]; exact (Below.refl _ _).alloc (Nat.le_refl _) _
  have k4 : Blk 3 W4 N3 #[.int .i64 (cmp3 (numZ (dg x) 0 6) (numZ (dg y) 0 6)), .int .i64 (cmp3 (dg x 6) (dg y 6)), .int .i64 (cmp3 (dg x 7) (dg y 7))] := by rw [← hW4, ← hN3]; exact heap_alloc_new W3 _
  have hS4 : Blk 28 W4 N1 (iC x) ∧ Blk 28 W4 N2 (iC y) := ⟨hS.1.below hb4 hS.1.lt, hS.2.below hb4 hS.2.lt⟩
  refine takeV (i := 19) (some 24) (v := .slice (some ⟨N3, 0, none⟩) 3 3) (w' := W4) rfl rfl (by kernel_rfl) (by rfl) (by rw [← hN3, ← hW4]; exact bs_int W3 _ _ rfl _ _ _ rfl rfl rfl) hS4 ?_
  simp only [Act.put, List.setIfInBounds_toArray, List.set_cons_zero, List.set_cons_succ]
  refine takeC (i := 20) (some 25) 61 #[.slice (some ⟨N3, 0, none⟩) 3 3] (.int .i64 (cmp3 (x : Int) (y : Int))) (R := fun w' => W4 = w') rfl rfl (by kernel_rfl) (by rfl) (by go_simp) ((or_any N3 _ _ _ W4 k4).mono (fun e w' h => ⟨by rw [h.1, HE.out], h.2.symm⟩)) (fun w' h => h ▸ hS4) (fun w3 h3 _ => ?_)
  subst h3
  simp only [Act.put, List.setIfInBounds_toArray, List.set_cons_zero, List.set_cons_succ]
  refine takeY (i := 21) (some 4) (v := .int .i64 (cmp3 (x : Int) (y : Int))) rfl rfl (by kernel_rfl) (by kernel_rfl) (by kernel_rfl) (fun _ _ _ h => h) (by rfl) (fun w' hS => by clear hS; go_simp) hS4 ?_
  simp only [Act.put, List.setIfInBounds_toArray, List.set_cons_zero, List.set_cons_succ]
  refine wpAnyH_done (by kernel_rfl) ?_ _
  go_wp2_with fail
  go_ret
  obtain ⟨os', h⟩ := HW.out (.cells #[.int .i64 (cmp3 (numZ (dg x) 0 6) (numZ (dg y) 0 6)), .int .i64 (cmp3 (dg x 6) (dg y 6)), .int .i64 (cmp3 (dg x 7) (dg y 7))] 3)
  exact ⟨rfl, 1, os', by rw [← hW4]; exact h⟩
end Go.Proofs.Ytkiaijmhoikdiaa

/- store.read: what is held of bytes, or why not. Each theorem states its conditions. -/
namespace Go.Proofs.Ytkiaijmhoikdiaa
open Go.RowKit
set_option linter.unusedVariables false
set_option linter.unusedSimpArgs false

theorem zero_pdP : (Try.prog.info? 125).map (·.zero) = some (some (.agg (pdC pd0))) := by kernel_rfl
theorem pd_over (p q : Pd) : putMany (pdC q) 0 (pdC p).toList = pdC p := by kernel_rfl
theorem iC_z {z : Nat → Int} (hz : ∀ j, 0 ≤ z j ∧ z j ≤ 255) : iC (idZ z) = #[.int .u8 (z 12), .int .u8 (z 13), .int .u8 (z 14), .int .u8 (z 15), .int .u8 (z 16), .int .u8 (z 17), .int .u8 (z 18), .int .u8 (z 19)] := by
  have h := fun i hi => dg_idZ z hz i hi
  unfold iC
  rw [h 0 (by decide), h 1 (by decide), h 2 (by decide), h 3 (by decide), h 4 (by decide), h 5 (by decide), h 6 (by decide), h 7 (by decide)]
theorem eight8 {P : Nat → Prop} (h : P 0 ∧ P 1 ∧ P 2 ∧ P 3 ∧ P 4 ∧ P 5 ∧ P 6 ∧ P 7) (j : Nat) (hj : j < 8) : P j := by
  rcases (by omega : j = 0 ∨ j = 1 ∨ j = 2 ∨ j = 3 ∨ j = 4 ∨ j = 5 ∨ j = 6 ∨ j = 7) with rfl | rfl | rfl | rfl | rfl | rfl | rfl | rfl <;> simp_all
/-- what a packet of LSPs says, in the bytes' words -/
theorem rd2 (z : Nat → Int) : (rdP 2 z).kd = z 4 ∧ (rdP 2 z).li = (((numZ (fun j => z (10 + j)) 0 2).toNat : Nat) : Int) ∧ (rdP 2 z).id = (fun j => z (12 + j)) ∧ (rdP 2 z).sq = (numZ (fun j => z (20 + j)) 0 4).toNat := ⟨rdP_kd 2 z, rfl, rfl, rfl⟩
theorem build_enS (o : Oper) (e : Operand → Value) (x0 x1 x2 x3 : Operand) (ho : o.op = .build 32 #[(0, x0), (1, x1), (2, x2), (3, x3)]) (i : Nat) (sq su : Nat) (li : Int) (h0 : e x0 = .agg (iC i)) (h1 : e x1 = .int .u32 (sq : Int)) (h2 : e x2 = .int .i64 li) (h3 : e x3 = .int .u16 (su : Int)) (W : World) :
    (execOp e o).run Try.prog W = .ok (.value (.agg (enC ⟨dg i, sq, li, su⟩))) W := by
  unfold execOp
  simp only [ho]
  simp only [List.map_toArray, List.map_cons, List.map_nil, h0, h1, h2, h3]
  kernel_rfl
theorem build_hd (o : Oper) (e : Operand → Value) (x0 x1 : Operand) (ho : o.op = .build 92 #[(0, x0), (1, x1)]) (h : Hd) (A : Option Addr) (c : Nat) (hp : h.pu = 0) (h0 : e x0 = .agg (enC (hdE h))) (h1 : e x1 = .slice A h.n c) (W : World) :
    (execOp e o).run Try.prog W = .ok (.value (.agg (hdC h A c))) W := by
  obtain ⟨i, sq, li, su, n, z, pu⟩ := h
  subst hp
  unfold execOp
  simp only [ho]
  simp only [List.map_toArray, List.map_cons, List.map_nil, h0, h1]
  kernel_rfl
/-- what read leaves where it reads -/
def ReadOk (w : World) (n : Nat) (z : Nat → Int) (B : Option Addr) (c : Nat) (e : Ending) (w' : World) : Prop :=
  ∃ g, e = .returned (.tuple #[.pointer (some ⟨g, 0, none⟩), .int .i64 0]) ∧ w.heap.size ≤ g ∧ Blk 92 w' g (hdC (hdZ n z) B c) ∧ Below w.heap.size w w'
def ReadNo (w : World) (E : Int) (e : Ending) (w' : World) : Prop := e = .returned (.tuple #[.pointer none, .int .i64 E]) ∧ Below w.heap.size w w'
theorem or16 (a b : Int) (ha : 0 ≤ a ∧ a ≤ 255) (hb : 0 ≤ b ∧ b ≤ 255) : Go.bits BinOp.or IntKind.u16 (a * 256) b = a * 256 + b := by
  obtain ⟨x, rfl⟩ : ∃ x : Nat, a = x := ⟨a.toNat, by omega⟩
  obtain ⟨y, rfl⟩ : ∃ y : Nat, b = y := ⟨b.toNat, by omega⟩
  have e1 : (BitVec.ofInt 16 ((x : Int) * 256)).toNat = x <<< 8 := by
    rw [BitVec.toNat_ofInt, Nat.shiftLeft_eq]
    omega
  have e2 : (BitVec.ofInt 16 (y : Int)).toNat = y := by
    rw [BitVec.toNat_ofInt]
    omega
  show IntKind.u16.wrap ((BitVec.ofInt 16 ((x : Int) * 256) ||| BitVec.ofInt 16 (y : Int)).toNat : Int) = _
  rw [BitVec.toNat_or, e1, e2, ← Nat.shiftLeft_add_eq_or_of_lt (by omega : y < 2 ^ 8), Nat.shiftLeft_eq, wU2 _ (by omega)]
  omega
theorem w16 (a : Int) (h : 0 ≤ a ∧ a ≤ 65535) : IntKind.u16.wrap a = a := by simp [IntKind.wrap, IntKind.signed, IntKind.bits]; omega
set_option maxHeartbeats 16000000 in
set_option maxRecDepth 100000 in
theorem read_yes (B : Option Addr) (n c : Nat) (z : Nat → Int) (q m : Nat) (w : World) (hq : cls (z 4) = q) (hn : 27 ≤ n) (hB : Rd w B n z) (hc : n ≤ c) (hcm : c ≤ maxLen) (hrd : Calls Try.prog 65 #[.slice B n c] w (RdOk w q z m)) :
    Calls Try.prog 39 #[.slice B n c] w (fun e w' => (q = 2 ∧ ReadOk w n z B c e w') ∨ (q ≠ 2 ∧ ReadNo w 3 e w')) := by
  have HRD := Lib.hid hrd
  have HQ := Lib.hid hq
  have hz := hB.2
  obtain ⟨b, off, rfl, hr⟩ := hB.row (by omega)
  have HR := Lib.hid hr
  have hcm2 : c ≤ 9223372036854775807 := hcm
  have HZ := Lib.hid hz
  have h24 : (24 : Int) < (n : Int) := by omega
  have h25 : (25 : Int) < (n : Int) := by omega
  clear hrd hB hr hcm hz hq
  go_enter Try.func39, Try.ntmps39
  go_wp2_with fail
  refine HRD.out.mono ?_
  rintro e w1 ⟨A7, c7, L, rfl, ho, hI, hA7, hc71, hc72, b1⟩
  clear ho hI hA7 hc71 hc72
  have HB := Lib.hid b1
  clear b1 HRD
  obtain ⟨p, hp⟩ : ∃ p, withT (rdP q z) A7 m c7 = p := ⟨_, rfl⟩
  rw [hp]
  have hkd : p.kd = z 4 := by rw [← hp]; exact rdP_kd q z
  have HP := Lib.hid hp
  have HKD := Lib.hid hkd
  clear hp hkd
  obtain ⟨N2, hN2⟩ : ∃ N, w1.heap.size = N := ⟨_, rfl⟩
  have HN2 := Lib.hid hN2
  clear hN2
  go_wp2_with (refine wpList_new (op := ⟨some 4, _, _, _, _, _⟩) rfl 125 rfl (pdC pd0) zero_pdP N2 HN2.out ?_; intro w2 k1 b1 s1; refine Hid.out ?_)
  refine Lib.hid ?_
  have K4 := Lib.hid k1
  clear k1
  have le_HB_N2 : w.heap.size ≤ N2 := by rw [← HN2.out]; exact HB.out.size
  have HBn := Lib.hid (HB.out.trans (b1.mono HB.out.size))
  clear HB
  have HB := HBn
  clear HBn
  clear b1 HN2
  go_wp2_with (refine wpList_st rfl 125 (.tmp 4) (.tmp 10) rfl N2 0 rfl (.agg (pdC p)) (pdC p) rfl rfl info_pdP (pdC_one _) K4.out (Nat.le_of_ble_eq_true rfl) (C' := pdC p) (pd_over _ _) ?_; intro w20 q1; refine Hid.out ?_)
  refine Lib.hid ?_
  have HBn := Lib.hid (HB.out.trans (q1.2.1 _ (by omega)))
  clear HB
  have HB := HBn
  clear HBn
  have K4n : Hid (Blk 125 w20 N2 (pdC p)) := Lib.hid q1.1
  clear K4
  have K4 := K4n
  clear K4n q1
  obtain ⟨kd, hkd⟩ : ∃ k, z 4 = k := ⟨_, rfl⟩
  rw [hkd] at HQ HKD
  have c0 : w20.cell? ⟨N2, 0, none⟩ = some (.int .u8 kd) := (K4.out.cell 0).trans (by rw [pdC_0, HKD.out])
  clear hkd
  by_cases hk : kd = 18 ∨ kd = 20
  · have hq2 : q = 2 := by have := HQ.out; unfold cls at this; (repeat' split at this) <;> omega
    subst hq2
    obtain ⟨r1, r2, r3, r4⟩ := rd2 z
    have hli : p.li = (((numZ (fun j => z (10 + j)) 0 2).toNat : Nat) : Int) := by rw [← HP.out]; exact r2
    have hsq : p.sq = (numZ (fun j => z (20 + j)) 0 4).toNat := by rw [← HP.out]; exact r4
    have hid : p.id = fun j => z (12 + j) := by rw [← HP.out]; exact r3
    have HF := Lib.hid (And.intro hli (And.intro hsq hid))
    clear hli hsq hid r1 r2 r3 r4
    obtain ⟨y4, hy4⟩ : ∃ y, z 24 = y := ⟨_, rfl⟩
    obtain ⟨y5, hy5⟩ : ∃ y, z 25 = y := ⟨_, rfl⟩
    have by4 : 0 ≤ y4 ∧ y4 ≤ 255 := by rw [← hy4]; exact HZ.out 24
    have by5 : 0 ≤ y5 ∧ y5 ≤ 255 := by rw [← hy5]; exact HZ.out 25
    have HRc := Lib.hid (HR.out.below' HB.out)
    have c24 : w20.cell? ⟨b, off + 24, none⟩ = some (.int .u8 y4) := by rw [← hy4]; exact HRc.out.2.1 24 (by omega)
    have c25 : w20.cell? ⟨b, off + 25, none⟩ = some (.int .u8 y5) := by rw [← hy5]; exact HRc.out.2.1 25 (by omega)
    have HY := Lib.hid (And.intro hy4 hy5)
    clear hy4 hy5
    obtain ⟨su, hsu⟩ : ∃ s : Nat, (y4 * 256 + y5).toNat = s := ⟨_, rfl⟩
    have hsu2 : y4 * 256 + y5 = (su : Int) := by omega
    have HSU : Hid ((z 24 * 256 + z 25).toNat = su) := Lib.hid (by rw [HY.out.1, HY.out.2]; exact hsu)
    clear hsu
    have W4 := Lib.hid (w16 y4 (by omega))
    have W5 := Lib.hid (w16 y5 (by omega))
    have W6 := Lib.hid (w16 (y4 * 256) (by omega))
    have HOR := Lib.hid ((or16 y4 y5 by4 by5).trans hsu2)
    clear hsu2
    rcases hk with rfl | rfl
    · have h18 : ((18 : Int) != 18) = false := rfl
      go_wp2_with fail
      refine wp_region_held_drew (S := fun w' => Blk 125 w' N2 (pdC p) ∧ Row8 w' b off n z ∧ Below w.heap.size w w') (by kernel_rfl) ⟨K4.out, HRc.out, HB.out.drew⟩ (fun hS => ?_)
      generalize hW51 : w20.drew = W51 at hS  ⊢
      clear hW51
      clear K4
      clear HRc
      clear HB
      have K4 := Lib.hid hS.1
      have HRc := Lib.hid hS.2.1
      have HB := Lib.hid hS.2.2
      refine takeY (i := 0) (some 25) (v := .slice (some ⟨b, off, none⟩) n c) rfl rfl (by kernel_rfl) (by kernel_rfl) (by kernel_rfl) (fun _ _ _ h => h) (by rfl) (fun w' hS => by clear hS; go_simp) hS ?_
      simp only [Act.put, List.setIfInBounds_toArray, List.set_cons_zero, List.set_cons_succ]
      refine takeY (i := 1) (some 26) (v := .pointer (some ⟨b, off + 24, none⟩)) rfl rfl (by kernel_rfl) (by kernel_rfl) (by kernel_rfl) (fun _ _ _ h => h) (by rfl) (fun w' hS => by clear hS; go_simp) hS ?_
      simp only [Act.put, List.setIfInBounds_toArray, List.set_cons_zero, List.set_cons_succ]
      refine takeY (i := 2) (some 27) (v := .int .u8 y4) rfl rfl (by kernel_rfl) (by kernel_rfl) (by kernel_rfl) (fun _ _ _ h => h) (by rfl) (fun w' hS => by (have c9 : w'.cell? ⟨b, off + 24, none⟩ = some (.int .u8 y4) := (by rw [← HY.out.1]; exact hS.2.1.2.1 24 (by omega)); clear hS; go_simp)) hS ?_
      simp only [Act.put, List.setIfInBounds_toArray, List.set_cons_zero, List.set_cons_succ]
      refine takeY (i := 3) (some 28) (v := .int .u16 y4) rfl rfl (by kernel_rfl) (by kernel_rfl) (by kernel_rfl) (fun _ _ _ h => h) (by rfl) (fun w' hS => by clear hS; go_simp; exact W4.out) hS ?_
      simp only [Act.put, List.setIfInBounds_toArray, List.set_cons_zero, List.set_cons_succ]
      refine takeY (i := 4) (some 29) (v := .int .u16 (y4 * 256)) rfl rfl (by kernel_rfl) (by kernel_rfl) (by kernel_rfl) (fun _ _ _ h => h) (by rfl) (fun w' hS => by clear hS; go_simp; exact W6.out) hS ?_
      simp only [Act.put, List.setIfInBounds_toArray, List.set_cons_zero, List.set_cons_succ]
      refine takeY (i := 5) (some 30) (v := .slice (some ⟨b, off, none⟩) n c) rfl rfl (by kernel_rfl) (by kernel_rfl) (by kernel_rfl) (fun _ _ _ h => h) (by rfl) (fun w' hS => by clear hS; go_simp) hS ?_
      simp only [Act.put, List.setIfInBounds_toArray, List.set_cons_zero, List.set_cons_succ]
      refine takeY (i := 6) (some 31) (v := .pointer (some ⟨b, off + 25, none⟩)) rfl rfl (by kernel_rfl) (by kernel_rfl) (by kernel_rfl) (fun _ _ _ h => h) (by rfl) (fun w' hS => by clear hS; go_simp) hS ?_
      simp only [Act.put, List.setIfInBounds_toArray, List.set_cons_zero, List.set_cons_succ]
      refine takeY (i := 7) (some 32) (v := .int .u8 y5) rfl rfl (by kernel_rfl) (by kernel_rfl) (by kernel_rfl) (fun _ _ _ h => h) (by rfl) (fun w' hS => by (have c9 : w'.cell? ⟨b, off + 25, none⟩ = some (.int .u8 y5) := (by rw [← HY.out.2]; exact hS.2.1.2.1 25 (by omega)); clear hS; go_simp)) hS ?_
      simp only [Act.put, List.setIfInBounds_toArray, List.set_cons_zero, List.set_cons_succ]
      refine takeY (i := 8) (some 33) (v := .int .u16 y5) rfl rfl (by kernel_rfl) (by kernel_rfl) (by kernel_rfl) (fun _ _ _ h => h) (by rfl) (fun w' hS => by clear hS; go_simp; exact W5.out) hS ?_
      simp only [Act.put, List.setIfInBounds_toArray, List.set_cons_zero, List.set_cons_succ]
      refine takeY (i := 9) (some 34) (v := .int .u16 (su : Int)) rfl rfl (by kernel_rfl) (by kernel_rfl) (by kernel_rfl) (fun _ _ _ h => h) (by rfl) (fun w' hS => by clear hS; go_simp; exact HOR.out) hS ?_
      simp only [Act.put, List.setIfInBounds_toArray, List.set_cons_zero, List.set_cons_succ]
      refine takeY (i := 10) (some 6) (v := .int .u16 (su : Int)) rfl rfl (by kernel_rfl) (by kernel_rfl) (by kernel_rfl) (fun _ _ _ h => h) (by rfl) (fun w' hS => by clear hS; go_simp) hS ?_
      simp only [Act.put, List.setIfInBounds_toArray, List.set_cons_zero, List.set_cons_succ]
      clear hS
      refine wpAnyH_done (by kernel_rfl) ?_ _
      have HI : Hid (W51.rangeAt N2 20 (iC (idZ z)).toList) := Lib.hid (by
        rw [iC_z HZ.out]
        refine K4.out.range (eight8 ?_)
        have h := HF.out.2.2
        refine ⟨?_, ?_, ?_, ?_, ?_, ?_, ?_, ?_⟩
        · show some (Value.int .u8 (p.id 0)) = some (Value.int .u8 (z 12)); rw [h]
        · show some (Value.int .u8 (p.id 1)) = some (Value.int .u8 (z 13)); rw [h]
        · show some (Value.int .u8 (p.id 2)) = some (Value.int .u8 (z 14)); rw [h]
        · show some (Value.int .u8 (p.id 3)) = some (Value.int .u8 (z 15)); rw [h]
        · show some (Value.int .u8 (p.id 4)) = some (Value.int .u8 (z 16)); rw [h]
        · show some (Value.int .u8 (p.id 5)) = some (Value.int .u8 (z 17)); rw [h]
        · show some (Value.int .u8 (p.id 6)) = some (Value.int .u8 (z 18)); rw [h]
        · show some (Value.int .u8 (p.id 7)) = some (Value.int .u8 (z 19)); rw [h])
      have csq : W51.cell? ⟨N2, 28, none⟩ = some (.int .u32 (((numZ (fun j => z (20 + j)) 0 4).toNat : Nat) : Int)) := (K4.out.cell 28).trans (by show some (Value.int .u32 (p.sq : Int)) = _; rw [HF.out.2.1])
      have cli : W51.cell? ⟨N2, 19, none⟩ = some (.int .i64 (((numZ (fun j => z (10 + j)) 0 2).toNat : Nat) : Int)) := (K4.out.cell 19).trans (by show some (Value.int .i64 p.li) = _; rw [HF.out.1])
      obtain ⟨sq, hsq⟩ : ∃ s, (numZ (fun j => z (20 + j)) 0 4).toNat = s := ⟨_, rfl⟩
      obtain ⟨li, hli⟩ : ∃ s, (((numZ (fun j => z (10 + j)) 0 2).toNat : Nat) : Int) = s := ⟨_, rfl⟩
      rw [hsq] at csq
      rw [hli] at cli
      have HH : Hid (hdZ n z = ⟨idZ z, sq, li, su, n, z, 0⟩) := Lib.hid (by unfold hdZ; rw [hsq, hli, HSU.out])
      clear hsq hli
      go_wp2_with (refine wpList_v (op := ⟨some 36, _, _, _, _, _⟩) rfl (.agg (iC (idZ z))) (load_rng _ _ 28 _ rfl N2 20 rfl (iC (idZ z)).toList _ HI.out Try.underlying28 rfl info_iC) ?_; refine Hid.out ?_)
      refine Lib.hid ?_
      go_wp2_with (refine wpList_v (op := ⟨some 42, _, _, _, _, _⟩) rfl (.agg (enC ⟨dg (idZ z), sq, li, su⟩)) (build_enS _ _ _ _ _ _ rfl _ _ _ _ rfl rfl rfl rfl _) ?_; refine Hid.out ?_)
      refine Lib.hid ?_
      go_wp2_with (refine wpList_v (op := ⟨some 44, _, _, _, _, _⟩) rfl (.agg (hdC ⟨idZ z, sq, li, su, n, z, 0⟩ (some ⟨b, off, none⟩) c)) (build_hd _ _ _ _ rfl ⟨idZ z, sq, li, su, n, z, 0⟩ _ _ rfl rfl rfl _) ?_; refine Hid.out ?_)
      refine Lib.hid ?_
      obtain ⟨N81, hN81⟩ : ∃ N, W51.heap.size = N := ⟨_, rfl⟩
      have HN81 := Lib.hid hN81
      clear hN81
      go_wp2_with (refine wpList_box (op := ⟨some 45, _, _, _, _, _⟩) rfl 92 (.tmp 44) rfl (hdC ⟨idZ z, sq, li, su, n, z, 0⟩ (some ⟨b, off, none⟩) c) rfl N81 HN81.out ?_; intro w81 k1 b1 s1; refine Hid.out ?_)
      refine Lib.hid ?_
      have K45 := Lib.hid k1
      clear k1
      have lt_N2_N81 : N2 < N81 := by rw [← HN81.out]; exact K4.out.lt
      have lt_b_N81 : b < N81 := by rw [← HN81.out]; exact HRc.out.lt
      have le_HB_N81 : w.heap.size ≤ N81 := by rw [← HN81.out]; exact HB.out.size
      have K4n := Lib.hid (K4.out.below b1 K4.out.lt)
      clear K4
      have K4 := K4n
      clear K4n
      have HRcn := Lib.hid (HRc.out.below b1 HRc.out.lt)
      clear HRc
      have HRc := HRcn
      clear HRcn
      have HBn := Lib.hid (HB.out.trans (b1.mono HB.out.size))
      clear HB
      have HB := HBn
      clear HBn
      clear b1 HN81
      go_wp2_with fail
      refine bodyPost_ret (v := .tuple #[.pointer (some ⟨N81, 0, none⟩), .int .i64 0]) (by simp [results, Try.f39, go_sem]) rfl ?_
      exact ⟨N81, rfl, le_HB_N81, by rw [HH.out]; exact K45.out, HB.out⟩
    · have h18 : ((20 : Int) != 18) = true := rfl
      go_wp2_with fail
      refine wp_region_held_drew (S := fun w' => Blk 125 w' N2 (pdC p) ∧ Row8 w' b off n z ∧ Below w.heap.size w w') (by kernel_rfl) ⟨K4.out, HRc.out, HB.out.drew⟩ (fun hS => ?_)
      generalize hW51 : w20.drew = W51 at hS  ⊢
      clear hW51
      clear K4
      clear HRc
      clear HB
      have K4 := Lib.hid hS.1
      have HRc := Lib.hid hS.2.1
      have HB := Lib.hid hS.2.2
      refine takeY (i := 0) (some 25) (v := .slice (some ⟨b, off, none⟩) n c) rfl rfl (by kernel_rfl) (by kernel_rfl) (by kernel_rfl) (fun _ _ _ h => h) (by rfl) (fun w' hS => by clear hS; go_simp) hS ?_
      simp only [Act.put, List.setIfInBounds_toArray, List.set_cons_zero, List.set_cons_succ]
      refine takeY (i := 1) (some 26) (v := .pointer (some ⟨b, off + 24, none⟩)) rfl rfl (by kernel_rfl) (by kernel_rfl) (by kernel_rfl) (fun _ _ _ h => h) (by rfl) (fun w' hS => by clear hS; go_simp) hS ?_
      simp only [Act.put, List.setIfInBounds_toArray, List.set_cons_zero, List.set_cons_succ]
      refine takeY (i := 2) (some 27) (v := .int .u8 y4) rfl rfl (by kernel_rfl) (by kernel_rfl) (by kernel_rfl) (fun _ _ _ h => h) (by rfl) (fun w' hS => by (have c9 : w'.cell? ⟨b, off + 24, none⟩ = some (.int .u8 y4) := (by rw [← HY.out.1]; exact hS.2.1.2.1 24 (by omega)); clear hS; go_simp)) hS ?_
      simp only [Act.put, List.setIfInBounds_toArray, List.set_cons_zero, List.set_cons_succ]
      refine takeY (i := 3) (some 28) (v := .int .u16 y4) rfl rfl (by kernel_rfl) (by kernel_rfl) (by kernel_rfl) (fun _ _ _ h => h) (by rfl) (fun w' hS => by clear hS; go_simp; exact W4.out) hS ?_
      simp only [Act.put, List.setIfInBounds_toArray, List.set_cons_zero, List.set_cons_succ]
      refine takeY (i := 4) (some 29) (v := .int .u16 (y4 * 256)) rfl rfl (by kernel_rfl) (by kernel_rfl) (by kernel_rfl) (fun _ _ _ h => h) (by rfl) (fun w' hS => by clear hS; go_simp; exact W6.out) hS ?_
      simp only [Act.put, List.setIfInBounds_toArray, List.set_cons_zero, List.set_cons_succ]
      refine takeY (i := 5) (some 30) (v := .slice (some ⟨b, off, none⟩) n c) rfl rfl (by kernel_rfl) (by kernel_rfl) (by kernel_rfl) (fun _ _ _ h => h) (by rfl) (fun w' hS => by clear hS; go_simp) hS ?_
      simp only [Act.put, List.setIfInBounds_toArray, List.set_cons_zero, List.set_cons_succ]
      refine takeY (i := 6) (some 31) (v := .pointer (some ⟨b, off + 25, none⟩)) rfl rfl (by kernel_rfl) (by kernel_rfl) (by kernel_rfl) (fun _ _ _ h => h) (by rfl) (fun w' hS => by clear hS; go_simp) hS ?_
      simp only [Act.put, List.setIfInBounds_toArray, List.set_cons_zero, List.set_cons_succ]
      refine takeY (i := 7) (some 32) (v := .int .u8 y5) rfl rfl (by kernel_rfl) (by kernel_rfl) (by kernel_rfl) (fun _ _ _ h => h) (by rfl) (fun w' hS => by (have c9 : w'.cell? ⟨b, off + 25, none⟩ = some (.int .u8 y5) := (by rw [← HY.out.2]; exact hS.2.1.2.1 25 (by omega)); clear hS; go_simp)) hS ?_
      simp only [Act.put, List.setIfInBounds_toArray, List.set_cons_zero, List.set_cons_succ]
      refine takeY (i := 8) (some 33) (v := .int .u16 y5) rfl rfl (by kernel_rfl) (by kernel_rfl) (by kernel_rfl) (fun _ _ _ h => h) (by rfl) (fun w' hS => by clear hS; go_simp; exact W5.out) hS ?_
      simp only [Act.put, List.setIfInBounds_toArray, List.set_cons_zero, List.set_cons_succ]
      refine takeY (i := 9) (some 34) (v := .int .u16 (su : Int)) rfl rfl (by kernel_rfl) (by kernel_rfl) (by kernel_rfl) (fun _ _ _ h => h) (by rfl) (fun w' hS => by clear hS; go_simp; exact HOR.out) hS ?_
      simp only [Act.put, List.setIfInBounds_toArray, List.set_cons_zero, List.set_cons_succ]
      refine takeY (i := 10) (some 6) (v := .int .u16 (su : Int)) rfl rfl (by kernel_rfl) (by kernel_rfl) (by kernel_rfl) (fun _ _ _ h => h) (by rfl) (fun w' hS => by clear hS; go_simp) hS ?_
      simp only [Act.put, List.setIfInBounds_toArray, List.set_cons_zero, List.set_cons_succ]
      clear hS
      refine wpAnyH_done (by kernel_rfl) ?_ _
      have HI : Hid (W51.rangeAt N2 20 (iC (idZ z)).toList) := Lib.hid (by
        rw [iC_z HZ.out]
        refine K4.out.range (eight8 ?_)
        have h := HF.out.2.2
        refine ⟨?_, ?_, ?_, ?_, ?_, ?_, ?_, ?_⟩
        · show some (Value.int .u8 (p.id 0)) = some (Value.int .u8 (z 12)); rw [h]
        · show some (Value.int .u8 (p.id 1)) = some (Value.int .u8 (z 13)); rw [h]
        · show some (Value.int .u8 (p.id 2)) = some (Value.int .u8 (z 14)); rw [h]
        · show some (Value.int .u8 (p.id 3)) = some (Value.int .u8 (z 15)); rw [h]
        · show some (Value.int .u8 (p.id 4)) = some (Value.int .u8 (z 16)); rw [h]
        · show some (Value.int .u8 (p.id 5)) = some (Value.int .u8 (z 17)); rw [h]
        · show some (Value.int .u8 (p.id 6)) = some (Value.int .u8 (z 18)); rw [h]
        · show some (Value.int .u8 (p.id 7)) = some (Value.int .u8 (z 19)); rw [h])
      have csq : W51.cell? ⟨N2, 28, none⟩ = some (.int .u32 (((numZ (fun j => z (20 + j)) 0 4).toNat : Nat) : Int)) := (K4.out.cell 28).trans (by show some (Value.int .u32 (p.sq : Int)) = _; rw [HF.out.2.1])
      have cli : W51.cell? ⟨N2, 19, none⟩ = some (.int .i64 (((numZ (fun j => z (10 + j)) 0 2).toNat : Nat) : Int)) := (K4.out.cell 19).trans (by show some (Value.int .i64 p.li) = _; rw [HF.out.1])
      obtain ⟨sq, hsq⟩ : ∃ s, (numZ (fun j => z (20 + j)) 0 4).toNat = s := ⟨_, rfl⟩
      obtain ⟨li, hli⟩ : ∃ s, (((numZ (fun j => z (10 + j)) 0 2).toNat : Nat) : Int) = s := ⟨_, rfl⟩
      rw [hsq] at csq
      rw [hli] at cli
      have HH : Hid (hdZ n z = ⟨idZ z, sq, li, su, n, z, 0⟩) := Lib.hid (by unfold hdZ; rw [hsq, hli, HSU.out])
      clear hsq hli
      go_wp2_with (refine wpList_v (op := ⟨some 36, _, _, _, _, _⟩) rfl (.agg (iC (idZ z))) (load_rng _ _ 28 _ rfl N2 20 rfl (iC (idZ z)).toList _ HI.out Try.underlying28 rfl info_iC) ?_; refine Hid.out ?_)
      refine Lib.hid ?_
      go_wp2_with (refine wpList_v (op := ⟨some 42, _, _, _, _, _⟩) rfl (.agg (enC ⟨dg (idZ z), sq, li, su⟩)) (build_enS _ _ _ _ _ _ rfl _ _ _ _ rfl rfl rfl rfl _) ?_; refine Hid.out ?_)
      refine Lib.hid ?_
      go_wp2_with (refine wpList_v (op := ⟨some 44, _, _, _, _, _⟩) rfl (.agg (hdC ⟨idZ z, sq, li, su, n, z, 0⟩ (some ⟨b, off, none⟩) c)) (build_hd _ _ _ _ rfl ⟨idZ z, sq, li, su, n, z, 0⟩ _ _ rfl rfl rfl _) ?_; refine Hid.out ?_)
      refine Lib.hid ?_
      obtain ⟨N81, hN81⟩ : ∃ N, W51.heap.size = N := ⟨_, rfl⟩
      have HN81 := Lib.hid hN81
      clear hN81
      go_wp2_with (refine wpList_box (op := ⟨some 45, _, _, _, _, _⟩) rfl 92 (.tmp 44) rfl (hdC ⟨idZ z, sq, li, su, n, z, 0⟩ (some ⟨b, off, none⟩) c) rfl N81 HN81.out ?_; intro w81 k1 b1 s1; refine Hid.out ?_)
      refine Lib.hid ?_
      have K45 := Lib.hid k1
      clear k1
      have lt_N2_N81 : N2 < N81 := by rw [← HN81.out]; exact K4.out.lt
      have lt_b_N81 : b < N81 := by rw [← HN81.out]; exact HRc.out.lt
      have le_HB_N81 : w.heap.size ≤ N81 := by rw [← HN81.out]; exact HB.out.size
      have K4n := Lib.hid (K4.out.below b1 K4.out.lt)
      clear K4
      have K4 := K4n
      clear K4n
      have HRcn := Lib.hid (HRc.out.below b1 HRc.out.lt)
      clear HRc
      have HRc := HRcn
      clear HRcn
      have HBn := Lib.hid (HB.out.trans (b1.mono HB.out.size))
      clear HB
      have HB := HBn
      clear HBn
      clear b1 HN81
      go_wp2_with fail
      refine bodyPost_ret (v := .tuple #[.pointer (some ⟨N81, 0, none⟩), .int .i64 0]) (by simp [results, Try.f39, go_sem]) rfl ?_
      exact ⟨N81, rfl, le_HB_N81, by rw [HH.out]; exact K45.out, HB.out⟩
  · have hq2 : q ≠ 2 := fun e => hk (by have := HQ.out; rw [e] at this; unfold cls at this; (repeat' split at this) <;> omega)
    have HQ2 := Lib.hid hq2
    clear hq2
    have h18 : (kd != 18) = true := by simp; omega
    have h20 : (kd != 20) = true := by simp; omega
    clear hk
    go_wp2_with fail
    refine bodyPost_ret (v := .tuple #[.pointer none, .int .i64 3]) (by simp [results, Try.f39, go_sem]) rfl ?_
    exact .inr ⟨HQ2.out, rfl, HB.out⟩
end Go.Proofs.Ytkiaijmhoikdiaa

/- A store in memory: New, Len, least, Put. Each theorem states its conditions. -/
namespace Go.Proofs.Ytkiaijmhoikdiaa
open Go.RowKit Go.MapKept
set_option linter.unusedVariables false
set_option linter.unusedSimpArgs false

def stC (b : Nat) (r : Bool) : Array Value := #[.map (some b), .bool r]
/-- a store at s: its map at b; what it holds; how many; has it refused? -/
structure StAt (w : World) (B s b : Nat) (H : Nat → Option Hd) (k : Nat) (r : Bool) : Prop where
  hs : B ≤ s
  hb : B ≤ b
  blk : Blk 79 w s (stC b r)
  map : ∃ M, MapAt w b M k ∧ (∀ i, M i = none ↔ H i = none) ∧ (∀ i g h, M i = some g → H i = some h → HdAt w B g h ∧ h.id = i ∧ (27 ≤ h.n ∧ h.n ≤ 1492) ∧ (∀ j, 0 ≤ h.z j ∧ h.z j ≤ 255)) ∧ ∀ i j g, M i = some g → M j = some g → i = j
/-- nothing that was there has turned but blocks s and b -/
structure Fr (w w' : World) (s b : Nat) : Prop where
  os : w'.os = w.os
  tape : w'.tape = w.tape
  output : w'.output = w.output
  size : w.heap.size ≤ w'.heap.size
  block : ∀ i, i < w.heap.size → i ≠ s → i ≠ b → w'.heap[i]? = w.heap[i]?
theorem Fr.below {w w' : World} {s b B : Nat} (h : Fr w w' s b) (hs : B ≤ s) (hb : B ≤ b) (hB : B ≤ w.heap.size) : Below B w w' :=
  ⟨h.os, h.tape, h.output, h.size, fun i hi => h.block i (by omega) (by omega) (by omega)⟩
theorem Fr.of_below {w w' : World} (s b : Nat) (h : Below w.heap.size w w') : Fr w w' s b := ⟨h.os, h.tape, h.output, h.size, fun i hi _ _ => h.block i hi⟩
theorem Fr.trans {w w1 w2 : World} {s b : Nat} (h : Fr w w1 s b) (k : Fr w1 w2 s b) : Fr w w2 s b :=
  ⟨k.os.trans h.os, k.tape.trans h.tape, k.output.trans h.output, Nat.le_trans h.size k.size, fun i hi h1 h2 => (k.block i (Nat.lt_of_lt_of_le hi h.size) h1 h2).trans (h.block i hi h1 h2)⟩
theorem Fr.turn {w w' : World} {s b : Nat} (h : Turn w w' b) : Fr w w' s b := by
  have hg := h.grown
  exact ⟨hg.os, hg.tape, hg.output, hg.size, fun i hi _ h2 => hg.block i hi (fun e => h2 (by cases e; rfl))⟩
section
variable {w w' : World} {B s b k : Nat} {H : Nat → Option Hd} {r : Bool}
theorem StAt.lt (h : StAt w B s b H k r) : s < w.heap.size := h.blk.lt
theorem StAt.ltb (h : StAt w B s b H k r) : b < w.heap.size := by obtain ⟨M, h1, _⟩ := h.map; exact h1.lt
theorem StAt.ltB (h : StAt w B s b H k r) : B ≤ w.heap.size := Nat.le_of_lt (Nat.lt_of_le_of_lt h.hs h.lt)
theorem StAt.ne (h : StAt w B s b H k r) : s ≠ b := by
  rintro rfl
  obtain ⟨M, ⟨es, c, h1, _⟩, _⟩ := h.map
  have h2 : w.heap[s]? = _ := h.blk
  rw [h1] at h2
  cases h2
theorem StAt.below (h : StAt w B s b H k r) (hb : Below w.heap.size w w') : StAt w' B s b H k r := by
  obtain ⟨h1, h2, h3, M, h4, h5, h6, h7⟩ := h
  exact ⟨h1, h2, h3.below hb h3.lt, M, h4.below hb h4.lt, h5, fun i g x e1 e2 => by obtain ⟨a, c⟩ := h6 i g x e1 e2; exact ⟨a.below hb, c⟩, h7⟩
theorem HdAt.fr {g : Nat} {h : Hd} {s b : Nat} (k : HdAt w B g h) (hs : Blk 79 w s (stC b r)) (hm : ∃ es c, w.heap[b]? = some (.map es c)) (hf : Fr w w' s b) : HdAt w' B g h := by
  obtain ⟨h1, ro, oa, c, h2, h3, h4⟩ := k
  obtain ⟨es, cl, hm⟩ := hm
  have hgs : g ≠ s := by
    rintro rfl
    have e1 : w.heap[g]? = _ := h2
    have e2 : w.heap[g]? = _ := hs
    rw [e1] at e2
    injection e2 with e2
    injection e2 with _ e2 _
    exact absurd e2 (by decide)
  have hgb : g ≠ b := by
    rintro rfl
    have e1 : w.heap[g]? = _ := h2
    rw [hm] at e1
    cases e1
  obtain ⟨cur, hc⟩ := h3.2
  have hrs : ro ≠ s := by
    rintro rfl
    have e2 : w.heap[ro]? = _ := hs
    rw [hc] at e2
    injection e2 with e2
    injection e2 with _ e2 _
    exact absurd e2 (by decide)
  have hrb : ro ≠ b := by
    rintro rfl
    rw [hm] at hc
    cases hc
  exact ⟨h1, ro, oa, c, (hf.block g h2.lt hgs hgb).trans h2, h3.block (hf.block ro h3.lt hrs hrb), h4⟩
end
theorem MapAt.far {w w' : World} {b k c : Nat} {M : Nat → Option Nat} {C : Array Value} {t : TypeId} (h : MapAt w b M k) (hs : Stored w w' c C t) (hk : b ≠ c) : MapAt w' b M k := h.at (hs.2.2 b hk)
theorem build_st (o : Oper) (e : Operand → Value) (x : Operand) (ho : o.op = .build 79 #[(0, x)]) (b : Nat) (h0 : e x = .map (some b)) (W : World) : (execOp e o).run Try.prog W = .ok (.value (.agg (stC b false))) W := by
  unfold execOp
  simp only [ho]
  simp only [List.map_toArray, List.map_cons, List.map_nil, h0]
  kernel_rfl
theorem mm_run (o : Oper) (e : Operand → Value) (ho : o.op = .makeMap 77 none) (W : World) : (execOp e o).run Try.prog W = .ok (.value (.map (some W.heap.size))) (W.alloc (.map #[] 0)) := by
  unfold execOp
  simp only [ho]
  rfl
def noH : Nat → Option Hd := fun _ => none
/-- New -/
def NewP (w : World) (e : Ending) (w' : World) : Prop := ∃ s b, e = .returned (.pointer (some ⟨s, 0, none⟩)) ∧ StAt w' w.heap.size s b noH 0 false ∧ Below w.heap.size w w'
set_option maxHeartbeats 4000000 in
set_option maxRecDepth 100000 in
theorem new_any (w : World) : Calls Try.prog 9 #[] w (NewP w) := by
  go_enter Try.func9, Try.ntmps9
  have HB := Lib.hid (Below.refl w.heap.size w)
  obtain ⟨N0, hN0⟩ : ∃ N, w.heap.size = N := ⟨_, rfl⟩
  obtain ⟨w1, hw1⟩ : ∃ x, w.alloc (.map #[] 0) = x := ⟨_, rfl⟩
  have HM : Hid (MapAt w1 N0 (fun _ => none) 0) := Lib.hid (by rw [← hw1, ← hN0]; exact MapAt.new w)
  have HB1 : Hid (Below w.heap.size w w1) := Lib.hid (by rw [← hw1]; exact (Below.refl _ _).alloc (Nat.le_refl _) _)
  have HR : Hid (∀ (o : Oper) (e : Operand → Value) (ho : o.op = .makeMap 77 none), (execOp e o).run Try.prog w = .ok (.value (.map (some N0))) w1) := Lib.hid (fun o e ho => by rw [← hw1, ← hN0]; exact mm_run o e ho w)
  have HN0 := Lib.hid hN0
  clear hN0 hw1 HB
  go_wp2_with (refine wpList_v (op := ⟨some 1, _, _, _, _, _⟩) rfl (.map (some N0)) (HR.out _ _ rfl) ?_; refine Hid.out ?_)
  refine Lib.hid ?_
  go_wp2_with (refine wpList_v (op := ⟨some 2, _, _, _, _, _⟩) rfl (.agg (stC N0 false)) (build_st _ _ _ rfl N0 rfl _) ?_; refine Hid.out ?_)
  refine Lib.hid ?_
  obtain ⟨N1, hN1⟩ : ∃ N, w1.heap.size = N := ⟨_, rfl⟩
  have HN1 := Lib.hid hN1
  clear hN1
  go_wp2_with (refine wpList_box (op := ⟨some 3, _, _, _, _, _⟩) rfl 79 (.tmp 2) rfl (stC N0 false) rfl N1 HN1.out ?_; intro w2 k1 b1 s1; refine Hid.out ?_)
  refine Lib.hid ?_
  have HK := Lib.hid k1
  have HB2 := Lib.hid b1
  clear k1 b1 s1
  go_wp2_with fail
  go_ret
  exact ⟨N1, N0, rfl, ⟨by rw [← HN1.out]; exact HB1.out.size, by rw [HN0.out]; exact Nat.le_refl _, HK.out, _, HM.out.below HB2.out HM.out.lt, fun i => ⟨fun _ => rfl, fun _ => rfl⟩, fun i g h e1 _ => (by cases e1), fun i j g e1 _ => (by cases e1)⟩, HB1.out.trans (HB2.out.mono HB1.out.size)⟩
theorem len_run (o : Oper) (e : Operand → Value) (x : Operand) (ho : o.op = .call { callee := .builtin .len, args := #[x], argTypes := #[77] }) {w : World} {b k : Nat} {M : Nat → Option Nat} (h : MapAt w b M k) (h0 : e x = .map (some b)) : (execOp e o).run Try.prog w = .ok (.value (.int .i64 (k : Int))) w := by
  unfold execOp
  simp only [ho]
  simp [resolve, invoke, builtin, h0, map_len h, Result.andThen]
theorem look_run (o : Oper) (e : Operand → Value) (m x : Operand) (ho : o.op = .lookup 77 m x true) {w : World} {b k n : Nat} {M : Nat → Option Nat} (h : MapAt w b M k) (hn : IdOk n) (h0 : e m = .map (some b)) (h1 : e x = .agg (iC n)) : (execOp e o).run Try.prog w = .ok (.value (.tuple #[ptrV (M n), .bool (M n).isSome])) w := by
  unfold execOp
  simp only [ho]
  simp [h0, h1, map_look h hn, Result.andThen]
theorem put_run (o : Oper) (e : Operand → Value) (m x v : Operand) (ho : o.op = .mapUpdate 77 m x v) {w : World} {b k n g : Nat} {M : Nat → Option Nat} (h : MapAt w b M k) (hn : IdOk n) (h0 : e m = .map (some b)) (h1 : e x = .agg (iC n)) (h2 : e v = .pointer (some ⟨g, 0, none⟩)) :
    ∃ w', (execOp e o).run Try.prog w = .ok .skip w' ∧ MapAt w' b (putM M n (some g)) (if (M n).isSome then k else k + 1) ∧ Turn w w' b := by
  obtain ⟨w', h3, h4, h5⟩ := map_put h hn g
  refine ⟨w', ?_, h4, h5⟩
  unfold execOp
  simp only [ho]
  simp only [ptrV] at h3
  simp [h0, h1, h2, h3, Result.andThen]
set_option maxHeartbeats 4000000 in
set_option maxRecDepth 100000 in
theorem stLen_any {w : World} {B s b k : Nat} {H : Nat → Option Hd} {r : Bool} (h : StAt w B s b H k r) : Calls Try.prog 23 #[.pointer (some ⟨s, 0, none⟩)] w fun e w' => e = .returned (.int .i64 (k : Int)) ∧ w' = w := by
  obtain ⟨M, hM, _⟩ := h.map
  have c0 : w.cell? ⟨s, 0, none⟩ = some (.map (some b)) := (h.blk.cell 0).trans rfl
  have HM := Lib.hid hM
  clear h hM
  go_enter Try.func23, Try.ntmps23
  go_wp2_with (refine wpList_v (op := ⟨some 9, _, _, _, _, _⟩) rfl (.int .i64 (k : Int)) (len_run _ _ _ rfl HM.out rfl) ?_; refine Hid.out ?_)
  refine Lib.hid ?_
  go_wp2_with fail
  go_ret
  exact ⟨rfl, rfl⟩
set_option maxHeartbeats 4000000 in
set_option maxRecDepth 100000 in
theorem cloneB2 (b off n c : Nat) (z : Nat → Int) (w : World) (hr : Row8 w b off n z) (hn : n ≤ 2000) :
    Calls Try.prog 42 #[.slice (some ⟨b, off, none⟩) n c] w fun e w' => ∃ v, e = .returned v ∧ OwnB w' w.heap.size v n z ∧ Below w.heap.size w w' := by
  have HR := Lib.hid hr
  clear hr
  have hq : ∀ W : World, (binOp BinOp.eql 43 (Value.slice (some ⟨b, off, none⟩) n c) (Value.slice none 0 0)).run Try.prog W = .ok (.bool false) W := fun W => by kernel_rfl
  have HM := Lib.hid (made_b w w (bself w))
  have HB := Lib.hid ((bself w).alloc (Nat.le_refl _) (.cells #[] 5))
  have HDD : Hid (Rd (w.alloc (.cells #[] 5)) (some ⟨b, off, none⟩) n z) := Lib.hid (Rd.below ⟨.inr ⟨b, off, rfl, HR.out⟩, HR.out.2.2⟩ HB.out rfl)
  go_enter Try.func42, Try.ntmps42
  go_wp2_with (first
    | (at_builtin; refine app_s rfl (.tmp 5) (.tmp 6) rfl w (.slice (some ⟨w.heap.size, 0, none⟩) 0 0) 0 [] rfl HM.out HB.out ⟨b, off, none⟩ n c (vals z n) rfl (vals_len _ _) (rd_newsB HDD.out) (vals_one _ _) (by omega) ?_; intro v2 w2 ho2 hb2 hs2 hk2))
  rw [Nat.zero_add, List.nil_append] at ho2
  go_ret
  exact ⟨_, rfl, ⟨ho2, HR.out.2.2⟩, hb2⟩
theorem takeMu {ops : Array Oper} {Q : Exit → Act → World → Prop} {md : Region.Mode} {S : World → Prop} {i : Nat} {oi : Oper} {fuel : Nat} {listed : Array Bool} {a : Act} {w : World} (m x v : Operand) (hi : ops[i]? = some oi) (hd : oi.dst = none)
    (hr : Region.ready md ops listed = [i]) (hw : Region.wanted oi (yielded ops a.tmps) = true) (ho : oi.op = .mapUpdate 77 m x v) {b k n g : Nat} {M : Nat → Option Nat} (hM : MapAt w b M k) (hn : IdOk n) (h0 : a.eval m = .map (some b)) (h1 : a.eval x = .agg (iC n)) (h2 : a.eval v = .pointer (some ⟨g, 0, none⟩))
    (h : ∀ w', MapAt w' b (putM M n (some g)) (if (M n).isSome then k else k + 1) → Turn w w' b → S w' ∧ wpAnyH Try.prog md ops Q S fuel (listed.setIfInBounds i true) (a.put none undef) w') : wpAnyH Try.prog md ops Q S (fuel + 1) listed a w := by
  obtain ⟨w', hx', h3, h4⟩ := put_run oi a.eval m x v ho hM hn h0 h1 h2
  exact takeW hi hd hr hw hx' (h w' h3 h4).1 (h w' h3 h4).2
theorem hd_id {w : World} {g : Nat} {h : Hd} {A : Option Addr} {c : Nat} (k : Blk 92 w g (hdC h A c)) : w.rangeAt g 0 (iC h.id).toList := k.range (eight8 ⟨rfl, rfl, rfl, rfl, rfl, rfl, rfl, rfl⟩)
theorem one_b (b : Bool) : (#[Value.bool b] : Array Value).all (·.oneCell') = true := by cases b <;> kernel_rfl
theorem info_bl : (Try.prog.info? 4).map (·.size) = some 1 := by kernel_rfl
theorem one_sl {A : Option Addr} {n c : Nat} : (#[Value.slice A n c] : Array Value).all (·.oneCell') = true := by kernel_rfl
theorem info_bs1 : (Try.prog.info? 43).map (·.size) = some 1 := by kernel_rfl
theorem st_ref (b : Nat) (r : Bool) : putMany (stC b r) 1 [.bool true] = stC b true := by kernel_rfl
theorem hd_put (h : Hd) (A A' : Option Addr) (c c' : Nat) : putMany (hdC h A c) 11 [.slice A' h.n c'] = hdC h A' c' := by kernel_rfl
def putH (H : Nat → Option Hd) (t : Hd) : Nat → Option Hd := fun i => if i = t.id then some t else H i
/-- what Put leaves of bytes that tell t -/
def PutP (w : World) (B s b : Nat) (H : Nat → Option Hd) (k : Nat) (r : Bool) (t : Hd) (e : Ending) (w' : World) : Prop :=
  ∃ x E : Int, e = .returned (.tuple #[.int .i64 x, .int .i64 E]) ∧ Fr w w' s b ∧
  ((H t.id = none ∧ k < 512 ∧ x = 1 ∧ E = 0 ∧ StAt w' B s b (putH H t) (k + 1) r) ∨ (H t.id = none ∧ 512 ≤ k ∧ x = 0 ∧ E = 10 ∧ StAt w' B s b H k true) ∨
   (∃ h, H t.id = some h ∧ relH t h ≤ 0 ∧ x = relH t h ∧ E = 0 ∧ StAt w' B s b H k r) ∨ (∃ h, H t.id = some h ∧ 0 < relH t h ∧ x = 1 ∧ E = 0 ∧ StAt w' B s b (putH H t) k r))
theorem hdZ_f (n : Nat) (z : Nat → Int) : (hdZ n z).id = idZ z ∧ (hdZ n z).n = n ∧ (hdZ n z).z = z ∧ (hdZ n z).pu = 0 := ⟨rfl, rfl, rfl, rfl⟩
/-- the store with another one at its place -/
theorem st_put {w w' : World} {B s b k g k' : Nat} {H : Nat → Option Hd} {r : Bool} {M : Nat → Option Nat} {t : Hd} (hst : StAt w B s b H k r) (hM : MapAt w b M k) (hMH : ∀ i, M i = none ↔ H i = none)
    (hMA : ∀ i g h, M i = some g → H i = some h → HdAt w B g h ∧ h.id = i ∧ (27 ≤ h.n ∧ h.n ≤ 1492) ∧ (∀ j, 0 ≤ h.z j ∧ h.z j ≤ 255)) (hMI : ∀ i j g, M i = some g → M j = some g → i = j)
    (hg : w.heap.size ≤ g) (hn : 27 ≤ t.n ∧ t.n ≤ 1492) (hz : ∀ j, 0 ≤ t.z j ∧ t.z j ≤ 255) (hf : Fr w w' s b) (hs : Blk 79 w' s (stC b r)) (hm : MapAt w' b (putM M t.id (some g)) k') (hh : HdAt w' B g t) : StAt w' B s b (putH H t) k' r := by
  refine ⟨hst.hs, hst.hb, hs, _, hm, fun i => ?_, fun i g' h e1 e2 => ?_, fun i j g' e1 e2 => ?_⟩
  · unfold putM putH
    by_cases e : i = t.id
    · rw [if_pos e, if_pos e]; simp
    · rw [if_neg e, if_neg e]; exact hMH i
  · unfold putM at e1
    unfold putH at e2
    by_cases e : i = t.id
    · rw [if_pos e] at e1 e2
      cases e1; cases e2
      exact ⟨hh, e.symm, hn, hz⟩
    · rw [if_neg e] at e1 e2
      obtain ⟨a, c⟩ := hMA i g' h e1 e2
      refine ⟨a.fr hst.blk ?_ hf, c⟩
      obtain ⟨es, cl, hb, _⟩ := hM
      exact ⟨es, cl, hb⟩
  · unfold putM at e1 e2
    have key : ∀ i, M i = some g' → g' < w.heap.size := fun i e => by
      cases hH : H i with
      | none => rw [(hMH i).2 hH] at e; cases e
      | some h => exact (hMA i g' h e hH).1.lt
    by_cases e : i = t.id
    · by_cases e' : j = t.id
      · rw [e, e']
      · rw [if_pos e] at e1; rw [if_neg e'] at e2
        cases e1
        have := key j e2
        omega
    · by_cases e' : j = t.id
      · rw [if_neg e] at e1; rw [if_pos e'] at e2
        cases e2
        have := key i e1
        omega
      · rw [if_neg e] at e1; rw [if_neg e'] at e2
        exact hMI i j g' e1 e2
/-- the store as it was -/
theorem st_same {w w' : World} {B s b k : Nat} {H : Nat → Option Hd} {r : Bool} (hst : StAt w B s b H k r) (hb : Below w.heap.size w w') : StAt w' B s b H k r ∧ Fr w w' s b := ⟨hst.below hb, Fr.of_below s b hb⟩
theorem st_full {w w' : World} {B s b k : Nat} {H : Nat → Option Hd} {r r' : Bool} (hst : StAt w B s b H k r) (hf : Fr w w' s b) (hs : Blk 79 w' s (stC b r')) (hm : w'.heap[b]? = w.heap[b]?) : StAt w' B s b H k r' := by
  obtain ⟨h1, h2, h3, M, h4, h5, h6, h7⟩ := hst
  refine ⟨h1, h2, hs, M, h4.at hm, h5, fun i g x e1 e2 => ?_, h7⟩
  obtain ⟨a, c⟩ := h6 i g x e1 e2
  refine ⟨a.fr h3 ?_ hf, c⟩
  obtain ⟨es, cl, hb, _⟩ := h4
  exact ⟨es, cl, hb⟩
set_option maxHeartbeats 40000000 in
set_option maxRecDepth 100000 in
theorem put_yes (A : Option Addr) (n c : Nat) (z : Nat → Int) (m B s b k : Nat) (H : Nat → Option Hd) (r : Bool) (w : World) (hst : StAt w B s b H k r) (hk : k ≤ 512) (hq : cls (z 4) = 2) (hn : 27 ≤ n ∧ n ≤ 1492) (hB : Rd w A n z) (hc : n ≤ c) (hcm : c ≤ maxLen) (hrd : Calls Try.prog 65 #[.slice A n c] w (RdOk w 2 z m)) :
    Calls Try.prog 14 #[.pointer (some ⟨s, 0, none⟩), .slice A n c] w (PutP w B s b H k r (hdZ n z)) := by
  have HRD := Lib.hid (read_yes A n c z 2 m w hq hn.1 hB hc hcm hrd)
  obtain ⟨ba, oa, rfl, hra⟩ := hB.row (by omega)
  have HRA := Lib.hid hra
  have HN := Lib.hid hn
  have HC := Lib.hid (And.intro hc hcm)
  have HST := Lib.hid hst
  obtain ⟨M, hM, hMH, hMA, hMI⟩ := hst.map
  have HMH := Lib.hid hMH
  have HMA := Lib.hid hMA
  have HMI := Lib.hid hMI
  have KS := Lib.hid hst.blk
  have KM := Lib.hid hM
  have KM0 := Lib.hid hM
  have HNE := Lib.hid hst.ne
  obtain ⟨t, ht⟩ : ∃ t, hdZ n z = t := ⟨_, rfl⟩
  have HT := Lib.hid (show t.id = idZ z ∧ t.n = n ∧ t.z = z ∧ t.pu = 0 by rw [← ht]; exact hdZ_f n z)
  have HID : Hid (IdOk t.id) := Lib.hid (by rw [HT.out.1]; exact idZ_bd z hra.2.2)
  have HRD2 : Hid (Calls Try.prog 39 #[.slice (some ⟨ba, oa, none⟩) n c] w (fun e w' => ∃ g, e = .returned (.tuple #[.pointer (some ⟨g, 0, none⟩), .int .i64 0]) ∧ w.heap.size ≤ g ∧ Blk 92 w' g (hdC t (some ⟨ba, oa, none⟩) c) ∧ Below w.heap.size w w')) := Lib.hid (HRD.out.mono fun e w' h => by
    rw [← ht]
    rcases h with ⟨_, h⟩ | ⟨h, _⟩
    · exact h
    · exact absurd rfl h)
  rw [ht]
  clear HRD hst hq hn hB hc hcm hrd hra hM hMH hMA hMI ht
  go_enter Try.func14, Try.ntmps14
  have HB := Lib.hid (Below.refl w.heap.size w)
  go_wp2_with fail
  refine HRD2.out.mono ?_
  rintro e w1 ⟨gt, rfl, hgt, kt, b1⟩
  have KSn := Lib.hid (KS.out.below b1 KS.out.lt)
  clear KS
  have KS := KSn
  clear KSn
  have KMn := Lib.hid (KM.out.below b1 KM.out.lt)
  clear KM
  have KM := KMn
  clear KMn
  have HBn := Lib.hid (HB.out.trans (b1.mono HB.out.size))
  clear HB
  have HB := HBn
  clear HBn
  have KT := Lib.hid kt
  have HGT := Lib.hid hgt
  clear b1 kt hgt HRD2
  have le_HB_gt : w.heap.size ≤ gt := HGT.out
  have lt_s_gt : s < gt := Nat.lt_of_lt_of_le HST.out.lt HGT.out
  have lt_b_gt : b < gt := Nat.lt_of_lt_of_le HST.out.ltb HGT.out
  go_wp2_with fail
  have LW : Hid (w.heap.size ≤ w1.heap.size) := Lib.hid HB.out.size
  obtain ⟨mv, hmv⟩ : ∃ v, M t.id = v := ⟨_, rfl⟩
  have HMV := Lib.hid hmv
  clear hmv
  cases mv with
  | none =>
    refine wp_region_held_drew (S := fun w' => Blk 79 w' s (stC b r) ∧ MapAt w' b M k ∧ Blk 92 w' gt (hdC t (some ⟨ba, oa, none⟩) c) ∧ Below w.heap.size w w') (by kernel_rfl) ⟨KS.out, KM.out, KT.out, HB.out.drew⟩ (fun hS => ?_)
    generalize hW11 : w1.drew = W11 at hS  ⊢
    clear hW11
    clear KS
    clear KM
    clear KT
    clear HB
    have KS := Lib.hid hS.1
    have KM := Lib.hid hS.2.1
    have KT := Lib.hid hS.2.2.1
    have HB := Lib.hid hS.2.2.2
    refine takeY (i := 0) (some 26) (v := .pointer (some ⟨s, 0, none⟩)) rfl rfl (by kernel_rfl) (by kernel_rfl) (by kernel_rfl) (fun _ _ _ h => h) (by rfl) (fun w' hS => by clear hS; go_simp) hS ?_
    simp only [Act.put, List.setIfInBounds_toArray, List.set_cons_zero, List.set_cons_succ]
    refine takeY (i := 1) (some 27) (v := .pointer (some ⟨s, 0, none⟩)) rfl rfl (by kernel_rfl) (by kernel_rfl) (by kernel_rfl) (fun _ _ _ h => h) (by rfl) (fun w' hS => by clear hS; go_simp) hS ?_
    simp only [Act.put, List.setIfInBounds_toArray, List.set_cons_zero, List.set_cons_succ]
    refine takeY (i := 2) (some 28) (v := .pointer (some ⟨s, 0, none⟩)) rfl rfl (by kernel_rfl) (by kernel_rfl) (by kernel_rfl) (fun _ _ _ h => h) (by rfl) (fun w' hS => by clear hS; go_simp) hS ?_
    simp only [Act.put, List.setIfInBounds_toArray, List.set_cons_zero, List.set_cons_succ]
    refine takeY (i := 3) (some 29) (v := .map (some b)) rfl rfl (by kernel_rfl) (by kernel_rfl) (by kernel_rfl) (fun _ _ _ h => h) (by rfl) (fun w' hS => by (have c9 : w'.cell? ⟨s, 0, none⟩ = some (.map (some b)) := (hS.1.cell 0).trans rfl; clear hS; go_simp)) hS ?_
    simp only [Act.put, List.setIfInBounds_toArray, List.set_cons_zero, List.set_cons_succ]
    refine takeY (i := 4) (some 30) (v := .pointer (some ⟨gt, 0, none⟩)) rfl rfl (by kernel_rfl) (by kernel_rfl) (by kernel_rfl) (fun _ _ _ h => h) (by rfl) (fun w' hS => by clear hS; go_simp) hS ?_
    simp only [Act.put, List.setIfInBounds_toArray, List.set_cons_zero, List.set_cons_succ]
    refine takeY (i := 5) (some 31) (v := .pointer (some ⟨gt, 0, none⟩)) rfl rfl (by kernel_rfl) (by kernel_rfl) (by kernel_rfl) (fun _ _ _ h => h) (by rfl) (fun w' hS => by clear hS; go_simp) hS ?_
    simp only [Act.put, List.setIfInBounds_toArray, List.set_cons_zero, List.set_cons_succ]
    refine takeY (i := 6) (some 32) (v := .pointer (some ⟨gt, 0, none⟩)) rfl rfl (by kernel_rfl) (by kernel_rfl) (by kernel_rfl) (fun _ _ _ h => h) (by rfl) (fun w' hS => by clear hS; go_simp) hS ?_
    simp only [Act.put, List.setIfInBounds_toArray, List.set_cons_zero, List.set_cons_succ]
    refine takeY (i := 7) (some 33) (v := .pointer (some ⟨gt, 0, none⟩)) rfl rfl (by kernel_rfl) (by kernel_rfl) (by kernel_rfl) (fun _ _ _ h => h) (by rfl) (fun w' hS => by clear hS; go_simp) hS ?_
    simp only [Act.put, List.setIfInBounds_toArray, List.set_cons_zero, List.set_cons_succ]
    refine takeL (i := 8) (some 34) 28 (.tmp 33) gt 0 (iC t.id) _ rfl rfl (by kernel_rfl) (by kernel_rfl) (by kernel_rfl) (fun _ _ _ h => h) (by rfl) rfl rfl (fun w' hS => hd_id hS.2.2.1) Try.underlying28 rfl info_iC hS ?_
    simp only [Act.put, List.setIfInBounds_toArray, List.set_cons_zero, List.set_cons_succ]
    refine takeY (i := 9) (some 35) (v := .tuple #[.pointer none, .bool false]) rfl rfl (by kernel_rfl) (by kernel_rfl) (by kernel_rfl) (fun _ _ _ h => h) (by rfl) (fun w' hS => by (refine (look_run _ _ _ _ rfl hS.2.1 HID.out rfl rfl).trans ?_; rw [HMV.out]; rfl)) hS ?_
    simp only [Act.put, List.setIfInBounds_toArray, List.set_cons_zero, List.set_cons_succ]
    refine takeY (i := 10) (some 25) (v := .tuple #[.pointer none, .bool false]) rfl rfl (by kernel_rfl) (by kernel_rfl) (by kernel_rfl) (fun _ _ _ h => h) (by rfl) (fun w' hS => by clear hS; go_simp) hS ?_
    simp only [Act.put, List.setIfInBounds_toArray, List.set_cons_zero, List.set_cons_succ]
    refine takeY (i := 11) (some 36) (v := .pointer none) rfl rfl (by kernel_rfl) (by kernel_rfl) (by kernel_rfl) (fun _ _ _ h => h) (by rfl) (fun w' hS => by clear hS; go_simp) hS ?_
    simp only [Act.put, List.setIfInBounds_toArray, List.set_cons_zero, List.set_cons_succ]
    refine takeY (i := 12) (some 37) (v := .bool false) rfl rfl (by kernel_rfl) (by kernel_rfl) (by kernel_rfl) (fun _ _ _ h => h) (by rfl) (fun w' hS => by clear hS; go_simp) hS ?_
    simp only [Act.put, List.setIfInBounds_toArray, List.set_cons_zero, List.set_cons_succ]
    refine takeY (i := 13) (some 8) (v := .pointer none) rfl rfl (by kernel_rfl) (by kernel_rfl) (by kernel_rfl) (fun _ _ _ h => h) (by rfl) (fun w' hS => by clear hS; go_simp) hS ?_
    simp only [Act.put, List.setIfInBounds_toArray, List.set_cons_zero, List.set_cons_succ]
    refine takeY (i := 14) (some 9) (v := .bool false) rfl rfl (by kernel_rfl) (by kernel_rfl) (by kernel_rfl) (fun _ _ _ h => h) (by rfl) (fun w' hS => by clear hS; go_simp) hS ?_
    simp only [Act.put, List.setIfInBounds_toArray, List.set_cons_zero, List.set_cons_succ]
    clear hS
    refine wpAnyH_done (by kernel_rfl) ?_ _
    have HHN : Hid (H t.id = none) := Lib.hid ((HMH.out t.id).1 HMV.out)
    go_wp2_with fail
    have HSTc : Hid (StAt W11 B s b H k r) := Lib.hid (HST.out.below HB.out)
    refine (stLen_any HSTc.out).mono ?_
    rintro e w20 ⟨rfl, rfl⟩
    by_cases hk5 : k < 512
    · have hk6 : ¬ (512 : Int) ≤ (k : Int) := by omega
      have HK5 := Lib.hid hk5
      clear hk5
      have LW2 : Hid (w.heap.size ≤ w20.heap.size) := Lib.hid HB.out.size
      clear LW
      have LW := LW2
      go_wp2_with fail
      refine (cloneB2 ba oa n c z w20 (HRA.out.below' HB.out) (by have := HN.out; omega)).mono ?_
      rintro e w40 ⟨v40, rfl, ho, b1⟩
      obtain ⟨g2, c2, rfl, hg2, ho2⟩ := own_ofB ho (by have := HN.out; omega)
      have KSn := Lib.hid (KS.out.below b1 KS.out.lt)
      clear KS
      have KS := KSn
      clear KSn
      have KMn := Lib.hid (KM.out.below b1 KM.out.lt)
      clear KM
      have KM := KMn
      clear KMn
      have KTn := Lib.hid (KT.out.below b1 KT.out.lt)
      clear KT
      have KT := KTn
      clear KTn
      have HBn := Lib.hid (HB.out.trans (b1.mono HB.out.size))
      clear HB
      have HB := HBn
      clear HBn
      have KO : Hid (Own8 w40 g2 n c2 z) := Lib.hid ho2
      have le_g2 : w.heap.size ≤ g2 := Nat.le_trans LW.out hg2
      have ne_g2 : g2 ≠ gt := fun e => by subst e; obtain ⟨⟨cur, h1, _⟩, _⟩ := KO.out; have h2 : w40.heap[g2]? = _ := KT.out; rw [h1] at h2; injection h2 with h2; injection h2 with _ h2 _; exact absurd h2 (by decide)
      clear ho ho2 hg2 b1
      have hvt : Value.slice (some ⟨g2, 0, none⟩) n c2 = .slice (some ⟨g2, 0, none⟩) t.n c2 := by rw [HT.out.2.1]
      rw [hvt]
      clear hvt
      go_wp2_with (refine wpList_st rfl 43 (.tmp 57) (.tmp 55) rfl gt 11 rfl (.slice (some ⟨g2, 0, none⟩) t.n c2) #[.slice (some ⟨g2, 0, none⟩) t.n c2] rfl rfl info_bs1 one_sl KT.out (Nat.le_of_ble_eq_true rfl) (C' := hdC t (some ⟨g2, 0, none⟩) c2) (hd_put _ _ _ _ _) ?_; intro w50 q1; refine Hid.out ?_)
      refine Lib.hid ?_
      have KO2 : Hid (Own8 w50 g2 n c2 z) := Lib.hid (KO.out.block (q1.2.2 g2 ne_g2))
      have KSn := Lib.hid (KS.out.far q1 (by omega))
      clear KS
      have KS := KSn
      clear KSn
      have KMn := Lib.hid (KM.out.far q1 (by omega))
      clear KM
      have KM := KMn
      clear KMn
      have HBn := Lib.hid (HB.out.trans (q1.2.1 _ (by omega)))
      clear HB
      have HB := HBn
      clear HBn
      have KTn : Hid (Blk 92 w50 gt (hdC t (some ⟨g2, 0, none⟩) c2)) := Lib.hid q1.1
      clear KT
      have KT := KTn
      clear KTn q1
      clear KO
      go_wp2_with fail
      have KMd : Hid (MapAt w50.drew b M k) := Lib.hid KM.out
      clear KM
      have HBd : Hid (Below w.heap.size w w50.drew) := Lib.hid HB.out.drew
      clear HB
      have KO2d : Hid (Own8 w50.drew g2 n c2 z) := Lib.hid KO2.out
      clear KO2
      refine wp_region_held_drew (S := fun w' => Blk 79 w' s (stC b r) ∧ Blk 92 w' gt (hdC t (some ⟨g2, 0, none⟩) c2)) (by kernel_rfl) ⟨KS.out, KT.out⟩ (fun hS => ?_)
      generalize hW12 : w50.drew = W12 at hS KMd HBd KO2d ⊢
      clear hW12
      clear KS
      clear KT
      have KM := KMd
      clear KMd
      have HB := HBd
      clear HBd
      have KO2 := KO2d
      clear KO2d
      have KS := Lib.hid hS.1
      have KT := Lib.hid hS.2
      refine takeY (i := 0) (some 58) (v := .pointer (some ⟨s, 0, none⟩)) rfl rfl (by kernel_rfl) (by kernel_rfl) (by kernel_rfl) (fun _ _ _ h => h) (by rfl) (fun w' hS => by clear hS; go_simp) hS ?_
      simp only [Act.put, List.setIfInBounds_toArray, List.set_cons_zero, List.set_cons_succ]
      refine takeY (i := 1) (some 59) (v := .pointer (some ⟨s, 0, none⟩)) rfl rfl (by kernel_rfl) (by kernel_rfl) (by kernel_rfl) (fun _ _ _ h => h) (by rfl) (fun w' hS => by clear hS; go_simp) hS ?_
      simp only [Act.put, List.setIfInBounds_toArray, List.set_cons_zero, List.set_cons_succ]
      refine takeY (i := 2) (some 60) (v := .pointer (some ⟨s, 0, none⟩)) rfl rfl (by kernel_rfl) (by kernel_rfl) (by kernel_rfl) (fun _ _ _ h => h) (by rfl) (fun w' hS => by clear hS; go_simp) hS ?_
      simp only [Act.put, List.setIfInBounds_toArray, List.set_cons_zero, List.set_cons_succ]
      refine takeY (i := 3) (some 61) (v := .map (some b)) rfl rfl (by kernel_rfl) (by kernel_rfl) (by kernel_rfl) (fun _ _ _ h => h) (by rfl) (fun w' hS => by (have c9 : w'.cell? ⟨s, 0, none⟩ = some (.map (some b)) := (hS.1.cell 0).trans rfl; clear hS; go_simp)) hS ?_
      simp only [Act.put, List.setIfInBounds_toArray, List.set_cons_zero, List.set_cons_succ]
      refine takeY (i := 4) (some 62) (v := .pointer (some ⟨gt, 0, none⟩)) rfl rfl (by kernel_rfl) (by kernel_rfl) (by kernel_rfl) (fun _ _ _ h => h) (by rfl) (fun w' hS => by clear hS; go_simp) hS ?_
      simp only [Act.put, List.setIfInBounds_toArray, List.set_cons_zero, List.set_cons_succ]
      refine takeY (i := 5) (some 63) (v := .pointer (some ⟨gt, 0, none⟩)) rfl rfl (by kernel_rfl) (by kernel_rfl) (by kernel_rfl) (fun _ _ _ h => h) (by rfl) (fun w' hS => by clear hS; go_simp) hS ?_
      simp only [Act.put, List.setIfInBounds_toArray, List.set_cons_zero, List.set_cons_succ]
      refine takeY (i := 6) (some 64) (v := .pointer (some ⟨gt, 0, none⟩)) rfl rfl (by kernel_rfl) (by kernel_rfl) (by kernel_rfl) (fun _ _ _ h => h) (by rfl) (fun w' hS => by clear hS; go_simp) hS ?_
      simp only [Act.put, List.setIfInBounds_toArray, List.set_cons_zero, List.set_cons_succ]
      refine takeY (i := 7) (some 65) (v := .pointer (some ⟨gt, 0, none⟩)) rfl rfl (by kernel_rfl) (by kernel_rfl) (by kernel_rfl) (fun _ _ _ h => h) (by rfl) (fun w' hS => by clear hS; go_simp) hS ?_
      simp only [Act.put, List.setIfInBounds_toArray, List.set_cons_zero, List.set_cons_succ]
      refine takeL (i := 8) (some 66) 28 (.tmp 65) gt 0 (iC t.id) _ rfl rfl (by kernel_rfl) (by kernel_rfl) (by kernel_rfl) (fun _ _ _ h => h) (by rfl) rfl rfl (fun w' hS => hd_id hS.2) Try.underlying28 rfl info_iC hS ?_
      simp only [Act.put, List.setIfInBounds_toArray, List.set_cons_zero, List.set_cons_succ]
      refine takeY (i := 9) (some 67) (v := .pointer (some ⟨gt, 0, none⟩)) rfl rfl (by kernel_rfl) (by kernel_rfl) (by kernel_rfl) (fun _ _ _ h => h) (by rfl) (fun w' hS => by clear hS; go_simp) hS ?_
      simp only [Act.put, List.setIfInBounds_toArray, List.set_cons_zero, List.set_cons_succ]
      refine takeMu (i := 10) (.tmp 61) (.tmp 66) (.tmp 67) rfl rfl (by kernel_rfl) (by rfl) rfl KM.out HID.out rfl rfl rfl (fun w60 hm9 ht9 => ⟨⟨(ht9.block HNE.out).trans KS.out, (ht9.block (by omega)).trans KT.out⟩, ?_⟩)
      simp only [Act.put, List.setIfInBounds_toArray, List.set_cons_zero, List.set_cons_succ]
      have KS9 : Hid (Blk 79 w60 s (stC b r)) := Lib.hid ((ht9.block HNE.out).trans KS.out)
      have KT9 : Hid (Blk 92 w60 gt (hdC t (some ⟨g2, 0, none⟩) c2)) := Lib.hid ((ht9.block (by omega)).trans KT.out)
      have KM9 := Lib.hid hm9
      have ne_g2b : g2 ≠ b := fun e => by subst e; obtain ⟨⟨cur, h1, _⟩, _⟩ := KO2.out; obtain ⟨es, cl, h2, _⟩ := KM.out; rw [h1] at h2; cases h2
      have KO9 : Hid (Own8 w60 g2 n c2 z) := Lib.hid (KO2.out.block (ht9.block ne_g2b))
      have HF9 : Hid (Fr w w60 s b) := Lib.hid ((Fr.of_below s b HB.out).trans (Fr.turn ht9))
      clear hm9 ht9 hS
      refine wpAnyH_done (by kernel_rfl) ?_ _
      go_wp2_with fail
      refine bodyPost_ret (v := .tuple #[.int .i64 1, .int .i64 0]) (by simp [results, Try.f14, go_sem]) rfl ?_
      have hHT : HdAt w60 B gt t := ⟨Nat.le_trans HST.out.ltB HGT.out, g2, 0, c2, KT9.out, by rw [HT.out.2.1, HT.out.2.2.1]; exact RwT.of KO9.out (by have := HN.out; omega), Nat.le_trans HST.out.ltB le_g2, by rw [HT.out.2.1]; exact KO9.out.caps.1, KO9.out.caps.2⟩
      have hSA := st_put HST.out KM0.out HMH.out HMA.out HMI.out HGT.out (by rw [HT.out.2.1]; exact HN.out) (by rw [HT.out.2.2.1]; exact HRA.out.2.2) HF9.out KS9.out KM9.out hHT
      rw [HMV.out] at hSA
      exact ⟨1, 0, rfl, HF9.out, .inl ⟨HHN.out, HK5.out, rfl, rfl, hSA⟩⟩
    · have hk6 : (512 : Int) ≤ (k : Int) := by omega
      have HK5 := Lib.hid hk5
      clear hk5
      go_wp2_with (refine wpList_st rfl 4 (.tmp 52) (.const (.bool true)) rfl s 1 rfl (.bool true) #[.bool true] rfl rfl info_bl (one_b _) KS.out (Nat.le_of_ble_eq_true rfl) (C' := stC b true) (st_ref _ _) ?_; intro w30 q1; refine Hid.out ?_)
      refine Lib.hid ?_
      have HF9 : Hid (Fr w w30 s b) := Lib.hid ((Fr.of_below s b HB.out).trans ⟨(q1.2.1 0 (Nat.zero_le _)).os, (q1.2.1 0 (Nat.zero_le _)).tape, (q1.2.1 0 (Nat.zero_le _)).output, (q1.2.1 0 (Nat.zero_le _)).size, fun i _ h1 _ => q1.2.2 i h1⟩)
      have hSA := st_full HST.out HF9.out q1.1 ((q1.2.2 b HNE.out.symm).trans (HB.out.block b HST.out.ltb))
      have HSA := Lib.hid hSA
      clear hSA q1
      go_wp2_with fail
      refine bodyPost_ret (v := .tuple #[.int .i64 0, .int .i64 10]) (by simp [results, Try.f14, go_sem]) rfl ?_
      exact ⟨0, 10, rfl, HF9.out, .inr (.inl ⟨HHN.out, by have := HK5.out; omega, rfl, rfl, HSA.out⟩)⟩
  | some g0 =>
    refine wp_region_held_drew (S := fun w' => Blk 79 w' s (stC b r) ∧ MapAt w' b M k ∧ Blk 92 w' gt (hdC t (some ⟨ba, oa, none⟩) c) ∧ Below w.heap.size w w') (by kernel_rfl) ⟨KS.out, KM.out, KT.out, HB.out.drew⟩ (fun hS => ?_)
    generalize hW11 : w1.drew = W11 at hS  ⊢
    clear hW11
    clear KS
    clear KM
    clear KT
    clear HB
    have KS := Lib.hid hS.1
    have KM := Lib.hid hS.2.1
    have KT := Lib.hid hS.2.2.1
    have HB := Lib.hid hS.2.2.2
    refine takeY (i := 0) (some 26) (v := .pointer (some ⟨s, 0, none⟩)) rfl rfl (by kernel_rfl) (by kernel_rfl) (by kernel_rfl) (fun _ _ _ h => h) (by rfl) (fun w' hS => by clear hS; go_simp) hS ?_
    simp only [Act.put, List.setIfInBounds_toArray, List.set_cons_zero, List.set_cons_succ]
    refine takeY (i := 1) (some 27) (v := .pointer (some ⟨s, 0, none⟩)) rfl rfl (by kernel_rfl) (by kernel_rfl) (by kernel_rfl) (fun _ _ _ h => h) (by rfl) (fun w' hS => by clear hS; go_simp) hS ?_
    simp only [Act.put, List.setIfInBounds_toArray, List.set_cons_zero, List.set_cons_succ]
    refine takeY (i := 2) (some 28) (v := .pointer (some ⟨s, 0, none⟩)) rfl rfl (by kernel_rfl) (by kernel_rfl) (by kernel_rfl) (fun _ _ _ h => h) (by rfl) (fun w' hS => by clear hS; go_simp) hS ?_
    simp only [Act.put, List.setIfInBounds_toArray, List.set_cons_zero, List.set_cons_succ]
    refine takeY (i := 3) (some 29) (v := .map (some b)) rfl rfl (by kernel_rfl) (by kernel_rfl) (by kernel_rfl) (fun _ _ _ h => h) (by rfl) (fun w' hS => by (have c9 : w'.cell? ⟨s, 0, none⟩ = some (.map (some b)) := (hS.1.cell 0).trans rfl; clear hS; go_simp)) hS ?_
    simp only [Act.put, List.setIfInBounds_toArray, List.set_cons_zero, List.set_cons_succ]
    refine takeY (i := 4) (some 30) (v := .pointer (some ⟨gt, 0, none⟩)) rfl rfl (by kernel_rfl) (by kernel_rfl) (by kernel_rfl) (fun _ _ _ h => h) (by rfl) (fun w' hS => by clear hS; go_simp) hS ?_
    simp only [Act.put, List.setIfInBounds_toArray, List.set_cons_zero, List.set_cons_succ]
    refine takeY (i := 5) (some 31) (v := .pointer (some ⟨gt, 0, none⟩)) rfl rfl (by kernel_rfl) (by kernel_rfl) (by kernel_rfl) (fun _ _ _ h => h) (by rfl) (fun w' hS => by clear hS; go_simp) hS ?_
    simp only [Act.put, List.setIfInBounds_toArray, List.set_cons_zero, List.set_cons_succ]
    refine takeY (i := 6) (some 32) (v := .pointer (some ⟨gt, 0, none⟩)) rfl rfl (by kernel_rfl) (by kernel_rfl) (by kernel_rfl) (fun _ _ _ h => h) (by rfl) (fun w' hS => by clear hS; go_simp) hS ?_
    simp only [Act.put, List.setIfInBounds_toArray, List.set_cons_zero, List.set_cons_succ]
    refine takeY (i := 7) (some 33) (v := .pointer (some ⟨gt, 0, none⟩)) rfl rfl (by kernel_rfl) (by kernel_rfl) (by kernel_rfl) (fun _ _ _ h => h) (by rfl) (fun w' hS => by clear hS; go_simp) hS ?_
    simp only [Act.put, List.setIfInBounds_toArray, List.set_cons_zero, List.set_cons_succ]
    refine takeL (i := 8) (some 34) 28 (.tmp 33) gt 0 (iC t.id) _ rfl rfl (by kernel_rfl) (by kernel_rfl) (by kernel_rfl) (fun _ _ _ h => h) (by rfl) rfl rfl (fun w' hS => hd_id hS.2.2.1) Try.underlying28 rfl info_iC hS ?_
    simp only [Act.put, List.setIfInBounds_toArray, List.set_cons_zero, List.set_cons_succ]
    refine takeY (i := 9) (some 35) (v := .tuple #[.pointer (some ⟨g0, 0, none⟩), .bool true]) rfl rfl (by kernel_rfl) (by kernel_rfl) (by kernel_rfl) (fun _ _ _ h => h) (by rfl) (fun w' hS => by (refine (look_run _ _ _ _ rfl hS.2.1 HID.out rfl rfl).trans ?_; rw [HMV.out]; rfl)) hS ?_
    simp only [Act.put, List.setIfInBounds_toArray, List.set_cons_zero, List.set_cons_succ]
    refine takeY (i := 10) (some 25) (v := .tuple #[.pointer (some ⟨g0, 0, none⟩), .bool true]) rfl rfl (by kernel_rfl) (by kernel_rfl) (by kernel_rfl) (fun _ _ _ h => h) (by rfl) (fun w' hS => by clear hS; go_simp) hS ?_
    simp only [Act.put, List.setIfInBounds_toArray, List.set_cons_zero, List.set_cons_succ]
    refine takeY (i := 11) (some 36) (v := .pointer (some ⟨g0, 0, none⟩)) rfl rfl (by kernel_rfl) (by kernel_rfl) (by kernel_rfl) (fun _ _ _ h => h) (by rfl) (fun w' hS => by clear hS; go_simp) hS ?_
    simp only [Act.put, List.setIfInBounds_toArray, List.set_cons_zero, List.set_cons_succ]
    refine takeY (i := 12) (some 37) (v := .bool true) rfl rfl (by kernel_rfl) (by kernel_rfl) (by kernel_rfl) (fun _ _ _ h => h) (by rfl) (fun w' hS => by clear hS; go_simp) hS ?_
    simp only [Act.put, List.setIfInBounds_toArray, List.set_cons_zero, List.set_cons_succ]
    refine takeY (i := 13) (some 8) (v := .pointer (some ⟨g0, 0, none⟩)) rfl rfl (by kernel_rfl) (by kernel_rfl) (by kernel_rfl) (fun _ _ _ h => h) (by rfl) (fun w' hS => by clear hS; go_simp) hS ?_
    simp only [Act.put, List.setIfInBounds_toArray, List.set_cons_zero, List.set_cons_succ]
    refine takeY (i := 14) (some 9) (v := .bool true) rfl rfl (by kernel_rfl) (by kernel_rfl) (by kernel_rfl) (fun _ _ _ h => h) (by rfl) (fun w' hS => by clear hS; go_simp) hS ?_
    simp only [Act.put, List.setIfInBounds_toArray, List.set_cons_zero, List.set_cons_succ]
    clear hS
    refine wpAnyH_done (by kernel_rfl) ?_ _
    obtain ⟨h0, hh0⟩ : ∃ h, H t.id = some h := by
      cases e : H t.id with
      | none => have := (HMH.out t.id).2 e; rw [HMV.out] at this; cases this
      | some h => exact ⟨h, rfl⟩
    have HH0 := Lib.hid hh0
    have HA0 := Lib.hid (HMA.out t.id g0 h0 HMV.out hh0)
    clear hh0
    go_wp2_with fail
    refine (compare_any t h0 gt g0 W11 ⟨_, _, KT.out, by rw [HT.out.2.1, HT.out.2.2.1]; exact .inr ⟨ba, oa, rfl, HRA.out.below' HB.out⟩ |> fun x => ⟨x, HRA.out.2.2⟩, by rw [HT.out.2.1]; exact HC.out.1, HC.out.2⟩ (HA0.out.1.below HB.out).r (by rw [HT.out.2.1]; exact HN.out) HA0.out.2.2.1).mono ?_
    rintro e w20 ⟨rfl, b1⟩
    have KSn := Lib.hid (KS.out.below b1 KS.out.lt)
    clear KS
    have KS := KSn
    clear KSn
    have KMn := Lib.hid (KM.out.below b1 KM.out.lt)
    clear KM
    have KM := KMn
    clear KMn
    have KTn := Lib.hid (KT.out.below b1 KT.out.lt)
    clear KT
    have KT := KTn
    clear KTn
    have HBn := Lib.hid (HB.out.trans (b1.mono HB.out.size))
    clear HB
    have HB := HBn
    clear HBn
    clear b1
    have HV := Lib.hid (tot_relH.val t h0)
    obtain ⟨rl, hrl⟩ : ∃ x, relH t h0 = x := ⟨_, rfl⟩
    rw [hrl] at HV ⊢
    have HRL := Lib.hid hrl
    clear hrl
    by_cases hr0 : rl ≤ 0
    · go_wp2_with fail
      refine bodyPost_ret (v := .tuple #[.int .i64 rl, .int .i64 0]) (by simp [results, Try.f14, go_sem]) rfl ?_
      exact ⟨rl, 0, rfl, (st_same HST.out HB.out).2, .inr (.inr (.inl ⟨h0, HH0.out, by rw [HRL.out]; exact hr0, HRL.out.symm, rfl, (st_same HST.out HB.out).1⟩))⟩
    · have HR0 := Lib.hid hr0
      have LW2 : Hid (w.heap.size ≤ w20.heap.size) := Lib.hid HB.out.size
      clear LW
      have LW := LW2
      go_wp2_with fail
      refine (cloneB2 ba oa n c z w20 (HRA.out.below' HB.out) (by have := HN.out; omega)).mono ?_
      rintro e w40 ⟨v40, rfl, ho, b1⟩
      obtain ⟨g2, c2, rfl, hg2, ho2⟩ := own_ofB ho (by have := HN.out; omega)
      have KSn := Lib.hid (KS.out.below b1 KS.out.lt)
      clear KS
      have KS := KSn
      clear KSn
      have KMn := Lib.hid (KM.out.below b1 KM.out.lt)
      clear KM
      have KM := KMn
      clear KMn
      have KTn := Lib.hid (KT.out.below b1 KT.out.lt)
      clear KT
      have KT := KTn
      clear KTn
      have HBn := Lib.hid (HB.out.trans (b1.mono HB.out.size))
      clear HB
      have HB := HBn
      clear HBn
      have KO : Hid (Own8 w40 g2 n c2 z) := Lib.hid ho2
      have le_g2 : w.heap.size ≤ g2 := Nat.le_trans LW.out hg2
      have ne_g2 : g2 ≠ gt := fun e => by subst e; obtain ⟨⟨cur, h1, _⟩, _⟩ := KO.out; have h2 : w40.heap[g2]? = _ := KT.out; rw [h1] at h2; injection h2 with h2; injection h2 with _ h2 _; exact absurd h2 (by decide)
      clear ho ho2 hg2 b1
      have hvt : Value.slice (some ⟨g2, 0, none⟩) n c2 = .slice (some ⟨g2, 0, none⟩) t.n c2 := by rw [HT.out.2.1]
      rw [hvt]
      clear hvt
      go_wp2_with (refine wpList_st rfl 43 (.tmp 57) (.tmp 55) rfl gt 11 rfl (.slice (some ⟨g2, 0, none⟩) t.n c2) #[.slice (some ⟨g2, 0, none⟩) t.n c2] rfl rfl info_bs1 one_sl KT.out (Nat.le_of_ble_eq_true rfl) (C' := hdC t (some ⟨g2, 0, none⟩) c2) (hd_put _ _ _ _ _) ?_; intro w50 q1; refine Hid.out ?_)
      refine Lib.hid ?_
      have KO2 : Hid (Own8 w50 g2 n c2 z) := Lib.hid (KO.out.block (q1.2.2 g2 ne_g2))
      have KSn := Lib.hid (KS.out.far q1 (by omega))
      clear KS
      have KS := KSn
      clear KSn
      have KMn := Lib.hid (KM.out.far q1 (by omega))
      clear KM
      have KM := KMn
      clear KMn
      have HBn := Lib.hid (HB.out.trans (q1.2.1 _ (by omega)))
      clear HB
      have HB := HBn
      clear HBn
      have KTn : Hid (Blk 92 w50 gt (hdC t (some ⟨g2, 0, none⟩) c2)) := Lib.hid q1.1
      clear KT
      have KT := KTn
      clear KTn q1
      clear KO
      go_wp2_with fail
      have KMd : Hid (MapAt w50.drew b M k) := Lib.hid KM.out
      clear KM
      have HBd : Hid (Below w.heap.size w w50.drew) := Lib.hid HB.out.drew
      clear HB
      have KO2d : Hid (Own8 w50.drew g2 n c2 z) := Lib.hid KO2.out
      clear KO2
      refine wp_region_held_drew (S := fun w' => Blk 79 w' s (stC b r) ∧ Blk 92 w' gt (hdC t (some ⟨g2, 0, none⟩) c2)) (by kernel_rfl) ⟨KS.out, KT.out⟩ (fun hS => ?_)
      generalize hW12 : w50.drew = W12 at hS KMd HBd KO2d ⊢
      clear hW12
      clear KS
      clear KT
      have KM := KMd
      clear KMd
      have HB := HBd
      clear HBd
      have KO2 := KO2d
      clear KO2d
      have KS := Lib.hid hS.1
      have KT := Lib.hid hS.2
      refine takeY (i := 0) (some 58) (v := .pointer (some ⟨s, 0, none⟩)) rfl rfl (by kernel_rfl) (by kernel_rfl) (by kernel_rfl) (fun _ _ _ h => h) (by rfl) (fun w' hS => by clear hS; go_simp) hS ?_
      simp only [Act.put, List.setIfInBounds_toArray, List.set_cons_zero, List.set_cons_succ]
      refine takeY (i := 1) (some 59) (v := .pointer (some ⟨s, 0, none⟩)) rfl rfl (by kernel_rfl) (by kernel_rfl) (by kernel_rfl) (fun _ _ _ h => h) (by rfl) (fun w' hS => by clear hS; go_simp) hS ?_
      simp only [Act.put, List.setIfInBounds_toArray, List.set_cons_zero, List.set_cons_succ]
      refine takeY (i := 2) (some 60) (v := .pointer (some ⟨s, 0, none⟩)) rfl rfl (by kernel_rfl) (by kernel_rfl) (by kernel_rfl) (fun _ _ _ h => h) (by rfl) (fun w' hS => by clear hS; go_simp) hS ?_
      simp only [Act.put, List.setIfInBounds_toArray, List.set_cons_zero, List.set_cons_succ]
      refine takeY (i := 3) (some 61) (v := .map (some b)) rfl rfl (by kernel_rfl) (by kernel_rfl) (by kernel_rfl) (fun _ _ _ h => h) (by rfl) (fun w' hS => by (have c9 : w'.cell? ⟨s, 0, none⟩ = some (.map (some b)) := (hS.1.cell 0).trans rfl; clear hS; go_simp)) hS ?_
      simp only [Act.put, List.setIfInBounds_toArray, List.set_cons_zero, List.set_cons_succ]
      refine takeY (i := 4) (some 62) (v := .pointer (some ⟨gt, 0, none⟩)) rfl rfl (by kernel_rfl) (by kernel_rfl) (by kernel_rfl) (fun _ _ _ h => h) (by rfl) (fun w' hS => by clear hS; go_simp) hS ?_
      simp only [Act.put, List.setIfInBounds_toArray, List.set_cons_zero, List.set_cons_succ]
      refine takeY (i := 5) (some 63) (v := .pointer (some ⟨gt, 0, none⟩)) rfl rfl (by kernel_rfl) (by kernel_rfl) (by kernel_rfl) (fun _ _ _ h => h) (by rfl) (fun w' hS => by clear hS; go_simp) hS ?_
      simp only [Act.put, List.setIfInBounds_toArray, List.set_cons_zero, List.set_cons_succ]
      refine takeY (i := 6) (some 64) (v := .pointer (some ⟨gt, 0, none⟩)) rfl rfl (by kernel_rfl) (by kernel_rfl) (by kernel_rfl) (fun _ _ _ h => h) (by rfl) (fun w' hS => by clear hS; go_simp) hS ?_
      simp only [Act.put, List.setIfInBounds_toArray, List.set_cons_zero, List.set_cons_succ]
      refine takeY (i := 7) (some 65) (v := .pointer (some ⟨gt, 0, none⟩)) rfl rfl (by kernel_rfl) (by kernel_rfl) (by kernel_rfl) (fun _ _ _ h => h) (by rfl) (fun w' hS => by clear hS; go_simp) hS ?_
      simp only [Act.put, List.setIfInBounds_toArray, List.set_cons_zero, List.set_cons_succ]
      refine takeL (i := 8) (some 66) 28 (.tmp 65) gt 0 (iC t.id) _ rfl rfl (by kernel_rfl) (by kernel_rfl) (by kernel_rfl) (fun _ _ _ h => h) (by rfl) rfl rfl (fun w' hS => hd_id hS.2) Try.underlying28 rfl info_iC hS ?_
      simp only [Act.put, List.setIfInBounds_toArray, List.set_cons_zero, List.set_cons_succ]
      refine takeY (i := 9) (some 67) (v := .pointer (some ⟨gt, 0, none⟩)) rfl rfl (by kernel_rfl) (by kernel_rfl) (by kernel_rfl) (fun _ _ _ h => h) (by rfl) (fun w' hS => by clear hS; go_simp) hS ?_
      simp only [Act.put, List.setIfInBounds_toArray, List.set_cons_zero, List.set_cons_succ]
      refine takeMu (i := 10) (.tmp 61) (.tmp 66) (.tmp 67) rfl rfl (by kernel_rfl) (by rfl) rfl KM.out HID.out rfl rfl rfl (fun w60 hm9 ht9 => ⟨⟨(ht9.block HNE.out).trans KS.out, (ht9.block (by omega)).trans KT.out⟩, ?_⟩)
      simp only [Act.put, List.setIfInBounds_toArray, List.set_cons_zero, List.set_cons_succ]
      have KS9 : Hid (Blk 79 w60 s (stC b r)) := Lib.hid ((ht9.block HNE.out).trans KS.out)
      have KT9 : Hid (Blk 92 w60 gt (hdC t (some ⟨g2, 0, none⟩) c2)) := Lib.hid ((ht9.block (by omega)).trans KT.out)
      have KM9 := Lib.hid hm9
      have ne_g2b : g2 ≠ b := fun e => by subst e; obtain ⟨⟨cur, h1, _⟩, _⟩ := KO2.out; obtain ⟨es, cl, h2, _⟩ := KM.out; rw [h1] at h2; cases h2
      have KO9 : Hid (Own8 w60 g2 n c2 z) := Lib.hid (KO2.out.block (ht9.block ne_g2b))
      have HF9 : Hid (Fr w w60 s b) := Lib.hid ((Fr.of_below s b HB.out).trans (Fr.turn ht9))
      clear hm9 ht9 hS
      refine wpAnyH_done (by kernel_rfl) ?_ _
      go_wp2_with fail
      refine bodyPost_ret (v := .tuple #[.int .i64 1, .int .i64 0]) (by simp [results, Try.f14, go_sem]) rfl ?_
      have hHT : HdAt w60 B gt t := ⟨Nat.le_trans HST.out.ltB HGT.out, g2, 0, c2, KT9.out, by rw [HT.out.2.1, HT.out.2.2.1]; exact RwT.of KO9.out (by have := HN.out; omega), Nat.le_trans HST.out.ltB le_g2, by rw [HT.out.2.1]; exact KO9.out.caps.1, KO9.out.caps.2⟩
      have hSA := st_put HST.out KM0.out HMH.out HMA.out HMI.out HGT.out (by rw [HT.out.2.1]; exact HN.out) (by rw [HT.out.2.2.1]; exact HRA.out.2.2) HF9.out KS9.out KM9.out hHT
      rw [HMV.out] at hSA
      exact ⟨1, 0, rfl, HF9.out, .inr (.inr (.inr ⟨h0, HH0.out, by rw [HRL.out]; have := HR0.out; omega, rfl, rfl, hSA⟩))⟩
end Go.Proofs.Ytkiaijmhoikdiaa
