/- adj's checks and its small functions. Each theorem states its conditions. -/
import Derived.Test.YthmnbhmficdifaaAShare
namespace Go.Proofs.Ythmnbhmficdifaa
open Go.RowKit
set_option linter.unusedVariables false

/-- two names are alike -/
def eqY (z z' : Nat → Int) : Bool := bsL z 6 == bsL z' 6
theorem eqY_iff {z z' : Nat → Int} (hz : ∀ j, 0 ≤ z j ∧ z j ≤ 255) (hz' : ∀ j, 0 ≤ z' j ∧ z' j ≤ 255) : eqY z z' = true ↔ ∀ j, j < 6 → z j = z' j := by
  have := sB_iff (a := ⟨none, 6, 0, z⟩) (b := ⟨none, 6, 0, z'⟩) hz hz'
  unfold sB sameS at this
  unfold eqY
  rw [this]
  simp
theorem syC_vals (z : Nat → Int) : syC z = (vals z 6).toArray := rfl
theorem guard_sys : Try.prog.eqGuardType Try.prog.depth 23 = false := by kernel_rfl
theorem equal_sys (z z' : Nat → Int) (hz : ∀ j, 0 ≤ z j ∧ z j ≤ 255) (hz' : ∀ j, 0 ≤ z' j ∧ z' j ≤ 255) (W : World) : (Op.equalIn 10000 23 (.agg (syC z)) (.agg (syC z'))).run Try.prog W = .ok (eqY z z') W := by
  rw [syC_vals, syC_vals, vals_cells z 6 hz, vals_cells z' 6 hz']
  rw [run_equalIn_bytes W 9998 23 5 6 Try.underlying23 Try.underlying5 size_u8 _ _ (by simp) (by simp)]
  rfl
theorem sys_eql (o : Oper) (e : Operand → Value) (x y : Operand) (t' : TypeId) (ho : o.op = .binOp .eql 23 x y t') (htt : 23 = t') (z z' : Nat → Int) (hz : ∀ j, 0 ≤ z j ∧ z j ≤ 255) (hz' : ∀ j, 0 ≤ z' j ∧ z' j ≤ 255) (h0 : e x = .agg (syC z)) (h1 : e y = .agg (syC z')) (r : Bool) (hr : eqY z z' = r) (W : World) :
    (execOp e o).run Try.prog W = .ok (.value (.bool r)) W := by
  subst hr htt
  unfold execOp
  simp only [ho, h0, h1]
  simp [Sem.run_bind, run_eqGuard_agg _ _ _ _ _ _ _ guard_sys, run_eql_struct, equal_sys z z' hz hz' W]
theorem sys_neq (o : Oper) (e : Operand → Value) (x y : Operand) (t' : TypeId) (ho : o.op = .binOp .neq 23 x y t') (htt : 23 = t') (z z' : Nat → Int) (hz : ∀ j, 0 ≤ z j ∧ z j ≤ 255) (hz' : ∀ j, 0 ≤ z' j ∧ z' j ≤ 255) (h0 : e x = .agg (syC z)) (h1 : e y = .agg (syC z')) (r : Bool) (hr : eqY z z' = r) (W : World) :
    (execOp e o).run Try.prog W = .ok (.value (.bool (!r))) W := by
  subst hr htt
  unfold execOp
  simp only [ho, h0, h1]
  simp [Sem.run_bind, run_eqGuard_agg _ _ _ _ _ _ _ guard_sys, run_neq_struct, equal_sys z z' hz hz' W]
def byB (z : Nat → Int) : Prop := ∀ j, 0 ≤ z j ∧ z j ≤ 255
def lvBad (n : Int) : Bool := decide (n < 1 ∨ 3 < n)
def stBad (n : Int) : Bool := decide (n < 0 ∨ 2 < n)
def hoBad (n : Int) : Bool := decide (n < 1 ∨ 65535 < n)
theorem isNoLevel_any (n : Int) (b : Bool) (hb : lvBad n = b) (w : World) : Calls Try.prog 33 #[.int .i64 n] w fun e w' => e = .returned (.bool b) ∧ w = w' := by
  unfold lvBad at hb
  subst hb
  by_cases h1 : n < 1
  · rw [show decide (n < 1 ∨ 3 < n) = true from decide_eq_true (.inl h1)]
    go_enter Try.func33, Try.ntmps33
    go_wp2
    go_ret
    exact ⟨rfl, rfl⟩
  · by_cases h2 : 3 < n
    · rw [show decide (n < 1 ∨ 3 < n) = true from decide_eq_true (.inr h2)]
      go_enter Try.func33, Try.ntmps33
      go_wp2
      go_ret
      exact ⟨rfl, rfl⟩
    · rw [show decide (n < 1 ∨ 3 < n) = false from decide_eq_false (by omega)]
      go_enter Try.func33, Try.ntmps33
      go_wp2
      go_ret
      exact ⟨rfl, rfl⟩
theorem isNoState_any (n : Int) (b : Bool) (hb : stBad n = b) (w : World) : Calls Try.prog 34 #[.int .i64 n] w fun e w' => e = .returned (.bool b) ∧ w = w' := by
  unfold stBad at hb
  subst hb
  by_cases h1 : n < 0
  · rw [show decide (n < 0 ∨ 2 < n) = true from decide_eq_true (.inl h1)]
    go_enter Try.func34, Try.ntmps34
    go_wp2
    go_ret
    exact ⟨rfl, rfl⟩
  · by_cases h2 : 2 < n
    · rw [show decide (n < 0 ∨ 2 < n) = true from decide_eq_true (.inr h2)]
      go_enter Try.func34, Try.ntmps34
      go_wp2
      go_ret
      exact ⟨rfl, rfl⟩
    · rw [show decide (n < 0 ∨ 2 < n) = false from decide_eq_false (by omega)]
      go_enter Try.func34, Try.ntmps34
      go_wp2
      go_ret
      exact ⟨rfl, rfl⟩
theorem isNoHold_any (n : Int) (b : Bool) (hb : hoBad n = b) (w : World) : Calls Try.prog 35 #[.int .i64 n] w fun e w' => e = .returned (.bool b) ∧ w = w' := by
  unfold hoBad at hb
  subst hb
  by_cases h1 : n < 1
  · rw [show decide (n < 1 ∨ 65535 < n) = true from decide_eq_true (.inl h1)]
    go_enter Try.func35, Try.ntmps35
    go_wp2
    go_ret
    exact ⟨rfl, rfl⟩
  · by_cases h2 : 65535 < n
    · rw [show decide (n < 1 ∨ 65535 < n) = true from decide_eq_true (.inr h2)]
      go_enter Try.func35, Try.ntmps35
      go_wp2
      go_ret
      exact ⟨rfl, rfl⟩
    · rw [show decide (n < 1 ∨ 65535 < n) = false from decide_eq_false (by omega)]
      go_enter Try.func35, Try.ntmps35
      go_wp2
      go_ret
      exact ⟨rfl, rfl⟩
def chkF (b1 b2 b3 b4 b5 b6 b7 b8 b9 b10 : Bool) : Int := if b1 || b2 || b3 || b4 || b5 || b6 || b7 then 1 else if b8 || b9 then 2 else if b10 then 7 else 0
def chkS (l : Lo) (a : Aj) (h : He) (now : Int) : Int :=
  chkF (lvBad l.lv) (lvBad h.lv) (stBad a.st) (stBad h.st) (hoBad h.ho) (decide (now < 0)) (decide (4611686018427387904 < now)) (decide (3 < l.m)) (decide (3 < h.m)) (eqY h.s l.s)
set_option maxHeartbeats 8000000 in
set_option maxRecDepth 100000 in
theorem checkStep_any (l : Lo) (a : Aj) (h : He) (now : Int) (w : World) (hl : byB l.s) (hh : byB h.s) (hlm : l.m ≤ 9223372036854775807) (hhm : h.m ≤ 9223372036854775807) :
    Calls Try.prog 24 #[.agg (loC l), .agg (ajC a), .agg (heC h), .int .i64 now] w fun e w' => e = .returned (.int .i64 (chkS l a h now)) ∧ Below w.heap.size w w' := by
  have HE : Hid (chkS l a h now = chkF (lvBad l.lv) (lvBad h.lv) (stBad a.st) (stBad h.st) (hoBad h.ho) (decide (now < 0)) (decide (4611686018427387904 < now)) (decide (3 < l.m)) (decide (3 < h.m)) (eqY h.s l.s)) := Lib.hid rfl
  have HL := Lib.hid hl
  have HH := Lib.hid hh
  obtain ⟨E, hE⟩ : ∃ E, chkS l a h now = E := ⟨_, rfl⟩
  rw [hE] at HE ⊢
  clear hE hl hh
  obtain ⟨b1, hb1⟩ : ∃ b, lvBad l.lv = b := ⟨_, rfl⟩
  have D1 := Lib.hid (fun w => isNoLevel_any _ _ hb1 w)
  rw [hb1] at HE
  clear hb1
  obtain ⟨b2, hb2⟩ : ∃ b, lvBad h.lv = b := ⟨_, rfl⟩
  have D2 := Lib.hid (fun w => isNoLevel_any _ _ hb2 w)
  rw [hb2] at HE
  clear hb2
  obtain ⟨b3, hb3⟩ : ∃ b, stBad a.st = b := ⟨_, rfl⟩
  have D3 := Lib.hid (fun w => isNoState_any _ _ hb3 w)
  rw [hb3] at HE
  clear hb3
  obtain ⟨b4, hb4⟩ : ∃ b, stBad h.st = b := ⟨_, rfl⟩
  have D4 := Lib.hid (fun w => isNoState_any _ _ hb4 w)
  rw [hb4] at HE
  clear hb4
  obtain ⟨b5, hb5⟩ : ∃ b, hoBad h.ho = b := ⟨_, rfl⟩
  have D5 := Lib.hid (fun w => isNoHold_any _ _ hb5 w)
  rw [hb5] at HE
  clear hb5
  obtain ⟨bq, hbq⟩ : ∃ b, eqY h.s l.s = b := ⟨_, rfl⟩
  have HQ := Lib.hid hbq
  rw [hbq] at HE
  clear hbq
  go_enter Try.func24, Try.ntmps24
  have HB := Lib.hid (Below.refl w.heap.size w)
  obtain ⟨N1, hN1⟩ : ∃ N, w.heap.size = N := ⟨_, rfl⟩
  have HN1 := Lib.hid hN1
  clear hN1
  go_wp2_with (refine wpList_box (op := ⟨some 4, _, _, _, _, _⟩) rfl 32 (.tmp 0) rfl (loC l) rfl N1 HN1.out ?_; intro w1 k1 b1 s1; refine Hid.out ?_)
  refine Lib.hid ?_
  have K1 := Lib.hid k1
  clear k1
  have le_HB_N1 : w.heap.size ≤ N1 := by rw [← HN1.out]; exact HB.out.size
  have HBn := Lib.hid (HB.out.trans (b1.mono HB.out.size))
  clear HB
  have HB := HBn
  clear HBn
  clear b1 HN1
  obtain ⟨N2, hN2⟩ : ∃ N, w1.heap.size = N := ⟨_, rfl⟩
  have HN2 := Lib.hid hN2
  clear hN2
  go_wp2_with (refine wpList_box (op := ⟨some 5, _, _, _, _, _⟩) rfl 36 (.tmp 1) rfl (ajC a) rfl N2 HN2.out ?_; intro w2 k1 b1 s1; refine Hid.out ?_)
  refine Lib.hid ?_
  have K2 := Lib.hid k1
  clear k1
  have lt_N1_N2 : N1 < N2 := by rw [← HN2.out]; exact K1.out.lt
  have le_HB_N2 : w.heap.size ≤ N2 := by rw [← HN2.out]; exact HB.out.size
  have K1n := Lib.hid (K1.out.below b1 K1.out.lt)
  clear K1
  have K1 := K1n
  clear K1n
  have HBn := Lib.hid (HB.out.trans (b1.mono HB.out.size))
  clear HB
  have HB := HBn
  clear HBn
  clear b1 HN2
  obtain ⟨N3, hN3⟩ : ∃ N, w2.heap.size = N := ⟨_, rfl⟩
  have HN3 := Lib.hid hN3
  clear hN3
  go_wp2_with (refine wpList_box (op := ⟨some 6, _, _, _, _, _⟩) rfl 34 (.tmp 2) rfl (heC h) rfl N3 HN3.out ?_; intro w3 k1 b1 s1; refine Hid.out ?_)
  refine Lib.hid ?_
  have K3 := Lib.hid k1
  clear k1
  have lt_N1_N3 : N1 < N3 := by rw [← HN3.out]; exact K1.out.lt
  have lt_N2_N3 : N2 < N3 := by rw [← HN3.out]; exact K2.out.lt
  have le_HB_N3 : w.heap.size ≤ N3 := by rw [← HN3.out]; exact HB.out.size
  have K1n := Lib.hid (K1.out.below b1 K1.out.lt)
  clear K1
  have K1 := K1n
  clear K1n
  have K2n := Lib.hid (K2.out.below b1 K2.out.lt)
  clear K2
  have K2 := K2n
  clear K2n
  have HBn := Lib.hid (HB.out.trans (b1.mono HB.out.size))
  clear HB
  have HB := HBn
  clear HBn
  clear b1 HN3
  have cK1_7 : w3.cell? ⟨N1, 7, none⟩ = some (.int .i64 l.lv) := (K1.out.cell 7).trans rfl
  have cK1_8 : w3.cell? ⟨N1, 8, none⟩ = some (.slice l.A l.m l.c) := (K1.out.cell 8).trans rfl
  have cK2_0 : w3.cell? ⟨N2, 0, none⟩ = some (.int .i64 a.st) := (K2.out.cell 0).trans rfl
  have cK3_7 : w3.cell? ⟨N3, 7, none⟩ = some (.int .i64 h.lv) := (K3.out.cell 7).trans rfl
  have cK3_8 : w3.cell? ⟨N3, 8, none⟩ = some (.int .i64 h.ho) := (K3.out.cell 8).trans rfl
  have cK3_9 : w3.cell? ⟨N3, 9, none⟩ = some (.slice h.A h.m h.c) := (K3.out.cell 9).trans rfl
  have cK3_10 : w3.cell? ⟨N3, 10, none⟩ = some (.int .i64 h.st) := (K3.out.cell 10).trans rfl
  cases b1
  rotate_left
  · skip
    have HX : Hid (E = 1) := Lib.hid (by rw [HE.out]; first | rfl | simp [chkF] | (simp [chkF]; omega))
    clear HE
    go_wp2_with (first | ((with_reducible refine (D1.out _).mono ?_); (rintro e wx ⟨rfl, rfl⟩)) | ((with_reducible refine (D2.out _).mono ?_); (rintro e wx ⟨rfl, rfl⟩)) | ((with_reducible refine (D3.out _).mono ?_); (rintro e wx ⟨rfl, rfl⟩)) | ((with_reducible refine (D4.out _).mono ?_); (rintro e wx ⟨rfl, rfl⟩)) | ((with_reducible refine (D5.out _).mono ?_); (rintro e wx ⟨rfl, rfl⟩)))
    go_ret
    exact ⟨by rw [HX.out]; rfl, HB.out⟩
  cases b2
  rotate_left
  · skip
    have HX : Hid (E = 1) := Lib.hid (by rw [HE.out]; first | rfl | simp [chkF] | (simp [chkF]; omega))
    clear HE
    go_wp2_with (first | ((with_reducible refine (D1.out _).mono ?_); (rintro e wx ⟨rfl, rfl⟩)) | ((with_reducible refine (D2.out _).mono ?_); (rintro e wx ⟨rfl, rfl⟩)) | ((with_reducible refine (D3.out _).mono ?_); (rintro e wx ⟨rfl, rfl⟩)) | ((with_reducible refine (D4.out _).mono ?_); (rintro e wx ⟨rfl, rfl⟩)) | ((with_reducible refine (D5.out _).mono ?_); (rintro e wx ⟨rfl, rfl⟩)))
    go_ret
    exact ⟨by rw [HX.out]; rfl, HB.out⟩
  cases b3
  rotate_left
  · skip
    have HX : Hid (E = 1) := Lib.hid (by rw [HE.out]; first | rfl | simp [chkF] | (simp [chkF]; omega))
    clear HE
    go_wp2_with (first | ((with_reducible refine (D1.out _).mono ?_); (rintro e wx ⟨rfl, rfl⟩)) | ((with_reducible refine (D2.out _).mono ?_); (rintro e wx ⟨rfl, rfl⟩)) | ((with_reducible refine (D3.out _).mono ?_); (rintro e wx ⟨rfl, rfl⟩)) | ((with_reducible refine (D4.out _).mono ?_); (rintro e wx ⟨rfl, rfl⟩)) | ((with_reducible refine (D5.out _).mono ?_); (rintro e wx ⟨rfl, rfl⟩)))
    go_ret
    exact ⟨by rw [HX.out]; rfl, HB.out⟩
  cases b4
  rotate_left
  · skip
    have HX : Hid (E = 1) := Lib.hid (by rw [HE.out]; first | rfl | simp [chkF] | (simp [chkF]; omega))
    clear HE
    go_wp2_with (first | ((with_reducible refine (D1.out _).mono ?_); (rintro e wx ⟨rfl, rfl⟩)) | ((with_reducible refine (D2.out _).mono ?_); (rintro e wx ⟨rfl, rfl⟩)) | ((with_reducible refine (D3.out _).mono ?_); (rintro e wx ⟨rfl, rfl⟩)) | ((with_reducible refine (D4.out _).mono ?_); (rintro e wx ⟨rfl, rfl⟩)) | ((with_reducible refine (D5.out _).mono ?_); (rintro e wx ⟨rfl, rfl⟩)))
    go_ret
    exact ⟨by rw [HX.out]; rfl, HB.out⟩
  cases b5
  rotate_left
  · skip
    have HX : Hid (E = 1) := Lib.hid (by rw [HE.out]; first | rfl | simp [chkF] | (simp [chkF]; omega))
    clear HE
    go_wp2_with (first | ((with_reducible refine (D1.out _).mono ?_); (rintro e wx ⟨rfl, rfl⟩)) | ((with_reducible refine (D2.out _).mono ?_); (rintro e wx ⟨rfl, rfl⟩)) | ((with_reducible refine (D3.out _).mono ?_); (rintro e wx ⟨rfl, rfl⟩)) | ((with_reducible refine (D4.out _).mono ?_); (rintro e wx ⟨rfl, rfl⟩)) | ((with_reducible refine (D5.out _).mono ?_); (rintro e wx ⟨rfl, rfl⟩)))
    go_ret
    exact ⟨by rw [HX.out]; rfl, HB.out⟩
  by_cases n1 : now < 0
  · rw [decide_eq_true n1] at HE
    have HX : Hid (E = 1) := Lib.hid (by rw [HE.out]; first | rfl | simp [chkF] | (simp [chkF]; omega))
    clear HE
    go_wp2_with (first | ((with_reducible refine (D1.out _).mono ?_); (rintro e wx ⟨rfl, rfl⟩)) | ((with_reducible refine (D2.out _).mono ?_); (rintro e wx ⟨rfl, rfl⟩)) | ((with_reducible refine (D3.out _).mono ?_); (rintro e wx ⟨rfl, rfl⟩)) | ((with_reducible refine (D4.out _).mono ?_); (rintro e wx ⟨rfl, rfl⟩)) | ((with_reducible refine (D5.out _).mono ?_); (rintro e wx ⟨rfl, rfl⟩)))
    go_ret
    exact ⟨by rw [HX.out]; rfl, HB.out⟩
  rw [decide_eq_false n1] at HE
  by_cases n2 : 4611686018427387904 < now
  · rw [decide_eq_true n2] at HE
    have HX : Hid (E = 1) := Lib.hid (by rw [HE.out]; first | rfl | simp [chkF] | (simp [chkF]; omega))
    clear HE
    go_wp2_with (first | ((with_reducible refine (D1.out _).mono ?_); (rintro e wx ⟨rfl, rfl⟩)) | ((with_reducible refine (D2.out _).mono ?_); (rintro e wx ⟨rfl, rfl⟩)) | ((with_reducible refine (D3.out _).mono ?_); (rintro e wx ⟨rfl, rfl⟩)) | ((with_reducible refine (D4.out _).mono ?_); (rintro e wx ⟨rfl, rfl⟩)) | ((with_reducible refine (D5.out _).mono ?_); (rintro e wx ⟨rfl, rfl⟩)))
    go_ret
    exact ⟨by rw [HX.out]; rfl, HB.out⟩
  rw [decide_eq_false n2] at HE
  by_cases n3 : 3 < l.m
  · rw [decide_eq_true n3] at HE
    have n3i : (3 : Int) < ((l.m : Nat) : Int) := by omega
    have HX : Hid (E = 2) := Lib.hid (by rw [HE.out]; first | rfl | simp [chkF] | (simp [chkF]; omega))
    clear HE
    go_wp2_with (first | ((with_reducible refine (D1.out _).mono ?_); (rintro e wx ⟨rfl, rfl⟩)) | ((with_reducible refine (D2.out _).mono ?_); (rintro e wx ⟨rfl, rfl⟩)) | ((with_reducible refine (D3.out _).mono ?_); (rintro e wx ⟨rfl, rfl⟩)) | ((with_reducible refine (D4.out _).mono ?_); (rintro e wx ⟨rfl, rfl⟩)) | ((with_reducible refine (D5.out _).mono ?_); (rintro e wx ⟨rfl, rfl⟩)))
    go_ret
    exact ⟨by rw [HX.out]; rfl, HB.out⟩
  rw [decide_eq_false n3] at HE
  have n3i : ¬ (3 : Int) < ((l.m : Nat) : Int) := by omega
  by_cases n4 : 3 < h.m
  · rw [decide_eq_true n4] at HE
    have n4i : (3 : Int) < ((h.m : Nat) : Int) := by omega
    have HX : Hid (E = 2) := Lib.hid (by rw [HE.out]; first | rfl | simp [chkF] | (simp [chkF]; omega))
    clear HE
    go_wp2_with (first | ((with_reducible refine (D1.out _).mono ?_); (rintro e wx ⟨rfl, rfl⟩)) | ((with_reducible refine (D2.out _).mono ?_); (rintro e wx ⟨rfl, rfl⟩)) | ((with_reducible refine (D3.out _).mono ?_); (rintro e wx ⟨rfl, rfl⟩)) | ((with_reducible refine (D4.out _).mono ?_); (rintro e wx ⟨rfl, rfl⟩)) | ((with_reducible refine (D5.out _).mono ?_); (rintro e wx ⟨rfl, rfl⟩)))
    go_ret
    exact ⟨by rw [HX.out]; rfl, HB.out⟩
  rw [decide_eq_false n4] at HE
  have n4i : ¬ (3 : Int) < ((h.m : Nat) : Int) := by omega
  go_wp2_with (first | ((with_reducible refine (D1.out _).mono ?_); (rintro e wx ⟨rfl, rfl⟩)) | ((with_reducible refine (D2.out _).mono ?_); (rintro e wx ⟨rfl, rfl⟩)) | ((with_reducible refine (D3.out _).mono ?_); (rintro e wx ⟨rfl, rfl⟩)) | ((with_reducible refine (D4.out _).mono ?_); (rintro e wx ⟨rfl, rfl⟩)) | ((with_reducible refine (D5.out _).mono ?_); (rintro e wx ⟨rfl, rfl⟩)) | (refine wpList_ld (op := ⟨some 53, _, _, _, _, _⟩) (by rfl) 23 (.tmp 52) rfl N3 0 rfl (syC h.s) _ K3.out.hes Try.underlying23 rfl info_sys ?_; refine Hid.out ?_))
  refine Lib.hid ?_
  go_wp2_with (refine wpList_ld (op := ⟨some 55, _, _, _, _, _⟩) (by rfl) 23 (.tmp 54) rfl N1 0 rfl (syC l.s) _ K1.out.los Try.underlying23 rfl info_sys ?_; refine Hid.out ?_)
  refine Lib.hid ?_
  go_wp2_with (refine wpList_gv (op := ⟨some 56, _, _, _, _, _⟩) _ (by rfl) (sys_eql _ _ _ _ _ rfl rfl h.s l.s HH.out HL.out rfl rfl _ HQ.out _) ?_; refine Hid.out ?_)
  refine Lib.hid ?_
  cases bq
  · have HX : Hid (E = 0) := Lib.hid (by rw [HE.out]; rfl)
    clear HE
    go_wp2_with fail
    go_ret
    exact ⟨by rw [HX.out]; rfl, HB.out⟩
  · have HX : Hid (E = 7) := Lib.hid (by rw [HE.out]; rfl)
    clear HE
    go_wp2_with fail
    go_ret
    exact ⟨by rw [HX.out]; rfl, HB.out⟩
end Go.Proofs.Ythmnbhmficdifaa
