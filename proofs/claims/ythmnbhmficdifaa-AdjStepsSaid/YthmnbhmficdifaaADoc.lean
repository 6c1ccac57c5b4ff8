/- The document's Step: it answers as the program's does. Each theorem states its conditions. -/
import Derived.Test.YthmnbhmficdifaaADocA
import Derived.Test.YthmnbhmficdifaaAThm
namespace Go.Proofs.Ythmnbhmficdifaa
open Go.RowKit
set_option linter.unusedVariables false

theorem build_downR (o : Oper) (e : Operand → Value) (x : Operand) (ho : o.op = .build 28 #[(0, x)]) (h0 : e x = .int .i64 2) (W : World) : (execOp e o).run Try.prog W = .ok (.value (.agg (ajC ajD))) W := by
  unfold execOp
  simp only [ho]
  simp only [List.map_toArray, List.map_cons, List.map_nil, h0]
  kernel_rfl
theorem build_ajR (o : Oper) (e : Operand → Value) (x0 x1 x2 x3 x4 : Operand) (ho : o.op = .build 28 #[(0, x0), (1, x1), (2, x2), (3, x3), (4, x4)]) (b : Aj) (h0 : e x0 = .int .i64 b.st) (h1 : e x1 = .agg (syC b.p)) (h2 : e x2 = .int .u8 b.nu) (h3 : e x3 = .int .i64 b.lv) (h4 : e x4 = .int .i64 b.un) (W : World) :
    (execOp e o).run Try.prog W = .ok (.value (.agg (ajC b))) W := by
  unfold execOp
  simp only [ho]
  simp only [List.map_toArray, List.map_cons, List.map_nil, h0, h1, h2, h3, h4]
  kernel_rfl
theorem eqY_comm (z s : Nat → Int) : eqY z s = eqY s z := by unfold eqY; exact Bool.beq_comm
/-- the table -/
def tabC : Array Value := #[.int .i64 0, .int .i64 0, .int .i64 1, .int .i64 0, .int .i64 0, .int .i64 1, .int .i64 2, .int .i64 0, .int .i64 1]
def tab0 : Array Value := #[.int .i64 0, .int .i64 0, .int .i64 0, .int .i64 0, .int .i64 0, .int .i64 0, .int .i64 0, .int .i64 0, .int .i64 0]
theorem zero_tab : (Try.prog.info? 72).map (·.zero) = some (some (.agg tab0)) := by kernel_rfl
theorem info_tab : (Try.prog.info? 72).map (·.size) = some 9 := by kernel_rfl
set_option maxHeartbeats 8000000 in
set_option maxRecDepth 100000 in
theorem docStep_any (l : Lo) (a : Aj) (h : He) (now : Int) (L H : Nat → Sl) (w : World) (hl : byB l.s) (hp : byB a.p) (hh : byB h.s) (ht : byB h.th) (hL : RdS w l.A l.m L) (hH : RdS w h.A h.m H) (hlm : l.m ≤ 9223372036854775807) (hhm : h.m ≤ 9223372036854775807) (R : Aj × Int) (hR : stepR l a h now (shB L l.m H h.m) = R) :
    Calls Try.prog 14 #[.agg (loC l), .agg (ajC a), .agg (heC h), .int .i64 now] w fun e w' => e = .returned (.tuple #[.agg (ajC R.1), .int .i64 R.2]) ∧ Below w.heap.size w w' := by
  obtain ⟨s, hs⟩ : ∃ s, shB L l.m H h.m = s := ⟨_, rfl⟩
  rw [hs] at hR
  have HSH := Lib.hid hs
  have HE : Hid (R = if chkS l a h now ≠ 0 then (a, chkS l a h now) else if comI l.lv h.lv s = 0 then (ajD, 12) else if h.nm && (!eqY h.th l.s || h.tn != l.nu) then (a, 0) else if behS (toS a h (comI l.lv h.lv s)) (ofS h) = 2 then (ajD, 0) else (⟨behS (toS a h (comI l.lv h.lv s)) (ofS h), h.s, h.nu, comI l.lv h.lv s, now + h.ho⟩, 0)) := Lib.hid hR.symm
  have HK : Hid (chkS l a h now = chkF (lvBad l.lv) (lvBad h.lv) (stBad a.st) (stBad h.st) (hoBad h.ho) (decide (now < 0)) (decide (4611686018427387904 < now)) (decide (3 < l.m)) (decide (3 < h.m)) (eqY l.s h.s)) := Lib.hid (by rw [eqY_comm]; rfl)
  have HCZ := Lib.hid (chk_zero (l := l) (a := a) (h := h) (now := now))
  have HBl := Lib.hid hl
  have HBp := Lib.hid hp
  have HBh := Lib.hid hh
  have HBt := Lib.hid ht
  have HL := Lib.hid hL
  have HH := Lib.hid hH
  obtain ⟨K, hK⟩ : ∃ K, chkS l a h now = K := ⟨_, rfl⟩
  rw [hK] at HE HCZ HK
  clear hR hs hl hp hh ht hL hH hK
  obtain ⟨b1, hb1⟩ : ∃ b, lvBad l.lv = b := ⟨_, rfl⟩
  have D1 := Lib.hid (fun w => within_lv _ _ hb1 w)
  rw [hb1] at HK
  clear hb1
  obtain ⟨b2, hb2⟩ : ∃ b, lvBad h.lv = b := ⟨_, rfl⟩
  have D2 := Lib.hid (fun w => within_lv _ _ hb2 w)
  rw [hb2] at HK
  clear hb2
  obtain ⟨b3, hb3⟩ : ∃ b, stBad a.st = b := ⟨_, rfl⟩
  have D3 := Lib.hid (fun w => within_st _ _ hb3 w)
  rw [hb3] at HK
  clear hb3
  obtain ⟨b4, hb4⟩ : ∃ b, stBad h.st = b := ⟨_, rfl⟩
  have D4 := Lib.hid (fun w => within_st _ _ hb4 w)
  rw [hb4] at HK
  clear hb4
  obtain ⟨b5, hb5⟩ : ∃ b, hoBad h.ho = b := ⟨_, rfl⟩
  have D5 := Lib.hid (fun w => within_ho _ _ hb5 w)
  rw [hb5] at HK
  clear hb5
  obtain ⟨bq, hbq⟩ : ∃ b, eqY l.s h.s = b := ⟨_, rfl⟩
  have HQ := Lib.hid hbq
  rw [hbq] at HK
  clear hbq
  go_enter Try.func14, Try.ntmps14
  have HB := Lib.hid (Below.refl w.heap.size w)
  obtain ⟨N1, hN1⟩ : ∃ N, w.heap.size = N := ⟨_, rfl⟩
  have HN1 := Lib.hid hN1
  clear hN1
  go_wp2_with (refine wpList_box (op := ⟨some 4, _, _, _, _, _⟩) rfl 26 (.tmp 0) rfl (loC l) rfl N1 HN1.out ?_; intro w1 k1 b1 s1; refine Hid.out ?_)
  refine Lib.hid ?_
  have K1 := Lib.hid k1
  clear k1
  have le_HB_N1 : w.heap.size ≤ N1 := by rw [← HN1.out]; exact HB.out.size
  have HBn := Lib.hid (HB.out.trans (b1.mono HB.out.size))
  clear HB
  have HB := HBn
  clear HBn
  clear b1 HN1
  obtain ⟨N2, hN2⟩ : ∃ N, w1.heap.size = N := ⟨_, rfl⟩
  have HN2 := Lib.hid hN2
  clear hN2
  go_wp2_with (refine wpList_box (op := ⟨some 5, _, _, _, _, _⟩) rfl 28 (.tmp 1) rfl (ajC a) rfl N2 HN2.out ?_; intro w2 k1 b1 s1; refine Hid.out ?_)
  refine Lib.hid ?_
  have K2 := Lib.hid k1
  clear k1
  have lt_N1_N2 : N1 < N2 := by rw [← HN2.out]; exact K1.out.lt
  have le_HB_N2 : w.heap.size ≤ N2 := by rw [← HN2.out]; exact HB.out.size
  have K1n := Lib.hid (K1.out.below b1 K1.out.lt)
  clear K1
  have K1 := K1n
  clear K1n
  have HBn := Lib.hid (HB.out.trans (b1.mono HB.out.size))
  clear HB
  have HB := HBn
  clear HBn
  clear b1 HN2
  obtain ⟨N3, hN3⟩ : ∃ N, w2.heap.size = N := ⟨_, rfl⟩
  have HN3 := Lib.hid hN3
  clear hN3
  go_wp2_with (refine wpList_box (op := ⟨some 6, _, _, _, _, _⟩) rfl 30 (.tmp 2) rfl (heC h) rfl N3 HN3.out ?_; intro w3 k1 b1 s1; refine Hid.out ?_)
  refine Lib.hid ?_
  have K3 := Lib.hid k1
  clear k1
  have lt_N1_N3 : N1 < N3 := by rw [← HN3.out]; exact K1.out.lt
  have lt_N2_N3 : N2 < N3 := by rw [← HN3.out]; exact K2.out.lt
  have le_HB_N3 : w.heap.size ≤ N3 := by rw [← HN3.out]; exact HB.out.size
  have K1n := Lib.hid (K1.out.below b1 K1.out.lt)
  clear K1
  have K1 := K1n
  clear K1n
  have K2n := Lib.hid (K2.out.below b1 K2.out.lt)
  clear K2
  have K2 := K2n
  clear K2n
  have HBn := Lib.hid (HB.out.trans (b1.mono HB.out.size))
  clear HB
  have HB := HBn
  clear HBn
  clear b1 HN3
  obtain ⟨N4, hN4⟩ : ∃ N, w3.heap.size = N := ⟨_, rfl⟩
  have HN4 := Lib.hid hN4
  clear hN4
  go_wp2_with (refine wpList_new (op := ⟨some 8, _, _, _, _, _⟩) rfl 28 rfl (ajC aj0) zero_ajR N4 HN4.out ?_; intro w4 k1 b1 s1; refine Hid.out ?_)
  refine Lib.hid ?_
  have K4 := Lib.hid k1
  clear k1
  have lt_N1_N4 : N1 < N4 := by rw [← HN4.out]; exact K1.out.lt
  have lt_N2_N4 : N2 < N4 := by rw [← HN4.out]; exact K2.out.lt
  have lt_N3_N4 : N3 < N4 := by rw [← HN4.out]; exact K3.out.lt
  have le_HB_N4 : w.heap.size ≤ N4 := by rw [← HN4.out]; exact HB.out.size
  have K1n := Lib.hid (K1.out.below b1 K1.out.lt)
  clear K1
  have K1 := K1n
  clear K1n
  have K2n := Lib.hid (K2.out.below b1 K2.out.lt)
  clear K2
  have K2 := K2n
  clear K2n
  have K3n := Lib.hid (K3.out.below b1 K3.out.lt)
  clear K3
  have K3 := K3n
  clear K3n
  have HBn := Lib.hid (HB.out.trans (b1.mono HB.out.size))
  clear HB
  have HB := HBn
  clear HBn
  clear b1 HN4
  have cK1_7 : w4.cell? ⟨N1, 7, none⟩ = some (.int .i64 l.lv) := (K1.out.cell 7).trans rfl
  have cK1_8 : w4.cell? ⟨N1, 8, none⟩ = some (.slice l.A l.m l.c) := (K1.out.cell 8).trans rfl
  have cK2_0 : w4.cell? ⟨N2, 0, none⟩ = some (.int .i64 a.st) := (K2.out.cell 0).trans rfl
  have cK3_7 : w4.cell? ⟨N3, 7, none⟩ = some (.int .i64 h.lv) := (K3.out.cell 7).trans rfl
  have cK3_8 : w4.cell? ⟨N3, 8, none⟩ = some (.int .i64 h.ho) := (K3.out.cell 8).trans rfl
  have cK3_9 : w4.cell? ⟨N3, 9, none⟩ = some (.slice h.A h.m h.c) := (K3.out.cell 9).trans rfl
  have cK3_10 : w4.cell? ⟨N3, 10, none⟩ = some (.int .i64 h.st) := (K3.out.cell 10).trans rfl
  cases b1
  rotate_left
  · skip
    have HKX : Hid (K = 1) := Lib.hid (by rw [HK.out]; first | rfl | simp [chkF] | (simp [chkF]; omega))
    have HX : Hid (R = (a, 1)) := Lib.hid (by rw [HE.out, HKX.out]; rfl)
    clear HE HK HCZ HKX
    go_wp2_with (first | ((with_reducible refine (D1.out _).mono ?_); (rintro e wx ⟨rfl, rfl⟩)) | ((with_reducible refine (D2.out _).mono ?_); (rintro e wx ⟨rfl, rfl⟩)) | ((with_reducible refine (D3.out _).mono ?_); (rintro e wx ⟨rfl, rfl⟩)) | ((with_reducible refine (D4.out _).mono ?_); (rintro e wx ⟨rfl, rfl⟩)) | ((with_reducible refine (D5.out _).mono ?_); (rintro e wx ⟨rfl, rfl⟩)) | (refine wpList_ld (op := ⟨some 51, _, _, _, _, _⟩) (by rfl) 28 (.tmp 5) rfl N2 0 rfl (ajC a) _ K2.out.all Try.underlying28 rfl info_ajR ?_; refine Hid.out ?_))
    refine Lib.hid ?_
    go_wp2_with (refine wpList_st rfl 28 (.tmp 8) (.tmp 51) rfl N4 0 rfl (.agg (ajC a)) (ajC a) rfl rfl info_ajR (ajC_one _) K4.out (Nat.le_of_ble_eq_true rfl) (C' := ajC a) (by kernel_rfl) ?_; intro w5 q1; refine Hid.out ?_)
    refine Lib.hid ?_
    have K1n := Lib.hid (K1.out.far q1 (by omega))
    clear K1
    have K1 := K1n
    clear K1n
    have K2n := Lib.hid (K2.out.far q1 (by omega))
    clear K2
    have K2 := K2n
    clear K2n
    have K3n := Lib.hid (K3.out.far q1 (by omega))
    clear K3
    have K3 := K3n
    clear K3n
    have HBn := Lib.hid (HB.out.trans (q1.2.1 _ (by omega)))
    clear HB
    have HB := HBn
    clear HBn
    have K4n : Hid (Blk 28 w5 N4 (ajC a)) := Lib.hid q1.1
    clear K4
    have K4 := K4n
    clear K4n q1
    go_wp2_with fail
    exact bodyPost_ret (results_2 rfl _ w5 N4 (ajC a) (.int .i64 1) Try.underlying28 rfl info_ajR rfl rfl K4.out) rfl ⟨by rw [HX.out], HB.out⟩
  cases b2
  rotate_left
  · skip
    have HKX : Hid (K = 1) := Lib.hid (by rw [HK.out]; first | rfl | simp [chkF] | (simp [chkF]; omega))
    have HX : Hid (R = (a, 1)) := Lib.hid (by rw [HE.out, HKX.out]; rfl)
    clear HE HK HCZ HKX
    go_wp2_with (first | ((with_reducible refine (D1.out _).mono ?_); (rintro e wx ⟨rfl, rfl⟩)) | ((with_reducible refine (D2.out _).mono ?_); (rintro e wx ⟨rfl, rfl⟩)) | ((with_reducible refine (D3.out _).mono ?_); (rintro e wx ⟨rfl, rfl⟩)) | ((with_reducible refine (D4.out _).mono ?_); (rintro e wx ⟨rfl, rfl⟩)) | ((with_reducible refine (D5.out _).mono ?_); (rintro e wx ⟨rfl, rfl⟩)) | (refine wpList_ld (op := ⟨some 51, _, _, _, _, _⟩) (by rfl) 28 (.tmp 5) rfl N2 0 rfl (ajC a) _ K2.out.all Try.underlying28 rfl info_ajR ?_; refine Hid.out ?_))
    refine Lib.hid ?_
    go_wp2_with (refine wpList_st rfl 28 (.tmp 8) (.tmp 51) rfl N4 0 rfl (.agg (ajC a)) (ajC a) rfl rfl info_ajR (ajC_one _) K4.out (Nat.le_of_ble_eq_true rfl) (C' := ajC a) (by kernel_rfl) ?_; intro w5 q1; refine Hid.out ?_)
    refine Lib.hid ?_
    have K1n := Lib.hid (K1.out.far q1 (by omega))
    clear K1
    have K1 := K1n
    clear K1n
    have K2n := Lib.hid (K2.out.far q1 (by omega))
    clear K2
    have K2 := K2n
    clear K2n
    have K3n := Lib.hid (K3.out.far q1 (by omega))
    clear K3
    have K3 := K3n
    clear K3n
    have HBn := Lib.hid (HB.out.trans (q1.2.1 _ (by omega)))
    clear HB
    have HB := HBn
    clear HBn
    have K4n : Hid (Blk 28 w5 N4 (ajC a)) := Lib.hid q1.1
    clear K4
    have K4 := K4n
    clear K4n q1
    go_wp2_with fail
    exact bodyPost_ret (results_2 rfl _ w5 N4 (ajC a) (.int .i64 1) Try.underlying28 rfl info_ajR rfl rfl K4.out) rfl ⟨by rw [HX.out], HB.out⟩
  cases b3
  rotate_left
  · skip
    have HKX : Hid (K = 1) := Lib.hid (by rw [HK.out]; first | rfl | simp [chkF] | (simp [chkF]; omega))
    have HX : Hid (R = (a, 1)) := Lib.hid (by rw [HE.out, HKX.out]; rfl)
    clear HE HK HCZ HKX
    go_wp2_with (first | ((with_reducible refine (D1.out _).mono ?_); (rintro e wx ⟨rfl, rfl⟩)) | ((with_reducible refine (D2.out _).mono ?_); (rintro e wx ⟨rfl, rfl⟩)) | ((with_reducible refine (D3.out _).mono ?_); (rintro e wx ⟨rfl, rfl⟩)) | ((with_reducible refine (D4.out _).mono ?_); (rintro e wx ⟨rfl, rfl⟩)) | ((with_reducible refine (D5.out _).mono ?_); (rintro e wx ⟨rfl, rfl⟩)) | (refine wpList_ld (op := ⟨some 51, _, _, _, _, _⟩) (by rfl) 28 (.tmp 5) rfl N2 0 rfl (ajC a) _ K2.out.all Try.underlying28 rfl info_ajR ?_; refine Hid.out ?_))
    refine Lib.hid ?_
    go_wp2_with (refine wpList_st rfl 28 (.tmp 8) (.tmp 51) rfl N4 0 rfl (.agg (ajC a)) (ajC a) rfl rfl info_ajR (ajC_one _) K4.out (Nat.le_of_ble_eq_true rfl) (C' := ajC a) (by kernel_rfl) ?_; intro w5 q1; refine Hid.out ?_)
    refine Lib.hid ?_
    have K1n := Lib.hid (K1.out.far q1 (by omega))
    clear K1
    have K1 := K1n
    clear K1n
    have K2n := Lib.hid (K2.out.far q1 (by omega))
    clear K2
    have K2 := K2n
    clear K2n
    have K3n := Lib.hid (K3.out.far q1 (by omega))
    clear K3
    have K3 := K3n
    clear K3n
    have HBn := Lib.hid (HB.out.trans (q1.2.1 _ (by omega)))
    clear HB
    have HB := HBn
    clear HBn
    have K4n : Hid (Blk 28 w5 N4 (ajC a)) := Lib.hid q1.1
    clear K4
    have K4 := K4n
    clear K4n q1
    go_wp2_with fail
    exact bodyPost_ret (results_2 rfl _ w5 N4 (ajC a) (.int .i64 1) Try.underlying28 rfl info_ajR rfl rfl K4.out) rfl ⟨by rw [HX.out], HB.out⟩
  cases b4
  rotate_left
  · skip
    have HKX : Hid (K = 1) := Lib.hid (by rw [HK.out]; first | rfl | simp [chkF] | (simp [chkF]; omega))
    have HX : Hid (R = (a, 1)) := Lib.hid (by rw [HE.out, HKX.out]; rfl)
    clear HE HK HCZ HKX
    go_wp2_with (first | ((with_reducible refine (D1.out _).mono ?_); (rintro e wx ⟨rfl, rfl⟩)) | ((with_reducible refine (D2.out _).mono ?_); (rintro e wx ⟨rfl, rfl⟩)) | ((with_reducible refine (D3.out _).mono ?_); (rintro e wx ⟨rfl, rfl⟩)) | ((with_reducible refine (D4.out _).mono ?_); (rintro e wx ⟨rfl, rfl⟩)) | ((with_reducible refine (D5.out _).mono ?_); (rintro e wx ⟨rfl, rfl⟩)) | (refine wpList_ld (op := ⟨some 51, _, _, _, _, _⟩) (by rfl) 28 (.tmp 5) rfl N2 0 rfl (ajC a) _ K2.out.all Try.underlying28 rfl info_ajR ?_; refine Hid.out ?_))
    refine Lib.hid ?_
    go_wp2_with (refine wpList_st rfl 28 (.tmp 8) (.tmp 51) rfl N4 0 rfl (.agg (ajC a)) (ajC a) rfl rfl info_ajR (ajC_one _) K4.out (Nat.le_of_ble_eq_true rfl) (C' := ajC a) (by kernel_rfl) ?_; intro w5 q1; refine Hid.out ?_)
    refine Lib.hid ?_
    have K1n := Lib.hid (K1.out.far q1 (by omega))
    clear K1
    have K1 := K1n
    clear K1n
    have K2n := Lib.hid (K2.out.far q1 (by omega))
    clear K2
    have K2 := K2n
    clear K2n
    have K3n := Lib.hid (K3.out.far q1 (by omega))
    clear K3
    have K3 := K3n
    clear K3n
    have HBn := Lib.hid (HB.out.trans (q1.2.1 _ (by omega)))
    clear HB
    have HB := HBn
    clear HBn
    have K4n : Hid (Blk 28 w5 N4 (ajC a)) := Lib.hid q1.1
    clear K4
    have K4 := K4n
    clear K4n q1
    go_wp2_with fail
    exact bodyPost_ret (results_2 rfl _ w5 N4 (ajC a) (.int .i64 1) Try.underlying28 rfl info_ajR rfl rfl K4.out) rfl ⟨by rw [HX.out], HB.out⟩
  cases b5
  rotate_left
  · skip
    have HKX : Hid (K = 1) := Lib.hid (by rw [HK.out]; first | rfl | simp [chkF] | (simp [chkF]; omega))
    have HX : Hid (R = (a, 1)) := Lib.hid (by rw [HE.out, HKX.out]; rfl)
    clear HE HK HCZ HKX
    go_wp2_with (first | ((with_reducible refine (D1.out _).mono ?_); (rintro e wx ⟨rfl, rfl⟩)) | ((with_reducible refine (D2.out _).mono ?_); (rintro e wx ⟨rfl, rfl⟩)) | ((with_reducible refine (D3.out _).mono ?_); (rintro e wx ⟨rfl, rfl⟩)) | ((with_reducible refine (D4.out _).mono ?_); (rintro e wx ⟨rfl, rfl⟩)) | ((with_reducible refine (D5.out _).mono ?_); (rintro e wx ⟨rfl, rfl⟩)) | (refine wpList_ld (op := ⟨some 51, _, _, _, _, _⟩) (by rfl) 28 (.tmp 5) rfl N2 0 rfl (ajC a) _ K2.out.all Try.underlying28 rfl info_ajR ?_; refine Hid.out ?_))
    refine Lib.hid ?_
    go_wp2_with (refine wpList_st rfl 28 (.tmp 8) (.tmp 51) rfl N4 0 rfl (.agg (ajC a)) (ajC a) rfl rfl info_ajR (ajC_one _) K4.out (Nat.le_of_ble_eq_true rfl) (C' := ajC a) (by kernel_rfl) ?_; intro w5 q1; refine Hid.out ?_)
    refine Lib.hid ?_
    have K1n := Lib.hid (K1.out.far q1 (by omega))
    clear K1
    have K1 := K1n
    clear K1n
    have K2n := Lib.hid (K2.out.far q1 (by omega))
    clear K2
    have K2 := K2n
    clear K2n
    have K3n := Lib.hid (K3.out.far q1 (by omega))
    clear K3
    have K3 := K3n
    clear K3n
    have HBn := Lib.hid (HB.out.trans (q1.2.1 _ (by omega)))
    clear HB
    have HB := HBn
    clear HBn
    have K4n : Hid (Blk 28 w5 N4 (ajC a)) := Lib.hid q1.1
    clear K4
    have K4 := K4n
    clear K4n q1
    go_wp2_with fail
    exact bodyPost_ret (results_2 rfl _ w5 N4 (ajC a) (.int .i64 1) Try.underlying28 rfl info_ajR rfl rfl K4.out) rfl ⟨by rw [HX.out], HB.out⟩
  by_cases n1 : now < 0
  · skip
    rw [decide_eq_true n1] at HK
    have HKX : Hid (K = 1) := Lib.hid (by rw [HK.out]; first | rfl | simp [chkF] | (simp [chkF]; omega))
    have HX : Hid (R = (a, 1)) := Lib.hid (by rw [HE.out, HKX.out]; rfl)
    clear HE HK HCZ HKX
    go_wp2_with (first | ((with_reducible refine (D1.out _).mono ?_); (rintro e wx ⟨rfl, rfl⟩)) | ((with_reducible refine (D2.out _).mono ?_); (rintro e wx ⟨rfl, rfl⟩)) | ((with_reducible refine (D3.out _).mono ?_); (rintro e wx ⟨rfl, rfl⟩)) | ((with_reducible refine (D4.out _).mono ?_); (rintro e wx ⟨rfl, rfl⟩)) | ((with_reducible refine (D5.out _).mono ?_); (rintro e wx ⟨rfl, rfl⟩)) | (refine wpList_ld (op := ⟨some 51, _, _, _, _, _⟩) (by rfl) 28 (.tmp 5) rfl N2 0 rfl (ajC a) _ K2.out.all Try.underlying28 rfl info_ajR ?_; refine Hid.out ?_))
    refine Lib.hid ?_
    go_wp2_with (refine wpList_st rfl 28 (.tmp 8) (.tmp 51) rfl N4 0 rfl (.agg (ajC a)) (ajC a) rfl rfl info_ajR (ajC_one _) K4.out (Nat.le_of_ble_eq_true rfl) (C' := ajC a) (by kernel_rfl) ?_; intro w5 q1; refine Hid.out ?_)
    refine Lib.hid ?_
    have K1n := Lib.hid (K1.out.far q1 (by omega))
    clear K1
    have K1 := K1n
    clear K1n
    have K2n := Lib.hid (K2.out.far q1 (by omega))
    clear K2
    have K2 := K2n
    clear K2n
    have K3n := Lib.hid (K3.out.far q1 (by omega))
    clear K3
    have K3 := K3n
    clear K3n
    have HBn := Lib.hid (HB.out.trans (q1.2.1 _ (by omega)))
    clear HB
    have HB := HBn
    clear HBn
    have K4n : Hid (Blk 28 w5 N4 (ajC a)) := Lib.hid q1.1
    clear K4
    have K4 := K4n
    clear K4n q1
    go_wp2_with fail
    exact bodyPost_ret (results_2 rfl _ w5 N4 (ajC a) (.int .i64 1) Try.underlying28 rfl info_ajR rfl rfl K4.out) rfl ⟨by rw [HX.out], HB.out⟩
  rw [decide_eq_false n1] at HK
  by_cases n2 : 4611686018427387904 < now
  · skip
    rw [decide_eq_true n2] at HK
    have HKX : Hid (K = 1) := Lib.hid (by rw [HK.out]; first | rfl | simp [chkF] | (simp [chkF]; omega))
    have HX : Hid (R = (a, 1)) := Lib.hid (by rw [HE.out, HKX.out]; rfl)
    clear HE HK HCZ HKX
    go_wp2_with (first | ((with_reducible refine (D1.out _).mono ?_); (rintro e wx ⟨rfl, rfl⟩)) | ((with_reducible refine (D2.out _).mono ?_); (rintro e wx ⟨rfl, rfl⟩)) | ((with_reducible refine (D3.out _).mono ?_); (rintro e wx ⟨rfl, rfl⟩)) | ((with_reducible refine (D4.out _).mono ?_); (rintro e wx ⟨rfl, rfl⟩)) | ((with_reducible refine (D5.out _).mono ?_); (rintro e wx ⟨rfl, rfl⟩)) | (refine wpList_ld (op := ⟨some 51, _, _, _, _, _⟩) (by rfl) 28 (.tmp 5) rfl N2 0 rfl (ajC a) _ K2.out.all Try.underlying28 rfl info_ajR ?_; refine Hid.out ?_))
    refine Lib.hid ?_
    go_wp2_with (refine wpList_st rfl 28 (.tmp 8) (.tmp 51) rfl N4 0 rfl (.agg (ajC a)) (ajC a) rfl rfl info_ajR (ajC_one _) K4.out (Nat.le_of_ble_eq_true rfl) (C' := ajC a) (by kernel_rfl) ?_; intro w5 q1; refine Hid.out ?_)
    refine Lib.hid ?_
    have K1n := Lib.hid (K1.out.far q1 (by omega))
    clear K1
    have K1 := K1n
    clear K1n
    have K2n := Lib.hid (K2.out.far q1 (by omega))
    clear K2
    have K2 := K2n
    clear K2n
    have K3n := Lib.hid (K3.out.far q1 (by omega))
    clear K3
    have K3 := K3n
    clear K3n
    have HBn := Lib.hid (HB.out.trans (q1.2.1 _ (by omega)))
    clear HB
    have HB := HBn
    clear HBn
    have K4n : Hid (Blk 28 w5 N4 (ajC a)) := Lib.hid q1.1
    clear K4
    have K4 := K4n
    clear K4n q1
    go_wp2_with fail
    exact bodyPost_ret (results_2 rfl _ w5 N4 (ajC a) (.int .i64 1) Try.underlying28 rfl info_ajR rfl rfl K4.out) rfl ⟨by rw [HX.out], HB.out⟩
  rw [decide_eq_false n2] at HK
  by_cases n3 : 3 < l.m
  · skip
    rw [decide_eq_true n3] at HK
    have n3i : (3 : Int) < ((l.m : Nat) : Int) := by omega
    have HKX : Hid (K = 2) := Lib.hid (by rw [HK.out]; first | rfl | simp [chkF] | (simp [chkF]; omega))
    have HX : Hid (R = (a, 2)) := Lib.hid (by rw [HE.out, HKX.out]; rfl)
    clear HE HK HCZ HKX
    go_wp2_with (first | ((with_reducible refine (D1.out _).mono ?_); (rintro e wx ⟨rfl, rfl⟩)) | ((with_reducible refine (D2.out _).mono ?_); (rintro e wx ⟨rfl, rfl⟩)) | ((with_reducible refine (D3.out _).mono ?_); (rintro e wx ⟨rfl, rfl⟩)) | ((with_reducible refine (D4.out _).mono ?_); (rintro e wx ⟨rfl, rfl⟩)) | ((with_reducible refine (D5.out _).mono ?_); (rintro e wx ⟨rfl, rfl⟩)) | (refine wpList_ld (op := ⟨some 62, _, _, _, _, _⟩) (by rfl) 28 (.tmp 5) rfl N2 0 rfl (ajC a) _ K2.out.all Try.underlying28 rfl info_ajR ?_; refine Hid.out ?_))
    refine Lib.hid ?_
    go_wp2_with (refine wpList_st rfl 28 (.tmp 8) (.tmp 62) rfl N4 0 rfl (.agg (ajC a)) (ajC a) rfl rfl info_ajR (ajC_one _) K4.out (Nat.le_of_ble_eq_true rfl) (C' := ajC a) (by kernel_rfl) ?_; intro w5 q1; refine Hid.out ?_)
    refine Lib.hid ?_
    have K1n := Lib.hid (K1.out.far q1 (by omega))
    clear K1
    have K1 := K1n
    clear K1n
    have K2n := Lib.hid (K2.out.far q1 (by omega))
    clear K2
    have K2 := K2n
    clear K2n
    have K3n := Lib.hid (K3.out.far q1 (by omega))
    clear K3
    have K3 := K3n
    clear K3n
    have HBn := Lib.hid (HB.out.trans (q1.2.1 _ (by omega)))
    clear HB
    have HB := HBn
    clear HBn
    have K4n : Hid (Blk 28 w5 N4 (ajC a)) := Lib.hid q1.1
    clear K4
    have K4 := K4n
    clear K4n q1
    go_wp2_with fail
    exact bodyPost_ret (results_2 rfl _ w5 N4 (ajC a) (.int .i64 2) Try.underlying28 rfl info_ajR rfl rfl K4.out) rfl ⟨by rw [HX.out], HB.out⟩
  rw [decide_eq_false n3] at HK
  have n3i : ¬ (3 : Int) < ((l.m : Nat) : Int) := by omega
  by_cases n4 : 3 < h.m
  · skip
    rw [decide_eq_true n4] at HK
    have n4i : (3 : Int) < ((h.m : Nat) : Int) := by omega
    have HKX : Hid (K = 2) := Lib.hid (by rw [HK.out]; first | rfl | simp [chkF] | (simp [chkF]; omega))
    have HX : Hid (R = (a, 2)) := Lib.hid (by rw [HE.out, HKX.out]; rfl)
    clear HE HK HCZ HKX
    go_wp2_with (first | ((with_reducible refine (D1.out _).mono ?_); (rintro e wx ⟨rfl, rfl⟩)) | ((with_reducible refine (D2.out _).mono ?_); (rintro e wx ⟨rfl, rfl⟩)) | ((with_reducible refine (D3.out _).mono ?_); (rintro e wx ⟨rfl, rfl⟩)) | ((with_reducible refine (D4.out _).mono ?_); (rintro e wx ⟨rfl, rfl⟩)) | ((with_reducible refine (D5.out _).mono ?_); (rintro e wx ⟨rfl, rfl⟩)) | (refine wpList_ld (op := ⟨some 62, _, _, _, _, _⟩) (by rfl) 28 (.tmp 5) rfl N2 0 rfl (ajC a) _ K2.out.all Try.underlying28 rfl info_ajR ?_; refine Hid.out ?_))
    refine Lib.hid ?_
    go_wp2_with (refine wpList_st rfl 28 (.tmp 8) (.tmp 62) rfl N4 0 rfl (.agg (ajC a)) (ajC a) rfl rfl info_ajR (ajC_one _) K4.out (Nat.le_of_ble_eq_true rfl) (C' := ajC a) (by kernel_rfl) ?_; intro w5 q1; refine Hid.out ?_)
    refine Lib.hid ?_
    have K1n := Lib.hid (K1.out.far q1 (by omega))
    clear K1
    have K1 := K1n
    clear K1n
    have K2n := Lib.hid (K2.out.far q1 (by omega))
    clear K2
    have K2 := K2n
    clear K2n
    have K3n := Lib.hid (K3.out.far q1 (by omega))
    clear K3
    have K3 := K3n
    clear K3n
    have HBn := Lib.hid (HB.out.trans (q1.2.1 _ (by omega)))
    clear HB
    have HB := HBn
    clear HBn
    have K4n : Hid (Blk 28 w5 N4 (ajC a)) := Lib.hid q1.1
    clear K4
    have K4 := K4n
    clear K4n q1
    go_wp2_with fail
    exact bodyPost_ret (results_2 rfl _ w5 N4 (ajC a) (.int .i64 2) Try.underlying28 rfl info_ajR rfl rfl K4.out) rfl ⟨by rw [HX.out], HB.out⟩
  rw [decide_eq_false n4] at HK
  have n4i : ¬ (3 : Int) < ((h.m : Nat) : Int) := by omega
  go_wp2_with (first | ((with_reducible refine (D1.out _).mono ?_); (rintro e wx ⟨rfl, rfl⟩)) | ((with_reducible refine (D2.out _).mono ?_); (rintro e wx ⟨rfl, rfl⟩)) | ((with_reducible refine (D3.out _).mono ?_); (rintro e wx ⟨rfl, rfl⟩)) | ((with_reducible refine (D4.out _).mono ?_); (rintro e wx ⟨rfl, rfl⟩)) | ((with_reducible refine (D5.out _).mono ?_); (rintro e wx ⟨rfl, rfl⟩)) | (refine wpList_ld (op := ⟨some 64, _, _, _, _, _⟩) (by rfl) 23 (.tmp 63) rfl N1 0 rfl (syC l.s) _ K1.out.los Try.underlying23 rfl info_sys ?_; refine Hid.out ?_))
  refine Lib.hid ?_
  go_wp2_with (refine wpList_ld (op := ⟨some 66, _, _, _, _, _⟩) (by rfl) 23 (.tmp 65) rfl N3 0 rfl (syC h.s) _ K3.out.hes Try.underlying23 rfl info_sys ?_; refine Hid.out ?_)
  refine Lib.hid ?_
  go_wp2_with (refine wpList_gv (op := ⟨some 67, _, _, _, _, _⟩) _ (by rfl) (sys_eql _ _ _ _ _ rfl rfl l.s h.s HBl.out HBh.out rfl rfl _ HQ.out _) ?_; refine Hid.out ?_)
  refine Lib.hid ?_
  cases bq
  rotate_left
  · skip
    have HKX : Hid (K = 7) := Lib.hid (by rw [HK.out]; first | rfl | simp [chkF] | (simp [chkF]; omega))
    have HX : Hid (R = (a, 7)) := Lib.hid (by rw [HE.out, HKX.out]; rfl)
    clear HE HK HCZ HKX
    go_wp2_with (first | ((with_reducible refine (D1.out _).mono ?_); (rintro e wx ⟨rfl, rfl⟩)) | ((with_reducible refine (D2.out _).mono ?_); (rintro e wx ⟨rfl, rfl⟩)) | ((with_reducible refine (D3.out _).mono ?_); (rintro e wx ⟨rfl, rfl⟩)) | ((with_reducible refine (D4.out _).mono ?_); (rintro e wx ⟨rfl, rfl⟩)) | ((with_reducible refine (D5.out _).mono ?_); (rintro e wx ⟨rfl, rfl⟩)) | (refine wpList_ld (op := ⟨some 68, _, _, _, _, _⟩) (by rfl) 28 (.tmp 5) rfl N2 0 rfl (ajC a) _ K2.out.all Try.underlying28 rfl info_ajR ?_; refine Hid.out ?_))
    refine Lib.hid ?_
    go_wp2_with (refine wpList_st rfl 28 (.tmp 8) (.tmp 68) rfl N4 0 rfl (.agg (ajC a)) (ajC a) rfl rfl info_ajR (ajC_one _) K4.out (Nat.le_of_ble_eq_true rfl) (C' := ajC a) (by kernel_rfl) ?_; intro w5 q1; refine Hid.out ?_)
    refine Lib.hid ?_
    have K1n := Lib.hid (K1.out.far q1 (by omega))
    clear K1
    have K1 := K1n
    clear K1n
    have K2n := Lib.hid (K2.out.far q1 (by omega))
    clear K2
    have K2 := K2n
    clear K2n
    have K3n := Lib.hid (K3.out.far q1 (by omega))
    clear K3
    have K3 := K3n
    clear K3n
    have HBn := Lib.hid (HB.out.trans (q1.2.1 _ (by omega)))
    clear HB
    have HB := HBn
    clear HBn
    have K4n : Hid (Blk 28 w5 N4 (ajC a)) := Lib.hid q1.1
    clear K4
    have K4 := K4n
    clear K4n q1
    go_wp2_with fail
    exact bodyPost_ret (results_2 rfl _ w5 N4 (ajC a) (.int .i64 7) Try.underlying28 rfl info_ajR rfl rfl K4.out) rfl ⟨by rw [HX.out], HB.out⟩
  have HK0 : K = 0 := by rw [HK.out]; rfl
  subst HK0
  obtain ⟨z1, z2, z3, z4, z5, z6, z7, z8, z9⟩ := HCZ.out rfl
  have HE1 := Lib.hid (HE.out.trans (if_neg (by simp)))
  have HZ1 := Lib.hid z1
  have HZ2 := Lib.hid z2
  clear HE HK HCZ z1 z2 z9 D1 D2 D3 D4 D5 n1 n2 n3 n4 n3i n4i
  go_wp2_with fail
  clear cK1_7 cK1_8 cK2_0 cK3_7 cK3_8 cK3_9 cK3_10
  refine wp_region_held_drew (S := fun w' => Blk 26 w' N1 (loC l) ∧ Blk 28 w' N2 (ajC a) ∧ Blk 30 w' N3 (heC h) ∧ Blk 28 w' N4 (ajC aj0) ∧ Below w.heap.size w w') (by kernel_rfl) ⟨K1.out, K2.out, K3.out, K4.out, HB.out.drew⟩ (fun hS => ?_)
  generalize hW5 : w4.drew = W5 at hS ⊢
  clear hW5
  clear K1
  clear K2
  clear K3
  clear K4
  clear HB
  have K1 := Lib.hid hS.1
  have K2 := Lib.hid hS.2.1
  have K3 := Lib.hid hS.2.2.1
  have K4 := Lib.hid hS.2.2.2.1
  have HB := Lib.hid hS.2.2.2.2
  have HSHA := Lib.hid (fun (q : Nat) (w2 : World) (hb : Below w.heap.size w w2) => rshare_any l.A h.A l.m l.c h.m h.c L H w2 (HL.out.below hb) (HH.out.below hb) hlm hhm)
  refine takeY (i := 0) (some 69) (v := .pointer (some ⟨N1, 7, none⟩)) rfl rfl (by kernel_rfl) (by kernel_rfl) (by kernel_rfl) (fun _ _ _ h => h) (by rfl) (fun w' hS => by go_simp) hS ?_
  simp only [Act.put, List.setIfInBounds_toArray, List.set_cons_zero, List.set_cons_succ]
  refine takeY (i := 1) (some 70) (v := .int .i64 l.lv) rfl rfl (by kernel_rfl) (by kernel_rfl) (by kernel_rfl) (fun _ _ _ h => h) (by rfl) (fun w' hS => by (have c9 : w'.cell? ⟨N1, 7, none⟩ = some (.int .i64 l.lv) := (hS.1.cell 7).trans rfl; clear hS; go_simp)) hS ?_
  simp only [Act.put, List.setIfInBounds_toArray, List.set_cons_zero, List.set_cons_succ]
  refine takeY (i := 2) (some 71) (v := .pointer (some ⟨N3, 7, none⟩)) rfl rfl (by kernel_rfl) (by kernel_rfl) (by kernel_rfl) (fun _ _ _ h => h) (by rfl) (fun w' hS => by go_simp) hS ?_
  simp only [Act.put, List.setIfInBounds_toArray, List.set_cons_zero, List.set_cons_succ]
  refine takeY (i := 3) (some 72) (v := .int .i64 h.lv) rfl rfl (by kernel_rfl) (by kernel_rfl) (by kernel_rfl) (fun _ _ _ h => h) (by rfl) (fun w' hS => by (have c9 : w'.cell? ⟨N3, 7, none⟩ = some (.int .i64 h.lv) := (hS.2.2.1.cell 7).trans rfl; clear hS; go_simp)) hS ?_
  simp only [Act.put, List.setIfInBounds_toArray, List.set_cons_zero, List.set_cons_succ]
  refine takeY (i := 4) (some 73) (v := .pointer (some ⟨N1, 8, none⟩)) rfl rfl (by kernel_rfl) (by kernel_rfl) (by kernel_rfl) (fun _ _ _ h => h) (by rfl) (fun w' hS => by go_simp) hS ?_
  simp only [Act.put, List.setIfInBounds_toArray, List.set_cons_zero, List.set_cons_succ]
  refine takeY (i := 5) (some 74) (v := .slice l.A l.m l.c) rfl rfl (by kernel_rfl) (by kernel_rfl) (by kernel_rfl) (fun _ _ _ h => h) (by rfl) (fun w' hS => by (have c9 : w'.cell? ⟨N1, 8, none⟩ = some (.slice l.A l.m l.c) := (hS.1.cell 8).trans rfl; clear hS; go_simp)) hS ?_
  simp only [Act.put, List.setIfInBounds_toArray, List.set_cons_zero, List.set_cons_succ]
  refine takeY (i := 6) (some 75) (v := .pointer (some ⟨N3, 9, none⟩)) rfl rfl (by kernel_rfl) (by kernel_rfl) (by kernel_rfl) (fun _ _ _ h => h) (by rfl) (fun w' hS => by go_simp) hS ?_
  simp only [Act.put, List.setIfInBounds_toArray, List.set_cons_zero, List.set_cons_succ]
  refine takeY (i := 7) (some 76) (v := .slice h.A h.m h.c) rfl rfl (by kernel_rfl) (by kernel_rfl) (by kernel_rfl) (fun _ _ _ h => h) (by rfl) (fun w' hS => by (have c9 : w'.cell? ⟨N3, 9, none⟩ = some (.slice h.A h.m h.c) := (hS.2.2.1.cell 9).trans rfl; clear hS; go_simp)) hS ?_
  simp only [Act.put, List.setIfInBounds_toArray, List.set_cons_zero, List.set_cons_succ]
  have HRS := Lib.hid (HSHA.out 0 _ HB.out)
  rw [HSH.out] at HRS
  refine takeC (i := 8) (some 77) 32 #[.slice l.A l.m l.c, .slice h.A h.m h.c] (.bool s) (R := fun w' => Below W5.heap.size W5 w') rfl rfl (by kernel_rfl) (by rfl) (by go_simp) (HRS.out.mono (fun e w' ⟨h1, r, h2⟩ => ⟨h1, by rw [h2]; exact bdrewN (Below.refl _ _) r⟩)) (fun w' hb => ⟨hS.1.below hb hS.1.lt, hS.2.1.below hb hS.2.1.lt, hS.2.2.1.below hb hS.2.2.1.lt, hS.2.2.2.1.below hb hS.2.2.2.1.lt, hS.2.2.2.2.trans (hb.mono hS.2.2.2.2.size)⟩) (fun W6 hb1 hS2 => ?_)
  simp only [Act.put, List.setIfInBounds_toArray, List.set_cons_zero, List.set_cons_succ]
  clear K1
  clear K2
  clear K3
  clear K4
  clear HB
  clear hS hb1
  have hS := hS2
  clear hS2
  have K1 := Lib.hid hS.1
  have K2 := Lib.hid hS.2.1
  have K3 := Lib.hid hS.2.2.1
  have K4 := Lib.hid hS.2.2.2.1
  have HB := Lib.hid hS.2.2.2.2
  refine takeC (i := 9) (some 78) 31 #[.int .i64 l.lv, .int .i64 h.lv, .bool s] (.int .i64 (comI l.lv h.lv s)) (R := fun w' => W6 = w') rfl rfl (by kernel_rfl) (by rfl) (by go_simp) (common_any _ _ _ HZ1.out HZ2.out _) (fun w' hb => hb ▸ hS) (fun W7 hb1 hS2 => ?_)
  subst hb1
  clear hS2
  simp only [Act.put, List.setIfInBounds_toArray, List.set_cons_zero, List.set_cons_succ]
  refine takeY (i := 10) (some 10) (v := .int .i64 (comI l.lv h.lv s)) rfl rfl (by kernel_rfl) (by kernel_rfl) (by kernel_rfl) (fun _ _ _ h => h) (by rfl) (fun w' hS => by go_simp) hS ?_
  simp only [Act.put, List.setIfInBounds_toArray, List.set_cons_zero, List.set_cons_succ]
  clear hS
  refine wpAnyH_done (by kernel_rfl) ?_ _
  clear HSHA HRS
  obtain ⟨C, hC⟩ : ∃ C, comI l.lv h.lv s = C := ⟨_, rfl⟩
  rw [hC] at HE1 ⊢
  clear hC
  by_cases hc : C = 0
  · skip
    have HX : Hid (R = (ajD, 12)) := Lib.hid (by rw [HE1.out, if_pos hc])
    have hcb : (C == 0) = true := by simpa using hc
    clear HE1 hc
    go_wp2_with (refine wpList_v (op := ⟨some 81, _, _, _, _, _⟩) rfl _ (build_downR _ _ _ rfl rfl _) ?_; refine Hid.out ?_)
    refine Lib.hid ?_
    go_wp2_with (refine wpList_st rfl 28 (.tmp 8) (.tmp 81) rfl N4 0 rfl (.agg (ajC ajD)) (ajC ajD) rfl rfl info_ajR (ajC_one _) K4.out (Nat.le_of_ble_eq_true rfl) (C' := ajC ajD) (by kernel_rfl) ?_; intro w8 q1; refine Hid.out ?_)
    refine Lib.hid ?_
    have K1n := Lib.hid (K1.out.far q1 (by omega))
    clear K1
    have K1 := K1n
    clear K1n
    have K2n := Lib.hid (K2.out.far q1 (by omega))
    clear K2
    have K2 := K2n
    clear K2n
    have K3n := Lib.hid (K3.out.far q1 (by omega))
    clear K3
    have K3 := K3n
    clear K3n
    have HBn := Lib.hid (HB.out.trans (q1.2.1 _ (by omega)))
    clear HB
    have HB := HBn
    clear HBn
    have K4n : Hid (Blk 28 w8 N4 (ajC ajD)) := Lib.hid q1.1
    clear K4
    have K4 := K4n
    clear K4n q1
    go_wp2_with fail
    exact bodyPost_ret (results_2 rfl _ w8 N4 (ajC ajD) (.int .i64 12) Try.underlying28 rfl info_ajR rfl rfl K4.out) rfl ⟨by rw [HX.out], HB.out⟩
  have HE2 := Lib.hid (HE1.out.trans (if_neg hc))
  have hcb : (C == 0) = false := by simpa using hc
  clear HE1 hc
  obtain ⟨q, hq⟩ : ∃ q, eqY h.th l.s = q := ⟨_, rfl⟩
  have HQ2 := Lib.hid hq
  rw [hq] at HE2
  clear hq
  have cK3_11 : W6.cell? ⟨N3, 11, none⟩ = some (.bool h.nm) := (K3.out.cell 11).trans rfl
  have cK3_18 : W6.cell? ⟨N3, 18, none⟩ = some (.int .u8 h.tn) := (K3.out.cell 18).trans rfl
  have cK1_6 : W6.cell? ⟨N1, 6, none⟩ = some (.int .u8 l.nu) := (K1.out.cell 6).trans rfl
  obtain ⟨nm, hnm⟩ : ∃ b, h.nm = b := ⟨_, rfl⟩
  have HNM := Lib.hid hnm
  rw [hnm] at HE2 cK3_11
  clear hnm
  have key : nm = false ∨ (nm = true ∧ q = false) ∨ (nm = true ∧ q = true ∧ (h.tn == l.nu) = false) ∨ (nm = true ∧ q = true ∧ (h.tn == l.nu) = true) := by cases nm <;> cases q <;> cases (h.tn == l.nu) <;> simp
  go_upto_region 10 with (fail)
  obtain ⟨NB, hNB⟩ : ∃ b, (nm && (!q || h.tn != l.nu)) = b := ⟨_, rfl⟩
  have HNB := Lib.hid hNB
  rw [hNB] at HE2
  clear hNB
  go_cut [98] (fun s wx => s = .bool NB ∧ W6 = wx)
  case first =>
    rcases key with rfl | ⟨rfl, rfl⟩ | ⟨rfl, rfl, hn⟩ | ⟨rfl, rfl, hn⟩
    · skip
      have hNB : NB = false := by rw [← HNB.out]; rfl
      subst hNB
      go_wp2_with fail
      go_meet
      case rel => exact ⟨rfl, rfl⟩
    · skip
      have hNB : NB = true := by rw [← HNB.out]; rfl
      subst hNB
      go_wp2_with (refine wpList_ld (op := ⟨some 86, _, _, _, _, _⟩) (by rfl) 23 (.tmp 85) rfl N3 12 rfl (syC h.th) _ K3.out.het Try.underlying23 rfl info_sys ?_; refine Hid.out ?_)
      refine Lib.hid ?_
      go_wp2_with (refine wpList_ld (op := ⟨some 88, _, _, _, _, _⟩) (by rfl) 23 (.tmp 87) rfl N1 0 rfl (syC l.s) _ K1.out.los Try.underlying23 rfl info_sys ?_; refine Hid.out ?_)
      refine Lib.hid ?_
      go_wp2_with (refine wpList_gv (op := ⟨some 89, _, _, _, _, _⟩) _ (by rfl) (sys_eql _ _ _ _ _ rfl rfl h.th l.s HBt.out HBl.out rfl rfl _ HQ2.out _) ?_; refine Hid.out ?_)
      refine Lib.hid ?_
      go_wp2_with fail
      go_meet
      case rel => exact ⟨rfl, rfl⟩
    · skip
      have hNB : NB = true := by rw [← HNB.out]; simp only [bne, hn]; rfl
      subst hNB
      go_wp2_with (refine wpList_ld (op := ⟨some 86, _, _, _, _, _⟩) (by rfl) 23 (.tmp 85) rfl N3 12 rfl (syC h.th) _ K3.out.het Try.underlying23 rfl info_sys ?_; refine Hid.out ?_)
      refine Lib.hid ?_
      go_wp2_with (refine wpList_ld (op := ⟨some 88, _, _, _, _, _⟩) (by rfl) 23 (.tmp 87) rfl N1 0 rfl (syC l.s) _ K1.out.los Try.underlying23 rfl info_sys ?_; refine Hid.out ?_)
      refine Lib.hid ?_
      go_wp2_with (refine wpList_gv (op := ⟨some 89, _, _, _, _, _⟩) _ (by rfl) (sys_eql _ _ _ _ _ rfl rfl h.th l.s HBt.out HBl.out rfl rfl _ HQ2.out _) ?_; refine Hid.out ?_)
      refine Lib.hid ?_
      go_wp2_with fail
      go_meet
      case rel => exact ⟨rfl, rfl⟩
    · skip
      have hNB : NB = false := by rw [← HNB.out]; simp only [bne, hn]; rfl
      subst hNB
      go_wp2_with (refine wpList_ld (op := ⟨some 86, _, _, _, _, _⟩) (by rfl) 23 (.tmp 85) rfl N3 12 rfl (syC h.th) _ K3.out.het Try.underlying23 rfl info_sys ?_; refine Hid.out ?_)
      refine Lib.hid ?_
      go_wp2_with (refine wpList_ld (op := ⟨some 88, _, _, _, _, _⟩) (by rfl) 23 (.tmp 87) rfl N1 0 rfl (syC l.s) _ K1.out.los Try.underlying23 rfl info_sys ?_; refine Hid.out ?_)
      refine Lib.hid ?_
      go_wp2_with (refine wpList_gv (op := ⟨some 89, _, _, _, _, _⟩) _ (by rfl) (sys_eql _ _ _ _ _ rfl rfl h.th l.s HBt.out HBl.out rfl rfl _ HQ2.out _) ?_; refine Hid.out ?_)
      refine Lib.hid ?_
      go_wp2_with fail
      go_meet
      case rel => exact ⟨rfl, rfl⟩
  case rest =>
  obtain ⟨rfl, hwx⟩ := hcut
  subst hwx
  clear key cK3_11 cK3_18 cK1_6
  cases NB
  rotate_left
  · skip
    have HX : Hid (R = (a, 0)) := Lib.hid HE2.out
    clear HE2
    go_wp2_with (first  | (refine wpList_ld (op := ⟨some 99, _, _, _, _, _⟩) (by rfl) 28 (.tmp 5) rfl N2 0 rfl (ajC a) _ K2.out.all Try.underlying28 rfl info_ajR ?_; refine Hid.out ?_))
    refine Lib.hid ?_
    go_wp2_with (refine wpList_st rfl 28 (.tmp 8) (.tmp 99) rfl N4 0 rfl (.agg (ajC a)) (ajC a) rfl rfl info_ajR (ajC_one _) K4.out (Nat.le_of_ble_eq_true rfl) (C' := ajC a) (by kernel_rfl) ?_; intro w8 q1; refine Hid.out ?_)
    refine Lib.hid ?_
    have K1n := Lib.hid (K1.out.far q1 (by omega))
    clear K1
    have K1 := K1n
    clear K1n
    have K2n := Lib.hid (K2.out.far q1 (by omega))
    clear K2
    have K2 := K2n
    clear K2n
    have K3n := Lib.hid (K3.out.far q1 (by omega))
    clear K3
    have K3 := K3n
    clear K3n
    have HBn := Lib.hid (HB.out.trans (q1.2.1 _ (by omega)))
    clear HB
    have HB := HBn
    clear HBn
    have K4n : Hid (Blk 28 w8 N4 (ajC a)) := Lib.hid q1.1
    clear K4
    have K4 := K4n
    clear K4n q1
    go_wp2_with fail
    exact bodyPost_ret (results_2 rfl _ w8 N4 (ajC a) (.int .i64 0) Try.underlying28 rfl info_ajR rfl rfl K4.out) rfl ⟨by rw [HX.out], HB.out⟩
  have HE3 : Hid (R = if behS (toS a h C) (ofS h) = 2 then (ajD, 0) else (⟨behS (toS a h C) (ofS h), h.s, h.nu, C, now + h.ho⟩, 0)) := Lib.hid HE2.out
  clear HE2
  have cK2_0 : W6.cell? ⟨N2, 0, none⟩ = some (.int .i64 a.st) := (K2.out.cell 0).trans rfl
  have cK2_7 : W6.cell? ⟨N2, 7, none⟩ = some (.int .u8 a.nu) := (K2.out.cell 7).trans rfl
  have cK2_8 : W6.cell? ⟨N2, 8, none⟩ = some (.int .i64 a.lv) := (K2.out.cell 8).trans rfl
  have cK3_6 : W6.cell? ⟨N3, 6, none⟩ = some (.int .u8 h.nu) := (K3.out.cell 6).trans rfl
  go_upto_region 13 with (fail)
  obtain ⟨TB, hTB⟩ : ∃ b, (a.st != 2 && !(eqY a.p h.s && (a.nu == h.nu && a.lv == C))) = b := ⟨_, rfl⟩
  have HTB := Lib.hid hTB
  clear hTB
  obtain ⟨q3, hq⟩ : ∃ q, eqY a.p h.s = q := ⟨_, rfl⟩
  have HQ3 := Lib.hid hq
  clear hq
  obtain ⟨st, hst⟩ : ∃ b, a.st = b := ⟨_, rfl⟩
  have HST := Lib.hid hst
  rw [hst] at cK2_0 z3 ⊢
  clear hst
  go_cut [124] (fun s wx => s = .bool TB ∧ W6 = wx)
  case first =>
    have key : (st != 2) = false ∨ ((st != 2) = true ∧ q3 = false) ∨ ((st != 2) = true ∧ q3 = true ∧ (a.nu == h.nu) = false) ∨ ((st != 2) = true ∧ q3 = true ∧ (a.nu == h.nu) = true ∧ (a.lv == C) = false) ∨ ((st != 2) = true ∧ q3 = true ∧ (a.nu == h.nu) = true ∧ (a.lv == C) = true) := by cases (st != 2) <;> cases q3 <;> cases (a.nu == h.nu) <;> cases (a.lv == C) <;> simp
    rcases key with k1 | ⟨k1, rfl⟩ | ⟨k1, rfl, k3⟩ | ⟨k1, rfl, k3, k4⟩ | ⟨k1, rfl, k3, k4⟩
    · skip
      have hTB : TB = false := by rw [← HTB.out, HST.out, HQ3.out, k1]; rfl
      subst hTB
      go_wp2_with fail
      go_meet
      case rel => exact ⟨rfl, rfl⟩
    · skip
      have hTB : TB = true := by rw [← HTB.out, HST.out, HQ3.out, k1]; rfl
      subst hTB
      go_wp2_with (refine wpList_ld (op := ⟨some 106, _, _, _, _, _⟩) (by rfl) 23 (.tmp 105) rfl N2 1 rfl (syC a.p) _ K2.out.ajp Try.underlying23 rfl info_sys ?_; refine Hid.out ?_)
      refine Lib.hid ?_
      go_wp2_with (refine wpList_ld (op := ⟨some 108, _, _, _, _, _⟩) (by rfl) 23 (.tmp 107) rfl N3 0 rfl (syC h.s) _ K3.out.hes Try.underlying23 rfl info_sys ?_; refine Hid.out ?_)
      refine Lib.hid ?_
      go_wp2_with (refine wpList_gv (op := ⟨some 109, _, _, _, _, _⟩) _ (by rfl) (sys_eql _ _ _ _ _ rfl rfl a.p h.s HBp.out HBh.out rfl rfl _ HQ3.out _) ?_; refine Hid.out ?_)
      refine Lib.hid ?_
      go_wp2_with fail
      go_meet
      case rel => exact ⟨rfl, rfl⟩
    · skip
      have hTB : TB = true := by rw [← HTB.out, HST.out, HQ3.out, k1, k3]; rfl
      subst hTB
      go_wp2_with (refine wpList_ld (op := ⟨some 106, _, _, _, _, _⟩) (by rfl) 23 (.tmp 105) rfl N2 1 rfl (syC a.p) _ K2.out.ajp Try.underlying23 rfl info_sys ?_; refine Hid.out ?_)
      refine Lib.hid ?_
      go_wp2_with (refine wpList_ld (op := ⟨some 108, _, _, _, _, _⟩) (by rfl) 23 (.tmp 107) rfl N3 0 rfl (syC h.s) _ K3.out.hes Try.underlying23 rfl info_sys ?_; refine Hid.out ?_)
      refine Lib.hid ?_
      go_wp2_with (refine wpList_gv (op := ⟨some 109, _, _, _, _, _⟩) _ (by rfl) (sys_eql _ _ _ _ _ rfl rfl a.p h.s HBp.out HBh.out rfl rfl _ HQ3.out _) ?_; refine Hid.out ?_)
      refine Lib.hid ?_
      go_wp2_with fail
      go_meet
      case rel => exact ⟨rfl, rfl⟩
    · skip
      have hTB : TB = true := by rw [← HTB.out, HST.out, HQ3.out, k1, k3, k4]; rfl
      subst hTB
      go_wp2_with (refine wpList_ld (op := ⟨some 106, _, _, _, _, _⟩) (by rfl) 23 (.tmp 105) rfl N2 1 rfl (syC a.p) _ K2.out.ajp Try.underlying23 rfl info_sys ?_; refine Hid.out ?_)
      refine Lib.hid ?_
      go_wp2_with (refine wpList_ld (op := ⟨some 108, _, _, _, _, _⟩) (by rfl) 23 (.tmp 107) rfl N3 0 rfl (syC h.s) _ K3.out.hes Try.underlying23 rfl info_sys ?_; refine Hid.out ?_)
      refine Lib.hid ?_
      go_wp2_with (refine wpList_gv (op := ⟨some 109, _, _, _, _, _⟩) _ (by rfl) (sys_eql _ _ _ _ _ rfl rfl a.p h.s HBp.out HBh.out rfl rfl _ HQ3.out _) ?_; refine Hid.out ?_)
      refine Lib.hid ?_
      go_wp2_with fail
      go_meet
      case rel => exact ⟨rfl, rfl⟩
    · skip
      have hTB : TB = false := by rw [← HTB.out, HST.out, HQ3.out, k1, k3, k4]; rfl
      subst hTB
      go_wp2_with (refine wpList_ld (op := ⟨some 106, _, _, _, _, _⟩) (by rfl) 23 (.tmp 105) rfl N2 1 rfl (syC a.p) _ K2.out.ajp Try.underlying23 rfl info_sys ?_; refine Hid.out ?_)
      refine Lib.hid ?_
      go_wp2_with (refine wpList_ld (op := ⟨some 108, _, _, _, _, _⟩) (by rfl) 23 (.tmp 107) rfl N3 0 rfl (syC h.s) _ K3.out.hes Try.underlying23 rfl info_sys ?_; refine Hid.out ?_)
      refine Lib.hid ?_
      go_wp2_with (refine wpList_gv (op := ⟨some 109, _, _, _, _, _⟩) _ (by rfl) (sys_eql _ _ _ _ _ rfl rfl a.p h.s HBp.out HBh.out rfl rfl _ HQ3.out _) ?_; refine Hid.out ?_)
      refine Lib.hid ?_
      go_wp2_with fail
      go_meet
      case rel => exact ⟨rfl, rfl⟩
  case rest =>
  obtain ⟨rfl, hwx⟩ := hcut
  subst hwx
  obtain ⟨T, hT⟩ : ∃ t, toS a h C = t := ⟨_, rfl⟩
  have hTT : T = if TB = true then 2 else st := by rw [← hT, ← HST.out]; exact toS_tab a h C (by have := HST.out; omega) TB HTB.out
  have HTT := Lib.hid hTT
  rw [hT] at HE3
  clear hT hTT HTB HQ3 cK2_7 cK2_8 cK3_6
  go_upto_if 124 with (fail)
  go_cut [11] (fun s wx => s = .int .i64 T ∧ W6 = wx)
  case first =>
    cases TB
    · skip
      have hT : T = st := HTT.out
      subst hT
      clear HTT
      go_wp2_with fail
      go_meet
      case rel => exact ⟨rfl, rfl⟩
    · skip
      have hT : T = 2 := HTT.out
      subst hT
      clear HTT
      go_wp2_with fail
      go_meet
      case rel => exact ⟨rfl, rfl⟩
  case rest =>
  obtain ⟨rfl, hwx⟩ := hcut
  subst hwx
  have hTb : 0 ≤ T ∧ T ≤ 2 := by rw [HTT.out]; split <;> omega
  clear HTT cK2_0 HST z3
  have c10 : W6.cell? ⟨N3, 10, none⟩ = some (.int .i64 h.st) := (K3.out.cell 10).trans rfl
  have c11 : W6.cell? ⟨N3, 11, none⟩ = some (.bool nm) := by rw [← HNM.out]; exact (K3.out.cell 11).trans rfl
  obtain ⟨O, hO⟩ : ∃ o, ofS h = o := ⟨_, rfl⟩
  have hOO : O = if nm = true then h.st else 2 := by rw [← hO, ← HNM.out]; rfl
  rw [hO] at HE3
  have HOO := Lib.hid hOO
  clear hO hOO
  go_upto_if 129 with (fail)
  go_cut [12] (fun s wx => s = .int .i64 O ∧ W6 = wx)
  case first =>
    cases nm
    · skip
      have hO : O = 2 := HOO.out
      subst hO
      clear HOO
      go_wp2_with fail
      go_meet
      case rel => exact ⟨rfl, rfl⟩
    · skip
      have hO : O = h.st := HOO.out
      subst hO
      clear HOO
      go_wp2_with fail
      go_meet
      case rel => exact ⟨rfl, rfl⟩
  case rest =>
  obtain ⟨rfl, hwx⟩ := hcut
  subst hwx
  have hOb : 0 ≤ O ∧ O ≤ 2 := by rw [HOO.out]; split <;> omega
  clear HOO c10 c11 HNM HNB
  go_wp2_with (refine wpList_c (op := ⟨some 133, _, _, _, _, _⟩) (.agg tabC) (by rfl) (fun W => by kernel_rfl) ?_; refine Hid.out ?_)
  refine Lib.hid ?_
  obtain ⟨N8, hN8⟩ : ∃ N, W6.heap.size = N := ⟨_, rfl⟩
  have HN8 := Lib.hid hN8
  clear hN8
  go_wp2_with (refine wpList_new (op := ⟨some 13, _, _, _, _, _⟩) rfl 72 rfl (tab0) zero_tab N8 HN8.out ?_; intro w8 k1 b1 s1; refine Hid.out ?_)
  refine Lib.hid ?_
  have K5 := Lib.hid k1
  clear k1
  have lt_N1_N8 : N1 < N8 := by rw [← HN8.out]; exact K1.out.lt
  have lt_N2_N8 : N2 < N8 := by rw [← HN8.out]; exact K2.out.lt
  have lt_N3_N8 : N3 < N8 := by rw [← HN8.out]; exact K3.out.lt
  have lt_N4_N8 : N4 < N8 := by rw [← HN8.out]; exact K4.out.lt
  have le_HB_N8 : w.heap.size ≤ N8 := by rw [← HN8.out]; exact HB.out.size
  have K1n := Lib.hid (K1.out.below b1 K1.out.lt)
  clear K1
  have K1 := K1n
  clear K1n
  have K2n := Lib.hid (K2.out.below b1 K2.out.lt)
  clear K2
  have K2 := K2n
  clear K2n
  have K3n := Lib.hid (K3.out.below b1 K3.out.lt)
  clear K3
  have K3 := K3n
  clear K3n
  have K4n := Lib.hid (K4.out.below b1 K4.out.lt)
  clear K4
  have K4 := K4n
  clear K4n
  have HBn := Lib.hid (HB.out.trans (b1.mono HB.out.size))
  clear HB
  have HB := HBn
  clear HBn
  clear b1 HN8
  go_wp2_with (refine wpList_st rfl 72 (.tmp 13) (.tmp 133) rfl N8 0 rfl (.agg tabC) (tabC) rfl rfl info_tab (by kernel_rfl) K5.out (Nat.le_of_ble_eq_true rfl) (C' := tabC) (by kernel_rfl) ?_; intro w9 q1; refine Hid.out ?_)
  refine Lib.hid ?_
  have K1n := Lib.hid (K1.out.far q1 (by omega))
  clear K1
  have K1 := K1n
  clear K1n
  have K2n := Lib.hid (K2.out.far q1 (by omega))
  clear K2
  have K2 := K2n
  clear K2n
  have K3n := Lib.hid (K3.out.far q1 (by omega))
  clear K3
  have K3 := K3n
  clear K3n
  have K4n := Lib.hid (K4.out.far q1 (by omega))
  clear K4
  have K4 := K4n
  clear K4n
  have HBn := Lib.hid (HB.out.trans (q1.2.1 _ (by omega)))
  clear HB
  have HB := HBn
  clear HBn
  have K5n : Hid (Blk 72 w9 N8 (tabC)) := Lib.hid q1.1
  clear K5
  have K5 := K5n
  clear K5n q1
  go_upto_region 19 with (fail)
  go_cut [14] (fun s wx => s = .int .i64 (behS T O) ∧ w9 = wx)
  case first =>
    have t3 : T = 0 ∨ T = 1 ∨ T = 2 := by omega
    have o3 : O = 0 ∨ O = 1 ∨ O = 2 := by omega
    clear hTb hOb HE3
    have t00 : w9.cell? ⟨N8, 0, none⟩ = some (.int .i64 0) := (K5.out.cell 0).trans rfl
    have t01 : w9.cell? ⟨N8, 1, none⟩ = some (.int .i64 0) := (K5.out.cell 1).trans rfl
    have t02 : w9.cell? ⟨N8, 2, none⟩ = some (.int .i64 1) := (K5.out.cell 2).trans rfl
    have t10 : w9.cell? ⟨N8, 3, none⟩ = some (.int .i64 0) := (K5.out.cell 3).trans rfl
    have t11 : w9.cell? ⟨N8, 4, none⟩ = some (.int .i64 0) := (K5.out.cell 4).trans rfl
    have t12 : w9.cell? ⟨N8, 5, none⟩ = some (.int .i64 1) := (K5.out.cell 5).trans rfl
    have t20 : w9.cell? ⟨N8, 6, none⟩ = some (.int .i64 2) := (K5.out.cell 6).trans rfl
    have t21 : w9.cell? ⟨N8, 7, none⟩ = some (.int .i64 0) := (K5.out.cell 7).trans rfl
    have t22 : w9.cell? ⟨N8, 8, none⟩ = some (.int .i64 1) := (K5.out.cell 8).trans rfl
    rcases t3 with rfl | rfl | rfl <;> rcases o3 with rfl | rfl | rfl <;>
    · go_wp2_with fail
      go_meet
      case rel => exact ⟨rfl, rfl⟩
  case rest =>
  obtain ⟨rfl, hwx⟩ := hcut
  subst hwx
  clear hTb hOb
  obtain ⟨B, hB⟩ : ∃ B, behS T O = B := ⟨_, rfl⟩
  rw [hB] at HE3 ⊢
  clear hB
  by_cases hbe : B = 2
  · skip
    have HX : Hid (R = (ajD, 0)) := Lib.hid (by rw [HE3.out, if_pos hbe])
    have hbb : (B == 2) = true := by simpa using hbe
    clear HE3 hbe
    go_wp2_with (refine wpList_v (op := ⟨some 141, _, _, _, _, _⟩) rfl _ (build_downR _ _ _ rfl rfl _) ?_; refine Hid.out ?_)
    refine Lib.hid ?_
    go_wp2_with (refine wpList_st rfl 28 (.tmp 8) (.tmp 141) rfl N4 0 rfl (.agg (ajC ajD)) (ajC ajD) rfl rfl info_ajR (ajC_one _) K4.out (Nat.le_of_ble_eq_true rfl) (C' := ajC ajD) (by kernel_rfl) ?_; intro w10 q1; refine Hid.out ?_)
    refine Lib.hid ?_
    have K1n := Lib.hid (K1.out.far q1 (by omega))
    clear K1
    have K1 := K1n
    clear K1n
    have K2n := Lib.hid (K2.out.far q1 (by omega))
    clear K2
    have K2 := K2n
    clear K2n
    have K3n := Lib.hid (K3.out.far q1 (by omega))
    clear K3
    have K3 := K3n
    clear K3n
    have K5n := Lib.hid (K5.out.far q1 (by omega))
    clear K5
    have K5 := K5n
    clear K5n
    have HBn := Lib.hid (HB.out.trans (q1.2.1 _ (by omega)))
    clear HB
    have HB := HBn
    clear HBn
    have K4n : Hid (Blk 28 w10 N4 (ajC ajD)) := Lib.hid q1.1
    clear K4
    have K4 := K4n
    clear K4n q1
    go_wp2_with fail
    exact bodyPost_ret (results_2 rfl _ w10 N4 (ajC ajD) (.int .i64 0) Try.underlying28 rfl info_ajR rfl rfl K4.out) rfl ⟨by rw [HX.out], HB.out⟩
  have HX : Hid (R = (⟨B, h.s, h.nu, C, now + h.ho⟩, 0)) := Lib.hid (by rw [HE3.out, if_neg hbe])
  have hbb : (B == 2) = false := by simpa using hbe
  clear HE3 hbe
  have cK3_6 : w9.cell? ⟨N3, 6, none⟩ = some (.int .u8 h.nu) := (K3.out.cell 6).trans rfl
  have cK3_8 : w9.cell? ⟨N3, 8, none⟩ = some (.int .i64 h.ho) := (K3.out.cell 8).trans rfl
  go_wp2_with (refine wpList_ld (op := ⟨some 144, _, _, _, _, _⟩) (by rfl) 23 (.tmp 143) rfl N3 0 rfl (syC h.s) _ K3.out.hes Try.underlying23 rfl info_sys ?_; refine Hid.out ?_)
  refine Lib.hid ?_
  go_wp2_with (refine wpList_v (op := ⟨some 152, _, _, _, _, _⟩) rfl _ (build_ajR _ _ _ _ _ _ _ rfl ⟨B, h.s, h.nu, C, now + h.ho⟩ rfl rfl rfl rfl rfl _) ?_; refine Hid.out ?_)
  refine Lib.hid ?_
  clear cK3_6 cK3_8
  go_wp2_with (refine wpList_st rfl 28 (.tmp 8) (.tmp 152) rfl N4 0 rfl (.agg (ajC ⟨B, h.s, h.nu, C, now + h.ho⟩)) (ajC ⟨B, h.s, h.nu, C, now + h.ho⟩) rfl rfl info_ajR (ajC_one _) K4.out (Nat.le_of_ble_eq_true rfl) (C' := ajC ⟨B, h.s, h.nu, C, now + h.ho⟩) (by kernel_rfl) ?_; intro w10 q1; refine Hid.out ?_)
  refine Lib.hid ?_
  have K1n := Lib.hid (K1.out.far q1 (by omega))
  clear K1
  have K1 := K1n
  clear K1n
  have K2n := Lib.hid (K2.out.far q1 (by omega))
  clear K2
  have K2 := K2n
  clear K2n
  have K3n := Lib.hid (K3.out.far q1 (by omega))
  clear K3
  have K3 := K3n
  clear K3n
  have K5n := Lib.hid (K5.out.far q1 (by omega))
  clear K5
  have K5 := K5n
  clear K5n
  have HBn := Lib.hid (HB.out.trans (q1.2.1 _ (by omega)))
  clear HB
  have HB := HBn
  clear HBn
  have K4n : Hid (Blk 28 w10 N4 (ajC ⟨B, h.s, h.nu, C, now + h.ho⟩)) := Lib.hid q1.1
  clear K4
  have K4 := K4n
  clear K4n q1
  go_wp2_with fail
  exact bodyPost_ret (results_2 rfl _ w10 N4 (ajC ⟨B, h.s, h.nu, C, now + h.ho⟩) (.int .i64 0) Try.underlying28 rfl info_ajR rfl rfl K4.out) rfl ⟨by rw [HX.out], HB.out⟩
end Go.Proofs.Ythmnbhmficdifaa
