/- Two texts put together; each theorem states its conditions. -/
import Derived.Test.YtldgfjcdlkbngaaTrQd
import Derived.Test.YtldgfjcdlkbngaaTrN
/- The document's calls over its list of a trie: check, without, DocGet, List. Each theorem states its conditions. -/
namespace Go.Proofs.Ytldgfjcdlkbngaa
open Go.RowKit
set_option linter.unusedVariables false
set_option linter.unusedSimpArgs false

theorem bld_it (W : World) (o : Oper) (e : Operand → Value) {x y : Operand} (ho : o.op = .build 96 #[(0, x), (1, y)]) (p : Pf) (v : Int) (h0 : e x = .agg (pfC p)) (h1 : e y = .int .i64 v) : (execOp e o).run Try.prog W = .ok (.value (.agg (itC p v))) W := by
  unfold execOp
  simp only [ho]
  simp only [List.map_toArray, List.map_cons, List.map_nil, h0, h1]
  kernel_rfl
theorem info_li : (Try.prog.info? 28).map (·.size) = some 1 := by kernel_rfl
theorem one_li {A : Option Addr} {n c : Nat} : (#[Value.slice A n c] : Array Value).all (·.oneCell') = true := by kernel_rfl
/-- what DocGet answers -/
def dgV (D : List It) : Option Ky → Value
  | none => .tuple #[.int .i64 0, .bool false, .int .i64 3]
  | some k => getV (lk k D)
theorem itB_rdR {w w' : World} {A : Option Addr} {c m : Nat} {D : List It} (h : RdR w A m 19 (itB D)) (hb : Below w.heap.size w w') : RdR w' A m 19 (itB D) := h.below hb rfl
theorem it_read {w w' : World} {bA off m j : Nat} {D : List It} {x : It} (hr : RowR w bA off m 19 (itB D)) {B : Nat} (hb : Below B w w') (hB : bA < B) (hj : j < m) (hx : D[j]? = some x) : w'.rangeAt bA (off + j * 19) (itK x).toList := by
  have h9 := rangeAt_below (hr.2 j hj) hb hB
  rw [itB_at hx] at h9
  exact h9
set_option maxHeartbeats 16000000 in
set_option maxRecDepth 100000 in
theorem ckT_y (x : Nat) (fam n : Int) (z : Nat → Int) (hz : Bytes z) (hf : Form fam n z) (w : World) : Calls Try.prog 45 #[.pointer (some ⟨x, 0, none⟩), .agg (pvC fam n z)] w fun e w' => e = .returned (.int .i64 0) ∧ Below w.heap.size w w' := by
  have HF := Lib.hid (fun W => form_any fam n z W hz)
  rw [decide_eq_true hf] at HF
  clear hz hf
  go_enter Try.func45, Try.ntmps45
  have HB := Lib.hid (Below.refl w.heap.size w)
  obtain ⟨N1, hN1⟩ : ∃ N, w.heap.size = N := ⟨_, rfl⟩
  have HN1 := Lib.hid hN1
  clear hN1
  go_wp2_with (refine wpList_box (op := ⟨some 3, _, _, _, _, _⟩) rfl 32 (.tmp 1) rfl (pvC fam n z) rfl N1 HN1.out ?_; intro w1 k1 b1 s1; refine Hid.out ?_)
  refine Lib.hid ?_
  have K3 := Lib.hid k1
  clear k1
  have le_HB_N1 : w.heap.size ≤ N1 := by rw [← HN1.out]; exact HB.out.size
  have HBn := Lib.hid (HB.out.trans (b1.mono HB.out.size))
  clear HB
  have HB := HBn
  clear HBn
  clear b1 HN1
  go_wp2_with (refine wpList_ld (op := ⟨some 5, _, _, _, _, _⟩) (by rfl) 32 (.tmp 3) rfl N1 0 rfl (pvC fam n z) _ K3.out.all Try.underlying32 rfl (hi_pv fam n z) ?_; refine Hid.out ?_)
  refine Lib.hid ?_
  go_wp2_with fail
  refine (HF.out _).mono ?_
  rintro e w2 ⟨rfl, b1⟩
  have K3n := Lib.hid (K3.out.below b1 K3.out.lt)
  clear K3
  have K3 := K3n
  clear K3n
  have HBn := Lib.hid (HB.out.trans (b1.mono HB.out.size))
  clear HB
  have HB := HBn
  clear HBn
  clear b1
  go_wp2_with fail
  refine bodyPost_ret (v := .int .i64 0) (by simp [results, Try.f45, go_sem]) rfl ?_
  exact ⟨rfl, HB.out⟩
set_option maxHeartbeats 16000000 in
set_option maxRecDepth 100000 in
theorem ckT_n (x : Nat) (fam n : Int) (z : Nat → Int) (hz : Bytes z) (hf : ¬ Form fam n z) (w : World) : Calls Try.prog 45 #[.pointer (some ⟨x, 0, none⟩), .agg (pvC fam n z)] w fun e w' => e = .returned (.int .i64 3) ∧ Below w.heap.size w w' := by
  have HF := Lib.hid (fun W => form_any fam n z W hz)
  rw [decide_eq_false hf] at HF
  clear hz hf
  go_enter Try.func45, Try.ntmps45
  have HB := Lib.hid (Below.refl w.heap.size w)
  obtain ⟨N1, hN1⟩ : ∃ N, w.heap.size = N := ⟨_, rfl⟩
  have HN1 := Lib.hid hN1
  clear hN1
  go_wp2_with (refine wpList_box (op := ⟨some 3, _, _, _, _, _⟩) rfl 32 (.tmp 1) rfl (pvC fam n z) rfl N1 HN1.out ?_; intro w1 k1 b1 s1; refine Hid.out ?_)
  refine Lib.hid ?_
  have K3 := Lib.hid k1
  clear k1
  have le_HB_N1 : w.heap.size ≤ N1 := by rw [← HN1.out]; exact HB.out.size
  have HBn := Lib.hid (HB.out.trans (b1.mono HB.out.size))
  clear HB
  have HB := HBn
  clear HBn
  clear b1 HN1
  go_wp2_with (refine wpList_ld (op := ⟨some 5, _, _, _, _, _⟩) (by rfl) 32 (.tmp 3) rfl N1 0 rfl (pvC fam n z) _ K3.out.all Try.underlying32 rfl (hi_pv fam n z) ?_; refine Hid.out ?_)
  refine Lib.hid ?_
  go_wp2_with fail
  refine (HF.out _).mono ?_
  rintro e w2 ⟨rfl, b1⟩
  have K3n := Lib.hid (K3.out.below b1 K3.out.lt)
  clear K3
  have K3 := K3n
  clear K3n
  have HBn := Lib.hid (HB.out.trans (b1.mono HB.out.size))
  clear HB
  have HB := HBn
  clear HBn
  clear b1
  go_wp2_with fail
  refine bodyPost_ret (v := .int .i64 3) (by simp [results, Try.f45, go_sem]) rfl ?_
  exact ⟨rfl, HB.out⟩
theorem ckK (x : Nat) {k : Ky} (hk : KOk k) (w : World) : Calls Try.prog 45 #[.pointer (some ⟨x, 0, none⟩), .agg (pfC (kyPf k))] w fun e w' => e = .returned (.int .i64 0) ∧ Below w.heap.size w w' := ckT_y x (kyPf k).fam (kyPf k).len (kyPf k).z (kyPf_b k) (kok_form hk).1 w
set_option maxHeartbeats 16000000 in
set_option maxRecDepth 100000 in
theorem wo_any (k : Ky) (D : List It) (A : Option Addr) (m c : Nat) (w : World) (hk : KOk k) (hD : ∀ y, y ∈ D → KOk y.1) (hm : D.length = m) (hrd : RdR w A m 19 (itB D)) (hl : m ≤ 1000) : Calls Try.prog 46 #[.slice A m c, .agg (pfC (kyPf k))] w fun e w' => ∃ v, e = .returned v ∧ OwnR w' w.heap.size 96 19 v (wo k D).length (itB (wo k D)) ∧ Below w.heap.size w w' := by
  have HRD := Lib.hid hrd
  have HD := Lib.hid hD
  have HK := Lib.hid hk
  have HM := Lib.hid hm
  have hmI : (m : Int) ≤ 9223372036854775807 := by omega
  have HL := Lib.hid hl
  clear hrd hD hk hl hm
  go_enter Try.func46, Try.ntmps46
  have HB := Lib.hid (Below.refl w.heap.size w)
  obtain ⟨N1, hN1⟩ : ∃ N, w.heap.size = N := ⟨_, rfl⟩
  have HN1 := Lib.hid hN1
  clear hN1
  go_wp2_with (refine wpList_box (op := ⟨some 3, _, _, _, _, _⟩) rfl 32 (.tmp 1) rfl (pfC (kyPf k)) rfl N1 HN1.out ?_; intro w1 k1 b1 s1; refine Hid.out ?_)
  refine Lib.hid ?_
  have K3 := Lib.hid k1
  clear k1
  have le_HB_N1 : w.heap.size ≤ N1 := by rw [← HN1.out]; exact HB.out.size
  have HBn := Lib.hid (HB.out.trans (b1.mono HB.out.size))
  clear HB
  have HB := HBn
  clear HBn
  clear b1 HN1
  go_wp2_with fail
  obtain ⟨BL, hBL⟩ : ∃ N, w1.heap.size = N := ⟨_, rfl⟩
  have HBL := Lib.hid hBL
  have le_BL : w.heap.size ≤ BL := by rw [← hBL]; exact HB.out.size
  have HR1 := Lib.hid (HRD.out.below HB.out rfl)
  clear hBL HRD
  go_loopw [5, 10] (fun v t wr => ∃ (j : Nat) (S : List It), j ≤ m ∧ t = .int .i64 j ∧ Hid (OwnR wr BL 96 19 v S.length (itB S)) ∧ Hid (Below BL w1 wr) ∧ Hid (WoP k D j S)) (fun _ t _ => m - (intOf t).toNat)
  case atStart => exact ⟨0, [], by omega, rfl, Lib.hid (OwnR.nil _ _ _ _ _), Lib.hid (Below.refl _ _), Lib.hid wo_start⟩
  case round =>
    obtain ⟨j, S, hj, rfl, HO, HQ, HP⟩ := hrel
    by_cases hlt : j < m
    · have hki : (j : Int) < (m : Int) := by omega
      have HSL : Hid (S.length ≤ 1000) := Lib.hid (by have := HP.out.2; have := HL.out; omega)
      obtain ⟨bA, off, rfl, hr⟩ := HR1.out.row (by omega)
      obtain ⟨x1, hx⟩ : ∃ r, D[j]? = some r := ⟨_, List.getElem?_eq_getElem (by rw [HM.out]; exact hlt)⟩
      have HX := Lib.hid hx
      have h1 : Hid (wr.rangeAt bA (off + j * 19) (itK x1).toList) := Lib.hid (it_read hr HQ.out (by have := hr.1; rw [HBL.out] at this; exact this) hlt hx)
      clear hr hx
      go_wp2_with (refine wpList_ld (op := ⟨some 13, _, _, _, _, _⟩) (by rfl) 96 (.tmp 12) rfl bA (off + j * 19) rfl (itK x1) _ h1.out Try.underlying96 rfl info_it ?_; refine Hid.out ?_)
      refine Lib.hid ?_
      clear h1
      obtain ⟨N7, hN7⟩ : ∃ N, wr.heap.size = N := ⟨_, rfl⟩
      have HN7 := Lib.hid hN7
      clear hN7
      go_wp2_with (refine wpList_new (op := ⟨some 7, _, _, _, _, _⟩) rfl 96 rfl (itC ⟨0, 0, Z0⟩ 0) zero_it N7 HN7.out ?_; intro w5 k1 b1 s9; refine Hid.out ?_)
      refine Lib.hid ?_
      have K7 := Lib.hid k1
      have HB1 := Lib.hid b1
      clear k1 b1 s9
      go_wp2_with (refine wpList_st rfl 96 (.tmp 7) (.tmp 13) rfl N7 0 rfl (.agg (itK x1)) (itK x1) rfl rfl info_it (it_one _ _) K7.out (Nat.le_of_ble_eq_true rfl) (C' := itK x1) (it_over _ _) ?_; intro w6 q1; refine Hid.out ?_)
      refine Lib.hid ?_
      have b1 : Below wr.heap.size wr w6 := HB1.out.trans (q1.2.1 _ (by rw [HN7.out]; exact Nat.le_refl _))
      have K7n : Hid (Blk 96 w6 N7 (itK x1)) := Lib.hid q1.1
      clear K7
      have K7 := K7n
      clear K7n q1 HB1 HN7
      have HOn := Lib.hid (HO.out.below b1)
      clear HO
      have HO := HOn
      clear HOn
      have HQn := Lib.hid (HQ.out.trans (b1.mono (by have := HQ.out.size; rw [HBL.out] at this; exact this)))
      clear HQ
      have HQ := HQn
      clear HQn
      clear b1
      have K3w := Lib.hid (K3.out.below HQ.out (by rw [← HBL.out]; exact K3.out.lt))
      go_wp2_with (refine wpList_ld (op := ⟨some 15, _, _, _, _, _⟩) (by rfl) 32 (.tmp 14) rfl N7 (0) rfl (pfC (kyPf x1.1)) _ K7.out.itpf Try.underlying32 rfl (hi_pv _ _ _) ?_; refine Hid.out ?_)
      refine Lib.hid ?_
      go_wp2_with (refine wpList_ld (op := ⟨some 16, _, _, _, _, _⟩) (by rfl) 32 (.tmp 3) rfl N1 (0) rfl (pfC (kyPf k)) _ K3w.out.all Try.underlying32 rfl (hi_pv _ _ _) ?_; refine Hid.out ?_)
      refine Lib.hid ?_
      have HKX : Hid (KOk x1.1) := Lib.hid (HD.out x1 (List.mem_of_getElem? HX.out))
      by_cases hxk : x1.1 = k
      · have HXK := Lib.hid hxk
        clear hxk K3w
        go_wp2_with (refine wpList_v (op := ⟨some 17, _, _, _, _, _⟩) rfl (.bool false) (neq_is false (by rw [kok_eq HKX.out HK.out]; simp [HXK.out]) _ _ _ _ rfl (kyPf_b _) (kyPf_b _) rfl rfl _) ?_; refine Hid.out ?_)
        refine Lib.hid ?_
        have HPn := Lib.hid (wo_eq HP.out HX.out HXK.out)
        go_wp2_with fail
        go_roundw
        case rel => exact ⟨j + 1, S, by omega, by go_num, HO, HQ, HPn⟩
        case measure => simp only [intOf]; omega
      · have HXK := Lib.hid hxk
        clear hxk K3w
        go_wp2_with (refine wpList_v (op := ⟨some 17, _, _, _, _, _⟩) rfl (.bool true) (neq_is true (by rw [kok_eq HKX.out HK.out]; simp [HXK.out]) _ _ _ _ rfl (kyPf_b _) (kyPf_b _) rfl rfl _) ?_; refine Hid.out ?_)
        refine Lib.hid ?_
        have HPn := Lib.hid (wo_ne HP.out HX.out HXK.out)
        go_wp2_with (refine wpList_ld (op := ⟨some 19, _, _, _, _, _⟩) (by rfl) 96 (.tmp 7) rfl N7 (0) rfl (itK x1) _ K7.out.all Try.underlying96 rfl info_it ?_; refine Hid.out ?_)
        refine Lib.hid ?_
        obtain ⟨P1, hP1⟩ : ∃ N, w6.heap.size = N := ⟨_, rfl⟩
        have HP1 := Lib.hid hP1
        clear hP1
        go_wp2_with (refine wpList_bs (op := ⟨some 20, _, _, _, _, _⟩) rfl 96 (itK x1) (bs_it _ _ _ rfl (kyPf x1.1) x1.2 rfl) P1 HP1.out ?_; intro w7 k1 b1 s9; refine Hid.out ?_)
        refine Lib.hid ?_
        have HRR : Hid (RdR w7 (some ⟨P1, 0, none⟩) 1 19 (fun _ => itK x1)) := Lib.hid (rdR_blk k1)
        clear k1 s9
        have HOn := Lib.hid (HO.out.below b1)
        clear HO
        have HO := HOn
        clear HOn
        have HQn := Lib.hid (HQ.out.trans (b1.mono (by have := HQ.out.size; rw [HBL.out] at this; exact this)))
        clear HQ
        have HQ := HQn
        clear HQn
        clear b1
        have HZ : Hid (BL ≤ w7.heap.size) := Lib.hid (by have := HQ.out.size; rw [HBL.out] at this; exact this)
        go_wp2_with (refine app_Y (o := ⟨some 21, _, _, _, _, _⟩) 28 96 19 40 (.agg (itC ⟨0, 0, Z0⟩ 0)) Try.underlying28 info_itE rfl (by decide) rfl (.tmp 18) (.tmp 20) rfl BL _ (S).length (itB (S)) rfl HO.out HZ.out ⟨P1, 0, none⟩ 1 1 (fun _ => itK x1) rfl HRR.out (itC_recs _ _) (by have := HSL.out; unfold maxLen; omega) (by have := HSL.out; omega) ?_; intro v8 w8 ho9 hg9 hk9; refine Hid.out ?_)
        refine Lib.hid ?_
        have hb2 := below_grown hg9 HZ.out hk9
        have HOn : Hid (OwnR w8 BL 96 19 v8 (S ++ [x1]).length (itB (S ++ [x1]))) := Lib.hid (by rw [List.length_append]; exact OwnR.congr ho9 (fun j hj => it_snoc (S) (x1) j hj))
        clear HO
        have HO := HOn
        clear HOn
        have HQn := Lib.hid (HQ.out.trans hb2)
        clear HQ
        have HQ := HQn
        clear HQn
        clear ho9 hg9 hk9 HRR hb2 HZ
        clear K7
        go_wp2_with fail
        go_roundw
        case rel => exact ⟨j + 1, S ++ [x1], by omega, by go_num, HO, HQ, HPn⟩
        case measure => simp only [intOf]; omega
    · obtain rfl : m = j := by omega
      have e9 : wo k D = S := wo_end (by rw [HM.out]; exact HP.out)
      go_wp2_with fail
      go_ret
      exact ⟨_, rfl, by rw [e9]; exact HO.out.mono le_BL, HB.out.trans (HQ.out.mono le_BL)⟩
set_option maxHeartbeats 16000000 in
set_option maxRecDepth 100000 in
theorem docGet_n (x : Nat) (fam n : Int) (z : Nat → Int) (hz : Bytes z) (hf : ¬ Form fam n z) (w : World) : Calls Try.prog 49 #[.pointer (some ⟨x, 0, none⟩), .agg (pvC fam n z)] w fun e w' => e = .returned (.tuple #[.int .i64 0, .bool false, .int .i64 3]) ∧ Below w.heap.size w w' := by
  have HF := Lib.hid (fun W => ckT_n x fam n z hz hf W)
  clear hz hf
  go_enter Try.func49, Try.ntmps49
  have HB := Lib.hid (Below.refl w.heap.size w)
  obtain ⟨N1, hN1⟩ : ∃ N, w.heap.size = N := ⟨_, rfl⟩
  have HN1 := Lib.hid hN1
  clear hN1
  go_wp2_with (refine wpList_box (op := ⟨some 3, _, _, _, _, _⟩) rfl 32 (.tmp 1) rfl (pvC fam n z) rfl N1 HN1.out ?_; intro w1 k1 b1 s1; refine Hid.out ?_)
  refine Lib.hid ?_
  have K3 := Lib.hid k1
  clear k1
  have le_HB_N1 : w.heap.size ≤ N1 := by rw [← HN1.out]; exact HB.out.size
  have HBn := Lib.hid (HB.out.trans (b1.mono HB.out.size))
  clear HB
  have HB := HBn
  clear HBn
  clear b1 HN1
  go_wp2_with (refine wpList_ld (op := ⟨some 11, _, _, _, _, _⟩) (by rfl) 32 (.tmp 3) rfl N1 0 rfl (pvC fam n z) _ K3.out.all Try.underlying32 rfl (hi_pv fam n z) ?_; refine Hid.out ?_)
  refine Lib.hid ?_
  go_wp2_with fail
  refine (HF.out _).mono ?_
  rintro e w2 ⟨rfl, b1⟩
  have K3n := Lib.hid (K3.out.below b1 K3.out.lt)
  clear K3
  have K3 := K3n
  clear K3n
  have HBn := Lib.hid (HB.out.trans (b1.mono HB.out.size))
  clear HB
  have HB := HBn
  clear HBn
  clear b1
  go_wp2_with fail
  refine bodyPost_ret (v := .tuple #[.int .i64 0, .bool false, .int .i64 3]) (by simp [results, Try.f49, go_sem]) rfl ?_
  exact ⟨rfl, HB.out⟩
set_option maxHeartbeats 16000000 in
set_option maxRecDepth 100000 in
theorem docGet_y (x : Nat) (k : Ky) (D : List It) (w : World) (hk : KOk k) (h : DocAt w x D) (hl : D.length ≤ 1000) : Calls Try.prog 49 #[.pointer (some ⟨x, 0, none⟩), .agg (pfC (kyPf k))] w fun e w' => e = .returned (getV (lk k D)) ∧ Below w.heap.size w w' := by
  obtain ⟨A, c, hs, hc1, hc2, hc3, hrd, _⟩ := h.ex
  have HRD := Lib.hid hrd
  have KX := Lib.hid hs
  have HD := Lib.hid h.ok
  have HK := Lib.hid hk
  have HF := Lib.hid (fun W => ckK x hk W)
  obtain ⟨m, hm⟩ : ∃ m, D.length = m := ⟨_, rfl⟩
  have HM := Lib.hid hm
  rw [hm] at HRD KX hl
  have hmI : (m : Int) ≤ 9223372036854775807 := by omega
  clear hs hrd h hk hl hm hc1 hc2 hc3
  go_enter Try.func49, Try.ntmps49
  have HB := Lib.hid (Below.refl w.heap.size w)
  obtain ⟨N1, hN1⟩ : ∃ N, w.heap.size = N := ⟨_, rfl⟩
  have HN1 := Lib.hid hN1
  clear hN1
  go_wp2_with (refine wpList_box (op := ⟨some 3, _, _, _, _, _⟩) rfl 32 (.tmp 1) rfl (pfC (kyPf k)) rfl N1 HN1.out ?_; intro w1 k1 b1 s1; refine Hid.out ?_)
  refine Lib.hid ?_
  have K3 := Lib.hid k1
  clear k1
  have lt_x_N1 : x < N1 := by rw [← HN1.out]; exact KX.out.lt
  have le_HB_N1 : w.heap.size ≤ N1 := by rw [← HN1.out]; exact HB.out.size
  have KXn := Lib.hid (KX.out.below b1 KX.out.lt)
  clear KX
  have KX := KXn
  clear KXn
  have HBn := Lib.hid (HB.out.trans (b1.mono HB.out.size))
  clear HB
  have HB := HBn
  clear HBn
  clear b1 HN1
  go_wp2_with (refine wpList_ld (op := ⟨some 11, _, _, _, _, _⟩) (by rfl) 32 (.tmp 3) rfl N1 0 rfl (pfC (kyPf k)) _ K3.out.all Try.underlying32 rfl (hi_pv _ _ _) ?_; refine Hid.out ?_)
  refine Lib.hid ?_
  go_wp2_with fail
  refine (HF.out _).mono ?_
  rintro e w2 ⟨rfl, b1⟩
  have KXn := Lib.hid (KX.out.below b1 KX.out.lt)
  clear KX
  have KX := KXn
  clear KXn
  have K3n := Lib.hid (K3.out.below b1 K3.out.lt)
  clear K3
  have K3 := K3n
  clear K3n
  have HBn := Lib.hid (HB.out.trans (b1.mono HB.out.size))
  clear HB
  have HB := HBn
  clear HBn
  clear b1
  have c0 : w2.cell? ⟨x, 0, none⟩ = some (.slice A m c) := (KX.out.cell 0).trans rfl
  go_wp2_with fail
  clear c0
  obtain ⟨BL, hBL⟩ : ∃ N, w2.heap.size = N := ⟨_, rfl⟩
  have HBL := Lib.hid hBL
  have le_BL : w.heap.size ≤ BL := by rw [← hBL]; exact HB.out.size
  have HR1 := Lib.hid (HRD.out.below HB.out rfl)
  clear hBL HRD
  go_loopw [21] (fun t wr => ∃ j : Nat, j ≤ m ∧ t = .int .i64 j ∧ Hid (Below BL w2 wr) ∧ Hid (LkP k D j)) (fun t _ => m - (intOf t).toNat)
  case atStart => exact ⟨0, by omega, rfl, Lib.hid (Below.refl _ _), Lib.hid lk_start⟩
  case round =>
    obtain ⟨j, hj, rfl, HQ, HP⟩ := hrel
    by_cases hlt : j < m
    · have hki : (j : Int) < (m : Int) := by omega
      obtain ⟨bA, off, rfl, hr⟩ := HR1.out.row (by omega)
      obtain ⟨x1, hx⟩ : ∃ r, D[j]? = some r := ⟨_, List.getElem?_eq_getElem (by rw [HM.out]; exact hlt)⟩
      have HX := Lib.hid hx
      have h1 : Hid (wr.rangeAt bA (off + j * 19) (itK x1).toList) := Lib.hid (it_read hr HQ.out (by have := hr.1; rw [HBL.out] at this; exact this) hlt hx)
      clear hr hx
      go_wp2_with (refine wpList_ld (op := ⟨some 24, _, _, _, _, _⟩) (by rfl) 96 (.tmp 23) rfl bA (off + j * 19) rfl (itK x1) _ h1.out Try.underlying96 rfl info_it ?_; refine Hid.out ?_)
      refine Lib.hid ?_
      clear h1
      obtain ⟨N9, hN9⟩ : ∃ N, wr.heap.size = N := ⟨_, rfl⟩
      have HN9 := Lib.hid hN9
      clear hN9
      go_wp2_with (refine wpList_new (op := ⟨some 9, _, _, _, _, _⟩) rfl 96 rfl (itC ⟨0, 0, Z0⟩ 0) zero_it N9 HN9.out ?_; intro w5 k1 b1 s9; refine Hid.out ?_)
      refine Lib.hid ?_
      have K9 := Lib.hid k1
      have HB1 := Lib.hid b1
      clear k1 b1 s9
      go_wp2_with (refine wpList_st rfl 96 (.tmp 9) (.tmp 24) rfl N9 0 rfl (.agg (itK x1)) (itK x1) rfl rfl info_it (it_one _ _) K9.out (Nat.le_of_ble_eq_true rfl) (C' := itK x1) (it_over _ _) ?_; intro w6 q1; refine Hid.out ?_)
      refine Lib.hid ?_
      have b1 : Below wr.heap.size wr w6 := HB1.out.trans (q1.2.1 _ (by rw [HN9.out]; exact Nat.le_refl _))
      have K9n : Hid (Blk 96 w6 N9 (itK x1)) := Lib.hid q1.1
      clear K9
      have K9 := K9n
      clear K9n q1 HB1 HN9
      have HQn := Lib.hid (HQ.out.trans (b1.mono (by have := HQ.out.size; rw [HBL.out] at this; exact this)))
      clear HQ
      have HQ := HQn
      clear HQn
      clear b1
      have K3w := Lib.hid (K3.out.below HQ.out (by rw [← HBL.out]; exact K3.out.lt))
      go_wp2_with (refine wpList_ld (op := ⟨some 26, _, _, _, _, _⟩) (by rfl) 32 (.tmp 25) rfl N9 (0) rfl (pfC (kyPf x1.1)) _ K9.out.itpf Try.underlying32 rfl (hi_pv _ _ _) ?_; refine Hid.out ?_)
      refine Lib.hid ?_
      go_wp2_with (refine wpList_ld (op := ⟨some 27, _, _, _, _, _⟩) (by rfl) 32 (.tmp 3) rfl N1 (0) rfl (pfC (kyPf k)) _ K3w.out.all Try.underlying32 rfl (hi_pv _ _ _) ?_; refine Hid.out ?_)
      refine Lib.hid ?_
      have HKX : Hid (KOk x1.1) := Lib.hid (HD.out x1 (List.mem_of_getElem? HX.out))
      by_cases hxk : x1.1 = k
      · have HXK := Lib.hid hxk
        clear hxk K3w
        go_wp2_with (refine wpList_v (op := ⟨some 28, _, _, _, _, _⟩) rfl (.bool true) (eql_is true (by rw [kok_eq HKX.out HK.out]; simp [HXK.out]) _ _ _ _ rfl (kyPf_b _) (kyPf_b _) rfl rfl _) ?_; refine Hid.out ?_)
        refine Lib.hid ?_
        have e9 : lk k D = some x1.2 := lk_eq HP.out HX.out HXK.out
        have c18 : w6.cell? ⟨N9, 18, none⟩ = some (.int .i64 x1.2) := (K9.out.cell 18).trans rfl
        go_wp2_with fail
        refine bodyPost_ret (v := .tuple #[.int .i64 x1.2, .bool true, .int .i64 0]) (by simp [results, Try.f49, go_sem]) rfl ?_
        exact ⟨by rw [e9]; rfl, HB.out.trans (HQ.out.mono le_BL)⟩
      · have HXK := Lib.hid hxk
        clear hxk K3w
        go_wp2_with (refine wpList_v (op := ⟨some 28, _, _, _, _, _⟩) rfl (.bool false) (eql_is false (by rw [kok_eq HKX.out HK.out]; simp [HXK.out]) _ _ _ _ rfl (kyPf_b _) (kyPf_b _) rfl rfl _) ?_; refine Hid.out ?_)
        refine Lib.hid ?_
        have HPn := Lib.hid (lk_ne HP.out HX.out HXK.out)
        clear K9
        go_wp2_with fail
        go_roundw
        case rel => exact ⟨j + 1, by omega, by go_num, HQ, HPn⟩
        case measure => simp only [intOf]; omega
    · obtain rfl : m = j := by omega
      have e9 : lk k D = none := lk_end (by rw [HM.out]; exact HP.out)
      go_wp2_with fail
      refine bodyPost_ret (v := .tuple #[.int .i64 0, .bool false, .int .i64 0]) (by simp [results, Try.f49, go_sem]) rfl ?_
      exact ⟨by rw [e9]; rfl, HB.out.trans (HQ.out.mono le_BL)⟩
theorem docGet_any (x : Nat) (D : List It) (fam n : Int) (z : Nat → Int) (hz : Bytes z) (w : World) (h : DocAt w x D) (hl : D.length ≤ 1000) : Calls Try.prog 49 #[.pointer (some ⟨x, 0, none⟩), .agg (pvC fam n z)] w fun e w' => e = .returned (dgV D (kyP fam n z)) ∧ Below w.heap.size w w' := by
  cases hk : kyP fam n z with
  | none => exact docGet_n x fam n z hz (ky_none hk) w
  | some k =>
    obtain ⟨h1, h2⟩ := ky_pf hz hk
    rw [h2]
    exact docGet_y x k D w h1 h hl
set_option maxHeartbeats 16000000 in
set_option maxRecDepth 100000 in
/-- the prefixes of a list -/
noncomputable def kyL (D : List It) : List Pf := D.map (fun x => kyPf x.1)
theorem kyL_take {D : List It} {j : Nat} {x : It} (h : D[j]? = some x) : kyL (D.take (j + 1)) = kyL (D.take j) ++ [kyPf x.1] := by
  unfold kyL
  rw [List.take_add_one, h, List.map_append]
  rfl
theorem docList_any (x : Nat) (D : List It) (w : World) (h : DocAt w x D) (hl : D.length ≤ 1000) : Calls Try.prog 22 #[.pointer (some ⟨x, 0, none⟩)] w fun e w' => ∃ v, e = .returned v ∧ OwnR w' w.heap.size 32 18 v (kyL D).length (pfB (kyL D)) ∧ Below w.heap.size w w' := by
  obtain ⟨A, c, hs, hc1, hc2, hc3, hrd, _⟩ := h.ex
  have HRD := Lib.hid hrd
  have KX := Lib.hid hs
  have HL := Lib.hid hl
  obtain ⟨m, hm⟩ : ∃ m, D.length = m := ⟨_, rfl⟩
  have HM := Lib.hid hm
  rw [hm] at HRD KX hl
  have hmI : (m : Int) ≤ 9223372036854775807 := by omega
  obtain ⟨BL, hBL⟩ : ∃ N, w.heap.size = N := ⟨_, rfl⟩
  have HBL := Lib.hid hBL
  clear hs hrd h hl hm hc1 hc2 hc3 hBL
  rw [HBL.out]
  go_enter Try.func22, Try.ntmps22
  go_wp2_with fail
  go_loopw [3, 4] (fun v t wr => ∃ j : Nat, j ≤ m ∧ t = .int .i64 j ∧ Hid (OwnR wr BL 32 18 v (kyL (D.take j)).length (pfB (kyL (D.take j)))) ∧ Hid (Below BL w wr)) (fun _ t _ => m - (intOf t).toNat)
  case atStart => exact ⟨0, by omega, rfl, Lib.hid (OwnR.nil _ _ _ _ _), Lib.hid (Below.refl _ _)⟩
  case round =>
    obtain ⟨j, hj, rfl, HO, HQ⟩ := hrel
    have KXw := Lib.hid (KX.out.below HQ.out (by rw [← HBL.out]; exact KX.out.lt))
    have c0 : wr.cell? ⟨x, 0, none⟩ = some (.slice A m c) := (KXw.out.cell 0).trans rfl
    by_cases hlt : j < m
    · have hki : (j : Int) < (m : Int) := by omega
      obtain ⟨bA, off, rfl, hr⟩ := HRD.out.row (by omega)
      obtain ⟨x1, hx⟩ : ∃ r, D[j]? = some r := ⟨_, List.getElem?_eq_getElem (by rw [HM.out]; exact hlt)⟩
      have HX := Lib.hid hx
      have h1 : Hid (wr.rangeAt bA (off + j * 19) (itK x1).toList) := Lib.hid (it_read hr HQ.out (by have := hr.1; rw [HBL.out] at this; exact this) hlt hx)
      clear hr hx
      have HSTP := Lib.hid (kyL_take HX.out)
      obtain ⟨S, hS⟩ : ∃ S, kyL (D.take j) = S := ⟨_, rfl⟩
      rw [hS] at HO HSTP
      have HSL : Hid (S.length ≤ 1000) := Lib.hid (by rw [← hS]; unfold kyL; rw [List.length_map, List.length_take]; have := HL.out; omega)
      clear hS
      go_wp2_with (refine wpList_ld (op := ⟨some 26, _, _, _, _, _⟩) (by rfl) 32 (.tmp 25) rfl bA (off + j * 19) rfl (pfC (kyPf x1.1)) _ (it_pfr h1.out) Try.underlying32 rfl (hi_pv _ _ _) ?_; refine Hid.out ?_)
      refine Lib.hid ?_
      clear h1 c0 KXw
      obtain ⟨P, hP⟩ : ∃ N, wr.heap.size = N := ⟨_, rfl⟩
      have HP := Lib.hid hP
      clear hP
      go_wp2_with (refine wpList_bs (op := ⟨some 27, _, _, _, _, _⟩) rfl 32 (pfC (kyPf x1.1)) (bs_pf _ _ _ rfl _ _ _ rfl) P HP.out ?_; intro w7 k1 b1 s9; refine Hid.out ?_)
      refine Lib.hid ?_
      have HRR : Hid (RdR w7 (some ⟨P, 0, none⟩) 1 18 (fun _ => pfC (kyPf x1.1))) := Lib.hid (rdR_blk k1)
      clear k1 s9
      have HOn := Lib.hid (HO.out.below b1)
      clear HO
      have HO := HOn
      clear HOn
      have HQn := Lib.hid (HQ.out.trans (b1.mono (by have := HQ.out.size; rw [HBL.out] at this; exact this)))
      clear HQ
      have HQ := HQn
      clear HQn
      clear b1
      have HZ : Hid (BL ≤ w7.heap.size) := Lib.hid (by have := HQ.out.size; rw [HBL.out] at this; exact this)
      go_wp2_with (refine app_Y (o := ⟨some 28, _, _, _, _, _⟩) 42 32 18 32 (.agg (pvC 0 0 Z0)) Try.underlying42 info_pfE rfl (by decide) rfl (.tmp 18) (.tmp 27) rfl BL _ S.length (pfB S) rfl HO.out HZ.out ⟨P, 0, none⟩ 1 1 (fun _ => pfC (kyPf x1.1)) rfl HRR.out (pfC_recs _) (by have := HSL.out; unfold maxLen; omega) (by have := HSL.out; omega) ?_; intro v8 w8 ho9 hg9 hk9; refine Hid.out ?_)
      refine Lib.hid ?_
      have hb2 := below_grown hg9 HZ.out hk9
      have HOn : Hid (OwnR w8 BL 32 18 v8 (kyL (D.take (j + 1))).length (pfB (kyL (D.take (j + 1))))) := Lib.hid (by rw [HSTP.out, List.length_append]; exact OwnR.congr ho9 (fun j hj => pf_snoc S (kyPf x1.1) j hj))
      have HQn := Lib.hid (HQ.out.trans hb2)
      clear HQ
      have HQ := HQn
      clear HQn
      clear ho9 hg9 hk9 HRR hb2 HZ HO
      go_wp2_with fail
      go_roundw
      case rel => exact ⟨j + 1, by omega, by go_num, HOn, HQ⟩
      case measure => simp only [intOf]; omega
    · obtain rfl : m = j := by omega
      have e9 : D.take m = D := List.take_of_length_le (by rw [HM.out]; exact Nat.le_refl _)
      rw [e9] at HO
      go_wp2_with fail
      go_ret
      exact ⟨_, rfl, HO.out, HQ.out⟩
end Go.Proofs.Ytldgfjcdlkbngaa
/- The document's DocInsert and DocRemove. Each theorem states its conditions. -/
namespace Go.Proofs.Ytldgfjcdlkbngaa
open Go.RowKit
set_option linter.unusedVariables false
set_option linter.unusedSimpArgs false

theorem lenI_run (o : Oper) (e : Operand → Value) (x : Operand) (ho : o.op = .call { callee := .builtin .len, args := #[x], argTypes := #[28] }) (A : Option Addr) (n c : Nat) (h0 : e x = .slice A n c) (W : World) : (execOp e o).run Try.prog W = .ok (.value (.int .i64 (n : Int))) W := by
  unfold execOp
  simp only [ho]
  simp [go_sem, h0]
theorem doc_of {w : World} {x B c : Nat} {A : Option Addr} {D : List It} (hk : Blk 30 w x #[.slice A D.length c]) (ho : OwnR w B 96 19 (.slice A D.length c) D.length (itB D)) (hok : ∀ y, y ∈ D → KOk y.1) : DocAt w x D := by
  obtain ⟨A', c', e, h1, h2, h3, h4⟩ := ho.shape (itB_recs D) (by decide)
  cases e
  refine ⟨hok, A, c, hk, h1, h2, h3, h4, fun b o e => ?_⟩
  rcases ho with ⟨_, h2 | ⟨g, cap, cur, e1, e2, e3, rest⟩⟩
  · have h3 : A = none := by
      have := h2.1
      simp at this
      exact this.1
    rw [h3] at e
    cases e
  · have h4 : A = some ⟨g, 0, none⟩ := by
      injection e1
    rw [h4] at e
    cases e
    exact ⟨cur, e3⟩
theorem own_st {w w' : World} {B m g : Nat} {v : Value} {C : Nat → Array Value} {t : TypeId} {D E : Array Value} (h : OwnR w B 96 19 v m C) (hb : Blk t w g E) (ht : t ≠ 96) (q : Stored w w' g D t) : OwnR w' B 96 19 v m C := by
  rcases h with ⟨o1, o2 | ⟨g9, cap9, cur9, o2, o3, o4, rest⟩⟩
  · exact ⟨o1, .inl o2⟩
  · refine ⟨o1, .inr ⟨g9, cap9, cur9, o2, o3, (q.2.2 g9 (fun e => ?_)).trans o4, rest⟩⟩
    subst e
    have h1 : w.heap[g9]? = _ := hb
    have h2 : w.heap[g9]? = _ := o4
    rw [h1] at h2
    injection h2 with h2
    injection h2 with _ h2 _
    exact ht h2
theorem ins_kok {k : Ky} {v : Int} {D : List It} (hk : KOk k) (hD : ∀ y, y ∈ D → KOk y.1) : ∀ y, y ∈ insL k v D → KOk y.1 := fun y hy => by
  rcases mem_insL.1 hy with e | h
  · rw [e]; exact hk
  · exact hD y h
theorem wo_kok {k : Ky} {D : List It} (hD : ∀ y, y ∈ D → KOk y.1) : ∀ y, y ∈ wo k D → KOk y.1 := fun y hy => hD y (mem_wo.1 hy).1
set_option maxHeartbeats 16000000 in
set_option maxRecDepth 100000 in
theorem docIns_n (x : Nat) (fam n v : Int) (z : Nat → Int) (hz : Bytes z) (hf : ¬ Form fam n z) (w : World) : Calls Try.prog 15 #[.pointer (some ⟨x, 0, none⟩), .agg (pvC fam n z), .int .i64 v] w fun e w' => e = .returned (.int .i64 3) ∧ Below w.heap.size w w' := by
  have HF := Lib.hid (fun W => ckT_n x fam n z hz hf W)
  clear hz hf
  go_enter Try.func15, Try.ntmps15
  have HB := Lib.hid (Below.refl w.heap.size w)
  obtain ⟨N1, hN1⟩ : ∃ N, w.heap.size = N := ⟨_, rfl⟩
  have HN1 := Lib.hid hN1
  clear hN1
  go_wp2_with (refine wpList_box (op := ⟨some 4, _, _, _, _, _⟩) rfl 32 (.tmp 1) rfl (pvC fam n z) rfl N1 HN1.out ?_; intro w1 k1 b1 s1; refine Hid.out ?_)
  refine Lib.hid ?_
  have K3 := Lib.hid k1
  clear k1
  have le_HB_N1 : w.heap.size ≤ N1 := by rw [← HN1.out]; exact HB.out.size
  have HBn := Lib.hid (HB.out.trans (b1.mono HB.out.size))
  clear HB
  have HB := HBn
  clear HBn
  clear b1 HN1
  go_wp2_with (refine wpList_ld (op := ⟨some 13, _, _, _, _, _⟩) (by rfl) 32 (.tmp 4) rfl N1 0 rfl (pvC fam n z) _ K3.out.all Try.underlying32 rfl (hi_pv fam n z) ?_; refine Hid.out ?_)
  refine Lib.hid ?_
  go_wp2_with fail
  refine (HF.out _).mono ?_
  rintro e w2 ⟨rfl, b1⟩
  have K3n := Lib.hid (K3.out.below b1 K3.out.lt)
  clear K3
  have K3 := K3n
  clear K3n
  have HBn := Lib.hid (HB.out.trans (b1.mono HB.out.size))
  clear HB
  have HB := HBn
  clear HBn
  clear b1
  go_wp2_with fail
  refine bodyPost_ret (v := .int .i64 3) (by simp [results, Try.f15, go_sem]) rfl ?_
  exact ⟨rfl, HB.out⟩
set_option maxHeartbeats 16000000 in
set_option maxRecDepth 100000 in
theorem docRem_n (x : Nat) (fam n : Int) (z : Nat → Int) (hz : Bytes z) (hf : ¬ Form fam n z) (w : World) : Calls Try.prog 17 #[.pointer (some ⟨x, 0, none⟩), .agg (pvC fam n z)] w fun e w' => e = .returned (.int .i64 3) ∧ Below w.heap.size w w' := by
  have HF := Lib.hid (fun W => docGet_n x fam n z hz hf W)
  clear hz hf
  go_enter Try.func17, Try.ntmps17
  have HB := Lib.hid (Below.refl w.heap.size w)
  obtain ⟨N1, hN1⟩ : ∃ N, w.heap.size = N := ⟨_, rfl⟩
  have HN1 := Lib.hid hN1
  clear hN1
  go_wp2_with (refine wpList_box (op := ⟨some 3, _, _, _, _, _⟩) rfl 32 (.tmp 1) rfl (pvC fam n z) rfl N1 HN1.out ?_; intro w1 k1 b1 s1; refine Hid.out ?_)
  refine Lib.hid ?_
  have K3 := Lib.hid k1
  clear k1
  have le_HB_N1 : w.heap.size ≤ N1 := by rw [← HN1.out]; exact HB.out.size
  have HBn := Lib.hid (HB.out.trans (b1.mono HB.out.size))
  clear HB
  have HB := HBn
  clear HBn
  clear b1 HN1
  go_wp2_with (refine wpList_ld (op := ⟨some 10, _, _, _, _, _⟩) (by rfl) 32 (.tmp 3) rfl N1 0 rfl (pvC fam n z) _ K3.out.all Try.underlying32 rfl (hi_pv fam n z) ?_; refine Hid.out ?_)
  refine Lib.hid ?_
  go_wp2_with fail
  refine (HF.out _).mono ?_
  rintro e w2 ⟨rfl, b1⟩
  have K3n := Lib.hid (K3.out.below b1 K3.out.lt)
  clear K3
  have K3 := K3n
  clear K3n
  have HBn := Lib.hid (HB.out.trans (b1.mono HB.out.size))
  clear HB
  have HB := HBn
  clear HBn
  clear b1
  go_wp2_with fail
  refine bodyPost_ret (v := .int .i64 3) (by simp [results, Try.f17, go_sem]) rfl ?_
  exact ⟨rfl, HB.out⟩
set_option maxHeartbeats 16000000 in
set_option maxRecDepth 100000 in
theorem docIns_y (x : Nat) (k : Ky) (vv : Int) (D : List It) (w : World) (hk : KOk k) (h : DocAt w x D) (hl : D.length ≤ 1000) : Calls Try.prog 15 #[.pointer (some ⟨x, 0, none⟩), .agg (pfC (kyPf k)), .int .i64 vv] w fun e w' => e = .returned (.int .i64 0) ∧ DocAt w' x (insL k vv (wo k D)) ∧ Kp [x] w w' := by
  obtain ⟨A, c, hs, hc1, hc2, hc3, hrd, _⟩ := h.ex
  have HRD := Lib.hid hrd
  have KX := Lib.hid hs
  have HD := Lib.hid h.ok
  have HK := Lib.hid hk
  obtain ⟨m0, hm⟩ : ∃ m, D.length = m := ⟨_, rfl⟩
  have HM0 := Lib.hid hm
  rw [hm] at HRD KX hl
  have HL0 := Lib.hid hl
  have HF := Lib.hid (fun W => ckK x hk W)
  have HWK := Lib.hid (wo_kok (k := k) h.ok)
  clear hs hrd h hk hl hm hc1 hc2 hc3
  go_enter Try.func15, Try.ntmps15
  have HB := Lib.hid (Below.refl w.heap.size w)
  obtain ⟨N1, hN1⟩ : ∃ N, w.heap.size = N := ⟨_, rfl⟩
  have HN1 := Lib.hid hN1
  clear hN1
  go_wp2_with (refine wpList_box (op := ⟨some 4, _, _, _, _, _⟩) rfl 32 (.tmp 1) rfl (pfC (kyPf k)) rfl N1 HN1.out ?_; intro w1 k1 b1 s1; refine Hid.out ?_)
  refine Lib.hid ?_
  have K4 := Lib.hid k1
  clear k1
  have lt_x_N1 : x < N1 := by rw [← HN1.out]; exact KX.out.lt
  have le_HB_N1 : w.heap.size ≤ N1 := by rw [← HN1.out]; exact HB.out.size
  have KXn := Lib.hid (KX.out.below b1 KX.out.lt)
  clear KX
  have KX := KXn
  clear KXn
  have HBn := Lib.hid (HB.out.trans (b1.mono HB.out.size))
  clear HB
  have HB := HBn
  clear HBn
  clear b1 HN1
  go_wp2_with (refine wpList_ld (op := ⟨some 13, _, _, _, _, _⟩) (by rfl) 32 (.tmp 4) rfl N1 0 rfl (pfC (kyPf k)) _ K4.out.all Try.underlying32 rfl (hi_pv _ _ _) ?_; refine Hid.out ?_)
  refine Lib.hid ?_
  go_wp2_with fail
  refine (HF.out _).mono ?_
  rintro e w2 ⟨rfl, b1⟩
  have KXn := Lib.hid (KX.out.below b1 KX.out.lt)
  clear KX
  have KX := KXn
  clear KXn
  have K4n := Lib.hid (K4.out.below b1 K4.out.lt)
  clear K4
  have K4 := K4n
  clear K4n
  have HBn := Lib.hid (HB.out.trans (b1.mono HB.out.size))
  clear HB
  have HB := HBn
  clear HBn
  clear b1
  go_wp2_with fail
  refine wp_region_held_drew (S := fun w' => Blk 30 w' x (#[.slice A m0 c]) ∧ Blk 32 w' N1 (pfC (kyPf k)) ∧ Below w.heap.size w w') (by kernel_rfl) ⟨KX.out, K4.out, HB.out.drew⟩ (fun hS => ?_)
  generalize hW3 : w2.drew = W3 at hS  ⊢
  clear hW3
  clear KX
  clear K4
  clear HB
  have KX := Lib.hid hS.1
  have K4 := Lib.hid hS.2.1
  have HB := Lib.hid hS.2.2
  refine takeY (i := 0) (some 18) (v := .pointer (some ⟨x, 0, none⟩)) rfl rfl (by kernel_rfl) (by kernel_rfl) (by kernel_rfl) (fun _ _ _ h => h) (by rfl) (fun w' hS => by clear hS; go_simp) hS ?_
  simp only [Act.put, List.setIfInBounds_toArray, List.set_cons_zero, List.set_cons_succ]
  refine takeY (i := 1) (some 19) (v := .pointer (some ⟨x, 0, none⟩)) rfl rfl (by kernel_rfl) (by kernel_rfl) (by kernel_rfl) (fun _ _ _ h => h) (by rfl) (fun w' hS => by clear hS; go_simp) hS ?_
  simp only [Act.put, List.setIfInBounds_toArray, List.set_cons_zero, List.set_cons_succ]
  refine takeY (i := 2) (some 20) (v := .pointer (some ⟨x, 0, none⟩)) rfl rfl (by kernel_rfl) (by kernel_rfl) (by kernel_rfl) (fun _ _ _ h => h) (by rfl) (fun w' hS => by clear hS; go_simp) hS ?_
  simp only [Act.put, List.setIfInBounds_toArray, List.set_cons_zero, List.set_cons_succ]
  refine takeY (i := 3) (some 21) (v := .slice A m0 c) rfl rfl (by kernel_rfl) (by kernel_rfl) (by kernel_rfl) (fun _ _ _ h => h) (by rfl) (fun w' hS => by (have c9 : w'.cell? ⟨x, 0, none⟩ = some (.slice A m0 c) := (hS.1.cell 0).trans rfl; clear hS; go_simp)) hS ?_
  simp only [Act.put, List.setIfInBounds_toArray, List.set_cons_zero, List.set_cons_succ]
  refine takeL (i := 4) (some 22) 32 (.tmp 4) N1 0 (pfC (kyPf k)) _ rfl rfl (by kernel_rfl) (by kernel_rfl) (by kernel_rfl) (fun _ _ _ h => h) (by rfl) rfl rfl (fun w' hS => hS.2.1.all) Try.underlying32 rfl (hi_pv _ _ _) hS ?_
  simp only [Act.put, List.setIfInBounds_toArray, List.set_cons_zero, List.set_cons_succ]
  refine takeY (i := 7) (some 25) (v := .int .i64 0) rfl rfl (by kernel_rfl) (by kernel_rfl) (by kernel_rfl) (fun _ _ _ h => h) (by rfl) (fun w' hS => by clear hS; go_simp) hS ?_
  simp only [Act.put, List.setIfInBounds_toArray, List.set_cons_zero, List.set_cons_succ]
  refine takeCE (i := 5) (some 23) 46 #[.slice A m0 c, .agg (pfC (kyPf k))] (R := fun v w' => OwnR w' W3.heap.size 96 19 v (wo k D).length (itB (wo k D)) ∧ Below W3.heap.size W3 w') rfl rfl (by kernel_rfl) (by rfl) (by go_simp) ((wo_any k D A m0 c W3 HK.out HD.out HM0.out (HRD.out.below HB.out rfl) HL0.out).mono (fun e w' h => by obtain ⟨v, h1, h2, h3⟩ := h; exact ⟨v, h1, h2, h3⟩)) (fun v w' h => by obtain ⟨ho, b1⟩ := h; exact ⟨hS.1.below b1 hS.1.lt, hS.2.1.below b1 hS.2.1.lt, hS.2.2.trans (b1.mono hS.2.2.size)⟩) (fun v W4 h hS2 => ?_)
  obtain ⟨ho, b1⟩ := h
  clear hS2
  simp only [Act.put, List.setIfInBounds_toArray, List.set_cons_zero, List.set_cons_succ]
  obtain ⟨A2, c2, e2, _, _, _, hr2⟩ := ho.shape (itB_recs _) (by decide)
  subst e2
  obtain ⟨m, hm⟩ : ∃ m, (wo k D).length = m := ⟨_, rfl⟩
  rw [hm] at hr2 ⊢
  have HM := Lib.hid hm
  have HR2 := Lib.hid hr2
  clear hr2 ho
  have HL : Hid (m ≤ 1000) := Lib.hid (by rw [← hm]; exact Nat.le_trans (wo_len k D) (by have := HM0.out; have := HL0.out; omega))
  clear hm
  have KXn := Lib.hid (KX.out.below b1 KX.out.lt)
  clear KX
  have KX := KXn
  clear KXn
  have K4n := Lib.hid (K4.out.below b1 K4.out.lt)
  clear K4
  have K4 := K4n
  clear K4n
  have HBn := Lib.hid (HB.out.trans (b1.mono HB.out.size))
  clear HB
  have HB := HBn
  clear HBn
  clear b1 hS
  have hS := (And.intro KX.out (And.intro K4.out HB.out))
  refine takeY (i := 6) (some 24) (v := .int .i64 (m : Int)) rfl rfl (by kernel_rfl) (by kernel_rfl) (by kernel_rfl) (fun _ _ _ h => h) (by rfl) (fun w' hS => by clear hS; exact lenI_run _ _ _ rfl A2 m c2 rfl _) hS ?_
  simp only [Act.put, List.setIfInBounds_toArray, List.set_cons_zero, List.set_cons_succ]
  clear hS
  refine wpAnyH_done (by kernel_rfl) ?_ _
  go_wp2_with fail
  obtain ⟨BL, hBL⟩ : ∃ N, W4.heap.size = N := ⟨_, rfl⟩
  have HBL := Lib.hid hBL
  have le_BL : w.heap.size ≤ BL := by rw [← hBL]; exact HB.out.size
  have lt_x : x < BL := by rw [← hBL]; exact KX.out.lt
  have lt_4 : N1 < BL := by rw [← hBL]; exact K4.out.lt
  clear hBL
  have hmI : (m : Int) ≤ 9223372036854775807 := by have := HL.out; omega
  go_loopw [8, 9, 25] (fun v d t wr => ∃ (i : Nat) (dn : Bool) (S : List It), i ≤ m ∧ t = .int .i64 i ∧ d = .bool dn ∧ Hid (OwnR wr BL 96 19 v S.length (itB S)) ∧ Hid (Below BL W4 wr) ∧ Hid (InP k vv (wo k D) i dn S)) (fun _ _ t _ => m - (intOf t).toNat)
  case atStart => exact ⟨0, false, [], by omega, rfl, rfl, Lib.hid (OwnR.nil _ _ _ _ _), Lib.hid (Below.refl _ _), Lib.hid in_start⟩
  case round =>
    obtain ⟨i, dn, S, hi, rfl, rfl, HO, HQ, HP⟩ := hrel
    have HSL : Hid (S.length ≤ 1001) := Lib.hid (by have h9 : S.length ≤ i + dn.toNat := HP.out.2; have := HL.out; have := Bool.toNat_le dn; omega)
    by_cases hlt : i < m
    · have hki : (i : Int) < (m : Int) := by omega
      obtain ⟨bA, off, rfl, hr⟩ := HR2.out.row (by omega)
      obtain ⟨x1, hx⟩ : ∃ r, (wo k D)[i]? = some r := ⟨_, List.getElem?_eq_getElem (by rw [HM.out]; exact hlt)⟩
      have HX := Lib.hid hx
      have h1 : Hid (wr.rangeAt bA (off + i * 19) (itK x1).toList) := Lib.hid (it_read hr HQ.out (by have := hr.1; rw [HBL.out] at this; exact this) hlt hx)
      clear hr hx
      have HKX : Hid (KOk x1.1) := Lib.hid (HWK.out x1 (List.mem_of_getElem? HX.out))
      go_wp2_with (refine wpList_ld (op := ⟨some 28, _, _, _, _, _⟩) (by rfl) 96 (.tmp 27) rfl bA (off + i * 19) rfl (itK x1) _ h1.out Try.underlying96 rfl info_it ?_; refine Hid.out ?_)
      refine Lib.hid ?_
      clear h1
      obtain ⟨N11, hN11⟩ : ∃ N, wr.heap.size = N := ⟨_, rfl⟩
      have HN11 := Lib.hid hN11
      have HNE := Lib.hid (fun e => Nat.lt_irrefl _ (Nat.lt_of_lt_of_eq ((HO.out.lt N11 e).2) hN11))
      clear hN11
      go_wp2_with (refine wpList_new (op := ⟨some 11, _, _, _, _, _⟩) rfl 96 rfl (itC ⟨0, 0, Z0⟩ 0) zero_it N11 HN11.out ?_; intro w5 k1 b1 s9; refine Hid.out ?_)
      refine Lib.hid ?_
      have K11 := Lib.hid k1
      have HB1 := Lib.hid b1
      clear k1 b1 s9
      go_wp2_with (refine wpList_st rfl 96 (.tmp 11) (.tmp 28) rfl N11 0 rfl (.agg (itK x1)) (itK x1) rfl rfl info_it (it_one _ _) K11.out (Nat.le_of_ble_eq_true rfl) (C' := itK x1) (it_over _ _) ?_; intro w6 q1; refine Hid.out ?_)
      refine Lib.hid ?_
      have b1 : Below wr.heap.size wr w6 := HB1.out.trans (q1.2.1 _ (by rw [HN11.out]; exact Nat.le_refl _))
      have K11n : Hid (Blk 96 w6 N11 (itK x1)) := Lib.hid q1.1
      clear K11
      have K11 := K11n
      clear K11n q1 HB1 HN11
      have HOn := Lib.hid (HO.out.below b1)
      clear HO
      have HO := HOn
      clear HOn
      have HQn := Lib.hid (HQ.out.trans (b1.mono (by have := HQ.out.size; rw [HBL.out] at this; exact this)))
      clear HQ
      have HQ := HQn
      clear HQn
      clear b1
      cases dn with
      | false =>
        have K4w := Lib.hid (K4.out.below HQ.out lt_4)
        go_wp2_with (refine wpList_ld (op := ⟨some 32, _, _, _, _, _⟩) (by rfl) 32 (.tmp 4) rfl N1 (0) rfl (pfC (kyPf k)) _ K4w.out.all Try.underlying32 rfl (hi_pv _ _ _) ?_; refine Hid.out ?_)
        refine Lib.hid ?_
        go_wp2_with (refine wpList_ld (op := ⟨some 34, _, _, _, _, _⟩) (by rfl) 32 (.tmp 33) rfl N11 (0) rfl (pfC (kyPf x1.1)) _ K11.out.itpf Try.underlying32 rfl (hi_pv _ _ _) ?_; refine Hid.out ?_)
        refine Lib.hid ?_
        go_wp2_with fail
        refine (lessK HK.out HKX.out w6).mono ?_
        rintro e w7 ⟨rfl, b1⟩
        have HOn := Lib.hid (HO.out.below b1)
        clear HO
        have HO := HOn
        clear HOn
        have HQn := Lib.hid (HQ.out.trans (b1.mono (by have := HQ.out.size; rw [HBL.out] at this; exact this)))
        clear HQ
        have HQ := HQn
        clear HQn
        have K11n := Lib.hid (K11.out.below b1 K11.out.lt)
        clear K11
        have K11 := K11n
        clear K11n
        have K4wn := Lib.hid (K4w.out.below b1 K4w.out.lt)
        clear K4w
        have K4w := K4wn
        clear K4wn
        clear b1
        obtain ⟨dd, hd⟩ : ∃ d, ltQ k x1.1 = d := ⟨_, rfl⟩
        rw [hd]
        have HDD := Lib.hid hd
        clear hd
        cases dd with
        | false =>
          have HPn := Lib.hid (in_ge HP.out HX.out HDD.out)
          clear K4w
          go_wp2_with (refine wpList_ld (op := ⟨some 44, _, _, _, _, _⟩) (by rfl) 96 (.tmp 11) rfl N11 (0) rfl (itK x1) _ K11.out.all Try.underlying96 rfl info_it ?_; refine Hid.out ?_)
          refine Lib.hid ?_
          obtain ⟨P2, hP2⟩ : ∃ N, w7.heap.size = N := ⟨_, rfl⟩
          have HP2 := Lib.hid hP2
          clear hP2
          go_wp2_with (refine wpList_bs (op := ⟨some 45, _, _, _, _, _⟩) rfl 96 (itK x1) (bs_it _ _ _ rfl (kyPf x1.1) x1.2 rfl) P2 HP2.out ?_; intro wa k1 b1 s9; refine Hid.out ?_)
          refine Lib.hid ?_
          have HRR : Hid (RdR wa (some ⟨P2, 0, none⟩) 1 19 (fun _ => itK x1)) := Lib.hid (rdR_blk k1)
          clear k1 s9
          have HOn := Lib.hid (HO.out.below b1)
          clear HO
          have HO := HOn
          clear HOn
          have HQn := Lib.hid (HQ.out.trans (b1.mono (by have := HQ.out.size; rw [HBL.out] at this; exact this)))
          clear HQ
          have HQ := HQn
          clear HQn
          clear b1 HP2
          have HZ : Hid (BL ≤ wa.heap.size) := Lib.hid (by have := HQ.out.size; rw [HBL.out] at this; exact this)
          go_wp2_with (refine app_Y (o := ⟨some 46, _, _, _, _, _⟩) 28 96 19 40 (.agg (itC ⟨0, 0, Z0⟩ 0)) Try.underlying28 info_itE rfl (by decide) rfl (.tmp 43) (.tmp 45) rfl BL _ (S).length (itB (S)) rfl HO.out HZ.out ⟨P2, 0, none⟩ 1 1 (fun _ => itK x1) rfl HRR.out (itC_recs _ _) (by have := HSL.out; unfold maxLen; (try simp only [List.length_append, List.length_singleton]); omega) (by have := HSL.out; (try simp only [List.length_append, List.length_singleton]); omega) ?_; intro vb wb ho9 hg9 hk9; refine Hid.out ?_)
          refine Lib.hid ?_
          have hb2 := below_grown hg9 HZ.out hk9
          have HOn : Hid (OwnR wb BL 96 19 vb ((S) ++ [x1]).length (itB ((S) ++ [x1]))) := Lib.hid (by rw [List.length_append]; exact OwnR.congr ho9 (fun j hj => it_snoc (S) (x1) j hj))
          clear HO
          have HO := HOn
          clear HOn
          have HQn := Lib.hid (HQ.out.trans hb2)
          clear HQ
          have HQ := HQn
          clear HQn
          clear ho9 hg9 hk9 HRR hb2 HZ
          clear K11
          go_wp2_with fail
          go_roundw
          case rel => exact ⟨i + 1, false, S ++ [x1], by omega, by go_num, rfl, HO, HQ, HPn⟩
          case measure => simp only [intOf]; omega
        | true =>
          have HPn := Lib.hid (in_lt HP.out HX.out HDD.out)
          go_wp2_with (refine wpList_ld (op := ⟨some 38, _, _, _, _, _⟩) (by rfl) 32 (.tmp 4) rfl N1 (0) rfl (pfC (kyPf k)) _ K4w.out.all Try.underlying32 rfl (hi_pv _ _ _) ?_; refine Hid.out ?_)
          refine Lib.hid ?_
          clear K4w
          go_wp2_with (refine wpList_v (op := ⟨some 40, _, _, _, _, _⟩) rfl (.agg (itC (kyPf k) vv)) (bld_it _ _ _ rfl (kyPf k) vv rfl rfl) ?_; refine Hid.out ?_)
          refine Lib.hid ?_
          obtain ⟨P1, hP1⟩ : ∃ N, w7.heap.size = N := ⟨_, rfl⟩
          have HP1 := Lib.hid hP1
          clear hP1
          go_wp2_with (refine wpList_bs (op := ⟨some 41, _, _, _, _, _⟩) rfl 96 (itC (kyPf k) vv) (bs_it _ _ _ rfl (kyPf k) vv rfl) P1 HP1.out ?_; intro w8 k1 b1 s9; refine Hid.out ?_)
          refine Lib.hid ?_
          have HRR : Hid (RdR w8 (some ⟨P1, 0, none⟩) 1 19 (fun _ => itC (kyPf k) vv)) := Lib.hid (rdR_blk k1)
          clear k1 s9
          have HOn := Lib.hid (HO.out.below b1)
          clear HO
          have HO := HOn
          clear HOn
          have HQn := Lib.hid (HQ.out.trans (b1.mono (by have := HQ.out.size; rw [HBL.out] at this; exact this)))
          clear HQ
          have HQ := HQn
          clear HQn
          have K11n := Lib.hid (K11.out.below b1 K11.out.lt)
          clear K11
          have K11 := K11n
          clear K11n
          clear b1 HP1
          have HZ : Hid (BL ≤ w8.heap.size) := Lib.hid (by have := HQ.out.size; rw [HBL.out] at this; exact this)
          go_wp2_with (refine app_Y (o := ⟨some 42, _, _, _, _, _⟩) 28 96 19 40 (.agg (itC ⟨0, 0, Z0⟩ 0)) Try.underlying28 info_itE rfl (by decide) rfl (.tmp 37) (.tmp 41) rfl BL _ (S).length (itB (S)) rfl HO.out HZ.out ⟨P1, 0, none⟩ 1 1 (fun _ => itC (kyPf k) vv) rfl HRR.out (itC_recs _ _) (by have := HSL.out; unfold maxLen; (try simp only [List.length_append, List.length_singleton]); omega) (by have := HSL.out; (try simp only [List.length_append, List.length_singleton]); omega) ?_; intro v9 w9 ho9 hg9 hk9; refine Hid.out ?_)
          refine Lib.hid ?_
          have K11n : Hid (Blk 96 w9 N11 (itK x1)) := Lib.hid ((hg9.block N11 K11.out.lt (fun e => HNE.out e.symm)).trans K11.out)
          clear K11 HNE
          have K11 := K11n
          clear K11n
          have hb2 := below_grown hg9 HZ.out hk9
          have HOn : Hid (OwnR w9 BL 96 19 v9 ((S) ++ [(k, vv)]).length (itB ((S) ++ [(k, vv)]))) := Lib.hid (by rw [List.length_append]; exact OwnR.congr ho9 (fun j hj => it_snoc (S) ((k, vv)) j hj))
          clear HO
          have HO := HOn
          clear HOn
          have HQn := Lib.hid (HQ.out.trans hb2)
          clear HQ
          have HQ := HQn
          clear HQn
          clear ho9 hg9 hk9 HRR hb2 HZ
          go_wp2_with (refine wpList_ld (op := ⟨some 44, _, _, _, _, _⟩) (by rfl) 96 (.tmp 11) rfl N11 (0) rfl (itK x1) _ K11.out.all Try.underlying96 rfl info_it ?_; refine Hid.out ?_)
          refine Lib.hid ?_
          obtain ⟨P2, hP2⟩ : ∃ N, w9.heap.size = N := ⟨_, rfl⟩
          have HP2 := Lib.hid hP2
          clear hP2
          go_wp2_with (refine wpList_bs (op := ⟨some 45, _, _, _, _, _⟩) rfl 96 (itK x1) (bs_it _ _ _ rfl (kyPf x1.1) x1.2 rfl) P2 HP2.out ?_; intro wa k1 b1 s9; refine Hid.out ?_)
          refine Lib.hid ?_
          have HRR : Hid (RdR wa (some ⟨P2, 0, none⟩) 1 19 (fun _ => itK x1)) := Lib.hid (rdR_blk k1)
          clear k1 s9
          have HOn := Lib.hid (HO.out.below b1)
          clear HO
          have HO := HOn
          clear HOn
          have HQn := Lib.hid (HQ.out.trans (b1.mono (by have := HQ.out.size; rw [HBL.out] at this; exact this)))
          clear HQ
          have HQ := HQn
          clear HQn
          clear b1 HP2
          have HZ : Hid (BL ≤ wa.heap.size) := Lib.hid (by have := HQ.out.size; rw [HBL.out] at this; exact this)
          go_wp2_with (refine app_Y (o := ⟨some 46, _, _, _, _, _⟩) 28 96 19 40 (.agg (itC ⟨0, 0, Z0⟩ 0)) Try.underlying28 info_itE rfl (by decide) rfl (.tmp 43) (.tmp 45) rfl BL _ (S ++ [(k, vv)]).length (itB (S ++ [(k, vv)])) rfl HO.out HZ.out ⟨P2, 0, none⟩ 1 1 (fun _ => itK x1) rfl HRR.out (itC_recs _ _) (by have := HSL.out; unfold maxLen; (try simp only [List.length_append, List.length_singleton]); omega) (by have := HSL.out; (try simp only [List.length_append, List.length_singleton]); omega) ?_; intro vb wb ho9 hg9 hk9; refine Hid.out ?_)
          refine Lib.hid ?_
          have hb2 := below_grown hg9 HZ.out hk9
          have HOn : Hid (OwnR wb BL 96 19 vb ((S ++ [(k, vv)]) ++ [x1]).length (itB ((S ++ [(k, vv)]) ++ [x1]))) := Lib.hid (by rw [List.length_append]; exact OwnR.congr ho9 (fun j hj => it_snoc (S ++ [(k, vv)]) (x1) j hj))
          clear HO
          have HO := HOn
          clear HOn
          have HQn := Lib.hid (HQ.out.trans hb2)
          clear HQ
          have HQ := HQn
          clear HQn
          clear ho9 hg9 hk9 HRR hb2 HZ
          clear K11
          go_wp2_with fail
          go_roundw
          case rel => exact ⟨i + 1, true, (S ++ [(k, vv)]) ++ [x1], by omega, by go_num, rfl, HO, HQ, HPn⟩
          case measure => simp only [intOf]; omega
      | true =>
        have HPn := Lib.hid (in_dn HP.out HX.out)
        go_wp2_with (refine wpList_ld (op := ⟨some 44, _, _, _, _, _⟩) (by rfl) 96 (.tmp 11) rfl N11 (0) rfl (itK x1) _ K11.out.all Try.underlying96 rfl info_it ?_; refine Hid.out ?_)
        refine Lib.hid ?_
        obtain ⟨P2, hP2⟩ : ∃ N, w6.heap.size = N := ⟨_, rfl⟩
        have HP2 := Lib.hid hP2
        clear hP2
        go_wp2_with (refine wpList_bs (op := ⟨some 45, _, _, _, _, _⟩) rfl 96 (itK x1) (bs_it _ _ _ rfl (kyPf x1.1) x1.2 rfl) P2 HP2.out ?_; intro wa k1 b1 s9; refine Hid.out ?_)
        refine Lib.hid ?_
        have HRR : Hid (RdR wa (some ⟨P2, 0, none⟩) 1 19 (fun _ => itK x1)) := Lib.hid (rdR_blk k1)
        clear k1 s9
        have HOn := Lib.hid (HO.out.below b1)
        clear HO
        have HO := HOn
        clear HOn
        have HQn := Lib.hid (HQ.out.trans (b1.mono (by have := HQ.out.size; rw [HBL.out] at this; exact this)))
        clear HQ
        have HQ := HQn
        clear HQn
        clear b1 HP2
        have HZ : Hid (BL ≤ wa.heap.size) := Lib.hid (by have := HQ.out.size; rw [HBL.out] at this; exact this)
        go_wp2_with (refine app_Y (o := ⟨some 46, _, _, _, _, _⟩) 28 96 19 40 (.agg (itC ⟨0, 0, Z0⟩ 0)) Try.underlying28 info_itE rfl (by decide) rfl (.tmp 43) (.tmp 45) rfl BL _ (S).length (itB (S)) rfl HO.out HZ.out ⟨P2, 0, none⟩ 1 1 (fun _ => itK x1) rfl HRR.out (itC_recs _ _) (by have := HSL.out; unfold maxLen; (try simp only [List.length_append, List.length_singleton]); omega) (by have := HSL.out; (try simp only [List.length_append, List.length_singleton]); omega) ?_; intro vb wb ho9 hg9 hk9; refine Hid.out ?_)
        refine Lib.hid ?_
        have hb2 := below_grown hg9 HZ.out hk9
        have HOn : Hid (OwnR wb BL 96 19 vb ((S) ++ [x1]).length (itB ((S) ++ [x1]))) := Lib.hid (by rw [List.length_append]; exact OwnR.congr ho9 (fun j hj => it_snoc (S) (x1) j hj))
        clear HO
        have HO := HOn
        clear HOn
        have HQn := Lib.hid (HQ.out.trans hb2)
        clear HQ
        have HQ := HQn
        clear HQn
        clear ho9 hg9 hk9 HRR hb2 HZ
        clear K11
        go_wp2_with fail
        go_roundw
        case rel => exact ⟨i + 1, true, S ++ [x1], by omega, by go_num, rfl, HO, HQ, HPn⟩
        case measure => simp only [intOf]; omega
    · obtain rfl : m = i := by omega
      cases dn with
      | false =>
        have K4w := Lib.hid (K4.out.below HQ.out lt_4)
        have KXw := Lib.hid (KX.out.below HQ.out lt_x)
        go_wp2_with (refine wpList_ld (op := ⟨some 51, _, _, _, _, _⟩) (by rfl) 32 (.tmp 4) rfl N1 (0) rfl (pfC (kyPf k)) _ K4w.out.all Try.underlying32 rfl (hi_pv _ _ _) ?_; refine Hid.out ?_)
        refine Lib.hid ?_
        clear K4w
        go_wp2_with (refine wpList_v (op := ⟨some 53, _, _, _, _, _⟩) rfl (.agg (itC (kyPf k) vv)) (bld_it _ _ _ rfl (kyPf k) vv rfl rfl) ?_; refine Hid.out ?_)
        refine Lib.hid ?_
        obtain ⟨P1, hP1⟩ : ∃ N, wr.heap.size = N := ⟨_, rfl⟩
        have HP1 := Lib.hid hP1
        clear hP1
        go_wp2_with (refine wpList_bs (op := ⟨some 54, _, _, _, _, _⟩) rfl 96 (itC (kyPf k) vv) (bs_it _ _ _ rfl (kyPf k) vv rfl) P1 HP1.out ?_; intro w8 k1 b1 s9; refine Hid.out ?_)
        refine Lib.hid ?_
        have HRR : Hid (RdR w8 (some ⟨P1, 0, none⟩) 1 19 (fun _ => itC (kyPf k) vv)) := Lib.hid (rdR_blk k1)
        clear k1 s9
        have HOn := Lib.hid (HO.out.below b1)
        clear HO
        have HO := HOn
        clear HOn
        have HQn := Lib.hid (HQ.out.trans (b1.mono (by have := HQ.out.size; rw [HBL.out] at this; exact this)))
        clear HQ
        have HQ := HQn
        clear HQn
        clear b1 HP1
        have HZ : Hid (BL ≤ w8.heap.size) := Lib.hid (by have := HQ.out.size; rw [HBL.out] at this; exact this)
        go_wp2_with (refine app_Y (o := ⟨some 55, _, _, _, _, _⟩) 28 96 19 40 (.agg (itC ⟨0, 0, Z0⟩ 0)) Try.underlying28 info_itE rfl (by decide) rfl (.tmp 50) (.tmp 54) rfl BL _ (S).length (itB (S)) rfl HO.out HZ.out ⟨P1, 0, none⟩ 1 1 (fun _ => itC (kyPf k) vv) rfl HRR.out (itC_recs _ _) (by have := HSL.out; unfold maxLen; (try simp only [List.length_append, List.length_singleton]); omega) (by have := HSL.out; (try simp only [List.length_append, List.length_singleton]); omega) ?_; intro v9 w9 ho9 hg9 hk9; refine Hid.out ?_)
        refine Lib.hid ?_
        have hb2 := below_grown hg9 HZ.out hk9
        have HOn : Hid (OwnR w9 BL 96 19 v9 ((S) ++ [(k, vv)]).length (itB ((S) ++ [(k, vv)]))) := Lib.hid (by rw [List.length_append]; exact OwnR.congr ho9 (fun j hj => it_snoc (S) ((k, vv)) j hj))
        clear HO
        have HO := HOn
        clear HOn
        have HQn := Lib.hid (HQ.out.trans hb2)
        clear HQ
        have HQ := HQn
        clear HQn
        clear ho9 hg9 hk9 HRR hb2 HZ
        clear KXw
        have KXw := Lib.hid (KX.out.below HQ.out lt_x)
        obtain ⟨A9, c9, e9, _⟩ := HO.out.shape (itB_recs _) (by decide)
        subst e9
        have e8 : insL k vv (wo k D) = (S ++ [(k, vv)]) := in_end_f (by rw [HM.out]; exact HP.out)
        have HKQ : Hid (Kp [x] w w9) := Lib.hid (Kp.of_below [x] (HB.out.trans (HQ.out.mono le_BL)))
        have HE8 := Lib.hid e8
        clear e8
        go_wp2_with (refine wpList_st rfl 28 (.tmp 59) (.tmp 57) rfl x 0 rfl (.slice A9 ((S ++ [(k, vv)])).length c9) #[.slice A9 ((S ++ [(k, vv)])).length c9] rfl rfl info_li one_li KXw.out (Nat.le_of_ble_eq_true rfl) (C' := #[.slice A9 ((S ++ [(k, vv)])).length c9]) rfl ?_; intro wz q1; refine Hid.out ?_)
        refine Lib.hid ?_
        have HKZ : Hid (Kp [x] w wz) := Lib.hid (HKQ.out.st q1 (.inl (by simp)))
        have HOz := Lib.hid (own_st HO.out KXw.out (by decide) q1)
        have KXz := Lib.hid q1.1
        clear q1 HO HQ HKQ KXw
        go_wp2_with fail
        refine bodyPost_ret (v := .int .i64 0) (by simp [results, Try.f15, go_sem]) rfl ?_
        exact ⟨rfl, by rw [HE8.out]; exact doc_of KXz.out HOz.out (by rw [← HE8.out]; exact ins_kok HK.out HWK.out), HKZ.out⟩
      | true =>
        have KXw := Lib.hid (KX.out.below HQ.out lt_x)
        obtain ⟨A9, c9, e9, _⟩ := HO.out.shape (itB_recs _) (by decide)
        subst e9
        have e8 : insL k vv (wo k D) = S := in_end_t (by rw [HM.out]; exact HP.out)
        have HKQ : Hid (Kp [x] w wr) := Lib.hid (Kp.of_below [x] (HB.out.trans (HQ.out.mono le_BL)))
        have HE8 := Lib.hid e8
        clear e8
        go_wp2_with (refine wpList_st rfl 28 (.tmp 59) (.tmp 57) rfl x 0 rfl (.slice A9 (S).length c9) #[.slice A9 (S).length c9] rfl rfl info_li one_li KXw.out (Nat.le_of_ble_eq_true rfl) (C' := #[.slice A9 (S).length c9]) rfl ?_; intro wz q1; refine Hid.out ?_)
        refine Lib.hid ?_
        have HKZ : Hid (Kp [x] w wz) := Lib.hid (HKQ.out.st q1 (.inl (by simp)))
        have HOz := Lib.hid (own_st HO.out KXw.out (by decide) q1)
        have KXz := Lib.hid q1.1
        clear q1 HO HQ HKQ KXw
        go_wp2_with fail
        refine bodyPost_ret (v := .int .i64 0) (by simp [results, Try.f15, go_sem]) rfl ?_
        exact ⟨rfl, by rw [HE8.out]; exact doc_of KXz.out HOz.out (by rw [← HE8.out]; exact ins_kok HK.out HWK.out), HKZ.out⟩
/-- what DocInsert leaves -/
def DInsP (x : Nat) (D : List It) (k : Option Ky) (vv : Int) (w : World) (e : Ending) (w' : World) : Prop := e = .returned (.int .i64 (if k = none then 3 else 0)) ∧ DocAt w' x (match k with | none => D | some k => insL k vv (wo k D)) ∧ Kp [x] w w'
theorem docIns_any (x : Nat) (D : List It) (fam n vv : Int) (z : Nat → Int) (hz : Bytes z) (w : World) (h : DocAt w x D) (hl : D.length ≤ 1000) : Calls Try.prog 15 #[.pointer (some ⟨x, 0, none⟩), .agg (pvC fam n z), .int .i64 vv] w (DInsP x D (kyP fam n z) vv w) := by
  cases hk : kyP fam n z with
  | none => exact (docIns_n x fam n vv z hz (ky_none hk) w).mono fun e w' h9 => ⟨h9.1, h.below h9.2, Kp.of_below _ h9.2⟩
  | some k =>
    obtain ⟨h1, h2⟩ := ky_pf hz hk
    rw [h2]
    exact (docIns_y x k vv D w h1 h hl).mono fun e w' h9 => ⟨h9.1, h9.2.1, h9.2.2⟩
/-- the document's trie, its list told -/
def DocA (w : World) (x : Nat) (D : List It) (A : Option Addr) (m c : Nat) : Prop := Blk 30 w x #[.slice A m c] ∧ RdR w A m 19 (itB D)
theorem DocA.lt {w : World} {x : Nat} {D : List It} {A : Option Addr} {m c : Nat} (h : DocA w x D A m c) : x < w.heap.size := h.1.lt
theorem DocA.below {w w' : World} {x : Nat} {D : List It} {A : Option Addr} {m c : Nat} (h : DocA w x D A m c) (hb : Below w.heap.size w w') (_ : x < w.heap.size) : DocA w' x D A m c := ⟨h.1.below hb h.1.lt, h.2.below hb rfl⟩
theorem DocA.drew {w : World} {x : Nat} {D : List It} {A : Option Addr} {m c : Nat} (h : DocA w x D A m c) : DocA w.drew x D A m c := ⟨h.1.drew, h.2.below ((Below.refl _ w).drew) rfl⟩
set_option maxHeartbeats 16000000 in
set_option maxRecDepth 100000 in
theorem docRem_no (x : Nat) (k : Ky) (D : List It) (w : World) (hk : KOk k) (h : DocAt w x D) (hl : D.length ≤ 1000) (hlk : lk k D = none) : Calls Try.prog 17 #[.pointer (some ⟨x, 0, none⟩), .agg (pfC (kyPf k))] w fun e w' => e = .returned (.int .i64 6) ∧ DocAt w' x D ∧ Kp [x] w w' := by
  have HDG := Lib.hid (fun W (hW : Below w.heap.size w W) => docGet_y x k D W hk (h.below hW) hl)
  rw [hlk] at HDG
  have HDW := Lib.hid h
  obtain ⟨A, c, hs, hc1, hc2, hc3, hrd, _⟩ := h.ex
  have HRD := Lib.hid hrd
  have KX := Lib.hid hs
  have HD := Lib.hid h.ok
  have HK := Lib.hid hk
  obtain ⟨m0, hm⟩ : ∃ m, D.length = m := ⟨_, rfl⟩
  have HM0 := Lib.hid hm
  rw [hm] at HRD KX hl
  have HL0 := Lib.hid hl
  have HWK := Lib.hid (wo_kok (k := k) h.ok)
  have HDA : Hid (DocA w x D A m0 c) := Lib.hid ⟨KX.out, HRD.out⟩
  have lt_x : x < w.heap.size := KX.out.lt
  clear hs hrd h hk hl hm hc1 hc2 hc3 KX HRD hlk
  go_enter Try.func17, Try.ntmps17
  have HB := Lib.hid (Below.refl w.heap.size w)
  have HKP := Lib.hid (Kp.refl ([x]) w)
  obtain ⟨N1, hN1⟩ : ∃ N, w.heap.size = N := ⟨_, rfl⟩
  have HN1 := Lib.hid hN1
  clear hN1
  go_wp2_with (refine wpList_box (op := ⟨some 3, _, _, _, _, _⟩) rfl 32 (.tmp 1) rfl (pfC (kyPf k)) rfl N1 HN1.out ?_; intro w1 k1 b1 s1; refine Hid.out ?_)
  refine Lib.hid ?_
  have le_HKP_N1 : w.heap.size ≤ N1 := by rw [← HN1.out]; exact HKP.out.size
  have K3 := Lib.hid k1
  clear k1
  have le_HB_N1 : w.heap.size ≤ N1 := by rw [← HN1.out]; exact HB.out.size
  have HBn := Lib.hid (HB.out.trans (b1.mono HB.out.size))
  clear HB
  have HB := HBn
  clear HBn
  have HDAn := Lib.hid (HDA.out.below b1 HDA.out.lt)
  clear HDA
  have HDA := HDAn
  clear HDAn
  have HKPn := Lib.hid (HKP.out.tb b1)
  clear HKP
  have HKP := HKPn
  clear HKPn
  clear b1 HN1
  have ne_x : x < N1 := by omega
  go_wp2_with (refine wpList_ld (op := ⟨some 10, _, _, _, _, _⟩) (by rfl) 32 (.tmp 3) rfl N1 0 rfl (pfC (kyPf k)) _ K3.out.all Try.underlying32 rfl (hi_pv _ _ _) ?_; refine Hid.out ?_)
  refine Lib.hid ?_
  go_wp2_with fail
  refine (HDG.out _ HB.out).mono ?_
  rintro e w2 ⟨rfl, b1⟩
  have K3n := Lib.hid (K3.out.below b1 K3.out.lt)
  clear K3
  have K3 := K3n
  clear K3n
  have HBn := Lib.hid (HB.out.trans (b1.mono HB.out.size))
  clear HB
  have HB := HBn
  clear HBn
  have HDAn := Lib.hid (HDA.out.below b1 HDA.out.lt)
  clear HDA
  have HDA := HDAn
  clear HDAn
  have HKPn := Lib.hid (HKP.out.tb b1)
  clear HKP
  have HKP := HKPn
  clear HKPn
  clear b1
  rw [show getV none = .tuple #[.int .i64 0, .bool false, .int .i64 0] from rfl]
  go_wp2_with fail
  refine bodyPost_ret (v := .int .i64 6) (by simp [results, Try.f17, go_sem]) rfl ?_
  exact ⟨rfl, HDW.out.below HB.out, Kp.of_below _ HB.out⟩
set_option maxHeartbeats 16000000 in
set_option maxRecDepth 100000 in
theorem docRem_yes (x : Nat) (k : Ky) (v1 : Int) (D : List It) (w : World) (hk : KOk k) (h : DocAt w x D) (hl : D.length ≤ 1000) (hlk : lk k D = some v1) : Calls Try.prog 17 #[.pointer (some ⟨x, 0, none⟩), .agg (pfC (kyPf k))] w fun e w' => e = .returned (.int .i64 0) ∧ DocAt w' x (wo k D) ∧ Kp [x] w w' := by
  have HDG := Lib.hid (fun W (hW : Below w.heap.size w W) => docGet_y x k D W hk (h.below hW) hl)
  rw [hlk] at HDG
  have HDW := Lib.hid h
  obtain ⟨A, c, hs, hc1, hc2, hc3, hrd, _⟩ := h.ex
  have HRD := Lib.hid hrd
  have KX := Lib.hid hs
  have HD := Lib.hid h.ok
  have HK := Lib.hid hk
  obtain ⟨m0, hm⟩ : ∃ m, D.length = m := ⟨_, rfl⟩
  have HM0 := Lib.hid hm
  rw [hm] at HRD KX hl
  have HL0 := Lib.hid hl
  have HWK := Lib.hid (wo_kok (k := k) h.ok)
  have HDA : Hid (DocA w x D A m0 c) := Lib.hid ⟨KX.out, HRD.out⟩
  have lt_x : x < w.heap.size := KX.out.lt
  clear hs hrd h hk hl hm hc1 hc2 hc3 KX HRD hlk
  go_enter Try.func17, Try.ntmps17
  have HB := Lib.hid (Below.refl w.heap.size w)
  have HKP := Lib.hid (Kp.refl ([x]) w)
  obtain ⟨N1, hN1⟩ : ∃ N, w.heap.size = N := ⟨_, rfl⟩
  have HN1 := Lib.hid hN1
  clear hN1
  go_wp2_with (refine wpList_box (op := ⟨some 3, _, _, _, _, _⟩) rfl 32 (.tmp 1) rfl (pfC (kyPf k)) rfl N1 HN1.out ?_; intro w1 k1 b1 s1; refine Hid.out ?_)
  refine Lib.hid ?_
  have le_HKP_N1 : w.heap.size ≤ N1 := by rw [← HN1.out]; exact HKP.out.size
  have K3 := Lib.hid k1
  clear k1
  have le_HB_N1 : w.heap.size ≤ N1 := by rw [← HN1.out]; exact HB.out.size
  have HBn := Lib.hid (HB.out.trans (b1.mono HB.out.size))
  clear HB
  have HB := HBn
  clear HBn
  have HDAn := Lib.hid (HDA.out.below b1 HDA.out.lt)
  clear HDA
  have HDA := HDAn
  clear HDAn
  have HKPn := Lib.hid (HKP.out.tb b1)
  clear HKP
  have HKP := HKPn
  clear HKPn
  clear b1 HN1
  have ne_x : x < N1 := by omega
  go_wp2_with (refine wpList_ld (op := ⟨some 10, _, _, _, _, _⟩) (by rfl) 32 (.tmp 3) rfl N1 0 rfl (pfC (kyPf k)) _ K3.out.all Try.underlying32 rfl (hi_pv _ _ _) ?_; refine Hid.out ?_)
  refine Lib.hid ?_
  go_wp2_with fail
  refine (HDG.out _ HB.out).mono ?_
  rintro e w2 ⟨rfl, b1⟩
  have K3n := Lib.hid (K3.out.below b1 K3.out.lt)
  clear K3
  have K3 := K3n
  clear K3n
  have HBn := Lib.hid (HB.out.trans (b1.mono HB.out.size))
  clear HB
  have HB := HBn
  clear HBn
  have HDAn := Lib.hid (HDA.out.below b1 HDA.out.lt)
  clear HDA
  have HDA := HDAn
  clear HDAn
  have HKPn := Lib.hid (HKP.out.tb b1)
  clear HKP
  have HKP := HKPn
  clear HKPn
  clear b1
  rw [show getV (some v1) = .tuple #[.int .i64 v1, .bool true, .int .i64 0] from rfl]
  go_wp2_with fail
  clear HB HDG HDW
  have HDAd := Lib.hid HDA.out.drew
  clear HDA
  refine wp_region_held_drew (S := fun w' => Blk 32 w' N1 (pfC (kyPf k)) ∧ Kp ([x]) w w') (by kernel_rfl) ⟨K3.out, HKP.out.drew⟩ (fun hS => ?_)
  generalize hW3 : w2.drew = W3 at hS HDAd ⊢
  clear hW3
  clear K3
  clear HKP
  have HDA := HDAd
  clear HDAd
  have K3 := Lib.hid hS.1
  have HKP := Lib.hid hS.2
  refine takeY (i := 0) (some 20) (v := .pointer (some ⟨x, 0, none⟩)) rfl rfl (by kernel_rfl) (by kernel_rfl) (by kernel_rfl) (fun _ _ _ h => h) (by rfl) (fun w' hS => by clear hS; go_simp) hS ?_
  simp only [Act.put, List.setIfInBounds_toArray, List.set_cons_zero, List.set_cons_succ]
  refine takeY (i := 1) (some 21) (v := .pointer (some ⟨x, 0, none⟩)) rfl rfl (by kernel_rfl) (by kernel_rfl) (by kernel_rfl) (fun _ _ _ h => h) (by rfl) (fun w' hS => by clear hS; go_simp) hS ?_
  simp only [Act.put, List.setIfInBounds_toArray, List.set_cons_zero, List.set_cons_succ]
  refine takeY (i := 2) (some 22) (v := .pointer (some ⟨x, 0, none⟩)) rfl rfl (by kernel_rfl) (by kernel_rfl) (by kernel_rfl) (fun _ _ _ h => h) (by rfl) (fun w' hS => by clear hS; go_simp) hS ?_
  simp only [Act.put, List.setIfInBounds_toArray, List.set_cons_zero, List.set_cons_succ]
  refine takeY (i := 3) (some 23) (v := .pointer (some ⟨x, 0, none⟩)) rfl rfl (by kernel_rfl) (by kernel_rfl) (by kernel_rfl) (fun _ _ _ h => h) (by rfl) (fun w' hS => by clear hS; go_simp) hS ?_
  simp only [Act.put, List.setIfInBounds_toArray, List.set_cons_zero, List.set_cons_succ]
  refine takeL (i := 5) (some 25) 32 (.tmp 3) N1 0 (pfC (kyPf k)) _ rfl rfl (by kernel_rfl) (by kernel_rfl) (by kernel_rfl) (fun _ _ _ h => h) (by rfl) rfl rfl (fun w' hS => hS.1.all) Try.underlying32 rfl (hi_pv _ _ _) hS ?_
  simp only [Act.put, List.setIfInBounds_toArray, List.set_cons_zero, List.set_cons_succ]
  refine takeV (i := 4) (some 24) (v := .slice A m0 c) (w' := W3) rfl rfl (by kernel_rfl) (by rfl) (by have c9 : W3.cell? ⟨x, 0, none⟩ = some (.slice A m0 c) := (HDA.out.1.cell 0).trans rfl; clear hS; go_simp) hS ?_
  simp only [Act.put, List.setIfInBounds_toArray, List.set_cons_zero, List.set_cons_succ]
  refine takeCE (i := 6) (some 26) 46 #[.slice A m0 c, .agg (pfC (kyPf k))] (R := fun v w' => OwnR w' W3.heap.size 96 19 v (wo k D).length (itB (wo k D)) ∧ Below W3.heap.size W3 w') rfl rfl (by kernel_rfl) (by rfl) (by go_simp) ((wo_any k D A m0 c W3 HK.out HD.out HM0.out HDA.out.2 HL0.out).mono (fun e w' h => by obtain ⟨v, h1, h2, h3⟩ := h; exact ⟨v, h1, h2, h3⟩)) (fun v w' h => by obtain ⟨ho, b1⟩ := h; exact ⟨hS.1.below b1 hS.1.lt, hS.2.tb b1⟩) (fun v W4 h hS2 => ?_)
  obtain ⟨ho, b1⟩ := h
  clear hS2
  simp only [Act.put, List.setIfInBounds_toArray, List.set_cons_zero, List.set_cons_succ]
  obtain ⟨A2, c2, e2, _, _, _, _⟩ := ho.shape (itB_recs _) (by decide)
  subst e2
  have HOW := Lib.hid ho
  clear ho
  have HDAn := Lib.hid (HDA.out.below b1 HDA.out.lt)
  clear HDA
  have HDA := HDAn
  clear HDAn
  have K3n := Lib.hid (K3.out.below b1 K3.out.lt)
  clear K3
  have K3 := K3n
  clear K3n
  have HKPn := Lib.hid (HKP.out.tb b1)
  clear HKP
  have HKP := HKPn
  clear HKPn
  clear b1 hS
  have hS := (And.intro K3.out HKP.out)
  have KX : Hid (Blk 30 W4 x #[.slice A m0 c]) := Lib.hid HDA.out.1
  clear HDA
  refine takeY (i := 7) (some 27) (v := .pointer (some ⟨x, 0, none⟩)) rfl rfl (by kernel_rfl) (by kernel_rfl) (by kernel_rfl) (fun _ _ _ h => h) (by rfl) (fun w' hS => by clear hS; go_simp) hS ?_
  simp only [Act.put, List.setIfInBounds_toArray, List.set_cons_zero, List.set_cons_succ]
  refine takeY (i := 8) (some 28) (v := .pointer (some ⟨x, 0, none⟩)) rfl rfl (by kernel_rfl) (by kernel_rfl) (by kernel_rfl) (fun _ _ _ h => h) (by rfl) (fun w' hS => by clear hS; go_simp) hS ?_
  simp only [Act.put, List.setIfInBounds_toArray, List.set_cons_zero, List.set_cons_succ]
  have KX0 := KX.out
  refine takeSt (i := 9) 28 (.tmp 28) (.tmp 26) x 0 (.slice A2 (wo k D).length c2) (#[.slice A2 (wo k D).length c2]) (#[.slice A2 (wo k D).length c2]) rfl rfl (by kernel_rfl) (by rfl) rfl rfl rfl rfl info_li one_li KX.out (Nat.le_of_ble_eq_true rfl) rfl ?_
  intro W5 q1
  refine ⟨⟨K3.out.far q1 (by omega), HKP.out.st q1 (.inl (by simp))⟩, ?_⟩
  simp only [Act.put, List.setIfInBounds_toArray, List.set_cons_zero, List.set_cons_succ]
  have KXn : Hid (Blk 30 W5 x (#[.slice A2 (wo k D).length c2])) := Lib.hid q1.1
  clear KX
  have KX := KXn
  clear KXn
  have HOWn := Lib.hid (own_st HOW.out KX0 (by decide) q1)
  clear HOW
  have HOW := HOWn
  clear HOWn
  have K3n := Lib.hid (K3.out.far q1 (by omega))
  clear K3
  have K3 := K3n
  clear K3n
  have HKPn := Lib.hid (HKP.out.st q1 (.inl (by simp)))
  clear HKP
  have HKP := HKPn
  clear HKPn
  clear q1 hS
  have hS := (And.intro K3.out HKP.out)
  clear hS
  refine wpAnyH_done (by kernel_rfl) ?_ _
  go_wp2_with fail
  refine bodyPost_ret (v := .int .i64 0) (by simp [results, Try.f17, go_sem]) rfl ?_
  exact ⟨rfl, doc_of KX.out HOW.out HWK.out, HKP.out⟩
theorem docRem_y (x : Nat) (k : Ky) (D : List It) (w : World) (hk : KOk k) (h : DocAt w x D) (hl : D.length ≤ 1000) : Calls Try.prog 17 #[.pointer (some ⟨x, 0, none⟩), .agg (pfC (kyPf k))] w fun e w' => e = .returned (.int .i64 (if lk k D = none then 6 else 0)) ∧ DocAt w' x (if lk k D = none then D else wo k D) ∧ Kp [x] w w' := by
  cases hlk : lk k D with
  | none => exact docRem_no x k D w hk h hl hlk
  | some v1 => exact docRem_yes x k v1 D w hk h hl hlk
/-- what DocRemove leaves -/
def DRemP (x : Nat) (D : List It) (k : Option Ky) (w : World) (e : Ending) (w' : World) : Prop := e = .returned (.int .i64 (match k with | none => 3 | some k => if lk k D = none then 6 else 0)) ∧ DocAt w' x (match k with | none => D | some k => if lk k D = none then D else wo k D) ∧ Kp [x] w w'
theorem docRem_any (x : Nat) (D : List It) (fam n : Int) (z : Nat → Int) (hz : Bytes z) (w : World) (h : DocAt w x D) (hl : D.length ≤ 1000) : Calls Try.prog 17 #[.pointer (some ⟨x, 0, none⟩), .agg (pvC fam n z)] w (DRemP x D (kyP fam n z) w) := by
  cases hk : kyP fam n z with
  | none => exact (docRem_n x fam n z hz (ky_none hk) w).mono fun e w' h9 => ⟨h9.1, h.below h9.2, Kp.of_below _ h9.2⟩
  | some k =>
    obtain ⟨h1, h2⟩ := ky_pf hz hk
    rw [h2]
    exact (docRem_y x k D w h1 h hl).mono fun e w' h9 => ⟨h9.1, h9.2.1, h9.2.2⟩
end Go.Proofs.Ytldgfjcdlkbngaa
