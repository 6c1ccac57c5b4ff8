/- Texts of this claim put together; each theorem states its conditions. -/
import Derived.Test.YtkiaijmhoikdiaaGreatGStorePlays8
import Derived.Test.YtkiaijmhoikdiaaGreatGStorePlays4
import Derived.Test.YtkiaijmhoikdiaaGreatGStorePlays3
import Derived.Test.YtkiaijmhoikdiaaGreatGStorePlays7
import Derived.Test.YtkiaijmhoikdiaaGreatGStorePlays2
import Derived.Test.YtkiaijmhoikdiaaGreatGStorePlays5
import Derived.Test.YtkiaijmhoikdiaaGreatGStorePlays1
/- An LSP is dropped from the store and from the document's. Each theorem states its conditions. -/
namespace Go.Proofs.YtkiaijmhoikdiaaGreat
open Go.RowKit Go.MapKept
set_option linter.unusedVariables false
set_option linter.unusedSimpArgs false

theorem er_step {R : List Rh} {i j : Nat} {x : Rh} (hx : R[j]? = some x) : (R.take (j + 1)).eraseIdx i = if j = i then (R.take j).eraseIdx i else (R.take j).eraseIdx i ++ [x] := by
  have hj : j < R.length := (List.getElem?_eq_some_iff.1 hx).1
  have hl : (R.take j).length = j := by rw [List.length_take]; omega
  rw [take_snoc hx]
  by_cases e : j = i
  · subst e
    have h2 : (R.take j).eraseIdx j = R.take j := List.eraseIdx_of_length_le (by omega)
    rw [if_pos rfl, h2, List.eraseIdx_append_of_length_le (by omega), hl, Nat.sub_self]
    exact List.append_nil _
  · rw [if_neg e]
    rcases Nat.lt_or_gt_of_ne e with h | h
    · rw [List.eraseIdx_of_length_le (by rw [List.length_append, hl, List.length_singleton]; omega), List.eraseIdx_of_length_le (by omega)]
    · rw [List.eraseIdx_append_of_lt_length (by omega)]
theorem er_len {R : List Rh} {i j : Nat} (hj : j ≤ R.length) : ((R.take j).eraseIdx i).length ≤ j := by
  have := List.length_eraseIdx_le (R.take j) i
  rw [List.length_take] at this
  omega
theorem idx_of_asc {R : List Rh} (ha : AscR R) {i j : Nat} {x y : Rh} (hx : R[i]? = some x) (hy : R[j]? = some y) (e : idR x = idR y) : i = j := by
  obtain ⟨hi1, hi2⟩ := List.getElem?_eq_some_iff.1 hx
  obtain ⟨hj1, hj2⟩ := List.getElem?_eq_some_iff.1 hy
  rcases Nat.lt_trichotomy i j with h | h | h
  · have := List.pairwise_iff_getElem.1 ha i j hi1 hj1 h
    rw [hi2, hj2] at this; omega
  · exact h
  · have := List.pairwise_iff_getElem.1 ha j i hj1 hi1 h
    rw [hi2, hj2] at this; omega
theorem same_drop {H : Nat → Option Hd} {R : List Rh} {i : Nat} {x : Rh} (hs : SameHR H R) (hx : R[i]? = some x) : SameHR (setH H x.x.1.id none) (R.eraseIdx i) := by
  obtain ⟨ha, hm⟩ := hs
  refine ⟨List.Pairwise.sublist (List.eraseIdx_sublist _ _) ha, fun n g => ?_⟩
  have hmem : ∀ r : Rh, r ∈ R.eraseIdx i ↔ r ∈ R ∧ idR r ≠ idR x := fun r => by
    rw [List.mem_eraseIdx_iff_getElem?]
    constructor
    · rintro ⟨j, hne, hj⟩
      exact ⟨List.mem_of_getElem? hj, fun e => hne (idx_of_asc ha hj hx e)⟩
    · rintro ⟨hr, hne⟩
      obtain ⟨j, hj⟩ := List.getElem?_of_mem hr
      exact ⟨j, fun e => hne (by rw [e, hx] at hj; rw [Option.some.inj hj]), hj⟩
  unfold setH
  by_cases e : n = x.x.1.id
  · rw [if_pos e]
    refine ⟨fun h => (by cases h), fun ⟨r, hr, h1, h2⟩ => ?_⟩
    exact absurd (by unfold idR; rw [h1, h2, e]) ((hmem r).1 hr).2
  · rw [if_neg e, hm]
    constructor
    · rintro ⟨r, hr, h1, h2⟩
      exact ⟨r, (hmem r).2 ⟨hr, fun e9 => e (by unfold idR at e9; rw [← h2, ← h1]; exact e9)⟩, h1, h2⟩
    · rintro ⟨r, hr, h1, h2⟩
      exact ⟨r, ((hmem r).1 hr).1, h1, h2⟩
def RDropP (w : World) (B sr i : Nat) (R : List Rh) (e : Ending) (w' : World) : Prop := e = .returned (.tuple #[]) ∧ Fr1 w w' sr ∧ RfAt w' B sr (R.eraseIdx i) false
theorem info_blR : (Tryz.prog.info? 4).map (·.size) = some 1 := by kernel_rfl
theorem one_bR (b : Bool) : (#[Value.bool b] : Array Value).all (·.oneCell') = true := by cases b <;> kernel_rfl
set_option maxHeartbeats 16000000 in
set_option maxRecDepth 100000 in
theorem dropR_any (B sr id : Nat) (R : List Rh) (rf : Bool) (w : World) (hst : RfAt w B sr R rf) (hl : R.length ≤ 600) (hid : id < R.length) : Calls Tryz.prog 33 #[.pointer (some ⟨sr, 0, none⟩), .int .i64 (id : Int)] w (RDropP w B sr id R) := by
  obtain ⟨A, c, hs, hc1, hc2, hrd, _⟩ := hst.open
  have KS := Lib.hid hs
  have KS0 := Lib.hid hs
  have HRD := Lib.hid hrd
  have HOK := Lib.hid hst.ok
  have le_B : B ≤ sr := hst.hs
  have HID := Lib.hid hid
  obtain ⟨m, hm⟩ : ∃ m, R.length = m := ⟨_, rfl⟩
  have HM := Lib.hid hm
  rw [hm] at HRD KS
  have hm6 : m ≤ 600 := by omega
  have hmI : (m : Int) ≤ 9223372036854775807 := by omega
  clear hst hs hrd hm hc1 hc2 hl hid
  go_enter Tryz.func33, Tryz.ntmps33
  have c0 : w.cell? ⟨sr, 0, none⟩ = some (.slice A m c) := (KS.out.cell 0).trans rfl
  go_wp2_with fail
  clear c0
  obtain ⟨BL, hBL⟩ : ∃ N, w.heap.size = N := ⟨_, rfl⟩
  have HBL := Lib.hid hBL
  have lt_sr : sr < BL := by rw [← hBL]; exact KS.out.lt
  clear hBL
  go_loopw [4, 12] (fun v t wr => ∃ j : Nat, j ≤ m ∧ t = .int .i64 j ∧ Hid (OwnR wr BL 95 13 v ((R.take j).eraseIdx id).length (rhA ((R.take j).eraseIdx id))) ∧ Hid (Below BL w wr)) (fun _ t _ => m - (intOf t).toNat)
  case atStart => exact ⟨0, by omega, rfl, Lib.hid (by simp; exact OwnR.nil _ _ _ _ _), Lib.hid (Below.refl _ _)⟩
  case round =>
    obtain ⟨j, hj, rfl, HO, HQ⟩ := hrel
    by_cases hlt : j < m
    · have hki : (j : Int) < (m : Int) := by omega
      obtain ⟨bA, off, rfl, hr⟩ := HRD.out.row (by omega)
      obtain ⟨r, hx⟩ : ∃ r, R[j]? = some r := ⟨_, List.getElem?_eq_getElem (by rw [HM.out]; exact hlt)⟩
      have h1 : Hid (wr.rangeAt bA (off + j * 13) (rhC r).toList) := Lib.hid (by have h9 := rangeAt_below (hr.2 j hlt) HQ.out (by have := hr.1; rw [HBL.out] at this; exact this); rw [rhA_at R j r hx] at h9; exact h9)
      have HSTP := Lib.hid (er_step (i := id) hx)
      obtain ⟨SE, hSE⟩ : ∃ S, (R.take j).eraseIdx id = S := ⟨_, rfl⟩
      rw [hSE] at HO HSTP
      have HSL : Hid (SE.length ≤ 601) := Lib.hid (by rw [← hSE]; have := er_len (R := R) (i := id) (j := j) (by rw [HM.out]; exact hj); omega)
      clear hr hx hSE
      go_wp2_with (refine wpList_ld (op := ⟨some 16, _, _, _, _, _⟩) (by rfl) 95 (.tmp 15) rfl bA (off + j * 13) rfl (rhC r) _ h1.out Tryz.underlying95 rfl info_rh ?_; refine Hid.out ?_)
      refine Lib.hid ?_
      clear h1
      obtain ⟨N6, hN6⟩ : ∃ N, wr.heap.size = N := ⟨_, rfl⟩
      have HN6 := Lib.hid hN6
      clear hN6
      go_wp2_with (refine wpList_new (op := ⟨some 6, _, _, _, _, _⟩) rfl 95 rfl rhZ zero_rh N6 HN6.out ?_; intro w5 k1 b1 s9; refine Hid.out ?_)
      refine Lib.hid ?_
      have K6 := Lib.hid k1
      have HB1 := Lib.hid b1
      clear k1 b1 s9
      go_wp2_with (refine wpList_st rfl 95 (.tmp 6) (.tmp 16) rfl N6 0 rfl (.agg (rhC r)) (rhC r) rfl rfl info_rh (rhC_one _) K6.out (Nat.le_of_ble_eq_true rfl) (C' := rhC r) (rh_overZ _) ?_; intro w6 q1; refine Hid.out ?_)
      refine Lib.hid ?_
      have b1 : Below wr.heap.size wr w6 := HB1.out.trans (q1.2.1 _ (by rw [HN6.out]; exact Nat.le_refl _))
      replace K6 : Hid (Blk 95 w6 N6 (rhC r)) := Lib.hid q1.1
      clear q1 HB1 HN6
      replace HO := Lib.hid (HO.out.below b1)
      replace HQ := Lib.hid (HQ.out.trans (b1.mono (by have := HQ.out.size; rw [HBL.out] at this; exact this)))
      clear b1
      by_cases hji : j = id
      · have hjb : ((j : Int) != (id : Int)) = false := by simp [hji]
        have HOz : Hid (OwnR w6 BL 95 13 _ ((R.take (j + 1)).eraseIdx id).length (rhA ((R.take (j + 1)).eraseIdx id))) := Lib.hid (by rw [HSTP.out, if_pos hji]; exact HO.out)
        clear hji
        go_wp2_with fail
        go_roundw
        case rel => exact ⟨j + 1, by omega, by go_num, HOz, HQ⟩
        case measure => simp only [intOf]; omega
      · have hjn : (j : Int) ≠ (id : Int) := by omega
        have hjb : ((j : Int) != (id : Int)) = true := by simpa using hjn
        have HJI := Lib.hid hji
        clear hji hjn
        go_wp2_with (refine wpList_ld (op := ⟨some 21, _, _, _, _, _⟩) (by rfl) 95 (.tmp 6) rfl N6 0 rfl (rhC r) _ K6.out.all Tryz.underlying95 rfl info_rh ?_; refine Hid.out ?_)
        refine Lib.hid ?_
        obtain ⟨P, hP⟩ : ∃ N, w6.heap.size = N := ⟨_, rfl⟩
        have HP := Lib.hid hP
        clear hP
        go_wp2_with (refine wpList_bsn (op := ⟨some 22, _, _, _, _, _⟩) 1 rfl 95 (rhC r) (bs_rh1 _ _ _ rfl r rfl) P HP.out ?_; intro w7 k1 b1 s9; refine Hid.out ?_)
        refine Lib.hid ?_
        have HRR : Hid (RdR w7 (some ⟨P, 0, none⟩) 1 13 (fun _ => rhC r)) := Lib.hid (rdR_blk k1)
        clear k1 s9 K6
        replace HO := Lib.hid (HO.out.below b1)
        replace HQ := Lib.hid (HQ.out.trans (b1.mono (by have := HQ.out.size; rw [HBL.out] at this; exact this)))
        clear b1
        have hml : maxLen = 9223372036854775807 := rfl
        have HML := Lib.hid hml
        clear hml
        have HZ : Hid (BL ≤ w7.heap.size) := Lib.hid (by have := HQ.out.size; rw [HBL.out] at this; exact this)
        go_wp2_with (at_builtin; refine app_Y 27 95 13 56 _ Tryz.underlying27 infoA_rh rfl (by decide) rfl (.tmp 20) (.tmp 22) rfl BL _ SE.length (rhA SE) rfl HO.out HZ.out ⟨P, 0, none⟩ 1 1 (fun _ => rhC r) rfl HRR.out (fun _ => ⟨rfl, rhC_ones _⟩) (by have := HSL.out; rw [HML.out]; omega) (by have := HSL.out; omega) ?_; intro v8 w8 ho9 hg9 hk9; refine Hid.out ?_)
        refine Lib.hid ?_
        have HOz : Hid (OwnR w8 BL 95 13 v8 ((R.take (j + 1)).eraseIdx id).length (rhA ((R.take (j + 1)).eraseIdx id))) := Lib.hid (by rw [HSTP.out, if_neg HJI.out, List.length_append]; exact OwnR.congr ho9 (fun j hj => rh_snoc _ _ j hj))
        have HQz : Hid (Below BL w w8) := Lib.hid (HQ.out.grown hg9 HZ.out (fun k e => hk9 k e))
        clear HO HQ ho9 hg9 hk9 HRR
        go_wp2_with fail
        go_roundw
        case rel => exact ⟨j + 1, by omega, by go_num, HOz, HQz⟩
        case measure => simp only [intOf]; omega
    · obtain rfl : m = j := by omega
      have hT : (R.take m).eraseIdx id = R.eraseIdx id := by rw [List.take_of_length_le (by rw [HM.out]; exact Nat.le_refl _)]
      rw [hT] at HO
      clear hT
      obtain ⟨SE, hSE⟩ : ∃ S, R.eraseIdx id = S := ⟨_, rfl⟩
      rw [hSE] at HO
      have HSE := Lib.hid hSE
      clear hSE
      obtain ⟨A9, c9, e9, _⟩ := HO.out.shape (recs_rh _) (by decide)
      subst e9
      have KSw := Lib.hid (KS.out.below HQ.out (by rw [← HBL.out]; exact KS.out.lt))
      have HF1 : Hid (Fr1 w wr sr) := Lib.hid (Fr1.of_below sr (by rw [HBL.out]; exact HQ.out))
      go_wp2_with (refine wpList_st rfl 27 (.tmp 28) (.tmp 26) rfl sr 0 rfl (.slice A9 SE.length c9) #[.slice A9 SE.length c9] rfl rfl info_lr one_lr KSw.out (Nat.le_of_ble_eq_true rfl) (C' := #[.slice A9 SE.length c9, .bool rf]) rfl ?_; intro wy q1; refine Hid.out ?_)
      refine Lib.hid ?_
      have HOy : Hid (OwnR wy BL 95 13 (.slice A9 SE.length c9) SE.length (rhA SE)) := Lib.hid (HO.out.keep (fun x hx _ => q1.2.2 x (by omega)))
      clear HO
      have HO := HOy
      clear HOy
      have HFy : Hid (Fr1 w wy sr) := Lib.hid (HF1.out.trans (Fr1.stored q1))
      clear HF1
      have HF1 := HFy
      clear HFy
      have KSy := Lib.hid q1.1
      clear q1
      go_wp2_with (refine wpList_st rfl 4 (.tmp 31) (.const (.bool false)) rfl sr 1 rfl (.bool false) #[.bool false] rfl rfl info_blR (one_bR _) KSy.out (Nat.le_of_ble_eq_true rfl) (C' := #[.slice A9 SE.length c9, .bool false]) rfl ?_; intro wz q1; refine Hid.out ?_)
      refine Lib.hid ?_
      have HOy : Hid (OwnR wz BL 95 13 (.slice A9 SE.length c9) SE.length (rhA SE)) := Lib.hid (HO.out.keep (fun x hx _ => q1.2.2 x (by omega)))
      clear HO
      have HO := HOy
      clear HOy
      have HFy : Hid (Fr1 w wz sr) := Lib.hid (HF1.out.trans (Fr1.stored q1))
      clear HF1
      have HF1 := HFy
      clear HFy
      have KSz := Lib.hid q1.1
      clear q1
      go_wp2_with fail
      go_end0
      refine ⟨rfl, HF1.out, le_B, fun x hx => ?_, ?_⟩
      · have hx := (List.eraseIdx_sublist _ _).subset hx
        exact ⟨(HOK.out x hx).1.fr1 HF1.out KS0.out, (HOK.out x hx).2⟩
      · rw [HSE.out]
        exact ⟨_, KSz.out, HO.out.mono (by have := HOK.out; rw [← HBL.out]; exact Nat.le_of_lt (Nat.lt_of_le_of_lt le_B KS.out.lt))⟩
def DDropP (w : World) (B sr n : Nat) (R : List Rh) (rf : Bool) (e : Ending) (w' : World) : Prop := Fr1 w w' sr ∧ (((∀ r ∈ R, r.x.1.id ≠ n) ∧ e = .returned (.int .i64 6) ∧ RfAt w' B sr R rf) ∨ ∃ i r, R[i]? = some r ∧ r.x.1.id = n ∧ e = .returned (.int .i64 0) ∧ RfAt w' B sr (R.eraseIdx i) false)
set_option maxHeartbeats 16000000 in
set_option maxRecDepth 100000 in
theorem docDrop_any (B sr n : Nat) (R : List Rh) (rf : Bool) (w : World) (hst : RfAt w B sr R rf) (hn : IdOk n) (hl : R.length ≤ 600) : Calls Tryz.prog 10 #[.pointer (some ⟨sr, 0, none⟩), .agg (iC n)] w (DDropP w B sr n R rf) := by
  have HST := Lib.hid hst
  have HN := Lib.hid hn
  have HL := Lib.hid hl
  clear hst hn hl
  go_enter Tryz.func10, Tryz.ntmps10
  have HB := Lib.hid (Below.refl w.heap.size w)
  obtain ⟨N1, hN1⟩ : ∃ N, w.heap.size = N := ⟨_, rfl⟩
  have HN1 := Lib.hid hN1
  clear hN1
  go_wp2_with (refine wpList_box (op := ⟨some 3, _, _, _, _, _⟩) rfl 35 (.tmp 1) rfl (iC n) rfl N1 HN1.out ?_; intro w1 k1 b1 s1; refine Hid.out ?_)
  refine Lib.hid ?_
  have K3 := Lib.hid k1
  clear k1
  have le_HB_N1 : w.heap.size ≤ N1 := by rw [← HN1.out]; exact HB.out.size
  replace HB := Lib.hid (HB.out.trans (b1.mono HB.out.size))
  clear b1 HN1
  go_wp2_with (refine wpList_ld (op := ⟨some 9, _, _, _, _, _⟩) (by rfl) 35 (.tmp 3) rfl N1 0 rfl (iC n) _ K3.out.all Tryz.underlying35 rfl info_iC ?_; refine Hid.out ?_)
  refine Lib.hid ?_
  go_wp2_with fail
  refine (findR_any B sr n R rf w1 (HST.out.below HB.out) HN.out).mono ?_
  rintro e w9 ⟨fi, rfl, b1, hfi⟩
  replace K3 := Lib.hid (K3.out.below b1 K3.out.lt)
  replace HB := Lib.hid (HB.out.trans (b1.mono HB.out.size))
  clear b1
  rcases hfi with ⟨rfl, hno⟩ | ⟨k, r, rfl, hr, hid⟩
  · go_wp2_with fail
    go_ret
    exact ⟨Fr1.of_below sr HB.out, .inl ⟨fun r hr => by obtain ⟨j, hj⟩ := List.getElem?_of_mem hr; exact hno j r hj, rfl, HST.out.below HB.out⟩⟩
  · have HR := Lib.hid hr
    have HI := Lib.hid hid
    have hk0 : ¬ (k : Int) < 0 := by omega
    clear hr hid
    go_wp2_with fail
    refine (dropR_any B sr k R rf w9 (HST.out.below HB.out) HL.out (List.getElem?_eq_some_iff.1 HR.out).1).mono ?_
    rintro e w10 ⟨rfl, hf, hrf⟩
    have HF := Lib.hid hf
    have HRF := Lib.hid hrf
    clear hf hrf
    go_wp2_with fail
    go_ret
    exact ⟨(Fr1.of_below sr HB.out).trans HF.out, .inr ⟨k, r, HR.out, HI.out, rfl, HRF.out⟩⟩
def SDropP (w : World) (B s b n k : Nat) (H : Nat → Option Hd) (r : Bool) (e : Ending) (w' : World) : Prop := Fr w w' s b ∧ ((H n = none ∧ e = .returned (.int .i64 6) ∧ StAt w' B s b H k r) ∨ ((∃ h, H n = some h) ∧ e = .returned (.int .i64 0) ∧ ∃ k', k' ≤ k ∧ StAt w' B s b (setH H n none) k' false))
set_option maxHeartbeats 16000000 in
set_option maxRecDepth 100000 in
theorem dropS_any (B s b k n : Nat) (H : Nat → Option Hd) (r : Bool) (w : World) (hst : StAt w B s b H k r) (hn : IdOk n) : Calls Tryz.prog 9 #[.pointer (some ⟨s, 0, none⟩), .agg (iC n)] w (SDropP w B s b n k H r) := by
  have HST := Lib.hid hst
  have HID := Lib.hid hn
  clear hst hn
  go_enter Tryz.func9, Tryz.ntmps9
  have HB := Lib.hid (Below.refl w.heap.size w)
  obtain ⟨N1, hN1⟩ : ∃ N, w.heap.size = N := ⟨_, rfl⟩
  have HN1 := Lib.hid hN1
  clear hN1
  go_wp2_with (refine wpList_box (op := ⟨some 3, _, _, _, _, _⟩) rfl 35 (.tmp 1) rfl (iC n) rfl N1 HN1.out ?_; intro w1 k1 b1 s1; refine Hid.out ?_)
  refine Lib.hid ?_
  have K3 := Lib.hid k1
  clear k1
  have le_HB_N1 : w.heap.size ≤ N1 := by rw [← HN1.out]; exact HB.out.size
  replace HB := Lib.hid (HB.out.trans (b1.mono HB.out.size))
  clear b1 HN1
  go_wp2_with (refine wpList_ld (op := ⟨some 9, _, _, _, _, _⟩) (by rfl) 35 (.tmp 3) rfl N1 0 rfl (iC n) _ K3.out.all Tryz.underlying35 rfl info_iC ?_; refine Hid.out ?_)
  refine Lib.hid ?_
  go_wp2_with fail
  refine (find_any B s b k n H r w1 (HST.out.below HB.out) HID.out).mono ?_
  rintro e w9 ⟨b1, hc⟩
  replace K3 := Lib.hid (K3.out.below b1 K3.out.lt)
  replace HB := Lib.hid (HB.out.trans (b1.mono HB.out.size))
  clear b1
  rcases hc with ⟨hH, rfl⟩ | ⟨gh, h, hH, rfl, _⟩
  · go_wp2_with fail
    go_ret
    exact ⟨Fr.of_below s b HB.out, .inl ⟨hH, rfl, HST.out.below HB.out⟩⟩
  · have HH := Lib.hid hH
    clear hH
    have HS9 := Lib.hid (HST.out.below HB.out)
    obtain ⟨M, hM⟩ := HS9.out.stm
    have HM := Lib.hid hM
    clear hM
    go_wp2_with (refine wpList_ld (op := ⟨some 17, _, _, _, _, _⟩) (by rfl) 35 (.tmp 3) rfl N1 0 rfl (iC n) _ K3.out.all Tryz.underlying35 rfl info_iC ?_; refine Hid.out ?_)
    refine Lib.hid ?_
    go_wp2_with fail
    refine (drop_map s b k n r M w9 HM.out.blk HM.out.map HS9.out.ne HID.out).mono ?_
    rintro e w10 hd
    have hf := hd.2.1
    have hst2 := (HM.out.drop hd).at
    obtain rfl := hd.1
    have HF := Lib.hid hf
    have HS2 := Lib.hid hst2
    clear hd hf hst2
    go_wp2_with fail
    go_ret
    exact ⟨(Fr.of_below s b HB.out).trans HF.out, .inr ⟨⟨h, HH.out⟩, rfl, _, (by split <;> omega), HS2.out⟩⟩
set_option maxHeartbeats 16000000 in
set_option maxRecDepth 100000 in
theorem refusedS_any {w : World} {B s b k : Nat} {H : Nat → Option Hd} {r : Bool} (h : StAt w B s b H k r) : Calls Tryz.prog 22 #[.pointer (some ⟨s, 0, none⟩)] w fun e w' => e = .returned (.bool r) ∧ w' = w := by
  have c1 : w.cell? ⟨s, 1, none⟩ = some (.bool r) := (h.blk.cell 1).trans rfl
  clear h
  go_enter Tryz.func22, Tryz.ntmps22
  go_wp2
  go_ret
  exact ⟨rfl, rfl⟩
end Go.Proofs.YtkiaijmhoikdiaaGreat

/- Lives and times as purges, in bounds. Each theorem states its conditions. -/
namespace Go.Proofs.YtkiaijmhoikdiaaGreat
open Go.RowKit
set_option linter.unusedVariables false

def LifeH (H : Nat → Option Hd) : Prop := ∀ i h, H i = some h → (0 ≤ h.li ∧ h.li ≤ 65535) ∧ (0 ≤ h.pu ∧ h.pu < 60)
theorem life_no : LifeH noH := fun i h e => (nomatch e)
theorem life_from {H H' : Nat → Option Hd} {t : Hd} (h : LifeH H) (ht : (0 ≤ t.li ∧ t.li ≤ 65535) ∧ (0 ≤ t.pu ∧ t.pu < 60)) (hs : ∀ i g, H' i = some g → H i = some g ∨ g = t) : LifeH H' := fun i g e => by
  rcases hs i g e with h1 | rfl
  · exact h i g h1
  · exact ht
theorem put_from {H : Nat → Option Hd} {t : Hd} : ∀ i g, putH H t i = some g → H i = some g ∨ g = t := fun i g e => by
  unfold putH at e
  split at e
  · exact .inr (Option.some.inj e).symm
  · exact .inl e
end Go.Proofs.YtkiaijmhoikdiaaGreat

/- store.Age: so many ticks go by over any store. Each theorem states its conditions. -/
namespace Go.Proofs.YtkiaijmhoikdiaaGreat
open Go.RowKit Go.MapKept Go.Sort
set_option linter.unusedVariables false
set_option linter.unusedSimpArgs false

theorem ascI_lt {T : List IdI} (h : AscI T) (hn : T.Nodup) : T.Pairwise (fun x y => x.1 < y.1) := by
  rw [List.pairwise_iff_getElem]
  intro i j hi hj hij
  have h1 := h i j hij hj
  rw [List.getElem?_eq_getElem hi, List.getElem?_eq_getElem hj] at h1
  have h2 : (T[i].1 : Int) ≤ (T[j].1 : Int) := h1
  have h3 : T[i] ≠ T[j] := fun e => by
    have := (List.nodup_iff_pairwise_ne.1 hn)
    exact List.pairwise_iff_getElem.1 this i j hi hj hij e
  have h4 : T[i].1 ≠ T[j].1 := fun e => h3 (Subtype.ext e)
  omega
def AgeG (w : World) (B s b k : Nat) (H : Nat → Option Hd) (r : Bool) (t : Int) (e : Ending) (w' : World) : Prop :=
  ∃ A c T, e = .returned (.tuple #[.slice A T.length c, .int .i64 0]) ∧ OwnR w' w.heap.size 35 8 (.slice A T.length c) T.length (idB T) ∧ T.Pairwise (fun x y => x.1 < y.1) ∧ (∀ x : IdI, x ∈ T ↔ ∃ h, H x.1 = some h ∧ endB h t = true) ∧
    (∃ k' r', k' ≤ k ∧ StAt w' B s b (agedH H t) k' r' ∧ RefL H t (fun _ => false) r r') ∧ Below B w w' ∧ T.length ≤ k ∧ ∀ (x : Nat) (o : Obj), w.heap[x]? = some o → mineS o = false → w'.heap[x]? = some o
theorem infoA_idI : (Tryz.prog.info? 35).map (fun i => (i.zero, i.size, i.bytes)) = some (some (.agg (iC 0)), 8, 8) := info_id3
theorem setH_at (H : Nat → Option Hd) (n : Nat) (v : Option Hd) : setH H n v n = v := by unfold setH; rw [if_pos rfl]
theorem setH_two (H : Nat → Option Hd) (n : Nat) (v v' : Option Hd) : setH (setH H n v) n v' = setH H n v' := by
  funext i
  unfold setH
  by_cases e : i = n
  · rw [if_pos e, if_pos e]
  · rw [if_neg e, if_neg e, if_neg e]
theorem putM_sub {M M0 : Nat → Option Nat} {n : Nat} (h : ∀ i g, M i = some g → M0 i = some g) : ∀ i g, putM M n none i = some g → M0 i = some g := fun i g e => by
  unfold putM at e
  split at e
  · cases e
  · exact h i g e
theorem AgS.hd {w0 w : World} {B N B0 s b k cnt n g : Nat} {M : Nat → Option Nat} {H : Nat → Option Hd} {r : Bool} {left : Nat → Bool} {v : Value} {S : List IdI} {h : Hd} (a : AgS w0 w B N B0 s b M H k r left cnt v S) (hM : M n = some g) (hH : H n = some h) : ∃ ro oa c, Blk 91 w g (hdC h (some ⟨ro, oa, none⟩) c) ∧ g < N := by
  obtain ⟨⟨_, dN, ro, oa, c, d2, _⟩, _⟩ := a.st.held n g h hM hH
  exact ⟨ro, oa, c, d2, dN⟩
set_option maxHeartbeats 40000000 in
set_option maxRecDepth 100000 in
theorem age_any (B s b k : Nat) (H : Nat → Option Hd) (r : Bool) (t : Int) (w : World) (hst : StAt w B s b H k r) (hl : LifeH H) (ht : 0 ≤ t ∧ t ≤ 65535) (hk : k ≤ 512) : Calls Tryz.prog 11 #[.pointer (some ⟨s, 0, none⟩), .int .i64 t] w (AgeG w B s b k H r t) := by
  obtain ⟨M, hM⟩ := hst.stm
  have HM := Lib.hid hM
  have HL := Lib.hid hl
  have HT := Lib.hid ht
  have HK := Lib.hid hk
  have HLTB := Lib.hid hst.ltB
  have c0 : w.cell? ⟨s, 0, none⟩ = some (.map (some b)) := (hst.blk.cell 0).trans rfl
  have t1 : ¬ t < 0 := by omega
  have t2 : ¬ 65535 < t := by omega
  clear hst hM hl ht hk
  go_enter Tryz.func11, Tryz.ntmps11
  obtain ⟨NR, hNR⟩ : ∃ N, w.heap.size = N := ⟨_, rfl⟩
  have HNR := Lib.hid hNR
  obtain ⟨B0, hB0⟩ : ∃ N, NR + 1 = N := ⟨_, rfl⟩
  have hBNR : B ≤ NR := by rw [← hNR]; exact HLTB.out
  clear hNR
  go_upto_region 6 with (fail)
  go_wp2_with (refine wpList_rg (op := ⟨some 23, _, _, _, _, _⟩) rfl (.tmp 22) rfl rfl HM.out.map NR HNR.out ?_; intro w1 h1 b1 s1; refine Hid.out ?_)
  refine Lib.hid ?_
  have HA : Hid (AgS w w1 B NR B0 s b M (agL H t (fun n => (M n).isSome)) k r (fun n => (M n).isSome) k (.slice none 0 0) []) := Lib.hid (by
    rw [agL_start HM.out.iff]
    have h9 := HM.out
    rw [HNR.out] at h9
    exact ⟨⟨hBNR, by omega⟩, OwnR.nil _ _ _ _ _, h1, h9.same (fun x hx => b1.block x (by rw [HNR.out]; exact hx)), b1.mono (by rw [HNR.out]; exact hBNR), fun x o hx e1 _ => (b1.block x (by rw [HNR.out]; exact hx)).trans e1, by omega⟩)
  have HB0 := Lib.hid hB0
  clear h1 b1 s1 c0 hB0
  go_wp2_with fail
  go_loopw [6] (fun v wr => ∃ left cnt S M1 k1 r1, Hid (AgS w wr B NR B0 s b M1 (agL H t left) k1 r1 left cnt v S) ∧ Hid (ColI H t left S) ∧ Hid (RefL H t left r r1) ∧ Hid (S.length + cnt ≤ k) ∧ Hid (k1 ≤ k) ∧ Hid (∀ i g, M1 i = some g → M i = some g)) (fun _ wr => rngLeft wr b NR)
  case atStart => exact ⟨_, k, [], M, k, r, HA, Lib.hid (ColI.start HM.out.iff), Lib.hid (RefL.start HM.out.iff), Lib.hid (by simp), Lib.hid (Nat.le_refl _), Lib.hid (fun _ _ e => e)⟩
  case round =>
    clear HA
    obtain ⟨left, cnt, S, M1, k1, r1, HA, HC, HRF, HLN, HK1, HMM⟩ := hrel
    go_wp2_with (refine wpList_nx (op := ⟨some 24, _, _, _, _, _⟩) rfl (.tmp 23) rfl rfl HA.out.rg (fun h0 => ?_) (fun n gx w4 cnt2 hMn hid hlf hR2 hlt hgr hsz hent => ?_); (all_goals refine Hid.out ?_))
    rotate_left
    · refine Lib.hid ?_
      obtain ⟨h, hHn⟩ : ∃ h, H n = some h := by
        cases e : H n with
        | none => have := (HA.out.st.iff n).2 (by rw [agL_at hlf]; exact e); rw [hMn] at this; cases this
        | some h => exact ⟨h, rfl⟩
      have HHL : Hid (agL H t left n = some h) := Lib.hid (by rw [agL_at hlf]; exact hHn)
      have HST := Lib.hid (agL_step (t := t) hlf hHn)
      have HMN := Lib.hid hMn
      have HHn := Lib.hid hHn
      have HID := Lib.hid hid
      have HLF := Lib.hid hlf
      have HENT := Lib.hid hent
      have HLT := Lib.hid hlt
      have HRL : Hid (rngLeft wr b NR = cnt) := Lib.hid (RngAt.left_eq HA.out.rg)
      replace HA := Lib.hid (HA.out.next hgr hR2)
      replace HC := Lib.hid (ColI.step HC.out HLF.out HHn.out HID.out)
      have HK0 : Hid (∃ C, Blk 91 w gx C) := Lib.hid (by
        cases e : H n with
        | none => rw [hHn] at e; cases e
        | some h9 => obtain ⟨⟨_, _, ro, oa, c, d2, _⟩, _⟩ := HM.out.held n gx h9 (HMM.out n gx hMn) e; exact ⟨_, d2⟩)
      clear hMn hid hlf hR2 hlt hgr hsz hent hHn
      go_wp2_with (refine wpList_v (op := ⟨some 26, _, _, _, _, _⟩) rfl (.tuple #[.agg (iC n), .pointer (some ⟨gx, 0, none⟩)]) (entry_run _ _ _ rfl _ rfl HENT.out) ?_; refine Hid.out ?_)
      refine Lib.hid ?_
      clear HENT
      obtain ⟨N7, hN7⟩ : ∃ N, w4.heap.size = N := ⟨_, rfl⟩
      have HN7 := Lib.hid hN7
      have le_B0_N7 : B0 ≤ N7 := by rw [← hN7]; exact HA.out.sz
      have hne7 := HA.out.own.lt
      rw [hN7] at hne7
      have HNE7 := Lib.hid hne7
      clear hne7 hN7
      go_wp2_with (refine wpList_new (op := ⟨some 7, _, _, _, _, _⟩) rfl 35 rfl (iC 0) zero_idS N7 HN7.out ?_; intro w5 k1 b1 s1; refine Hid.out ?_)
      refine Lib.hid ?_
      have K7 := Lib.hid k1
      have HB1 := Lib.hid b1
      clear k1 b1 s1
      go_wp2_with (refine wpList_st rfl 35 (.tmp 7) (.tmp 27) rfl N7 0 rfl (.agg (iC n)) (iC n) rfl rfl info_iC (idC_one _) K7.out (Nat.le_of_ble_eq_true rfl) (C' := iC n) (id_over _ _) ?_; intro w6 q1; refine Hid.out ?_)
      refine Lib.hid ?_
      have b2 : Below w4.heap.size w4 w6 := HB1.out.trans (q1.2.1 _ (by rw [HN7.out]; exact Nat.le_refl _))
      replace HA := Lib.hid (HA.out.below b2)
      replace K7 : Hid (Blk 35 w6 N7 (iC n)) := Lib.hid q1.1
      clear q1 b2 HB1 HN7
      obtain ⟨ro, oa, ch, hkh, hgN⟩ := HA.out.hd HMN.out HHL.out
      have KH := Lib.hid hkh
      clear hkh
      have hlife := HL.out n h HHn.out
      have HLI := Lib.hid hlife
      clear hlife
      go_wp2_with fail
      refine (hAge_any h gx ch (some ⟨ro, oa, none⟩) t w6 HLI.out.1 HT.out (by have := HLI.out.2; omega) KH.out).mono ?_
      rintro e w7 ⟨rfl, q1⟩
      have hltB : NR < B0 := HA.out.lt.2
      replace HA := Lib.hid (HA.out.held HMN.out HHL.out KH.out HK0.out q1)
      replace K7 := Lib.hid (K7.out.far q1 (by omega))
      clear KH q1
      obtain ⟨pu, hpu⟩ : ∃ p, (ageH h t).pu = p := ⟨_, rfl⟩
      have HPU := Lib.hid hpu
      clear hpu
      obtain ⟨eb, heb⟩ : ∃ q, (decide (0 < h.li) && (max (h.li - t) 0 == 0)) = q := ⟨_, rfl⟩
      rw [heb]
      have HEB : Hid (endB h t = eb) := Lib.hid heb
      clear heb
      cases eb with
      | false =>
        have HCz : Hid (ColI H t (fun x => left x && !(x == n)) S) := Lib.hid (by have h9 := HC.out; rw [HEB.out] at h9; exact h9)
        have HLz : Hid (S.length + cnt2 ≤ k) := Lib.hid (by have := HLN.out; have := HLT.out; omega)
        have c12 : w7.cell? ⟨gx, 12, none⟩ = some (.int .i64 pu) := by obtain ⟨_, _, _, d2, _⟩ := HA.out.hd HMN.out (setH_at _ _ _); exact (d2.cell 12).trans (by rw [← HPU.out]; rfl)
        by_cases h60 : 60 ≤ pu
        · have h60b : (60 : Int) ≤ pu := h60
          have H60 : Hid (60 ≤ (ageH h t).pu) := Lib.hid (by rw [HPU.out]; exact h60)
          go_wp2_with (refine wpList_ld (op := ⟨some 42, _, _, _, _, _⟩) (by rfl) 35 (.tmp 7) rfl N7 0 rfl (iC n) _ K7.out.all Tryz.underlying35 rfl info_iC ?_; refine Hid.out ?_)
          refine Lib.hid ?_
          clear c12
          go_wp2_with fail
          refine (drop_mapD s b k1 n r1 M1 w7 HA.out.st.blk HA.out.st.map (fun e => map_blk HA.out.st.map HA.out.st.blk e.symm) HID.out).mono ?_
          rintro e w8 hd
          have he := hd.1.1
          obtain rfl := he
          obtain ⟨cnt3, hc3, hA8⟩ := HA.out.drop HM.out.blk (show w.heap[b]? = some (.map (HM.out.map).choose (HM.out.map).choose_spec.choose) from (HM.out.map).choose_spec.choose_spec.1) hd
          have HA8 : Hid (AgS w w8 B NR B0 s b (putM M1 n none) (agL H t (fun x => left x && !(x == n))) (if (M1 n).isSome then k1 - 1 else k1) false (fun x => left x && !(x == n)) cnt3 _ S) := Lib.hid (by have h9 := hA8; rw [setH_two] at h9; rw [HST.out, if_pos H60.out]; exact h9)
          have HC3 := Lib.hid hc3
          clear hd hA8 hc3 HA
          go_wp2_with fail
          go_roundw
          case rel => exact ⟨_, cnt3, S, _, _, false, HA8, HCz, Lib.hid (RefL.lost HHn.out H60.out), Lib.hid (by have := HLz.out; have := HC3.out; omega), Lib.hid (by have := HK1.out; split <;> omega), Lib.hid (putM_sub HMM.out)⟩
          case measure => rw [RngAt.left_eq HA8.out.rg, HRL.out]; have := HLT.out; have := HC3.out; omega
        · have h60b : ¬ (60 : Int) ≤ pu := h60
          have H60 : Hid (¬ 60 ≤ (ageH h t).pu) := Lib.hid (by rw [HPU.out]; exact h60)
          have HA8 : Hid (AgS w w7 B NR B0 s b M1 (agL H t (fun x => left x && !(x == n))) k1 r1 (fun x => left x && !(x == n)) cnt2 _ S) := Lib.hid (by rw [HST.out, if_neg H60.out]; exact HA.out)
          clear HA
          go_wp2_with fail
          go_roundw
          case rel => exact ⟨_, cnt2, S, M1, k1, r1, HA8, HCz, Lib.hid (RefL.stay HRF.out HHn.out (by have := H60.out; omega)), HLz, HK1, HMM⟩
          case measure => rw [RngAt.left_eq HA8.out.rg, HRL.out]; exact HLT.out
      | true =>
        obtain ⟨xi, hxi⟩ : ∃ x : IdI, x = ⟨n, HID.out⟩ := ⟨_, rfl⟩
        have HXI : Hid (xi.1 = n) := Lib.hid (by rw [hxi])
        have HCz : Hid (ColI H t (fun x => left x && !(x == n)) (S ++ [xi])) := Lib.hid (by have h9 := HC.out; rw [HEB.out] at h9; rw [hxi]; exact h9)
        have HLz : Hid ((S ++ [xi]).length + cnt2 ≤ k) := Lib.hid (by have := HLN.out; have := HLT.out; rw [List.length_append, List.length_singleton]; omega)
        clear hxi
        go_wp2_with (refine wpList_ld (op := ⟨some 33, _, _, _, _, _⟩) (by rfl) 35 (.tmp 7) rfl N7 0 rfl (iC n) _ K7.out.all Tryz.underlying35 rfl info_iC ?_; refine Hid.out ?_)
        refine Lib.hid ?_
        obtain ⟨N9, hN9⟩ : ∃ N, w7.heap.size = N := ⟨_, rfl⟩
        have HN9 := Lib.hid hN9
        clear hN9
        go_wp2_with (refine wpList_bsn (op := ⟨some 34, _, _, _, _, _⟩) 1 rfl 35 (iC n) (bs_id1 _ _ _ rfl n rfl) N9 HN9.out ?_; intro w9 k1 b1 s1; refine Hid.out ?_)
        refine Lib.hid ?_
        have HRD : Hid (RdR w9 (some ⟨N9, 0, none⟩) 1 8 (fun _ => iC xi.1)) := Lib.hid (by rw [HXI.out]; exact rdR_blk k1)
        clear k1 s1
        replace HA := Lib.hid (HA.out.below b1)
        replace K7 := Lib.hid (K7.out.below b1 K7.out.lt)
        clear b1 HN9
        have hsl : S.length + 1 ≤ 513 := by have := HLN.out; have := HK.out; omega
        have HSL := Lib.hid hsl
        clear hsl
        have hml : maxLen = 9223372036854775807 := rfl
        have HML := Lib.hid hml
        clear hml
        have HO := Lib.hid HA.out.own
        go_wp2_with (at_builtin; refine app_Y 49 35 8 8 _ Tryz.underlying49 infoA_idI rfl (by decide) rfl (.tmp 32) (.tmp 34) rfl B0 _ S.length (idB S) rfl HO.out HA.out.sz ⟨N9, 0, none⟩ 1 1 (fun _ => iC xi.1) rfl HRD.out (fun _ => ⟨rfl, iC_ones _⟩) (by have := HSL.out; rw [HML.out]; omega) (by have := HSL.out; omega) ?_; intro v10 w10 ho9 hg9 hk9; refine Hid.out ?_)
        refine Lib.hid ?_
        have K7n : Hid (Blk 35 w10 N7 (iC n)) := Lib.hid ((hg9.block N7 K7.out.lt (fun e => by have := (HNE7.out _ e.symm).2; omega)).trans K7.out)
        clear K7
        have K7 := K7n
        replace HA := Lib.hid (AgS.app (x := xi) HA.out ho9 hg9 hk9)
        clear ho9 hg9 hk9 K7n
        clear HO HRD
        have c12 : w10.cell? ⟨gx, 12, none⟩ = some (.int .i64 pu) := by obtain ⟨_, _, _, d2, _⟩ := HA.out.hd HMN.out (setH_at _ _ _); exact (d2.cell 12).trans (by rw [← HPU.out]; rfl)
        by_cases h60 : 60 ≤ pu
        · have h60b : (60 : Int) ≤ pu := h60
          have H60 : Hid (60 ≤ (ageH h t).pu) := Lib.hid (by rw [HPU.out]; exact h60)
          go_wp2_with (refine wpList_ld (op := ⟨some 42, _, _, _, _, _⟩) (by rfl) 35 (.tmp 7) rfl N7 0 rfl (iC n) _ K7.out.all Tryz.underlying35 rfl info_iC ?_; refine Hid.out ?_)
          refine Lib.hid ?_
          clear c12
          go_wp2_with fail
          refine (drop_mapD s b k1 n r1 M1 w10 HA.out.st.blk HA.out.st.map (fun e => map_blk HA.out.st.map HA.out.st.blk e.symm) HID.out).mono ?_
          rintro e w8 hd
          have he := hd.1.1
          obtain rfl := he
          obtain ⟨cnt3, hc3, hA8⟩ := HA.out.drop HM.out.blk (show w.heap[b]? = some (.map (HM.out.map).choose (HM.out.map).choose_spec.choose) from (HM.out.map).choose_spec.choose_spec.1) hd
          have HA8 : Hid (AgS w w8 B NR B0 s b (putM M1 n none) (agL H t (fun x => left x && !(x == n))) (if (M1 n).isSome then k1 - 1 else k1) false (fun x => left x && !(x == n)) cnt3 _ (S ++ [xi])) := Lib.hid (by have h9 := hA8; rw [setH_two] at h9; rw [HST.out, if_pos H60.out]; exact h9)
          have HC3 := Lib.hid hc3
          clear hd hA8 hc3 HA
          go_wp2_with fail
          go_roundw
          case rel => exact ⟨_, cnt3, (S ++ [xi]), _, _, false, HA8, HCz, Lib.hid (RefL.lost HHn.out H60.out), Lib.hid (by have := HLz.out; have := HC3.out; omega), Lib.hid (by have := HK1.out; split <;> omega), Lib.hid (putM_sub HMM.out)⟩
          case measure => rw [RngAt.left_eq HA8.out.rg, HRL.out]; have := HLT.out; have := HC3.out; omega
        · have h60b : ¬ (60 : Int) ≤ pu := h60
          have H60 : Hid (¬ 60 ≤ (ageH h t).pu) := Lib.hid (by rw [HPU.out]; exact h60)
          have HA8 : Hid (AgS w w10 B NR B0 s b M1 (agL H t (fun x => left x && !(x == n))) k1 r1 (fun x => left x && !(x == n)) cnt2 _ (S ++ [xi])) := Lib.hid (by rw [HST.out, if_neg H60.out]; exact HA.out)
          clear HA
          go_wp2_with fail
          go_roundw
          case rel => exact ⟨_, cnt2, (S ++ [xi]), M1, k1, r1, HA8, HCz, Lib.hid (RefL.stay HRF.out HHn.out (by have := H60.out; omega)), HLz, HK1, HMM⟩
          case measure => rw [RngAt.left_eq HA8.out.rg, HRL.out]; exact HLT.out
    · refine Lib.hid ?_
      subst h0
      have HNN : Hid (∀ i h, H i = some h → left i = false) := Lib.hid (fun i h hi => by
        cases e : left i with
        | false => rfl
        | true =>
          cases e2 : M1 i with
          | none => have := (HA.out.st.iff i).1 e2; rw [agL_at e, hi] at this; cases this
          | some g9 => have := RngAt.none HA.out.rg e2; rw [e] at this; cases this)
      have HEND := Lib.hid (agL_end (t := t) HNN.out)
      have HMEM : Hid (∀ x : IdI, x ∈ S ↔ ∃ h, H x.1 = some h ∧ endB h t = true) := Lib.hid (fun x => (HC.out.mem x).trans ⟨fun h => h.2, fun h => ⟨by obtain ⟨g9, h1, _⟩ := h; exact HNN.out _ g9 h1, h⟩⟩)
      have HRE : Hid (RefL H t (fun _ => false) r r1) := Lib.hid (by rcases HRF.out with ⟨h1, h2⟩ | ⟨h1, i, g9, h2, h3, h4⟩; exact .inl ⟨h1, fun i g9 e _ => h2 i g9 e (HNN.out i g9 e)⟩; exact .inr ⟨h1, i, g9, h2, rfl, h4⟩)
      rcases HA.out.own.2 with ⟨rfl, hx⟩ | ⟨gb, cap, cur, rfl, hbase, hb, h1, h2, h3, h4⟩
      · have hS0 : S = [] := List.eq_nil_of_length_eq_zero hx
        subst hS0
        go_wp2_with fail
        refine (sort_0 none 0 _ wr).mono ?_
        rintro e w9 ⟨rfl, rfl⟩
        go_wp2_with fail
        refine bodyPost_ret (v := .tuple #[.slice none 0 0, .int .i64 0]) (by simp [results, Tryz.f11, go_sem]) rfl ?_
        exact ⟨none, 0, [], rfl, OwnR.nil _ _ _ _ _, List.Pairwise.nil, HMEM.out, ⟨k1, r1, HK1.out, by rw [← HEND.out]; exact HA.out.st.at, HRE.out⟩, HA.out.bel, Nat.zero_le _, fun x o e1 e2 => HA.out.kp x o (by rw [← HNR.out]; exact (Array.getElem?_eq_some_iff.1 e1).1) e1 e2⟩
      · have hsr := sort_rowI gb cap S wr cur hb h4 (by have := HLN.out; have := HK.out; omega) ()
        have HSR := Lib.hid hsr
        have HQ := Lib.hid (show B0 ≤ gb ∧ wr.heap[gb]? = some (.cells cur 35 (0, 0)) ∧ S.length ≤ cap ∧ cap ≤ maxLen ∧ cur.size = cap * 8 from ⟨hbase, hb, h1, h2, h3⟩)
        clear hbase hb h1 h2 h3 h4 hsr
        go_wp2_with fail
        refine HSR.out.mono ?_
        rintro e w9 ⟨rfl, T, n9, os, hp, ha, hw9⟩
        have HP := Lib.hid hp
        have HAS := Lib.hid ha
        have HW := Lib.hid hw9
        clear hp ha hw9 HSR
        go_wp2_with fail
        refine bodyPost_ret (v := .tuple #[.slice (some ⟨gb, 0, none⟩) S.length cap, .int .i64 0]) (by simp [results, Tryz.f11, go_sem]) rfl ?_
        obtain ⟨o1, o2, o3, o4, o5⟩ := HQ.out
        have hlen : T.length = S.length := HP.out.length_eq
        have hown := own_sortedI (n := n9) (os := os) (T := T) hlen o1 o2 o3 o4 o5
        have hgr : wr.grownBy (grow (putRowK encI8 8 (Sort.ahead wr n9) gb 0 T.toArray) os) (some gb) := grownBy_sortedI T.toArray
        rw [← HW.out] at hown hgr
        have hBN := HA.out.lt
        have hszz := HA.out.sz
        have far : ∀ y, y < NR → w9.heap[y]? = wr.heap[y]? := fun y hy => hgr.block y (by omega) (fun e => by cases e; omega)
        have hkp : ∀ (x : Nat) (o : Obj), w.heap[x]? = some o → mineS o = false → w9.heap[x]? = some o := fun x o e1 e2 => by
          have hx : x < NR := by rw [← HNR.out]; exact (Array.getElem?_eq_some_iff.1 e1).1
          exact (far x hx).trans (HA.out.kp x o hx e1 e2)
        exact ⟨some ⟨gb, 0, none⟩, cap, T, by rw [hlen], by rw [hlen]; rw [hlen] at hown; exact hown.mono (by rw [HNR.out]; omega), ascI_lt HAS.out (HP.out.nodup_iff.2 HC.out.nd), fun x => (HP.out.mem_iff).trans (HMEM.out x), ⟨k1, r1, HK1.out, by rw [← HEND.out]; exact (HA.out.st.same far).at, HRE.out⟩, HA.out.bel.grown hgr (by have := HLTB.out; omega) (fun k e => by cases e; omega), by rw [hlen]; have := HLN.out; omega, hkp⟩
end Go.Proofs.YtkiaijmhoikdiaaGreat

/- The document's Age. Each theorem states its conditions. -/
namespace Go.Proofs.YtkiaijmhoikdiaaGreat
open Go.RowKit Go.MapKept
set_option linter.unusedVariables false
set_option linter.unusedSimpArgs false

def agR (t : Int) (r : Rh) : Rh := ⟨⟨ageH r.x.1 t, r.x.2⟩, r.g, r.c⟩
def liR (r : Rh) (l : Int) : Rh := ⟨⟨liH r.x.1 l, r.x.2⟩, r.g, r.c⟩
def puH (h : Hd) (p : Int) : Hd := ⟨h.id, h.sq, h.li, h.su, h.n, h.z, p⟩
def puR (r : Rh) (p : Int) : Rh := ⟨⟨puH r.x.1 p, r.x.2⟩, r.g, r.c⟩
theorem rh_li (r : Rh) (l : Int) : putMany (rhC r) 10 [.int .i64 l] = rhC (liR r l) := by kernel_rfl
theorem rh_pu (r : Rh) (p : Int) : putMany (rhC r) 12 [.int .i64 p] = rhC (puR r p) := by kernel_rfl
theorem rh_eq {a b : Hd} {ha : IdOk a.id} {hb : IdOk b.id} {g c : Nat} (e : a = b) : (⟨⟨a, ha⟩, g, c⟩ : Rh) = ⟨⟨b, hb⟩, g, c⟩ := by subst e; rfl
section
variable {r : Rh} {t : Int} {R : List Rh} {j : Nat}
theorem ag_keep (ht : 0 ≤ t) (h : t < r.x.1.li) : liR r (r.x.1.li - t) = agR t r := by
  refine rh_eq ?_
  have e1 : max (r.x.1.li - t) 0 = r.x.1.li - t := by omega
  have e2 : r.x.1.pu + max (t - r.x.1.li) 0 = r.x.1.pu := by omega
  unfold ageH liH
  rw [e1, e2]
theorem ag_end (h : ¬ t < r.x.1.li) : puR (liR r 0) (r.x.1.pu + (t - r.x.1.li)) = agR t r := by
  refine rh_eq ?_
  have e1 : max (r.x.1.li - t) 0 = 0 := by omega
  have e2 : max (t - r.x.1.li) 0 = t - r.x.1.li := by omega
  unfold ageH puH
  rw [e1, e2]
  rfl
theorem ag_zero (ht : 0 ≤ t) (h : r.x.1.li = 0) : puR r (r.x.1.pu + t) = agR t r := by
  refine rh_eq ?_
  have e1 : max (r.x.1.li - t) 0 = r.x.1.li := by omega
  have e2 : max (t - r.x.1.li) 0 = t := by omega
  unfold ageH puH
  rw [e1, e2]
def keepR (t : Int) (R : List Rh) : List Rh := (R.map (agR t)).filter (fun r => decide (r.x.1.pu < 60))
def outR (t : Int) (R : List Rh) : List IdI := (R.filter (fun r => endB r.x.1 t)).map (fun r => ⟨r.x.1.id, r.x.2⟩)
theorem keep_step (hx : R[j]? = some r) : keepR t (R.take (j + 1)) = if (agR t r).x.1.pu < 60 then keepR t (R.take j) ++ [agR t r] else keepR t (R.take j) := by
  unfold keepR
  rw [take_snoc hx, List.map_append, List.filter_append]
  by_cases e : (agR t r).x.1.pu < 60
  · rw [if_pos e]; simp [e]
  · rw [if_neg e]; simp [e]
theorem out_step (hx : R[j]? = some r) : outR t (R.take (j + 1)) = if endB r.x.1 t then outR t (R.take j) ++ [⟨r.x.1.id, r.x.2⟩] else outR t (R.take j) := by
  unfold outR
  rw [take_snoc hx, List.filter_append, List.map_append]
  by_cases e : endB r.x.1 t = true
  · rw [if_pos e]; simp [e]
  · rw [if_neg e]; simp [e]
theorem keep_len : (keepR t R).length ≤ R.length := by
  unfold keepR
  exact Nat.le_trans (List.length_filter_le _ _) (by rw [List.length_map]; exact Nat.le_refl _)
theorem out_len : (outR t R).length ≤ R.length := by
  unfold outR
  rw [List.length_map]
  exact List.length_filter_le _ _
theorem keep_mem {x : Rh} (h : x ∈ keepR t R) : ∃ r ∈ R, x = agR t r := by
  obtain ⟨r, hr, e⟩ := List.mem_map.1 (List.mem_filter.1 h).1
  exact ⟨r, hr, e.symm⟩
end
theorem OwnR.typ {w w' : World} {B B2 s s2 m m2 : Nat} {e e2 : TypeId} {v v2 : Value} {C C2 : Nat → Array Value} (h : OwnR w B e s v m C) (h2 : OwnR w B2 e2 s2 v2 m2 C2) (hne : e ≠ e2) (hg : w.grownBy w' v2.ownBlock) : OwnR w' B e s v m C := by
  rcases h with ⟨h1, h3 | ⟨g, cap, cur, a1, a2, a3, rest⟩⟩
  · exact ⟨h1, .inl h3⟩
  · refine ⟨h1, .inr ⟨g, cap, cur, a1, a2, (hg.block g (Array.getElem?_eq_some_iff.1 a3).1 (fun e9 => ?_)).trans a3, rest⟩⟩
    rcases h2.2 with ⟨rfl, _⟩ | ⟨g2, cap2, cur2, rfl, _, b3, _⟩
    · cases e9
    · have e8 : g = g2 := by
        have e7 : some g = some g2 := e9
        injection e7
      subst e8
      rw [a3] at b3
      injection b3 with b3
      injection b3 with _ b3 _
      exact hne b3
theorem info_i1R : (Tryz.prog.info? 3).map (·.size) = some 1 := by kernel_rfl
theorem one_iR (k : Int) : (#[Value.int .i64 k] : Array Value).all (·.oneCell') = true := by kernel_rfl
def DAgeP (w : World) (B sr : Nat) (R : List Rh) (rf : Bool) (t : Int) (e : Ending) (w' : World) : Prop :=
  ∃ A c, e = .returned (.tuple #[.slice A (outR t R).length c, .int .i64 0]) ∧ OwnR w' w.heap.size 35 8 (.slice A (outR t R).length c) (outR t R).length (idB (outR t R)) ∧ Fr1 w w' sr ∧ RfAt w' B sr (keepR t R) (if (keepR t R).length < R.length then false else rf)
theorem OwnR.blkfar {w w' : World} {B s m g : Nat} {e t : TypeId} {v : Value} {C : Nat → Array Value} {D D0 : Array Value} (h : OwnR w B e s v m C) (q : Stored w w' g D t) (hk : Blk t w g D0) (hne : e ≠ t) : OwnR w' B e s v m C := by
  rcases h with ⟨h1, h3 | ⟨g9, cap, cur, a1, a2, a3, rest⟩⟩
  · exact ⟨h1, .inl h3⟩
  · exact ⟨h1, .inr ⟨g9, cap, cur, a1, a2, (q.2.2 g9 (blk_two (show Blk e w g9 cur from a3) hk hne)).trans a3, rest⟩⟩
theorem OwnR.keepL {w w' : World} {B s m g : Nat} {e t : TypeId} {v : Value} {C : Nat → Array Value} {D : Array Value} (h : OwnR w B e s v m C) (q : Stored w w' g D t) (hne : ∀ y, v.ownBlock = some y → y ≠ g) : OwnR w' B e s v m C := by
  rcases h with ⟨h1, h3 | ⟨g9, cap, cur, a1, a2, a3, rest⟩⟩
  · exact ⟨h1, .inl h3⟩
  · exact ⟨h1, .inr ⟨g9, cap, cur, a1, a2, (q.2.2 g9 (hne g9 (by rw [a1]; rfl))).trans a3, rest⟩⟩
set_option maxHeartbeats 40000000 in
set_option maxRecDepth 100000 in
theorem docAge_any (B sr : Nat) (R : List Rh) (rf : Bool) (t : Int) (w : World) (hst : RfAt w B sr R rf) (hl : R.length ≤ 600) (hlf : ∀ r ∈ R, (0 ≤ r.x.1.li ∧ r.x.1.li ≤ 65535) ∧ (0 ≤ r.x.1.pu ∧ r.x.1.pu < 60)) (ht : 0 ≤ t ∧ t ≤ 65535) : Calls Tryz.prog 12 #[.pointer (some ⟨sr, 0, none⟩), .int .i64 t] w (DAgeP w B sr R rf t) := by
  obtain ⟨A, c, hs, hc1, hc2, hrd, _⟩ := hst.open
  have KS := Lib.hid hs
  have KS0 := Lib.hid hs
  have HRD := Lib.hid hrd
  have HOK := Lib.hid hst.ok
  have HLF := Lib.hid hlf
  have le_B : B ≤ sr := hst.hs
  have HTT := Lib.hid ht
  obtain ⟨ht1, ht2⟩ := ht
  have t1 : ¬ t < 0 := by omega
  have t2 : ¬ 65535 < t := by omega
  obtain ⟨m, hm⟩ : ∃ m, R.length = m := ⟨_, rfl⟩
  have HM := Lib.hid hm
  rw [hm] at HRD KS
  have hm6 : m ≤ 600 := by omega
  have hmI : (m : Int) ≤ 9223372036854775807 := by omega
  clear hst hs hrd hm hc1 hc2 hl hlf
  go_enter Tryz.func12, Tryz.ntmps12
  have c0 : w.cell? ⟨sr, 0, none⟩ = some (.slice A m c) := (KS.out.cell 0).trans rfl
  go_wp2_with fail
  clear c0
  obtain ⟨BL, hBL⟩ : ∃ N, w.heap.size = N := ⟨_, rfl⟩
  have HBL := Lib.hid hBL
  have lt_sr : sr < BL := by rw [← hBL]; exact KS.out.lt
  clear hBL
  go_loopw [6, 7, 24] (fun o l i wr => ∃ j : Nat, j ≤ m ∧ i = .int .i64 j ∧ Hid (OwnR wr BL 35 8 o (outR t (R.take j)).length (idB (outR t (R.take j)))) ∧ Hid (OwnR wr BL 95 13 l (keepR t (R.take j)).length (rhA (keepR t (R.take j)))) ∧ Hid (Below BL w wr)) (fun _ _ i _ => m - (intOf i).toNat)
  case atStart => exact ⟨0, by omega, rfl, Lib.hid (OwnR.nil _ _ _ _ _), Lib.hid (OwnR.nil _ _ _ _ _), Lib.hid (Below.refl _ _)⟩
  case round =>
    obtain ⟨j, hj, rfl, HO, HL, HQ⟩ := hrel
    by_cases hlt : j < m
    · have hki : (j : Int) < (m : Int) := by omega
      obtain ⟨bA, off, rfl, hr⟩ := HRD.out.row (by omega)
      obtain ⟨r, hx⟩ : ∃ r, R[j]? = some r := ⟨_, List.getElem?_eq_getElem (by rw [HM.out]; exact hlt)⟩
      have h1 : Hid (wr.rangeAt bA (off + j * 13) (rhC r).toList) := Lib.hid (by have h9 := rangeAt_below (hr.2 j hlt) HQ.out (by have := hr.1; rw [HBL.out] at this; exact this); rw [rhA_at R j r hx] at h9; exact h9)
      have HST1 := Lib.hid (out_step (t := t) hx)
      have HST2 := Lib.hid (keep_step (t := t) hx)
      obtain ⟨SO, hSO⟩ : ∃ S, outR t (R.take j) = S := ⟨_, rfl⟩
      rw [hSO] at HO HST1
      obtain ⟨SL, hSL⟩ : ∃ S, keepR t (R.take j) = S := ⟨_, rfl⟩
      rw [hSL] at HL HST2
      have HSL : Hid (SO.length ≤ 600 ∧ SL.length ≤ 600) := Lib.hid (by rw [← hSO, ← hSL]; have h1 := out_len (t := t) (R := R.take j); have h2 := keep_len (t := t) (R := R.take j); rw [List.length_take] at h1 h2; omega)
      have HLR := Lib.hid (HLF.out r (List.mem_of_getElem? hx))
      clear hr hx hSO hSL
      obtain ⟨li, hli⟩ : ∃ l, r.x.1.li = l := ⟨_, rfl⟩
      obtain ⟨pu, hpu⟩ : ∃ l, r.x.1.pu = l := ⟨_, rfl⟩
      have HLI := Lib.hid hli
      have HPU := Lib.hid hpu
      obtain ⟨⟨hl1, hl2⟩, hp1, hp2⟩ : (0 ≤ li ∧ li ≤ 65535) ∧ (0 ≤ pu ∧ pu < 60) := by rw [← hli, ← hpu]; exact HLR.out
      clear hli hpu HLR
      go_wp2_with (refine wpList_ld (op := ⟨some 27, _, _, _, _, _⟩) (by rfl) 95 (.tmp 26) rfl bA (off + j * 13) rfl (rhC r) _ h1.out Tryz.underlying95 rfl info_rh ?_; refine Hid.out ?_)
      refine Lib.hid ?_
      clear h1
      obtain ⟨N9, hN9⟩ : ∃ N, wr.heap.size = N := ⟨_, rfl⟩
      have HN9 := Lib.hid hN9
      have le_9 : BL ≤ N9 := by rw [← hN9]; have := HQ.out.size; rw [HBL.out] at this; exact this
      have HNE : Hid ((∀ y, Value.ownBlock _ = some y → y < N9) ∧ ∀ y, Value.ownBlock _ = some y → y < N9) := Lib.hid ⟨fun y e => by rw [← hN9]; exact (HO.out.lt y e).2, fun y e => by rw [← hN9]; exact (HL.out.lt y e).2⟩
      clear hN9
      go_wp2_with (refine wpList_new (op := ⟨some 9, _, _, _, _, _⟩) rfl 95 rfl rhZ zero_rh N9 HN9.out ?_; intro w5 k1 b1 s9; refine Hid.out ?_)
      refine Lib.hid ?_
      have K9 := Lib.hid k1
      have HB1 := Lib.hid b1
      clear k1 b1 s9
      go_wp2_with (refine wpList_st rfl 95 (.tmp 9) (.tmp 27) rfl N9 0 rfl (.agg (rhC r)) (rhC r) rfl rfl info_rh (rhC_one _) K9.out (Nat.le_of_ble_eq_true rfl) (C' := rhC r) (rh_overZ _) ?_; intro w6 q1; refine Hid.out ?_)
      refine Lib.hid ?_
      have b1 : Below wr.heap.size wr w6 := HB1.out.trans (q1.2.1 _ (by rw [HN9.out]; exact Nat.le_refl _))
      replace K9 : Hid (Blk 95 w6 N9 (rhC r)) := Lib.hid q1.1
      clear q1 HB1 HN9
      replace HO := Lib.hid (HO.out.below b1)
      replace HL := Lib.hid (HL.out.below b1)
      replace HQ := Lib.hid (HQ.out.trans (b1.mono (by have := HQ.out.size; rw [HBL.out] at this; exact this)))
      clear b1
      have c10 : w6.cell? ⟨N9, 10, none⟩ = some (.int .i64 li) := (K9.out.cell 10).trans (by rw [← HLI.out]; rfl)
      by_cases h0 : 0 < li
      · by_cases h1 : t < li
        · have H1 := Lib.hid h1
          go_wp2_with (refine wpList_st rfl 3 (.tmp 40) (.tmp 39) rfl N9 10 rfl (.int .i64 (li - t)) #[.int .i64 (li - t)] rfl rfl info_i1R (one_iR _) K9.out (Nat.le_of_ble_eq_true rfl) (C' := rhC (liR r (li - t))) (rh_li _ _) ?_; intro w7 q1; refine Hid.out ?_)
          refine Lib.hid ?_
          have HZ9 : Hid (N9 < w6.heap.size) := Lib.hid K9.out.lt
          have HOn : Hid (OwnR w7 BL 35 8 _ SO.length (idB SO)) := Lib.hid (HO.out.blkfar q1 K9.out (by decide))
          have HLn : Hid (OwnR w7 BL 95 13 _ SL.length (rhA SL)) := Lib.hid (HL.out.keepL q1 (fun y e => by have := HNE.out.2 y e; omega))
          have HQn := Lib.hid (HQ.out.trans (q1.2.1 BL le_9))
          have K9n : Hid (Blk 95 w7 N9 (rhC (liR r (li - t)))) := Lib.hid q1.1
          clear HO HL HQ K9 HZ9 q1
          have HO := HOn
          have HL := HLn
          have HQ := HQn
          have K9 := K9n
          clear HOn HLn HQn K9n
          have HAG : Hid (liR r (li - t) = agR t r) := Lib.hid (by rw [← HLI.out]; exact ag_keep HTT.out.1 (by rw [HLI.out]; exact H1.out))
          clear c10
          go_wp2_with (refine wpList_ld (op := ⟨some 42, _, _, _, _, _⟩) (by rfl) 95 (.tmp 9) rfl N9 0 rfl (rhC (liR r (li - t))) _ K9.out.all Tryz.underlying95 rfl info_rh ?_; refine Hid.out ?_)
          refine Lib.hid ?_
          obtain ⟨P, hP⟩ : ∃ N, w7.heap.size = N := ⟨_, rfl⟩
          have HP := Lib.hid hP
          clear hP
          go_wp2_with (refine wpList_bsn (op := ⟨some 43, _, _, _, _, _⟩) 1 rfl 95 (rhC (liR r (li - t))) (bs_rh1 _ _ _ rfl (liR r (li - t)) rfl) P HP.out ?_; intro wpa k1 b1 s9; refine Hid.out ?_)
          refine Lib.hid ?_
          have HRR : Hid (RdR wpa (some ⟨P, 0, none⟩) 1 13 (fun _ => rhC (liR r (li - t)))) := Lib.hid (rdR_blk k1)
          clear k1 s9 K9
          replace HO := Lib.hid (HO.out.below b1)
          replace HL := Lib.hid (HL.out.below b1)
          replace HQ := Lib.hid (HQ.out.trans (b1.mono (by have := HQ.out.size; rw [HBL.out] at this; exact this)))
          clear b1
          have hml : maxLen = 9223372036854775807 := rfl
          have HML := Lib.hid hml
          clear hml
          have HZ : Hid (BL ≤ wpa.heap.size) := Lib.hid (by have := HQ.out.size; rw [HBL.out] at this; exact this)
          go_wp2_with (at_builtin; refine app_Y 27 95 13 56 _ Tryz.underlying27 infoA_rh rfl (by decide) rfl (.tmp 41) (.tmp 43) rfl BL _ SL.length (rhA SL) rfl HL.out HZ.out ⟨P, 0, none⟩ 1 1 (fun _ => rhC (liR r (li - t))) rfl HRR.out (fun _ => ⟨rfl, rhC_ones _⟩) (by have := HSL.out; rw [HML.out]; omega) (by have := HSL.out; omega) ?_; intro vaa waa ho9 hg9 hk9; refine Hid.out ?_)
          refine Lib.hid ?_
          have HLn : Hid (OwnR waa BL 95 13 vaa (SL ++ [liR r (li - t)]).length (rhA (SL ++ [liR r (li - t)]))) := Lib.hid (by rw [List.length_append]; exact OwnR.congr ho9 (fun j hj => rh_snoc _ _ j hj))
          have HOn : Hid (OwnR waa BL 35 8 _ SO.length (idB SO)) := Lib.hid (HO.out.typ HL.out (by decide) hg9)
          have HQn : Hid (Below BL w waa) := Lib.hid (HQ.out.grown hg9 HZ.out (fun k e => hk9 k e))
          clear HO HL HQ ho9 hg9 hk9 HRR
          have HO := HOn
          have HL := HLn
          have HQ := HQn
          clear HOn HLn HQn
          have HOz : Hid (OwnR waa BL 35 8 _ (outR t (R.take (j + 1))).length (idB (outR t (R.take (j + 1))))) := Lib.hid (by rw [HST1.out, if_neg (by unfold endB; rw [HLI.out]; have := H1.out; simp; omega)]; exact HO.out)
          have HLz : Hid (OwnR waa BL 95 13 _ (keepR t (R.take (j + 1))).length (rhA (keepR t (R.take (j + 1))))) := Lib.hid (by rw [HST2.out, if_pos (by rw [← HAG.out]; show r.x.1.pu < 60; rw [HPU.out]; exact hp2), ← HAG.out]; exact HL.out)
          go_wp2_with fail
          go_roundw
          case rel => exact ⟨j + 1, by omega, by go_num, HOz, HLz, HQ⟩
          case measure => simp only [intOf]; omega
        · have H1 := Lib.hid h1
          obtain ⟨xi, hxi⟩ : ∃ x : IdI, x = ⟨r.x.1.id, r.x.2⟩ := ⟨_, rfl⟩
          have HXI := Lib.hid hxi
          have HXI1 : Hid (xi.1 = r.x.1.id) := Lib.hid (by rw [hxi])
          clear hxi
          go_wp2_with (refine wpList_ld (op := ⟨some 47, _, _, _, _, _⟩) (by rfl) 35 (.tmp 46) rfl N9 0 rfl (iC r.x.1.id) _ (rh_id K9.out) Tryz.underlying35 rfl info_iC ?_; refine Hid.out ?_)
          refine Lib.hid ?_
          clear c10
          obtain ⟨P1, hP1⟩ : ∃ N, w6.heap.size = N := ⟨_, rfl⟩
          have HP1 := Lib.hid hP1
          clear hP1
          go_wp2_with (refine wpList_bsn (op := ⟨some 48, _, _, _, _, _⟩) 1 rfl 35 (iC r.x.1.id) (bs_id1 _ _ _ rfl r.x.1.id rfl) P1 HP1.out ?_; intro w7 k1 b1 s9; refine Hid.out ?_)
          refine Lib.hid ?_
          have HRD1 : Hid (RdR w7 (some ⟨P1, 0, none⟩) 1 8 (fun _ => iC xi.1)) := Lib.hid (by rw [HXI1.out]; exact rdR_blk k1)
          clear k1 s9
          replace HO := Lib.hid (HO.out.below b1)
          replace HL := Lib.hid (HL.out.below b1)
          replace HQ := Lib.hid (HQ.out.trans (b1.mono (by have := HQ.out.size; rw [HBL.out] at this; exact this)))
          replace K9 := Lib.hid (K9.out.below b1 K9.out.lt)
          clear b1
          have hml : maxLen = 9223372036854775807 := rfl
          have HML1 := Lib.hid hml
          clear hml
          have HZ1 : Hid (BL ≤ w7.heap.size) := Lib.hid (by have := HQ.out.size; rw [HBL.out] at this; exact this)
          go_wp2_with (at_builtin; refine app_Y 49 35 8 8 _ Tryz.underlying49 infoA_idI rfl (by decide) rfl (.tmp 45) (.tmp 48) rfl BL _ SO.length (idB SO) rfl HO.out HZ1.out ⟨P1, 0, none⟩ 1 1 (fun _ => iC xi.1) rfl HRD1.out (fun _ => ⟨rfl, iC_ones _⟩) (by have := HSL.out; rw [HML1.out]; omega) (by have := HSL.out; omega) ?_; intro v8 w8 ho9 hg9 hk9; refine Hid.out ?_)
          refine Lib.hid ?_
          have HOn : Hid (OwnR w8 BL 35 8 v8 (SO ++ [xi]).length (idB (SO ++ [xi]))) := Lib.hid (by rw [List.length_append]; exact OwnR.congr ho9 (fun j hj => id_snoc SO xi j hj))
          have HLn : Hid (OwnR w8 BL 95 13 _ SL.length (rhA SL)) := Lib.hid (HL.out.typ HO.out (by decide) hg9)
          have K9n : Hid (Blk 95 w8 N9 (rhC r)) := Lib.hid ((hg9.block N9 K9.out.lt (fun e => by have := HNE.out.1 _ e.symm; omega)).trans K9.out)
          have HQn : Hid (Below BL w w8) := Lib.hid (HQ.out.grown hg9 HZ1.out (fun k e => hk9 k e))
          clear HO HL HQ K9 ho9 hg9 hk9 HRD1
          have HO := HOn
          have HL := HLn
          have HQ := HQn
          have K9 := K9n
          clear HOn HLn HQn K9n
          have c10 : w8.cell? ⟨N9, 10, none⟩ = some (.int .i64 li) := (K9.out.cell 10).trans (by rw [← HLI.out]; rfl)
          go_wp2_with (refine wpList_st rfl 3 (.tmp 54) (.const (.int .i64 0)) rfl N9 10 rfl (.int .i64 (0)) #[.int .i64 (0)] rfl rfl info_i1R (one_iR _) K9.out (Nat.le_of_ble_eq_true rfl) (C' := rhC (liR r 0)) (rh_li _ _) ?_; intro w10 q1; refine Hid.out ?_)
          refine Lib.hid ?_
          have HZ9 : Hid (N9 < w8.heap.size) := Lib.hid K9.out.lt
          have HOn : Hid (OwnR w10 BL 35 8 _ (SO ++ [xi]).length (idB (SO ++ [xi]))) := Lib.hid (HO.out.blkfar q1 K9.out (by decide))
          have HLn : Hid (OwnR w10 BL 95 13 _ SL.length (rhA SL)) := Lib.hid (HL.out.keepL q1 (fun y e => by have := HNE.out.2 y e; omega))
          have HQn := Lib.hid (HQ.out.trans (q1.2.1 BL le_9))
          have K9n : Hid (Blk 95 w10 N9 (rhC (liR r 0))) := Lib.hid q1.1
          clear HO HL HQ K9 HZ9 q1
          have HO := HOn
          have HL := HLn
          have HQ := HQn
          have K9 := K9n
          clear HOn HLn HQn K9n
          clear c10
          have c12 : w10.cell? ⟨N9, 12, none⟩ = some (.int .i64 pu) := (K9.out.cell 12).trans (by rw [← HPU.out]; rfl)
          go_wp2_with (refine wpList_st rfl 3 (.tmp 59) (.tmp 58) rfl N9 12 rfl (.int .i64 (pu + (t - li))) #[.int .i64 (pu + (t - li))] rfl rfl info_i1R (one_iR _) K9.out (Nat.le_of_ble_eq_true rfl) (C' := rhC (puR (liR r 0) (pu + (t - li)))) (rh_pu _ _) ?_; intro wtb q1; refine Hid.out ?_)
          refine Lib.hid ?_
          have HZ9 : Hid (N9 < w10.heap.size) := Lib.hid K9.out.lt
          have HOn : Hid (OwnR wtb BL 35 8 _ (SO ++ [xi]).length (idB (SO ++ [xi]))) := Lib.hid (HO.out.blkfar q1 K9.out (by decide))
          have HLn : Hid (OwnR wtb BL 95 13 _ SL.length (rhA SL)) := Lib.hid (HL.out.keepL q1 (fun y e => by have := HNE.out.2 y e; omega))
          have HQn := Lib.hid (HQ.out.trans (q1.2.1 BL le_9))
          have K9n : Hid (Blk 95 wtb N9 (rhC (puR (liR r 0) (pu + (t - li))))) := Lib.hid q1.1
          clear HO HL HQ K9 HZ9 q1
          have HO := HOn
          have HL := HLn
          have HQ := HQn
          have K9 := K9n
          clear HOn HLn HQn K9n
          clear c12
          obtain ⟨pn, hpn⟩ : ∃ x, pu + (t - li) = x := ⟨_, rfl⟩
          have HPN := Lib.hid hpn
          have c12 : wtb.cell? ⟨N9, 12, none⟩ = some (.int .i64 pn) := (K9.out.cell 12).trans (by rw [← hpn]; rfl)
          clear hpn
          have HAG : Hid (puR (liR r 0) (pu + (t - li)) = agR t r) := Lib.hid (by rw [← HLI.out, ← HPU.out]; exact ag_end (by rw [HLI.out]; have := H1.out; omega))
          by_cases h60 : pn < 60
          · have H60 := Lib.hid h60
            go_upto_region 20 with (fail)
            clear c12
            go_wp2_with (refine wpList_ld (op := ⟨some 64, _, _, _, _, _⟩) (by rfl) 95 (.tmp 9) rfl N9 0 rfl (rhC (puR (liR r 0) (pu + (t - li)))) _ K9.out.all Tryz.underlying95 rfl info_rh ?_; refine Hid.out ?_)
            refine Lib.hid ?_
            obtain ⟨P, hP⟩ : ∃ N, wtb.heap.size = N := ⟨_, rfl⟩
            have HP := Lib.hid hP
            clear hP
            go_wp2_with (refine wpList_bsn (op := ⟨some 65, _, _, _, _, _⟩) 1 rfl 95 (rhC (puR (liR r 0) (pu + (t - li)))) (bs_rh1 _ _ _ rfl (puR (liR r 0) (pu + (t - li))) rfl) P HP.out ?_; intro wpby k1 b1 s9; refine Hid.out ?_)
            refine Lib.hid ?_
            have HRR : Hid (RdR wpby (some ⟨P, 0, none⟩) 1 13 (fun _ => rhC (puR (liR r 0) (pu + (t - li))))) := Lib.hid (rdR_blk k1)
            clear k1 s9 K9
            replace HO := Lib.hid (HO.out.below b1)
            replace HL := Lib.hid (HL.out.below b1)
            replace HQ := Lib.hid (HQ.out.trans (b1.mono (by have := HQ.out.size; rw [HBL.out] at this; exact this)))
            clear b1
            have hml : maxLen = 9223372036854775807 := rfl
            have HML := Lib.hid hml
            clear hml
            have HZ : Hid (BL ≤ wpby.heap.size) := Lib.hid (by have := HQ.out.size; rw [HBL.out] at this; exact this)
            go_wp2_with (at_builtin; refine app_Y 27 95 13 56 _ Tryz.underlying27 infoA_rh rfl (by decide) rfl (.tmp 63) (.tmp 65) rfl BL _ SL.length (rhA SL) rfl HL.out HZ.out ⟨P, 0, none⟩ 1 1 (fun _ => rhC (puR (liR r 0) (pu + (t - li)))) rfl HRR.out (fun _ => ⟨rfl, rhC_ones _⟩) (by have := HSL.out; rw [HML.out]; omega) (by have := HSL.out; omega) ?_; intro vaby waby ho9 hg9 hk9; refine Hid.out ?_)
            refine Lib.hid ?_
            have HLn : Hid (OwnR waby BL 95 13 vaby (SL ++ [puR (liR r 0) (pu + (t - li))]).length (rhA (SL ++ [puR (liR r 0) (pu + (t - li))]))) := Lib.hid (by rw [List.length_append]; exact OwnR.congr ho9 (fun j hj => rh_snoc _ _ j hj))
            have HOn : Hid (OwnR waby BL 35 8 _ (SO ++ [xi]).length (idB (SO ++ [xi]))) := Lib.hid (HO.out.typ HL.out (by decide) hg9)
            have HQn : Hid (Below BL w waby) := Lib.hid (HQ.out.grown hg9 HZ.out (fun k e => hk9 k e))
            clear HO HL HQ ho9 hg9 hk9 HRR
            have HO := HOn
            have HL := HLn
            have HQ := HQn
            clear HOn HLn HQn
            have HOz : Hid (OwnR waby BL 35 8 _ (outR t (R.take (j + 1))).length (idB (outR t (R.take (j + 1))))) := Lib.hid (by rw [HST1.out, if_pos (by unfold endB; rw [HLI.out]; have := H1.out; simp; omega), ← HXI.out]; exact HO.out)
            have HLz : Hid (OwnR waby BL 95 13 _ (keepR t (R.take (j + 1))).length (rhA (keepR t (R.take (j + 1))))) := Lib.hid (by rw [HST2.out, if_pos (by rw [← HAG.out]; show pu + (t - li) < 60; rw [HPN.out]; exact H60.out), ← HAG.out]; exact HL.out)
            go_wp2_with fail
            go_roundw
            case rel => exact ⟨j + 1, by omega, by go_num, HOz, HLz, HQ⟩
            case measure => simp only [intOf]; omega
          · have H60 := Lib.hid h60
            have HOz : Hid (OwnR wtb BL 35 8 _ (outR t (R.take (j + 1))).length (idB (outR t (R.take (j + 1))))) := Lib.hid (by rw [HST1.out, if_pos (by unfold endB; rw [HLI.out]; have := H1.out; simp; omega), ← HXI.out]; exact HO.out)
            have HLz : Hid (OwnR wtb BL 95 13 _ (keepR t (R.take (j + 1))).length (rhA (keepR t (R.take (j + 1))))) := Lib.hid (by rw [HST2.out, if_neg (by rw [← HAG.out]; show ¬ pu + (t - li) < 60; rw [HPN.out]; have := H60.out; omega)]; exact HL.out)
            go_wp2_with fail
            go_roundw
            case rel => exact ⟨j + 1, by omega, by go_num, HOz, HLz, HQ⟩
            case measure => simp only [intOf]; omega
      · obtain rfl : li = 0 := by omega
        go_upto_region 18 with (fail)
        clear c10
        have c12 : w6.cell? ⟨N9, 12, none⟩ = some (.int .i64 pu) := (K9.out.cell 12).trans (by rw [← HPU.out]; rfl)
        go_wp2_with (refine wpList_st rfl 3 (.tmp 59) (.tmp 58) rfl N9 12 rfl (.int .i64 (pu + t)) #[.int .i64 (pu + t)] rfl rfl info_i1R (one_iR _) K9.out (Nat.le_of_ble_eq_true rfl) (C' := rhC (puR (r) (pu + t))) (rh_pu _ _) ?_; intro wtz q1; refine Hid.out ?_)
        refine Lib.hid ?_
        have HZ9 : Hid (N9 < w6.heap.size) := Lib.hid K9.out.lt
        have HOn : Hid (OwnR wtz BL 35 8 _ SO.length (idB SO)) := Lib.hid (HO.out.blkfar q1 K9.out (by decide))
        have HLn : Hid (OwnR wtz BL 95 13 _ SL.length (rhA SL)) := Lib.hid (HL.out.keepL q1 (fun y e => by have := HNE.out.2 y e; omega))
        have HQn := Lib.hid (HQ.out.trans (q1.2.1 BL le_9))
        have K9n : Hid (Blk 95 wtz N9 (rhC (puR (r) (pu + t)))) := Lib.hid q1.1
        clear HO HL HQ K9 HZ9 q1
        have HO := HOn
        have HL := HLn
        have HQ := HQn
        have K9 := K9n
        clear HOn HLn HQn K9n
        clear c12
        obtain ⟨pn, hpn⟩ : ∃ x, pu + t = x := ⟨_, rfl⟩
        have HPN := Lib.hid hpn
        have c12 : wtz.cell? ⟨N9, 12, none⟩ = some (.int .i64 pn) := (K9.out.cell 12).trans (by rw [← hpn]; rfl)
        clear hpn
        have HAG : Hid (puR (r) (pu + t) = agR t r) := Lib.hid (by rw [← HPU.out]; exact ag_zero HTT.out.1 HLI.out)
        by_cases h60 : pn < 60
        · have H60 := Lib.hid h60
          go_upto_region 20 with (fail)
          clear c12
          go_wp2_with (refine wpList_ld (op := ⟨some 64, _, _, _, _, _⟩) (by rfl) 95 (.tmp 9) rfl N9 0 rfl (rhC (puR (r) (pu + t))) _ K9.out.all Tryz.underlying95 rfl info_rh ?_; refine Hid.out ?_)
          refine Lib.hid ?_
          obtain ⟨P, hP⟩ : ∃ N, wtz.heap.size = N := ⟨_, rfl⟩
          have HP := Lib.hid hP
          clear hP
          go_wp2_with (refine wpList_bsn (op := ⟨some 65, _, _, _, _, _⟩) 1 rfl 95 (rhC (puR (r) (pu + t))) (bs_rh1 _ _ _ rfl (puR (r) (pu + t)) rfl) P HP.out ?_; intro wpzy k1 b1 s9; refine Hid.out ?_)
          refine Lib.hid ?_
          have HRR : Hid (RdR wpzy (some ⟨P, 0, none⟩) 1 13 (fun _ => rhC (puR (r) (pu + t)))) := Lib.hid (rdR_blk k1)
          clear k1 s9 K9
          replace HO := Lib.hid (HO.out.below b1)
          replace HL := Lib.hid (HL.out.below b1)
          replace HQ := Lib.hid (HQ.out.trans (b1.mono (by have := HQ.out.size; rw [HBL.out] at this; exact this)))
          clear b1
          have hml : maxLen = 9223372036854775807 := rfl
          have HML := Lib.hid hml
          clear hml
          have HZ : Hid (BL ≤ wpzy.heap.size) := Lib.hid (by have := HQ.out.size; rw [HBL.out] at this; exact this)
          go_wp2_with (at_builtin; refine app_Y 27 95 13 56 _ Tryz.underlying27 infoA_rh rfl (by decide) rfl (.tmp 63) (.tmp 65) rfl BL _ SL.length (rhA SL) rfl HL.out HZ.out ⟨P, 0, none⟩ 1 1 (fun _ => rhC (puR (r) (pu + t))) rfl HRR.out (fun _ => ⟨rfl, rhC_ones _⟩) (by have := HSL.out; rw [HML.out]; omega) (by have := HSL.out; omega) ?_; intro vazy wazy ho9 hg9 hk9; refine Hid.out ?_)
          refine Lib.hid ?_
          have HLn : Hid (OwnR wazy BL 95 13 vazy (SL ++ [puR (r) (pu + t)]).length (rhA (SL ++ [puR (r) (pu + t)]))) := Lib.hid (by rw [List.length_append]; exact OwnR.congr ho9 (fun j hj => rh_snoc _ _ j hj))
          have HOn : Hid (OwnR wazy BL 35 8 _ SO.length (idB SO)) := Lib.hid (HO.out.typ HL.out (by decide) hg9)
          have HQn : Hid (Below BL w wazy) := Lib.hid (HQ.out.grown hg9 HZ.out (fun k e => hk9 k e))
          clear HO HL HQ ho9 hg9 hk9 HRR
          have HO := HOn
          have HL := HLn
          have HQ := HQn
          clear HOn HLn HQn
          have HOz : Hid (OwnR wazy BL 35 8 _ (outR t (R.take (j + 1))).length (idB (outR t (R.take (j + 1))))) := Lib.hid (by rw [HST1.out, if_neg (by unfold endB; rw [HLI.out]; simp)]; exact HO.out)
          have HLz : Hid (OwnR wazy BL 95 13 _ (keepR t (R.take (j + 1))).length (rhA (keepR t (R.take (j + 1))))) := Lib.hid (by rw [HST2.out, if_pos (by rw [← HAG.out]; show pu + t < 60; rw [HPN.out]; exact H60.out), ← HAG.out]; exact HL.out)
          go_wp2_with fail
          go_roundw
          case rel => exact ⟨j + 1, by omega, by go_num, HOz, HLz, HQ⟩
          case measure => simp only [intOf]; omega
        · have H60 := Lib.hid h60
          have HOz : Hid (OwnR wtz BL 35 8 _ (outR t (R.take (j + 1))).length (idB (outR t (R.take (j + 1))))) := Lib.hid (by rw [HST1.out, if_neg (by unfold endB; rw [HLI.out]; simp)]; exact HO.out)
          have HLz : Hid (OwnR wtz BL 95 13 _ (keepR t (R.take (j + 1))).length (rhA (keepR t (R.take (j + 1))))) := Lib.hid (by rw [HST2.out, if_neg (by rw [← HAG.out]; show ¬ pu + t < 60; rw [HPN.out]; have := H60.out; omega)]; exact HL.out)
          go_wp2_with fail
          go_roundw
          case rel => exact ⟨j + 1, by omega, by go_num, HOz, HLz, HQ⟩
          case measure => simp only [intOf]; omega
    · obtain rfl : m = j := by omega
      have hT : R.take m = R := List.take_of_length_le (by rw [HM.out]; exact Nat.le_refl _)
      rw [hT] at HO HL
      clear hT
      obtain ⟨SO, hSO⟩ : ∃ S, outR t R = S := ⟨_, rfl⟩
      obtain ⟨SL, hSL⟩ : ∃ S, keepR t R = S := ⟨_, rfl⟩
      have HSO := Lib.hid (And.intro hSO hSL)
      rw [hSO] at HO
      rw [hSL] at HL
      clear hSO hSL
      obtain ⟨A8, c8, e8, _⟩ := HO.out.shape (recs_idI _) (by decide)
      subst e8
      obtain ⟨A9, c9, e9, _⟩ := HL.out.shape (recs_rh _) (by decide)
      subst e9
      have hlb : SL.length ≤ 600 := by rw [← HSO.out.2]; have h9 := keep_len (t := t) (R := R); rw [HM.out] at h9; omega
      obtain ⟨lL, hlL⟩ : ∃ l, SL.length = l := ⟨_, rfl⟩
      have HLL := Lib.hid hlL
      rw [hlL] at hlb HL
      try simp only [hlL]
      have hlI : (lL : Int) ≤ 9223372036854775807 := by omega
      clear hlL
      have KSw := Lib.hid (KS.out.below HQ.out (by rw [← HBL.out]; exact KS.out.lt))
      have HF1 : Hid (Fr1 w wr sr) := Lib.hid (Fr1.of_below sr (by rw [HBL.out]; exact HQ.out))
      have c0 : wr.cell? ⟨sr, 0, none⟩ = some (.slice A m c) := (KSw.out.cell 0).trans rfl
      by_cases hS : lL < m
      · have hSI : (lL : Int) < (m : Int) := by omega
        have HS := Lib.hid hS
        go_wp2_with (refine wpList_st rfl 4 (.tmp 78) (.const (.bool false)) rfl sr 1 rfl (.bool false) #[.bool false] rfl rfl info_blR (one_bR _) KSw.out (Nat.le_of_ble_eq_true rfl) (C' := #[.slice A m c, .bool false]) rfl ?_; intro wy q1; refine Hid.out ?_)
        refine Lib.hid ?_
        clear c0
        have HOy : Hid (OwnR wy BL 35 8 (.slice A8 SO.length c8) SO.length (idB SO)) := Lib.hid (HO.out.keep (fun x hx _ => q1.2.2 x (by omega)))
        clear HO
        have HO := HOy
        clear HOy
        have HLy : Hid (OwnR wy BL 95 13 (.slice A9 lL c9) lL (rhA SL)) := Lib.hid (HL.out.keep (fun x hx _ => q1.2.2 x (by omega)))
        clear HL
        have HL := HLy
        clear HLy
        have HFy : Hid (Fr1 w wy sr) := Lib.hid (HF1.out.trans (Fr1.stored q1))
        clear HF1
        have HF1 := HFy
        clear HFy
        have KSy := Lib.hid q1.1
        clear q1 KSw
        have KSw := KSy
        clear KSy
        go_wp2_with (refine wpList_st rfl 27 (.tmp 82) (.tmp 80) rfl sr 0 rfl (.slice A9 lL c9) #[.slice A9 lL c9] rfl rfl info_lr one_lr KSw.out (Nat.le_of_ble_eq_true rfl) (C' := #[.slice A9 lL c9, .bool false]) rfl ?_; intro wz q1; refine Hid.out ?_)
        refine Lib.hid ?_
        have HOy : Hid (OwnR wz BL 35 8 (.slice A8 SO.length c8) SO.length (idB SO)) := Lib.hid (HO.out.keep (fun x hx _ => q1.2.2 x (by omega)))
        clear HO
        have HO := HOy
        clear HOy
        have HLy : Hid (OwnR wz BL 95 13 (.slice A9 lL c9) lL (rhA SL)) := Lib.hid (HL.out.keep (fun x hx _ => q1.2.2 x (by omega)))
        clear HL
        have HL := HLy
        clear HLy
        have HFy : Hid (Fr1 w wz sr) := Lib.hid (HF1.out.trans (Fr1.stored q1))
        clear HF1
        have HF1 := HFy
        clear HFy
        have KSy := Lib.hid q1.1
        clear q1 KSw
        have KSw := KSy
        clear KSy
        go_wp2_with fail
        refine bodyPost_ret (v := .tuple #[.slice A8 SO.length c8, .int .i64 0]) (by simp [results, Tryz.f12, go_sem]) rfl ?_
        unfold DAgeP
        rw [HSO.out.1, HSO.out.2]
        refine ⟨A8, c8, rfl, by rw [HBL.out]; exact HO.out, HF1.out, le_B, fun x hx => ?_, ?_⟩
        · rw [← HSO.out.2] at hx
          obtain ⟨r, hr, rfl⟩ := keep_mem hx
          exact ⟨(HOK.out r hr).1.fr1 HF1.out KS0.out, (HOK.out r hr).2⟩
        · rw [if_pos (by rw [HLL.out, HM.out]; exact HS.out), HLL.out]
          exact ⟨_, KSw.out, HL.out.mono (by rw [← HBL.out]; exact Nat.le_of_lt (Nat.lt_of_le_of_lt le_B KS.out.lt))⟩
      · have hSI : ¬ (lL : Int) < (m : Int) := by omega
        have HS := Lib.hid hS
        go_upto_region 24 with (fail)
        clear c0
        go_wp2_with (refine wpList_st rfl 27 (.tmp 82) (.tmp 80) rfl sr 0 rfl (.slice A9 lL c9) #[.slice A9 lL c9] rfl rfl info_lr one_lr KSw.out (Nat.le_of_ble_eq_true rfl) (C' := #[.slice A9 lL c9, .bool rf]) rfl ?_; intro wz q1; refine Hid.out ?_)
        refine Lib.hid ?_
        have HOy : Hid (OwnR wz BL 35 8 (.slice A8 SO.length c8) SO.length (idB SO)) := Lib.hid (HO.out.keep (fun x hx _ => q1.2.2 x (by omega)))
        clear HO
        have HO := HOy
        clear HOy
        have HLy : Hid (OwnR wz BL 95 13 (.slice A9 lL c9) lL (rhA SL)) := Lib.hid (HL.out.keep (fun x hx _ => q1.2.2 x (by omega)))
        clear HL
        have HL := HLy
        clear HLy
        have HFy : Hid (Fr1 w wz sr) := Lib.hid (HF1.out.trans (Fr1.stored q1))
        clear HF1
        have HF1 := HFy
        clear HFy
        have KSy := Lib.hid q1.1
        clear q1 KSw
        have KSw := KSy
        clear KSy
        go_wp2_with fail
        refine bodyPost_ret (v := .tuple #[.slice A8 SO.length c8, .int .i64 0]) (by simp [results, Tryz.f12, go_sem]) rfl ?_
        unfold DAgeP
        rw [HSO.out.1, HSO.out.2]
        refine ⟨A8, c8, rfl, by rw [HBL.out]; exact HO.out, HF1.out, le_B, fun x hx => ?_, ?_⟩
        · rw [← HSO.out.2] at hx
          obtain ⟨r, hr, rfl⟩ := keep_mem hx
          exact ⟨(HOK.out r hr).1.fr1 HF1.out KS0.out, (HOK.out r hr).2⟩
        · rw [if_neg (by rw [HLL.out, HM.out]; have := HS.out; omega), HLL.out]
          exact ⟨_, KSw.out, HL.out.mono (by rw [← HBL.out]; exact Nat.le_of_lt (Nat.lt_of_le_of_lt le_B KS.out.lt))⟩
end Go.Proofs.YtkiaijmhoikdiaaGreat

/- What the laws of pdu have in common: a copy is made and written. Each theorem states its conditions. -/
namespace Go.Proofs.YtkiaijmhoikdiaaGreat
open Go.RowKit
set_option linter.unusedVariables false

end Go.Proofs.YtkiaijmhoikdiaaGreat

/- An LSP of which a byte is turned is no packet. Each theorem states its conditions. -/
namespace Go.Proofs.YtkiaijmhoikdiaaGreat
open Go.RowKit
set_option linter.unusedVariables false

theorem RdT.cut {w : World} {A : Option Addr} {m : Nat} {L : Nat → It} (h : RdT w A m L) (k : Nat) (hk : k ≤ m) : RdT w A k L := by
  rcases h with h | ⟨b, off, rfl, h⟩
  · exact .inl (by omega)
  · exact .inr ⟨b, off, rfl, h.1, fun j hj => h.2 j (by omega)⟩
end Go.Proofs.YtkiaijmhoikdiaaGreat

/- An LSP whose life alone is another one: its bytes. Each theorem states its conditions. -/
namespace Go.Proofs.YtkiaijmhoikdiaaGreat
open Go.RowKit
set_option linter.unusedVariables false

end Go.Proofs.YtkiaijmhoikdiaaGreat

/- What was read is written as just these bytes, if they are of the form. Each theorem states its conditions. -/
namespace Go.Proofs.YtkiaijmhoikdiaaGreat
open Go.RowKit
set_option linter.unusedVariables false

theorem sz_it {z : Nat → Int} {L : Nat → It} {m : Nat} (h : IsItZ z L m) : ∀ k, k ≤ m → sz L k = pos z k := by
  intro k hk
  induction k with
  | zero => rfl
  | succ k ih =>
    obtain ⟨g, cap, e⟩ := h k (by omega)
    simp only [sz, pos, ih (by omega), e, itZ]
    omega
theorem J_it {z : Nat → Int} {L : Nat → It} {m : Nat} (hz : ∀ j, 0 ≤ z j) (h : IsItZ z L m) : ∀ k, k ≤ m → ∀ j, j < pos z k → J L k j = z j := by
  intro k hk
  induction k with
  | zero => intro j hj; simp [pos] at hj
  | succ k ih =>
    intro j hj
    obtain ⟨g, cap, e⟩ := h k (by omega)
    have hs := sz_it h k (by omega)
    have h0 := hz (pos z k + 1)
    simp only [J, e, itZ, hs]
    unfold cat two
    by_cases h1 : j < pos z k
    · rw [if_pos (by omega), if_pos h1]; exact ih (by omega) j h1
    · by_cases h2 : j < pos z k + 2
      · rw [if_pos h2, if_neg h1]
        by_cases h3 : j = pos z k
        · subst h3; simp
        · rw [if_neg (by omega)]
          rw [show j = pos z k + 1 by omega]
          omega
      · rw [if_neg h2]
        show z (pos z k + 2 + (j - (pos z k + 2))) = z j
        rw [show pos z k + 2 + (j - (pos z k + 2)) = j by omega]
theorem good_it {z : Nat → Int} {L : Nat → It} {m : Nat} (hz : ∀ j, 0 ≤ z j ∧ z j ≤ 255) (h : IsItZ z L m) (hp : pos z m ≤ 1492) : ∀ k, k < m → ¬ bad L k := by
  intro k hk hb
  obtain ⟨g, cap, e⟩ := h k hk
  have hs := sz_it h (k + 1) (by omega)
  have h1 := pos_mono z (k + 1) m (by omega)
  have h2 := hz (pos z k + 1)
  unfold bad at hb
  rw [hs, e] at hb
  simp only [itZ] at hb
  omega
theorem num2 (y : Nat → Int) : numZ y 0 2 = y 0 * 256 + y 1 := by simp [numZ]
theorem num4 (y : Nat → Int) : numZ y 0 4 = ((y 0 * 256 + y 1) * 256 + y 2) * 256 + y 3 := by simp [numZ]
theorem put_num2 (y : Nat → Int) (N : Nat) (hy : ∀ j, 0 ≤ y j ∧ y j ≤ 255) (hN : (numZ y 0 2).toNat = N) : ∀ j, j < 2 → putZ N 2 j = y j := by
  intro j hj
  rw [num2] at hN
  have h0 := hy 0
  have h1 := hy 1
  rcases (by omega : j = 0 ∨ j = 1) with rfl | rfl
  · show ((N / 256 ^ 1 % 256 : Nat) : Int) = _
    rw [show (256 : Nat) ^ 1 = 256 from rfl]
    omega
  · show ((N / 256 ^ 0 % 256 : Nat) : Int) = _
    rw [show (256 : Nat) ^ 0 = 1 from rfl]
    omega
theorem put_num4 (y : Nat → Int) (N : Nat) (hy : ∀ j, 0 ≤ y j ∧ y j ≤ 255) (hN : (numZ y 0 4).toNat = N) : ∀ j, j < 4 → putZ N 4 j = y j := by
  intro j hj
  rw [num4] at hN
  have h0 := hy 0
  have h1 := hy 1
  have h2 := hy 2
  have h3 := hy 3
  rcases (by omega : j = 0 ∨ j = 1 ∨ j = 2 ∨ j = 3) with rfl | rfl | rfl | rfl
  · show ((N / 256 ^ 3 % 256 : Nat) : Int) = _
    rw [show (256 : Nat) ^ 3 = 16777216 from rfl]
    omega
  · show ((N / 256 ^ 2 % 256 : Nat) : Int) = _
    rw [show (256 : Nat) ^ 2 = 65536 from rfl]
    omega
  · show ((N / 256 ^ 1 % 256 : Nat) : Int) = _
    rw [show (256 : Nat) ^ 1 = 256 from rfl]
    omega
  · show ((N / 256 ^ 0 % 256 : Nat) : Int) = _
    rw [show (256 : Nat) ^ 0 = 1 from rfl]
    omega
theorem cover_l : ∀ q ∈ List.range 5, ∀ j ∈ List.range 33, 8 ≤ j → j < hdN q → ∃ i ∈ List.range 6, i < (flC q).length ∧ ∃ k ∈ List.range 8, k < fsz (fAt q i) ∧ j = accN q i + k := by decide +kernel
theorem cover (q : Nat) (hq : q < 5) (j : Nat) (h33 : j < 33) (h8 : 8 ≤ j) (hh : j < hdN q) : ∃ i, i < 6 ∧ i < (flC q).length ∧ ∃ k, k < 8 ∧ k < fsz (fAt q i) ∧ j = accN q i + k := by
  obtain ⟨i, h1, h2, k, h3, h4⟩ := cover_l q (List.mem_range.2 hq) j (List.mem_range.2 h33) h8 hh
  exact ⟨i, List.mem_range.1 h1, h2, k, List.mem_range.1 h3, h4⟩
theorem cover_11 : ∀ q, q < 5 → ∀ i, i < 6 → i < (flC q).length → fAt q i = 11 → q = 2 ∧ accN q i = 24 := by decide +kernel
theorem fsz_11 : fsz 11 = 2 := rfl
theorem fld_rd (q : Nat) (hq : q < 5) (z : Nat → Int) (hz : ∀ j, 0 ≤ z j ∧ z j ≤ 255) (A : Option Addr) (m c W : Nat) (i : Nat) (hi : i < (flC q).length) (h4 : fAt q i ≠ 4) (h11 : fAt q i ≠ 11) :
    ∀ k, k < fsz (fAt q i) → fZ (withT (rdP q z) A m c) W (fAt q i) k = z (accN q i + k) := by
  rcases (by omega : q = 0 ∨ q = 1 ∨ q = 2 ∨ q = 3 ∨ q = 4) with rfl | rfl | rfl | rfl | rfl
  · rcases (by have : (flC 0).length = 5 := rfl
               omega : i = 0 ∨ i = 1 ∨ i = 2 ∨ i = 3 ∨ i = 4) with rfl | rfl | rfl | rfl | rfl
    · intro k hk; obtain rfl : k = 0 := by have : fsz (fAt 0 0) = 1 := rfl
                                           omega
      rfl
    · intro k hk
      rcases (by have : fsz (fAt 0 1) = 6 := rfl
                 omega : k = 0 ∨ k = 1 ∨ k = 2 ∨ k = 3 ∨ k = 4 ∨ k = 5) with rfl | rfl | rfl | rfl | rfl | rfl <;> rfl
    · exact put_num2 (fun j => z (15 + j)) _ (fun j => hz _) rfl
    · exact absurd rfl h4
    · intro k hk; obtain rfl : k = 0 := by have : fsz (fAt 0 4) = 1 := rfl
                                           omega
      rfl
  · rcases (by have : (flC 1).length = 6 := rfl
               omega : i = 0 ∨ i = 1 ∨ i = 2 ∨ i = 3 ∨ i = 4 ∨ i = 5) with rfl | rfl | rfl | rfl | rfl | rfl
    · intro k hk; obtain rfl : k = 0 := by have : fsz (fAt 1 0) = 1 := rfl
                                           omega
      rfl
    · intro k hk
      rcases (by have : fsz (fAt 1 1) = 6 := rfl
                 omega : k = 0 ∨ k = 1 ∨ k = 2 ∨ k = 3 ∨ k = 4 ∨ k = 5) with rfl | rfl | rfl | rfl | rfl | rfl <;> rfl
    · exact put_num2 (fun j => z (15 + j)) _ (fun j => hz _) rfl
    · exact absurd rfl h4
    · intro k hk; obtain rfl : k = 0 := by have : fsz (fAt 1 4) = 1 := rfl
                                           omega
      rfl
    · intro k hk; rfl
  · rcases (by have : (flC 2).length = 6 := rfl
               omega : i = 0 ∨ i = 1 ∨ i = 2 ∨ i = 3 ∨ i = 4 ∨ i = 5) with rfl | rfl | rfl | rfl | rfl | rfl
    · exact absurd rfl h4
    · exact put_num2 (fun j => z (10 + j)) _ (fun j => hz _) rfl
    · intro k hk; rfl
    · exact put_num4 (fun j => z (20 + j)) _ (fun j => hz _) rfl
    · exact absurd rfl h11
    · intro k hk; obtain rfl : k = 0 := by have : fsz (fAt 2 5) = 1 := rfl
                                           omega
      rfl
  · rcases (by have : (flC 3).length = 4 := rfl
               omega : i = 0 ∨ i = 1 ∨ i = 2 ∨ i = 3) with rfl | rfl | rfl | rfl
    · exact absurd rfl h4
    · intro k hk; rfl
    · intro k hk; rfl
    · intro k hk; rfl
  · rcases (by have : (flC 4).length = 2 := rfl
               omega : i = 0 ∨ i = 1) with rfl | rfl
    · exact absurd rfl h4
    · intro k hk; rfl
theorem back_iff (q : Nat) (hq : q ≤ 4) (z : Nat → Int) (n m : Nat) (L : Nat → It) (A : Option Addr) (c : Nat) (hk : cls (z 4) = q) (h8 : 8 ≤ n) (hh : hdN q ≤ n) (hn : n ≤ 1492) (hz : ∀ j, 0 ≤ z j ∧ z j ≤ 255)
    (hI : IsItZ (tlZ q z) L m) (hp : pos (tlZ q z) m = n - hdN q) :
    (∀ j, j < n → (q = 2 → j ≠ 24 ∧ j ≠ 25) → pdZ (withT (rdP q z) A m c) q L j = z j) ↔ FormOk z n := by
  have h17 := hdN_bd q hq
  have hs : sz L m = n - hdN q := (sz_it hI m (Nat.le_refl _)).trans hp
  have hkd : (withT (rdP q z) A m c).kd = z 4 := rdP_kd q z
  have hmm : (withT (rdP q z) A m c).m = m := rfl
  have hW : hdN q + sz L m = n := by omega
  constructor
  · intro hE
    refine ⟨h8, by rw [hk]; exact hq, by rw [hk]; exact hh, ?_, ?_⟩
    · rw [eqB_iff hz (headZ_bd _ _ (hz 4) (by rw [hk]; omega))]
      intro j hj
      rw [hk, ← hE j (by omega) (fun _ => by omega), pd_head _ q L hq j hj, hkd]
    · rw [hk]
      intro i hi h4
      have ht := told_pd (withT (rdP q z) A m c) q L (by rw [hmm]; omega) i hi h4
      rw [hmm, hW] at ht
      rw [← ht]
      unfold toldN
      have hac := accN_hd q i hi
      have hf : fsz (fAt q i) = 2 := by rw [h4]; rfl
      have h11 : q = 2 → accN q i ≠ 24 ∧ accN q i ≠ 25 ∧ accN q i + 1 ≠ 24 := fun e => by
        subst e
        rcases (by have : (flC 2).length = 6 := rfl
                   omega : i = 0 ∨ i = 1 ∨ i = 2 ∨ i = 3 ∨ i = 4 ∨ i = 5) with rfl | rfl | rfl | rfl | rfl | rfl
        · exact ⟨by decide, by decide, by decide⟩
        all_goals exact absurd h4 (by decide)
      rw [dnumZ_congr (fun j => pdZ (withT (rdP q z) A m c) q L (accN q i + j)) (fun j => z (accN q i + j)) 2 (fun j hj => hE _ (by omega) (fun e => by have := h11 e; omega))]
  · rintro ⟨_, _, _, h1, h2⟩ j hj hc
    rw [hk] at h1 h2
    rw [eqB_iff hz (headZ_bd _ _ (hz 4) (by omega))] at h1
    by_cases hj8 : j < 8
    · rw [pd_head _ q L hq j hj8, hkd, ← h1 j hj8]
    · by_cases hjh : j < hdN q
      · obtain ⟨i, hi6, hi, k, hk8, hkf, rfl⟩ := cover q (by omega) j (by omega) (by omega) hjh
        by_cases h11 : fAt q i = 11
        · obtain ⟨e1, e2⟩ := cover_11 q (by omega) i hi6 hi h11
          have := hc e1
          rw [h11, fsz_11] at hkf
          omega
        · rw [pd_field _ q L i k hi hkf h11]
          by_cases h4 : fAt q i = 4
          · have ht := h2 i hi h4
            rw [h4] at hkf ⊢
            show putZ (hdN q + sz L m) 2 k = _
            rw [hW]
            exact put_num2 (fun j => z (accN q i + j)) n (fun j => hz _) ht k hkf
          · exact fld_rd q (by omega) z hz A m c _ i hi h4 h11 k hkf
      · obtain ⟨k, rfl⟩ : ∃ k, j = hdN q + k := ⟨j - hdN q, by omega⟩
        rw [pd_tail _ q L hq k]
        exact J_it (z := tlZ q z) (fun j => (hz _).1) hI m (Nat.le_refl _) k (by rw [hp]; omega)
theorem pdZ_chk (p : Pd) (L : Nat → It) (n : Nat) (hW : hdN 2 + sz L p.m = n) (z : Nat → Int) (hE : ∀ j, j < n → (j ≠ 24 ∧ j ≠ 25) → pdZ p 2 L j = z j) :
    pdZ p 2 L 24 = chkX (fun j => z (12 + j)) 12 (n - 12) ∧ pdZ p 2 L 25 = chkY (fun j => z (12 + j)) 12 (n - 12) := by
  have hw : ∀ j, j < n - 12 → j ≠ 12 → j ≠ 12 + 1 → (fun j => wZ p 2 L (12 + j)) j = (fun j => z (12 + j)) j := fun j hj h1 h2 => by
    show wZ p 2 L (12 + j) = z (12 + j)
    rw [← hE (12 + j) (by omega) (by omega), pdZ_far p 2 L (12 + j) (fun _ => by omega)]
  have e : pdZ p 2 L = sgZ (wZ p 2 L) n := by unfold pdZ; rw [if_pos rfl, hW]
  rw [e]
  unfold sgZ
  rw [← chkX_congr _ _ 12 (n - 12) hw, ← chkY_congr _ _ 12 (n - 12) hw]
  exact ⟨if_pos rfl, by rw [if_neg (by decide), if_pos rfl]⟩
theorem all_iff (p : Pd) (L : Nat → It) (n : Nat) (hn : 27 ≤ n) (hW : hdN 2 + sz L p.m = n) (z : Nat → Int) (hE : ∀ j, j < n → (j ≠ 24 ∧ j ≠ 25) → pdZ p 2 L j = z j) :
    (∀ j, j < n → pdZ p 2 L j = z j) ↔ rightB (fun j => z (12 + j)) 12 (n - 12) = true := by
  obtain ⟨e1, e2⟩ := pdZ_chk p L n hW z hE
  unfold rightB
  simp only [Bool.and_eq_true, beq_iff_eq]
  show _ ↔ z 24 = _ ∧ z 25 = _
  constructor
  · intro h
    exact ⟨by rw [← e1, h 24 (by omega)], by rw [← e2, h 25 (by omega)]⟩
  · rintro ⟨h1, h2⟩ j hj
    by_cases h24 : j = 24
    · subst h24; rw [e1, h1]
    · by_cases h25 : j = 25
      · subst h25; rw [e2, h2]
      · exact hE j hj ⟨h24, h25⟩
end Go.Proofs.YtkiaijmhoikdiaaGreat

/- Packets with other lists that are alike; Plain of every kind. Each theorem states its conditions. -/
namespace Go.Proofs.YtkiaijmhoikdiaaGreat
open Go.RowKit
set_option linter.unusedVariables false

theorem below_drewN (w : World) (k : Nat) : Below w.heap.size w (w.drewN k) := ⟨rfl, rfl, rfl, Nat.le_refl _, fun k hk => rfl⟩
end Go.Proofs.YtkiaijmhoikdiaaGreat

/- The document's number, NodeAt, IDAt. Each theorem states its conditions. -/
namespace Go.Proofs.YtkiaijmhoikdiaaGreat
open Go.RowKit
set_option linter.unusedVariables false

theorem wrI (e : Int) (h0 : -9223372036854775808 ≤ e) (h1 : e ≤ 9223372036854775807) : IntKind.i64.wrap e = e := by simp [IntKind.wrap, IntKind.signed, IntKind.bits]; omega
set_option maxHeartbeats 2000000 in
set_option maxRecDepth 100000 in
theorem number_two (b off n c : Nat) (z : Nat → Int) (w : World) (hr : Row8 w b off n z) (h2 : 2 ≤ n) :
    Calls Tryz.prog 70 #[.slice (some ⟨b, off, none⟩) n c] w fun e w' => e = .returned (.int .i64 (((numZ z 0 2).toNat : Nat) : Int)) ∧ Below w.heap.size w w' := by
  have c0 : w.cell? ⟨b, off, none⟩ = some (.int .u8 (z 0)) := hr.2.1 0 (by omega)
  have c1 : w.cell? ⟨b, off + 1, none⟩ = some (.int .u8 (z 1)) := hr.2.1 1 (by omega)
  have z0 := hr.2.2 0
  have z1 := hr.2.2 1
  have hb := numZ_lt z 0 2 (fun j => hr.2.2 _)
  have hM : (((numZ z 0 2).toNat : Nat) : Int) = z 0 * 256 + z 1 := by
    rw [Int.toNat_of_nonneg hb.1]
    simp only [numZ]
    simp
  rw [hM]
  have i1 : (1 : Int) < (n : Int) := by omega
  have i0 : (0 : Int) < (n : Int) := by omega
  have n0 : ¬ n = 0 := by omega
  clear hb hM hr
  go_enter Tryz.func70, Tryz.ntmps70
  go_wp2_with fail
  refine wp_region_held_drew (S := fun w' => w'.cell? ⟨b, off, none⟩ = some (.int .u8 (z 0)) ∧ w'.cell? ⟨b, off + 1, none⟩ = some (.int .u8 (z 1))) (by kernel_rfl) ⟨c0, c1⟩ (fun hS0 => ?_)
  refine tY (i := 0) (some 3) (v := .slice (some ⟨b, off, none⟩) n c) rfl rfl (fun w' hS => by obtain ⟨s0, s1⟩ := hS; go_simp) hS0 ?_
  simp only [Act.put, pA, pB, pC]
  refine tY (i := 1) (some 4) (v := .pointer (some ⟨b, off, none⟩)) rfl rfl (fun w' hS => by obtain ⟨s0, s1⟩ := hS; go_simp) hS0 ?_
  simp only [Act.put, pA, pB, pC]
  refine tY (i := 2) (some 5) (v := .int .u8 (z 0)) rfl rfl (fun w' hS => by obtain ⟨s0, s1⟩ := hS; go_simp) hS0 ?_
  simp only [Act.put, pA, pB, pC]
  refine tY (i := 3) (some 6) (v := .int .i64 (z 0)) rfl rfl (fun w' hS => by obtain ⟨s0, s1⟩ := hS; first | (go_simp; done) | (go_simp; exact wrI _ (by omega) (by omega))) hS0 ?_
  simp only [Act.put, pA, pB, pC]
  refine tY (i := 4) (some 7) (v := .int .i64 (z 0 * 256)) rfl rfl (fun w' hS => by obtain ⟨s0, s1⟩ := hS; first | (go_simp; done) | (go_simp; exact wrI _ (by omega) (by omega))) hS0 ?_
  simp only [Act.put, pA, pB, pC]
  refine tY (i := 5) (some 8) (v := .slice (some ⟨b, off, none⟩) n c) rfl rfl (fun w' hS => by obtain ⟨s0, s1⟩ := hS; go_simp) hS0 ?_
  simp only [Act.put, pA, pB, pC]
  refine tY (i := 6) (some 9) (v := .pointer (some ⟨b, off + 1, none⟩)) rfl rfl (fun w' hS => by obtain ⟨s0, s1⟩ := hS; go_simp) hS0 ?_
  simp only [Act.put, pA, pB, pC]
  refine tY (i := 7) (some 10) (v := .int .u8 (z 1)) rfl rfl (fun w' hS => by obtain ⟨s0, s1⟩ := hS; go_simp) hS0 ?_
  simp only [Act.put, pA, pB, pC]
  refine tY (i := 8) (some 11) (v := .int .i64 (z 1)) rfl rfl (fun w' hS => by obtain ⟨s0, s1⟩ := hS; first | (go_simp; done) | (go_simp; exact wrI _ (by omega) (by omega))) hS0 ?_
  simp only [Act.put, pA, pB, pC]
  refine tY (i := 9) (some 12) (v := .int .i64 (z 0 * 256 + z 1)) rfl rfl (fun w' hS => by obtain ⟨s0, s1⟩ := hS; first | (go_simp; done) | (go_simp; exact wrI _ (by omega) (by omega))) hS0 ?_
  simp only [Act.put, pA, pB, pC]
  refine tY (i := 10) (some 2) (v := .int .i64 (z 0 * 256 + z 1)) rfl rfl (fun w' hS => by obtain ⟨s0, s1⟩ := hS; go_simp) hS0 ?_
  simp only [Act.put, pA, pB, pC]
  refine wpAnyH_done (by kernel_rfl) ?_ _
  clear hS0
  go_wp2_with fail
  go_ret
  exact ⟨rfl, (bself w).drew⟩
def hdzA (z : Nat → Int) (i : Nat) : Nat → Int := fun j => if j < i then z j else 0
theorem hd_putA (z : Nat → Int) (i : Nat) (hi : i < 7) : (ndC (hdzA z i)).setIfInBounds i (.int .u8 (z i)) = ndC (hdzA z (i + 1)) := by
  rcases (by omega : i = 0 ∨ i = 1 ∨ i = 2 ∨ i = 3 ∨ i = 4 ∨ i = 5 ∨ i = 6) with rfl | rfl | rfl | rfl | rfl | rfl | rfl <;> rfl
theorem hd_at (z : Nat → Int) (i : Nat) (hi : i < 7) : (ndC (hdzA z i))[i]? = some (.int .u8 0) := by
  rcases (by omega : i = 0 ∨ i = 1 ∨ i = 2 ∨ i = 3 ∨ i = 4 ∨ i = 5 ∨ i = 6) with rfl | rfl | rfl | rfl | rfl | rfl | rfl <;> rfl
set_option maxHeartbeats 4000000 in
set_option maxRecDepth 100000 in
theorem nodeAt_any (b off n c : Nat) (z : Nat → Int) (w : World) (hr : Row8 w b off n z) (h7 : 7 ≤ n) (hn : n ≤ 1492) :
    Calls Tryz.prog 71 #[.slice (some ⟨b, off, none⟩) n c] w fun e w' => e = .returned (.agg (ndC z)) ∧ Below w.heap.size w w' := by
  obtain ⟨W2, hW2⟩ : ∃ W2, (w.alloc (.cells nd0 33)).alloc (.cells nd0 33) = W2 := ⟨_, rfl⟩
  have hB2 : Below w.heap.size w W2 := by rw [← hW2]; exact ((bself w).alloc (Nat.le_refl _) _).alloc (by simp) _
  have hX1 : W2.heap[w.heap.size + 1]? = some (.cells (ndC (hdzA z 0)) 33 (0, 0)) := by
    have := heap_alloc_new (w.alloc (.cells nd0 33)) (.cells nd0 33)
    rw [World.size_alloc, hW2] at this
    exact this
  have hX0 : W2.heap[w.heap.size]? = some (.cells nd0 33 (0, 0)) := by
    rw [← hW2]
    exact (Below.heap_alloc _ _ _ (by simp)).trans (heap_alloc_new w _)
  have HX1 := Lib.hid hX1
  have HX0 := Lib.hid hX0
  have HB2 := Lib.hid hB2
  have HR := Lib.hid hr
  have hbw := hr.1
  have HW2 := Lib.hid hW2
  clear hr hB2 hX1 hX0 hW2
  unfold nd0 at HW2
  go_enter Tryz.func71, Tryz.ntmps71
  go_wp2_with fail
  rw [HW2.out]
  go_loopw [5] (fun t wr => ∃ i : Nat, i ≤ 6 ∧ t = .int .i64 i ∧ Hid (wr.heap[w.heap.size + 1]? = some (.cells (ndC (hdzA z i)) 33 (0, 0))) ∧ Hid (wr.heap[w.heap.size]? = some (.cells nd0 33 (0, 0))) ∧ Hid (Below w.heap.size w wr))
    (fun t _ => 6 - (intOf t).toNat)
  case atStart => exact ⟨0, by omega, rfl, HX1, HX0, HB2⟩
  case round =>
    clear HX1 HX0 HB2
    obtain ⟨i, hi, rfl, HX, HY, HB⟩ := hrel
    have hRi := HR.out.below HB.out hbw
    by_cases hi6 : i < 6
    · have ci := hRi.2.1 i (by omega)
      have cx : wr.cell? ⟨w.heap.size + 1, i, none⟩ = some (.int .u8 0) := (cell_of_row wr _ i _ _ _ HX.out).trans (hd_at z i (by omega))
      have fx : wr.frozen? ⟨w.heap.size + 1, i, none⟩ = false := by have := HX.out; simp [World.frozen?, this]
      have HX' := Lib.hid (row_put (i := i) (v := .int .u8 (z i)) HX.out (hd_putA z i (by omega)))
      have HY' := Lib.hid ((Below.heap_setCell wr ⟨w.heap.size + 1, i, none⟩ (.int .u8 (z i)) w.heap.size (by show _ ≠ w.heap.size + 1; omega)).trans HY.out)
      have HB' := Lib.hid (HB.out.setCell (p := ⟨w.heap.size + 1, i, none⟩) (by show w.heap.size ≤ w.heap.size + 1; omega) (.int .u8 (z i)))
      have hin : (i : Int) < (n : Int) := by omega
      have hi6' : (i : Int) < 6 := by omega
      clear hRi
      go_wp2_with fail
      go_roundw
      case rel => first | exact ⟨i + 1, by omega, by go_num, HX', HY', HB'⟩ | exact ⟨_, _, ⟨i + 1, by omega, by go_num, HX', HY', HB'⟩, rfl, rfl⟩
      case measure => simp only [intOf]; omega
    · obtain rfl : i = 6 := by omega
      have c6 := hRi.2.1 6 (by omega)
      have d6 : wr.cell? ⟨w.heap.size + 1, 6, none⟩ = some (.int .u8 0) := (cell_of_row wr _ 6 _ _ _ HX.out).trans rfl
      have f6 : wr.frozen? ⟨w.heap.size + 1, 6, none⟩ = false := by have := HX.out; simp [World.frozen?, this]
      have HX' := Lib.hid (row_put (i := 6) (v := .int .u8 (z 6)) HX.out (hd_putA z 6 (by omega)))
      have HY' := Lib.hid ((Below.heap_setCell wr ⟨w.heap.size + 1, 6, none⟩ (.int .u8 (z 6)) w.heap.size (by show _ ≠ w.heap.size + 1; omega)).trans HY.out)
      have HB' := Lib.hid (HB.out.setCell (p := ⟨w.heap.size + 1, 6, none⟩) (by show w.heap.size ≤ w.heap.size + 1; omega) (.int .u8 (z 6)))
      have i6 : (6 : Int) < (n : Int) := by omega
      clear hRi
      go_wp2_with (first
        | (refine wpList_load_mid rfl 33 (.tmp 3) rfl (w.heap.size + 1) 0 rfl _ _ (nd_range HX'.out) Tryz.underlying33 rfl info_nd ?_)
        | (refine store_blk rfl (.tmp 2) (.tmp 20) (cells := ndC z) rfl rfl rfl HY'.out info_nd rfl (nd_all z) ?_; intro w5 hg5 hb5 ho5; refine Hid.out ?_))
      refine Lib.hid ?_
      have HQ := Lib.hid hg5
      have HB5 := Lib.hid (HB'.out.trans (hb5 w.heap.size (Nat.le_refl _)))
      clear hg5 hb5 ho5
      go_wp2_with fail
      refine bodyPost_ret (results_nd rfl _ w5 w.heap.size z rfl HQ.out) rfl ⟨rfl, HB5.out⟩
set_option maxHeartbeats 2000000 in
set_option maxRecDepth 100000 in
theorem idAt_any (b off n c : Nat) (z : Nat → Int) (w : World) (hr : Row8 w b off n z) (h8 : 8 ≤ n) (hn : n ≤ 1492) :
    Calls Tryz.prog 72 #[.slice (some ⟨b, off, none⟩) n c] w fun e w' => e = .returned (.agg (idC z)) ∧ Below w.heap.size w w' := by
  have hbw := hr.1
  have HB1 := Lib.hid ((bself w).alloc (Nat.le_refl _) (.cells id0 35))
  have HX1 := Lib.hid (heap_alloc_new w (.cells id0 35))
  have hs1 : (w.alloc (.cells id0 35)).heap.size = w.heap.size + 1 := by simp
  have HR1 := Lib.hid (hr.below HB1.out hbw)
  obtain ⟨W1, hW1⟩ : ∃ W1, w.alloc (.cells id0 35) = W1 := ⟨_, rfl⟩
  rw [hW1] at HB1 HX1 hs1 HR1
  have HW1 := Lib.hid hW1
  have i7 : (7 : Int) < (n : Int) := by omega
  clear hr hW1
  unfold id0 at HW1
  go_enter Tryz.func72, Tryz.ntmps72
  go_wp2_with fail
  rw [HW1.out]
  refine wp_region_held_drew (S := fun w' => w'.cell? ⟨b, off + 7, none⟩ = some (.int .u8 (z 7))) (by kernel_rfl) (HR1.out.2.1 7 (by omega)) (fun hS0 => ?_)
  refine tY (i := 0) (some 3) (v := .slice (some ⟨b, off, none⟩) n c) rfl rfl (fun w' hS => by go_simp) hS0 ?_
  simp only [Act.put, pA, pB, pC]
  refine tY (i := 2) (some 5) (v := .slice (some ⟨b, off, none⟩) n c) rfl rfl (fun w' hS => by go_simp) hS0 ?_
  simp only [Act.put, pA, pB, pC]
  refine tY (i := 3) (some 6) (v := .pointer (some ⟨b, off + 7, none⟩)) rfl rfl (fun w' hS => by go_simp) hS0 ?_
  simp only [Act.put, pA, pB, pC]
  refine tY (i := 4) (some 7) (v := .int .u8 (z 7)) rfl rfl (fun w' hS => by go_simp) hS0 ?_
  simp only [Act.put, pA, pB, pC]
  refine takeC (i := 1) (some 4) 71 #[.slice (some ⟨b, off, none⟩) n c] (.agg (ndC z)) (R := fun w' => Below W1.heap.size W1 w') rfl rfl (by kernel_rfl) (by rfl) (by go_simp) ((nodeAt_any b off n c z W1.drew HR1.out (by omega) hn).mono fun e w' h => ⟨h.1, (bself W1).drew.trans h.2⟩) (fun w' h => by rw [h.cell (show b < W1.heap.size by omega)]; exact HR1.out.2.1 7 (by omega)) (fun w2 h2 hS0 => ?_)
  simp only [Act.put, pA, pB, pC]
  refine tY (i := 5) (some 8) (v := .agg (idC z)) rfl rfl (fun w' hS => build_id _ _ _ _ rfl z rfl rfl w') hS0 ?_
  simp only [Act.put, pA, pB, pC]
  have hX2 := (h2.block w.heap.size (by omega)).trans HX1.out
  refine takeS (i := 6) (.tmp 2) (.tmp 8) rfl rfl rfl (by kernel_rfl) (by rfl) rfl rfl hX2 (hi_id z) rfl (id_all z) (fun w' _ hb _ => by rw [(hb w.heap.size (Nat.le_refl _)).cell hbw]; exact hS0) (fun w3 hg3 hb3 _ hS3 => ?_)
  simp only [Act.put]
  refine wpAnyH_done (by kernel_rfl) ?_ _
  have HQ := Lib.hid hg3
  have HB3 := Lib.hid (HB1.out.trans ((h2.mono (by omega)).trans (hb3 w.heap.size (Nat.le_refl _))))
  clear hg3 hb3 h2 hX2 hS3 hS0
  go_wp2_with fail
  refine bodyPost_ret (results_id rfl _ w3 w.heap.size z rfl HQ.out) rfl ⟨rfl, HB3.out⟩
end Go.Proofs.YtkiaijmhoikdiaaGreat

/- SameBytes answers false where bytes differ. Each theorem states its conditions. -/
namespace Go.Proofs.YtkiaijmhoikdiaaGreat
open Go.RowKit
set_option linter.unusedVariables false

theorem same_no (A B : Option Addr) (n n' c d : Nat) (z z' : Nat → Int) (w : World) (ha : Rd w A n z) (hb : Rd w B n' z') (he : ¬ (n = n' ∧ ∀ j, j < n → z j = z' j)) (hm : n ≤ 9223372036854775807) (hm' : n' ≤ 9223372036854775807) :
    Calls Tryz.prog 37 #[.slice A n c, .slice B n' d] w fun e w' => e = .returned (.bool false) ∧ ∃ m, w' = w.drewN m := by
  by_cases hn : n = n'
  · subst hn
    have hx : ∃ k, k < n ∧ z k ≠ z' k ∧ ∀ j, j < k → z j = z' j := by
      have hne : ∃ k, k < n ∧ z k ≠ z' k := by
        apply Classical.byContradiction
        intro hno
        exact he ⟨rfl, fun j hj => Classical.byContradiction fun h => hno ⟨j, hj, h⟩⟩
      obtain ⟨k0, h1, h2⟩ := hne
      have key : ∀ t, t ≤ n → (∃ k, k < t ∧ z k ≠ z' k ∧ ∀ j, j < k → z j = z' j) ∨ ∀ j, j < t → z j = z' j := by
        intro t
        induction t with
        | zero => intro _; exact .inr (fun j hj => by omega)
        | succ t ih =>
          intro ht
          rcases ih (by omega) with ⟨k, h1, h2, h3⟩ | h3
          · exact .inl ⟨k, by omega, h2, h3⟩
          · by_cases h4 : z t = z' t
            · exact .inr (fun j hj => by
                by_cases e : j = t
                · subst e; exact h4
                · exact h3 j (by omega))
            · exact .inl ⟨t, by omega, h4, h3⟩
      rcases key n (Nat.le_refl _) with ⟨k, h3, h4, h5⟩ | h3
      · exact ⟨k, h3, h4, h5⟩
      · exact absurd (h3 k0 h1) h2
    obtain ⟨k0, hk0, hne, hpre⟩ := hx
    obtain ⟨b, off, rfl, hr⟩ := ha.row (by omega)
    obtain ⟨b', off', rfl, hr'⟩ := hb.row (by omega)
    have hc := hr.2.1
    have hc' := hr'.2.1
    have HE := Lib.hid hpre
    have HNE := Lib.hid hne
    clear ha hb hr hr' he hpre hne
    go_enter Tryz.func37, Tryz.ntmps37
    go_wp2
    go_loopw [13] (fun t wr => ∃ k m : Nat, k ≤ k0 ∧ t = .int .i64 k ∧ wr = w.drewN m) (fun t _ => n - (intOf t).toNat)
    case atStart => exact ⟨0, 0, by omega, rfl, rfl⟩
    case round =>
      obtain ⟨k, m, hk, rfl, rfl⟩ := hrel
      have hlt : k < n := by omega
      have g1 := hc k hlt
      have g2 := hc' k hlt
      by_cases e : k = k0
      · subst e
        have hq : (z k != z' k) = true := by simpa using HNE.out
        generalize z k = v at *
        generalize z' k = v' at *
        clear hc hc'
        go_wp2
        go_region
        go_wp2
        go_ret
        exact ⟨rfl, m + 1, rfl⟩
      · rw [← HE.out k (by omega)] at g2
        generalize z k = v at *
        clear hc hc'
        go_wp2
        go_region
        go_wp2
        go_roundw
        case rel => exact ⟨k + 1, m + 1, by omega, by go_num, rfl⟩
        case measure => simp [intOf]; omega
  · have hnb : ((n : Int) != (n' : Int)) = true := by simp; omega
    clear ha hb he
    go_enter Tryz.func37, Tryz.ntmps37
    go_wp2
    go_ret
    exact ⟨rfl, 0, rfl⟩
end Go.Proofs.YtkiaijmhoikdiaaGreat

/- The document's DocSplit reads a list out of bytes. Each theorem states its conditions. -/
namespace Go.Proofs.YtkiaijmhoikdiaaGreat
open Go.RowKit
set_option linter.unusedVariables false

set_option maxHeartbeats 4000000 in
set_option maxRecDepth 100000 in
theorem docsplit_any (A : Option Addr) (n c m : Nat) (z : Nat → Int) (w : World) (h : Rd w A n z) (hA : A = none → n = 0 ∧ c = 0) (hn : n ≤ 1492) (hc : n ≤ c) (hcm : c ≤ 9223372036854775807) (hm : Ends z n m) :
    Calls Tryz.prog 69 #[.slice A n c] w (SplitPost w z n m) := by
  obtain ⟨i0, hi, hz0, hz1, hz2⟩ := info_parts info_tlv
  have hz := h.2
  have HM := Lib.hid hm
  have HR := Lib.hid h
  clear h hm
  go_enter Tryz.func69, Tryz.ntmps69
  go_wp2_with fail
  go_loopw [4, 5] (fun v p wr => ∃ (k : Nat) (L : Nat → It), pos z k ≤ n ∧ k ≤ m ∧ p = .int .i64 (pos z k : Nat) ∧ OwnT wr w.heap.size v k L ∧ Hid (IsItZ z L k) ∧ Below w.heap.size w wr)
    (fun _ p _ => n - (intOf p).toNat)
  case atStart => exact ⟨0, fun _ => ⟨0, none, 0, 0, z⟩, by simp [pos], by omega, rfl, OwnT.nil _ _ _, Lib.hid (fun j hj => by omega), bself w⟩
  case round =>
    obtain ⟨k, L, hk, hkm, rfl, hown, hL, hb⟩ := hrel
    by_cases hkm1 : k < m
    · have hlt : pos z k < n := by
        have := HM.out.1; have := pos_mono z k m (by omega); omega
      obtain ⟨b, off, rfl, hr⟩ := HR.out.row (by omega)
      have hn1 : pos z (k + 1) ≤ n := by
        have := HM.out.1; have := pos_mono z (k + 1) m (by omega); omega
      have hp := pos_lt z k
      have c0 : wr.cell? ⟨b, off + pos z k, none⟩ = some (.int .u8 (z (pos z k))) := (hb.cell (p := ⟨b, off + pos z k, none⟩) hr.1).trans (hr.2.1 _ hlt)
      have c1 : wr.cell? ⟨b, off + (pos z k + 1), none⟩ = some (.int .u8 (z (pos z k + 1))) := (hb.cell (p := ⟨b, off + (pos z k + 1), none⟩) hr.1).trans (hr.2.1 (pos z k + 1) (by omega))
      have z0 := hz (pos z k)
      have z1 := hz (pos z k + 1)
      obtain ⟨v1, hv1⟩ := Int.eq_ofNat_of_zero_le z1.1
      have hv1n : (z (pos z k + 1)).toNat = v1 := by omega
      have hpk : pos z (k + 1) = pos z k + 2 + v1 := by simp only [pos]; omega
      have H := Lib.hid (fun (W : World) (hW : Row8 W b off n z) (ad : Addr) (cc : Nat) (had : v1 = 0 ∨ ad = ⟨b, off + (pos z k + 2), none⟩) => twin_any (some ad) v1 cc (fun j => z (pos z k + 2 + j)) W ⟨by
        rcases Nat.eq_zero_or_pos v1 with h0 | h0
        · exact .inl h0
        · rcases had with had | rfl
          · omega
          · exact .inr ⟨b, off + (pos z k + 2), rfl, hW.1, fun j hj => by
              have := hW.2.1 (pos z k + 2 + j) (by omega)
              rw [← this]; congr 2; omega, fun j => hz _⟩, fun j => hz _⟩ (fun e => by cases e) (by omega))
      have hrr := Lib.hid (hr.below hb hr.1)
      have hlb : b < wr.heap.size := by have := hr.1; have := hb.size; omega
      have hbs := hb.size
      have ho := Lib.hid hown
      have hE := Lib.hid hv1
      have hEn := Lib.hid hv1n
      rw [hv1] at c1 z1
      have HN1 := Lib.hid hn1
      rw [hpk] at hn1
      have hk31 : (k + 1) * 32 ≤ 140737488355328 := by have := pos_mono z 0 k (by omega); simp only [pos] at this; omega
      have hk63 : k + 1 ≤ maxLen := by unfold maxLen; omega
      have hbase : ∀ g1 cap1 (W : World), wr.heap.size ≤ W.heap.size → w.heap.size ≤ (W.alloc (.cells #[.int .u8 (z (pos z k)), .slice (some ⟨g1, 0, none⟩) v1 cap1] 114)).heap.size := fun g1 cap1 W h => by simp; omega
      have HB := Lib.hid hbase
      have hr1 := hr.1
      have hfar : u4.ownBlock ≠ some b := fun e => by have := (hown.1.lt b e).1; omega
      have HPK := Lib.hid hpk
      clear hv1 hv1n hpk hp hr hk hown hbase
      generalize hz0' : z (pos z k) = v0 at *
      have HZ0 := Lib.hid hz0'
      clear hz0'
      generalize hopos : pos z k = o at c0 c1 hlt hn1 H ⊢
      have HO := Lib.hid hopos
      clear hopos
      have q1 : (o : Int) < (n : Int) := by omega
      have q2 : ¬ (o : Int) = (n : Int) - 1 := by omega
      have q3 : ¬ ((n : Int) - (o : Int) - 2 < (v1 : Int)) := by omega
      have q4 : (0 : Int) ≤ (o : Int) + 1 := by omega
      have q5 : (o : Int) + 1 < (n : Int) := by omega
      have q6 : (o : Int) + 2 ≤ (o : Int) + 2 + (v1 : Int) := by omega
      have q7 : (o : Int) + 2 + (v1 : Int) ≤ (c : Int) := by omega
      have q71 : (0 : Int) ≤ (o : Int) + 2 + (v1 : Int) := by omega
      have q72 : (0 : Int) ≤ (o : Int) + 2 := by omega
      have q73 : (o : Int) + 2 ≤ (c : Int) := by omega
      have hlen2 : ((o : Int) + 2 + (v1 : Int)).toNat = o + 2 + v1 := by omega
      have hw1 : IntKind.i64.wrap ((o : Int) + 2) = (o : Int) + 2 := by rw [IntKind.wrap_i64]; omega
      have hw2 : IntKind.i64.wrap ((o : Int) + 2 + (v1 : Int)) = (o : Int) + 2 + (v1 : Int) := by rw [IntKind.wrap_i64]; omega
      have hlen3 : ((o : Int) + 2).toNat = o + 2 := by omega
      by_cases hcap : c = o + 2
      · have HV0 := Lib.hid (show v1 = 0 by omega)
        have hcap' : (c = o + 2) = True := eq_true hcap
        clear hcap
        go_wp2_with fail
        go_region_held3 (fun w' => w'.cell? ⟨b, off + o, none⟩ = some (.int .u8 v0))
          (first | go_keep | (exact (hb1.cell (by exact hlb)).trans c0) | (rw [hgrow.cell_far _ (by have := hbx.size; simp; omega) (Ne.symm hfar)]; assumption))
          (first | (go_at_call 15; refine (H.out _ (by exact hrr.out) _ _ (.inl HV0.out)).mono ?_; (rintro e w1 ⟨g1, cap1, rfl, hg1, ho1, hb1⟩; have hbx : Below wr.heap.size wr w1 := (Below.refl _ wr).drew.trans hb1; have hbz := HB.out g1 cap1 w1 hbx.size)) | (refine step_append_lies _ (by rfl) _ _ _ (by rfl) w.heap.size 114 i0 _ 2 32 Tryz.underlying37 hi hz0 hz1 hz2 rfl (by omega) u4 k (cellsT L k) (by rfl) ((ownsRow_below ho.out.1 hbx).alloc _) ⟨w1.heap.size, 0, none⟩ 1 1 [.int .u8 v0, .slice (some ⟨g1, 0, none⟩) v1 cap1] (by rfl) (by rfl) (World.news_of_block (heap_alloc_new w1 _)) (two_one _ _ _ _) (by omega) hk63 hk31 hbz (w1.heap.size + 1) (by simp) ?_; intro gg cap w2 hown2 hgrow hat hlt2))
        have hz0' := HZ0.out
        have hit : OwnV (w1.alloc (.cells #[.int .u8 v0, .slice (some ⟨g1, 0, none⟩) v1 cap1] 114)) w.heap.size ⟨v0, some ⟨g1, 0, none⟩, v1, cap1, fun j => z (o + 2 + j)⟩ := ⟨z0, by show v1 ≤ _; omega, g1, rfl, by have := hb.size; simp at hg1; omega, ho1.alloc _⟩
        have R := Lib.hid (OwnT.push ((ho.out.below hbx).below ((bself w1).alloc (Nat.le_refl _) (.cells #[.int .u8 v0, .slice (some ⟨g1, 0, none⟩) v1 cap1] 114))) hit hown2 hgrow)
        have hI : IsItZ z (updT L k ⟨v0, some ⟨g1, 0, none⟩, v1, cap1, fun j => z (o + 2 + j)⟩) (k + 1) := by
          intro j hj
          by_cases e : j = k
          · subst e; rw [updT_same]; exact ⟨g1, cap1, by unfold itZ; rw [hz0', hEn.out, HO.out]⟩
          · rw [updT_other _ _ _ _ e]; exact hL.out j (by omega)
        have hB2 : Below w.heap.size w w2 := ((hb.trans (hbx.mono hbs)).alloc (by have := hbx.size; omega) _).grown hgrow (by have := hbx.size; simp; omega) (fun x e => (ho.out.1.lt x e).1)
        have HI := Lib.hid hI
        have HB2 := Lib.hid hB2
        clear hI hB2 hit hown2 hgrow ho1 hb1 hbx hbz hz0' hat hlt2 c0 c1 hg1
        go_wp2
        go_roundw
        case rel => exact ⟨k + 1, _, HN1.out, hkm1, by rw [HPK.out, HO.out]; go_num, R.out, HI, HB2.out⟩
        case measure =>
          have hm1 := HPK.out
          have hm2 := HN1.out
          have hm3 := HO.out
          simp only [intOf]
          omega
      · have q99 : ¬ (c : Int) = (o : Int) + 2 := by omega
        go_wp2_with fail
        go_region_held3 (fun w' => w'.cell? ⟨b, off + o, none⟩ = some (.int .u8 v0))
          (first | go_keep | (exact (hb1.cell (by exact hlb)).trans c0) | (rw [hgrow.cell_far _ (by have := hbx.size; simp; omega) (Ne.symm hfar)]; assumption))
          (first | (go_at_call 15; refine (H.out _ (by exact hrr.out) _ _ (.inr rfl)).mono ?_; (rintro e w1 ⟨g1, cap1, rfl, hg1, ho1, hb1⟩; have hbx : Below wr.heap.size wr w1 := (Below.refl _ wr).drew.trans hb1; have hbz := HB.out g1 cap1 w1 hbx.size)) | (refine step_append_lies _ (by rfl) _ _ _ (by rfl) w.heap.size 114 i0 _ 2 32 Tryz.underlying37 hi hz0 hz1 hz2 rfl (by omega) u4 k (cellsT L k) (by rfl) ((ownsRow_below ho.out.1 hbx).alloc _) ⟨w1.heap.size, 0, none⟩ 1 1 [.int .u8 v0, .slice (some ⟨g1, 0, none⟩) v1 cap1] (by rfl) (by rfl) (World.news_of_block (heap_alloc_new w1 _)) (two_one _ _ _ _) (by omega) hk63 hk31 hbz (w1.heap.size + 1) (by simp) ?_; intro gg cap w2 hown2 hgrow hat hlt2))
        have hz0' := HZ0.out
        have hit : OwnV (w1.alloc (.cells #[.int .u8 v0, .slice (some ⟨g1, 0, none⟩) v1 cap1] 114)) w.heap.size ⟨v0, some ⟨g1, 0, none⟩, v1, cap1, fun j => z (o + 2 + j)⟩ := ⟨z0, by show v1 ≤ _; omega, g1, rfl, by have := hb.size; simp at hg1; omega, ho1.alloc _⟩
        have R := Lib.hid (OwnT.push ((ho.out.below hbx).below ((bself w1).alloc (Nat.le_refl _) (.cells #[.int .u8 v0, .slice (some ⟨g1, 0, none⟩) v1 cap1] 114))) hit hown2 hgrow)
        have hI : IsItZ z (updT L k ⟨v0, some ⟨g1, 0, none⟩, v1, cap1, fun j => z (o + 2 + j)⟩) (k + 1) := by
          intro j hj
          by_cases e : j = k
          · subst e; rw [updT_same]; exact ⟨g1, cap1, by unfold itZ; rw [hz0', hEn.out, HO.out]⟩
          · rw [updT_other _ _ _ _ e]; exact hL.out j (by omega)
        have hB2 : Below w.heap.size w w2 := ((hb.trans (hbx.mono hbs)).alloc (by have := hbx.size; omega) _).grown hgrow (by have := hbx.size; simp; omega) (fun x e => (ho.out.1.lt x e).1)
        have HI := Lib.hid hI
        have HB2 := Lib.hid hB2
        clear hI hB2 hit hown2 hgrow ho1 hb1 hbx hbz hz0' hat hlt2 c0 c1 hg1
        go_wp2
        go_roundw
        case rel => exact ⟨k + 1, _, HN1.out, hkm1, by rw [HPK.out, HO.out]; go_num, R.out, HI, HB2.out⟩
        case measure =>
          have hm1 := HPK.out
          have hm2 := HN1.out
          have hm3 := HO.out
          simp only [intOf]
          omega
    · have hkm2 : k = m := by omega
      subst hkm2
      have ho := Lib.hid hown
      by_cases hend : pos z k = n
      · have he := Lib.hid hend
        clear hown hk hkm1
        rw [hend]
        clear hend
        go_wp2
        go_ret2
        exact .inl ⟨he.out, _, L, rfl, ho.out, hL.out, hb⟩
      · have HE := Lib.hid hend
        have hM := HM.out.2
        by_cases h2 : n < pos z k + 2
        · have q1 : pos z k = n - 1 := by omega
          have q2 : 0 < n := by omega
          rw [q1]
          have q3 : ((n - 1 : Nat) : Int) = (n : Int) - 1 := by omega
          rw [q3]
          have q4 : (n : Int) - 1 < (n : Int) := by omega
          clear hown hk hkm1 hM h2 q1 q3 hend
          go_wp2
          go_ret2
          exact .inr ⟨HE.out, rfl, hb⟩
        · obtain ⟨b, off, rfl, hr⟩ := HR.out.row (by omega)
          have c1 : wr.cell? ⟨b, off + (pos z k + 1), none⟩ = some (.int .u8 (z (pos z k + 1))) := (hb.cell (p := ⟨b, off + (pos z k + 1), none⟩) hr.1).trans (hr.2.1 (pos z k + 1) (by omega))
          have z1 := hz (pos z k + 1)
          obtain ⟨v1, hv1⟩ := Int.eq_ofNat_of_zero_le z1.1
          have hpk : pos z (k + 1) = pos z k + 2 + v1 := by simp only [pos]; omega
          rw [hv1] at c1 z1
          generalize hopos : pos z k = o at c1 hpk hk hend h2 hM ⊢
          have q1 : (o : Int) < (n : Int) := by omega
          have q2 : ¬ (o : Int) = (n : Int) - 1 := by omega
          have q3 : ((n : Int) - (o : Int) - 2 < (v1 : Int)) := by omega
          have q4 : (0 : Int) ≤ (o : Int) + 1 := by omega
          have q5 : (o : Int) + 1 < (n : Int) := by omega
          clear hown hk hkm1 hM h2 hr hv1 hpk hopos hend
          go_wp2
          go_ret2
          exact .inr ⟨HE.out, rfl, hb⟩
end Go.Proofs.YtkiaijmhoikdiaaGreat

/- What the document's DocRead is walked with. Each theorem states its conditions. -/
namespace Go.Proofs.YtkiaijmhoikdiaaGreat
open Go.RowKit
set_option linter.unusedVariables false

def DrS (w : World) (P X b off n : Nat) (z : Nat → Int) (B : Nat) (A : Option Addr) (m cL : Nat) (L : Nat → It) (x : Pd) (w' : World) : Prop :=
  PdT 39 w' P x ∧ PdT 39 w' X pd0 ∧ Row8 w' b off n z ∧ Below w.heap.size w w' ∧ OwnT w' B (.slice A m cL) m L ∧ (X < P ∧ w.heap.size ≤ X ∧ b < w.heap.size ∧ P < B ∧ B ≤ w'.heap.size)
theorem row_keep {w w' : World} {b off n : Nat} {z : Nat → Int} (h : Row8 w b off n z) (hb : w'.heap[b]? = w.heap[b]?) : Row8 w' b off n z := by
  have hlt : b < w'.heap.size := by
    have := (Array.getElem?_eq_some_iff (xs := w'.heap) (i := b) (b := w.heap[b]'h.1)).1 (by rw [hb]; exact Array.getElem?_eq_getElem h.1)
    exact this.1
  refine ⟨hlt, fun j hj => ?_, h.2.2⟩
  rw [← h.2.1 j hj]
  simp only [World.cell?, hb]
section
variable {w : World} {P X b off n : Nat} {z : Nat → Int} {B : Nat} {A : Option Addr} {m cL : Nat} {L : Nat → It} {x y : Pd} {w' w'' : World}
theorem DrS.below (h : DrS w P X b off n z B A m cL L x w') (hb : Below w'.heap.size w' w'') : DrS w P X b off n z B A m cL L x w'' := by
  obtain ⟨h1, h2, h3, h4, h5, h6, h7, h8, h9, h10⟩ := h
  exact ⟨h1.below hb h1.lt, h2.below hb h2.lt, row_keep h3 (hb.block _ h3.1), h4.trans (hb.mono h4.size), h5.below hb, h6, h7, h8, h9, Nat.le_trans h10 hb.size⟩
theorem DrS.put (h : DrS w P X b off n z B A m cL L x w') (q : Stored w' w'' P (pdC y) 39) : DrS w P X b off n z B A m cL L y w'' := by
  obtain ⟨h1, h2, h3, h4, h5, h6, h7, h8, h9, h10⟩ := h
  exact ⟨q.1, h2.far q (by omega), row_keep h3 (q.2.2 _ (by omega)), h4.trans (q.2.1 _ (by omega)), h5.far q h9, h6, h7, h8, h9, Nat.le_trans h10 (q.2.1 0 (Nat.zero_le _)).size⟩
theorem DrS.eq (h : DrS w P X b off n z B A m cL L x w') (e : pdC x = pdC y) : DrS w P X b off n z B A m cL L y w' := by
  obtain ⟨h1, h2⟩ := h
  refine ⟨?_, h2⟩
  unfold PdT at h1 ⊢
  rw [← e]; exact h1
end
def DrOk (q : Nat) (z : Nat → Int) (n m : Nat) : Prop := pos (tlZ q z) m = n - hdN q ∧ fitP (rdP q z) q = true ∧ FormOk z n
def DrP (w : World) (q : Nat) (z : Nat → Int) (n m : Nat) (e : Ending) (w' : World) : Prop :=
  (¬ DrOk q z n m ∧ RdErr w 3 e w') ∨ (DrOk q z n m ∧ q = 2 ∧ rightB (fun j => z (12 + j)) 12 (n - 12) = false ∧ RdErr w 8 e w') ∨
  (DrOk q z n m ∧ (q = 2 → rightB (fun j => z (12 + j)) 12 (n - 12) = true) ∧ RdOk w q z m e w')
def swP (q : Nat) (z : Nat → Int) (A : Option Addr) (m c : Nat) : Pd :=
  if q = 0 then ⟨z 4, z (8 + 0), z0, (((numZ (fun j => z (15 + j)) 0 2).toNat : Nat) : Int), z (19 + 0), 0, z0, 0, z0, 0, 0, z0, z0, A, m, c⟩
  else if q = 1 then ⟨z 4, z (8 + 0), z0, (((numZ (fun j => z (15 + j)) 0 2).toNat : Nat) : Int), 0, z (19 + 0), fun j => z (20 + j), 0, z0, 0, 0, z0, z0, A, m, c⟩
  else withT (rdP q z) A m c
theorem hello_q (k : Int) (q : Nat) (hk : cls k = q) (hq : q ≤ 4) (w : World) : Calls Tryz.prog 55 #[.int .u8 k] w fun e w' => e = .returned (.bool (decide (q ≤ 1))) ∧ w = w' := by
  rcases cls_cases k q hk hq with ⟨h, rfl⟩ | ⟨h, rfl⟩ | ⟨h, rfl⟩ | ⟨h, rfl⟩ | ⟨h, rfl⟩ | ⟨h, rfl⟩ | ⟨h, rfl⟩ | ⟨h, rfl⟩ | ⟨h, rfl⟩
  · exact hello_yes k (by omega) w
  · exact hello_yes k (by omega) w
  · exact hello_yes k (by omega) w
  all_goals exact hello_no k (by omega) w
theorem lsp_q (k : Int) (q : Nat) (hk : cls k = q) (hq : q ≤ 4) (w : World) : Calls Tryz.prog 48 #[.int .u8 k] w fun e w' => e = .returned (.bool (decide (q = 2))) ∧ w = w' := by
  rcases cls_cases k q hk hq with ⟨h, rfl⟩ | ⟨h, rfl⟩ | ⟨h, rfl⟩ | ⟨h, rfl⟩ | ⟨h, rfl⟩ | ⟨h, rfl⟩ | ⟨h, rfl⟩ | ⟨h, rfl⟩ | ⟨h, rfl⟩
  · exact lsp_no k (by omega) w
  · exact lsp_no k (by omega) w
  · exact lsp_no k (by omega) w
  · exact lsp_yes k (by omega) w
  · exact lsp_yes k (by omega) w
  all_goals exact lsp_no k (by omega) w
theorem rdP_ok (q : Nat) (hq : q ≤ 4) (z : Nat → Int) (hz : ∀ j, 0 ≤ z j ∧ z j ≤ 255) : PdOk (rdP q z) := by
  have zb : ∀ j, 0 ≤ z0 j ∧ z0 j ≤ 255 := fun j => (⟨Int.le_refl 0, by decide⟩ : (0 : Int) ≤ 0 ∧ (0 : Int) ≤ 255)
  have b0 : by1 0 := ⟨Int.le_refl 0, by decide⟩
  have i0 : in64 0 := ⟨by decide, by decide⟩
  have hn : ∀ s, in64 (((numZ (fun j => z (s + j)) 0 2).toNat : Nat) : Int) := fun s => by
    have h0 := hz (s + 0)
    have h1 := hz (s + 1)
    rw [num2]
    unfold in64
    omega
  have hn4 : ∀ s, (numZ (fun j => z (s + j)) 0 4).toNat ≤ 4294967295 := fun s => by
    have h0 := hz (s + 0)
    have h1 := hz (s + 1)
    have h2 := hz (s + 2)
    have h3 := hz (s + 3)
    rw [num4]
    omega
  rcases (by omega : q = 0 ∨ q = 1 ∨ q = 2 ∨ q = 3 ∨ q = 4) with rfl | rfl | rfl | rfl | rfl
  · exact ⟨⟨hz 4, hz _, mixS_bd (fun j => hz _) zb, hn 15, hz _, b0, zb⟩, i0, zb, Nat.zero_le _, b0, zb, zb⟩
  · exact ⟨⟨hz 4, hz _, mixS_bd (fun j => hz _) zb, hn 15, b0, hz _, fun j => hz _⟩, i0, zb, Nat.zero_le _, b0, zb, zb⟩
  · exact ⟨⟨hz 4, b0, zb, i0, b0, b0, zb⟩, hn 10, fun j => hz _, hn4 20, hz _, zb, zb⟩
  · exact ⟨⟨hz 4, b0, fun j => hz _, i0, b0, b0, zb⟩, i0, zb, Nat.zero_le _, b0, fun j => hz _, fun j => hz _⟩
  · exact ⟨⟨hz 4, b0, fun j => hz _, i0, b0, b0, zb⟩, i0, zb, Nat.zero_le _, b0, zb, zb⟩
theorem fit_withT (p : Pd) (q : Nat) (A : Option Addr) (m c : Nat) : fitP (withT p A m c) q = fitP p q :=
  fitsTo_congr (p := withT p A m c) (p' := p) (q := q) _ fun i _ => by unfold fitB; split <;> rfl
theorem slice_in (W : World) (o : Oper) (e : Operand → Value) (x : Operand) (b off n c l : Nat) (li : Int) (hli : li = (l : Int)) (ho : o.op = .slice 40 x (some (.const (.int .i64 li))) none none) (hx : e x = .slice (some ⟨b, off, none⟩) n c) (he : e (.const (.int .i64 li)) = .int .i64 li) (h1 : l < n) (h2 : n ≤ c) (hcm : c ≤ 9223372036854775807) :
    (execOp e o).run Tryz.prog W = .ok (.value (.slice (some ⟨b, off + l, none⟩) (n - l) (c - l))) W := by
  subst hli
  have := run_from W b off n c l (by omega) h2 hcm
  rw [if_neg (by omega)] at this
  exact slice_op o e x _ ho _ _ hx he _ this
theorem results_dr {fn : Func} {q u : Tmp} (h : fn.results = #[.cell q 39, .tmp u]) (tmps : Array Value) (W : World) (g : Nat) (p : Pd) (x : Value)
    (hp : tmps.getD q undef = .pointer (some ⟨g, 0, none⟩)) (hg : PdT 39 W g p) (hx : tmps.getD u undef = x) : (results fn tmps).run Tryz.prog W = .ok (.tuple #[.agg (pdC p), x]) W := by
  have h1 := run_loadVar_row (P := Tryz.prog) W g 39 39 (pdC p) (0, 0) _ hg Tryz.underlying39 rfl info_pdR
  have hp' : (tmps[q]?).getD undef = .pointer (some ⟨g, 0, none⟩) := by simpa using hp
  have hx' : (tmps[u]?).getD undef = x := by simpa using hx
  simp only [results, h]
  simp [hp', hx', asAddr, h1]
theorem build_0d (o : Oper) (e : Operand → Value) (ho : o.op = .build 39 #[]) (W : World) : (execOp e o).run Tryz.prog W = .ok (.value (.agg (pdC pd0))) W := by
  unfold execOp
  simp only [ho]
  kernel_rfl
theorem build_1d (o : Oper) (e : Operand → Value) (x0 : Operand) (ho : o.op = .build 39 #[(0, x0)]) (k : Int) (h0 : e x0 = .int .u8 k) (W : World) : (execOp e o).run Tryz.prog W = .ok (.value (.agg (pdC (kdP k)))) W := by
  unfold execOp
  simp only [ho, List.map_toArray, List.map_cons, List.map_nil, h0]
  kernel_rfl
theorem rd_from {w : World} {b off n c H : Nat} {z : Nat → Int} (h : Row8 w b off n z) (hh : H ≤ n) (hc : n ≤ c) : Rd w (if c = H then some ⟨b, off, none⟩ else some ⟨b, off + H, none⟩) (n - H) (fun j => z (H + j)) := by
  by_cases e : c = H
  · exact ⟨.inl (by omega), fun j => h.2.2 _⟩
  · rw [if_neg e]
    exact ⟨.inr ⟨b, off + H, rfl, h.shift H (n - H) (by omega)⟩, fun j => h.2.2 _⟩
theorem swP_kd (q : Nat) (z : Nat → Int) (A : Option Addr) (m c : Nat) : (swP q z A m c).kd = z 4 := by
  unfold swP
  split
  · rfl
  · split
    · rfl
    · exact rdP_kd q z
def setSo (x : Pd) (s : Nat → Int) : Pd := ⟨x.kd, x.ci, s, x.ho, x.nu, x.pr, x.la, x.li, x.id, x.sq, x.bi, x.st, x.en, x.A, x.m, x.c⟩
theorem num4_le (z : Nat → Int) (s : Nat) (hz : ∀ j, 0 ≤ z j ∧ z j ≤ 255) : (numZ (fun j => z (s + j)) 0 4).toNat ≤ 4294967295 := by
  have h0 := hz (s + 0)
  have h1 := hz (s + 1)
  have h2 := hz (s + 2)
  have h3 := hz (s + 3)
  rw [num4]
  omega
theorem number_four (b off c : Nat) (z : Nat → Int) (w : World) (hr : Row8 w b off 4 z) :
    Calls Tryz.prog 49 #[.slice (some ⟨b, off, none⟩) 4 c] w fun e w' => e = .returned (.int .u64 (((numZ z 0 4).toNat : Nat) : Int)) ∧ Below w.heap.size w w' :=
  (number_any b off 4 c z w hr (by decide)).mono fun e w' h => by
    obtain ⟨rfl, rfl⟩ := h
    exact ⟨by rw [Int.toNat_of_nonneg (numZ_lt z 0 4 hr.2.2).1], bself _⟩
theorem ownT_mono {w : World} {B B' m : Nat} {v : Value} {L : Nat → It} (h : OwnT w B v m L) (hb : B' ≤ B) : OwnT w B' v m L := ⟨ownsRow_mono h.1 hb, fun j hj => (h.2 j hj).mono hb⟩
theorem lay_two {w wg wh : World} {P X b off n : Nat} {z y : Nat → Int} {B : Nat} {A : Option Addr} {m cL g1 c1 g2 c2 : Nat} {L : Nat → It} {x : Pd} (q : Nat) (hD : DrS w P X b off n z B A m cL L x wg) (hO1 : Own8 wg g1 n c1 y) (hb : Below wg.heap.size wg wh) (hO2 : Own8 wh g2 n c2 z) (hg2 : wg.heap.size ≤ g2) (hn : 27 ≤ n) :
    ∃ yz, Hid (∀ j, j < n → (q = 2 → j ≠ 24 ∧ j ≠ 25) → q = 2 → yz j = z j) ∧ Hid (q = 2 → yz 24 = y 24 ∧ yz 25 = y 25) ∧ Hid (Rd ((wh.setCell ⟨g2, 24, none⟩ (.int .u8 (y 24))).setCell ⟨g2, 25, none⟩ (.int .u8 (y 25))).drew (some ⟨g1, 0, none⟩) n y) ∧ Hid (Rd ((wh.setCell ⟨g2, 24, none⟩ (.int .u8 (y 24))).setCell ⟨g2, 25, none⟩ (.int .u8 (y 25))).drew (some ⟨g2, 0, none⟩) n yz) ∧
      Hid (DrS w P X b off n z B A m cL L x ((wh.setCell ⟨g2, 24, none⟩ (.int .u8 (y 24))).setCell ⟨g2, 25, none⟩ (.int .u8 (y 25))).drew) := by
  have hbW : Below wg.heap.size wg ((wh.setCell ⟨g2, 24, none⟩ (.int .u8 (y 24))).setCell ⟨g2, 25, none⟩ (.int .u8 (y 25))).drew := ((hb.setCell (p := ⟨g2, 24, none⟩) hg2 _).setCell (p := ⟨g2, 25, none⟩) hg2 _).drew
  have h2 := (hO2.put 24 (by omega) (y 24) (hO1.2 24)).put 25 (by omega) (y 25) (hO1.2 25)
  refine ⟨upd (upd z 24 (y 24)) 25 (y 25), Lib.hid fun j hj hc hq => ?_, Lib.hid fun _ => ⟨rfl, rfl⟩, Lib.hid (hO1.below hbW hO1.lt).rd, Lib.hid h2.rd, Lib.hid (hD.below hbW)⟩
  obtain ⟨h24, h25⟩ := hc hq
  unfold upd
  rw [if_neg h25, if_neg h24]
def drSet_ci (x : Pd) (v : Int) : Pd := ⟨x.kd, v, x.so, x.ho, x.nu, x.pr, x.la, x.li, x.id, x.sq, x.bi, x.st, x.en, x.A, x.m, x.c⟩
theorem drPut_ci (x : Pd) (v : Int) : putMany (pdC x) 1 (#[.int .u8 v] : Array Value).toList = pdC (drSet_ci x v) := by kernel_rfl
def drSet_so (x : Pd) (v : Nat → Int) : Pd := ⟨x.kd, x.ci, v, x.ho, x.nu, x.pr, x.la, x.li, x.id, x.sq, x.bi, x.st, x.en, x.A, x.m, x.c⟩
theorem drPut_so (x : Pd) (v : Nat → Int) : putMany (pdC x) 2 ((ndC v) : Array Value).toList = pdC (drSet_so x v) := by kernel_rfl
def drSet_ho (x : Pd) (v : Int) : Pd := ⟨x.kd, x.ci, x.so, v, x.nu, x.pr, x.la, x.li, x.id, x.sq, x.bi, x.st, x.en, x.A, x.m, x.c⟩
theorem drPut_ho (x : Pd) (v : Int) : putMany (pdC x) 9 (#[.int .i64 v] : Array Value).toList = pdC (drSet_ho x v) := by kernel_rfl
def drSet_nu (x : Pd) (v : Int) : Pd := ⟨x.kd, x.ci, x.so, x.ho, v, x.pr, x.la, x.li, x.id, x.sq, x.bi, x.st, x.en, x.A, x.m, x.c⟩
theorem drPut_nu (x : Pd) (v : Int) : putMany (pdC x) 10 (#[.int .u8 v] : Array Value).toList = pdC (drSet_nu x v) := by kernel_rfl
def drSet_pr (x : Pd) (v : Int) : Pd := ⟨x.kd, x.ci, x.so, x.ho, x.nu, v, x.la, x.li, x.id, x.sq, x.bi, x.st, x.en, x.A, x.m, x.c⟩
theorem drPut_pr (x : Pd) (v : Int) : putMany (pdC x) 11 (#[.int .u8 v] : Array Value).toList = pdC (drSet_pr x v) := by kernel_rfl
def drSet_la (x : Pd) (v : Nat → Int) : Pd := ⟨x.kd, x.ci, x.so, x.ho, x.nu, x.pr, v, x.li, x.id, x.sq, x.bi, x.st, x.en, x.A, x.m, x.c⟩
theorem drPut_la (x : Pd) (v : Nat → Int) : putMany (pdC x) 12 ((ndC v) : Array Value).toList = pdC (drSet_la x v) := by kernel_rfl
def drSet_li (x : Pd) (v : Int) : Pd := ⟨x.kd, x.ci, x.so, x.ho, x.nu, x.pr, x.la, v, x.id, x.sq, x.bi, x.st, x.en, x.A, x.m, x.c⟩
theorem drPut_li (x : Pd) (v : Int) : putMany (pdC x) 19 (#[.int .i64 v] : Array Value).toList = pdC (drSet_li x v) := by kernel_rfl
def drSet_id (x : Pd) (v : Nat → Int) : Pd := ⟨x.kd, x.ci, x.so, x.ho, x.nu, x.pr, x.la, x.li, v, x.sq, x.bi, x.st, x.en, x.A, x.m, x.c⟩
theorem drPut_id (x : Pd) (v : Nat → Int) : putMany (pdC x) 20 ((idC v) : Array Value).toList = pdC (drSet_id x v) := by kernel_rfl
def drSet_sq (x : Pd) (v : Nat) : Pd := ⟨x.kd, x.ci, x.so, x.ho, x.nu, x.pr, x.la, x.li, x.id, v, x.bi, x.st, x.en, x.A, x.m, x.c⟩
theorem drPut_sq (x : Pd) (v : Nat) : putMany (pdC x) 28 (#[.int .u32 (v : Int)] : Array Value).toList = pdC (drSet_sq x v) := by kernel_rfl
def drSet_bi (x : Pd) (v : Int) : Pd := ⟨x.kd, x.ci, x.so, x.ho, x.nu, x.pr, x.la, x.li, x.id, x.sq, v, x.st, x.en, x.A, x.m, x.c⟩
theorem drPut_bi (x : Pd) (v : Int) : putMany (pdC x) 29 (#[.int .u8 v] : Array Value).toList = pdC (drSet_bi x v) := by kernel_rfl
def drSet_st (x : Pd) (v : Nat → Int) : Pd := ⟨x.kd, x.ci, x.so, x.ho, x.nu, x.pr, x.la, x.li, x.id, x.sq, x.bi, v, x.en, x.A, x.m, x.c⟩
theorem drPut_st (x : Pd) (v : Nat → Int) : putMany (pdC x) 30 ((idC v) : Array Value).toList = pdC (drSet_st x v) := by kernel_rfl
def drSet_en (x : Pd) (v : Nat → Int) : Pd := ⟨x.kd, x.ci, x.so, x.ho, x.nu, x.pr, x.la, x.li, x.id, x.sq, x.bi, x.st, v, x.A, x.m, x.c⟩
theorem drPut_en (x : Pd) (v : Nat → Int) : putMany (pdC x) 38 ((idC v) : Array Value).toList = pdC (drSet_en x v) := by kernel_rfl
theorem swD_0 (z : Nat → Int) (A : Option Addr) (m cL : Nat) : pdC (drSet_nu (drSet_ho (drSet_ci (withT (kdP (z 4)) A m cL) (z (8 + 0))) ((((numZ (fun j => z (15 + j)) 0 2).toNat : Nat) : Int))) (z (19 + 0))) = pdC (swP 0 z A m cL) := by kernel_rfl
theorem swD_1 (z : Nat → Int) (A : Option Addr) (m cL : Nat) : pdC (drSet_la (drSet_pr (drSet_ho (drSet_ci (withT (kdP (z 4)) A m cL) (z (8 + 0))) ((((numZ (fun j => z (15 + j)) 0 2).toNat : Nat) : Int))) (z (19 + 0))) ((fun j => z (20 + j)))) = pdC (swP 1 z A m cL) := by kernel_rfl
theorem swD_2 (z : Nat → Int) (A : Option Addr) (m cL : Nat) : pdC (drSet_bi (drSet_sq (drSet_id (drSet_li (withT (kdP (z 4)) A m cL) ((((numZ (fun j => z (10 + j)) 0 2).toNat : Nat) : Int))) ((fun j => z (12 + j)))) ((numZ (fun j => z (20 + j)) 0 4).toNat)) (z (26 + 0))) = pdC (swP 2 z A m cL) := by kernel_rfl
theorem swD_3 (z : Nat → Int) (A : Option Addr) (m cL : Nat) : pdC (drSet_en (drSet_st (drSet_so (withT (kdP (z 4)) A m cL) ((fun j => z (10 + j)))) ((fun j => z (17 + j)))) ((fun j => z (25 + j)))) = pdC (swP 3 z A m cL) := by kernel_rfl
theorem swD_4 (z : Nat → Int) (A : Option Addr) (m cL : Nat) : pdC (drSet_so (withT (kdP (z 4)) A m cL) (fun j => z (10 + j))) = pdC (swP 4 z A m cL) := by kernel_rfl
end Go.Proofs.YtkiaijmhoikdiaaGreat
