/- Texts of this claim put together; each theorem states its conditions. -/
import Derived.Test.YtkiaijmhoikdiaaGStoreCompares8
import Derived.Test.YtkiaijmhoikdiaaGStoreCompares3
import Derived.Test.YtkiaijmhoikdiaaGStoreCompares4
import Derived.Test.YtkiaijmhoikdiaaGStoreCompares7
import Derived.Deep.Slices
import Derived.Test.YtkiaijmhoikdiaaGStoreCompares10
import Derived.Test.YtkiaijmhoikdiaaGStoreCompares1
import Derived.OpenShut
import Derived.ProofKit
import Derived.SizedLaws
/- Compare of the store, and the document's. Each theorem states its conditions. -/
namespace Go.Proofs.Ytkiaijmhoikdiaa
open Go.RowKit Go.MapKept
set_option linter.unusedVariables false
set_option linter.unusedSimpArgs false

/-- an entry of that ID -/
def enI (n sq su : Nat) (li : Int) : En := ⟨dg n, sq, li, su⟩
theorem enI_id {w : World} {g n sq su : Nat} {li : Int} (h : Blk 32 w g (enC (enI n sq su li))) : w.rangeAt g 0 (iC n).toList := ent_id (h := ⟨n, sq, li, su, 0, fun _ => 0, 0⟩) h
def CmpP (w : World) (H : Nat → Option Hd) (n : Nat) (E : En) (e : Ending) (w' : World) : Prop := Below w.heap.size w w' ∧ ((H n = none ∧ e = .returned (.tuple #[.int .i64 0, .int .i64 6])) ∨ ∃ h, H n = some h ∧ e = .returned (.tuple #[.int .i64 (relE E (hdE h)), .int .i64 0]))
def DCmpP (w : World) (R : List Rh) (n : Nat) (E : En) (e : Ending) (w' : World) : Prop := Below w.heap.size w w' ∧ (((∀ r ∈ R, r.x.1.id ≠ n) ∧ e = .returned (.tuple #[.int .i64 0, .int .i64 6])) ∨ ∃ r, r ∈ R ∧ r.x.1.id = n ∧ e = .returned (.tuple #[.int .i64 (relE E (hdE r.x.1)), .int .i64 0]))
set_option maxHeartbeats 16000000 in
set_option maxRecDepth 100000 in
theorem compare_en (B s b k n sq su : Nat) (li : Int) (H : Nat → Option Hd) (r : Bool) (w : World) (hst : StAt w B s b H k r) (hn : IdOk n) : Calls Try.prog 12 #[.pointer (some ⟨s, 0, none⟩), .agg (enC (enI n sq su li))] w (CmpP w H n (enI n sq su li)) := by
  obtain ⟨E, hE⟩ : ∃ E, enI n sq su li = E := ⟨_, rfl⟩
  have HID : Hid (∀ (W : World) (g : Nat), Blk 32 W g (enC E) → W.rangeAt g 0 (iC n).toList) := Lib.hid (fun W g h => by rw [← hE] at h; exact enI_id h)
  rw [hE]
  clear hE
  have HST := Lib.hid hst
  have HN := Lib.hid hn
  clear hst hn
  go_enter Try.func12, Try.ntmps12
  have HB := Lib.hid (Below.refl w.heap.size w)
  obtain ⟨N1, hN1⟩ : ∃ N, w.heap.size = N := ⟨_, rfl⟩
  have HN1 := Lib.hid hN1
  clear hN1
  go_wp2_with (refine wpList_box (op := ⟨some 3, _, _, _, _, _⟩) rfl 32 (.tmp 1) rfl (enC E) rfl N1 HN1.out ?_; intro w1 k1 b1 s1; refine Hid.out ?_)
  refine Lib.hid ?_
  have K3 := Lib.hid k1
  clear k1
  have le_HB_N1 : w.heap.size ≤ N1 := by rw [← HN1.out]; exact HB.out.size
  have HBn := Lib.hid (HB.out.trans (b1.mono HB.out.size))
  clear HB
  have HB := HBn
  clear HBn
  clear b1 HN1
  go_wp2_with (refine wpList_ld (op := ⟨some 11, _, _, _, _, _⟩) (by rfl) 28 (.tmp 10) rfl N1 0 rfl (iC n) _ (HID.out _ _ K3.out) Try.underlying28 rfl info_iC ?_; refine Hid.out ?_)
  refine Lib.hid ?_
  go_wp2_with fail
  refine (find_any B s b k n H r w1 (HST.out.below HB.out) HN.out).mono ?_
  rintro e w9 ⟨b1, hc⟩
  have K3n := Lib.hid (K3.out.below b1 K3.out.lt)
  clear K3
  have K3 := K3n
  clear K3n
  have HBn := Lib.hid (HB.out.trans (b1.mono HB.out.size))
  clear HB
  have HB := HBn
  clear HBn
  clear b1
  rcases hc with ⟨hH, rfl⟩ | ⟨gh, h, hH, rfl, hd, _, _⟩
  · go_wp2_with fail
    refine bodyPost_ret (v := .tuple #[.int .i64 0, .int .i64 6]) (by simp [results, Try.f12, go_sem]) rfl ?_
    exact ⟨HB.out, .inl ⟨hH, rfl⟩⟩
  · obtain ⟨_, ro, oa, ch, hbk, _⟩ := hd
    have KH := Lib.hid hbk
    clear hbk
    go_wp2_with fail
    refine wp_region_held_drew (S := fun w' => Blk 32 w' N1 (enC E) ∧ Blk 92 w' gh (hdC h (some ⟨ro, oa, none⟩) ch) ∧ Below w.heap.size w w') (by kernel_rfl) ⟨K3.out, KH.out, HB.out.drew⟩ (fun hS => ?_)
    generalize hW2 : w9.drew = W2 at hS  ⊢
    clear hW2
    clear K3
    clear KH
    clear HB
    have K3 := Lib.hid hS.1
    have KH := Lib.hid hS.2.1
    have HB := Lib.hid hS.2.2
    refine takeL (i := 0) (some 18) 32 (.tmp 3) N1 0 (enC E) _ rfl rfl (by kernel_rfl) (by kernel_rfl) (by kernel_rfl) (fun _ _ _ h => h) (by rfl) rfl rfl (fun w' hS => hS.1.all) Try.underlying32 rfl info_enP hS ?_
    simp only [Act.put, List.setIfInBounds_toArray, List.set_cons_zero, List.set_cons_succ]
    refine takeY (i := 1) (some 19) (v := .pointer (some ⟨gh, 0, none⟩)) rfl rfl (by kernel_rfl) (by kernel_rfl) (by kernel_rfl) (fun _ _ _ h => h) (by rfl) (fun w' hS => by clear hS; go_simp) hS ?_
    simp only [Act.put, List.setIfInBounds_toArray, List.set_cons_zero, List.set_cons_succ]
    refine takeY (i := 2) (some 20) (v := .pointer (some ⟨gh, 0, none⟩)) rfl rfl (by kernel_rfl) (by kernel_rfl) (by kernel_rfl) (fun _ _ _ h => h) (by rfl) (fun w' hS => by clear hS; go_simp) hS ?_
    simp only [Act.put, List.setIfInBounds_toArray, List.set_cons_zero, List.set_cons_succ]
    refine takeY (i := 3) (some 21) (v := .pointer (some ⟨gh, 0, none⟩)) rfl rfl (by kernel_rfl) (by kernel_rfl) (by kernel_rfl) (fun _ _ _ h => h) (by rfl) (fun w' hS => by clear hS; go_simp) hS ?_
    simp only [Act.put, List.setIfInBounds_toArray, List.set_cons_zero, List.set_cons_succ]
    refine takeL (i := 4) (some 22) 32 (.tmp 21) gh 0 (enC (hdE h)) _ rfl rfl (by kernel_rfl) (by kernel_rfl) (by kernel_rfl) (fun _ _ _ h => h) (by rfl) rfl rfl (fun w' hS => hd_ent hS.2.1) Try.underlying32 rfl info_enP hS ?_
    simp only [Act.put, List.setIfInBounds_toArray, List.set_cons_zero, List.set_cons_succ]
    refine takeC (i := 5) (some 23) 35 #[.agg (enC E), .agg (enC (hdE h))] (.int .i64 (relE E (hdE h))) (R := fun w' => Below W2.heap.size W2 w') rfl rfl (by kernel_rfl) (by rfl) (by go_simp) (compareEntries_any _ _ W2) (fun w' hb => ⟨hS.1.below hb hS.1.lt, hS.2.1.below hb hS.2.1.lt, hS.2.2.trans (hb.mono hS.2.2.size)⟩) (fun W3 hb1 hS2 => ?_)
    simp only [Act.put, List.setIfInBounds_toArray, List.set_cons_zero, List.set_cons_succ]
    clear K3
    clear KH
    clear HB
    clear hS hb1
    have hS := hS2
    clear hS2
    have K3 := Lib.hid hS.1
    have KH := Lib.hid hS.2.1
    have HB := Lib.hid hS.2.2
    refine takeY (i := 6) (some 4) (v := .int .i64 (relE E (hdE h))) rfl rfl (by kernel_rfl) (by kernel_rfl) (by kernel_rfl) (fun _ _ _ h => h) (by rfl) (fun w' hS => by clear hS; go_simp) hS ?_
    simp only [Act.put, List.setIfInBounds_toArray, List.set_cons_zero, List.set_cons_succ]
    refine takeY (i := 7) (some 5) (v := .int .i64 0) rfl rfl (by kernel_rfl) (by kernel_rfl) (by kernel_rfl) (fun _ _ _ h => h) (by rfl) (fun w' hS => by clear hS; go_simp) hS ?_
    simp only [Act.put, List.setIfInBounds_toArray, List.set_cons_zero, List.set_cons_succ]
    clear hS
    refine wpAnyH_done (by kernel_rfl) ?_ _
    go_wp2_with fail
    refine bodyPost_ret (v := .tuple #[.int .i64 (relE E (hdE h)), .int .i64 0]) (by simp [results, Try.f12, go_sem]) rfl ?_
    exact ⟨HB.out, .inr ⟨h, hH, rfl⟩⟩
set_option maxHeartbeats 16000000 in
set_option maxRecDepth 100000 in
theorem docCompare_en (B sr n sq su : Nat) (li : Int) (R : List Rh) (rf : Bool) (w : World) (hst : RfAt w B sr R rf) (hn : IdOk n) : Calls Try.prog 13 #[.pointer (some ⟨sr, 0, none⟩), .agg (enC (enI n sq su li))] w (DCmpP w R n (enI n sq su li)) := by
  obtain ⟨E, hE⟩ : ∃ E, enI n sq su li = E := ⟨_, rfl⟩
  have HID : Hid (∀ (W : World) (g : Nat), Blk 32 W g (enC E) → W.rangeAt g 0 (iC n).toList) := Lib.hid (fun W g h => by rw [← hE] at h; exact enI_id h)
  rw [hE]
  clear hE
  have HST := Lib.hid hst
  have HN := Lib.hid hn
  obtain ⟨A1, c1, hs, hc1, hc2, hrdR, _⟩ := hst.open
  have KS := Lib.hid hs
  have HRR := Lib.hid hrdR
  obtain ⟨lR, hlR⟩ : ∃ l, R.length = l := ⟨_, rfl⟩
  have HLR := Lib.hid hlR
  rw [hlR] at HRR KS
  have hlRI : (lR : Int) ≤ 9223372036854775807 := by have h9 : maxLen = 9223372036854775807 := rfl; omega
  clear hst hn hs hc1 hc2 hrdR hlR
  go_enter Try.func13, Try.ntmps13
  have HB := Lib.hid (Below.refl w.heap.size w)
  obtain ⟨N1, hN1⟩ : ∃ N, w.heap.size = N := ⟨_, rfl⟩
  have HN1 := Lib.hid hN1
  clear hN1
  go_wp2_with (refine wpList_box (op := ⟨some 3, _, _, _, _, _⟩) rfl 32 (.tmp 1) rfl (enC E) rfl N1 HN1.out ?_; intro w1 k1 b1 s1; refine Hid.out ?_)
  refine Lib.hid ?_
  have K3 := Lib.hid k1
  clear k1
  have lt_sr_N1 : sr < N1 := by rw [← HN1.out]; exact KS.out.lt
  have le_HB_N1 : w.heap.size ≤ N1 := by rw [← HN1.out]; exact HB.out.size
  have KSn := Lib.hid (KS.out.below b1 KS.out.lt)
  clear KS
  have KS := KSn
  clear KSn
  have HBn := Lib.hid (HB.out.trans (b1.mono HB.out.size))
  clear HB
  have HB := HBn
  clear HBn
  clear b1 HN1
  go_wp2_with (refine wpList_ld (op := ⟨some 11, _, _, _, _, _⟩) (by rfl) 28 (.tmp 10) rfl N1 0 rfl (iC n) _ (HID.out _ _ K3.out) Try.underlying28 rfl info_iC ?_; refine Hid.out ?_)
  refine Lib.hid ?_
  go_wp2_with fail
  refine (findR_any B sr n R rf w1 (HST.out.below HB.out) HN.out).mono ?_
  rintro e w9 ⟨fi, rfl, b1, hfi⟩
  have KSn := Lib.hid (KS.out.below b1 KS.out.lt)
  clear KS
  have KS := KSn
  clear KSn
  have K3n := Lib.hid (K3.out.below b1 K3.out.lt)
  clear K3
  have K3 := K3n
  clear K3n
  have HBn := Lib.hid (HB.out.trans (b1.mono HB.out.size))
  clear HB
  have HB := HBn
  clear HBn
  clear b1
  rcases hfi with ⟨rfl, hno⟩ | ⟨k, r, rfl, hr, hid⟩
  · go_wp2_with fail
    refine bodyPost_ret (v := .tuple #[.int .i64 0, .int .i64 6]) (by simp [results, Try.f13, go_sem]) rfl ?_
    exact ⟨HB.out, .inl ⟨fun r hr => by obtain ⟨j, hj⟩ := List.getElem?_of_mem hr; exact hno j r hj, rfl⟩⟩
  · have HMEM : Hid (∃ r ∈ R, r.x.1.id = n) := Lib.hid ⟨r, List.mem_of_getElem? hr, hid⟩
    have hk0 : ¬ (k : Int) < 0 := by omega
    clear hr hid
    go_wp2_with fail
    refine wp_region_held_drew (S := fun w' => Blk 39 w' sr (#[.slice A1 lR c1, .bool rf]) ∧ Blk 32 w' N1 (enC E) ∧ Below w.heap.size w w') (by kernel_rfl) ⟨KS.out, K3.out, HB.out.drew⟩ (fun hS => ?_)
    generalize hW41 : w9.drew = W41 at hS  ⊢
    clear hW41
    clear KS
    clear K3
    clear HB
    have KS := Lib.hid hS.1
    have K3 := Lib.hid hS.2.1
    have HB := Lib.hid hS.2.2
    refine takeL (i := 0) (some 15) 32 (.tmp 3) N1 0 (enC E) _ rfl rfl (by kernel_rfl) (by kernel_rfl) (by kernel_rfl) (fun _ _ _ h => h) (by rfl) rfl rfl (fun w' hS => hS.2.1.all) Try.underlying32 rfl info_enP hS ?_
    simp only [Act.put, List.setIfInBounds_toArray, List.set_cons_zero, List.set_cons_succ]
    refine takeY (i := 1) (some 16) (v := .pointer (some ⟨sr, 0, none⟩)) rfl rfl (by kernel_rfl) (by kernel_rfl) (by kernel_rfl) (fun _ _ _ h => h) (by rfl) (fun w' hS => by clear hS; go_simp) hS ?_
    simp only [Act.put, List.setIfInBounds_toArray, List.set_cons_zero, List.set_cons_succ]
    refine takeY (i := 2) (some 17) (v := .pointer (some ⟨sr, 0, none⟩)) rfl rfl (by kernel_rfl) (by kernel_rfl) (by kernel_rfl) (fun _ _ _ h => h) (by rfl) (fun w' hS => by clear hS; go_simp) hS ?_
    simp only [Act.put, List.setIfInBounds_toArray, List.set_cons_zero, List.set_cons_succ]
    refine takeY (i := 3) (some 18) (v := .pointer (some ⟨sr, 0, none⟩)) rfl rfl (by kernel_rfl) (by kernel_rfl) (by kernel_rfl) (fun _ _ _ h => h) (by rfl) (fun w' hS => by clear hS; go_simp) hS ?_
    simp only [Act.put, List.setIfInBounds_toArray, List.set_cons_zero, List.set_cons_succ]
    refine takeY (i := 4) (some 19) (v := .slice A1 lR c1) rfl rfl (by kernel_rfl) (by kernel_rfl) (by kernel_rfl) (fun _ _ _ h => h) (by rfl) (fun w' hS => by (have c9 : w'.cell? ⟨sr, 0, none⟩ = some (.slice A1 lR c1) := (hS.1.cell 0).trans rfl; clear hS; go_simp)) hS ?_
    simp only [Act.put, List.setIfInBounds_toArray, List.set_cons_zero, List.set_cons_succ]
    refine takeY (i := 5) (some 20) (v := .pointer (some ⟨sr, 0, none⟩)) rfl rfl (by kernel_rfl) (by kernel_rfl) (by kernel_rfl) (fun _ _ _ h => h) (by rfl) (fun w' hS => by clear hS; go_simp) hS ?_
    simp only [Act.put, List.setIfInBounds_toArray, List.set_cons_zero, List.set_cons_succ]
    refine takeY (i := 6) (some 21) (v := .pointer (some ⟨N1, 0, none⟩)) rfl rfl (by kernel_rfl) (by kernel_rfl) (by kernel_rfl) (fun _ _ _ h => h) (by rfl) (fun w' hS => by clear hS; go_simp) hS ?_
    simp only [Act.put, List.setIfInBounds_toArray, List.set_cons_zero, List.set_cons_succ]
    refine takeL (i := 7) (some 22) 28 (.tmp 21) N1 0 (iC n) _ rfl rfl (by kernel_rfl) (by kernel_rfl) (by kernel_rfl) (fun _ _ _ h => h) (by rfl) rfl rfl (fun w' hS => HID.out _ _ hS.2.1) Try.underlying28 rfl info_iC hS ?_
    simp only [Act.put, List.setIfInBounds_toArray, List.set_cons_zero, List.set_cons_succ]
    refine takeCE (i := 8) (some 23) 36 #[.pointer (some ⟨sr, 0, none⟩), .agg (iC n)] (R := fun v w' => ∃ (k : Nat) (r : Rh), v = .int .i64 (k : Int) ∧ R[k]? = some r ∧ r.x.1.id = n ∧ Below W41.heap.size W41 w') rfl rfl (by kernel_rfl) (by rfl) (by go_simp) ((findR_any B sr n R rf W41 (HST.out.below HB.out) HN.out).mono (fun e w' ⟨fi, h1, h2, h3⟩ => by rcases h3 with ⟨_, h3⟩ | ⟨k, r, h3, h4, h5⟩; (obtain ⟨r, hr, hi⟩ := HMEM.out; obtain ⟨j, hj⟩ := List.getElem?_of_mem hr; exact absurd hi (h3 j r hj)); (subst h3; exact ⟨_, h1, k, r, rfl, h4, h5, h2⟩))) (fun v w' h => by obtain ⟨k2, r2, rfl, hr2, hid2, b1⟩ := h; exact ⟨hS.1.below b1 hS.1.lt, hS.2.1.below b1 hS.2.1.lt, hS.2.2.trans (b1.mono hS.2.2.size)⟩) (fun v W42 h hS2 => ?_)
    obtain ⟨k2, r2, rfl, hr2, hid2, b1⟩ := h
    clear hS2
    simp only [Act.put, List.setIfInBounds_toArray, List.set_cons_zero, List.set_cons_succ]
    have HR2 := Lib.hid hr2
    have HI2 := Lib.hid hid2
    have hkl : k2 < lR := by rw [← HLR.out]; exact (List.getElem?_eq_some_iff.1 hr2).1
    have hkI : (k2 : Int) < (lR : Int) := by omega
    clear hr2 hid2
    obtain ⟨bR, oR, rfl, hrr⟩ := HRR.out.row (by omega)
    have HRG : Hid (∀ W, Below w.heap.size w W → W.rangeAt bR (oR + k2 * 13) (rhC r2).toList) := Lib.hid (fun W hb => by have h9 := rangeAt_below (hrr.2 k2 hkl) hb hrr.1; rw [rhA_at R k2 r2 HR2.out] at h9; exact h9)
    clear hrr
    have KSn := Lib.hid (KS.out.below b1 KS.out.lt)
    clear KS
    have KS := KSn
    clear KSn
    have K3n := Lib.hid (K3.out.below b1 K3.out.lt)
    clear K3
    have K3 := K3n
    clear K3n
    have HBn := Lib.hid (HB.out.trans (b1.mono HB.out.size))
    clear HB
    have HB := HBn
    clear HBn
    clear b1 hS
    have hS := (And.intro KS.out (And.intro K3.out HB.out))
    refine takeY (i := 9) (some 24) (v := .pointer (some ⟨bR, oR + k2 * 13, none⟩)) rfl rfl (by kernel_rfl) (by kernel_rfl) (by kernel_rfl) (fun _ _ _ h => h) (by rfl) (fun w' hS => by clear hS; go_simp) hS ?_
    simp only [Act.put, List.setIfInBounds_toArray, List.set_cons_zero, List.set_cons_succ]
    refine takeL (i := 10) (some 25) 96 (.tmp 24) bR (oR + k2 * 13) (rhC r2) _ rfl rfl (by kernel_rfl) (by kernel_rfl) (by kernel_rfl) (fun _ _ _ h => h) (by rfl) rfl rfl (fun w' hS => HRG.out w' hS.2.2) Try.underlying96 rfl info_rh hS ?_
    simp only [Act.put, List.setIfInBounds_toArray, List.set_cons_zero, List.set_cons_succ]
    refine takeC (i := 11) (some 26) 38 #[.agg (rhC r2)] (.agg (enC (hdE r2.x.1))) (R := fun w' => Below W42.heap.size W42 w') rfl rfl (by kernel_rfl) (by rfl) (by go_simp) (entryR_any r2 W42) (fun w' hb => ⟨hS.1.below hb hS.1.lt, hS.2.1.below hb hS.2.1.lt, hS.2.2.trans (hb.mono hS.2.2.size)⟩) (fun W43 hb1 hS2 => ?_)
    simp only [Act.put, List.setIfInBounds_toArray, List.set_cons_zero, List.set_cons_succ]
    clear KS
    clear K3
    clear HB
    clear hS hb1
    have hS := hS2
    clear hS2
    have KS := Lib.hid hS.1
    have K3 := Lib.hid hS.2.1
    have HB := Lib.hid hS.2.2
    refine takeC (i := 12) (some 27) 37 #[.agg (enC E), .agg (enC (hdE r2.x.1))] (.int .i64 (relE E (hdE r2.x.1))) (R := fun w' => Below W43.heap.size W43 w') rfl rfl (by kernel_rfl) (by rfl) (by go_simp) (ageR_any _ _ W43) (fun w' hb => ⟨hS.1.below hb hS.1.lt, hS.2.1.below hb hS.2.1.lt, hS.2.2.trans (hb.mono hS.2.2.size)⟩) (fun W44 hb1 hS2 => ?_)
    simp only [Act.put, List.setIfInBounds_toArray, List.set_cons_zero, List.set_cons_succ]
    clear KS
    clear K3
    clear HB
    clear hS hb1
    have hS := hS2
    clear hS2
    have KS := Lib.hid hS.1
    have K3 := Lib.hid hS.2.1
    have HB := Lib.hid hS.2.2
    refine takeY (i := 13) (some 4) (v := .int .i64 (relE E (hdE r2.x.1))) rfl rfl (by kernel_rfl) (by kernel_rfl) (by kernel_rfl) (fun _ _ _ h => h) (by rfl) (fun w' hS => by clear hS; go_simp) hS ?_
    simp only [Act.put, List.setIfInBounds_toArray, List.set_cons_zero, List.set_cons_succ]
    refine takeY (i := 14) (some 5) (v := .int .i64 0) rfl rfl (by kernel_rfl) (by kernel_rfl) (by kernel_rfl) (fun _ _ _ h => h) (by rfl) (fun w' hS => by clear hS; go_simp) hS ?_
    simp only [Act.put, List.setIfInBounds_toArray, List.set_cons_zero, List.set_cons_succ]
    clear hS
    refine wpAnyH_done (by kernel_rfl) ?_ _
    go_wp2_with fail
    refine bodyPost_ret (v := .tuple #[.int .i64 (relE E (hdE r2.x.1)), .int .i64 0]) (by simp [results, Try.f13, go_sem]) rfl ?_
    exact ⟨HB.out, .inr ⟨r2, List.mem_of_getElem? HR2.out, HI2.out, rfl⟩⟩
/-- both tell the same -/
theorem cmp_same {w v w1 v1 : World} {H : Nat → Option Hd} {R : List Rh} {n : Nat} {E : En} {e f : Ending} (h : SameHR H R) (h1 : CmpP w H n E e w1) (h2 : DCmpP v R n E f v1) : ∃ x y : Int, e = .returned (.tuple #[.int .i64 x, .int .i64 y]) ∧ f = .returned (.tuple #[.int .i64 x, .int .i64 y]) := by
  rcases h1.2 with ⟨a1, a2⟩ | ⟨g, a1, a2⟩
  · rcases h2.2 with ⟨b1, b2⟩ | ⟨q, b1, b2, b3⟩
    · exact ⟨_, _, a2, b2⟩
    · rw [(h.2 n q.x.1).2 ⟨q, b1, rfl, b2⟩] at a1; cases a1
  · rcases h2.2 with ⟨b1, b2⟩ | ⟨q, b1, b2, b3⟩
    · obtain ⟨q, c1, c2, c3⟩ := (h.2 n g).1 a1
      exact absurd (by rw [c2]; exact c3) (b1 q c1)
    · have := ((h.2 n q.x.1).2 ⟨q, b1, rfl, b2⟩).symm.trans a1
      cases this
      exact ⟨_, _, a2, b3⟩
end Go.Proofs.Ytkiaijmhoikdiaa

/- A list of packets that came in as an argument can be read. No condition. -/
namespace Go.Proofs.Ytkiaijmhoikdiaa
open Go.RowKit Go.ChangeShapes Go.WideShapes
set_option linter.unusedVariables false

theorem open_recsW {α : Type} {t e : TypeId} {s bs : Nat} {C : α → Array Value} {Ok : α → Prop} (ht : Try.prog.underlying t = some (.slice e)) (hs : Try.prog.cellsOf e = s) (hbs : Try.prog.bytesOf e = bs) (hs1 : 0 < s) (hC : ∀ r, (C r).size = s)
    {H : Type} {enc : TypeId × Value → H} {w : World} {base : Nat} {held : Bool} {fuel : Nat} {cs0 : List Value} {y : DataW H × List MemPlace}
    (hel : ∀ (n : Nat) (cs : List Value) (x : DataW H × List MemPlace), DataW.trod enc Try.prog w base (fun _ => true) held n e cs = some x → (∀ k ∈ x.1.weights Try.prog e, k ≤ 140737488351232) → ∃ r, cs = (C r).toList ∧ Ok r) (h0 : ∃ r, Ok r)
    (hf : DataW.trod enc Try.prog w base (fun _ => true) held fuel t cs0 = some y) (hsz : ∀ n ∈ y.1.weights Try.prog t, n ≤ 140737488351232) :
    ∃ (a : Option Addr) (len cap : Nat) (L : Nat → α), cs0 = [.slice a len cap] ∧ RdR w a len s (fun j => C (L j)) ∧ (∀ j, Ok (L j)) ∧ (a = none → len = 0 ∧ cap = 0) ∧ len ≤ cap ∧ cap * bs ≤ 140737488351232 := by
  obtain ⟨r0, hr0⟩ := h0
  rcases Deep.open_slice ht hf with ⟨hcs, _⟩ | ⟨x, len, cap, mm, n, D, Pl, hcs, _, hl, hm, hmm, rfl, hcell⟩
  · exact ⟨none, 0, 0, fun _ => r0, hcs, .inl rfl, fun _ => hr0, fun _ => ⟨rfl, rfl⟩, Nat.le_refl _, by omega⟩
  · rw [if_pos rfl] at hmm
    subst hmm
    have hw0 := hsz ((len + (mm - len)) * bs) (by
      simp only [DataW.weights, ht, List.length_map, List.length_range, hbs]
      exact List.mem_cons_self ..)
    have each : ∀ i, i < len → ∃ r : α, Ok r ∧ ∀ j u, (C r).toList[j]? = some u → w.cell? ((x.add (i * s)).add j) = some u := by
      intro i hi
      obtain ⟨cs', hc, ht'⟩ := hcell i (by omega)
      rw [hs] at hc
      obtain ⟨_, hcl, hat⟩ := World.cells?_some hc
      have hwi : ∀ k ∈ (D i).weights Try.prog e, k ≤ 140737488351232 := by
        intro k hk
        refine hsz k ?_
        simp only [DataW.weights, ht]
        exact List.mem_cons_of_mem _ (List.mem_append_left _ (mem_weightsAll (d := D i) (List.mem_map.2 ⟨i, by simpa using hi, rfl⟩) k hk))
      obtain ⟨r, rfl, hr⟩ := hel n cs' _ ht' hwi
      refine ⟨r, hr, fun j u hu => ?_⟩
      have hj : j < s := by
        rcases Nat.lt_or_ge j s with h | h
        · exact h
        · rw [List.getElem?_eq_none (by rw [Array.length_toList, hC]; exact h)] at hu; cases hu
      rw [hat j hj, hu]
    haveI : Inhabited α := ⟨r0⟩
    obtain ⟨f, hf'⟩ := Deep.choose_lt each
    refine ⟨some x, len, mm, fun i => if i < len then f i else r0, hcs, ?_, fun j => ?_, fun e => (by cases e), hl, ?_⟩
    · rcases Nat.eq_zero_or_pos len with h0 | h0
      · exact .inl h0
      · obtain ⟨b, off, spot⟩ := x
        have hc0 := (hf' 0 h0).2 0 ((C (f 0))[0]'(by rw [hC]; exact hs1)) (by rw [Array.getElem?_toList]; exact Array.getElem?_eq_getElem _)
        have hs : spot = none := by simpa [Addr.add] using World.cell?_spot hc0
        subst hs
        refine .inr ⟨b, off, rfl, by have := cell_lt hc0; simpa [add_none] using this, fun j hj k u hu => ?_⟩
        dsimp only at hu
        rw [if_pos hj] at hu
        have := (hf' j hj).2 k u hu
        rw [add_none, add_none] at this
        exact this
    · dsimp only
      split
      · rename_i h; exact (hf' j h).1
      · exact hr0
    · have : len + (mm - len) = mm := by omega
      rwa [this] at hw0

theorem tolS (A : Array Value) (i : Nat) : A.toList[i]? = A[i]? := by simp
set_option maxRecDepth 100000 in
set_option maxHeartbeats 2000000 in
theorem pdu_cells {H : Type} {enc : TypeId × Value → H} {w : World} {base : Nat} {held : Bool} {fuel : Nat} {cs : List Value} {d : DataW H} {ps : List MemPlace}
    (hf : DataW.trod enc Try.prog w base (fun _ => true) held fuel 42 cs = some (d, ps)) (hsz : ∀ n ∈ d.weights Try.prog 42, n ≤ 140737488351232) :
    ∃ y : Pd × (Nat → It), cs = (pdC y.1).toList ∧ InP w y.1 y.2 := by
  obtain ⟨xs, m1, _, hxd, hl, hn, hel⟩ := DataW.trod_struct Try.underlying42 hf
  have hn : xs.length = 14 := hn
  have hl : cs.length = 47 := by rw [hl]; kernel_rfl
  have hd : d = .agg (xs.map (·.1)) := by have := congrArg Prod.fst hxd; simpa using this
  have hc_b : Try.prog.cellsOf 5 = 1 := by kernel_rfl
  have hc_n : Try.prog.cellsOf 26 = 7 := by kernel_rfl
  have hc_i : Try.prog.cellsOf 3 = 1 := by kernel_rfl
  have hc_d : Try.prog.cellsOf 28 = 8 := by kernel_rfl
  have hc_u : Try.prog.cellsOf 29 = 1 := by kernel_rfl
  have hc_t : Try.prog.cellsOf 40 = 1 := by kernel_rfl
  have e0 : DataW.trod enc Try.prog w base (fun _ => true) held m1 5 ((cs.drop 0).take (Try.prog.cellsOf 5)) = xs[0]? := hel 0 _ rfl
  rw [hc_b] at e0
  obtain ⟨kd, hkd, bkd⟩ := cell_u8 e0 (by rw [List.getElem?_eq_getElem (by omega)]; rfl)
  have e1 : DataW.trod enc Try.prog w base (fun _ => true) held m1 5 ((cs.drop 1).take (Try.prog.cellsOf 5)) = xs[1]? := hel 1 _ rfl
  rw [hc_b] at e1
  obtain ⟨ci, hci, bci⟩ := cell_u8 e1 (by rw [List.getElem?_eq_getElem (by omega)]; rfl)
  have e2 : DataW.trod enc Try.prog w base (fun _ => true) held m1 26 ((cs.drop 2).take (Try.prog.cellsOf 26)) = xs[2]? := hel 2 _ rfl
  rw [hc_n] at e2
  obtain ⟨so, hso, bso⟩ := node_run e2 (by rw [List.getElem?_eq_getElem (by omega)]; rfl)
  have e3 : DataW.trod enc Try.prog w base (fun _ => true) held m1 3 ((cs.drop 9).take (Try.prog.cellsOf 3)) = xs[3]? := hel 3 _ rfl
  rw [hc_i] at e3
  obtain ⟨ho, hho, bho⟩ := cell_i64 e3 (by rw [List.getElem?_eq_getElem (by omega)]; rfl)
  have e4 : DataW.trod enc Try.prog w base (fun _ => true) held m1 5 ((cs.drop 10).take (Try.prog.cellsOf 5)) = xs[4]? := hel 4 _ rfl
  rw [hc_b] at e4
  obtain ⟨nu, hnu, bnu⟩ := cell_u8 e4 (by rw [List.getElem?_eq_getElem (by omega)]; rfl)
  have e5 : DataW.trod enc Try.prog w base (fun _ => true) held m1 5 ((cs.drop 11).take (Try.prog.cellsOf 5)) = xs[5]? := hel 5 _ rfl
  rw [hc_b] at e5
  obtain ⟨pr, hpr, bpr⟩ := cell_u8 e5 (by rw [List.getElem?_eq_getElem (by omega)]; rfl)
  have e6 : DataW.trod enc Try.prog w base (fun _ => true) held m1 26 ((cs.drop 12).take (Try.prog.cellsOf 26)) = xs[6]? := hel 6 _ rfl
  rw [hc_n] at e6
  obtain ⟨la, hla, bla⟩ := node_run e6 (by rw [List.getElem?_eq_getElem (by omega)]; rfl)
  have e7 : DataW.trod enc Try.prog w base (fun _ => true) held m1 3 ((cs.drop 19).take (Try.prog.cellsOf 3)) = xs[7]? := hel 7 _ rfl
  rw [hc_i] at e7
  obtain ⟨li, hli, bli⟩ := cell_i64 e7 (by rw [List.getElem?_eq_getElem (by omega)]; rfl)
  have e8 : DataW.trod enc Try.prog w base (fun _ => true) held m1 28 ((cs.drop 20).take (Try.prog.cellsOf 28)) = xs[8]? := hel 8 _ rfl
  rw [hc_d] at e8
  obtain ⟨id, hid, bid⟩ := id_run e8 (by rw [List.getElem?_eq_getElem (by omega)]; rfl)
  have e9 : DataW.trod enc Try.prog w base (fun _ => true) held m1 29 ((cs.drop 28).take (Try.prog.cellsOf 29)) = xs[9]? := hel 9 _ rfl
  rw [hc_u] at e9
  obtain ⟨sq, hsq, bsq⟩ := cell_u32 e9 (by rw [List.getElem?_eq_getElem (by omega)]; rfl)
  have e10 : DataW.trod enc Try.prog w base (fun _ => true) held m1 5 ((cs.drop 29).take (Try.prog.cellsOf 5)) = xs[10]? := hel 10 _ rfl
  rw [hc_b] at e10
  obtain ⟨bi, hbi, bbi⟩ := cell_u8 e10 (by rw [List.getElem?_eq_getElem (by omega)]; rfl)
  have e11 : DataW.trod enc Try.prog w base (fun _ => true) held m1 28 ((cs.drop 30).take (Try.prog.cellsOf 28)) = xs[11]? := hel 11 _ rfl
  rw [hc_d] at e11
  obtain ⟨st, hst, bst⟩ := id_run e11 (by rw [List.getElem?_eq_getElem (by omega)]; rfl)
  have e12 : DataW.trod enc Try.prog w base (fun _ => true) held m1 28 ((cs.drop 38).take (Try.prog.cellsOf 28)) = xs[12]? := hel 12 _ rfl
  rw [hc_d] at e12
  obtain ⟨en, hen, ben⟩ := id_run e12 (by rw [List.getElem?_eq_getElem (by omega)]; rfl)
  have e13 : DataW.trod enc Try.prog w base (fun _ => true) held m1 40 ((cs.drop 46).take (Try.prog.cellsOf 40)) = xs[13]? := hel 13 _ rfl
  rw [hc_t] at e13
  have hx13 : xs[13]? = some xs[13] := List.getElem?_eq_getElem (by omega)
  rw [hx13] at e13
  have hsl : ∃ a len cap, cs[46]? = some (.slice a len cap) := by
    have hone : (cs.drop 46).take 1 = [cs[46]] := by
      rw [List.drop_eq_getElem_cons (by omega), List.take_succ_cons, List.take_zero]
    rcases Deep.open_slice_pairs Try.underlying40 Try.underlying105 (by kernel_rfl) rfl rfl (by kernel_rfl) (by kernel_rfl) e13 with ⟨hcs', _⟩ | ⟨x, l, c, _, _, _, _, _, _, _, _, hcs', _⟩
    · rw [hone] at hcs'
      injection hcs' with hcs' _
      exact ⟨_, _, _, by rw [List.getElem?_eq_getElem (by omega), hcs']⟩
    · rw [hone] at hcs'
      injection hcs' with hcs' _
      exact ⟨_, _, _, by rw [List.getElem?_eq_getElem (by omega), hcs']⟩
  obtain ⟨a, len, cap, htl⟩ := hsl
  have h13 : DataW.Trod enc Try.prog w base (fun _ => true) held 40 (.slice a len cap) xs[13].1 xs[13].2 := by
    refine ⟨m1, ?_⟩
    have hone : (cs.drop 46).take 1 = [.slice a len cap] := by
      rw [List.drop_eq_getElem_cons (by omega), List.take_succ_cons, List.take_zero]
      rw [List.getElem?_eq_getElem (by omega)] at htl
      injection htl with htl
      rw [htl]
    rw [hone] at e13
    exact e13
  obtain ⟨L, hL1, hL2, hL3, hL4⟩ := open_tlvs h13 (fun n hn' => hsz n (by
    rw [hd]
    simp only [DataW.weights, Try.underlying42]
    exact DataW.weights_mem_each (j := 13) (t := 40) (d := xs[13].1) rfl (by simp [hx13]) n hn'))
  refine ⟨(⟨kd, ci, so, ho, nu, pr, la, li, id, sq.toNat, bi, st, en, a, len, cap⟩, L), ?_, ⟨⟨bkd, bci, bso, bho, bnu, bpr, bla⟩, bli, bid, (by show sq.toNat ≤ _; omega), bbi, bst, ben⟩, hL1, hL2, hL3, hL4⟩
  apply List.ext_getElem?
  intro i
  refine Eq.trans ?_ (tolS _ _).symm
  rcases Nat.lt_or_ge i 47 with h | h
  · rcases (by omega : i = 0 ∨ i = 1 ∨ i = 2 ∨ i = 3 ∨ i = 4 ∨ i = 5 ∨ i = 6 ∨ i = 7 ∨ i = 8 ∨ i = 9 ∨ i = 10 ∨ i = 11 ∨ i = 12 ∨ i = 13 ∨ i = 14 ∨ i = 15 ∨ i = 16 ∨ i = 17 ∨ i = 18 ∨ i = 19 ∨ i = 20 ∨ i = 21 ∨ i = 22 ∨ i = 23 ∨ i = 24 ∨ i = 25 ∨ i = 26 ∨ i = 27 ∨ i = 28 ∨ i = 29 ∨ i = 30 ∨ i = 31 ∨ i = 32 ∨ i = 33 ∨ i = 34 ∨ i = 35 ∨ i = 36 ∨ i = 37 ∨ i = 38 ∨ i = 39 ∨ i = 40 ∨ i = 41 ∨ i = 42 ∨ i = 43 ∨ i = 44 ∨ i = 45 ∨ i = 46) with rfl | rfl | rfl | rfl | rfl | rfl | rfl | rfl | rfl | rfl | rfl | rfl | rfl | rfl | rfl | rfl | rfl | rfl | rfl | rfl | rfl | rfl | rfl | rfl | rfl | rfl | rfl | rfl | rfl | rfl | rfl | rfl | rfl | rfl | rfl | rfl | rfl | rfl | rfl | rfl | rfl | rfl | rfl | rfl | rfl | rfl | rfl
    · exact hkd
    · exact hci
    · exact hso 0 (by omega)
    · exact hso 1 (by omega)
    · exact hso 2 (by omega)
    · exact hso 3 (by omega)
    · exact hso 4 (by omega)
    · exact hso 5 (by omega)
    · exact hso 6 (by omega)
    · exact hho
    · exact hnu
    · exact hpr
    · exact hla 0 (by omega)
    · exact hla 1 (by omega)
    · exact hla 2 (by omega)
    · exact hla 3 (by omega)
    · exact hla 4 (by omega)
    · exact hla 5 (by omega)
    · exact hla 6 (by omega)
    · exact hli
    · exact hid 0 (by omega)
    · exact hid 1 (by omega)
    · exact hid 2 (by omega)
    · exact hid 3 (by omega)
    · exact hid 4 (by omega)
    · exact hid 5 (by omega)
    · exact hid 6 (by omega)
    · exact hid 7 (by omega)
    · rw [hsq]
      show _ = some (Value.int .u32 ((sq.toNat : Nat) : Int))
      rw [Int.toNat_of_nonneg bsq.1]
    · exact hbi
    · exact hst 0 (by omega)
    · exact hst 1 (by omega)
    · exact hst 2 (by omega)
    · exact hst 3 (by omega)
    · exact hst 4 (by omega)
    · exact hst 5 (by omega)
    · exact hst 6 (by omega)
    · exact hst 7 (by omega)
    · exact hen 0 (by omega)
    · exact hen 1 (by omega)
    · exact hen 2 (by omega)
    · exact hen 3 (by omega)
    · exact hen 4 (by omega)
    · exact hen 5 (by omega)
    · exact hen 6 (by omega)
    · exact hen 7 (by omega)
    · exact htl
  · rw [List.getElem?_eq_none (by omega), Array.getElem?_eq_none (by rw [pdC_size]; exact h)]

theorem pd0_okS : PdOk pd0 := by
  have zb : ∀ j, 0 ≤ z0 j ∧ z0 j ≤ 255 := fun j => (⟨Int.le_refl 0, by decide⟩ : (0 : Int) ≤ 0 ∧ (0 : Int) ≤ 255)
  have b0 : by1 0 := ⟨Int.le_refl 0, by decide⟩
  have i0 : in64 0 := ⟨by decide, by decide⟩
  exact ⟨⟨b0, b0, zb, i0, b0, b0, zb⟩, i0, zb, Nat.zero_le _, b0, zb, zb⟩
def pdA (P : Nat → Pd × (Nat → It)) : Nat → Array Value := fun j => pdC (P j).1
/-- a list of packets as an argument -/
def InPs (w : World) (a : Option Addr) (len cap : Nat) (P : Nat → Pd × (Nat → It)) : Prop := RdR w a len 47 (pdA P) ∧ (∀ j, InP w (P j).1 (P j).2) ∧ (a = none → len = 0 ∧ cap = 0) ∧ len ≤ cap ∧ cap ≤ 140737488351232
set_option maxRecDepth 100000 in
theorem open_pdus {H : Type} {enc : TypeId × Value → H} {w : World} {base : Nat} {held : Bool} {a : Option Addr} {len cap : Nat} {d : DataW H} {ps : List MemPlace} (h : DataW.Trod enc Try.prog w base (fun _ => true) held 22 (.slice a len cap) d ps) (hsz : ∀ n ∈ d.weights Try.prog 22, n ≤ 140737488351232) : ∃ P, InPs w a len cap P := by
  obtain ⟨fuel, hf⟩ := h
  obtain ⟨a', len', cap', L, he, r1, r2, r3, r4, r5⟩ := open_recsW (C := fun y : Pd × (Nat → It) => pdC y.1) (Ok := fun y => InP w y.1 y.2) Try.underlying22 (s := 47) (bs := Try.prog.bytesOf 42) (by kernel_rfl) rfl (by decide) (fun y => pdC_size y.1) (fun n cs x hx hw => pdu_cells hx hw)
    ⟨(pd0, fun _ => ⟨0, none, 0, 0, fun _ => 0⟩), by refine ⟨pd0_okS, .inl rfl, fun _ => ⟨rfl, rfl⟩, Nat.le_refl _, by decide⟩⟩ hf hsz
  simp [Value.cells] at he
  obtain ⟨rfl, rfl, rfl⟩ := he
  have hb : 1 ≤ Try.prog.bytesOf 42 := of_decide_eq_true (by kernel_rfl)
  exact ⟨L, r1, r2, r3, r4, by have := Nat.mul_le_mul_left cap hb; omega⟩
end Go.Proofs.Ytkiaijmhoikdiaa

/- The walk of StoreCompares: for every input the law returns true, and nothing that was there is written. No condition. -/
namespace Go.Proofs.Ytkiaijmhoikdiaa
open Go.RowKit Go.MapKept Go.Sort
set_option linter.unusedVariables false
set_option linter.unusedSimpArgs false

theorem zero_rs (o : Oper) (e : Operand → Value) (ho : o.op = .build 39 #[]) (W : World) : (execOp e o).run Try.prog W = .ok (.value (.agg #[.slice none 0 0, .bool false])) W := by
  unfold execOp
  simp only [ho]
  kernel_rfl
theorem same_nil : SameHR noH [] := ⟨List.Pairwise.nil, fun i g => ⟨fun h => (nomatch h), fun ⟨r, hr, _⟩ => (nomatch hr)⟩⟩
theorem rf_nil {w : World} {B sr : Nat} (hB : B ≤ sr) (h : Blk 39 w sr #[.slice none 0 0, .bool false]) : RfAt w B sr [] false := ⟨hB, fun r hr => (nomatch hr), _, h, OwnR.nil _ _ _ _ _⟩
/-- an entry has an ID -/
theorem en_of (E : En) (h : EnOk E) : ∃ n, IdOk n ∧ enC E = enC (enI n E.sq E.su E.li) := by
  obtain ⟨n, hn, hd⟩ := id_of E.s h.1
  refine ⟨n, hn, ?_⟩
  unfold enC enI
  simp only [hd 0 (by decide), hd 1 (by decide), hd 2 (by decide), hd 3 (by decide), hd 4 (by decide), hd 5 (by decide), hd 6 (by decide), hd 7 (by decide)]
theorem stays_own {w : World} {B g n c : Nat} {z : Nat → Int} (h : Own8 w g n c z) : Stays w B (some ⟨g, 0, none⟩) n z := by
  have h0 := h
  obtain ⟨⟨cur, h1, _⟩, hz⟩ := h0
  refine ⟨⟨.inr ⟨g, 0, rfl, Own8.lt h, fun j hj => ?_, hz⟩, hz⟩, fun b off e => ?_⟩
  · rw [Nat.zero_add]; exact own8_at h hj
  · cases e; exact .inr ⟨cur, h1⟩
set_option maxHeartbeats 80000000 in
set_option maxRecDepth 100000 in
theorem walkStoreCompares (A : Option Addr) (n c : Nat) (P : Nat → Pd × (Nat → It)) (x : En) (w : World) (hp : InPs w A n c P) (hx : EnOk x) : Calls Try.prog 3 #[.slice A n c, .agg (enC x)] w fun e w' => e = .returned (.bool true) ∧ Below w.heap.size w w' := by
  have HP := Lib.hid hp
  obtain ⟨ne, hne, hex⟩ := en_of x hx
  rw [hex]
  obtain ⟨E, hE⟩ : ∃ E, enI ne x.sq x.su x.li = E := ⟨_, rfl⟩
  rw [hE]
  have HE := Lib.hid hE
  have HNE := Lib.hid hne
  have hn63 : (n : Int) ≤ 9223372036854775807 := by have := hp.2.2.2.1; have := hp.2.2.2.2; omega
  clear hp hx hne hex hE
  go_enter Try.func3, Try.ntmps3
  have HB := Lib.hid (Below.refl w.heap.size w)
  obtain ⟨N1, hN1⟩ : ∃ N, w.heap.size = N := ⟨_, rfl⟩
  have HN1 := Lib.hid hN1
  clear hN1
  go_wp2_with (refine wpList_box (op := ⟨some 3, _, _, _, _, _⟩) rfl 32 (.tmp 1) rfl (enC E) rfl N1 HN1.out ?_; intro w1 k1 b1 s1; refine Hid.out ?_)
  refine Lib.hid ?_
  have K3 := Lib.hid k1
  clear k1
  have le_HB_N1 : w.heap.size ≤ N1 := by rw [← HN1.out]; exact HB.out.size
  have HBn := Lib.hid (HB.out.trans (b1.mono HB.out.size))
  clear HB
  have HB := HBn
  clear HBn
  clear b1 HN1
  go_wp2_with fail
  refine (awake_any w1).mono ?_
  rintro e w3 ⟨rfl, b1⟩
  have K3n := Lib.hid (K3.out.below b1 K3.out.lt)
  clear K3
  have K3 := K3n
  clear K3n
  have HBn := Lib.hid (HB.out.trans (b1.mono HB.out.size))
  clear HB
  have HB := HBn
  clear HBn
  clear b1
  go_wp2_with fail
  obtain ⟨B, hB⟩ : ∃ N, w3.heap.size = N := ⟨_, rfl⟩
  have lt_3 : N1 < B := by rw [← hB]; exact K3.out.lt
  have le_B : w.heap.size ≤ B := by rw [← hB]; exact HB.out.size
  refine (new_any w3).mono ?_
  rintro e w4 ⟨s, b, rfl, hst, b1⟩
  have HBs : Hid (B ≤ w4.heap.size) := Lib.hid (by rw [← hB]; exact b1.size)
  rw [hB] at hst
  have K3n := Lib.hid (K3.out.below b1 K3.out.lt)
  clear K3
  have K3 := K3n
  clear K3n
  have HBn := Lib.hid (HB.out.trans (b1.mono HB.out.size))
  clear HB
  have HB := HBn
  clear HBn
  have HST := Lib.hid hst
  clear b1 hst hB
  go_wp2_with (refine wpList_v (op := ⟨some 18, _, _, _, _, _⟩) rfl (.agg #[.slice none 0 0, .bool false]) (zero_rs _ _ rfl _) ?_; refine Hid.out ?_)
  refine Lib.hid ?_
  obtain ⟨sr, hsr⟩ : ∃ N, w4.heap.size = N := ⟨_, rfl⟩
  have HSR := Lib.hid hsr
  clear hsr
  go_wp2_with (refine wpList_box (op := ⟨some 19, _, _, _, _, _⟩) rfl 39 (.tmp 18) rfl (#[.slice none 0 0, .bool false]) rfl sr HSR.out ?_; intro w5 k1 b1 s1; refine Hid.out ?_)
  refine Lib.hid ?_
  have K3n := Lib.hid (K3.out.below b1 K3.out.lt)
  clear K3
  have K3 := K3n
  clear K3n
  have HSTn := Lib.hid (HST.out.below b1)
  clear HST
  have HST := HSTn
  clear HSTn
  have HBn := Lib.hid (HB.out.trans (b1.mono HB.out.size))
  clear HB
  have HB := HBn
  clear HBn
  have HT : Hid (TwoAt w5 B s b sr noH 0 [] false) := Lib.hid ⟨HST.out, rf_nil (by rw [← HSR.out]; exact HBs.out) k1, same_nil, by omega⟩
  clear k1 b1 s1 HST HBs HSR
  go_upto_block 0 with fail
  go_cut [] (fun wc => ∃ H k R r, Hid (TwoAt wc B s b sr H k R r) ∧ Hid (Blk 32 wc N1 (enC E)) ∧ Hid (Below w.heap.size w wc))
  case first =>
    go_wp2_with fail
    go_loopw [22] (fun t wr => ∃ (i : Nat) (H : Nat → Option Hd) (k : Nat) (R : List Rh) (r : Bool), i ≤ n ∧ i ≤ 30 ∧ t = .int .i64 i ∧ Hid (TwoAt wr B s b sr H k R r) ∧ Hid (Blk 32 wr N1 (enC E)) ∧ Hid (Below w.heap.size w wr)) (fun t _ => n - (intOf t).toNat)
    case atStart => exact ⟨0, noH, 0, [], false, by omega, by omega, rfl, HT, K3, HB⟩
    case round =>
      clear K3 HB HT
      obtain ⟨i, H, k, R, r, hi, hi30, rfl, HT, K3, HB⟩ := hrel
      by_cases hlt : i < n
      · skip
        obtain ⟨bA, off, rfl, hr⟩ := HP.out.1.row (by omega)
        have hki : (i : Int) < (n : Int) := by omega
        obtain ⟨p, hpp⟩ : ∃ p, (P i).1 = p := ⟨_, rfl⟩
        obtain ⟨L, hLL⟩ : ∃ L, (P i).2 = L := ⟨_, rfl⟩
        have HIN : Hid (InP w p L) := Lib.hid (by rw [← hpp, ← hLL]; exact HP.out.2.1 i)
        have h1 : Hid (wr.rangeAt bA (off + i * 47) (pdC p).toList) := Lib.hid (by have h9 := rangeAt_below (hr.2 i hlt) HB.out hr.1; unfold pdA at h9; rw [hpp] at h9; exact h9)
        clear hr hpp hLL
        go_wp2_with (refine wpList_ld (op := ⟨some 26, _, _, _, _, _⟩) (by rfl) 42 (.tmp 25) rfl bA (off + i * 47) rfl (pdC p) _ h1.out Try.underlying42 rfl info_pdR ?_; refine Hid.out ?_)
        refine Lib.hid ?_
        clear h1
        obtain ⟨N8, hN8⟩ : ∃ N, wr.heap.size = N := ⟨_, rfl⟩
        have HN8 := Lib.hid hN8
        clear hN8
        go_wp2_with (refine wpList_new (op := ⟨some 8, _, _, _, _, _⟩) rfl 42 rfl (pdC pd0) zero_pdR N8 HN8.out ?_; intro w5 k1 b1 s1; refine Hid.out ?_)
        refine Lib.hid ?_
        have K8 := Lib.hid k1
        have HB1 := Lib.hid b1
        clear k1 b1 s1
        go_wp2_with (refine wpList_st rfl 42 (.tmp 8) (.tmp 26) rfl N8 0 rfl (.agg (pdC p)) (pdC p) rfl rfl info_pdR (pdC_one _) K8.out (Nat.le_of_ble_eq_true rfl) (C' := pdC p) (pd_over' _ _) ?_; intro w6 q1; refine Hid.out ?_)
        refine Lib.hid ?_
        have b1 : Below wr.heap.size wr w6 := HB1.out.trans (q1.2.1 _ (by rw [HN8.out]; exact Nat.le_refl _))
        have K8n : Hid (Blk 42 w6 N8 (pdC p)) := Lib.hid q1.1
        clear K8
        have K8 := K8n
        clear K8n q1 HB1 HN8
        have HTn := Lib.hid (HT.out.below b1)
        clear HT
        have HT := HTn
        clear HTn
        have K3n := Lib.hid (K3.out.below b1 K3.out.lt)
        clear K3
        have K3 := K3n
        clear K3n
        have HBn := Lib.hid (HB.out.trans (b1.mono HB.out.size))
        clear HB
        have HB := HBn
        clear HBn
        clear b1
        by_cases h30 : i < 30
        · have h30i : ¬ (30 : Int) ≤ (i : Int) := by omega
          go_wp2_with (refine wpList_ld (op := ⟨some 30, _, _, _, _, _⟩) (by rfl) 42 (.tmp 8) rfl N8 0 rfl (pdC p) _ K8.out.all Try.underlying42 rfl info_pdR ?_; refine Hid.out ?_)
          refine Lib.hid ?_
          clear K8
          obtain ⟨m0, hm0⟩ := jends L p.m
          have HM := Lib.hid hm0
          clear hm0
          have HRT : Hid (RdT w6 p.A p.m L) := Lib.hid (HIN.out.2.1.below HB.out)
          have HWOK : Hid (wrX p L m0 = 0 → WOk p (wrN p L m0) (wrZ p L m0)) := Lib.hid (fun h => wr_ok (w := w6) HIN.out.1 HM.out HRT.out h)
          go_wp2_with fail
          refine (docWrite_any p HIN.out.1 L m0 HM.out w6 ⟨HRT.out, HIN.out.2.2.2.1, by have := HIN.out.2.2.2.2; omega⟩).mono ?_
          rintro e w8 ⟨A8, c8, rfl, hrd, hc1, hc2, b1, hown⟩
          obtain ⟨x8, hx8⟩ : ∃ v, wrX p L m0 = v := ⟨_, rfl⟩
          obtain ⟨n8, hn8⟩ : ∃ v, wrN p L m0 = v := ⟨_, rfl⟩
          obtain ⟨z8, hz8⟩ : ∃ v, wrZ p L m0 = v := ⟨_, rfl⟩
          rw [hx8, hn8, hz8] at HWOK
          rw [hx8, hn8, hz8] at hown
          rw [hn8] at hc1
          rw [hx8, hn8]
          have HOWN := Lib.hid hown
          have HC8 := Lib.hid (And.intro hc1 hc2)
          have HTn := Lib.hid (HT.out.below b1)
          clear HT
          have HT := HTn
          clear HTn
          have K3n := Lib.hid (K3.out.below b1 K3.out.lt)
          clear K3
          have K3 := K3n
          clear K3n
          have HBn := Lib.hid (HB.out.trans (b1.mono HB.out.size))
          clear HB
          have HB := HBn
          clear HBn
          clear hx8 hn8 hz8 hrd hc1 hc2 hown b1 HRT
          by_cases hx0 : x8 = 0
          · subst hx0
            obtain ⟨g8, rfl, hg8, hO8⟩ := HOWN.out rfl
            have HSTY : Hid (Stays w8 B (some ⟨g8, 0, none⟩) n8 z8) := Lib.hid (stays_own hO8)
            have HN8 := Lib.hid ((HWOK.out rfl).hn.2)
            clear HOWN HWOK hO8 hg8
            go_wp2_with fail
            refine (putT_any B s b sr k H R r (some ⟨g8, 0, none⟩) n8 c8 z8 w8 HT.out HSTY.out (fun e => by cases e) HC8.out.1 HC8.out.2 (by have := HN8.out; omega)).mono ?_
            rintro e w9 ⟨rfl, b1, H2, k2, R2, r2, ht⟩
            clear HT
            have HT := Lib.hid ht
            have K3n := Lib.hid (K3.out.below b1 lt_3)
            clear K3
            have K3 := K3n
            clear K3n
            have HBn := Lib.hid (HB.out.trans (b1.mono le_B))
            clear HB
            have HB := HBn
            clear HBn b1 ht HSTY HN8 HC8
            go_wp2_with fail
            go_roundw
            case rel => exact ⟨i + 1, _, _, _, _, by omega, by omega, by go_num, HT, K3, HB⟩
            case measure => simp only [intOf]; omega
          · have hxb : (x8 == 0) = false := by simpa using hx0
            clear hx0
            go_wp2_with fail
            go_roundw
            case rel => exact ⟨i + 1, _, _, _, _, by omega, by omega, by go_num, HT, K3, HB⟩
            case measure => simp only [intOf]; omega
        · obtain rfl : i = 30 := by omega
          go_wp2_with fail
          go_meet
          case rel => exact ⟨_, _, _, _, HT, K3, HB⟩
      · obtain rfl : n = i := by omega
        go_wp2_with fail
        go_meet
        case rel => exact ⟨_, _, _, _, HT, K3, HB⟩
  case rest =>
    clear K3 HB HT
    obtain ⟨H, k, R, r, HT, K3, HB⟩ := hcut
    go_wp2_with (refine wpList_ld (op := ⟨some 46, _, _, _, _, _⟩) (by rfl) 32 (.tmp 3) rfl N1 0 rfl (enC E) _ K3.out.all Try.underlying32 rfl info_enP ?_; refine Hid.out ?_)
    refine Lib.hid ?_
    go_wp2_with fail
    refine (show Calls Try.prog _ _ wc (CmpP wc H ne E) from by have h9 := compare_en B s b k ne x.sq x.su x.li H r wc HT.out.st HNE.out; rw [HE.out] at h9; exact h9).mono ?_
    rintro e w7 h1
    have h1x : ∃ u1 u2 : Int, e = .returned (.tuple #[.int .i64 u1, .int .i64 u2]) := by rcases h1.2 with ⟨_, h⟩ | ⟨_, _, h⟩; exact ⟨_, _, h⟩; exact ⟨_, _, h⟩
    obtain ⟨u1, u2, rfl⟩ := h1x
    have H1 := Lib.hid h1
    have b1 := h1.1
    have K3n := Lib.hid (K3.out.below b1 K3.out.lt)
    clear K3
    have K3 := K3n
    clear K3n
    have HTn := Lib.hid (HT.out.below b1)
    clear HT
    have HT := HTn
    clear HTn
    have HBn := Lib.hid (HB.out.trans (b1.mono HB.out.size))
    clear HB
    have HB := HBn
    clear HBn
    clear b1 h1
    go_wp2_with (refine wpList_ld (op := ⟨some 52, _, _, _, _, _⟩) (by rfl) 32 (.tmp 3) rfl N1 0 rfl (enC E) _ K3.out.all Try.underlying32 rfl info_enP ?_; refine Hid.out ?_)
    refine Lib.hid ?_
    go_wp2_with fail
    refine (show Calls Try.prog _ _ w7 (DCmpP w7 R ne E) from by have h9 := docCompare_en B sr ne x.sq x.su x.li R r w7 HT.out.rf HNE.out; rw [HE.out] at h9; exact h9).mono ?_
    rintro e w8 h2
    obtain ⟨y1, y2, e1, rfl⟩ := cmp_same HT.out.same H1.out h2
    obtain ⟨rfl, rfl⟩ : u1 = y1 ∧ u2 = y2 := by injection e1 with e1; injection e1 with e1; simp at e1; exact e1
    have b1 := h2.1
    have K3n := Lib.hid (K3.out.below b1 K3.out.lt)
    clear K3
    have K3 := K3n
    clear K3n
    have HTn := Lib.hid (HT.out.below b1)
    clear HT
    have HT := HTn
    clear HTn
    have HBn := Lib.hid (HB.out.trans (b1.mono HB.out.size))
    clear HB
    have HB := HBn
    clear HBn
    clear b1 h2 H1 e1
    have hu1 : (u1 == u1) = true := by simp
    have hu2 : (u2 == u2) = true := by simp
    go_wp2_with fail
    go_ret
    exact ⟨rfl, HB.out⟩
end Go.Proofs.Ytkiaijmhoikdiaa

/- IDs as arguments. No condition. -/
namespace Go.Proofs.Ytkiaijmhoikdiaa
open Go.RowKit Go.ChangeShapes Go.WideShapes
set_option linter.unusedVariables false

end Go.Proofs.Ytkiaijmhoikdiaa

/- What an argument of type Entry is. Each theorem states its conditions. -/
namespace Go.Proofs.Ytkiaijmhoikdiaa
open Go.RowKit Go.ChangeShapes Go.WideShapes
set_option linter.unusedVariables false

section
variable {H : Type} {enc : TypeId × Value → H} {w : World} {base : Nat} {spare : Nat → Bool} {held : Bool} {m : Nat} {cs : List Value} {x : DataW H × List MemPlace}
theorem entry_cells (h : DataW.trod enc Try.prog w base spare held m 32 cs = some x) : ∃ E : En, cs = (enC E).toList ∧ EnOk E := by
  have hc11 : Try.prog.cellsOf 32 = 11 := by kernel_rfl
  have hc8 : Try.prog.cellsOf 28 = 8 := by kernel_rfl
  have hc7 : Try.prog.cellsOf 26 = 7 := by kernel_rfl
  have hc6 : Try.prog.cellsOf 24 = 6 := by kernel_rfl
  have hc1 : Try.prog.cellsOf 5 = 1 := by kernel_rfl
  have hcu : Try.prog.cellsOf 29 = 1 := by kernel_rfl
  have hci : Try.prog.cellsOf 3 = 1 := by kernel_rfl
  have hcs : Try.prog.cellsOf 30 = 1 := by kernel_rfl
  obtain ⟨xs, m1, _, _, hl, hn, hel⟩ := DataW.trod_struct Try.underlying32 h
  rw [hc11] at hl
  have hn : xs.length = 4 := hn
  have e0 : DataW.trod enc Try.prog w base spare held m1 28 ((cs.drop 0).take (Try.prog.cellsOf 28)) = xs[0]? := hel 0 _ rfl
  have e1 : DataW.trod enc Try.prog w base spare held m1 29 ((cs.drop 8).take (Try.prog.cellsOf 29)) = xs[1]? := hel 1 _ rfl
  have e2 : DataW.trod enc Try.prog w base spare held m1 3 ((cs.drop 9).take (Try.prog.cellsOf 3)) = xs[2]? := hel 2 _ rfl
  have e3 : DataW.trod enc Try.prog w base spare held m1 30 ((cs.drop 10).take (Try.prog.cellsOf 30)) = xs[3]? := hel 3 _ rfl
  rw [hc8, List.getElem?_eq_getElem (by omega)] at e0
  rw [hcu, List.getElem?_eq_getElem (by omega)] at e1
  rw [hci, List.getElem?_eq_getElem (by omega)] at e2
  rw [hcs, List.getElem?_eq_getElem (by omega)] at e3
  obtain ⟨ws, m0, _, _, _, hnw, hew⟩ := DataW.trod_struct Try.underlying28 e0
  have hnw : ws.length = 2 := hnw
  have g0 : DataW.trod enc Try.prog w base spare held m0 26 ((((cs.drop 0).take 8).drop 0).take (Try.prog.cellsOf 26)) = ws[0]? := hew 0 _ rfl
  have g1 : DataW.trod enc Try.prog w base spare held m0 5 ((((cs.drop 0).take 8).drop 7).take (Try.prog.cellsOf 5)) = ws[1]? := hew 1 _ rfl
  rw [hc7, List.getElem?_eq_getElem (by omega)] at g0
  rw [hc1] at g1
  obtain ⟨ys, m2, _, _, _, hny, hey⟩ := DataW.trod_struct Try.underlying26 g0
  have hny : ys.length = 2 := hny
  have f0 : DataW.trod enc Try.prog w base spare held m2 24 ((((((cs.drop 0).take 8).drop 0).take 7).drop 0).take (Try.prog.cellsOf 24)) = ys[0]? := hey 0 _ rfl
  have f1 : DataW.trod enc Try.prog w base spare held m2 5 ((((((cs.drop 0).take 8).drop 0).take 7).drop 6).take (Try.prog.cellsOf 5)) = ys[1]? := hey 1 _ rfl
  rw [hc6] at f0
  rw [hc1] at f1
  obtain ⟨z, hz, hzb⟩ := bytes_run Try.underlying24 f0 (by rw [List.getElem?_eq_getElem (by omega)]; rfl)
  obtain ⟨p, hp, hpb⟩ := cell_u8 f1 (by rw [List.getElem?_eq_getElem (by omega)]; rfl)
  obtain ⟨g, hg, hgb⟩ := cell_u8 g1 (by rw [List.getElem?_eq_getElem (by omega)]; rfl)
  obtain ⟨q, eq, _, wq⟩ := DataW.trod_int Try.underlying29 e1
  obtain ⟨t, et, _, wt⟩ := DataW.trod_int Try.underlying3 e2
  obtain ⟨s, es, _, ws'⟩ := DataW.trod_int Try.underlying30 e3
  have hq : cs[8]? = some (.int .u32 q) := by
    have := congrArg (·[0]?) eq
    simpa [List.getElem?_take, List.getElem?_drop] using this
  have ht : cs[9]? = some (.int .i64 t) := by
    have := congrArg (·[0]?) et
    simpa [List.getElem?_take, List.getElem?_drop] using this
  have hs : cs[10]? = some (.int .u16 s) := by
    have := congrArg (·[0]?) es
    simpa [List.getElem?_take, List.getElem?_drop] using this
  have hqb := wf_u32 wq
  have hsb : 0 ≤ s ∧ s ≤ 65535 := wf_u16 ws'
  have htb : -9223372036854775808 ≤ t ∧ t ≤ 9223372036854775807 := wf_i64 wt
  have hz' : ∀ i, i < 6 → cs[i]? = some (.int .u8 (z i)) := fun i hi => by
    have := hz i hi
    rw [Nat.zero_add, List.drop_zero, List.drop_zero, List.getElem?_take, if_pos (by omega), List.getElem?_take, if_pos (by omega)] at this
    exact this
  have hp' : cs[6]? = some (.int .u8 p) := by
    rw [List.drop_zero, List.drop_zero, List.getElem?_take, if_pos (by omega), List.getElem?_take, if_pos (by omega)] at hp
    exact hp
  have hg' : cs[7]? = some (.int .u8 g) := by
    rw [List.drop_zero, List.getElem?_take, if_pos (by omega)] at hg
    exact hg
  refine ⟨⟨fun j => if j = 6 then p else if j = 7 then g else z j, q.toNat, t, s.toNat⟩, ?_, fun j => ?_, by show q.toNat ≤ _; omega, htb, by show s.toNat ≤ _; omega⟩
  · apply List.ext_getElem?
    intro i
    rcases Nat.lt_or_ge i 11 with h | h
    · rcases (by omega : i = 0 ∨ i = 1 ∨ i = 2 ∨ i = 3 ∨ i = 4 ∨ i = 5 ∨ i = 6 ∨ i = 7 ∨ i = 8 ∨ i = 9 ∨ i = 10) with rfl | rfl | rfl | rfl | rfl | rfl | rfl | rfl | rfl | rfl | rfl
      · exact hz' 0 (by omega)
      · exact hz' 1 (by omega)
      · exact hz' 2 (by omega)
      · exact hz' 3 (by omega)
      · exact hz' 4 (by omega)
      · exact hz' 5 (by omega)
      · exact hp'
      · exact hg'
      · rw [hq]
        show _ = some (Value.int .u32 ((q.toNat : Nat) : Int))
        rw [Int.toNat_of_nonneg hqb.1]
      · exact ht
      · rw [hs]
        show _ = some (Value.int .u16 ((s.toNat : Nat) : Int))
        rw [Int.toNat_of_nonneg hsb.1]
    · rw [List.getElem?_eq_none (by omega), List.getElem?_eq_none (by show 11 ≤ i; omega)]
  · show 0 ≤ (if j = 6 then p else if j = 7 then g else z j) ∧ (if j = 6 then p else if j = 7 then g else z j) ≤ 255
    split
    · exact hpb
    · split
      · exact hgb
      · exact hzb j
end
set_option maxRecDepth 100000 in
theorem open_entry {H : Type} {enc : TypeId × Value → H} {w : World} {base : Nat} {held : Bool} {r : Reach} {b0 : Nat} {v : Value} {d : DataW H} {ps : List MemPlace}
    (hv : Value.okWide Try.prog w r b0 32 v) (h : DataW.Trod enc Try.prog w base (fun _ => true) held 32 v d ps) : ∃ E, v = .agg (enC E) ∧ EnOk E := by
  simp only [Value.okWide, Try.underlying32] at hv
  obtain ⟨ca, rfl, hca, _⟩ := hv
  obtain ⟨fuel, hf⟩ := h
  obtain ⟨r, hc, hr⟩ := entry_cells hf
  exact ⟨r, congrArg Value.agg (Array.toList_inj.1 hc), hr⟩
end Go.Proofs.Ytkiaijmhoikdiaa
