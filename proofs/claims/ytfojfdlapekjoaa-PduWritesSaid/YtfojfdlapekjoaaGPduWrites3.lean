/- Texts of this claim put together; each theorem states its conditions. -/
import Derived.Test.YtfojfdlapekjoaaGPduWrites2
import Derived.Stop.BytesEq
import Derived.Test.YtfojfdlapekjoaaRows
import Derived.Deep.Slices
import Derived.OpenShut
import Derived.ProofKit
import Derived.SizedLaws
/- pdu.Write writes a packet. Each theorem states its conditions. -/
namespace Go.Proofs.Ytfojfdlapekjoaa
open Go.RowKit
set_option linter.unusedVariables false

theorem pdC_0 (p : Pd) : (pdC p)[0]? = some (.int .u8 p.kd) := rfl
theorem pdC_46 (p : Pd) : (pdC p)[46]? = some (.slice p.A p.m p.c) := rfl
theorem sz_le (L : Nat → It) (m m0 : Nat) (h : JEnds L m m0) : sz L m0 ≤ 1492 := by
  rcases Nat.eq_zero_or_pos m0 with h0 | h0
  · subst h0; simp [sz]
  · have := h.2.1 (m0 - 1) (by omega)
    unfold bad at this
    rw [show m0 - 1 + 1 = m0 by omega] at this
    omega
/-- a packet that is written: where its TLVs lie -/
def PdIn (w : World) (p : Pd) (L : Nat → It) : Prop := RdT w p.A p.m L ∧ p.m ≤ p.c ∧ p.c ≤ 9223372036854775807
theorem RdT.below' {w w' : World} {A : Option Addr} {m : Nat} {L : Nat → It} (h : RdT w A m L) (hb : Below w.heap.size w w') : RdT w' A m L := h.below hb
set_option maxRecDepth 100000 in
theorem write_5 (p : Pd) (hk : cls p.kd = 5) (w : World) : Calls Try.prog 12 #[.agg (pdC p)] w fun e w' => e = .returned (.tuple #[.slice none 0 0, .int .i64 1]) ∧ Below w.heap.size w w' := by
  have a0 := pdC_0 p
  have HF := Lib.hid (fields_none p.kd hk)
  have HB := Lib.hid ((bself w).alloc (Nat.le_refl _) (.cells (pdC p) 33))
  clear hk
  go_enter Try.func12, Try.ntmps12
  go_wp2_with fail
  refine (HF.out _).mono ?_
  rintro e w1 ⟨rfl, rfl⟩
  go_wp2_with fail
  go_ret2
  exact ⟨rfl, HB.out⟩
set_option maxHeartbeats 4000000 in
set_option maxRecDepth 100000 in
theorem write_nofit (p : Pd) (q : Nat) (hk : cls p.kd = q) (hq : q ≤ 4) (hp : PdOk p) (hfit : fitP p q = false) (w : World) : Calls Try.prog 12 #[.agg (pdC p)] w fun e w' => e = .returned (.tuple #[.slice none 0 0, .int .i64 1]) ∧ Below w.heap.size w w' := by
  have a0 := pdC_0 p
  have a46 := pdC_46 p
  have HF := Lib.hid (fields_any p.kd q hk hq)
  have hlen := fl_len q hq
  have HHD := Lib.hid (hdN_bd q hq)
  obtain ⟨n, hn⟩ : ∃ n, (flC q).length = n := ⟨_, rfl⟩
  have HN := Lib.hid hn
  rw [hn] at hlen HF
  have hn0 : ((n : Int) == 0) = false := by simp; omega
  have HX0 := Lib.hid (heap_alloc_new w (.cells (pdC p) 33))
  have HB0 := Lib.hid ((bself w).alloc (Nat.le_refl _) (.cells (pdC p) 33))
  have hs0 : (w.alloc (.cells (pdC p) 33)).heap.size = w.heap.size + 1 := by simp
  have HP := Lib.hid hp
  have HK := Lib.hid hk
  have HQ := Lib.hid hq
  have HFIT := Lib.hid hfit
  clear hfit
  clear hn hp hk hq
  go_enter Try.func12, Try.ntmps12
  go_wp2_with fail
  obtain ⟨W1, hW1⟩ : ∃ W1, w.alloc (.cells (pdC p) 33) = W1 := ⟨_, rfl⟩
  rw [hW1] at HX0 HB0 hs0 ⊢
  clear hW1
  refine (HF.out W1).mono ?_
  rintro e w1 ⟨rfl, hf1, hb1⟩
  have HFl : Hid (FlAt w1 W1.heap.size q) := Lib.hid hf1
  have HPd : Hid (PdAt w1 w.heap.size p) := Lib.hid ((hb1.block _ (by omega)).trans HX0.out)
  have HB1 : Hid (Below w.heap.size w w1) := Lib.hid (HB0.out.trans (hb1.mono (by omega)))
  have hs1 := hb1.size
  clear hf1 hb1 HX0
  obtain ⟨g1, hg1⟩ : ∃ g1, W1.heap.size = g1 := ⟨_, rfl⟩
  rw [hg1] at HFl hs0 hs1 ⊢
  clear hg1
  have HAF := Lib.hid (allFit_any p w.heap.size g1 q HQ.out w1 HPd.out HFl.out)
  have c46 : w1.cell? ⟨w.heap.size, 46, none⟩ = some (.slice p.A p.m p.c) := (HPd.out.cell 46).trans a46
  have c0 : w1.cell? ⟨w.heap.size, 0, none⟩ = some (.int .u8 p.kd) := (HPd.out.cell 0).trans a0
  have HC0 := Lib.hid c0
  rw [HN.out] at HAF
  rw [HFIT.out] at HAF
  clear HB0 hs0 HF a0 a46
  go_wp2_with fail
  refine HAF.out.mono ?_
  rintro e w2 ⟨rfl, rfl⟩
  go_wp2_with fail
  go_ret2
  exact ⟨rfl, HB1.out⟩
set_option maxHeartbeats 4000000 in
set_option maxRecDepth 100000 in
theorem write_join (p : Pd) (q : Nat) (hk : cls p.kd = q) (hq : q ≤ 4) (hp : PdOk p) (hfit : fitP p q = true) (L : Nat → It) (m0 : Nat) (hm : JEnds L p.m m0) (hlt : m0 < p.m) (w : World) (hin : PdIn w p L) : Calls Try.prog 12 #[.agg (pdC p)] w fun e w' => e = .returned (.tuple #[.slice none 0 0, .int .i64 2]) ∧ Below w.heap.size w w' := by
  have a0 := pdC_0 p
  have a46 := pdC_46 p
  have HF := Lib.hid (fields_any p.kd q hk hq)
  have hlen := fl_len q hq
  have HHD := Lib.hid (hdN_bd q hq)
  obtain ⟨n, hn⟩ : ∃ n, (flC q).length = n := ⟨_, rfl⟩
  have HN := Lib.hid hn
  rw [hn] at hlen HF
  have hn0 : ((n : Int) == 0) = false := by simp; omega
  have HX0 := Lib.hid (heap_alloc_new w (.cells (pdC p) 33))
  have HB0 := Lib.hid ((bself w).alloc (Nat.le_refl _) (.cells (pdC p) 33))
  have hs0 : (w.alloc (.cells (pdC p) 33)).heap.size = w.heap.size + 1 := by simp
  have HP := Lib.hid hp
  have HK := Lib.hid hk
  have HQ := Lib.hid hq
  have HFIT := Lib.hid hfit
  have HM := Lib.hid hm
  have HIN := Lib.hid hin
  clear hfit hm hin
  clear hn hp hk hq
  go_enter Try.func12, Try.ntmps12
  go_wp2_with fail
  obtain ⟨W1, hW1⟩ : ∃ W1, w.alloc (.cells (pdC p) 33) = W1 := ⟨_, rfl⟩
  rw [hW1] at HX0 HB0 hs0 ⊢
  clear hW1
  refine (HF.out W1).mono ?_
  rintro e w1 ⟨rfl, hf1, hb1⟩
  have HFl : Hid (FlAt w1 W1.heap.size q) := Lib.hid hf1
  have HPd : Hid (PdAt w1 w.heap.size p) := Lib.hid ((hb1.block _ (by omega)).trans HX0.out)
  have HB1 : Hid (Below w.heap.size w w1) := Lib.hid (HB0.out.trans (hb1.mono (by omega)))
  have hs1 := hb1.size
  clear hf1 hb1 HX0
  obtain ⟨g1, hg1⟩ : ∃ g1, W1.heap.size = g1 := ⟨_, rfl⟩
  rw [hg1] at HFl hs0 hs1 ⊢
  clear hg1
  have HAF := Lib.hid (allFit_any p w.heap.size g1 q HQ.out w1 HPd.out HFl.out)
  have c46 : w1.cell? ⟨w.heap.size, 46, none⟩ = some (.slice p.A p.m p.c) := (HPd.out.cell 46).trans a46
  have c0 : w1.cell? ⟨w.heap.size, 0, none⟩ = some (.int .u8 p.kd) := (HPd.out.cell 0).trans a0
  have HC0 := Lib.hid c0
  rw [HN.out] at HAF
  rw [HFIT.out] at HAF
  clear HB0 hs0 HF a0 a46
  go_wp2_with fail
  refine HAF.out.mono ?_
  rintro e w2 ⟨rfl, rfl⟩
  go_wp2_with fail
  have HJ := Lib.hid (join_any p.A p.m p.c m0 L w1 (HIN.out.1.below HB1.out) HIN.out.2.1 HIN.out.2.2 HM.out)
  refine HJ.out.mono ?_
  clear HJ
  rintro e w2 (⟨h, _⟩ | ⟨_, rfl, hb2⟩)
  · omega
  have HB2 := Lib.hid (HB1.out.trans (hb2.mono HB1.out.size))
  clear hb2
  go_wp2_with fail
  go_ret2
  exact ⟨rfl, HB2.out⟩
set_option maxHeartbeats 4000000 in
set_option maxRecDepth 100000 in
theorem write_long (p : Pd) (q : Nat) (hk : cls p.kd = q) (hq : q ≤ 4) (hp : PdOk p) (hfit : fitP p q = true) (L : Nat → It) (hm : JEnds L p.m p.m) (hlong : 1492 < hdN q + sz L p.m) (w : World) (hin : PdIn w p L) : Calls Try.prog 12 #[.agg (pdC p)] w fun e w' => e = .returned (.tuple #[.slice none 0 0, .int .i64 2]) ∧ Below w.heap.size w w' := by
  have a0 := pdC_0 p
  have a46 := pdC_46 p
  have HF := Lib.hid (fields_any p.kd q hk hq)
  have hlen := fl_len q hq
  have HHD := Lib.hid (hdN_bd q hq)
  obtain ⟨n, hn⟩ : ∃ n, (flC q).length = n := ⟨_, rfl⟩
  have HN := Lib.hid hn
  rw [hn] at hlen HF
  have hn0 : ((n : Int) == 0) = false := by simp; omega
  have HX0 := Lib.hid (heap_alloc_new w (.cells (pdC p) 33))
  have HB0 := Lib.hid ((bself w).alloc (Nat.le_refl _) (.cells (pdC p) 33))
  have hs0 : (w.alloc (.cells (pdC p) 33)).heap.size = w.heap.size + 1 := by simp
  have HP := Lib.hid hp
  have HK := Lib.hid hk
  have HQ := Lib.hid hq
  have HFIT := Lib.hid hfit
  have HM := Lib.hid hm
  have HIN := Lib.hid hin
  clear hfit hm hin
  clear hn hp hk hq
  go_enter Try.func12, Try.ntmps12
  go_wp2_with fail
  obtain ⟨W1, hW1⟩ : ∃ W1, w.alloc (.cells (pdC p) 33) = W1 := ⟨_, rfl⟩
  rw [hW1] at HX0 HB0 hs0 ⊢
  clear hW1
  refine (HF.out W1).mono ?_
  rintro e w1 ⟨rfl, hf1, hb1⟩
  have HFl : Hid (FlAt w1 W1.heap.size q) := Lib.hid hf1
  have HPd : Hid (PdAt w1 w.heap.size p) := Lib.hid ((hb1.block _ (by omega)).trans HX0.out)
  have HB1 : Hid (Below w.heap.size w w1) := Lib.hid (HB0.out.trans (hb1.mono (by omega)))
  have hs1 := hb1.size
  clear hf1 hb1 HX0
  obtain ⟨g1, hg1⟩ : ∃ g1, W1.heap.size = g1 := ⟨_, rfl⟩
  rw [hg1] at HFl hs0 hs1 ⊢
  clear hg1
  have HAF := Lib.hid (allFit_any p w.heap.size g1 q HQ.out w1 HPd.out HFl.out)
  have c46 : w1.cell? ⟨w.heap.size, 46, none⟩ = some (.slice p.A p.m p.c) := (HPd.out.cell 46).trans a46
  have c0 : w1.cell? ⟨w.heap.size, 0, none⟩ = some (.int .u8 p.kd) := (HPd.out.cell 0).trans a0
  have HC0 := Lib.hid c0
  rw [HN.out] at HAF
  rw [HFIT.out] at HAF
  clear HB0 hs0 HF a0 a46
  go_wp2_with fail
  refine HAF.out.mono ?_
  rintro e w2 ⟨rfl, rfl⟩
  go_wp2_with fail
  have HJ := Lib.hid (join_any p.A p.m p.c p.m L w1 (HIN.out.1.below HB1.out) HIN.out.2.1 HIN.out.2.2 HM.out)
  refine HJ.out.mono ?_
  clear HJ
  rintro e w2 (⟨_, gT, cT, rfl, hgT, hoT, hb2⟩ | ⟨h, _⟩)
  rotate_left
  · omega
  have HB2 := Lib.hid (HB1.out.trans (hb2.mono HB1.out.size))
  have HFl2 := Lib.hid (HFl.out.below hb2)
  have HPd2 := Lib.hid (HPd.out.below hb2 HPd.out.lt)
  have HT2 := Lib.hid hoT
  have HAH := Lib.hid (fun W h => ahead_any g1 q HQ.out W h)
  rw [HN.out] at HAH
  have hsz := sz_le L p.m p.m HM.out
  have HHD' := HHD.out
  obtain ⟨S, hS⟩ : ∃ S, sz L p.m = S := ⟨_, rfl⟩
  have HSS := Lib.hid hS
  obtain ⟨H, hH⟩ : ∃ H, hdN q = H := ⟨_, rfl⟩
  have HHH := Lib.hid hH
  rw [hS] at hsz HT2
  rw [hH] at HHD' HAH
  rw [hS, hH] at hlong
  rw [hS]
  clear hb2 hS hH hoT c46 HPd HFl HAF
  go_wp2_with fail
  refine (HAH.out _ HFl2.out).mono ?_
  rintro e w3 ⟨rfl, rfl⟩
  go_wp2_with fail
  go_ret2
  exact ⟨rfl, HB2.out⟩
set_option maxHeartbeats 4000000 in
set_option maxRecDepth 100000 in
theorem write_ok (p : Pd) (q : Nat) (hk : cls p.kd = q) (hq : q ≤ 4) (hp : PdOk p) (hfit : fitP p q = true) (L : Nat → It) (hm : JEnds L p.m p.m) (hlong : hdN q + sz L p.m ≤ 1492) (w : World) (hin : PdIn w p L) : Calls Try.prog 12 #[.agg (pdC p)] w fun e w' => ∃ v, e = .returned (.tuple #[v, .int .i64 0]) ∧ OwnB w' w.heap.size v (hdN q + sz L p.m) (pdZ p q L) ∧ Below w.heap.size w w' := by
  have a0 := pdC_0 p
  have a46 := pdC_46 p
  have HF := Lib.hid (fields_any p.kd q hk hq)
  have hlen := fl_len q hq
  have HHD := Lib.hid (hdN_bd q hq)
  obtain ⟨n, hn⟩ : ∃ n, (flC q).length = n := ⟨_, rfl⟩
  have HN := Lib.hid hn
  rw [hn] at hlen HF
  have hn0 : ((n : Int) == 0) = false := by simp; omega
  have HX0 := Lib.hid (heap_alloc_new w (.cells (pdC p) 33))
  have HB0 := Lib.hid ((bself w).alloc (Nat.le_refl _) (.cells (pdC p) 33))
  have hs0 : (w.alloc (.cells (pdC p) 33)).heap.size = w.heap.size + 1 := by simp
  have HP := Lib.hid hp
  have HK := Lib.hid hk
  have HQ := Lib.hid hq
  have HFIT := Lib.hid hfit
  have HM := Lib.hid hm
  have HIN := Lib.hid hin
  clear hfit hm hin
  clear hn hp hk hq
  go_enter Try.func12, Try.ntmps12
  go_wp2_with fail
  obtain ⟨W1, hW1⟩ : ∃ W1, w.alloc (.cells (pdC p) 33) = W1 := ⟨_, rfl⟩
  rw [hW1] at HX0 HB0 hs0 ⊢
  clear hW1
  refine (HF.out W1).mono ?_
  rintro e w1 ⟨rfl, hf1, hb1⟩
  have HFl : Hid (FlAt w1 W1.heap.size q) := Lib.hid hf1
  have HPd : Hid (PdAt w1 w.heap.size p) := Lib.hid ((hb1.block _ (by omega)).trans HX0.out)
  have HB1 : Hid (Below w.heap.size w w1) := Lib.hid (HB0.out.trans (hb1.mono (by omega)))
  have hs1 := hb1.size
  clear hf1 hb1 HX0
  obtain ⟨g1, hg1⟩ : ∃ g1, W1.heap.size = g1 := ⟨_, rfl⟩
  rw [hg1] at HFl hs0 hs1 ⊢
  clear hg1
  have HAF := Lib.hid (allFit_any p w.heap.size g1 q HQ.out w1 HPd.out HFl.out)
  have c46 : w1.cell? ⟨w.heap.size, 46, none⟩ = some (.slice p.A p.m p.c) := (HPd.out.cell 46).trans a46
  have c0 : w1.cell? ⟨w.heap.size, 0, none⟩ = some (.int .u8 p.kd) := (HPd.out.cell 0).trans a0
  have HC0 := Lib.hid c0
  rw [HN.out] at HAF
  rw [HFIT.out] at HAF
  clear HB0 hs0 HF a0 a46
  go_wp2_with fail
  refine HAF.out.mono ?_
  rintro e w2 ⟨rfl, rfl⟩
  go_wp2_with fail
  have HJ := Lib.hid (join_any p.A p.m p.c p.m L w1 (HIN.out.1.below HB1.out) HIN.out.2.1 HIN.out.2.2 HM.out)
  refine HJ.out.mono ?_
  clear HJ
  rintro e w2 (⟨_, gT, cT, rfl, hgT, hoT, hb2⟩ | ⟨h, _⟩)
  rotate_left
  · omega
  have HB2 := Lib.hid (HB1.out.trans (hb2.mono HB1.out.size))
  have HFl2 := Lib.hid (HFl.out.below hb2)
  have HPd2 := Lib.hid (HPd.out.below hb2 HPd.out.lt)
  have HT2 := Lib.hid hoT
  have HAH := Lib.hid (fun W h => ahead_any g1 q HQ.out W h)
  rw [HN.out] at HAH
  have hsz := sz_le L p.m p.m HM.out
  have HHD' := HHD.out
  obtain ⟨S, hS⟩ : ∃ S, sz L p.m = S := ⟨_, rfl⟩
  have HSS := Lib.hid hS
  obtain ⟨H, hH⟩ : ∃ H, hdN q = H := ⟨_, rfl⟩
  have HHH := Lib.hid hH
  rw [hS] at hsz HT2
  rw [hH] at HHD' HAH
  rw [hS, hH] at hlong
  rw [hS]
  clear hb2 hS hH hoT c46 HPd HFl HAF
  go_wp2_with fail
  refine (HAH.out _ HFl2.out).mono ?_
  rintro e w3 ⟨rfl, rfl⟩
  go_wp2_with fail
  obtain ⟨Wn, hWn⟩ : ∃ Wn, H + S = Wn := ⟨_, rfl⟩
  have e1 : (H : Int) + (S : Int) = (Wn : Int) := by omega
  have hWl : Wn ≤ 1492 := by omega
  have HWn := Lib.hid hWn
  rw [e1]
  clear e1 hWn c0
  have HHead := Lib.hid (head_any p.kd H HP.out.1.1 (by omega))
  refine wp_region_held_drew (S := fun w' => w'.cell? ⟨w.heap.size, 0, none⟩ = some (.int .u8 p.kd)) (by kernel_rfl) ((HPd2.out.cell 0).trans (pdC_0 p)) (fun hS0 => ?_)
  refine takeY (i := 0) (some 38) (v := .pointer (some ⟨w.heap.size, 0, none⟩)) rfl rfl (by kernel_rfl) (by kernel_rfl) (by kernel_rfl) (fun _ _ _ h => h) (by rfl) (fun w' hS => by go_simp) hS0 ?_
  simp only [Act.put, List.setIfInBounds_toArray, List.set_cons_zero, List.set_cons_succ]
  refine takeY (i := 1) (some 39) (v := .int .u8 p.kd) rfl rfl (by kernel_rfl) (by kernel_rfl) (by kernel_rfl) (fun _ _ _ h => h) (by rfl) (fun w' hS => by go_simp) hS0 ?_
  simp only [Act.put, List.setIfInBounds_toArray, List.set_cons_zero, List.set_cons_succ]
  refine takeY (i := 2) (some 40) (v := .slice (some ⟨g1, 0, none⟩) n n) rfl rfl (by kernel_rfl) (by kernel_rfl) (by kernel_rfl) (fun _ _ _ h => h) (by rfl) (fun w' hS => by go_simp) hS0 ?_
  simp only [Act.put, List.setIfInBounds_toArray, List.set_cons_zero, List.set_cons_succ]
  refine takeC (i := 3) (some 41) 33 #[.slice (some ⟨g1, 0, none⟩) n n] (.int .i64 (H : Int)) (R := fun w' => w' = w2.drew) rfl rfl (by kernel_rfl) (by rfl) (by go_simp) ((HAH.out w2.drew HFl2.out).mono fun e w' h => ⟨h.1, h.2.symm⟩) (fun w' h => by rw [h]; exact hS0) (fun w3 h3 hS3 => ?_)
  subst h3
  simp only [Act.put, List.setIfInBounds_toArray, List.set_cons_zero, List.set_cons_succ]
  refine takeCE (i := 4) (some 42) 34 #[.int .u8 p.kd, .int .i64 (H : Int)] (R := fun v w' => OwnB w' w2.heap.size v 8 (headZ p.kd H) ∧ Below w2.heap.size w2 w' ∧ w'.cell? ⟨w.heap.size, 0, none⟩ = some (.int .u8 p.kd)) rfl rfl (by kernel_rfl) (by rfl) (by go_simp) ((HHead.out w2.drew).mono fun e w' ⟨he, ho, hb⟩ => ⟨_, he, ho.ownB (Nat.le_refl _), (bself w2).drew.trans hb, (hb.cell HPd2.out.lt).trans hS3⟩) (fun v w' h => h.2.2) (fun v8 w3 h3 hS3 => ?_)
  obtain ⟨ho3, hb3, _⟩ := h3
  simp only [Act.put, List.setIfInBounds_toArray, List.set_cons_zero, List.set_cons_succ]
  refine takeY (i := 5) (some 8) (v := v8) rfl rfl (by kernel_rfl) (by kernel_rfl) (by kernel_rfl) (fun _ _ _ h => h) (by rfl) (fun w' hS => by go_simp) hS3 ?_
  simp only [Act.put, List.setIfInBounds_toArray, List.set_cons_zero, List.set_cons_succ]
  refine wpAnyH_done (by kernel_rfl) ?_ _
  have HO3 : Hid (OwnB w3 w2.heap.size v8 (accN q 0) (accZ p Wn q 0)) := Lib.hid (by show OwnB w3 w2.heap.size v8 8 (headZ p.kd (hdN q)); rw [HHH.out]; exact ho3)
  have HB3 := Lib.hid hb3
  clear ho3 hb3 hS3 hS0
  go_wp2_with fail
  go_loopw [8, 45] (fun v t wr => ∃ i : Nat, i ≤ n ∧ t = .int .i64 i ∧ Hid (OwnB wr w2.heap.size v (accN q i) (accZ p Wn q i)) ∧ Hid (Below w2.heap.size w2 wr)) (fun _ t _ => n - (intOf t).toNat)
  case atStart => exact ⟨0, Nat.zero_le _, rfl, HO3, HB3⟩
  case round =>
    clear HO3 HB3
    obtain ⟨i, hi, rfl, HO, HW⟩ := hrel
    by_cases hlt : i < n
    · have ci := (HFl2.out.below HW.out).cell (i := i) (by rw [HN.out]; exact hlt)
      have hf := fAt_le q i HQ.out
      have hfit := fitP_at HFIT.out i (by rw [HN.out]; exact hlt)
      have HPut := Lib.hid (putF_any p HP.out w.heap.size Wn (fAt q i) (by omega) hf hfit _ (HPd2.out.below HW.out HPd2.out.lt))
      have hfz := fsz_bd (fAt q i)
      have hab := accN_bd q i
      have HS1 : Hid (vals (accZ p Wn q i) (accN q i) ++ vals (fZ p Wn (fAt q i)) (fsz (fAt q i)) = vals (accZ p Wn q (i + 1)) (accN q (i + 1))) := Lib.hid (vals_cat _ _ _ _)
      have HS2 : Hid (accN q (i + 1) = accN q i + fsz (fAt q i)) := Lib.hid rfl
      have HS3 := Lib.hid (accZ_bd p Wn q HQ.out HP.out (i + 1))
      obtain ⟨f, hf'⟩ : ∃ f, fAt q i = f := ⟨_, rfl⟩
      rw [hf'] at ci HPut HS1 HS2 hfz
      clear hf' hf hfit
      have HO1 := Lib.hid HO.out.1
      obtain ⟨an, han⟩ : ∃ an, accN q i = an := ⟨_, rfl⟩
      rw [han] at HO1 HS1 HS2 hab
      clear HO han
      go_wp2_with fail
      refine HPut.out.mono ?_
      rintro e wA ⟨ad, cA, rfl, hrd, hbA⟩
      have HRD := Lib.hid hrd
      have HBA := Lib.hid (HW.out.trans (hbA.mono HW.out.size))
      have HOA := Lib.hid (ownsRow_below' HO1.out hbA)
      clear hrd hbA ci
      go_wp2_with (first
        | (at_builtin; refine app_s rfl (.tmp 49) (.tmp 52) rfl w2 u8 an (vals (accZ p Wn q i) an) rfl HOA.out HBA.out ad (fsz f) cA (vals (fZ p Wn f) (fsz f)) rfl (vals_len _ _) (rd_newsB HRD.out) (vals_one _ _) (by omega) ?_; intro v2 wB ho2 hb2 hs2 hk2))
      have HOB : Hid (OwnB wB w2.heap.size v2 (accN q (i + 1)) (accZ p Wn q (i + 1))) := Lib.hid ⟨by rw [HS2.out]; have := ho2; rw [HS1.out, HS2.out] at this; exact this, HS3.out⟩
      have HBB := Lib.hid hb2
      clear ho2 hb2 hs2 hk2
      go_wp2_with fail
      go_roundw
      case rel => exact ⟨i + 1, by omega, by go_num, HOB, HBB⟩
      case measure => simp only [intOf]; omega
    · obtain rfl : i = n := by omega
      have HOH : Hid (OwnB wr w2.heap.size u8 H (accZ p Wn q i)) := Lib.hid (by have := HO.out; rw [← HHH.out]; unfold hdN; rw [HN.out]; exact this)
      have HTr := Lib.hid (HT2.out.below HW.out HT2.out.lt)
      have HV : Hid (vals (accZ p Wn q i) H ++ vals (J L p.m) S = vals (wZ p q L) (H + S)) := Lib.hid (by
        rw [vals_cat]
        unfold wZ
        rw [HSS.out, HHH.out, HN.out, HWn.out])
      have HWB : Hid (∀ j, 0 ≤ wZ p q L j ∧ wZ p q L j ≤ 255) := Lib.hid (cat_bd (accZ_bd p _ q HQ.out HP.out _) HT2.out.2)
      clear HO
      go_wp2_with (first
        | (at_builtin; refine app_s rfl (.tmp 55) (.tmp 56) rfl w2 u8 H (vals (accZ p Wn q i) H) rfl HOH.out.1 HW.out ⟨gT, 0, none⟩ S cT (vals (J L p.m) S) rfl (vals_len _ _) (rd_newsB HTr.out.rd) (vals_one _ _) (by omega) ?_; intro v2 wB ho2 hb2 hs2 hk2; have c0 : wB.cell? ⟨w.heap.size, 0, none⟩ = some (.int .u8 p.kd) := (((HPd2.out.below hb2 HPd2.out.lt).cell 0).trans (pdC_0 p)); have HO2 := Lib.hid ho2; have HBB := Lib.hid hb2; have HI := Lib.hid (isState_any p.kd wB); clear ho2 hb2 hs2 hk2))
      refine HI.out.mono ?_
      rintro e w5 ⟨rfl, rfl⟩
      have HOW : Hid (OwnB wB w2.heap.size v2 Wn (wZ p q L)) := Lib.hid ⟨by have := HO2.out; rw [HV.out, HWn.out] at this; exact this, HWB.out⟩
      have HEnd : Hid (hdN q + sz L p.m = Wn) := Lib.hid (by rw [HSS.out, HHH.out, HWn.out])
      by_cases hq2 : q = 2
      · have hd : decide (cls p.kd = 2) = true := by rw [HK.out]; simpa using hq2
        have HPZ : Hid (pdZ p q L = sgZ (wZ p q L) Wn) := Lib.hid (by unfold pdZ; rw [if_pos hq2, HEnd.out])
        have h27 : 27 ≤ Wn := by
          have h1 : hdN q = 27 := by rw [hq2]; rfl
          have h2 := HHH.out
          have h3 := HWn.out
          omega
        obtain ⟨gW, cW, rfl, hgW, hoW⟩ := own_ofB HOW.out (by omega)
        have HSg := Lib.hid (sign_any gW Wn cW (wZ p q L) w2 wB hoW h27 hWl HBB.out hgW)
        have HgW := Lib.hid hgW
        rw [hd]
        clear hoW HO2 HOW hgW hq2 hd
        go_wp2_with fail
        refine HSg.out.mono ?_
        rintro e w6 ⟨rfl, ho6, hb6⟩
        have HO6 := Lib.hid ho6
        have HB6 := Lib.hid (HB2.out.trans (hb6.mono HB2.out.size))
        clear ho6 hb6 c0
        go_wp2_with fail
        go_ret2
        exact ⟨_, rfl, by rw [HEnd.out, HPZ.out]; exact HO6.out.ownB (by have := HgW.out; have := HB2.out.size; omega), HB6.out⟩
      · have hd : decide (cls p.kd = 2) = false := by rw [HK.out]; simpa using hq2
        have HPZ : Hid (pdZ p q L = wZ p q L) := Lib.hid (by unfold pdZ; rw [if_neg hq2])
        have HB6 := Lib.hid (HB2.out.trans (HBB.out.mono HB2.out.size))
        rw [hd]
        clear hq2 hd HO2
        go_wp2_with fail
        go_ret2
        exact ⟨_, rfl, by rw [HEnd.out, HPZ.out]; exact ⟨ownsRow_mono HOW.out.1 HB2.out.size, HOW.out.2⟩, HB6.out⟩
end Go.Proofs.Ytfojfdlapekjoaa

/- The document's example of pdu, run: waymarklaw06.awake returns true. No condition. -/
namespace Go.Proofs.Ytfojfdlapekjoaa
open Go.RowKit
set_option linter.unusedVariables false

theorem bdrewN {B : Nat} {a w : World} (h : Below B a w) (m : Nat) : Below B a (w.drewN m) := ⟨h.os, h.tape, h.output, h.size, h.block⟩
theorem rd_lit {w : World} {B n : Nat} {C : Array Value} {t : TypeId} {z : Nat → Int} (h : w.heap[B]? = some (.cells C t (0, 0))) (hz : ∀ j, 0 ≤ z j ∧ z j ≤ 255) (hC : C.toList = vals z n) : Rd w (some ⟨B, 0, none⟩) n z := by
  refine ⟨.inr ⟨B, 0, rfl, (Array.getElem?_eq_some_iff.1 h).1, fun j hj => ?_, hz⟩, hz⟩
  rw [Nat.zero_add, cell_of_row w B j _ _ _ h]
  have := vals_at z n j hj
  rw [← hC] at this
  simpa using this
/-- the example's packet -/
def pX : Pd := ⟨17, 3, fun j => if j = 5 then 1 else 0, 10, 1, 0, fun _ => 0, 0, fun _ => 0, 0, 0, fun _ => 0, fun _ => 0, none, 0, 0⟩
def lX : Nat → It := fun _ => ⟨0, none, 0, 0, fun _ => 0⟩
theorem pX_ok : PdOk pX := by
  refine ⟨⟨?_, ?_, fun j => ?_, ?_, ?_, ?_, fun j => ?_⟩, ?_, fun j => ?_, ?_, ?_, fun j => ?_, fun j => ?_⟩
  all_goals simp only [pX, by1, in64]
  all_goals first | omega | decide | (split <;> omega)
def litX : List Int := [131, 20, 1, 0, 17, 1, 0, 0, 3, 0, 0, 0, 0, 0, 1, 0, 10, 0, 20, 1]
def zX : Nat → Int := fun j => litX.getD j 0
theorem zX_bd : ∀ j, 0 ≤ zX j ∧ zX j ≤ 255 := by
  intro j
  by_cases h : j < 20
  · have : ∀ k : Fin 20, 0 ≤ zX k ∧ zX k ≤ 255 := by decide
    exact this ⟨j, h⟩
  · have : zX j = 0 := by unfold zX List.getD; rw [List.getElem?_eq_none (by simp [litX]; omega)]; rfl
    omega
theorem zX_eq : ∀ j, j < 20 → pdZ pX 0 lX j = zX j := by
  intro j h
  have : ∀ k : Fin 20, pdZ pX 0 lX k = zX k := by decide +kernel
  exact this ⟨j, h⟩
set_option maxHeartbeats 2000000 in
set_option maxRecDepth 100000 in
theorem awake_any (w : World) :
    Calls Try.prog 10 #[] w fun e w' => e = .returned (.bool true) ∧ Below w.heap.size w w' := by
  have HW := Lib.hid (write_ok pX 0 rfl (by decide) pX_ok rfl lX ⟨Nat.le_refl _, fun k hk => absurd hk (Nat.not_lt_zero k), .inl rfl⟩ (by decide) w ⟨.inl rfl, Nat.le_refl _, by decide⟩)
  go_enter Try.func10, Try.ntmps10
  go_wp2_with fail
  refine HW.out.mono ?_
  rintro e w1 ⟨v, rfl, ho, hb⟩
  obtain ⟨g, cap, rfl, hg, ho⟩ := own_ofB ho (by decide)
  rw [show hdN 0 + sz lX pX.m = 20 from rfl] at ho ⊢
  have hcap := ho.caps.1
  have hcap2 : cap ≤ 9223372036854775807 := ho.caps.2
  have HO := Lib.hid ho
  have HB := Lib.hid hb
  have hs := hb.size
  clear ho hb
  go_wp2_with fail
  refine (same_yes _ _ 20 _ _ (pdZ pX 0 lX) zX _ (HO.out.alloc _).rd (rd_lit (heap_alloc_new w1 _) zX_bd rfl) zX_eq (by decide)).mono ?_
  rintro e w2 ⟨rfl, m, rfl⟩
  go_wp2_with fail
  go_ret
  exact ⟨rfl, bdrewN (HB.out.alloc (by omega) _) m⟩
end Go.Proofs.Ytfojfdlapekjoaa

/- pdu.Write, all ways told as one. Each theorem states its conditions. -/
namespace Go.Proofs.Ytfojfdlapekjoaa
open Go.RowKit
set_option linter.unusedVariables false

/-- n bytes and a number -/
def WrP (w : World) (n : Nat) (X : Int) (z : Nat → Int) (e : Ending) (w' : World) : Prop :=
  ∃ A c, e = .returned (.tuple #[.slice A n c, .int .i64 X]) ∧ Rd w' A n z ∧ n ≤ c ∧ c ≤ maxLen ∧ Below w.heap.size w w' ∧ (X = 0 → ∃ g, A = some ⟨g, 0, none⟩ ∧ w.heap.size ≤ g ∧ Own8 w' g n c z)
/-- what Write says, how many bytes, which -/
def wrX (p : Pd) (L : Nat → It) (m0 : Nat) : Int := if cls p.kd = 5 ∨ fitP p (cls p.kd) = false then 1 else if m0 < p.m ∨ 1492 < hdN (cls p.kd) + sz L p.m then 2 else 0
def wrN (p : Pd) (L : Nat → It) (m0 : Nat) : Nat := if wrX p L m0 = 0 then hdN (cls p.kd) + sz L p.m else 0
def wrZ (p : Pd) (L : Nat → It) (m0 : Nat) : Nat → Int := if wrX p L m0 = 0 then pdZ p (cls p.kd) L else fun _ => 0
theorem cls_le (k : Int) : cls k ≤ 5 := by unfold cls; (repeat' split) <;> omega
theorem wr_none {w w' : World} {X : Int} {e : Ending} (hX : X ≠ 0) (he : e = .returned (.tuple #[.slice none 0 0, .int .i64 X])) (hb : Below w.heap.size w w') : WrP w 0 X (fun _ => 0) e w' :=
  ⟨none, 0, he, ⟨.inl rfl, fun _ => ⟨Int.le_refl 0, (by decide : (0 : Int) ≤ 255)⟩⟩, Nat.le_refl _, by decide, hb, fun h => absurd h hX⟩
theorem wr_1 (p : Pd) (L : Nat → It) (m0 : Nat) (h : cls p.kd = 5 ∨ fitP p (cls p.kd) = false) : wrX p L m0 = 1 ∧ wrN p L m0 = 0 ∧ wrZ p L m0 = fun _ => 0 := by
  have h1 : wrX p L m0 = 1 := if_pos h
  refine ⟨h1, ?_, ?_⟩
  · unfold wrN; rw [h1]; rfl
  · unfold wrZ; rw [h1]; rfl
theorem wr_2 (p : Pd) (L : Nat → It) (m0 : Nat) (h : ¬ (cls p.kd = 5 ∨ fitP p (cls p.kd) = false)) (h2 : m0 < p.m ∨ 1492 < hdN (cls p.kd) + sz L p.m) : wrX p L m0 = 2 ∧ wrN p L m0 = 0 ∧ wrZ p L m0 = fun _ => 0 := by
  have h1 : wrX p L m0 = 2 := by unfold wrX; rw [if_neg h, if_pos h2]
  refine ⟨h1, ?_, ?_⟩
  · unfold wrN; rw [h1]; rfl
  · unfold wrZ; rw [h1]; rfl
theorem wr_0 (p : Pd) (L : Nat → It) (m0 : Nat) (h : ¬ (cls p.kd = 5 ∨ fitP p (cls p.kd) = false)) (h2 : ¬ (m0 < p.m ∨ 1492 < hdN (cls p.kd) + sz L p.m)) : wrX p L m0 = 0 ∧ wrN p L m0 = hdN (cls p.kd) + sz L p.m ∧ wrZ p L m0 = pdZ p (cls p.kd) L := by
  have h1 : wrX p L m0 = 0 := by unfold wrX; rw [if_neg h, if_neg h2]
  refine ⟨h1, ?_, ?_⟩
  · unfold wrN; rw [if_pos h1]
  · unfold wrZ; rw [if_pos h1]
theorem wrN_le (p : Pd) (L : Nat → It) (m0 : Nat) : wrN p L m0 ≤ 1492 := by
  unfold wrN wrX
  by_cases h : cls p.kd = 5 ∨ fitP p (cls p.kd) = false
  · rw [if_pos h]; simp
  · rw [if_neg h]
    by_cases h2 : m0 < p.m ∨ 1492 < hdN (cls p.kd) + sz L p.m
    · rw [if_pos h2]; simp
    · rw [if_neg h2]; simp only [if_true]; omega
theorem wrX_bd (p : Pd) (L : Nat → It) (m0 : Nat) : 0 ≤ wrX p L m0 ∧ wrX p L m0 ≤ 2 := by
  unfold wrX; (repeat' split) <;> omega
theorem write_any (p : Pd) (hp : PdOk p) (L : Nat → It) (m0 : Nat) (hm : JEnds L p.m m0) (w : World) (hin : PdIn w p L) :
    Calls Try.prog 12 #[.agg (pdC p)] w (WrP w (wrN p L m0) (wrX p L m0) (wrZ p L m0)) := by
  have hc := cls_le p.kd
  by_cases h5 : cls p.kd = 5
  · obtain ⟨e1, e2, e3⟩ := wr_1 p L m0 (.inl h5)
    rw [e1, e2, e3]
    exact (write_5 p h5 w).mono fun e w' h => wr_none (by decide) h.1 h.2
  · have hq : cls p.kd ≤ 4 := by omega
    cases hf : fitP p (cls p.kd)
    · obtain ⟨e1, e2, e3⟩ := wr_1 p L m0 (.inr hf)
      rw [e1, e2, e3]
      exact (write_nofit p _ rfl hq hp hf w).mono fun e w' h => wr_none (by decide) h.1 h.2
    · have hn : ¬ (cls p.kd = 5 ∨ fitP p (cls p.kd) = false) := by rw [hf]; simpa using h5
      by_cases hlt : m0 < p.m
      · obtain ⟨e1, e2, e3⟩ := wr_2 p L m0 hn (.inl hlt)
        rw [e1, e2, e3]
        exact (write_join p _ rfl hq hp hf L m0 hm hlt w hin).mono fun e w' h => wr_none (by decide) h.1 h.2
      · obtain rfl : m0 = p.m := by have := hm.1; omega
        by_cases hl : 1492 < hdN (cls p.kd) + sz L p.m
        · obtain ⟨e1, e2, e3⟩ := wr_2 p L p.m hn (.inr hl)
          rw [e1, e2, e3]
          exact (write_long p _ rfl hq hp hf L hm hl w hin).mono fun e w' h => wr_none (by decide) h.1 h.2
        · obtain ⟨e1, e2, e3⟩ := wr_0 p L p.m hn (by omega)
          rw [e1, e2, e3]
          refine (write_ok p _ rfl hq hp hf L hm (by omega) w hin).mono fun e w' h => ?_
          obtain ⟨v, rfl, ho, hb⟩ := h
          have h17 := hdN_bd _ hq
          obtain ⟨g, cap, rfl, hg, hO⟩ := own_ofB ho (by omega)
          exact ⟨_, _, rfl, hO.rd, hO.caps.1, hO.caps.2, hb, fun _ => ⟨g, rfl, hg, hO⟩⟩
/-- packets that have the same in all fields of their kind -/
def PdLike (p p' : Pd) : Prop := p.kd = p'.kd ∧ p.m = p'.m ∧ ∀ i, i < (flC (cls p.kd)).length → fitB p (fAt (cls p.kd) i) = fitB p' (fAt (cls p.kd) i) ∧ ∀ W, fZ p W (fAt (cls p.kd) i) = fZ p' W (fAt (cls p.kd) i)
theorem accZ_congr {p p' : Pd} {q W : Nat} (hk : p.kd = p'.kd) (n : Nat) (h : ∀ i, i < n → fZ p W (fAt q i) = fZ p' W (fAt q i)) : accZ p W q n = accZ p' W q n := by
  induction n with
  | zero => simp only [accZ, hk]
  | succ n ih => simp only [accZ, ih fun i hi => h i (by omega), h n (by omega)]
theorem fitsTo_congr {p p' : Pd} {q : Nat} (n : Nat) (h : ∀ i, i < n → fitB p (fAt q i) = fitB p' (fAt q i)) : fitsTo p q n = fitsTo p' q n := by
  induction n with
  | zero => rfl
  | succ n ih => simp only [fitsTo, ih fun i hi => h i (by omega), h n (by omega)]
theorem pdZ_like {p p' : Pd} (h : PdLike p p') (L : Nat → It) : pdZ p (cls p.kd) L = pdZ p' (cls p'.kd) L := by
  obtain ⟨h1, h2, h3⟩ := h
  have hw : wZ p (cls p.kd) L = wZ p' (cls p.kd) L := by
    unfold wZ
    rw [h2, accZ_congr (p' := p') h1 _ fun i hi => (h3 i hi).2 _]
  unfold pdZ
  rw [← h1, hw, h2]
theorem wr_like {p p' : Pd} (h : PdLike p p') (L : Nat → It) (m0 : Nat) : wrX p L m0 = wrX p' L m0 ∧ wrN p L m0 = wrN p' L m0 ∧ wrZ p L m0 = wrZ p' L m0 := by
  have hz := pdZ_like h L
  obtain ⟨h1, h2, h3⟩ := h
  have hf : fitP p (cls p.kd) = fitP p' (cls p'.kd) := by
    rw [← h1]
    exact fitsTo_congr _ fun i hi => (h3 i hi).1
  have hX : wrX p L m0 = wrX p' L m0 := by
    unfold wrX
    rw [← hf, ← h1, h2]
  refine ⟨hX, ?_, ?_⟩
  · unfold wrN; rw [hX, ← h1, h2]
  · unfold wrZ; rw [hX, hz]
end Go.Proofs.Ytfojfdlapekjoaa

/- A value is equal to itself: entries. Each theorem states its conditions. -/
namespace Go.Proofs.Ytfojfdlapekjoaa
open Go.RowKit
open Go.Extern.Stop (cell)
set_option linter.unusedVariables false

/-- v is equal to itself -/
def SelfEq (d : Nat) (t : TypeId) (v : Value) : Prop := ∀ w, (Op.equalIn d t v v).run Try.prog w = .ok true w
theorem eqFields_self (d : Nat) (xs : Array Value) : ∀ fs : List Field, (∀ f ∈ fs, ∃ u, (∀ w, (part f.type xs f.offset).run Try.prog w = .ok u w) ∧ SelfEq d f.type u) → ∀ w, (Op.eqFields d xs xs fs).run Try.prog w = .ok true w := by
  intro fs
  induction fs with
  | nil => intro _ w; rfl
  | cons f fs ih =>
    intro h w
    obtain ⟨u, h1, h2⟩ := h f (List.mem_cons_self ..)
    have h3 := ih (fun g hg => h g (List.mem_cons_of_mem _ hg))
    unfold Op.eqFields
    by_cases hn : f.name ≠ "_"
    · rw [if_pos hn]
      simp only [Sem.run_bind, h1, Result.andThen_ok, h2 w]
      simpa using h3 w
    · rw [if_neg hn]
      exact h3 w
theorem self_struct (d : Nat) (t : TypeId) (xs : Array Value) (l : List (TypeId × Nat)) (ht : Try.prog.underlying t = some (.struct (Try.prog.fieldsOf t))) (hp : Try.prog.stoodInHeld t = false) (hl : (Try.prog.fieldsOf t).toList.map (fun f => (f.type, f.offset)) = l)
    (h : ∀ p ∈ l, ∃ u, (∀ w, (part p.1 xs p.2).run Try.prog w = .ok u w) ∧ SelfEq d p.1 u) : SelfEq (d + 1) t (.agg xs) := by
  intro w
  rw [run_equalIn_struct w d t xs xs ht hp]
  refine eqFields_self d xs _ (fun f hf => ?_) w
  exact h (f.type, f.offset) (by rw [← hl]; exact List.mem_map.2 ⟨f, hf, rfl⟩)
theorem self_int (d : Nat) (t : TypeId) (k : IntKind) (n : Int) (h : Try.prog.underlying t = some (.int k)) : SelfEq (d + 1) t (.int k n) := fun w => by rw [run_equalIn_int w d t k k n n h]; simp
theorem self_bool (d : Nat) (t : TypeId) (b : Bool) (h : Try.prog.underlying t = some .bool) : SelfEq (d + 1) t (.bool b) := fun w => by rw [run_equalIn_bool w d t b b h]; simp
theorem size_u8 : ∀ w, (sizeOf 5).run Try.prog w = .ok 1 w := by
  obtain ⟨i, hi, _, hz1, _⟩ := info_parts info_u8
  intro w
  simp [sizeOf, typeInfo, hi, hz1]
theorem vals_cells (z : Nat → Int) (n : Nat) (hz : ∀ j, 0 ≤ z j ∧ z j ≤ 255) : vals z n = (((List.range n).map fun j => UInt8.ofNat (z j).toNat).map cell) := by
  unfold vals
  rw [List.map_map]
  apply List.map_congr_left
  intro j _
  have := hz j
  simp [cell]
  omega
theorem self_bytes (d n : Nat) (t : TypeId) (z : Nat → Int) (hz : ∀ j, 0 ≤ z j ∧ z j ≤ 255) (h : Try.prog.underlying t = some (.array n 5)) : SelfEq (d + 2) t (.agg (vals z n).toArray) := by
  intro w
  rw [vals_cells z n hz]
  rw [run_equalIn_bytes w d t 5 n h Try.underlying5 size_u8 _ _ (by simp) (by simp)]
  simp

theorem self_node (d : Nat) (s : Nat → Int) (hs : ∀ j, 0 ≤ s j ∧ s j ≤ 255) : SelfEq (d + 3) 25 (.agg (vals s 7).toArray) := by
  refine self_struct (d + 2) _ _ [(23, 0), (5, 6)] (by kernel_rfl) (by kernel_rfl) (by kernel_rfl) (fun p hp => ?_)
  simp only [List.mem_cons, List.not_mem_nil, or_false] at hp
  rcases hp with rfl | rfl
  · exact ⟨.agg (vals s 6).toArray, fun w => by kernel_rfl, self_bytes d 6 _ s hs Try.underlying23⟩
  · exact ⟨.int .u8 (s 6), fun w => by kernel_rfl, self_int (d + 1) _ .u8 _ Try.underlying5⟩
theorem self_id (d : Nat) (s : Nat → Int) (hs : ∀ j, 0 ≤ s j ∧ s j ≤ 255) : SelfEq (d + 4) 27 (.agg (idC s)) := by
  refine self_struct (d + 3) _ _ [(25, 0), (5, 7)] (by kernel_rfl) (by kernel_rfl) (by kernel_rfl) (fun p hp => ?_)
  simp only [List.mem_cons, List.not_mem_nil, or_false] at hp
  rcases hp with rfl | rfl
  · exact ⟨.agg (vals s 7).toArray, fun w => by kernel_rfl, self_node d s hs⟩
  · exact ⟨.int .u8 (s 7), fun w => by kernel_rfl, self_int (d + 2) _ .u8 _ Try.underlying5⟩
theorem self_en (d : Nat) (e : En) (h : EnOk e) : SelfEq (d + 5) 96 (.agg (enC e)) := by
  refine self_struct (d + 4) _ _ [(27, 0), (28, 8), (3, 9), (65, 10)] (by kernel_rfl) (by kernel_rfl) (by kernel_rfl) (fun p hp => ?_)
  simp only [List.mem_cons, List.not_mem_nil, or_false] at hp
  rcases hp with rfl | rfl | rfl | rfl
  · exact ⟨.agg (idC e.s), fun w => by kernel_rfl, self_id d e.s h.1⟩
  · exact ⟨.int .u32 (e.sq : Int), fun w => by kernel_rfl, self_int (d + 3) _ .u32 _ Try.underlying28⟩
  · exact ⟨.int .i64 e.li, fun w => by kernel_rfl, self_int (d + 3) _ .i64 _ Try.underlying3⟩
  · exact ⟨.int .u16 (e.su : Int), fun w => by kernel_rfl, self_int (d + 3) _ .u16 _ Try.underlying65⟩
/-- != of a value with itself, as an operation -/
theorem neq_self (o : Oper) (e : Operand → Value) (x y : Operand) (t t' : TypeId) (ho : o.op = .binOp .neq t x y t') (htt : t = t') (hg : Try.prog.eqGuardType Try.prog.depth t = false) (xs : Array Value) (hs : SelfEq 10000 t (.agg xs)) (h0 : e x = .agg xs) (h1 : e y = .agg xs) (W : World) :
    (execOp e o).run Try.prog W = .ok (.value (.bool false)) W := by
  subst htt
  unfold execOp
  simp only [ho, h0, h1]
  simp [Sem.run_bind, run_eqGuard_agg _ _ _ _ _ _ _ hg, run_neq_struct, hs W]
end Go.Proofs.Ytfojfdlapekjoaa

/- The document's comparison of two lists of waymark/api.Entry: the same are the same; and an append of such a list. Each theorem states its conditions. -/
namespace Go.Proofs.Ytfojfdlapekjoaa
open Go.RowKit
set_option linter.unusedVariables false

theorem guard_N : Try.prog.eqGuardType Try.prog.depth 96 = false := by kernel_rfl
theorem hi_N (cs : Array Value) (h : cs.size = 11) : (Try.prog.info? 96).map (·.size) = some cs.toList.length := by
  rw [Array.length_toList, h]
  kernel_rfl
set_option maxHeartbeats 1000000 in
set_option maxRecDepth 100000 in
theorem sameN_yes (A B : Option Addr) (m c d : Nat) (C : Nat → Array Value) (w : World) (ha : RdR w A m 11 C) (hb : RdR w B m 11 C) (hs : ∀ j, j < m → SelfEq 10000 96 (.agg (C j))) (hz : ∀ j, (C j).size = 11) (hm : m ≤ 140737488351232) :
    Calls Try.prog 27 #[.slice A m c, .slice B m d] w fun e w' => e = .returned (.bool true) ∧ ∃ k, w' = w.drewN k := by
  rcases Nat.eq_zero_or_pos m with rfl | hn
  · clear ha hb hs
    go_enter Try.func27, Try.ntmps27
    go_wp2
    refine wp_loop_rounds 1 ?_
    rw [rounds_succ]
    go_wp2
    go_ret
    exact ⟨rfl, 0, rfl⟩
  · obtain ⟨b, off, rfl, hr⟩ := ha.row hn
    obtain ⟨b', off', rfl, hr'⟩ := hb.row hn
    have HR := Lib.hid hr
    have HR' := Lib.hid hr'
    have HS := Lib.hid hs
    have HZ := Lib.hid hz
    clear ha hb hr hr' hs hz
    go_enter Try.func27, Try.ntmps27
    go_wp2
    go_loopw [13] (fun t wr => ∃ k r : Nat, k ≤ m ∧ t = .int .i64 k ∧ Hid (wr = w.drewN r)) (fun t _ => m - (intOf t).toNat)
    case atStart => exact ⟨0, 0, by omega, rfl, Lib.hid rfl⟩
    case round =>
      obtain ⟨k, r, hk, rfl, hw⟩ := hrel
      by_cases hlt : k < m
      · have h1 : Hid (wr.drew.rangeAt b (off + k * 11) (C k).toList) := Lib.hid (by rw [hw.out]; exact HR.out.2 k hlt)
        have h2 : Hid (wr.drew.rangeAt b' (off' + k * 11) (C k).toList) := Lib.hid (by rw [hw.out]; exact HR'.out.2 k hlt)
        have hki : (k : Int) < (m : Int) := by omega
        go_wp2_with fail
        refine wp_region_held_drew (S := fun w' => w' = wr.drew) (by kernel_rfl) rfl (fun _ => ?_)
        refine takeY (i := 0) (some 16) (v := .slice (some ⟨b, off, none⟩) m c) rfl rfl (by kernel_rfl) (by kernel_rfl) (by kernel_rfl) (fun _ _ _ h => h) (by rfl) (fun w' hS => by go_simp) rfl ?_
        simp only [Act.put, List.setIfInBounds_toArray, List.set_cons_zero, List.set_cons_succ]
        refine takeY (i := 1) (some 17) (v := .int .i64 k) rfl rfl (by kernel_rfl) (by kernel_rfl) (by kernel_rfl) (fun _ _ _ h => h) (by rfl) (fun w' hS => by go_simp) rfl ?_
        simp only [Act.put, List.setIfInBounds_toArray, List.set_cons_zero, List.set_cons_succ]
        refine takeY (i := 2) (some 18) (v := .pointer (some ⟨b, off + k * 11, none⟩)) rfl rfl (by kernel_rfl) (by kernel_rfl) (by kernel_rfl) (fun _ _ _ h => h) (by rfl) (fun w' hS => by clear hS; go_simp) rfl ?_
        simp only [Act.put, List.setIfInBounds_toArray, List.set_cons_zero, List.set_cons_succ]
        refine takeL (i := 3) (some 19) 96 (.tmp 18) b (off + k * 11) (C k) _ rfl rfl (by kernel_rfl) (by kernel_rfl) (by kernel_rfl) (fun _ _ _ h => h) (by rfl) rfl rfl (fun w' hS => by rw [hS]; exact h1.out) Try.underlying96 rfl (hi_N _ (HZ.out k)) rfl ?_
        simp only [Act.put, List.setIfInBounds_toArray, List.set_cons_zero, List.set_cons_succ]
        refine takeY (i := 4) (some 20) (v := .slice (some ⟨b', off', none⟩) m d) rfl rfl (by kernel_rfl) (by kernel_rfl) (by kernel_rfl) (fun _ _ _ h => h) (by rfl) (fun w' hS => by go_simp) rfl ?_
        simp only [Act.put, List.setIfInBounds_toArray, List.set_cons_zero, List.set_cons_succ]
        refine takeY (i := 5) (some 21) (v := .int .i64 k) rfl rfl (by kernel_rfl) (by kernel_rfl) (by kernel_rfl) (fun _ _ _ h => h) (by rfl) (fun w' hS => by go_simp) rfl ?_
        simp only [Act.put, List.setIfInBounds_toArray, List.set_cons_zero, List.set_cons_succ]
        refine takeY (i := 6) (some 22) (v := .pointer (some ⟨b', off' + k * 11, none⟩)) rfl rfl (by kernel_rfl) (by kernel_rfl) (by kernel_rfl) (fun _ _ _ h => h) (by rfl) (fun w' hS => by clear hS; go_simp) rfl ?_
        simp only [Act.put, List.setIfInBounds_toArray, List.set_cons_zero, List.set_cons_succ]
        refine takeL (i := 7) (some 23) 96 (.tmp 22) b' (off' + k * 11) (C k) _ rfl rfl (by kernel_rfl) (by kernel_rfl) (by kernel_rfl) (fun _ _ _ h => h) (by rfl) rfl rfl (fun w' hS => by rw [hS]; exact h2.out) Try.underlying96 rfl (hi_N _ (HZ.out k)) rfl ?_
        simp only [Act.put, List.setIfInBounds_toArray, List.set_cons_zero, List.set_cons_succ]
        refine takeY (i := 8) (some 24) (v := .bool false) rfl rfl (by kernel_rfl) (by kernel_rfl) (by kernel_rfl) (fun _ _ _ h => h) (by rfl) (fun w' _ => neq_self _ _ (.tmp 19) (.tmp 23) _ _ rfl rfl guard_N (C k) (HS.out k hlt) rfl rfl w') rfl ?_
        simp only [Act.put, List.setIfInBounds_toArray, List.set_cons_zero, List.set_cons_succ]
        refine wpAnyH_done (by kernel_rfl) ?_ _
        have hwd : Hid (wr.drew = w.drewN (r + 1)) := Lib.hid (by rw [hw.out]; rfl)
        clear h1 h2
        go_wp2
        go_roundw
        case rel => exact ⟨k + 1, r + 1, by omega, by go_num, hwd⟩
        case measure => simp [intOf]; omega
      · obtain rfl : k = m := by omega
        go_wp2
        go_ret
        exact ⟨rfl, r, hw.out⟩
theorem infoA_N : (Try.prog.info? 96).map (fun i => (i.zero, i.size, i.bytes)) = some (some (.agg #[.int .u8 0, .int .u8 0, .int .u8 0, .int .u8 0, .int .u8 0, .int .u8 0, .int .u8 0, .int .u8 0, .int .u32 0, .int .i64 0, .int .u16 0]), 11, 32) := by kernel_rfl
/-- 'append(l, x...)' of a list that came in to a list of the call's own -/
theorem app_N {ops : Array Oper} {rest : List Oper} {o : Oper} {a : Act} {w : World} {Q : Exit → Act → World → Prop} (hgd : o.guard = none) (s x : Operand)
    (ho : o.op = .call { callee := .builtin .append, args := #[s, x], argTypes := #[55, 55] })
    (w0 : World) (v : Value) (n : Nat) (xs : List Value) (hs : a.eval s = v) (hown : w.ownsRow w0.heap.size 96 11 v n xs) (hb : Below w0.heap.size w0 w)
    (A : Option Addr) (m c : Nat) (C : Nat → Array Value) (hx : a.eval x = .slice A m c) (hR : RdR w A m 11 C) (hA : A = none → m = 0 ∧ c = 0) (hC : Recs 11 C) (hbd : (n + m) * 32 ≤ 140737488355328)
    (h : ∀ v' w', w'.ownsRow w0.heap.size 96 11 v' (n + m) (xs ++ cellsR C m) → Below w0.heap.size w0 w' → w.heap.size ≤ w'.heap.size → (∀ k, k < w.heap.size → v.ownBlock ≠ some k → w'.heap[k]? = w.heap[k]? ∧ v'.ownBlock ≠ some k) → wpList Try.prog ops Q rest (a.put o.dst v') w') :
    wpList Try.prog ops Q (o :: rest) a w := by
  obtain ⟨i0, hi, hz0, hz1, hz2⟩ := info_parts infoA_N
  rcases A with _ | ad
  · obtain ⟨rfl, rfl⟩ := hA rfl
    refine wpList_append_own_none hgd s x _ ho w0.heap.size 96 i0 11 Try.underlying55 hi v n xs hs hown hx ?_
    exact h v w (by simpa [cellsR] using hown) hb (Nat.le_refl _) (fun k _ hne => ⟨rfl, hne⟩)
  · refine wpList_append_own_at w hgd s x _ ho w0.heap.size 96 i0 _ 11 32 Try.underlying55 hi hz0 hz1 hz2 rfl (by decide) v n xs hs hown ad m c (cellsR C m) hx (cellsR_len hC m) (recs_news hC (by decide) hR) (cellsR_one hC m) (by unfold maxLen; omega) hbd hb.size ?_
    intro v' w' h2 h3 h4 h5
    refine h v' w' h2 (hb.grown h3 hb.size (fun k e => (hown.lt k e).1)) h3.size (fun k hk hne => ⟨h3.block k hk (fun e => hne e.symm), fun e => ?_⟩)
    rcases h5 with h5 | h5
    · rw [h5] at e; exact hne e
    · rw [h5] at e; injection e with e; omega
end Go.Proofs.Ytfojfdlapekjoaa

/- An append of one entry as a step of a drawn region; an entry is built. Each theorem states its conditions. -/
namespace Go.Proofs.Ytfojfdlapekjoaa
open Go.RowKit
set_option linter.unusedVariables false

theorem build_en (o : Oper) (e : Operand → Value) (x0 x1 x2 x3 : Operand) (ho : o.op = .build 96 #[(2, x2), (0, x0), (1, x1), (3, x3)]) (E : En) (h0 : e x0 = .agg (idC E.s)) (h1 : e x1 = .int .u32 (E.sq : Int)) (h2 : e x2 = .int .i64 E.li) (h3 : e x3 = .int .u16 (E.su : Int)) (W : World) :
    (execOp e o).run Try.prog W = .ok (.value (.agg (enC E))) W := by
  unfold execOp
  simp only [ho]
  simp only [List.map_toArray, List.map_cons, List.map_nil, h0, h1, h2, h3]
  kernel_rfl
theorem takeAN {ops : Array Oper} {Q : Exit → Act → World → Prop} {md : Region.Mode} {S : World → Prop} {i : Nat} {oi : Oper} (d : Option Tmp) {fuel : Nat} {listed : Array Bool} {a : Act} {w : World} (s x : Operand) (hi' : ops[i]? = some oi) (hd : oi.dst = d)
    (hr : Region.ready md ops listed = [i]) (hw : Region.wanted oi (yielded ops a.tmps) = true)
    (ho : oi.op = .call { callee := .builtin .append, args := #[s, x], argTypes := #[55, 55] })
    (w0 : World) (v : Value) (n : Nat) (xs : List Value) (hs : a.eval s = v) (hown : w.ownsRow w0.heap.size 96 11 v n xs) (hb : Below w0.heap.size w0 w)
    (ad : Addr) (c : Nat) (C : Array Value) (hx : a.eval x = .slice (some ad) 1 c) (hR : RdR w (some ad) 1 11 (fun _ => C)) (hC : Recs 11 (fun _ => C)) (hbd : (n + 1) * 32 ≤ 140737488355328)
    (h : ∀ v' w', w'.ownsRow w0.heap.size 96 11 v' (n + 1) (xs ++ C.toList) → Below w0.heap.size w0 w' → w.heap.size ≤ w'.heap.size → S w' ∧ wpAnyH Try.prog md ops Q S fuel (listed.setIfInBounds i true) (a.put d v') w') :
    wpAnyH Try.prog md ops Q S (fuel + 1) listed a w := by
  obtain ⟨i0, hi, hz0, hz1, hz2⟩ := info_parts infoA_N
  have hc1 : cellsR (fun _ => C) 1 = C.toList := by simp [cellsR]
  obtain ⟨v', w', hr', h2, h3, h4, h5⟩ := run_append_own_at (P := Try.prog) w w0.heap.size 55 oi.type 96 i0 _ 11 32 Try.underlying55 hi hz0 hz1 hz2 rfl (by decide) v n xs hown ad 1 c (cellsR (fun _ => C) 1) (cellsR_len hC 1) (recs_news hC (by decide) hR) (cellsR_one hC 1) (by unfold maxLen; omega) hbd hb.size
  rw [hc1] at h2
  obtain ⟨h7, h8⟩ := h v' w' h2 (hb.grown h3 hb.size (fun k e => (hown.lt k e).1)) h3.size
  refine takeV d hi' hd hr hw ?_ h7 h8
  unfold execOp
  simp only [ho, resolve, invoke, builtin, Sem.run_bind, Sem.run_pure, Result.andThen_ok, List.map_toArray, List.map_cons, List.map_nil, hs, hx, hr']
end Go.Proofs.Ytfojfdlapekjoaa

/- pdu.GetEntries reads entries. Each theorem states its conditions. -/
namespace Go.Proofs.Ytfojfdlapekjoaa
open Go.RowKit
set_option linter.unusedVariables false

theorem fold_set {α : Type} (X A : Array α) (n : Nat) (hX : X.size = n) (hA : A.size = n) : Array.foldl (fun cs (x : α × Nat) => cs.setIfInBounds x.snd x.fst) A X.zipIdx 0 n = X := by
  have hz : X.zipIdx.size = n := by simpa using hX
  have key : (Array.foldl (fun cs (x : α × Nat) => cs.setIfInBounds x.snd x.fst) A X.zipIdx).size = n ∧ ∀ j, j < X.zipIdx.size → (Array.foldl (fun cs (x : α × Nat) => cs.setIfInBounds x.snd x.fst) A X.zipIdx)[j]? = X[j]? := by
    refine Array.foldl_induction (motive := fun (i : Nat) (acc : Array α) => acc.size = n ∧ ∀ j, j < i → acc[j]? = X[j]?) ⟨hA, fun j hj => by omega⟩ (fun i b hb => ?_)
    refine ⟨by simpa using hb.1, fun j hj => ?_⟩
    have hi : i.1 < X.size := by have := i.2; simpa using this
    simp only [Fin.getElem_fin, Array.getElem_zipIdx, Nat.zero_add]
    rw [Array.getElem?_setIfInBounds]
    by_cases e : i.1 = j
    · subst e
      rw [if_pos rfl, if_pos (by rw [hb.1]; omega), Array.getElem?_eq_getElem hi]
    · rw [if_neg e]
      exact hb.2 j (by omega)
  rw [hz] at key
  apply Array.ext_getElem?
  intro j
  by_cases hj : j < n
  · exact key.2 j hj
  · rw [Array.getElem?_eq_none (by omega), Array.getElem?_eq_none (by omega)]

theorem rdR_one' {w : World} {B s : Nat} {C : Array Value} {t : TypeId} (h : w.heap[B]? = some (.cells C t (0, 0))) : RdR w (some ⟨B, 0, none⟩) 1 s (fun _ => C) := by
  refine .inr ⟨B, 0, rfl, (Array.getElem?_eq_some_iff.1 h).1, fun j hj i u hu => ?_⟩
  obtain rfl : j = 0 := by omega
  rw [Nat.zero_mul, Nat.zero_add, cell_of_row w B i _ _ _ h]
  simpa using hu
theorem Row8.cut {w : World} {b off n : Nat} {z : Nat → Int} (h : Row8 w b off n z) (m : Nat) (hm : m ≤ n) : Row8 w b off m z := ⟨h.1, fun j hj => h.2.1 j (by omega), h.2.2⟩
theorem Row8.below' {w w' : World} {b off n : Nat} {z : Nat → Int} (h : Row8 w b off n z) (hb : Below w.heap.size w w') : Row8 w' b off n z := h.below hb h.1
/-- the entry that sixteen bytes are -/
def gEn (z : Nat → Int) : En := ⟨fun j => z (2 + j), (numZ (fun j => z (10 + j)) 0 4).toNat, ((numZ z 0 2).toNat : Int), (numZ (fun j => z (14 + j)) 0 2).toNat⟩
def nC (z : Nat → Int) (k : Nat) : Array Value := enC (gEn (fun j => z (16 * k + j)))
theorem recs_nC (z : Nat → Int) : Recs 11 (nC z) := fun j => ⟨rfl, enC_one _⟩
theorem n2_bd (z : Nat → Int) (hz : ∀ j, 0 ≤ z j ∧ z j ≤ 255) : (numZ z 0 2).toNat ≤ 65535 := by
  have h := numZ_lt z 0 2 (fun j => hz _)
  have e : (256 : Int) ^ 2 = 65536 := by decide
  omega
theorem n4_bd (z : Nat → Int) (hz : ∀ j, 0 ≤ z j ∧ z j ≤ 255) : (numZ z 0 4).toNat ≤ 4294967295 := by
  have h := numZ_lt z 0 4 (fun j => hz _)
  have e : (256 : Int) ^ 4 = 4294967296 := by decide
  omega
theorem wI (N : Nat) (h : N ≤ 65535) : IntKind.i64.wrap (N : Int) = (N : Int) := by simp [IntKind.wrap, IntKind.signed, IntKind.bits]; omega
theorem wU4 (N : Nat) (h : N ≤ 4294967295) : IntKind.u32.wrap (N : Int) = (N : Int) := by simp [IntKind.wrap, IntKind.signed, IntKind.bits]; omega
theorem wU2 (N : Nat) (h : N ≤ 65535) : IntKind.u16.wrap (N : Int) = (N : Int) := by simp [IntKind.wrap, IntKind.signed, IntKind.bits]; omega
def lenV : Value → Nat
  | .slice _ n _ => n
  | _ => 0
theorem build_slice_en (W : World) (o : Oper) (e : Operand → Value) {x : Operand} (ho : o.op = .buildSlice 55 1 #[(0, x)]) (E : En) (h : e x = .agg (enC E)) :
    (execOp e o).run Try.prog W = .ok (.value (.slice (some ⟨W.heap.size, 0, none⟩) 1 1)) (W.alloc (.cells (enC E) 96)) := by
  unfold execOp
  simp only [ho]
  simp only [List.map_toArray, List.map_cons, List.map_nil, h]
  kernel_rfl
set_option maxHeartbeats 16000000 in
set_option maxRecDepth 100000 in
theorem getEntries_any (b off m c : Nat) (z : Nat → Int) (w : World) (hr : Row8 w b off (16 * m) z) (hm0 : 0 < m) (hm : m ≤ 15) (hc : 16 * m ≤ c) (hcm : c ≤ maxLen) :
    Calls Try.prog 24 #[.slice (some ⟨b, off, none⟩) (16 * m) c] w fun e w' => ∃ v, e = .returned (.tuple #[v, .int .i64 0]) ∧ w'.ownsRow w.heap.size 96 11 v m (cellsR (nC z) m) ∧ Below w.heap.size w w' := by
  have HR := Lib.hid hr
  have HZ := Lib.hid hr.2.2
  have hbw := hr.1
  have hML : maxLen = 9223372036854775807 := rfl
  have HCM := Lib.hid hcm
  obtain ⟨n, hn⟩ : ∃ n, 16 * m = n := ⟨_, rfl⟩
  rw [hn] at hc HR ⊢
  have HN := Lib.hid hn
  have q1 : (n : Int) ≤ 255 := by omega
  have q2 : (n : Int) % 16 = 0 := by omega
  rw [hML] at hcm
  clear hr hn hML
  go_enter Try.func24, Try.ntmps24
  go_wp2_with fail
  go_loopw [0, 4] (fun p l wr => ∃ (k q cc : Nat) (A' : Option Addr), k + q = m ∧ cc + 16 * k = c ∧ p = .slice A' (16 * q) cc ∧ Hid (0 < q → A' = some ⟨b, off + 16 * k, none⟩) ∧ Hid (wr.ownsRow w.heap.size 96 11 l k (cellsR (nC z) k)) ∧ Hid (Below w.heap.size w wr))
    (fun p _ _ => lenV p)
  case atStart => exact ⟨0, m, c, some ⟨b, off, none⟩, by omega, by omega, by rw [HN.out], Lib.hid (fun _ => rfl), Lib.hid (World.ownsRow_nil _ _ _ _), Lib.hid (bself w)⟩
  case round =>
    obtain ⟨k, q, cc, A', hkq, hcc, rfl, HA, HO, HW⟩ := hrel
    rcases Nat.eq_zero_or_pos q with rfl | hq
    · obtain rfl : k = m := by omega
      go_wp2_with fail
      go_ret2
      exact ⟨_, rfl, HO.out, HW.out⟩
    · obtain rfl := HA.out hq
      obtain ⟨q', rfl⟩ : ∃ q', q = q' + 1 := ⟨q - 1, by omega⟩
      obtain ⟨L, hL⟩ : ∃ L, 16 * (q' + 1) = L := ⟨_, rfl⟩
      have hLq := Lib.hid (show L - 16 = 16 * q' by omega)
      have hr1 := (HR.out.below HW.out hbw).shift (16 * k) 16 (by have := HN.out; omega)
      have hcl : L ≤ cc := by have := HN.out; omega
      have hL16 : 16 ≤ L := by omega
      have hcc2 : cc ≤ 9223372036854775807 := by omega
      have Hcc : Hid (cc ≤ maxLen) := Lib.hid hcc2
      have Hkk : Hid (k + 1 + q' = m ∧ (cc - 16) + 16 * (k + 1) = c ∧ k ≤ 14) := Lib.hid (by omega)
      have HLL := Lib.hid hL
      have hLd : L ≤ 255 := by omega
      rw [hL]
      clear hL hkq hcc HA hq
      have HCell : Hid (cellsR (nC z) k ++ (nC z k).toList = cellsR (nC z) (k + 1)) := Lib.hid rfl
      obtain ⟨zk, hzk⟩ : ∃ zk, (fun j => z (16 * k + j)) = zk := ⟨_, rfl⟩
      rw [hzk] at hr1
      have HnC : Hid (nC z k = enC (gEn zk)) := Lib.hid (by unfold nC; rw [hzk])
      have hzz : ∀ j, 0 ≤ zk j ∧ zk j ≤ 255 := fun j => by rw [← hzk]; exact HZ.out _
      clear hzk
      obtain ⟨M1, hM1⟩ : ∃ M, (numZ zk 0 2).toNat = M := ⟨_, rfl⟩
      obtain ⟨M2, hM2⟩ : ∃ M, (numZ (fun j => zk (10 + j)) 0 4).toNat = M := ⟨_, rfl⟩
      obtain ⟨M3, hM3⟩ : ∃ M, (numZ (fun j => zk (14 + j)) 0 2).toNat = M := ⟨_, rfl⟩
      have b1 : M1 ≤ 65535 := by rw [← hM1]; exact n2_bd _ hzz
      have b2 : M2 ≤ 4294967295 := by rw [← hM2]; exact n4_bd _ (fun j => hzz _)
      have b3 : M3 ≤ 65535 := by rw [← hM3]; exact n2_bd _ (fun j => hzz _)
      have HEn : Hid (gEn zk = ⟨fun j => zk (2 + j), M2, (M1 : Int), M3⟩) := Lib.hid (by unfold gEn; rw [hM1, hM2, hM3])
      have K1 := Lib.hid (fun (X : World) (hX : Row8 X b (off + 16 * k) 16 zk) => show Calls Try.prog 55 #[.slice (some ⟨b, off + 16 * k, none⟩) 2 cc] X (fun e w' => e = .returned (.int .u64 (M1 : Int)) ∧ w' = X) by rw [← hM1]; exact getNumber_any _ _ 2 _ zk X (hX.cut 2 (by omega)) (by omega) (by omega) (by omega) Hcc.out)
      have K2 := Lib.hid (fun (X : World) (hX : Row8 X b (off + 16 * k) 16 zk) => show Calls Try.prog 55 #[.slice (some ⟨b, off + 16 * k + 10, none⟩) 4 (cc - 10)] X (fun e w' => e = .returned (.int .u64 (M2 : Int)) ∧ w' = X) by rw [← hM2]; exact getNumber_any _ _ 4 _ _ X (hX.shift 10 4 (by omega)) (by omega) (by omega) (by omega) (by have := Hcc.out; omega))
      have K3 := Lib.hid (fun (X : World) (hX : Row8 X b (off + 16 * k) 16 zk) => show Calls Try.prog 55 #[.slice (some ⟨b, off + 16 * k + 14, none⟩) 2 (cc - 14)] X (fun e w' => e = .returned (.int .u64 (M3 : Int)) ∧ w' = X) by rw [← hM3]; exact getNumber_any _ _ 2 _ _ X (hX.shift 14 2 (by omega)) (by omega) (by omega) (by omega) (by have := Hcc.out; omega))
      have K4 := Lib.hid (fun (X : World) (hX : Row8 X b (off + 16 * k) 16 zk) => show Calls Try.prog 56 #[.slice (some ⟨b, off + 16 * k + 2, none⟩) 8 (cc - 2)] X (fun e w' => e = .returned (.agg (idC fun j => zk (2 + j))) ∧ Below X.heap.size X w') by exact getID_any _ _ _ _ X (hX.shift 2 8 (by omega)) (by omega) (by have := Hcc.out; omega))
      clear hM1 hM2 hM3
      obtain ⟨W0, hW0⟩ : ∃ W0, wr.drew = W0 := ⟨_, rfl⟩
      have HR0 : Hid (Row8 W0 b (off + 16 * k) 16 zk) := Lib.hid (by rw [← hW0]; exact hr1)
      have HB0 : Hid (Below w.heap.size w W0) := Lib.hid (by rw [← hW0]; exact HW.out.drew)
      have HO0 : Hid (W0.ownsRow w.heap.size 96 11 u4 k (cellsR (nC z) k)) := Lib.hid (by rw [← hW0]; exact HO.out)
      have HWW := Lib.hid hW0
      clear hr1 hW0
      obtain ⟨F, hF⟩ : ∃ F, cellsR (nC z) k = F := ⟨_, rfl⟩
      rw [hF] at HO0 HCell
      clear hF
      go_wp2_with fail
      have i2 : ¬ (cc : Int) < 2 := by omega
      have i10 : ¬ (cc : Int) < 10 := by omega
      have i14 : ¬ (cc : Int) < 14 := by omega
      have i16 : ¬ (cc : Int) < 16 := by omega
      have e0 : ¬ cc = 0 := by omega
      have e2 : ¬ cc = 2 := by omega
      have e10 : ¬ cc = 10 := by omega
      have e14 : ¬ cc = 14 := by omega
      refine wp_region_held_drew (S := fun w' => True) (by kernel_rfl) trivial (fun hS0 => ?_)
      rw [HWW.out]
      refine takeY (i := 0) (some 19) (v := u4) rfl rfl (by kernel_rfl) (by kernel_rfl) (by kernel_rfl) (fun _ _ _ h => h) (by rfl) (fun w' hS => by go_simp) trivial ?_
      simp only [Act.put, List.setIfInBounds_toArray, List.set_cons_zero, List.set_cons_succ]
      refine takeY (i := 1) (some 20) (v := .slice (some ⟨b, off + 16 * k, none⟩) L cc) rfl rfl (by kernel_rfl) (by kernel_rfl) (by kernel_rfl) (fun _ _ _ h => h) (by rfl) (fun w' hS => by go_simp) trivial ?_
      simp only [Act.put, List.setIfInBounds_toArray, List.set_cons_zero, List.set_cons_succ]
      refine takeY (i := 2) (some 21) (v := .slice (some ⟨b, off + 16 * k, none⟩) 2 cc) rfl rfl (by kernel_rfl) (by kernel_rfl) (by kernel_rfl) (fun _ _ _ h => h) (by rfl) (fun w' hS => by go_simp) trivial ?_
      simp only [Act.put, List.setIfInBounds_toArray, List.set_cons_zero, List.set_cons_succ]
      refine takeY (i := 5) (some 24) (v := .slice (some ⟨b, off + 16 * k, none⟩) L cc) rfl rfl (by kernel_rfl) (by kernel_rfl) (by kernel_rfl) (fun _ _ _ h => h) (by rfl) (fun w' hS => by go_simp) trivial ?_
      simp only [Act.put, List.setIfInBounds_toArray, List.set_cons_zero, List.set_cons_succ]
      refine takeY (i := 6) (some 25) (v := .slice (some ⟨b, off + 16 * k + 2, none⟩) 8 (cc - 2)) rfl rfl (by kernel_rfl) (by kernel_rfl) (by kernel_rfl) (fun _ _ _ h => h) (by rfl) (fun w' hS => by go_simp) trivial ?_
      simp only [Act.put, List.setIfInBounds_toArray, List.set_cons_zero, List.set_cons_succ]
      refine takeY (i := 8) (some 27) (v := .slice (some ⟨b, off + 16 * k, none⟩) L cc) rfl rfl (by kernel_rfl) (by kernel_rfl) (by kernel_rfl) (fun _ _ _ h => h) (by rfl) (fun w' hS => by go_simp) trivial ?_
      simp only [Act.put, List.setIfInBounds_toArray, List.set_cons_zero, List.set_cons_succ]
      refine takeY (i := 9) (some 28) (v := .slice (some ⟨b, off + 16 * k + 10, none⟩) 4 (cc - 10)) rfl rfl (by kernel_rfl) (by kernel_rfl) (by kernel_rfl) (fun _ _ _ h => h) (by rfl) (fun w' hS => by go_simp) trivial ?_
      simp only [Act.put, List.setIfInBounds_toArray, List.set_cons_zero, List.set_cons_succ]
      refine takeY (i := 12) (some 31) (v := .slice (some ⟨b, off + 16 * k, none⟩) L cc) rfl rfl (by kernel_rfl) (by kernel_rfl) (by kernel_rfl) (fun _ _ _ h => h) (by rfl) (fun w' hS => by go_simp) trivial ?_
      simp only [Act.put, List.setIfInBounds_toArray, List.set_cons_zero, List.set_cons_succ]
      refine takeY (i := 13) (some 32) (v := .slice (some ⟨b, off + 16 * k + 14, none⟩) 2 (cc - 14)) rfl rfl (by kernel_rfl) (by kernel_rfl) (by kernel_rfl) (fun _ _ _ h => h) (by rfl) (fun w' hS => by go_simp) trivial ?_
      simp only [Act.put, List.setIfInBounds_toArray, List.set_cons_zero, List.set_cons_succ]
      refine takeC (i := 3) (some 22) 55 #[.slice (some ⟨b, off + 16 * k, none⟩) 2 cc] (.int .u64 (M1 : Int)) (R := fun w' => w' = W0) rfl rfl (by kernel_rfl) (by rfl) (by go_simp) (K1.out W0 HR0.out) (fun _ _ => trivial) (fun w8 hw _ => ?_)
      subst w8
      simp only [Act.put, List.setIfInBounds_toArray, List.set_cons_zero, List.set_cons_succ]
      refine takeY (i := 4) (some 23) (v := .int .i64 (M1 : Int)) rfl rfl (by kernel_rfl) (by kernel_rfl) (by kernel_rfl) (fun _ _ _ h => h) (by rfl) (fun w' hS => by first | (go_simp; done) | (go_simp; exact wI _ (by omega))) trivial ?_
      simp only [Act.put, List.setIfInBounds_toArray, List.set_cons_zero, List.set_cons_succ]
      refine takeC (i := 7) (some 26) 56 #[.slice (some ⟨b, off + 16 * k + 2, none⟩) 8 (cc - 2)] (.agg (idC fun j => zk (2 + j))) (R := fun w' => Below W0.heap.size W0 w') rfl rfl (by kernel_rfl) (by rfl) (by go_simp) (K4.out W0 HR0.out) (fun _ _ => trivial) (fun w1 hw _ => ?_)
      have HR1 : Hid (Row8 w1 b (off + 16 * k) 16 zk) := Lib.hid (HR0.out.below' hw)
      have HB1 : Hid (Below w.heap.size w w1) := Lib.hid (HB0.out.trans (hw.mono HB0.out.size))
      have HO1 : Hid (w1.ownsRow w.heap.size 96 11 u4 k F) := Lib.hid (ownsRow_below' HO0.out hw)
      clear hw
      simp only [Act.put, List.setIfInBounds_toArray, List.set_cons_zero, List.set_cons_succ]
      refine takeC (i := 10) (some 29) 55 #[.slice (some ⟨b, off + 16 * k + 10, none⟩) 4 (cc - 10)] (.int .u64 (M2 : Int)) (R := fun w' => w' = w1) rfl rfl (by kernel_rfl) (by rfl) (by go_simp) (K2.out w1 HR1.out) (fun _ _ => trivial) (fun w8 hw _ => ?_)
      subst w8
      simp only [Act.put, List.setIfInBounds_toArray, List.set_cons_zero, List.set_cons_succ]
      refine takeY (i := 11) (some 30) (v := .int .u32 (M2 : Int)) rfl rfl (by kernel_rfl) (by kernel_rfl) (by kernel_rfl) (fun _ _ _ h => h) (by rfl) (fun w' hS => by first | (go_simp; done) | (go_simp; exact wU4 _ (by omega))) trivial ?_
      simp only [Act.put, List.setIfInBounds_toArray, List.set_cons_zero, List.set_cons_succ]
      refine takeC (i := 14) (some 33) 55 #[.slice (some ⟨b, off + 16 * k + 14, none⟩) 2 (cc - 14)] (.int .u64 (M3 : Int)) (R := fun w' => w' = w1) rfl rfl (by kernel_rfl) (by rfl) (by go_simp) (K3.out w1 HR1.out) (fun _ _ => trivial) (fun w8 hw _ => ?_)
      subst w8
      simp only [Act.put, List.setIfInBounds_toArray, List.set_cons_zero, List.set_cons_succ]
      refine takeY (i := 15) (some 34) (v := .int .u16 (M3 : Int)) rfl rfl (by kernel_rfl) (by kernel_rfl) (by kernel_rfl) (fun _ _ _ h => h) (by rfl) (fun w' hS => by first | (go_simp; done) | (go_simp; exact wU2 _ (by omega))) trivial ?_
      simp only [Act.put, List.setIfInBounds_toArray, List.set_cons_zero, List.set_cons_succ]
      have HR1' := HO1.out
      refine takeY (i := 16) (some 35) (v := .agg (enC (gEn zk))) rfl rfl (by kernel_rfl) (by kernel_rfl) (by kernel_rfl) (fun _ _ _ h => h) (by rfl) (fun w' hS => by rw [HEn.out]; exact build_en _ _ _ _ _ _ rfl ⟨fun j => zk (2 + j), M2, (M1 : Int), M3⟩ rfl rfl rfl rfl w') trivial ?_
      simp only [Act.put, List.setIfInBounds_toArray, List.set_cons_zero, List.set_cons_succ]
      refine takeV (i := 17) (some 36) (v := .slice (some ⟨w1.heap.size, 0, none⟩) 1 1) (w' := w1.alloc (.cells (enC (gEn zk)) 96)) rfl rfl (by kernel_rfl) (by rfl) (build_slice_en w1 _ _ rfl _ rfl) trivial ?_
      simp only [Act.put, List.setIfInBounds_toArray, List.set_cons_zero, List.set_cons_succ]
      refine takeAN (i := 18) (some 37) (.tmp 19) (.tmp 36) rfl rfl (by kernel_rfl) (by rfl) rfl w u4 k F rfl (HO1.out.alloc _) (HB1.out.alloc HB1.out.size _) ⟨w1.heap.size, 0, none⟩ 1 (enC (gEn zk)) rfl (rdR_one' (heap_alloc_new _ _)) (fun _ => ⟨rfl, enC_one _⟩) (by have := Hkk.out.2.2; omega) (fun v2 w2 ho2 hb2 hs2 => ⟨trivial, ?_⟩)
      simp only [Act.put, List.setIfInBounds_toArray, List.set_cons_zero, List.set_cons_succ]
      have HO2 := Lib.hid ho2
      have HB2 := Lib.hid hb2
      clear ho2 hb2 hs2
      refine takeY (i := 19) (some 4) (v := v2) rfl rfl (by kernel_rfl) (by kernel_rfl) (by kernel_rfl) (fun _ _ _ h => h) (by rfl) (fun w' hS => by go_simp) trivial ?_
      simp only [Act.put, List.setIfInBounds_toArray, List.set_cons_zero, List.set_cons_succ]
      refine wpAnyH_done (by kernel_rfl) ?_ _
      have HOF : Hid (w2.ownsRow w.heap.size 96 11 v2 (k + 1) (cellsR (nC z) (k + 1))) := Lib.hid (by have h := HO2.out; rw [← HnC.out, HCell.out] at h; exact h)
      have l16 : ¬ (L : Int) < 16 := by omega
      by_cases h16 : cc = 16
      · have hq0 : Hid (q' = 0) := Lib.hid (by have := hLq.out; omega)
        go_wp2_with fail
        go_roundw
        case rel => exact ⟨k + 1, q', cc - 16, some ⟨b, off + 16 * k, none⟩, Hkk.out.1, Hkk.out.2.1, by rw [← hLq.out, h16], Lib.hid (fun h => by have := hq0.out; omega), HOF, HB2⟩
        case measure => simp only [lenV]; omega
      · go_wp2_with fail
        go_roundw
        case rel => exact ⟨k + 1, q', cc - 16, some ⟨b, off + 16 * k + 16, none⟩, Hkk.out.1, Hkk.out.2.1, by rw [← hLq.out], Lib.hid (fun h => by rw [show off + 16 * k + 16 = off + 16 * (k + 1) by omega]), HOF, HB2⟩
        case measure => simp only [lenV]; omega
end Go.Proofs.Ytfojfdlapekjoaa

/- Cells that came in as an argument. Each theorem states its conditions. -/
namespace Go.Proofs.Ytfojfdlapekjoaa
open Go.RowKit Go.ChangeShapes Go.WideShapes
set_option linter.unusedVariables false

theorem numZ_congr (z z' : Nat → Int) (k : Nat) (h : ∀ j, j < k → z j = z' j) : numZ z 0 k = numZ z' 0 k := by
  induction k with
  | zero => rfl
  | succ k ih =>
    show numZ z 0 k * 256 + z (0 + k) = numZ z' 0 k * 256 + z' (0 + k)
    rw [ih fun j hj => h j (by omega), Nat.zero_add, h k (by omega)]
theorem tol (A : Array Value) (i : Nat) : A.toList[i]? = A[i]? := by simp
section
variable {H : Type} {enc : TypeId × Value → H} {w : World} {base : Nat} {spare : Nat → Bool} {held : Bool} {m : Nat} {cs : List Value} {x : DataW H × List MemPlace}
theorem cell_u8 {k : Nat} {o : Option (DataW H × List MemPlace)} (h : DataW.trod enc Try.prog w base spare held m 5 ((cs.drop k).take 1) = o) (ho : o.isSome = true) : ∃ a : Int, cs[k]? = some (.int .u8 a) ∧ 0 ≤ a ∧ a ≤ 255 := by
  obtain ⟨y, rfl⟩ := Option.isSome_iff_exists.1 ho
  obtain ⟨a, ea, _, wa⟩ := DataW.trod_int Try.underlying5 h
  refine ⟨a, ?_, wf_u8 wa⟩
  have := congrArg (·[0]?) ea
  simpa [List.getElem?_take, List.getElem?_drop] using this
theorem bytes_run {n e : Nat} {t : TypeId} (ht : Try.prog.underlying t = some (.array n 5)) {o : Option (DataW H × List MemPlace)} (h : DataW.trod enc Try.prog w base spare held m t ((cs.drop e).take n) = o) (ho : o.isSome = true) :
    ∃ z : Nat → Int, (∀ i, i < n → cs[e + i]? = some (.int .u8 (z i))) ∧ ∀ i, 0 ≤ z i ∧ z i ≤ 255 := by
  obtain ⟨y, rfl⟩ := Option.isSome_iff_exists.1 ho
  have hc1 : Try.prog.cellsOf 5 = 1 := by kernel_rfl
  obtain ⟨ys, m2, _, _, _, hn2, hel2⟩ := DataW.trod_array ht h
  have one : ∀ i, i < n → ∃ a : Int, cs[e + i]? = some (.int .u8 a) ∧ 0 ≤ a ∧ a ≤ 255 := by
    intro i hi
    have he := hel2 i hi
    rw [hc1, Nat.mul_one] at he
    obtain ⟨a, ha, hb⟩ := cell_u8 he (by rw [List.getElem?_eq_getElem (by omega)]; rfl)
    refine ⟨a, ?_, hb⟩
    rwa [List.getElem?_take, if_pos hi, List.getElem?_drop] at ha
  refine ⟨fun i => if h : i < n then (one i h).choose else 0, fun i hi => ?_, fun i => ?_⟩
  · simp only [dif_pos hi]
    exact (one i hi).choose_spec.1
  · by_cases h : i < n
    · simp only [dif_pos h]
      exact (one i h).choose_spec.2
    · simp only [dif_neg h]
      exact ⟨Int.le_refl 0, by decide⟩
end
end Go.Proofs.Ytfojfdlapekjoaa

/- Structs in memory: what is stored into one of them. Each theorem states its conditions. -/
namespace Go.Proofs.Ytfojfdlapekjoaa
open Go.RowKit
set_option linter.unusedVariables false

def putMany (cur : Array Value) : Nat → List Value → Array Value
  | _, [] => cur
  | o, v :: r => putMany (cur.setIfInBounds o v) (o + 1) r
theorem heap_setMany (b : Nat) (t : TypeId) : ∀ (vs : List Value) (o : Nat) (w : World) (cur : Array Value), w.heap[b]? = some (.cells cur t (0, 0)) → (w.setCells b o vs).heap[b]? = some (.cells (putMany cur o vs) t (0, 0)) := by
  intro vs
  induction vs with
  | nil => intro o w cur h; exact h
  | cons v r ih =>
    intro o w cur h
    refine ih (o + 1) _ _ ?_
    simp [World.setCell, Array.getElem?_modify, h]
theorem below_setMany (b : Nat) : ∀ (vs : List Value) (o : Nat) (w : World) (B : Nat), B ≤ b → Below B w (w.setCells b o vs) := by
  intro vs
  induction vs with
  | nil => intro o w B _; exact Below.refl _ _
  | cons v r ih =>
    intro o w B hB
    exact ((Below.refl B w).setCell (p := ⟨b, o, none⟩) hB v).trans (ih (o + 1) _ B hB)
theorem other_setMany (b k : Nat) (hk : k ≠ b) : ∀ (vs : List Value) (o : Nat) (w : World), (w.setCells b o vs).heap[k]? = w.heap[k]? := by
  intro vs
  induction vs with
  | nil => intro o w; rfl
  | cons v r ih =>
    intro o w
    exact (ih (o + 1) _).trans (Below.heap_setCell w ⟨b, o, none⟩ v k hk)
/-- what a store into block b leaves -/
def Stored (w w' : World) (b : Nat) (C : Array Value) (t : TypeId) : Prop := w'.heap[b]? = some (.cells C t (0, 0)) ∧ (∀ B, B ≤ b → Below B w w') ∧ ∀ k, k ≠ b → w'.heap[k]? = w.heap[k]?
theorem run_store_blk (o : Oper) (e : Operand → Value) {w : World} (ty : TypeId) (x y : Operand) (ho : o.op = .store ty x y) (b off : Nat) (hx : e x = .pointer (some ⟨b, off, none⟩)) (v : Value) (cells : Array Value) (hy : e y = v) (hv : v.cells = cells)
    (hi : (Try.prog.info? ty).map (·.size) = some cells.size) (h1 : cells.all (·.oneCell') = true) {C C' : Array Value} {t : TypeId} (hg : w.heap[b]? = some (.cells C t (0, 0))) (hfit : off + cells.size ≤ C.size) (hC : putMany C off cells.toList = C') :
    ∃ w', (execOp e o).run Try.prog w = .ok .skip w' ∧ Stored w w' b C' t := by
  subst hC
  have hthere : ∀ j, j < cells.size → (w.cell? ⟨b, off + j, none⟩).isSome = true ∧ w.frozen? ⟨b, off + j, none⟩ = false := fun j hj => by
    refine ⟨?_, by simp [World.frozen?, hg]⟩
    rw [cell_of_row w b (off + j) _ _ _ hg, Array.getElem?_eq_getElem (by omega)]
    rfl
  have hrun : (storeVar ty ⟨b, off, none⟩ v).run Try.prog w = .ok () (w.setCells b off cells.toList) := by
    have := run_storeCells_cells (P := Try.prog) b off cells.toList 0 w (fun j hj => by simpa using (hthere j (by simpa using hj)).1) (fun j hj => by simpa using (hthere j (by simpa using hj)).2)
      (fun v hv => (Array.all_eq_true_iff_forall_mem.1 h1) v (by simpa using hv))
    cases hq : Try.prog.info? ty with
    | none => simp [hq] at hi
    | some i =>
      have hs : cells.size = i.size := by simp [hq] at hi; omega
      simp only [Nat.add_zero] at this
      simp [storeVar, sizeOf, typeInfo, hq, hv, hs, this]
  refine ⟨_, ?_, heap_setMany b t cells.toList off w C hg, fun B hB => below_setMany b _ off w B hB, fun k hk => other_setMany b k hk _ off w⟩
  unfold execOp
  simp only [ho, hx, hy, Instr.storeAt, Instr.sureAddr, Sem.run_bind, Sem.run_pure, Result.andThen_ok, hrun]
section
variable {ops : Array Oper} {Q : Exit → Act → World → Prop}
/-- a store, in the order of the text -/
theorem wpList_st {rest : List Oper} {op : Oper} {a : Act} {w : World} (hgd : op.guard = none) (ty : TypeId) (x y : Operand) (ho : op.op = .store ty x y) (b off : Nat) (hx : a.eval x = .pointer (some ⟨b, off, none⟩)) (v : Value) (cells : Array Value) (hy : a.eval y = v) (hv : v.cells = cells)
    (hi : (Try.prog.info? ty).map (·.size) = some cells.size) (h1 : cells.all (·.oneCell') = true) {C C' : Array Value} {t : TypeId} (hg : w.heap[b]? = some (.cells C t (0, 0))) (hfit : off + cells.size ≤ C.size) (hC : putMany C off cells.toList = C')
    (h : ∀ w', Stored w w' b C' t → wpList Try.prog ops Q rest (a.put op.dst undef) w') : wpList Try.prog ops Q (op :: rest) a w := by
  obtain ⟨w', hr, hs⟩ := run_store_blk op a.eval ty x y ho b off hx v cells hy hv hi h1 hg hfit hC
  refine wpList_plain hgd fun K hK => ?_
  unfold Oper.wp
  rw [hr, Oper.upon_skip]
  exact hK _ _ (h w' hs)
variable {md : Region.Mode} {S : World → Prop}
/-- a store, where it alone may come up -/
theorem takeSt {i : Nat} {oi : Oper} {fuel : Nat} {listed : Array Bool} {a : Act} {w : World} (ty : TypeId) (x y : Operand) (b off : Nat) (v : Value) (cells : Array Value) {C : Array Value} (C' : Array Value) {t : TypeId} (hi : ops[i]? = some oi) (hd : oi.dst = none)
    (hr : Region.ready md ops listed = [i]) (hw : Region.wanted oi (yielded ops a.tmps) = true) (ho : oi.op = .store ty x y) (hx : a.eval x = .pointer (some ⟨b, off, none⟩)) (hy : a.eval y = v) (hv : v.cells = cells)
    (hz : (Try.prog.info? ty).map (·.size) = some cells.size) (h1 : cells.all (·.oneCell') = true) (hg : w.heap[b]? = some (.cells C t (0, 0))) (hfit : off + cells.size ≤ C.size) (hC : putMany C off cells.toList = C')
    (h : ∀ w', Stored w w' b C' t → S w' ∧ wpAnyH Try.prog md ops Q S fuel (listed.setIfInBounds i true) (a.put none undef) w') : wpAnyH Try.prog md ops Q S (fuel + 1) listed a w := by
  obtain ⟨w', hx', hs⟩ := run_store_blk oi a.eval ty x y ho b off hx v cells hy hv hz h1 hg hfit hC
  exact takeW hi hd hr hw hx' (h w' hs).1 (h w' hs).2
end
/-- a packet of either type lies at g -/
def PdT (t : TypeId) (w : World) (g : Nat) (p : Pd) : Prop := w.heap[g]? = some (.cells (pdC p) t (0, 0))
section
variable {t : TypeId} {w w' : World} {g : Nat} {p : Pd}
theorem PdT.lt (h : PdT t w g p) : g < w.heap.size := (Array.getElem?_eq_some_iff.1 h).1
theorem PdT.below {B : Nat} (h : PdT t w g p) (hb : Below B w w') (hB : g < B) : PdT t w' g p := (hb.block g hB).trans h
theorem PdT.cell (h : PdT t w g p) (i : Nat) : w.cell? ⟨g, i, none⟩ = (pdC p)[i]? := cell_of_row w g i _ _ _ h
theorem PdT.range (h : PdT t w g p) {o : Nat} {cs : List Value} (hs : ∀ j, j < cs.length → (pdC p)[o + j]? = cs[j]?) : w.rangeAt g o cs := blk_range h hs
theorem PdT.far {b : Nat} {C : Array Value} {u : TypeId} (h : PdT t w g p) (hs : Stored w w' b C u) (hk : g ≠ b) : PdT t w' g p := (hs.2.2 g hk).trans h
theorem seven {P : Nat → Prop} (h : P 0 ∧ P 1 ∧ P 2 ∧ P 3 ∧ P 4 ∧ P 5 ∧ P 6) (j : Nat) (hj : j < 7) : P j := by
  rcases (by omega : j = 0 ∨ j = 1 ∨ j = 2 ∨ j = 3 ∨ j = 4 ∨ j = 5 ∨ j = 6) with rfl | rfl | rfl | rfl | rfl | rfl | rfl <;> simp_all
theorem eight {P : Nat → Prop} (h : P 0 ∧ P 1 ∧ P 2 ∧ P 3 ∧ P 4 ∧ P 5 ∧ P 6 ∧ P 7) (j : Nat) (hj : j < 8) : P j := by
  rcases (by omega : j = 0 ∨ j = 1 ∨ j = 2 ∨ j = 3 ∨ j = 4 ∨ j = 5 ∨ j = 6 ∨ j = 7) with rfl | rfl | rfl | rfl | rfl | rfl | rfl | rfl <;> simp_all
/-- six bytes -/
def syC (z : Nat → Int) : Array Value := #[.int .u8 (z 0), .int .u8 (z 1), .int .u8 (z 2), .int .u8 (z 3), .int .u8 (z 4), .int .u8 (z 5)]
theorem PdT.sys (h : PdT t w g p) : w.rangeAt g 2 (syC p.so).toList := h.range fun j hj => by
  rcases (by have : j < 6 := hj; omega : j = 0 ∨ j = 1 ∨ j = 2 ∨ j = 3 ∨ j = 4 ∨ j = 5) with rfl | rfl | rfl | rfl | rfl | rfl <;> rfl
theorem PdT.so (h : PdT t w g p) : w.rangeAt g 2 (ndC p.so).toList := h.range (seven ⟨rfl, rfl, rfl, rfl, rfl, rfl, rfl⟩)
theorem PdT.la (h : PdT t w g p) : w.rangeAt g 12 (ndC p.la).toList := h.range (seven ⟨rfl, rfl, rfl, rfl, rfl, rfl, rfl⟩)
theorem PdT.id (h : PdT t w g p) : w.rangeAt g 20 (idC p.id).toList := h.range (eight ⟨rfl, rfl, rfl, rfl, rfl, rfl, rfl, rfl⟩)
theorem PdT.st (h : PdT t w g p) : w.rangeAt g 30 (idC p.st).toList := h.range (eight ⟨rfl, rfl, rfl, rfl, rfl, rfl, rfl, rfl⟩)
theorem PdT.en (h : PdT t w g p) : w.rangeAt g 38 (idC p.en).toList := h.range (eight ⟨rfl, rfl, rfl, rfl, rfl, rfl, rfl, rfl⟩)
theorem PdT.all (h : PdT t w g p) : w.rangeAt g 0 (pdC p).toList := h.range fun j hj => by rw [Nat.zero_add, Array.getElem?_toList]
end
theorem info_sys : (Try.prog.info? 23).map (·.size) = some 6 := by kernel_rfl
theorem info_pdR : (Try.prog.info? 31).map (·.size) = some 47 := by kernel_rfl
theorem info_pdP : (Try.prog.info? 33).map (·.size) = some 47 := by kernel_rfl
theorem sy_one (z : Nat → Int) : (syC z).all (·.oneCell') = true := by kernel_rfl
theorem results_R {fn : Func} {q : Tmp} (h : fn.results = #[.cell q 31]) (tmps : Array Value) (W : World) (g : Nat) (p : Pd)
    (hp : tmps.getD q undef = .pointer (some ⟨g, 0, none⟩)) (hg : PdT 31 W g p) : (results fn tmps).run Try.prog W = .ok (.agg (pdC p)) W := by
  have h1 := run_loadVar_row (P := Try.prog) W g 31 31 (pdC p) (0, 0) _ hg Try.underlying31 rfl info_pdR
  have hp' : (tmps[q]?).getD undef = .pointer (some ⟨g, 0, none⟩) := by simpa using hp
  simp only [results, h]
  simp [hp', asAddr, h1]
def z0 : Nat → Int := fun _ => 0
/-- nothing but a kind and TLVs -/
def pdK (p : Pd) : Pd := ⟨p.kd, 0, z0, 0, 0, 0, z0, 0, z0, 0, 0, z0, z0, p.A, p.m, p.c⟩
def pd0 : Pd := ⟨0, 0, z0, 0, 0, 0, z0, 0, z0, 0, 0, z0, z0, none, 0, 0⟩
theorem alloc_R (o : Oper) (e : Operand → Value) (ho : o.op = .alloc 31) (W : World) : (execOp e o).run Try.prog W = .ok (.value (.pointer (some ⟨W.heap.size, 0, none⟩))) (W.alloc (.cells (pdC pd0) 31)) := by
  unfold execOp
  simp only [ho]
  kernel_rfl
theorem alloc_P (o : Oper) (e : Operand → Value) (ho : o.op = .alloc 33) (W : World) : (execOp e o).run Try.prog W = .ok (.value (.pointer (some ⟨W.heap.size, 0, none⟩))) (W.alloc (.cells (pdC pd0) 33)) := by
  unfold execOp
  simp only [ho]
  kernel_rfl
theorem build_K (o : Oper) (e : Operand → Value) (x0 x1 : Operand) (ho : o.op = .build 31 #[(0, x0), (13, x1)]) (p : Pd) (h0 : e x0 = .int .u8 p.kd) (h1 : e x1 = .slice p.A p.m p.c) (W : World) :
    (execOp e o).run Try.prog W = .ok (.value (.agg (pdC (pdK p)))) W := by
  unfold execOp
  simp only [ho]
  simp only [List.map_toArray, List.map_cons, List.map_nil, h0, h1]
  kernel_rfl
theorem pd_all (p q : Pd) : putMany (pdC p) 0 (pdC q).toList = pdC q := by kernel_rfl
theorem pdC_kd (p : Pd) : (pdC p)[0]? = some (.int .u8 p.kd) := rfl
theorem pdC_tl (p : Pd) : (pdC p)[46]? = some (.slice p.A p.m p.c) := rfl
section
variable {ops : Array Oper} {Q : Exit → Act → World → Prop}
/-- an operation that yields v -/
theorem wpList_v {rest : List Oper} {op : Oper} {a : Act} {w w' : World} (hgd : op.guard = none) (v : Value) (hx : (execOp a.eval op).run Try.prog w = .ok (.value v) w') (h : wpList Try.prog ops Q rest (a.put op.dst v) w') : wpList Try.prog ops Q (op :: rest) a w := by
  refine wpList_plain hgd fun K hK => ?_
  unfold Oper.wp
  rw [hx, Oper.upon_value]
  exact hK _ _ h
end
end Go.Proofs.Ytfojfdlapekjoaa

/- The document's Plain: a packet with the fields alone that its kind has. Each theorem states its conditions. -/
namespace Go.Proofs.Ytfojfdlapekjoaa
open Go.RowKit
set_option linter.unusedVariables false

theorem alloc_R' (o : Oper) (e : Operand → Value) (ho : o.op = .alloc 31) (W W' : World) (n : Nat) (hn : W.heap.size = n) (hW : W.alloc (.cells (pdC pd0) 31) = W') : (execOp e o).run Try.prog W = .ok (.value (.pointer (some ⟨n, 0, none⟩))) W' := by
  subst hn hW
  exact alloc_R o e ho W
theorem hello_yes (k : Int) (h : k = 15 ∨ k = 16 ∨ k = 17) (w : World) : Calls Try.prog 28 #[.int .u8 k] w fun e w' => e = .returned (.bool true) ∧ w = w' := by
  rcases h with rfl | rfl | rfl <;>
  · go_enter Try.func28, Try.ntmps28
    go_wp2
    go_ret
    exact ⟨rfl, rfl⟩
theorem hello_no (k : Int) (h : ¬ (k = 15 ∨ k = 16 ∨ k = 17)) (w : World) : Calls Try.prog 28 #[.int .u8 k] w fun e w' => e = .returned (.bool false) ∧ w = w' := by
  have h1 : (k == 15) = false := by simp; omega
  have h2 : (k == 16) = false := by simp; omega
  have h3 : (k == 17) = false := by simp; omega
  clear h
  go_enter Try.func28, Try.ntmps28
  go_wp2
  go_ret
  exact ⟨rfl, rfl⟩
theorem lsp_yes (k : Int) (h : k = 18 ∨ k = 20) (w : World) : Calls Try.prog 29 #[.int .u8 k] w fun e w' => e = .returned (.bool true) ∧ w = w' := by
  rcases h with rfl | rfl <;>
  · go_enter Try.func29, Try.ntmps29
    go_wp2
    go_ret
    exact ⟨rfl, rfl⟩
theorem lsp_no (k : Int) (h : ¬ (k = 18 ∨ k = 20)) (w : World) : Calls Try.prog 29 #[.int .u8 k] w fun e w' => e = .returned (.bool false) ∧ w = w' := by
  have h1 : (k == 18) = false := by simp; omega
  have h2 : (k == 20) = false := by simp; omega
  clear h
  go_enter Try.func29, Try.ntmps29
  go_wp2
  go_ret
  exact ⟨rfl, rfl⟩
/-- Plain of the classes -/
def pl0 (x : Pd) : Pd := ⟨x.kd, x.ci, cutSys x.so, x.ho, x.nu, 0, z0, 0, z0, 0, 0, z0, z0, x.A, x.m, x.c⟩
def pl1 (x : Pd) : Pd := ⟨x.kd, x.ci, cutSys x.so, x.ho, 0, x.pr, x.la, 0, z0, 0, 0, z0, z0, x.A, x.m, x.c⟩
def pl2 (x : Pd) : Pd := ⟨x.kd, 0, z0, 0, 0, 0, z0, x.li, x.id, x.sq, x.bi, z0, z0, x.A, x.m, x.c⟩
def pl3 (x : Pd) : Pd := ⟨x.kd, 0, x.so, 0, 0, 0, z0, 0, z0, 0, 0, x.st, x.en, x.A, x.m, x.c⟩
def pl4 (x : Pd) : Pd := ⟨x.kd, 0, x.so, 0, 0, 0, z0, 0, z0, 0, 0, z0, z0, x.A, x.m, x.c⟩
set_option maxHeartbeats 4000000 in
set_option maxRecDepth 100000 in
theorem plain_0 (x : Pd) (hk : x.kd = 17) (w : World) :
    Calls Try.prog 18 #[.agg (pdC x)] w fun e w' => e = .returned (.agg (pdC (pl0 x))) ∧ Below w.heap.size w w' := by
  have a0 := pdC_kd x
  have a46 := pdC_tl x
  have HH := Lib.hid (hello_yes x.kd (.inr (.inr hk)))
  have h17 : (x.kd == 17) = true := by simpa using hk
  clear hk
  obtain ⟨W1, hW1⟩ : ∃ W1, w.alloc (.cells (pdC x) 31) = W1 := ⟨_, rfl⟩
  obtain ⟨W2, hW2⟩ : ∃ W2, W1.alloc (.cells (pdC pd0) 31) = W2 := ⟨_, rfl⟩
  obtain ⟨W3, hW3⟩ : ∃ W3, W2.alloc (.cells (pdC pd0) 31) = W3 := ⟨_, rfl⟩
  have hs1 : W1.heap.size = w.heap.size + 1 := by rw [← hW1]; simp
  have hs2 : W2.heap.size = w.heap.size + 2 := by rw [← hW2]; simp [hs1]
  have hx1 : PdT 31 W1 w.heap.size x := by rw [← hW1]; exact heap_alloc_new w _
  have hx2 : PdT 31 W2 w.heap.size x := by rw [← hW2]; exact (Below.heap_alloc _ _ _ (by omega)).trans hx1
  have hx3 : PdT 31 W3 w.heap.size x := by rw [← hW3]; exact (Below.heap_alloc _ _ _ (by omega)).trans hx2
  have hr2 : PdT 31 W2 (w.heap.size + 1) pd0 := by rw [← hW2, ← hs1]; exact heap_alloc_new W1 _
  have hr3 : PdT 31 W3 (w.heap.size + 1) pd0 := by rw [← hW3]; exact (Below.heap_alloc _ _ _ (by omega)).trans hr2
  have hq3 : PdT 31 W3 (w.heap.size + 2) pd0 := by rw [← hW3, ← hs2]; exact heap_alloc_new W2 _
  have hb3 : Below w.heap.size w W3 := by rw [← hW3, ← hW2, ← hW1]; exact (((bself w).alloc (Nat.le_refl _) _).alloc (by simp) _).alloc (by simp; omega) _
  have HW1 := Lib.hid hW1
  have HW2 := Lib.hid hW2
  have HW3 := Lib.hid hW3
  have HS1 := Lib.hid hs1
  have HS2 := Lib.hid hs2
  have HX3 := Lib.hid hx3
  have HR3 := Lib.hid hr3
  have HQ3 := Lib.hid hq3
  have HB3 := Lib.hid hb3
  obtain ⟨X, hX⟩ : ∃ X, w.heap.size = X := ⟨_, rfl⟩
  have c0 : W2.cell? ⟨w.heap.size, 0, none⟩ = some (.int .u8 x.kd) := (hx2.cell 0).trans a0
  have c46 : W2.cell? ⟨w.heap.size, 46, none⟩ = some (.slice x.A x.m x.c) := (hx2.cell 46).trans a46
  clear hW1 hW2 hW3 hs1 hs2 hx1 hx2 hx3 hr2 hr3 hq3 hb3
  go_enter Try.func18, Try.ntmps18
  rw [hX] at c0 c46 HS1 HS2 HX3 HR3 HQ3
  have HXX := Lib.hid hX
  clear hX
  go_wp2_with (first
    | (refine wpList_v (op := ⟨some 2, _, _, _, _, _⟩) rfl _ (alloc_R' _ _ rfl _ W2 (X + 1) (by rw [HW1.out]; exact HS1.out) (by rw [HW1.out]; exact HW2.out)) ?_; rw [HXX.out])
    | (refine wpList_v rfl _ (build_K _ _ (.tmp 5) (.tmp 7) rfl x rfl rfl _) ?_)
    | (refine wpList_v (op := ⟨some 3, _, _, _, _, _⟩) rfl _ (alloc_R' _ _ rfl _ W3 (X + 2) HS2.out HW3.out) ?_)
    | (refine wpList_st rfl 31 (.tmp 3) (.tmp 8) rfl (X + 2) 0 rfl (.agg (pdC (pdK x))) (pdC (pdK x)) rfl rfl info_pdR (pdC_one _) HQ3.out (Nat.le_of_ble_eq_true rfl) (pd_all _ _) ?_; intro w1 hst1; refine Hid.out ?_))
  refine Lib.hid ?_
  have HX : Hid (PdT 31 w1 X x) := Lib.hid (PdT.far HX3.out hst1 (by omega))
  have HR : Hid (PdT 31 w1 (X + 1) pd0) := Lib.hid (PdT.far HR3.out hst1 (by omega))
  have HQ : Hid (PdT 31 w1 (X + 2) (pdK x)) := Lib.hid hst1.1
  have HBx : Hid (Below (X + 2) w1 w1) := Lib.hid (Below.refl _ _)
  have HB1 : Hid (Below w.heap.size w w1) := Lib.hid (HB3.out.trans (hst1.2.1 _ (by rw [HXX.out]; omega)))
  have hne : X ≠ X + 2 := by omega
  have hBQ : X + 2 ≤ X + 2 := Nat.le_refl _
  have c0 : w1.cell? ⟨X, 0, none⟩ = some (.int .u8 x.kd) := (HX.out.cell 0).trans a0
  clear hst1 HX3 HR3 HQ3 HB3
  go_wp2_with fail
  refine (HH.out _).mono ?_
  rintro e w2 ⟨rfl, rfl⟩
  go_wp2_with fail
  refine wp_region_held_drew (S := fun w' => PdT 31 w' X x) (by kernel_rfl) HX.out (fun hS0 => ?_)
  refine takeY (i := 0) (some 25) (v := .pointer (some ⟨X, 1, none⟩)) rfl rfl (by kernel_rfl) (by kernel_rfl) (by kernel_rfl) (fun _ _ _ h => h) (by rfl) (fun w' hS => by go_simp) hS0 ?_
  simp only [Act.put, List.setIfInBounds_toArray, List.set_cons_zero, List.set_cons_succ]
  refine takeY (i := 1) (some 26) (v := .int .u8 x.ci) rfl rfl (by kernel_rfl) (by kernel_rfl) (by kernel_rfl) (fun _ _ _ h => h) (by rfl) (fun w' hS => by have c9 : w'.cell? ⟨X, 1, none⟩ = some (.int .u8 x.ci) := (hS.cell 1).trans rfl; clear hS; go_simp) hS0 ?_
  simp only [Act.put, List.setIfInBounds_toArray, List.set_cons_zero, List.set_cons_succ]
  refine takeY (i := 2) (some 27) (v := .pointer (some ⟨X, 2, none⟩)) rfl rfl (by kernel_rfl) (by kernel_rfl) (by kernel_rfl) (fun _ _ _ h => h) (by rfl) (fun w' hS => by go_simp) hS0 ?_
  simp only [Act.put, List.setIfInBounds_toArray, List.set_cons_zero, List.set_cons_succ]
  refine takeY (i := 3) (some 28) (v := .pointer (some ⟨X, 2, none⟩)) rfl rfl (by kernel_rfl) (by kernel_rfl) (by kernel_rfl) (fun _ _ _ h => h) (by rfl) (fun w' hS => by go_simp) hS0 ?_
  simp only [Act.put, List.setIfInBounds_toArray, List.set_cons_zero, List.set_cons_succ]
  refine takeL (i := 4) (some 29) 23 (.tmp 28) X 2 (syC x.so) _ rfl rfl (by kernel_rfl) (by kernel_rfl) (by kernel_rfl) (fun _ _ _ h => h) (by rfl) rfl rfl (fun w' hS => hS.sys) Try.underlying23 rfl info_sys hS0 ?_
  simp only [Act.put, List.setIfInBounds_toArray, List.set_cons_zero, List.set_cons_succ]
  refine takeY (i := 5) (some 30) (v := .pointer (some ⟨X, 9, none⟩)) rfl rfl (by kernel_rfl) (by kernel_rfl) (by kernel_rfl) (fun _ _ _ h => h) (by rfl) (fun w' hS => by go_simp) hS0 ?_
  simp only [Act.put, List.setIfInBounds_toArray, List.set_cons_zero, List.set_cons_succ]
  refine takeY (i := 6) (some 31) (v := .int .i64 x.ho) rfl rfl (by kernel_rfl) (by kernel_rfl) (by kernel_rfl) (fun _ _ _ h => h) (by rfl) (fun w' hS => by have c9 : w'.cell? ⟨X, 9, none⟩ = some (.int .i64 x.ho) := (hS.cell 9).trans rfl; clear hS; go_simp) hS0 ?_
  simp only [Act.put, List.setIfInBounds_toArray, List.set_cons_zero, List.set_cons_succ]
  have HS0 := Lib.hid hS0
  have HQ0 := HQ
  have HBx0 := Lib.hid (HBx.out.drew)
  clear hS0
  have hSn := HS0.out
  refine takeY (i := 7) (some 32) (v := .pointer (some ⟨(X + 2), 1, none⟩)) rfl rfl (by kernel_rfl) (by kernel_rfl) (by kernel_rfl) (fun _ _ _ h => h) (by rfl) (fun w' hS => by go_simp) hSn ?_
  simp only [Act.put, List.setIfInBounds_toArray, List.set_cons_zero, List.set_cons_succ]
  clear hSn
  refine takeSt (i := 8) 5 (.tmp 32) (.tmp 26) (X + 2) 1 (.int .u8 x.ci) #[.int .u8 x.ci] (pdC (⟨x.kd, x.ci, z0, 0, 0, 0, z0, 0, z0, 0, 0, z0, z0, x.A, x.m, x.c⟩)) rfl rfl (by kernel_rfl) (by rfl) rfl rfl rfl rfl (by kernel_rfl) (by kernel_rfl) HQ0.out (Nat.le_of_ble_eq_true rfl) (by kernel_rfl) (fun w1' hst1 => ⟨PdT.far HS0.out hst1 hne, ?_⟩)
  have HS1 := Lib.hid (PdT.far HS0.out hst1 hne)
  have HQ1 : Hid (PdT 31 w1' (X + 2) (⟨x.kd, x.ci, z0, 0, 0, 0, z0, 0, z0, 0, 0, z0, z0, x.A, x.m, x.c⟩)) := Lib.hid hst1.1
  have HBx1 := Lib.hid (HBx0.out.trans (hst1.2.1 _ hBQ))
  clear hst1
  have hSn := HS1.out
  refine takeY (i := 9) (some 33) (v := .pointer (some ⟨(X + 2), 2, none⟩)) rfl rfl (by kernel_rfl) (by kernel_rfl) (by kernel_rfl) (fun _ _ _ h => h) (by rfl) (fun w' hS => by go_simp) hSn ?_
  simp only [Act.put, List.setIfInBounds_toArray, List.set_cons_zero, List.set_cons_succ]
  refine takeY (i := 10) (some 34) (v := .pointer (some ⟨(X + 2), 2, none⟩)) rfl rfl (by kernel_rfl) (by kernel_rfl) (by kernel_rfl) (fun _ _ _ h => h) (by rfl) (fun w' hS => by go_simp) hSn ?_
  simp only [Act.put, List.setIfInBounds_toArray, List.set_cons_zero, List.set_cons_succ]
  clear hSn
  refine takeSt (i := 11) 23 (.tmp 34) (.tmp 29) (X + 2) 2 (.agg (syC x.so)) (syC x.so) (pdC (⟨x.kd, x.ci, cutSys x.so, 0, 0, 0, z0, 0, z0, 0, 0, z0, z0, x.A, x.m, x.c⟩)) rfl rfl (by kernel_rfl) (by rfl) rfl rfl rfl rfl info_sys (sy_one _) HQ1.out (Nat.le_of_ble_eq_true rfl) (by kernel_rfl) (fun w2' hst2 => ⟨PdT.far HS1.out hst2 hne, ?_⟩)
  have HS2 := Lib.hid (PdT.far HS1.out hst2 hne)
  have HQ2 : Hid (PdT 31 w2' (X + 2) (⟨x.kd, x.ci, cutSys x.so, 0, 0, 0, z0, 0, z0, 0, 0, z0, z0, x.A, x.m, x.c⟩)) := Lib.hid hst2.1
  have HBx2 := Lib.hid (HBx1.out.trans (hst2.2.1 _ hBQ))
  clear hst2
  have hSn := HS2.out
  refine takeY (i := 12) (some 35) (v := .pointer (some ⟨(X + 2), 9, none⟩)) rfl rfl (by kernel_rfl) (by kernel_rfl) (by kernel_rfl) (fun _ _ _ h => h) (by rfl) (fun w' hS => by go_simp) hSn ?_
  simp only [Act.put, List.setIfInBounds_toArray, List.set_cons_zero, List.set_cons_succ]
  clear hSn
  refine takeSt (i := 13) 3 (.tmp 35) (.tmp 31) (X + 2) 9 (.int .i64 x.ho) #[.int .i64 x.ho] (pdC (⟨x.kd, x.ci, cutSys x.so, x.ho, 0, 0, z0, 0, z0, 0, 0, z0, z0, x.A, x.m, x.c⟩)) rfl rfl (by kernel_rfl) (by rfl) rfl rfl rfl rfl (by kernel_rfl) (by kernel_rfl) HQ2.out (Nat.le_of_ble_eq_true rfl) (by kernel_rfl) (fun w3' hst3 => ⟨PdT.far HS2.out hst3 hne, ?_⟩)
  have HS3 := Lib.hid (PdT.far HS2.out hst3 hne)
  have HQ3 : Hid (PdT 31 w3' (X + 2) (⟨x.kd, x.ci, cutSys x.so, x.ho, 0, 0, z0, 0, z0, 0, 0, z0, z0, x.A, x.m, x.c⟩)) := Lib.hid hst3.1
  have HBx3 := Lib.hid (HBx2.out.trans (hst3.2.1 _ hBQ))
  clear hst3
  refine wpAnyH_done (by kernel_rfl) ?_ _
  have HX' := HS3
  have HQ' := HQ3
  have HBx' := HBx3
  clear HX HQ HBx HQ0 HS0 HBx0 HS1 HQ1 HBx1 HS2 HQ2 HBx2 HS3 HQ3 HBx3
  have c0' : w3'.cell? ⟨X, 0, none⟩ = some (.int .u8 x.kd) := (HX'.out.cell 0).trans a0
  have c10 : w3'.cell? ⟨X, 10, none⟩ = some (.int .u8 x.nu) := (HX'.out.cell 10).trans rfl
  go_wp2_with (refine wpList_st rfl 5 (.tmp 41) (.tmp 40) rfl (X + 2) 10 rfl (.int .u8 x.nu) #[.int .u8 x.nu] rfl rfl (by kernel_rfl) (by kernel_rfl) HQ'.out (Nat.le_of_ble_eq_true rfl) (C' := pdC (pl0 x)) (by kernel_rfl) ?_; intro w4' hst; refine Hid.out ?_)
  refine Lib.hid ?_
  have HQ2 : Hid (PdT 31 w4' (X + 2) (pl0 x)) := Lib.hid hst.1
  have HBx2 := Lib.hid (HBx'.out.trans (hst.2.1 _ hBQ))
  clear hst c0' c10 HQ' HX' HBx' c0
  have HQ' := HQ2
  have HBx' := HBx2
  have HR8 : Hid (PdT 31 w4' (X + 1) pd0) := Lib.hid (HR.out.below HBx'.out (by omega))
  have HB8 : Hid (Below w.heap.size w w4') := Lib.hid (HB1.out.trans (HBx'.out.mono (by rw [HXX.out]; omega)))
  go_wp2_with (first
    | (refine wpList_load_mid rfl 31 (.tmp 3) rfl (X + 2) 0 rfl (pdC (pl0 x)).toList _ HQ'.out.all Try.underlying31 rfl info_pdR ?_)
    | (refine wpList_st rfl 31 (.tmp 2) (.tmp 64) rfl (X + 1) 0 rfl (.agg (pdC (pl0 x))) (pdC (pl0 x)) rfl rfl info_pdR (pdC_one _) HR8.out (Nat.le_of_ble_eq_true rfl) (pd_all _ _) ?_; intro w9 hst9; refine Hid.out ?_))
  refine Lib.hid ?_
  have HR9 : Hid (PdT 31 w9 (X + 1) (pl0 x)) := Lib.hid hst9.1
  have HB9 := Lib.hid (HB8.out.trans (hst9.2.1 _ (by rw [HXX.out]; omega)))
  clear hst9
  go_wp2_with fail
  refine bodyPost_ret (results_R rfl _ w9 (X + 1) _ rfl HR9.out) rfl ⟨rfl, HB9.out⟩
set_option maxHeartbeats 4000000 in
set_option maxRecDepth 100000 in
theorem plain_1 (x : Pd) (hk : x.kd = 15 ∨ x.kd = 16) (w : World) :
    Calls Try.prog 18 #[.agg (pdC x)] w fun e w' => e = .returned (.agg (pdC (pl1 x))) ∧ Below w.heap.size w w' := by
  have a0 := pdC_kd x
  have a46 := pdC_tl x
  have HH := Lib.hid (hello_yes x.kd (by omega))
  have h17 : (x.kd == 17) = false := by simp; omega
  clear hk
  obtain ⟨W1, hW1⟩ : ∃ W1, w.alloc (.cells (pdC x) 31) = W1 := ⟨_, rfl⟩
  obtain ⟨W2, hW2⟩ : ∃ W2, W1.alloc (.cells (pdC pd0) 31) = W2 := ⟨_, rfl⟩
  obtain ⟨W3, hW3⟩ : ∃ W3, W2.alloc (.cells (pdC pd0) 31) = W3 := ⟨_, rfl⟩
  have hs1 : W1.heap.size = w.heap.size + 1 := by rw [← hW1]; simp
  have hs2 : W2.heap.size = w.heap.size + 2 := by rw [← hW2]; simp [hs1]
  have hx1 : PdT 31 W1 w.heap.size x := by rw [← hW1]; exact heap_alloc_new w _
  have hx2 : PdT 31 W2 w.heap.size x := by rw [← hW2]; exact (Below.heap_alloc _ _ _ (by omega)).trans hx1
  have hx3 : PdT 31 W3 w.heap.size x := by rw [← hW3]; exact (Below.heap_alloc _ _ _ (by omega)).trans hx2
  have hr2 : PdT 31 W2 (w.heap.size + 1) pd0 := by rw [← hW2, ← hs1]; exact heap_alloc_new W1 _
  have hr3 : PdT 31 W3 (w.heap.size + 1) pd0 := by rw [← hW3]; exact (Below.heap_alloc _ _ _ (by omega)).trans hr2
  have hq3 : PdT 31 W3 (w.heap.size + 2) pd0 := by rw [← hW3, ← hs2]; exact heap_alloc_new W2 _
  have hb3 : Below w.heap.size w W3 := by rw [← hW3, ← hW2, ← hW1]; exact (((bself w).alloc (Nat.le_refl _) _).alloc (by simp) _).alloc (by simp; omega) _
  have HW1 := Lib.hid hW1
  have HW2 := Lib.hid hW2
  have HW3 := Lib.hid hW3
  have HS1 := Lib.hid hs1
  have HS2 := Lib.hid hs2
  have HX3 := Lib.hid hx3
  have HR3 := Lib.hid hr3
  have HQ3 := Lib.hid hq3
  have HB3 := Lib.hid hb3
  obtain ⟨X, hX⟩ : ∃ X, w.heap.size = X := ⟨_, rfl⟩
  have c0 : W2.cell? ⟨w.heap.size, 0, none⟩ = some (.int .u8 x.kd) := (hx2.cell 0).trans a0
  have c46 : W2.cell? ⟨w.heap.size, 46, none⟩ = some (.slice x.A x.m x.c) := (hx2.cell 46).trans a46
  clear hW1 hW2 hW3 hs1 hs2 hx1 hx2 hx3 hr2 hr3 hq3 hb3
  go_enter Try.func18, Try.ntmps18
  rw [hX] at c0 c46 HS1 HS2 HX3 HR3 HQ3
  have HXX := Lib.hid hX
  clear hX
  go_wp2_with (first
    | (refine wpList_v (op := ⟨some 2, _, _, _, _, _⟩) rfl _ (alloc_R' _ _ rfl _ W2 (X + 1) (by rw [HW1.out]; exact HS1.out) (by rw [HW1.out]; exact HW2.out)) ?_; rw [HXX.out])
    | (refine wpList_v rfl _ (build_K _ _ (.tmp 5) (.tmp 7) rfl x rfl rfl _) ?_)
    | (refine wpList_v (op := ⟨some 3, _, _, _, _, _⟩) rfl _ (alloc_R' _ _ rfl _ W3 (X + 2) HS2.out HW3.out) ?_)
    | (refine wpList_st rfl 31 (.tmp 3) (.tmp 8) rfl (X + 2) 0 rfl (.agg (pdC (pdK x))) (pdC (pdK x)) rfl rfl info_pdR (pdC_one _) HQ3.out (Nat.le_of_ble_eq_true rfl) (pd_all _ _) ?_; intro w1 hst1; refine Hid.out ?_))
  refine Lib.hid ?_
  have HX : Hid (PdT 31 w1 X x) := Lib.hid (PdT.far HX3.out hst1 (by omega))
  have HR : Hid (PdT 31 w1 (X + 1) pd0) := Lib.hid (PdT.far HR3.out hst1 (by omega))
  have HQ : Hid (PdT 31 w1 (X + 2) (pdK x)) := Lib.hid hst1.1
  have HBx : Hid (Below (X + 2) w1 w1) := Lib.hid (Below.refl _ _)
  have HB1 : Hid (Below w.heap.size w w1) := Lib.hid (HB3.out.trans (hst1.2.1 _ (by rw [HXX.out]; omega)))
  have hne : X ≠ X + 2 := by omega
  have hBQ : X + 2 ≤ X + 2 := Nat.le_refl _
  have c0 : w1.cell? ⟨X, 0, none⟩ = some (.int .u8 x.kd) := (HX.out.cell 0).trans a0
  clear hst1 HX3 HR3 HQ3 HB3
  go_wp2_with fail
  refine (HH.out _).mono ?_
  rintro e w2 ⟨rfl, rfl⟩
  go_wp2_with fail
  refine wp_region_held_drew (S := fun w' => PdT 31 w' X x) (by kernel_rfl) HX.out (fun hS0 => ?_)
  refine takeY (i := 0) (some 25) (v := .pointer (some ⟨X, 1, none⟩)) rfl rfl (by kernel_rfl) (by kernel_rfl) (by kernel_rfl) (fun _ _ _ h => h) (by rfl) (fun w' hS => by go_simp) hS0 ?_
  simp only [Act.put, List.setIfInBounds_toArray, List.set_cons_zero, List.set_cons_succ]
  refine takeY (i := 1) (some 26) (v := .int .u8 x.ci) rfl rfl (by kernel_rfl) (by kernel_rfl) (by kernel_rfl) (fun _ _ _ h => h) (by rfl) (fun w' hS => by have c9 : w'.cell? ⟨X, 1, none⟩ = some (.int .u8 x.ci) := (hS.cell 1).trans rfl; clear hS; go_simp) hS0 ?_
  simp only [Act.put, List.setIfInBounds_toArray, List.set_cons_zero, List.set_cons_succ]
  refine takeY (i := 2) (some 27) (v := .pointer (some ⟨X, 2, none⟩)) rfl rfl (by kernel_rfl) (by kernel_rfl) (by kernel_rfl) (fun _ _ _ h => h) (by rfl) (fun w' hS => by go_simp) hS0 ?_
  simp only [Act.put, List.setIfInBounds_toArray, List.set_cons_zero, List.set_cons_succ]
  refine takeY (i := 3) (some 28) (v := .pointer (some ⟨X, 2, none⟩)) rfl rfl (by kernel_rfl) (by kernel_rfl) (by kernel_rfl) (fun _ _ _ h => h) (by rfl) (fun w' hS => by go_simp) hS0 ?_
  simp only [Act.put, List.setIfInBounds_toArray, List.set_cons_zero, List.set_cons_succ]
  refine takeL (i := 4) (some 29) 23 (.tmp 28) X 2 (syC x.so) _ rfl rfl (by kernel_rfl) (by kernel_rfl) (by kernel_rfl) (fun _ _ _ h => h) (by rfl) rfl rfl (fun w' hS => hS.sys) Try.underlying23 rfl info_sys hS0 ?_
  simp only [Act.put, List.setIfInBounds_toArray, List.set_cons_zero, List.set_cons_succ]
  refine takeY (i := 5) (some 30) (v := .pointer (some ⟨X, 9, none⟩)) rfl rfl (by kernel_rfl) (by kernel_rfl) (by kernel_rfl) (fun _ _ _ h => h) (by rfl) (fun w' hS => by go_simp) hS0 ?_
  simp only [Act.put, List.setIfInBounds_toArray, List.set_cons_zero, List.set_cons_succ]
  refine takeY (i := 6) (some 31) (v := .int .i64 x.ho) rfl rfl (by kernel_rfl) (by kernel_rfl) (by kernel_rfl) (fun _ _ _ h => h) (by rfl) (fun w' hS => by have c9 : w'.cell? ⟨X, 9, none⟩ = some (.int .i64 x.ho) := (hS.cell 9).trans rfl; clear hS; go_simp) hS0 ?_
  simp only [Act.put, List.setIfInBounds_toArray, List.set_cons_zero, List.set_cons_succ]
  have HS0 := Lib.hid hS0
  have HQ0 := HQ
  have HBx0 := Lib.hid (HBx.out.drew)
  clear hS0
  have hSn := HS0.out
  refine takeY (i := 7) (some 32) (v := .pointer (some ⟨(X + 2), 1, none⟩)) rfl rfl (by kernel_rfl) (by kernel_rfl) (by kernel_rfl) (fun _ _ _ h => h) (by rfl) (fun w' hS => by go_simp) hSn ?_
  simp only [Act.put, List.setIfInBounds_toArray, List.set_cons_zero, List.set_cons_succ]
  clear hSn
  refine takeSt (i := 8) 5 (.tmp 32) (.tmp 26) (X + 2) 1 (.int .u8 x.ci) #[.int .u8 x.ci] (pdC (⟨x.kd, x.ci, z0, 0, 0, 0, z0, 0, z0, 0, 0, z0, z0, x.A, x.m, x.c⟩)) rfl rfl (by kernel_rfl) (by rfl) rfl rfl rfl rfl (by kernel_rfl) (by kernel_rfl) HQ0.out (Nat.le_of_ble_eq_true rfl) (by kernel_rfl) (fun w1' hst1 => ⟨PdT.far HS0.out hst1 hne, ?_⟩)
  have HS1 := Lib.hid (PdT.far HS0.out hst1 hne)
  have HQ1 : Hid (PdT 31 w1' (X + 2) (⟨x.kd, x.ci, z0, 0, 0, 0, z0, 0, z0, 0, 0, z0, z0, x.A, x.m, x.c⟩)) := Lib.hid hst1.1
  have HBx1 := Lib.hid (HBx0.out.trans (hst1.2.1 _ hBQ))
  clear hst1
  have hSn := HS1.out
  refine takeY (i := 9) (some 33) (v := .pointer (some ⟨(X + 2), 2, none⟩)) rfl rfl (by kernel_rfl) (by kernel_rfl) (by kernel_rfl) (fun _ _ _ h => h) (by rfl) (fun w' hS => by go_simp) hSn ?_
  simp only [Act.put, List.setIfInBounds_toArray, List.set_cons_zero, List.set_cons_succ]
  refine takeY (i := 10) (some 34) (v := .pointer (some ⟨(X + 2), 2, none⟩)) rfl rfl (by kernel_rfl) (by kernel_rfl) (by kernel_rfl) (fun _ _ _ h => h) (by rfl) (fun w' hS => by go_simp) hSn ?_
  simp only [Act.put, List.setIfInBounds_toArray, List.set_cons_zero, List.set_cons_succ]
  clear hSn
  refine takeSt (i := 11) 23 (.tmp 34) (.tmp 29) (X + 2) 2 (.agg (syC x.so)) (syC x.so) (pdC (⟨x.kd, x.ci, cutSys x.so, 0, 0, 0, z0, 0, z0, 0, 0, z0, z0, x.A, x.m, x.c⟩)) rfl rfl (by kernel_rfl) (by rfl) rfl rfl rfl rfl info_sys (sy_one _) HQ1.out (Nat.le_of_ble_eq_true rfl) (by kernel_rfl) (fun w2' hst2 => ⟨PdT.far HS1.out hst2 hne, ?_⟩)
  have HS2 := Lib.hid (PdT.far HS1.out hst2 hne)
  have HQ2 : Hid (PdT 31 w2' (X + 2) (⟨x.kd, x.ci, cutSys x.so, 0, 0, 0, z0, 0, z0, 0, 0, z0, z0, x.A, x.m, x.c⟩)) := Lib.hid hst2.1
  have HBx2 := Lib.hid (HBx1.out.trans (hst2.2.1 _ hBQ))
  clear hst2
  have hSn := HS2.out
  refine takeY (i := 12) (some 35) (v := .pointer (some ⟨(X + 2), 9, none⟩)) rfl rfl (by kernel_rfl) (by kernel_rfl) (by kernel_rfl) (fun _ _ _ h => h) (by rfl) (fun w' hS => by go_simp) hSn ?_
  simp only [Act.put, List.setIfInBounds_toArray, List.set_cons_zero, List.set_cons_succ]
  clear hSn
  refine takeSt (i := 13) 3 (.tmp 35) (.tmp 31) (X + 2) 9 (.int .i64 x.ho) #[.int .i64 x.ho] (pdC (⟨x.kd, x.ci, cutSys x.so, x.ho, 0, 0, z0, 0, z0, 0, 0, z0, z0, x.A, x.m, x.c⟩)) rfl rfl (by kernel_rfl) (by rfl) rfl rfl rfl rfl (by kernel_rfl) (by kernel_rfl) HQ2.out (Nat.le_of_ble_eq_true rfl) (by kernel_rfl) (fun w3' hst3 => ⟨PdT.far HS2.out hst3 hne, ?_⟩)
  have HS3 := Lib.hid (PdT.far HS2.out hst3 hne)
  have HQ3 : Hid (PdT 31 w3' (X + 2) (⟨x.kd, x.ci, cutSys x.so, x.ho, 0, 0, z0, 0, z0, 0, 0, z0, z0, x.A, x.m, x.c⟩)) := Lib.hid hst3.1
  have HBx3 := Lib.hid (HBx2.out.trans (hst3.2.1 _ hBQ))
  clear hst3
  refine wpAnyH_done (by kernel_rfl) ?_ _
  have HX' := HS3
  have HQ' := HQ3
  have HBx' := HBx3
  clear HX HQ HBx HQ0 HS0 HBx0 HS1 HQ1 HBx1 HS2 HQ2 HBx2 HS3 HQ3 HBx3
  have c0' : w3'.cell? ⟨X, 0, none⟩ = some (.int .u8 x.kd) := (HX'.out.cell 0).trans a0
  clear c0
  go_wp2_with fail
  clear c0'
  have HX := HX'
  have HQ := HQ'
  have HBx := HBx'
  clear HX' HQ' HBx'
  refine wp_region_held_drew (S := fun w' => PdT 31 w' X x) (by kernel_rfl) HX.out (fun hS0 => ?_)
  refine takeY (i := 0) (some 42) (v := .pointer (some ⟨X, 11, none⟩)) rfl rfl (by kernel_rfl) (by kernel_rfl) (by kernel_rfl) (fun _ _ _ h => h) (by rfl) (fun w' hS => by go_simp) hS0 ?_
  simp only [Act.put, List.setIfInBounds_toArray, List.set_cons_zero, List.set_cons_succ]
  refine takeY (i := 1) (some 43) (v := .int .u8 x.pr) rfl rfl (by kernel_rfl) (by kernel_rfl) (by kernel_rfl) (fun _ _ _ h => h) (by rfl) (fun w' hS => by have c9 : w'.cell? ⟨X, 11, none⟩ = some (.int .u8 x.pr) := (hS.cell 11).trans rfl; clear hS; go_simp) hS0 ?_
  simp only [Act.put, List.setIfInBounds_toArray, List.set_cons_zero, List.set_cons_succ]
  refine takeY (i := 2) (some 44) (v := .pointer (some ⟨X, 12, none⟩)) rfl rfl (by kernel_rfl) (by kernel_rfl) (by kernel_rfl) (fun _ _ _ h => h) (by rfl) (fun w' hS => by go_simp) hS0 ?_
  simp only [Act.put, List.setIfInBounds_toArray, List.set_cons_zero, List.set_cons_succ]
  refine takeL (i := 3) (some 45) 25 (.tmp 44) X 12 (ndC x.la) _ rfl rfl (by kernel_rfl) (by kernel_rfl) (by kernel_rfl) (fun _ _ _ h => h) (by rfl) rfl rfl (fun w' hS => hS.la) Try.underlying25 rfl info_node hS0 ?_
  simp only [Act.put, List.setIfInBounds_toArray, List.set_cons_zero, List.set_cons_succ]
  have HS0 := Lib.hid hS0
  have HQ0 := HQ
  have HBx0 := Lib.hid (HBx.out.drew)
  clear hS0
  have hSn := HS0.out
  refine takeY (i := 4) (some 46) (v := .pointer (some ⟨(X + 2), 11, none⟩)) rfl rfl (by kernel_rfl) (by kernel_rfl) (by kernel_rfl) (fun _ _ _ h => h) (by rfl) (fun w' hS => by go_simp) hSn ?_
  simp only [Act.put, List.setIfInBounds_toArray, List.set_cons_zero, List.set_cons_succ]
  clear hSn
  refine takeSt (i := 5) 5 (.tmp 46) (.tmp 43) (X + 2) 11 (.int .u8 x.pr) #[.int .u8 x.pr] (pdC (⟨x.kd, x.ci, cutSys x.so, x.ho, 0, x.pr, z0, 0, z0, 0, 0, z0, z0, x.A, x.m, x.c⟩)) rfl rfl (by kernel_rfl) (by rfl) rfl rfl rfl rfl (by kernel_rfl) (by kernel_rfl) HQ0.out (Nat.le_of_ble_eq_true rfl) (by kernel_rfl) (fun v1' hst1 => ⟨PdT.far HS0.out hst1 hne, ?_⟩)
  have HS1 := Lib.hid (PdT.far HS0.out hst1 hne)
  have HQ1 : Hid (PdT 31 v1' (X + 2) (⟨x.kd, x.ci, cutSys x.so, x.ho, 0, x.pr, z0, 0, z0, 0, 0, z0, z0, x.A, x.m, x.c⟩)) := Lib.hid hst1.1
  have HBx1 := Lib.hid (HBx0.out.trans (hst1.2.1 _ hBQ))
  clear hst1
  have hSn := HS1.out
  refine takeY (i := 6) (some 47) (v := .pointer (some ⟨(X + 2), 12, none⟩)) rfl rfl (by kernel_rfl) (by kernel_rfl) (by kernel_rfl) (fun _ _ _ h => h) (by rfl) (fun w' hS => by go_simp) hSn ?_
  simp only [Act.put, List.setIfInBounds_toArray, List.set_cons_zero, List.set_cons_succ]
  clear hSn
  refine takeSt (i := 7) 25 (.tmp 47) (.tmp 45) (X + 2) 12 (.agg (ndC x.la)) (ndC x.la) (pdC (⟨x.kd, x.ci, cutSys x.so, x.ho, 0, x.pr, x.la, 0, z0, 0, 0, z0, z0, x.A, x.m, x.c⟩)) rfl rfl (by kernel_rfl) (by rfl) rfl rfl rfl rfl info_node (nd_all _) HQ1.out (Nat.le_of_ble_eq_true rfl) (by kernel_rfl) (fun v2' hst2 => ⟨PdT.far HS1.out hst2 hne, ?_⟩)
  have HS2 := Lib.hid (PdT.far HS1.out hst2 hne)
  have HQ2 : Hid (PdT 31 v2' (X + 2) (⟨x.kd, x.ci, cutSys x.so, x.ho, 0, x.pr, x.la, 0, z0, 0, 0, z0, z0, x.A, x.m, x.c⟩)) := Lib.hid hst2.1
  have HBx2 := Lib.hid (HBx1.out.trans (hst2.2.1 _ hBQ))
  clear hst2
  refine wpAnyH_done (by kernel_rfl) ?_ _
  have HX' := HS2
  have HQ' := HQ2
  have HBx' := HBx2
  clear HX HQ HBx HQ0 HS0 HBx0 HS1 HQ1 HBx1 HS2 HQ2 HBx2
  have HR8 : Hid (PdT 31 v2' (X + 1) pd0) := Lib.hid (HR.out.below HBx'.out (by omega))
  have HB8 : Hid (Below w.heap.size w v2') := Lib.hid (HB1.out.trans (HBx'.out.mono (by rw [HXX.out]; omega)))
  go_wp2_with (first
    | (refine wpList_load_mid rfl 31 (.tmp 3) rfl (X + 2) 0 rfl (pdC (pl1 x)).toList _ HQ'.out.all Try.underlying31 rfl info_pdR ?_)
    | (refine wpList_st rfl 31 (.tmp 2) (.tmp 64) rfl (X + 1) 0 rfl (.agg (pdC (pl1 x))) (pdC (pl1 x)) rfl rfl info_pdR (pdC_one _) HR8.out (Nat.le_of_ble_eq_true rfl) (pd_all _ _) ?_; intro w9 hst9; refine Hid.out ?_))
  refine Lib.hid ?_
  have HR9 : Hid (PdT 31 w9 (X + 1) (pl1 x)) := Lib.hid hst9.1
  have HB9 := Lib.hid (HB8.out.trans (hst9.2.1 _ (by rw [HXX.out]; omega)))
  clear hst9
  go_wp2_with fail
  refine bodyPost_ret (results_R rfl _ w9 (X + 1) _ rfl HR9.out) rfl ⟨rfl, HB9.out⟩
set_option maxHeartbeats 4000000 in
set_option maxRecDepth 100000 in
theorem plain_2 (x : Pd) (hk : x.kd = 18 ∨ x.kd = 20) (w : World) :
    Calls Try.prog 18 #[.agg (pdC x)] w fun e w' => e = .returned (.agg (pdC (pl2 x))) ∧ Below w.heap.size w w' := by
  have a0 := pdC_kd x
  have a46 := pdC_tl x
  have HH := Lib.hid (hello_no x.kd (by omega))
  have HH2 := Lib.hid (lsp_yes x.kd hk)
  clear hk
  obtain ⟨W1, hW1⟩ : ∃ W1, w.alloc (.cells (pdC x) 31) = W1 := ⟨_, rfl⟩
  obtain ⟨W2, hW2⟩ : ∃ W2, W1.alloc (.cells (pdC pd0) 31) = W2 := ⟨_, rfl⟩
  obtain ⟨W3, hW3⟩ : ∃ W3, W2.alloc (.cells (pdC pd0) 31) = W3 := ⟨_, rfl⟩
  have hs1 : W1.heap.size = w.heap.size + 1 := by rw [← hW1]; simp
  have hs2 : W2.heap.size = w.heap.size + 2 := by rw [← hW2]; simp [hs1]
  have hx1 : PdT 31 W1 w.heap.size x := by rw [← hW1]; exact heap_alloc_new w _
  have hx2 : PdT 31 W2 w.heap.size x := by rw [← hW2]; exact (Below.heap_alloc _ _ _ (by omega)).trans hx1
  have hx3 : PdT 31 W3 w.heap.size x := by rw [← hW3]; exact (Below.heap_alloc _ _ _ (by omega)).trans hx2
  have hr2 : PdT 31 W2 (w.heap.size + 1) pd0 := by rw [← hW2, ← hs1]; exact heap_alloc_new W1 _
  have hr3 : PdT 31 W3 (w.heap.size + 1) pd0 := by rw [← hW3]; exact (Below.heap_alloc _ _ _ (by omega)).trans hr2
  have hq3 : PdT 31 W3 (w.heap.size + 2) pd0 := by rw [← hW3, ← hs2]; exact heap_alloc_new W2 _
  have hb3 : Below w.heap.size w W3 := by rw [← hW3, ← hW2, ← hW1]; exact (((bself w).alloc (Nat.le_refl _) _).alloc (by simp) _).alloc (by simp; omega) _
  have HW1 := Lib.hid hW1
  have HW2 := Lib.hid hW2
  have HW3 := Lib.hid hW3
  have HS1 := Lib.hid hs1
  have HS2 := Lib.hid hs2
  have HX3 := Lib.hid hx3
  have HR3 := Lib.hid hr3
  have HQ3 := Lib.hid hq3
  have HB3 := Lib.hid hb3
  obtain ⟨X, hX⟩ : ∃ X, w.heap.size = X := ⟨_, rfl⟩
  have c0 : W2.cell? ⟨w.heap.size, 0, none⟩ = some (.int .u8 x.kd) := (hx2.cell 0).trans a0
  have c46 : W2.cell? ⟨w.heap.size, 46, none⟩ = some (.slice x.A x.m x.c) := (hx2.cell 46).trans a46
  clear hW1 hW2 hW3 hs1 hs2 hx1 hx2 hx3 hr2 hr3 hq3 hb3
  go_enter Try.func18, Try.ntmps18
  rw [hX] at c0 c46 HS1 HS2 HX3 HR3 HQ3
  have HXX := Lib.hid hX
  clear hX
  go_wp2_with (first
    | (refine wpList_v (op := ⟨some 2, _, _, _, _, _⟩) rfl _ (alloc_R' _ _ rfl _ W2 (X + 1) (by rw [HW1.out]; exact HS1.out) (by rw [HW1.out]; exact HW2.out)) ?_; rw [HXX.out])
    | (refine wpList_v rfl _ (build_K _ _ (.tmp 5) (.tmp 7) rfl x rfl rfl _) ?_)
    | (refine wpList_v (op := ⟨some 3, _, _, _, _, _⟩) rfl _ (alloc_R' _ _ rfl _ W3 (X + 2) HS2.out HW3.out) ?_)
    | (refine wpList_st rfl 31 (.tmp 3) (.tmp 8) rfl (X + 2) 0 rfl (.agg (pdC (pdK x))) (pdC (pdK x)) rfl rfl info_pdR (pdC_one _) HQ3.out (Nat.le_of_ble_eq_true rfl) (pd_all _ _) ?_; intro w1 hst1; refine Hid.out ?_))
  refine Lib.hid ?_
  have HX : Hid (PdT 31 w1 X x) := Lib.hid (PdT.far HX3.out hst1 (by omega))
  have HR : Hid (PdT 31 w1 (X + 1) pd0) := Lib.hid (PdT.far HR3.out hst1 (by omega))
  have HQ : Hid (PdT 31 w1 (X + 2) (pdK x)) := Lib.hid hst1.1
  have HBx : Hid (Below (X + 2) w1 w1) := Lib.hid (Below.refl _ _)
  have HB1 : Hid (Below w.heap.size w w1) := Lib.hid (HB3.out.trans (hst1.2.1 _ (by rw [HXX.out]; omega)))
  have hne : X ≠ X + 2 := by omega
  have hBQ : X + 2 ≤ X + 2 := Nat.le_refl _
  have c0 : w1.cell? ⟨X, 0, none⟩ = some (.int .u8 x.kd) := (HX.out.cell 0).trans a0
  clear hst1 HX3 HR3 HQ3 HB3
  go_wp2_with fail
  refine (HH.out _).mono ?_
  rintro e w2 ⟨rfl, rfl⟩
  go_wp2_with fail
  refine (HH2.out _).mono ?_
  rintro e w2 ⟨rfl, rfl⟩
  go_wp2_with fail
  refine wp_region_held_drew (S := fun w' => PdT 31 w' X x) (by kernel_rfl) HX.out (fun hS0 => ?_)
  refine takeY (i := 0) (some 52) (v := .pointer (some ⟨X, 19, none⟩)) rfl rfl (by kernel_rfl) (by kernel_rfl) (by kernel_rfl) (fun _ _ _ h => h) (by rfl) (fun w' hS => by go_simp) hS0 ?_
  simp only [Act.put, List.setIfInBounds_toArray, List.set_cons_zero, List.set_cons_succ]
  refine takeY (i := 1) (some 53) (v := .int .i64 x.li) rfl rfl (by kernel_rfl) (by kernel_rfl) (by kernel_rfl) (fun _ _ _ h => h) (by rfl) (fun w' hS => by have c9 : w'.cell? ⟨X, 19, none⟩ = some (.int .i64 x.li) := (hS.cell 19).trans rfl; clear hS; go_simp) hS0 ?_
  simp only [Act.put, List.setIfInBounds_toArray, List.set_cons_zero, List.set_cons_succ]
  refine takeY (i := 2) (some 54) (v := .pointer (some ⟨X, 20, none⟩)) rfl rfl (by kernel_rfl) (by kernel_rfl) (by kernel_rfl) (fun _ _ _ h => h) (by rfl) (fun w' hS => by go_simp) hS0 ?_
  simp only [Act.put, List.setIfInBounds_toArray, List.set_cons_zero, List.set_cons_succ]
  refine takeL (i := 3) (some 55) 27 (.tmp 54) X 20 (idC x.id) _ rfl rfl (by kernel_rfl) (by kernel_rfl) (by kernel_rfl) (fun _ _ _ h => h) (by rfl) rfl rfl (fun w' hS => hS.id) Try.underlying27 rfl info_id hS0 ?_
  simp only [Act.put, List.setIfInBounds_toArray, List.set_cons_zero, List.set_cons_succ]
  refine takeY (i := 4) (some 56) (v := .pointer (some ⟨X, 28, none⟩)) rfl rfl (by kernel_rfl) (by kernel_rfl) (by kernel_rfl) (fun _ _ _ h => h) (by rfl) (fun w' hS => by go_simp) hS0 ?_
  simp only [Act.put, List.setIfInBounds_toArray, List.set_cons_zero, List.set_cons_succ]
  refine takeY (i := 5) (some 57) (v := .int .u32 (x.sq : Int)) rfl rfl (by kernel_rfl) (by kernel_rfl) (by kernel_rfl) (fun _ _ _ h => h) (by rfl) (fun w' hS => by have c9 : w'.cell? ⟨X, 28, none⟩ = some (.int .u32 (x.sq : Int)) := (hS.cell 28).trans rfl; clear hS; go_simp) hS0 ?_
  simp only [Act.put, List.setIfInBounds_toArray, List.set_cons_zero, List.set_cons_succ]
  refine takeY (i := 6) (some 58) (v := .pointer (some ⟨X, 29, none⟩)) rfl rfl (by kernel_rfl) (by kernel_rfl) (by kernel_rfl) (fun _ _ _ h => h) (by rfl) (fun w' hS => by go_simp) hS0 ?_
  simp only [Act.put, List.setIfInBounds_toArray, List.set_cons_zero, List.set_cons_succ]
  refine takeY (i := 7) (some 59) (v := .int .u8 x.bi) rfl rfl (by kernel_rfl) (by kernel_rfl) (by kernel_rfl) (fun _ _ _ h => h) (by rfl) (fun w' hS => by have c9 : w'.cell? ⟨X, 29, none⟩ = some (.int .u8 x.bi) := (hS.cell 29).trans rfl; clear hS; go_simp) hS0 ?_
  simp only [Act.put, List.setIfInBounds_toArray, List.set_cons_zero, List.set_cons_succ]
  have HS0 := Lib.hid hS0
  have HQ0 := HQ
  have HBx0 := Lib.hid (HBx.out.drew)
  clear hS0
  have hSn := HS0.out
  refine takeY (i := 8) (some 60) (v := .pointer (some ⟨(X + 2), 19, none⟩)) rfl rfl (by kernel_rfl) (by kernel_rfl) (by kernel_rfl) (fun _ _ _ h => h) (by rfl) (fun w' hS => by go_simp) hSn ?_
  simp only [Act.put, List.setIfInBounds_toArray, List.set_cons_zero, List.set_cons_succ]
  clear hSn
  refine takeSt (i := 9) 3 (.tmp 60) (.tmp 53) (X + 2) 19 (.int .i64 x.li) #[.int .i64 x.li] (pdC (⟨x.kd, 0, z0, 0, 0, 0, z0, x.li, z0, 0, 0, z0, z0, x.A, x.m, x.c⟩)) rfl rfl (by kernel_rfl) (by rfl) rfl rfl rfl rfl (by kernel_rfl) (by kernel_rfl) HQ0.out (Nat.le_of_ble_eq_true rfl) (by kernel_rfl) (fun w1' hst1 => ⟨PdT.far HS0.out hst1 hne, ?_⟩)
  have HS1 := Lib.hid (PdT.far HS0.out hst1 hne)
  have HQ1 : Hid (PdT 31 w1' (X + 2) (⟨x.kd, 0, z0, 0, 0, 0, z0, x.li, z0, 0, 0, z0, z0, x.A, x.m, x.c⟩)) := Lib.hid hst1.1
  have HBx1 := Lib.hid (HBx0.out.trans (hst1.2.1 _ hBQ))
  clear hst1
  have hSn := HS1.out
  refine takeY (i := 10) (some 61) (v := .pointer (some ⟨(X + 2), 20, none⟩)) rfl rfl (by kernel_rfl) (by kernel_rfl) (by kernel_rfl) (fun _ _ _ h => h) (by rfl) (fun w' hS => by go_simp) hSn ?_
  simp only [Act.put, List.setIfInBounds_toArray, List.set_cons_zero, List.set_cons_succ]
  clear hSn
  refine takeSt (i := 11) 27 (.tmp 61) (.tmp 55) (X + 2) 20 (.agg (idC x.id)) (idC x.id) (pdC (⟨x.kd, 0, z0, 0, 0, 0, z0, x.li, x.id, 0, 0, z0, z0, x.A, x.m, x.c⟩)) rfl rfl (by kernel_rfl) (by rfl) rfl rfl rfl rfl info_id (id_all _) HQ1.out (Nat.le_of_ble_eq_true rfl) (by kernel_rfl) (fun w2' hst2 => ⟨PdT.far HS1.out hst2 hne, ?_⟩)
  have HS2 := Lib.hid (PdT.far HS1.out hst2 hne)
  have HQ2 : Hid (PdT 31 w2' (X + 2) (⟨x.kd, 0, z0, 0, 0, 0, z0, x.li, x.id, 0, 0, z0, z0, x.A, x.m, x.c⟩)) := Lib.hid hst2.1
  have HBx2 := Lib.hid (HBx1.out.trans (hst2.2.1 _ hBQ))
  clear hst2
  have hSn := HS2.out
  refine takeY (i := 12) (some 62) (v := .pointer (some ⟨(X + 2), 28, none⟩)) rfl rfl (by kernel_rfl) (by kernel_rfl) (by kernel_rfl) (fun _ _ _ h => h) (by rfl) (fun w' hS => by go_simp) hSn ?_
  simp only [Act.put, List.setIfInBounds_toArray, List.set_cons_zero, List.set_cons_succ]
  clear hSn
  refine takeSt (i := 13) 28 (.tmp 62) (.tmp 57) (X + 2) 28 (.int .u32 (x.sq : Int)) #[.int .u32 (x.sq : Int)] (pdC (⟨x.kd, 0, z0, 0, 0, 0, z0, x.li, x.id, x.sq, 0, z0, z0, x.A, x.m, x.c⟩)) rfl rfl (by kernel_rfl) (by rfl) rfl rfl rfl rfl (by kernel_rfl) (by kernel_rfl) HQ2.out (Nat.le_of_ble_eq_true rfl) (by kernel_rfl) (fun w3' hst3 => ⟨PdT.far HS2.out hst3 hne, ?_⟩)
  have HS3 := Lib.hid (PdT.far HS2.out hst3 hne)
  have HQ3 : Hid (PdT 31 w3' (X + 2) (⟨x.kd, 0, z0, 0, 0, 0, z0, x.li, x.id, x.sq, 0, z0, z0, x.A, x.m, x.c⟩)) := Lib.hid hst3.1
  have HBx3 := Lib.hid (HBx2.out.trans (hst3.2.1 _ hBQ))
  clear hst3
  have hSn := HS3.out
  refine takeY (i := 14) (some 63) (v := .pointer (some ⟨(X + 2), 29, none⟩)) rfl rfl (by kernel_rfl) (by kernel_rfl) (by kernel_rfl) (fun _ _ _ h => h) (by rfl) (fun w' hS => by go_simp) hSn ?_
  simp only [Act.put, List.setIfInBounds_toArray, List.set_cons_zero, List.set_cons_succ]
  clear hSn
  refine takeSt (i := 15) 5 (.tmp 63) (.tmp 59) (X + 2) 29 (.int .u8 x.bi) #[.int .u8 x.bi] (pdC (⟨x.kd, 0, z0, 0, 0, 0, z0, x.li, x.id, x.sq, x.bi, z0, z0, x.A, x.m, x.c⟩)) rfl rfl (by kernel_rfl) (by rfl) rfl rfl rfl rfl (by kernel_rfl) (by kernel_rfl) HQ3.out (Nat.le_of_ble_eq_true rfl) (by kernel_rfl) (fun w4' hst4 => ⟨PdT.far HS3.out hst4 hne, ?_⟩)
  have HS4 := Lib.hid (PdT.far HS3.out hst4 hne)
  have HQ4 : Hid (PdT 31 w4' (X + 2) (⟨x.kd, 0, z0, 0, 0, 0, z0, x.li, x.id, x.sq, x.bi, z0, z0, x.A, x.m, x.c⟩)) := Lib.hid hst4.1
  have HBx4 := Lib.hid (HBx3.out.trans (hst4.2.1 _ hBQ))
  clear hst4
  refine wpAnyH_done (by kernel_rfl) ?_ _
  have HX' := HS4
  have HQ' := HQ4
  have HBx' := HBx4
  clear HX HQ HBx HQ0 HS0 HBx0 HS1 HQ1 HBx1 HS2 HQ2 HBx2 HS3 HQ3 HBx3 HS4 HQ4 HBx4
  have HR8 : Hid (PdT 31 w4' (X + 1) pd0) := Lib.hid (HR.out.below HBx'.out (by omega))
  have HB8 : Hid (Below w.heap.size w w4') := Lib.hid (HB1.out.trans (HBx'.out.mono (by rw [HXX.out]; omega)))
  go_wp2_with (first
    | (refine wpList_load_mid rfl 31 (.tmp 3) rfl (X + 2) 0 rfl (pdC (pl2 x)).toList _ HQ'.out.all Try.underlying31 rfl info_pdR ?_)
    | (refine wpList_st rfl 31 (.tmp 2) (.tmp 64) rfl (X + 1) 0 rfl (.agg (pdC (pl2 x))) (pdC (pl2 x)) rfl rfl info_pdR (pdC_one _) HR8.out (Nat.le_of_ble_eq_true rfl) (pd_all _ _) ?_; intro w9 hst9; refine Hid.out ?_))
  refine Lib.hid ?_
  have HR9 : Hid (PdT 31 w9 (X + 1) (pl2 x)) := Lib.hid hst9.1
  have HB9 := Lib.hid (HB8.out.trans (hst9.2.1 _ (by rw [HXX.out]; omega)))
  clear hst9
  go_wp2_with fail
  refine bodyPost_ret (results_R rfl _ w9 (X + 1) _ rfl HR9.out) rfl ⟨rfl, HB9.out⟩
set_option maxHeartbeats 4000000 in
set_option maxRecDepth 100000 in
theorem plain_4 (x : Pd) (h1 : ¬ (x.kd = 15 ∨ x.kd = 16 ∨ x.kd = 17)) (h2 : ¬ (x.kd = 18 ∨ x.kd = 20)) (h26 : 26 ≤ x.kd) (w : World) :
    Calls Try.prog 18 #[.agg (pdC x)] w fun e w' => e = .returned (.agg (pdC (pl4 x))) ∧ Below w.heap.size w w' := by
  have a0 := pdC_kd x
  have a46 := pdC_tl x
  have HH := Lib.hid (hello_no x.kd h1)
  have HH2 := Lib.hid (lsp_no x.kd h2)
  clear h1 h2
  obtain ⟨W1, hW1⟩ : ∃ W1, w.alloc (.cells (pdC x) 31) = W1 := ⟨_, rfl⟩
  obtain ⟨W2, hW2⟩ : ∃ W2, W1.alloc (.cells (pdC pd0) 31) = W2 := ⟨_, rfl⟩
  obtain ⟨W3, hW3⟩ : ∃ W3, W2.alloc (.cells (pdC pd0) 31) = W3 := ⟨_, rfl⟩
  have hs1 : W1.heap.size = w.heap.size + 1 := by rw [← hW1]; simp
  have hs2 : W2.heap.size = w.heap.size + 2 := by rw [← hW2]; simp [hs1]
  have hx1 : PdT 31 W1 w.heap.size x := by rw [← hW1]; exact heap_alloc_new w _
  have hx2 : PdT 31 W2 w.heap.size x := by rw [← hW2]; exact (Below.heap_alloc _ _ _ (by omega)).trans hx1
  have hx3 : PdT 31 W3 w.heap.size x := by rw [← hW3]; exact (Below.heap_alloc _ _ _ (by omega)).trans hx2
  have hr2 : PdT 31 W2 (w.heap.size + 1) pd0 := by rw [← hW2, ← hs1]; exact heap_alloc_new W1 _
  have hr3 : PdT 31 W3 (w.heap.size + 1) pd0 := by rw [← hW3]; exact (Below.heap_alloc _ _ _ (by omega)).trans hr2
  have hq3 : PdT 31 W3 (w.heap.size + 2) pd0 := by rw [← hW3, ← hs2]; exact heap_alloc_new W2 _
  have hb3 : Below w.heap.size w W3 := by rw [← hW3, ← hW2, ← hW1]; exact (((bself w).alloc (Nat.le_refl _) _).alloc (by simp) _).alloc (by simp; omega) _
  have HW1 := Lib.hid hW1
  have HW2 := Lib.hid hW2
  have HW3 := Lib.hid hW3
  have HS1 := Lib.hid hs1
  have HS2 := Lib.hid hs2
  have HX3 := Lib.hid hx3
  have HR3 := Lib.hid hr3
  have HQ3 := Lib.hid hq3
  have HB3 := Lib.hid hb3
  obtain ⟨X, hX⟩ : ∃ X, w.heap.size = X := ⟨_, rfl⟩
  have c0 : W2.cell? ⟨w.heap.size, 0, none⟩ = some (.int .u8 x.kd) := (hx2.cell 0).trans a0
  have c46 : W2.cell? ⟨w.heap.size, 46, none⟩ = some (.slice x.A x.m x.c) := (hx2.cell 46).trans a46
  clear hW1 hW2 hW3 hs1 hs2 hx1 hx2 hx3 hr2 hr3 hq3 hb3
  go_enter Try.func18, Try.ntmps18
  rw [hX] at c0 c46 HS1 HS2 HX3 HR3 HQ3
  have HXX := Lib.hid hX
  clear hX
  go_wp2_with (first
    | (refine wpList_v (op := ⟨some 2, _, _, _, _, _⟩) rfl _ (alloc_R' _ _ rfl _ W2 (X + 1) (by rw [HW1.out]; exact HS1.out) (by rw [HW1.out]; exact HW2.out)) ?_; rw [HXX.out])
    | (refine wpList_v rfl _ (build_K _ _ (.tmp 5) (.tmp 7) rfl x rfl rfl _) ?_)
    | (refine wpList_v (op := ⟨some 3, _, _, _, _, _⟩) rfl _ (alloc_R' _ _ rfl _ W3 (X + 2) HS2.out HW3.out) ?_)
    | (refine wpList_st rfl 31 (.tmp 3) (.tmp 8) rfl (X + 2) 0 rfl (.agg (pdC (pdK x))) (pdC (pdK x)) rfl rfl info_pdR (pdC_one _) HQ3.out (Nat.le_of_ble_eq_true rfl) (pd_all _ _) ?_; intro w1 hst1; refine Hid.out ?_))
  refine Lib.hid ?_
  have HX : Hid (PdT 31 w1 X x) := Lib.hid (PdT.far HX3.out hst1 (by omega))
  have HR : Hid (PdT 31 w1 (X + 1) pd0) := Lib.hid (PdT.far HR3.out hst1 (by omega))
  have HQ : Hid (PdT 31 w1 (X + 2) (pdK x)) := Lib.hid hst1.1
  have HBx : Hid (Below (X + 2) w1 w1) := Lib.hid (Below.refl _ _)
  have HB1 : Hid (Below w.heap.size w w1) := Lib.hid (HB3.out.trans (hst1.2.1 _ (by rw [HXX.out]; omega)))
  have hne : X ≠ X + 2 := by omega
  have hBQ : X + 2 ≤ X + 2 := Nat.le_refl _
  have c0 : w1.cell? ⟨X, 0, none⟩ = some (.int .u8 x.kd) := (HX.out.cell 0).trans a0
  clear hst1 HX3 HR3 HQ3 HB3
  go_wp2_with fail
  refine (HH.out _).mono ?_
  rintro e w2 ⟨rfl, rfl⟩
  go_wp2_with fail
  refine (HH2.out _).mono ?_
  rintro e w2 ⟨rfl, rfl⟩
  have c1 := HX.out.so
  have HC1 := Lib.hid c1
  clear c1
  go_wp2_with (first
    | (refine wpList_load_mid rfl 25 (.tmp 9) rfl X 2 rfl (ndC x.so).toList _ HC1.out Try.underlying25 rfl info_node ?_)
    | (refine wpList_st rfl 25 (.tmp 11) (.tmp 10) rfl (X + 2) 2 rfl (.agg (ndC x.so)) (ndC x.so) rfl rfl info_node (nd_all _) HQ.out (Nat.le_of_ble_eq_true rfl) (C' := pdC (pl4 x)) (by kernel_rfl) ?_; intro w3' hst; refine Hid.out ?_))
  refine Lib.hid ?_
  have HQ2 : Hid (PdT 31 w3' (X + 2) (pl4 x)) := Lib.hid hst.1
  have HX2 : Hid (PdT 31 w3' X x) := Lib.hid (HX.out.far hst hne)
  have HBx2 := Lib.hid (HBx.out.trans (hst.2.1 _ hBQ))
  have c0' : w3'.cell? ⟨X, 0, none⟩ = some (.int .u8 x.kd) := (HX2.out.cell 0).trans a0
  clear hst HQ HX HBx c0 HC1
  have HQ' := HQ2
  have HBx' := HBx2
  have HR8 : Hid (PdT 31 w3' (X + 1) pd0) := Lib.hid (HR.out.below HBx'.out (by omega))
  have HB8 : Hid (Below w.heap.size w w3') := Lib.hid (HB1.out.trans (HBx'.out.mono (by rw [HXX.out]; omega)))
  go_wp2_with (first
    | (refine wpList_load_mid rfl 31 (.tmp 3) rfl (X + 2) 0 rfl (pdC (pl4 x)).toList _ HQ'.out.all Try.underlying31 rfl info_pdR ?_)
    | (refine wpList_st rfl 31 (.tmp 2) (.tmp 64) rfl (X + 1) 0 rfl (.agg (pdC (pl4 x))) (pdC (pl4 x)) rfl rfl info_pdR (pdC_one _) HR8.out (Nat.le_of_ble_eq_true rfl) (pd_all _ _) ?_; intro w9 hst9; refine Hid.out ?_))
  refine Lib.hid ?_
  have HR9 : Hid (PdT 31 w9 (X + 1) (pl4 x)) := Lib.hid hst9.1
  have HB9 := Lib.hid (HB8.out.trans (hst9.2.1 _ (by rw [HXX.out]; omega)))
  clear hst9
  go_wp2_with fail
  refine bodyPost_ret (results_R rfl _ w9 (X + 1) _ rfl HR9.out) rfl ⟨rfl, HB9.out⟩
set_option maxHeartbeats 4000000 in
set_option maxRecDepth 100000 in
theorem plain_3 (x : Pd) (h1 : ¬ (x.kd = 15 ∨ x.kd = 16 ∨ x.kd = 17)) (h2 : ¬ (x.kd = 18 ∨ x.kd = 20)) (h26 : x.kd < 26) (w : World) :
    Calls Try.prog 18 #[.agg (pdC x)] w fun e w' => e = .returned (.agg (pdC (pl3 x))) ∧ Below w.heap.size w w' := by
  have a0 := pdC_kd x
  have a46 := pdC_tl x
  have HH := Lib.hid (hello_no x.kd h1)
  have HH2 := Lib.hid (lsp_no x.kd h2)
  clear h1 h2
  obtain ⟨W1, hW1⟩ : ∃ W1, w.alloc (.cells (pdC x) 31) = W1 := ⟨_, rfl⟩
  obtain ⟨W2, hW2⟩ : ∃ W2, W1.alloc (.cells (pdC pd0) 31) = W2 := ⟨_, rfl⟩
  obtain ⟨W3, hW3⟩ : ∃ W3, W2.alloc (.cells (pdC pd0) 31) = W3 := ⟨_, rfl⟩
  have hs1 : W1.heap.size = w.heap.size + 1 := by rw [← hW1]; simp
  have hs2 : W2.heap.size = w.heap.size + 2 := by rw [← hW2]; simp [hs1]
  have hx1 : PdT 31 W1 w.heap.size x := by rw [← hW1]; exact heap_alloc_new w _
  have hx2 : PdT 31 W2 w.heap.size x := by rw [← hW2]; exact (Below.heap_alloc _ _ _ (by omega)).trans hx1
  have hx3 : PdT 31 W3 w.heap.size x := by rw [← hW3]; exact (Below.heap_alloc _ _ _ (by omega)).trans hx2
  have hr2 : PdT 31 W2 (w.heap.size + 1) pd0 := by rw [← hW2, ← hs1]; exact heap_alloc_new W1 _
  have hr3 : PdT 31 W3 (w.heap.size + 1) pd0 := by rw [← hW3]; exact (Below.heap_alloc _ _ _ (by omega)).trans hr2
  have hq3 : PdT 31 W3 (w.heap.size + 2) pd0 := by rw [← hW3, ← hs2]; exact heap_alloc_new W2 _
  have hb3 : Below w.heap.size w W3 := by rw [← hW3, ← hW2, ← hW1]; exact (((bself w).alloc (Nat.le_refl _) _).alloc (by simp) _).alloc (by simp; omega) _
  have HW1 := Lib.hid hW1
  have HW2 := Lib.hid hW2
  have HW3 := Lib.hid hW3
  have HS1 := Lib.hid hs1
  have HS2 := Lib.hid hs2
  have HX3 := Lib.hid hx3
  have HR3 := Lib.hid hr3
  have HQ3 := Lib.hid hq3
  have HB3 := Lib.hid hb3
  obtain ⟨X, hX⟩ : ∃ X, w.heap.size = X := ⟨_, rfl⟩
  have c0 : W2.cell? ⟨w.heap.size, 0, none⟩ = some (.int .u8 x.kd) := (hx2.cell 0).trans a0
  have c46 : W2.cell? ⟨w.heap.size, 46, none⟩ = some (.slice x.A x.m x.c) := (hx2.cell 46).trans a46
  clear hW1 hW2 hW3 hs1 hs2 hx1 hx2 hx3 hr2 hr3 hq3 hb3
  go_enter Try.func18, Try.ntmps18
  rw [hX] at c0 c46 HS1 HS2 HX3 HR3 HQ3
  have HXX := Lib.hid hX
  clear hX
  go_wp2_with (first
    | (refine wpList_v (op := ⟨some 2, _, _, _, _, _⟩) rfl _ (alloc_R' _ _ rfl _ W2 (X + 1) (by rw [HW1.out]; exact HS1.out) (by rw [HW1.out]; exact HW2.out)) ?_; rw [HXX.out])
    | (refine wpList_v rfl _ (build_K _ _ (.tmp 5) (.tmp 7) rfl x rfl rfl _) ?_)
    | (refine wpList_v (op := ⟨some 3, _, _, _, _, _⟩) rfl _ (alloc_R' _ _ rfl _ W3 (X + 2) HS2.out HW3.out) ?_)
    | (refine wpList_st rfl 31 (.tmp 3) (.tmp 8) rfl (X + 2) 0 rfl (.agg (pdC (pdK x))) (pdC (pdK x)) rfl rfl info_pdR (pdC_one _) HQ3.out (Nat.le_of_ble_eq_true rfl) (pd_all _ _) ?_; intro w1 hst1; refine Hid.out ?_))
  refine Lib.hid ?_
  have HX : Hid (PdT 31 w1 X x) := Lib.hid (PdT.far HX3.out hst1 (by omega))
  have HR : Hid (PdT 31 w1 (X + 1) pd0) := Lib.hid (PdT.far HR3.out hst1 (by omega))
  have HQ : Hid (PdT 31 w1 (X + 2) (pdK x)) := Lib.hid hst1.1
  have HBx : Hid (Below (X + 2) w1 w1) := Lib.hid (Below.refl _ _)
  have HB1 : Hid (Below w.heap.size w w1) := Lib.hid (HB3.out.trans (hst1.2.1 _ (by rw [HXX.out]; omega)))
  have hne : X ≠ X + 2 := by omega
  have hBQ : X + 2 ≤ X + 2 := Nat.le_refl _
  have c0 : w1.cell? ⟨X, 0, none⟩ = some (.int .u8 x.kd) := (HX.out.cell 0).trans a0
  clear hst1 HX3 HR3 HQ3 HB3
  go_wp2_with fail
  refine (HH.out _).mono ?_
  rintro e w2 ⟨rfl, rfl⟩
  go_wp2_with fail
  refine (HH2.out _).mono ?_
  rintro e w2 ⟨rfl, rfl⟩
  have c1 := HX.out.so
  have HC1 := Lib.hid c1
  clear c1
  go_wp2_with (first
    | (refine wpList_load_mid rfl 25 (.tmp 9) rfl X 2 rfl (ndC x.so).toList _ HC1.out Try.underlying25 rfl info_node ?_)
    | (refine wpList_st rfl 25 (.tmp 11) (.tmp 10) rfl (X + 2) 2 rfl (.agg (ndC x.so)) (ndC x.so) rfl rfl info_node (nd_all _) HQ.out (Nat.le_of_ble_eq_true rfl) (C' := pdC (pl4 x)) (by kernel_rfl) ?_; intro w3' hst; refine Hid.out ?_))
  refine Lib.hid ?_
  have HQ2 : Hid (PdT 31 w3' (X + 2) (pl4 x)) := Lib.hid hst.1
  have HX2 : Hid (PdT 31 w3' X x) := Lib.hid (HX.out.far hst hne)
  have HBx2 := Lib.hid (HBx.out.trans (hst.2.1 _ hBQ))
  have c0' : w3'.cell? ⟨X, 0, none⟩ = some (.int .u8 x.kd) := (HX2.out.cell 0).trans a0
  clear hst HQ HX HBx c0 HC1
  have HQ' := HQ2
  have HBx' := HBx2
  go_wp2_with fail
  have HX := HX2
  have HQ := HQ'
  have HBx := HBx'
  clear HX2 HQ' HBx' HQ2 HBx2 c0'
  refine wp_region_held_drew (S := fun w' => PdT 31 w' X x) (by kernel_rfl) HX.out (fun hS0 => ?_)
  refine takeY (i := 0) (some 15) (v := .pointer (some ⟨X, 30, none⟩)) rfl rfl (by kernel_rfl) (by kernel_rfl) (by kernel_rfl) (fun _ _ _ h => h) (by rfl) (fun w' hS => by go_simp) hS0 ?_
  simp only [Act.put, List.setIfInBounds_toArray, List.set_cons_zero, List.set_cons_succ]
  refine takeL (i := 1) (some 16) 27 (.tmp 15) X 30 (idC x.st) _ rfl rfl (by kernel_rfl) (by kernel_rfl) (by kernel_rfl) (fun _ _ _ h => h) (by rfl) rfl rfl (fun w' hS => hS.st) Try.underlying27 rfl info_id hS0 ?_
  simp only [Act.put, List.setIfInBounds_toArray, List.set_cons_zero, List.set_cons_succ]
  refine takeY (i := 2) (some 17) (v := .pointer (some ⟨X, 38, none⟩)) rfl rfl (by kernel_rfl) (by kernel_rfl) (by kernel_rfl) (fun _ _ _ h => h) (by rfl) (fun w' hS => by go_simp) hS0 ?_
  simp only [Act.put, List.setIfInBounds_toArray, List.set_cons_zero, List.set_cons_succ]
  refine takeL (i := 3) (some 18) 27 (.tmp 17) X 38 (idC x.en) _ rfl rfl (by kernel_rfl) (by kernel_rfl) (by kernel_rfl) (fun _ _ _ h => h) (by rfl) rfl rfl (fun w' hS => hS.en) Try.underlying27 rfl info_id hS0 ?_
  simp only [Act.put, List.setIfInBounds_toArray, List.set_cons_zero, List.set_cons_succ]
  have HS0 := Lib.hid hS0
  have HQ0 := HQ
  have HBx0 := Lib.hid (HBx.out.drew)
  clear hS0
  have hSn := HS0.out
  refine takeY (i := 4) (some 19) (v := .pointer (some ⟨(X + 2), 30, none⟩)) rfl rfl (by kernel_rfl) (by kernel_rfl) (by kernel_rfl) (fun _ _ _ h => h) (by rfl) (fun w' hS => by go_simp) hSn ?_
  simp only [Act.put, List.setIfInBounds_toArray, List.set_cons_zero, List.set_cons_succ]
  clear hSn
  refine takeSt (i := 5) 27 (.tmp 19) (.tmp 16) (X + 2) 30 (.agg (idC x.st)) (idC x.st) (pdC (⟨x.kd, 0, x.so, 0, 0, 0, z0, 0, z0, 0, 0, x.st, z0, x.A, x.m, x.c⟩)) rfl rfl (by kernel_rfl) (by rfl) rfl rfl rfl rfl info_id (id_all _) HQ0.out (Nat.le_of_ble_eq_true rfl) (by kernel_rfl) (fun v1' hst1 => ⟨PdT.far HS0.out hst1 hne, ?_⟩)
  have HS1 := Lib.hid (PdT.far HS0.out hst1 hne)
  have HQ1 : Hid (PdT 31 v1' (X + 2) (⟨x.kd, 0, x.so, 0, 0, 0, z0, 0, z0, 0, 0, x.st, z0, x.A, x.m, x.c⟩)) := Lib.hid hst1.1
  have HBx1 := Lib.hid (HBx0.out.trans (hst1.2.1 _ hBQ))
  clear hst1
  have hSn := HS1.out
  refine takeY (i := 6) (some 20) (v := .pointer (some ⟨(X + 2), 38, none⟩)) rfl rfl (by kernel_rfl) (by kernel_rfl) (by kernel_rfl) (fun _ _ _ h => h) (by rfl) (fun w' hS => by go_simp) hSn ?_
  simp only [Act.put, List.setIfInBounds_toArray, List.set_cons_zero, List.set_cons_succ]
  clear hSn
  refine takeSt (i := 7) 27 (.tmp 20) (.tmp 18) (X + 2) 38 (.agg (idC x.en)) (idC x.en) (pdC (⟨x.kd, 0, x.so, 0, 0, 0, z0, 0, z0, 0, 0, x.st, x.en, x.A, x.m, x.c⟩)) rfl rfl (by kernel_rfl) (by rfl) rfl rfl rfl rfl info_id (id_all _) HQ1.out (Nat.le_of_ble_eq_true rfl) (by kernel_rfl) (fun v2' hst2 => ⟨PdT.far HS1.out hst2 hne, ?_⟩)
  have HS2 := Lib.hid (PdT.far HS1.out hst2 hne)
  have HQ2 : Hid (PdT 31 v2' (X + 2) (⟨x.kd, 0, x.so, 0, 0, 0, z0, 0, z0, 0, 0, x.st, x.en, x.A, x.m, x.c⟩)) := Lib.hid hst2.1
  have HBx2 := Lib.hid (HBx1.out.trans (hst2.2.1 _ hBQ))
  clear hst2
  refine wpAnyH_done (by kernel_rfl) ?_ _
  have HX' := HS2
  have HQ' := HQ2
  have HBx' := HBx2
  clear HX HQ HBx HQ0 HS0 HBx0 HS1 HQ1 HBx1 HS2 HQ2 HBx2
  have HR8 : Hid (PdT 31 v2' (X + 1) pd0) := Lib.hid (HR.out.below HBx'.out (by omega))
  have HB8 : Hid (Below w.heap.size w v2') := Lib.hid (HB1.out.trans (HBx'.out.mono (by rw [HXX.out]; omega)))
  go_wp2_with (first
    | (refine wpList_load_mid rfl 31 (.tmp 3) rfl (X + 2) 0 rfl (pdC (pl3 x)).toList _ HQ'.out.all Try.underlying31 rfl info_pdR ?_)
    | (refine wpList_st rfl 31 (.tmp 2) (.tmp 64) rfl (X + 1) 0 rfl (.agg (pdC (pl3 x))) (pdC (pl3 x)) rfl rfl info_pdR (pdC_one _) HR8.out (Nat.le_of_ble_eq_true rfl) (pd_all _ _) ?_; intro w9 hst9; refine Hid.out ?_))
  refine Lib.hid ?_
  have HR9 : Hid (PdT 31 w9 (X + 1) (pl3 x)) := Lib.hid hst9.1
  have HB9 := Lib.hid (HB8.out.trans (hst9.2.1 _ (by rw [HXX.out]; omega)))
  clear hst9
  go_wp2_with fail
  refine bodyPost_ret (results_R rfl _ w9 (X + 1) _ rfl HR9.out) rfl ⟨rfl, HB9.out⟩
end Go.Proofs.Ytfojfdlapekjoaa
