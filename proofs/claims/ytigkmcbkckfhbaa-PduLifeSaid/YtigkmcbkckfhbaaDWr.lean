/- pdu.Write writes a packet. Each theorem states its conditions. -/
import Derived.Test.YtigkmcbkckfhbaaDSign
namespace Go.Proofs.Ytigkmcbkckfhbaa
open Go.RowKit
set_option linter.unusedVariables false

theorem pdC_0 (p : Pd) : (pdC p)[0]? = some (.int .u8 p.kd) := rfl
theorem pdC_46 (p : Pd) : (pdC p)[46]? = some (.slice p.A p.m p.c) := rfl
theorem sz_le (L : Nat → It) (m m0 : Nat) (h : JEnds L m m0) : sz L m0 ≤ 1492 := by
  rcases Nat.eq_zero_or_pos m0 with h0 | h0
  · subst h0; simp [sz]
  · have := h.2.1 (m0 - 1) (by omega)
    unfold bad at this
    rw [show m0 - 1 + 1 = m0 by omega] at this
    omega
/-- a packet that is written: where its TLVs lie -/
def PdIn (w : World) (p : Pd) (L : Nat → It) : Prop := RdT w p.A p.m L ∧ p.m ≤ p.c ∧ p.c ≤ 9223372036854775807
theorem RdT.below' {w w' : World} {A : Option Addr} {m : Nat} {L : Nat → It} (h : RdT w A m L) (hb : Below w.heap.size w w') : RdT w' A m L := h.below hb
set_option maxRecDepth 100000 in
theorem write_5 (p : Pd) (hk : cls p.kd = 5) (w : World) : Calls Try.prog 12 #[.agg (pdC p)] w fun e w' => e = .returned (.tuple #[.slice none 0 0, .int .i64 1]) ∧ Below w.heap.size w w' := by
  have a0 := pdC_0 p
  have HF := Lib.hid (fields_none p.kd hk)
  have HB := Lib.hid ((bself w).alloc (Nat.le_refl _) (.cells (pdC p) 33))
  clear hk
  go_enter Try.func12, Try.ntmps12
  go_wp2_with fail
  refine (HF.out _).mono ?_
  rintro e w1 ⟨rfl, rfl⟩
  go_wp2_with fail
  go_ret2
  exact ⟨rfl, HB.out⟩
set_option maxHeartbeats 4000000 in
set_option maxRecDepth 100000 in
theorem write_nofit (p : Pd) (q : Nat) (hk : cls p.kd = q) (hq : q ≤ 4) (hp : PdOk p) (hfit : fitP p q = false) (w : World) : Calls Try.prog 12 #[.agg (pdC p)] w fun e w' => e = .returned (.tuple #[.slice none 0 0, .int .i64 1]) ∧ Below w.heap.size w w' := by
  have a0 := pdC_0 p
  have a46 := pdC_46 p
  have HF := Lib.hid (fields_any p.kd q hk hq)
  have hlen := fl_len q hq
  have HHD := Lib.hid (hdN_bd q hq)
  obtain ⟨n, hn⟩ : ∃ n, (flC q).length = n := ⟨_, rfl⟩
  have HN := Lib.hid hn
  rw [hn] at hlen HF
  have hn0 : ((n : Int) == 0) = false := by simp; omega
  have HX0 := Lib.hid (heap_alloc_new w (.cells (pdC p) 33))
  have HB0 := Lib.hid ((bself w).alloc (Nat.le_refl _) (.cells (pdC p) 33))
  have hs0 : (w.alloc (.cells (pdC p) 33)).heap.size = w.heap.size + 1 := by simp
  have HP := Lib.hid hp
  have HK := Lib.hid hk
  have HQ := Lib.hid hq
  have HFIT := Lib.hid hfit
  clear hfit
  clear hn hp hk hq
  go_enter Try.func12, Try.ntmps12
  go_wp2_with fail
  obtain ⟨W1, hW1⟩ : ∃ W1, w.alloc (.cells (pdC p) 33) = W1 := ⟨_, rfl⟩
  rw [hW1] at HX0 HB0 hs0 ⊢
  clear hW1
  refine (HF.out W1).mono ?_
  rintro e w1 ⟨rfl, hf1, hb1⟩
  have HFl : Hid (FlAt w1 W1.heap.size q) := Lib.hid hf1
  have HPd : Hid (PdAt w1 w.heap.size p) := Lib.hid ((hb1.block _ (by omega)).trans HX0.out)
  have HB1 : Hid (Below w.heap.size w w1) := Lib.hid (HB0.out.trans (hb1.mono (by omega)))
  have hs1 := hb1.size
  clear hf1 hb1 HX0
  obtain ⟨g1, hg1⟩ : ∃ g1, W1.heap.size = g1 := ⟨_, rfl⟩
  rw [hg1] at HFl hs0 hs1 ⊢
  clear hg1
  have HAF := Lib.hid (allFit_any p w.heap.size g1 q HQ.out w1 HPd.out HFl.out)
  have c46 : w1.cell? ⟨w.heap.size, 46, none⟩ = some (.slice p.A p.m p.c) := (HPd.out.cell 46).trans a46
  have c0 : w1.cell? ⟨w.heap.size, 0, none⟩ = some (.int .u8 p.kd) := (HPd.out.cell 0).trans a0
  have HC0 := Lib.hid c0
  rw [HN.out] at HAF
  rw [HFIT.out] at HAF
  clear HB0 hs0 HF a0 a46
  go_wp2_with fail
  refine HAF.out.mono ?_
  rintro e w2 ⟨rfl, rfl⟩
  go_wp2_with fail
  go_ret2
  exact ⟨rfl, HB1.out⟩
set_option maxHeartbeats 4000000 in
set_option maxRecDepth 100000 in
theorem write_join (p : Pd) (q : Nat) (hk : cls p.kd = q) (hq : q ≤ 4) (hp : PdOk p) (hfit : fitP p q = true) (L : Nat → It) (m0 : Nat) (hm : JEnds L p.m m0) (hlt : m0 < p.m) (w : World) (hin : PdIn w p L) : Calls Try.prog 12 #[.agg (pdC p)] w fun e w' => e = .returned (.tuple #[.slice none 0 0, .int .i64 2]) ∧ Below w.heap.size w w' := by
  have a0 := pdC_0 p
  have a46 := pdC_46 p
  have HF := Lib.hid (fields_any p.kd q hk hq)
  have hlen := fl_len q hq
  have HHD := Lib.hid (hdN_bd q hq)
  obtain ⟨n, hn⟩ : ∃ n, (flC q).length = n := ⟨_, rfl⟩
  have HN := Lib.hid hn
  rw [hn] at hlen HF
  have hn0 : ((n : Int) == 0) = false := by simp; omega
  have HX0 := Lib.hid (heap_alloc_new w (.cells (pdC p) 33))
  have HB0 := Lib.hid ((bself w).alloc (Nat.le_refl _) (.cells (pdC p) 33))
  have hs0 : (w.alloc (.cells (pdC p) 33)).heap.size = w.heap.size + 1 := by simp
  have HP := Lib.hid hp
  have HK := Lib.hid hk
  have HQ := Lib.hid hq
  have HFIT := Lib.hid hfit
  have HM := Lib.hid hm
  have HIN := Lib.hid hin
  clear hfit hm hin
  clear hn hp hk hq
  go_enter Try.func12, Try.ntmps12
  go_wp2_with fail
  obtain ⟨W1, hW1⟩ : ∃ W1, w.alloc (.cells (pdC p) 33) = W1 := ⟨_, rfl⟩
  rw [hW1] at HX0 HB0 hs0 ⊢
  clear hW1
  refine (HF.out W1).mono ?_
  rintro e w1 ⟨rfl, hf1, hb1⟩
  have HFl : Hid (FlAt w1 W1.heap.size q) := Lib.hid hf1
  have HPd : Hid (PdAt w1 w.heap.size p) := Lib.hid ((hb1.block _ (by omega)).trans HX0.out)
  have HB1 : Hid (Below w.heap.size w w1) := Lib.hid (HB0.out.trans (hb1.mono (by omega)))
  have hs1 := hb1.size
  clear hf1 hb1 HX0
  obtain ⟨g1, hg1⟩ : ∃ g1, W1.heap.size = g1 := ⟨_, rfl⟩
  rw [hg1] at HFl hs0 hs1 ⊢
  clear hg1
  have HAF := Lib.hid (allFit_any p w.heap.size g1 q HQ.out w1 HPd.out HFl.out)
  have c46 : w1.cell? ⟨w.heap.size, 46, none⟩ = some (.slice p.A p.m p.c) := (HPd.out.cell 46).trans a46
  have c0 : w1.cell? ⟨w.heap.size, 0, none⟩ = some (.int .u8 p.kd) := (HPd.out.cell 0).trans a0
  have HC0 := Lib.hid c0
  rw [HN.out] at HAF
  rw [HFIT.out] at HAF
  clear HB0 hs0 HF a0 a46
  go_wp2_with fail
  refine HAF.out.mono ?_
  rintro e w2 ⟨rfl, rfl⟩
  go_wp2_with fail
  have HJ := Lib.hid (join_any p.A p.m p.c m0 L w1 (HIN.out.1.below HB1.out) HIN.out.2.1 HIN.out.2.2 HM.out)
  refine HJ.out.mono ?_
  clear HJ
  rintro e w2 (⟨h, _⟩ | ⟨_, rfl, hb2⟩)
  · omega
  have HB2 := Lib.hid (HB1.out.trans (hb2.mono HB1.out.size))
  clear hb2
  go_wp2_with fail
  go_ret2
  exact ⟨rfl, HB2.out⟩
set_option maxHeartbeats 4000000 in
set_option maxRecDepth 100000 in
theorem write_long (p : Pd) (q : Nat) (hk : cls p.kd = q) (hq : q ≤ 4) (hp : PdOk p) (hfit : fitP p q = true) (L : Nat → It) (hm : JEnds L p.m p.m) (hlong : 1492 < hdN q + sz L p.m) (w : World) (hin : PdIn w p L) : Calls Try.prog 12 #[.agg (pdC p)] w fun e w' => e = .returned (.tuple #[.slice none 0 0, .int .i64 2]) ∧ Below w.heap.size w w' := by
  have a0 := pdC_0 p
  have a46 := pdC_46 p
  have HF := Lib.hid (fields_any p.kd q hk hq)
  have hlen := fl_len q hq
  have HHD := Lib.hid (hdN_bd q hq)
  obtain ⟨n, hn⟩ : ∃ n, (flC q).length = n := ⟨_, rfl⟩
  have HN := Lib.hid hn
  rw [hn] at hlen HF
  have hn0 : ((n : Int) == 0) = false := by simp; omega
  have HX0 := Lib.hid (heap_alloc_new w (.cells (pdC p) 33))
  have HB0 := Lib.hid ((bself w).alloc (Nat.le_refl _) (.cells (pdC p) 33))
  have hs0 : (w.alloc (.cells (pdC p) 33)).heap.size = w.heap.size + 1 := by simp
  have HP := Lib.hid hp
  have HK := Lib.hid hk
  have HQ := Lib.hid hq
  have HFIT := Lib.hid hfit
  have HM := Lib.hid hm
  have HIN := Lib.hid hin
  clear hfit hm hin
  clear hn hp hk hq
  go_enter Try.func12, Try.ntmps12
  go_wp2_with fail
  obtain ⟨W1, hW1⟩ : ∃ W1, w.alloc (.cells (pdC p) 33) = W1 := ⟨_, rfl⟩
  rw [hW1] at HX0 HB0 hs0 ⊢
  clear hW1
  refine (HF.out W1).mono ?_
  rintro e w1 ⟨rfl, hf1, hb1⟩
  have HFl : Hid (FlAt w1 W1.heap.size q) := Lib.hid hf1
  have HPd : Hid (PdAt w1 w.heap.size p) := Lib.hid ((hb1.block _ (by omega)).trans HX0.out)
  have HB1 : Hid (Below w.heap.size w w1) := Lib.hid (HB0.out.trans (hb1.mono (by omega)))
  have hs1 := hb1.size
  clear hf1 hb1 HX0
  obtain ⟨g1, hg1⟩ : ∃ g1, W1.heap.size = g1 := ⟨_, rfl⟩
  rw [hg1] at HFl hs0 hs1 ⊢
  clear hg1
  have HAF := Lib.hid (allFit_any p w.heap.size g1 q HQ.out w1 HPd.out HFl.out)
  have c46 : w1.cell? ⟨w.heap.size, 46, none⟩ = some (.slice p.A p.m p.c) := (HPd.out.cell 46).trans a46
  have c0 : w1.cell? ⟨w.heap.size, 0, none⟩ = some (.int .u8 p.kd) := (HPd.out.cell 0).trans a0
  have HC0 := Lib.hid c0
  rw [HN.out] at HAF
  rw [HFIT.out] at HAF
  clear HB0 hs0 HF a0 a46
  go_wp2_with fail
  refine HAF.out.mono ?_
  rintro e w2 ⟨rfl, rfl⟩
  go_wp2_with fail
  have HJ := Lib.hid (join_any p.A p.m p.c p.m L w1 (HIN.out.1.below HB1.out) HIN.out.2.1 HIN.out.2.2 HM.out)
  refine HJ.out.mono ?_
  clear HJ
  rintro e w2 (⟨_, gT, cT, rfl, hgT, hoT, hb2⟩ | ⟨h, _⟩)
  rotate_left
  · omega
  have HB2 := Lib.hid (HB1.out.trans (hb2.mono HB1.out.size))
  have HFl2 := Lib.hid (HFl.out.below hb2)
  have HPd2 := Lib.hid (HPd.out.below hb2 HPd.out.lt)
  have HT2 := Lib.hid hoT
  have HAH := Lib.hid (fun W h => ahead_any g1 q HQ.out W h)
  rw [HN.out] at HAH
  have hsz := sz_le L p.m p.m HM.out
  have HHD' := HHD.out
  obtain ⟨S, hS⟩ : ∃ S, sz L p.m = S := ⟨_, rfl⟩
  have HSS := Lib.hid hS
  obtain ⟨H, hH⟩ : ∃ H, hdN q = H := ⟨_, rfl⟩
  have HHH := Lib.hid hH
  rw [hS] at hsz HT2
  rw [hH] at HHD' HAH
  rw [hS, hH] at hlong
  rw [hS]
  clear hb2 hS hH hoT c46 HPd HFl HAF
  go_wp2_with fail
  refine (HAH.out _ HFl2.out).mono ?_
  rintro e w3 ⟨rfl, rfl⟩
  go_wp2_with fail
  go_ret2
  exact ⟨rfl, HB2.out⟩
set_option maxHeartbeats 4000000 in
set_option maxRecDepth 100000 in
theorem write_ok (p : Pd) (q : Nat) (hk : cls p.kd = q) (hq : q ≤ 4) (hp : PdOk p) (hfit : fitP p q = true) (L : Nat → It) (hm : JEnds L p.m p.m) (hlong : hdN q + sz L p.m ≤ 1492) (w : World) (hin : PdIn w p L) : Calls Try.prog 12 #[.agg (pdC p)] w fun e w' => ∃ v, e = .returned (.tuple #[v, .int .i64 0]) ∧ OwnB w' w.heap.size v (hdN q + sz L p.m) (pdZ p q L) ∧ Below w.heap.size w w' := by
  have a0 := pdC_0 p
  have a46 := pdC_46 p
  have HF := Lib.hid (fields_any p.kd q hk hq)
  have hlen := fl_len q hq
  have HHD := Lib.hid (hdN_bd q hq)
  obtain ⟨n, hn⟩ : ∃ n, (flC q).length = n := ⟨_, rfl⟩
  have HN := Lib.hid hn
  rw [hn] at hlen HF
  have hn0 : ((n : Int) == 0) = false := by simp; omega
  have HX0 := Lib.hid (heap_alloc_new w (.cells (pdC p) 33))
  have HB0 := Lib.hid ((bself w).alloc (Nat.le_refl _) (.cells (pdC p) 33))
  have hs0 : (w.alloc (.cells (pdC p) 33)).heap.size = w.heap.size + 1 := by simp
  have HP := Lib.hid hp
  have HK := Lib.hid hk
  have HQ := Lib.hid hq
  have HFIT := Lib.hid hfit
  have HM := Lib.hid hm
  have HIN := Lib.hid hin
  clear hfit hm hin
  clear hn hp hk hq
  go_enter Try.func12, Try.ntmps12
  go_wp2_with fail
  obtain ⟨W1, hW1⟩ : ∃ W1, w.alloc (.cells (pdC p) 33) = W1 := ⟨_, rfl⟩
  rw [hW1] at HX0 HB0 hs0 ⊢
  clear hW1
  refine (HF.out W1).mono ?_
  rintro e w1 ⟨rfl, hf1, hb1⟩
  have HFl : Hid (FlAt w1 W1.heap.size q) := Lib.hid hf1
  have HPd : Hid (PdAt w1 w.heap.size p) := Lib.hid ((hb1.block _ (by omega)).trans HX0.out)
  have HB1 : Hid (Below w.heap.size w w1) := Lib.hid (HB0.out.trans (hb1.mono (by omega)))
  have hs1 := hb1.size
  clear hf1 hb1 HX0
  obtain ⟨g1, hg1⟩ : ∃ g1, W1.heap.size = g1 := ⟨_, rfl⟩
  rw [hg1] at HFl hs0 hs1 ⊢
  clear hg1
  have HAF := Lib.hid (allFit_any p w.heap.size g1 q HQ.out w1 HPd.out HFl.out)
  have c46 : w1.cell? ⟨w.heap.size, 46, none⟩ = some (.slice p.A p.m p.c) := (HPd.out.cell 46).trans a46
  have c0 : w1.cell? ⟨w.heap.size, 0, none⟩ = some (.int .u8 p.kd) := (HPd.out.cell 0).trans a0
  have HC0 := Lib.hid c0
  rw [HN.out] at HAF
  rw [HFIT.out] at HAF
  clear HB0 hs0 HF a0 a46
  go_wp2_with fail
  refine HAF.out.mono ?_
  rintro e w2 ⟨rfl, rfl⟩
  go_wp2_with fail
  have HJ := Lib.hid (join_any p.A p.m p.c p.m L w1 (HIN.out.1.below HB1.out) HIN.out.2.1 HIN.out.2.2 HM.out)
  refine HJ.out.mono ?_
  clear HJ
  rintro e w2 (⟨_, gT, cT, rfl, hgT, hoT, hb2⟩ | ⟨h, _⟩)
  rotate_left
  · omega
  have HB2 := Lib.hid (HB1.out.trans (hb2.mono HB1.out.size))
  have HFl2 := Lib.hid (HFl.out.below hb2)
  have HPd2 := Lib.hid (HPd.out.below hb2 HPd.out.lt)
  have HT2 := Lib.hid hoT
  have HAH := Lib.hid (fun W h => ahead_any g1 q HQ.out W h)
  rw [HN.out] at HAH
  have hsz := sz_le L p.m p.m HM.out
  have HHD' := HHD.out
  obtain ⟨S, hS⟩ : ∃ S, sz L p.m = S := ⟨_, rfl⟩
  have HSS := Lib.hid hS
  obtain ⟨H, hH⟩ : ∃ H, hdN q = H := ⟨_, rfl⟩
  have HHH := Lib.hid hH
  rw [hS] at hsz HT2
  rw [hH] at HHD' HAH
  rw [hS, hH] at hlong
  rw [hS]
  clear hb2 hS hH hoT c46 HPd HFl HAF
  go_wp2_with fail
  refine (HAH.out _ HFl2.out).mono ?_
  rintro e w3 ⟨rfl, rfl⟩
  go_wp2_with fail
  obtain ⟨Wn, hWn⟩ : ∃ Wn, H + S = Wn := ⟨_, rfl⟩
  have e1 : (H : Int) + (S : Int) = (Wn : Int) := by omega
  have hWl : Wn ≤ 1492 := by omega
  have HWn := Lib.hid hWn
  rw [e1]
  clear e1 hWn c0
  have HHead := Lib.hid (head_any p.kd H HP.out.1.1 (by omega))
  refine wp_region_held_drew (S := fun w' => w'.cell? ⟨w.heap.size, 0, none⟩ = some (.int .u8 p.kd)) (by kernel_rfl) ((HPd2.out.cell 0).trans (pdC_0 p)) (fun hS0 => ?_)
  refine takeY (i := 0) (some 38) (v := .pointer (some ⟨w.heap.size, 0, none⟩)) rfl rfl (by kernel_rfl) (by kernel_rfl) (by kernel_rfl) (fun _ _ _ h => h) (by rfl) (fun w' hS => by go_simp) hS0 ?_
  simp only [Act.put, List.setIfInBounds_toArray, List.set_cons_zero, List.set_cons_succ]
  refine takeY (i := 1) (some 39) (v := .int .u8 p.kd) rfl rfl (by kernel_rfl) (by kernel_rfl) (by kernel_rfl) (fun _ _ _ h => h) (by rfl) (fun w' hS => by go_simp) hS0 ?_
  simp only [Act.put, List.setIfInBounds_toArray, List.set_cons_zero, List.set_cons_succ]
  refine takeY (i := 2) (some 40) (v := .slice (some ⟨g1, 0, none⟩) n n) rfl rfl (by kernel_rfl) (by kernel_rfl) (by kernel_rfl) (fun _ _ _ h => h) (by rfl) (fun w' hS => by go_simp) hS0 ?_
  simp only [Act.put, List.setIfInBounds_toArray, List.set_cons_zero, List.set_cons_succ]
  refine takeC (i := 3) (some 41) 33 #[.slice (some ⟨g1, 0, none⟩) n n] (.int .i64 (H : Int)) (R := fun w' => w' = w2.drew) rfl rfl (by kernel_rfl) (by rfl) (by go_simp) ((HAH.out w2.drew HFl2.out).mono fun e w' h => ⟨h.1, h.2.symm⟩) (fun w' h => by rw [h]; exact hS0) (fun w3 h3 hS3 => ?_)
  subst h3
  simp only [Act.put, List.setIfInBounds_toArray, List.set_cons_zero, List.set_cons_succ]
  refine takeCE (i := 4) (some 42) 34 #[.int .u8 p.kd, .int .i64 (H : Int)] (R := fun v w' => OwnB w' w2.heap.size v 8 (headZ p.kd H) ∧ Below w2.heap.size w2 w' ∧ w'.cell? ⟨w.heap.size, 0, none⟩ = some (.int .u8 p.kd)) rfl rfl (by kernel_rfl) (by rfl) (by go_simp) ((HHead.out w2.drew).mono fun e w' ⟨he, ho, hb⟩ => ⟨_, he, ho.ownB (Nat.le_refl _), (bself w2).drew.trans hb, (hb.cell HPd2.out.lt).trans hS3⟩) (fun v w' h => h.2.2) (fun v8 w3 h3 hS3 => ?_)
  obtain ⟨ho3, hb3, _⟩ := h3
  simp only [Act.put, List.setIfInBounds_toArray, List.set_cons_zero, List.set_cons_succ]
  refine takeY (i := 5) (some 8) (v := v8) rfl rfl (by kernel_rfl) (by kernel_rfl) (by kernel_rfl) (fun _ _ _ h => h) (by rfl) (fun w' hS => by go_simp) hS3 ?_
  simp only [Act.put, List.setIfInBounds_toArray, List.set_cons_zero, List.set_cons_succ]
  refine wpAnyH_done (by kernel_rfl) ?_ _
  have HO3 : Hid (OwnB w3 w2.heap.size v8 (accN q 0) (accZ p Wn q 0)) := Lib.hid (by show OwnB w3 w2.heap.size v8 8 (headZ p.kd (hdN q)); rw [HHH.out]; exact ho3)
  have HB3 := Lib.hid hb3
  clear ho3 hb3 hS3 hS0
  go_wp2_with fail
  go_loopw [8, 45] (fun v t wr => ∃ i : Nat, i ≤ n ∧ t = .int .i64 i ∧ Hid (OwnB wr w2.heap.size v (accN q i) (accZ p Wn q i)) ∧ Hid (Below w2.heap.size w2 wr)) (fun _ t _ => n - (intOf t).toNat)
  case atStart => exact ⟨0, Nat.zero_le _, rfl, HO3, HB3⟩
  case round =>
    clear HO3 HB3
    obtain ⟨i, hi, rfl, HO, HW⟩ := hrel
    by_cases hlt : i < n
    · have ci := (HFl2.out.below HW.out).cell (i := i) (by rw [HN.out]; exact hlt)
      have hf := fAt_le q i HQ.out
      have hfit := fitP_at HFIT.out i (by rw [HN.out]; exact hlt)
      have HPut := Lib.hid (putF_any p HP.out w.heap.size Wn (fAt q i) (by omega) hf hfit _ (HPd2.out.below HW.out HPd2.out.lt))
      have hfz := fsz_bd (fAt q i)
      have hab := accN_bd q i
      have HS1 : Hid (vals (accZ p Wn q i) (accN q i) ++ vals (fZ p Wn (fAt q i)) (fsz (fAt q i)) = vals (accZ p Wn q (i + 1)) (accN q (i + 1))) := Lib.hid (vals_cat _ _ _ _)
      have HS2 : Hid (accN q (i + 1) = accN q i + fsz (fAt q i)) := Lib.hid rfl
      have HS3 := Lib.hid (accZ_bd p Wn q HQ.out HP.out (i + 1))
      obtain ⟨f, hf'⟩ : ∃ f, fAt q i = f := ⟨_, rfl⟩
      rw [hf'] at ci HPut HS1 HS2 hfz
      clear hf' hf hfit
      have HO1 := Lib.hid HO.out.1
      obtain ⟨an, han⟩ : ∃ an, accN q i = an := ⟨_, rfl⟩
      rw [han] at HO1 HS1 HS2 hab
      clear HO han
      go_wp2_with fail
      refine HPut.out.mono ?_
      rintro e wA ⟨ad, cA, rfl, hrd, hbA⟩
      have HRD := Lib.hid hrd
      have HBA := Lib.hid (HW.out.trans (hbA.mono HW.out.size))
      have HOA := Lib.hid (ownsRow_below' HO1.out hbA)
      clear hrd hbA ci
      go_wp2_with (first
        | (at_builtin; refine app_s rfl (.tmp 49) (.tmp 52) rfl w2 u8 an (vals (accZ p Wn q i) an) rfl HOA.out HBA.out ad (fsz f) cA (vals (fZ p Wn f) (fsz f)) rfl (vals_len _ _) (rd_newsB HRD.out) (vals_one _ _) (by omega) ?_; intro v2 wB ho2 hb2 hs2 hk2))
      have HOB : Hid (OwnB wB w2.heap.size v2 (accN q (i + 1)) (accZ p Wn q (i + 1))) := Lib.hid ⟨by rw [HS2.out]; have := ho2; rw [HS1.out, HS2.out] at this; exact this, HS3.out⟩
      have HBB := Lib.hid hb2
      clear ho2 hb2 hs2 hk2
      go_wp2_with fail
      go_roundw
      case rel => exact ⟨i + 1, by omega, by go_num, HOB, HBB⟩
      case measure => simp only [intOf]; omega
    · obtain rfl : i = n := by omega
      have HOH : Hid (OwnB wr w2.heap.size u8 H (accZ p Wn q i)) := Lib.hid (by have := HO.out; rw [← HHH.out]; unfold hdN; rw [HN.out]; exact this)
      have HTr := Lib.hid (HT2.out.below HW.out HT2.out.lt)
      have HV : Hid (vals (accZ p Wn q i) H ++ vals (J L p.m) S = vals (wZ p q L) (H + S)) := Lib.hid (by
        rw [vals_cat]
        unfold wZ
        rw [HSS.out, HHH.out, HN.out, HWn.out])
      have HWB : Hid (∀ j, 0 ≤ wZ p q L j ∧ wZ p q L j ≤ 255) := Lib.hid (cat_bd (accZ_bd p _ q HQ.out HP.out _) HT2.out.2)
      clear HO
      go_wp2_with (first
        | (at_builtin; refine app_s rfl (.tmp 55) (.tmp 56) rfl w2 u8 H (vals (accZ p Wn q i) H) rfl HOH.out.1 HW.out ⟨gT, 0, none⟩ S cT (vals (J L p.m) S) rfl (vals_len _ _) (rd_newsB HTr.out.rd) (vals_one _ _) (by omega) ?_; intro v2 wB ho2 hb2 hs2 hk2; have c0 : wB.cell? ⟨w.heap.size, 0, none⟩ = some (.int .u8 p.kd) := (((HPd2.out.below hb2 HPd2.out.lt).cell 0).trans (pdC_0 p)); have HO2 := Lib.hid ho2; have HBB := Lib.hid hb2; have HI := Lib.hid (isState_any p.kd wB); clear ho2 hb2 hs2 hk2))
      refine HI.out.mono ?_
      rintro e w5 ⟨rfl, rfl⟩
      have HOW : Hid (OwnB wB w2.heap.size v2 Wn (wZ p q L)) := Lib.hid ⟨by have := HO2.out; rw [HV.out, HWn.out] at this; exact this, HWB.out⟩
      have HEnd : Hid (hdN q + sz L p.m = Wn) := Lib.hid (by rw [HSS.out, HHH.out, HWn.out])
      by_cases hq2 : q = 2
      · have hd : decide (cls p.kd = 2) = true := by rw [HK.out]; simpa using hq2
        have HPZ : Hid (pdZ p q L = sgZ (wZ p q L) Wn) := Lib.hid (by unfold pdZ; rw [if_pos hq2, HEnd.out])
        have h27 : 27 ≤ Wn := by
          have h1 : hdN q = 27 := by rw [hq2]; rfl
          have h2 := HHH.out
          have h3 := HWn.out
          omega
        obtain ⟨gW, cW, rfl, hgW, hoW⟩ := own_ofB HOW.out (by omega)
        have HSg := Lib.hid (sign_any gW Wn cW (wZ p q L) w2 wB hoW h27 hWl HBB.out hgW)
        have HgW := Lib.hid hgW
        rw [hd]
        clear hoW HO2 HOW hgW hq2 hd
        go_wp2_with fail
        refine HSg.out.mono ?_
        rintro e w6 ⟨rfl, ho6, hb6⟩
        have HO6 := Lib.hid ho6
        have HB6 := Lib.hid (HB2.out.trans (hb6.mono HB2.out.size))
        clear ho6 hb6 c0
        go_wp2_with fail
        go_ret2
        exact ⟨_, rfl, by rw [HEnd.out, HPZ.out]; exact HO6.out.ownB (by have := HgW.out; have := HB2.out.size; omega), HB6.out⟩
      · have hd : decide (cls p.kd = 2) = false := by rw [HK.out]; simpa using hq2
        have HPZ : Hid (pdZ p q L = wZ p q L) := Lib.hid (by unfold pdZ; rw [if_neg hq2])
        have HB6 := Lib.hid (HB2.out.trans (HBB.out.mono HB2.out.size))
        rw [hd]
        clear hq2 hd HO2
        go_wp2_with fail
        go_ret2
        exact ⟨_, rfl, by rw [HEnd.out, HPZ.out]; exact ⟨ownsRow_mono HOW.out.1 HB2.out.size, HOW.out.2⟩, HB6.out⟩
end Go.Proofs.Ytigkmcbkckfhbaa
