/- The walk of ReachEdges: for every input the law returns true, and nothing that was there is written. No condition. -/
import Derived.Test.YtplfilghhgdffaaWReachCuts
import Derived.Test.YtplfilghhgdffaaDPutE
namespace Go.Proofs.Ytplfilghhgdffaa
open Go.RowKit
set_option linter.unusedVariables false

/-- the edge that stands behind the list -/
def ed77 : Ed := ⟨fun _ => 0, 77⟩
theorem ed77_ok : EdOk ed77 := ⟨fun _ => ⟨Int.le_refl 0, show (0 : Int) ≤ 255 by decide⟩, by decide⟩
def fullE (L : Nat → Ed) (m : Nat) : Nat → Array Value := catR (edA L) m (fun _ => edC ed77)
theorem recs_full (L : Nat → Ed) (m : Nat) : Recs 8 (fullE L m) := recs_cat (recs_ed L) (fun _ => ⟨rfl, edC_one _⟩) m
theorem cells_full (L : Nat → Ed) (m : Nat) : cellsR (edA L) m ++ cellsR (fun _ => edC ed77) 1 = cellsR (fullE L m) (m + 1) := cellsR_cat _ _ _ _
theorem full_list {w : World} {A : Option Addr} {m : Nat} {L : Nat → Ed} (h : RdR w A (m + 1) 8 (fullE L m)) : RdR w A m 8 (edA L) :=
  (h.cut m (by omega)).congr fun j hj => catR_lo _ _ _ _ hj
theorem full_last {w : World} {A : Option Addr} {m : Nat} {L : Nat → Ed} (h : RdR w A (m + 1) 8 (fullE L m)) : ∃ b off, A = some ⟨b, off, none⟩ ∧ w.cell? ⟨b, off + m * 8 + 7, none⟩ = some (.int .u32 77) := by
  obtain ⟨b, off, rfl, hr⟩ := h.row (by omega)
  refine ⟨b, off, rfl, ?_⟩
  have := hr.2 m (by omega)
  have e : fullE L m m = edC ed77 := catR_hi (edA L) (fun _ => edC ed77) m 0
  rw [e] at this
  exact this 7 _ rfl
theorem full_cell {w : World} {b off m : Nat} {L : Nat → Ed} (h : RdR w (some ⟨b, off, none⟩) (m + 1) 8 (fullE L m)) : w.cell? ⟨b, off + m * 8 + 7, none⟩ = some (.int .u32 77) := by
  obtain ⟨b', off', e, h2⟩ := full_last h
  injection e with e
  injection e with e1 e2
  subst e1 e2
  exact h2
theorem rd_nil (w : World) : Rd w none 0 (fun _ => 0) := ⟨.inl rfl, fun _ => ⟨Int.le_refl 0, show (0 : Int) ≤ 255 by decide⟩⟩
/-- the start that all ways have in common: the list copied, one edge behind it -/
theorem app1_E (w w1 : World) (hb : Below w.heap.size w w1) : RdR (w1.alloc (.cells (edC ed77) 30)) (some ⟨w1.heap.size, 0, none⟩) 1 8 (fun _ => edC ed77) := rdR_one (heap_alloc_new w1 _)
set_option maxHeartbeats 4000000 in
set_option maxRecDepth 100000 in
theorem edges_long (a0 : Option Addr) (len0 cap0 : Nat) (L0 : Nat → Ed) (w : World) (w0 : InE w a0 len0 cap0 L0) (hl : 23 < len0) :
    Calls Try.prog 3 #[.slice a0 len0 cap0] w fun e w' => e = .returned (.bool true) ∧ Below w.heap.size w w' := by
  obtain ⟨h1, h2, h3, h4, h5⟩ := w0
  have HA := Lib.hid h3
  have HR := Lib.hid h1
  have HOk := Lib.hid h2
  clear h1 h2 h3
  go_enter Try.func3, Try.ntmps3
  go_wp2_with fail
  refine (awake_any _).mono ?_
  rintro e w1 ⟨rfl, hb1⟩
  have HR1 := Lib.hid (HR.out.below ((hb1).alloc hb1.size (.cells #[] 30)) rfl)
  have HB1a := Lib.hid (hb1.alloc hb1.size (.cells #[] 30))
  have HM := Lib.hid (made_E w w1 hb1)
  clear hb1
  go_wp2_with (first
    | (at_builtin; refine app_E rfl (.tmp 12) (.tmp 13) rfl w (.slice (some ⟨w1.heap.size, 0, none⟩) 0 0) 0 [] rfl HM.out HB1a.out a0 len0 cap0 (edA L0) rfl HR1.out HA.out (recs_ed L0) (by omega) ?_; intro v2 w2 ho2 hb2 hs2 hk2)
    | (at_builtin; refine app_E rfl (.tmp 14) (.tmp 16) rfl w v2 (0 + len0) _ rfl (ho2.alloc _) (hb2.alloc hb2.size _) (some ⟨w2.heap.size, 0, none⟩) 1 1 (fun _ => edC ed77) rfl (app1_E w w2 hb2) (fun e => by cases e) (fun _ => ⟨rfl, edC_one _⟩) (by omega) ?_; intro v3 w3 ho3 hb3 hs3 hk3; (rw [Nat.zero_add, List.nil_append, cells_full] at ho3); (obtain ⟨A2, c2, rfl, hc2, hm2, _, hR2⟩ := ownR_shape (recs_full L0 len0) (by decide) ho3); (have HF2 := Lib.hid hR2); (have HB2 := Lib.hid hb3); (have hlc2 : (len0 : Int) ≤ (c2 : Int) := by omega)))
  obtain ⟨b, off, rfl, _⟩ := full_last HF2.out
  have HR2 := Lib.hid (full_list HF2.out)
  have HA' := Lib.hid (HR.out.below HB2.out rfl)
  clear ho2 hb2 hs2 hk2 ho3 hb3 hs3 hk3 hR2 HR1 HB1a HM
  unfold maxLen at hm2
  refine (putEdges_long (some ⟨b, off, none⟩) len0 c2 _ hl (by omega)).mono ?_
  rintro e w4 ⟨rfl, rfl⟩
  go_wp2_with fail
  refine (docPutEdges_long a0 len0 cap0 _ hl (by omega)).mono ?_
  rintro e w4 ⟨rfl, rfl⟩
  have hidx : (len0 : Int) < (len0 : Int) + 1 := by omega
  have HS := Lib.hid (fun (j : Nat) (hj : j < len0) => self_ed 9996 (L0 j) (HOk.out j))
  go_wp2_with fail
  refine (same_yes none none 0 0 0 (fun _ => 0) (fun _ => 0) _ (rd_nil _) (rd_nil _) (fun _ _ => rfl) (by omega)).mono ?_
  rintro e w5 ⟨rfl, r5, hw5⟩
  have hb5 : Below w4.heap.size w4 w5 := by rw [hw5]; exact bdrewN (bself _) r5
  have HB5 := Lib.hid (HB2.out.trans (hb5.mono HB2.out.size))
  have HF5 := Lib.hid (HF2.out.below hb5 rfl)
  have HL5 := Lib.hid (full_list HF5.out)
  have HR5 := Lib.hid (HR.out.below HB5.out rfl)
  
  clear hw5 hb5
  go_wp2_with fail
  refine (sameE_yes (some ⟨b, off, none⟩) a0 len0 c2 cap0 (edA L0) _ HL5.out HR5.out (fun j hj => HS.out j hj) (fun j => rfl) (by omega)).mono ?_
  rintro e w6 ⟨rfl, r6, hw6⟩
  have hb6 : Below w5.heap.size w5 w6 := by rw [hw6]; exact bdrewN (bself _) r6
  have HB6 := Lib.hid (HB5.out.trans (hb6.mono HB5.out.size))
  have c77 := full_cell (HF5.out.below hb6 rfl)
  clear hw6 hb6
  go_wp2_with fail
  go_ret
  exact ⟨rfl, HB6.out⟩
set_option maxHeartbeats 4000000 in
set_option maxRecDepth 100000 in
theorem edges_bad (a0 : Option Addr) (len0 cap0 : Nat) (L0 : Nat → Ed) (w : World) (w0 : InE w a0 len0 cap0 L0) (hl : len0 ≤ 23) (m0 : Nat) (hm : EEnds L0 len0 m0) (hlt : m0 < len0) :
    Calls Try.prog 3 #[.slice a0 len0 cap0] w fun e w' => e = .returned (.bool true) ∧ Below w.heap.size w w' := by
  obtain ⟨h1, h2, h3, h4, h5⟩ := w0
  have HA := Lib.hid h3
  have HR := Lib.hid h1
  have HOk := Lib.hid h2
  clear h1 h2 h3
  go_enter Try.func3, Try.ntmps3
  go_wp2_with fail
  refine (awake_any _).mono ?_
  rintro e w1 ⟨rfl, hb1⟩
  have HR1 := Lib.hid (HR.out.below ((hb1).alloc hb1.size (.cells #[] 30)) rfl)
  have HB1a := Lib.hid (hb1.alloc hb1.size (.cells #[] 30))
  have HM := Lib.hid (made_E w w1 hb1)
  clear hb1
  go_wp2_with (first
    | (at_builtin; refine app_E rfl (.tmp 12) (.tmp 13) rfl w (.slice (some ⟨w1.heap.size, 0, none⟩) 0 0) 0 [] rfl HM.out HB1a.out a0 len0 cap0 (edA L0) rfl HR1.out HA.out (recs_ed L0) (by omega) ?_; intro v2 w2 ho2 hb2 hs2 hk2)
    | (at_builtin; refine app_E rfl (.tmp 14) (.tmp 16) rfl w v2 (0 + len0) _ rfl (ho2.alloc _) (hb2.alloc hb2.size _) (some ⟨w2.heap.size, 0, none⟩) 1 1 (fun _ => edC ed77) rfl (app1_E w w2 hb2) (fun e => by cases e) (fun _ => ⟨rfl, edC_one _⟩) (by omega) ?_; intro v3 w3 ho3 hb3 hs3 hk3; (rw [Nat.zero_add, List.nil_append, cells_full] at ho3); (obtain ⟨A2, c2, rfl, hc2, hm2, _, hR2⟩ := ownR_shape (recs_full L0 len0) (by decide) ho3); (have HF2 := Lib.hid hR2); (have HB2 := Lib.hid hb3); (have hlc2 : (len0 : Int) ≤ (c2 : Int) := by omega)))
  obtain ⟨b, off, rfl, _⟩ := full_last HF2.out
  have HR2 := Lib.hid (full_list HF2.out)
  have HA' := Lib.hid (HR.out.below HB2.out rfl)
  clear ho2 hb2 hs2 hk2 ho3 hb3 hs3 hk3 hR2 HR1 HB1a HM
  unfold maxLen at hm2
  refine (putEdges_any (some ⟨b, off, none⟩) len0 c2 m0 L0 _ HR2.out HOk.out hl (by omega) (by omega) hm).mono ?_
  rintro e w4 (⟨h, _⟩ | ⟨_, rfl, hb4⟩)
  · omega
  have HB4 := Lib.hid (HB2.out.trans (hb4.mono HB2.out.size))
  have HF4 := Lib.hid (HF2.out.below hb4 rfl)
  have HR4 := Lib.hid (HR.out.below HB4.out rfl)
  clear hb4
  go_wp2_with fail
  refine (docPutEdges_any a0 len0 cap0 m0 L0 _ HR4.out HOk.out hl hm).mono ?_
  rintro e w4' (⟨h, _⟩ | ⟨_, rfl, hb4⟩)
  · omega
  have HB4' := Lib.hid (HB4.out.trans (hb4.mono HB4.out.size))
  have HF4' := Lib.hid (HF4.out.below hb4 rfl)
  clear hb4 hm
  have hidx : (len0 : Int) < (len0 : Int) + 1 := by omega
  have HS := Lib.hid (fun (j : Nat) (hj : j < len0) => self_ed 9996 (L0 j) (HOk.out j))
  go_wp2_with fail
  refine (same_yes none none 0 0 0 (fun _ => 0) (fun _ => 0) _ (rd_nil _) (rd_nil _) (fun _ _ => rfl) (by omega)).mono ?_
  rintro e w5 ⟨rfl, r5, hw5⟩
  have hb5 : Below w4'.heap.size w4' w5 := by rw [hw5]; exact bdrewN (bself _) r5
  have HB5 := Lib.hid (HB4'.out.trans (hb5.mono HB4'.out.size))
  have HF5 := Lib.hid (HF4'.out.below hb5 rfl)
  have HL5 := Lib.hid (full_list HF5.out)
  have HR5 := Lib.hid (HR.out.below HB5.out rfl)
  
  clear hw5 hb5
  go_wp2_with fail
  refine (sameE_yes (some ⟨b, off, none⟩) a0 len0 c2 cap0 (edA L0) _ HL5.out HR5.out (fun j hj => HS.out j hj) (fun j => rfl) (by omega)).mono ?_
  rintro e w6 ⟨rfl, r6, hw6⟩
  have hb6 : Below w5.heap.size w5 w6 := by rw [hw6]; exact bdrewN (bself _) r6
  have HB6 := Lib.hid (HB5.out.trans (hb6.mono HB5.out.size))
  have c77 := full_cell (HF5.out.below hb6 rfl)
  clear hw6 hb6
  go_wp2_with fail
  go_ret
  exact ⟨rfl, HB6.out⟩
set_option maxHeartbeats 4000000 in
set_option maxRecDepth 100000 in
theorem edges_good (a0 : Option Addr) (len0 cap0 : Nat) (L0 : Nat → Ed) (w : World) (w0 : InE w a0 len0 cap0 L0) (hl : len0 ≤ 23) (hm : EEnds L0 len0 len0) :
    Calls Try.prog 3 #[.slice a0 len0 cap0] w fun e w' => e = .returned (.bool true) ∧ Below w.heap.size w w' := by
  obtain ⟨h1, h2, h3, h4, h5⟩ := w0
  have HA := Lib.hid h3
  have HR := Lib.hid h1
  have HOk := Lib.hid h2
  clear h1 h2 h3
  go_enter Try.func3, Try.ntmps3
  go_wp2_with fail
  refine (awake_any _).mono ?_
  rintro e w1 ⟨rfl, hb1⟩
  have HR1 := Lib.hid (HR.out.below ((hb1).alloc hb1.size (.cells #[] 30)) rfl)
  have HB1a := Lib.hid (hb1.alloc hb1.size (.cells #[] 30))
  have HM := Lib.hid (made_E w w1 hb1)
  clear hb1
  go_wp2_with (first
    | (at_builtin; refine app_E rfl (.tmp 12) (.tmp 13) rfl w (.slice (some ⟨w1.heap.size, 0, none⟩) 0 0) 0 [] rfl HM.out HB1a.out a0 len0 cap0 (edA L0) rfl HR1.out HA.out (recs_ed L0) (by omega) ?_; intro v2 w2 ho2 hb2 hs2 hk2)
    | (at_builtin; refine app_E rfl (.tmp 14) (.tmp 16) rfl w v2 (0 + len0) _ rfl (ho2.alloc _) (hb2.alloc hb2.size _) (some ⟨w2.heap.size, 0, none⟩) 1 1 (fun _ => edC ed77) rfl (app1_E w w2 hb2) (fun e => by cases e) (fun _ => ⟨rfl, edC_one _⟩) (by omega) ?_; intro v3 w3 ho3 hb3 hs3 hk3; (rw [Nat.zero_add, List.nil_append, cells_full] at ho3); (obtain ⟨A2, c2, rfl, hc2, hm2, _, hR2⟩ := ownR_shape (recs_full L0 len0) (by decide) ho3); (have HF2 := Lib.hid hR2); (have HB2 := Lib.hid hb3); (have hlc2 : (len0 : Int) ≤ (c2 : Int) := by omega)))
  obtain ⟨b, off, rfl, _⟩ := full_last HF2.out
  have HR2 := Lib.hid (full_list HF2.out)
  have HA' := Lib.hid (HR.out.below HB2.out rfl)
  clear ho2 hb2 hs2 hk2 ho3 hb3 hs3 hk3 hR2 HR1 HB1a HM
  unfold maxLen at hm2
  obtain ⟨n, hn⟩ : ∃ n, 11 * len0 = n := ⟨_, rfl⟩
  refine (putEdges_any (some ⟨b, off, none⟩) len0 c2 len0 L0 _ HR2.out HOk.out hl (by omega) (by omega) hm).mono ?_
  rintro e w4 (⟨_, v4, rfl, ho4, hb4⟩ | ⟨h, _⟩)
  rotate_left
  · omega
  rw [hn] at ho4
  obtain ⟨A4, c4, rfl, hc4, hm4, _, hrd4⟩ := ho4.shape
  have HB4 := Lib.hid (HB2.out.trans (hb4.mono HB2.out.size))
  have HF4 := Lib.hid (HF2.out.below hb4 rfl)
  have HR4 := Lib.hid (HR.out.below HB4.out rfl)
  have HP4 := Lib.hid hrd4
  clear hb4 ho4 hrd4
  go_wp2_with fail
  refine (docPutEdges_any a0 len0 cap0 len0 L0 _ HR4.out HOk.out hl hm).mono ?_
  rintro e w4' (⟨_, v5, rfl, ho5, hb4⟩ | ⟨h, _⟩)
  rotate_left
  · omega
  rw [hn] at ho5
  obtain ⟨A5, c5, rfl, hc5, hm5, _, hrd5⟩ := ho5.shape
  have HB4' := Lib.hid (HB4.out.trans (hb4.mono HB4.out.size))
  have HF4' := Lib.hid (HF4.out.below hb4 rfl)
  have HP5 := Lib.hid (HP4.out.below hb4 rfl)
  have HQ5 := Lib.hid hrd5
  have HMet := Lib.hid hm.2.1
  have HNN := Lib.hid hn
  have hnb : n ≤ 253 := by omega
  unfold maxLen at hm4
  clear hb4 ho5 hrd5 hm hn
  have hidx : (len0 : Int) < (len0 : Int) + 1 := by omega
  have HS := Lib.hid (fun (j : Nat) (hj : j < len0) => self_ed 9996 (L0 j) (HOk.out j))
  go_wp2_with fail
  refine (same_yes A4 A5 n c4 c5 (edZ L0) (edZ L0) _ HP5.out HQ5.out (fun _ _ => rfl) (by omega)).mono ?_
  rintro e w5 ⟨rfl, r5, hw5⟩
  have hb5 : Below w4'.heap.size w4' w5 := by rw [hw5]; exact bdrewN (bself _) r5
  have HB5 := Lib.hid (HB4'.out.trans (hb5.mono HB4'.out.size))
  have HF5 := Lib.hid (HF4'.out.below hb5 rfl)
  have HL5 := Lib.hid (full_list HF5.out)
  have HR5 := Lib.hid (HR.out.below HB5.out rfl)
  have HP6 := Lib.hid (HP5.out.below hb5 rfl)
  clear hw5 hb5
  go_wp2_with fail
  refine (sameE_yes (some ⟨b, off, none⟩) a0 len0 c2 cap0 (edA L0) _ HL5.out HR5.out (fun j hj => HS.out j hj) (fun j => rfl) (by omega)).mono ?_
  rintro e w6 ⟨rfl, r6, hw6⟩
  have hb6 : Below w5.heap.size w5 w6 := by rw [hw6]; exact bdrewN (bself _) r6
  have HB6 := Lib.hid (HB5.out.trans (hb6.mono HB5.out.size))
  have c77 := full_cell (HF5.out.below hb6 rfl)
  have HP7 := Lib.hid (HP6.out.below hb6 rfl)
  have hle := lends_edZ L0 len0
  rw [HNN.out] at hle
  have HLE := Lib.hid hle
  clear hw6 hb6 hle
  go_wp2_with fail
  refine (getEdges_any A4 n c4 len0 (edZ L0) _ HP7.out HLE.out (by omega) hc4 (by omega)).mono ?_
  rintro e w7 (⟨_, v7, rfl, ho7, hb7⟩ | ⟨hp, _⟩)
  rotate_left
  · rw [pos_edZ, HNN.out] at hp; omega
  have HB7 := Lib.hid (HB6.out.trans (hb7.mono HB6.out.size))
  have hR7 := HR.out.below HB7.out rfl
  obtain ⟨A7, c7, rfl, hc7, hm7, _, hl7⟩ := ownR_shape (fun j => recs_eC (edZ L0) (pos (eNx (edZ L0)) j)) (by decide) ho7
  have HL7 := Lib.hid (hl7.congr (C' := edA L0) fun j hj => u8s_edZ_ends (m := len0) HMet.out j hj)
  have HR7 := Lib.hid hR7
  clear ho7 hb7 hR7 hl7 c77
  go_wp2_with fail
  refine (sameE_yes A7 a0 len0 c7 cap0 (edA L0) _ HL7.out HR7.out (fun j hj => HS.out j hj) (fun j => rfl) (by omega)).mono ?_
  rintro e w8 ⟨rfl, r, hw8⟩
  have HB8 : Hid (Below w.heap.size w w8) := Lib.hid (by rw [hw8]; exact bdrewN HB7.out r)
  clear hw8 HL7 HR7 HS
  go_wp2_with fail
  go_ret
  exact ⟨rfl, HB8.out⟩
theorem walkReachEdges (a0 : Option Addr) (len0 cap0 : Nat) (L0 : Nat → Ed) (w : World) (w0 : InE w a0 len0 cap0 L0) :
    Calls Try.prog 3 #[.slice a0 len0 cap0] w fun e w' => e = .returned (.bool true) ∧ Below w.heap.size w w' := by
  by_cases hl : 23 < len0
  · exact edges_long a0 len0 cap0 L0 w w0 hl
  · obtain ⟨m0, hm⟩ := eends L0 len0
    by_cases h0 : m0 = len0
    · subst h0
      exact edges_good a0 m0 cap0 L0 w w0 (by omega) hm
    · exact edges_bad a0 len0 cap0 L0 w w0 (by omega) m0 hm (by have := hm.1; omega)
end Go.Proofs.Ytplfilghhgdffaa
