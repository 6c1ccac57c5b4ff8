/- The walk of ReachPrefixes: for every input the law returns true, and nothing that was there is written. No condition. -/
import Derived.Test.YtplfilghhgdffaaFlat
import Derived.Test.YtplfilghhgdffaaSameR
import Derived.Test.YtplfilghhgdffaaDocPutR
namespace Go.Proofs.Ytplfilghhgdffaa
open Go.RowKit
set_option linter.unusedVariables false

theorem putReach_f (fam : Nat) (hf : fam = 4 ∨ fam = 6) (A : Option Addr) (m c m0 : Nat) (L : Nat → Rc) (w : World) (h : RdR w A m 20 (rcA L)) (hL : ∀ j, RcOk (L j)) (hm : m ≤ 11) (hc : m ≤ c) (hcm : c ≤ 9223372036854775807) (hm0 : REnds fam L m m0) :
    Calls Try.prog 15 #[.int .u8 (fam : Int), .slice A m c] w (RPPost w L m m0) := by
  rcases hf with rfl | rfl
  · exact putReach_4 A m c m0 L w h hL hm hc hcm hm0
  · exact putReach_6 A m c m0 L w h hL hm hc hcm hm0
theorem docPutReach_f (fam : Nat) (hf : fam = 4 ∨ fam = 6) (A : Option Addr) (m c m0 : Nat) (L : Nat → Rc) (w : World) (h : RdR w A m 20 (rcA L)) (hL : ∀ j, RcOk (L j)) (hm : m ≤ 11) (hm0 : REnds fam L m m0) :
    Calls Try.prog 16 #[.int .u8 (fam : Int), .slice A m c] w (RPPost w L m m0) := by
  rcases hf with rfl | rfl
  · exact docPutReach_4 A m c m0 L w h hL hm hm0
  · exact docPutReach_6 A m c m0 L w h hL hm hm0
/-- a list of prefixes that came in -/
def InR (w : World) (A : Option Addr) (m c : Nat) (L : Nat → Rc) : Prop := RdR w A m 20 (rcA L) ∧ (∀ j, RcOk (L j)) ∧ (A = none → m = 0 ∧ c = 0) ∧ m ≤ c ∧ c * 40 ≤ 140737488351232
theorem made_R (w0 w : World) (hb : Below w0.heap.size w0 w) : (w.alloc (.cells #[] 47)).ownsRow w0.heap.size 47 20 (.slice (some ⟨w.heap.size, 0, none⟩) 0 0) 0 [] :=
  World.ownsRow_made w #[] 0 hb.size (by decide) rfl
def rc77 : Rc := ⟨0, 0, fun _ => 0, 77, false⟩
def fullR (L : Nat → Rc) (m : Nat) : Nat → Array Value := catR (rcA L) m (fun _ => rcC rc77)
theorem recs_fullR (L : Nat → Rc) (m : Nat) : Recs 20 (fullR L m) := recs_cat (recs_rc L) (fun _ => ⟨rfl, rcC_one _⟩) m
theorem cells_fullR (L : Nat → Rc) (m : Nat) : cellsR (rcA L) m ++ cellsR (fun _ => rcC rc77) 1 = cellsR (fullR L m) (m + 1) := cellsR_cat _ _ _ _
theorem fullR_list {w : World} {A : Option Addr} {m : Nat} {L : Nat → Rc} (h : RdR w A (m + 1) 20 (fullR L m)) : RdR w A m 20 (rcA L) :=
  (h.cut m (by omega)).congr fun j hj => catR_lo _ _ _ _ hj
theorem fullR_last {w : World} {A : Option Addr} {m : Nat} {L : Nat → Rc} (h : RdR w A (m + 1) 20 (fullR L m)) : ∃ b off, A = some ⟨b, off, none⟩ ∧ w.cell? ⟨b, off + m * 20 + 18, none⟩ = some (.int .u32 77) := by
  obtain ⟨b, off, rfl, hr⟩ := h.row (by omega)
  refine ⟨b, off, rfl, ?_⟩
  have := hr.2 m (by omega)
  have e : fullR L m m = rcC rc77 := catR_hi (rcA L) (fun _ => rcC rc77) m 0
  rw [e] at this
  exact this 18 _ rfl
theorem fullR_cell {w : World} {b off m : Nat} {L : Nat → Rc} (h : RdR w (some ⟨b, off, none⟩) (m + 1) 20 (fullR L m)) : w.cell? ⟨b, off + m * 20 + 18, none⟩ = some (.int .u32 77) := by
  obtain ⟨b', off', e, h2⟩ := fullR_last h
  injection e with e
  injection e with e1 e2
  subst e1 e2
  exact h2
theorem rdR_nil (w : World) : Rd w none 0 (fun _ => 0) := ⟨.inl rfl, fun _ => ⟨Int.le_refl 0, show (0 : Int) ≤ 255 by decide⟩⟩
theorem app1_R (w1 : World) : RdR (w1.alloc (.cells (rcC rc77) 47)) (some ⟨w1.heap.size, 0, none⟩) 1 20 (fun _ => rcC rc77) := rdR_one (heap_alloc_new w1 _)
theorem rg_of {fam : Nat} {L : Nat → Rc} {m : Nat} (hm : REnds fam L m m) (hL : ∀ j, RcOk (L j)) : ∀ k, k < m → RG fam (L k) := fun k hk => ⟨hm.2.1 k hk, hL k⟩
theorem u8s_rg {fam : Nat} {L : Nat → Rc} {m : Nat} (h : ∀ k, k < m → RG fam (L k)) : U8s (flatR L m) := u8s_flat L m fun k hk => ⟨(h k hk).1.2.1, (h k hk).2.1⟩
theorem flat_len {fam : Nat} {L : Nat → Rc} {m : Nat} (h : ∀ k, k < m → RG fam (L k)) : (flatR L m).length ≤ 22 * m := flatR_len L m fun k hk => (h k hk).1.2.1
set_option maxHeartbeats 4000000 in
set_option maxRecDepth 100000 in
theorem prefixes_arg (fam : Int) (a1 : Option Addr) (len1 cap1 : Nat) (L1 : Nat → Rc) (w : World) (w1 : InR w a1 len1 cap1 L1) (h4 : (fam == 4) = false) (h6 : (fam == 6) = false) :
    Calls Try.prog 4 #[.int .u8 fam, .slice a1 len1 cap1] w fun e w' => e = .returned (.bool true) ∧ Below w.heap.size w w' := by
  obtain ⟨h1, h2, h3, hx4, hx5⟩ := w1
  have HA := Lib.hid h3
  have HR := Lib.hid h1
  have HOk := Lib.hid h2
  clear h1 h2 h3
  go_enter Try.func4, Try.ntmps4
  go_wp2_with fail
  refine (awake_any _).mono ?_
  rintro e wa ⟨rfl, hb1⟩
  have HR1 := Lib.hid (HR.out.below ((hb1).alloc hb1.size (.cells #[] 47)) rfl)
  have HB1a := Lib.hid (hb1.alloc hb1.size (.cells #[] 47))
  have HM := Lib.hid (made_R w wa hb1)
  clear hb1
  go_wp2_with (first
    | (at_builtin; refine app_R rfl (.tmp 14) (.tmp 15) rfl w (.slice (some ⟨wa.heap.size, 0, none⟩) 0 0) 0 [] rfl HM.out HB1a.out a1 len1 cap1 (rcA L1) rfl HR1.out HA.out (recs_rc L1) (by omega) ?_; intro v2 w2 ho2 hb2 hs2 hk2)
    | (at_builtin; refine app_R rfl (.tmp 16) (.tmp 18) rfl w v2 (0 + len1) _ rfl (ho2.alloc _) (hb2.alloc hb2.size _) (some ⟨w2.heap.size, 0, none⟩) 1 1 (fun _ => rcC rc77) rfl (app1_R w2) (fun e => by cases e) (fun _ => ⟨rfl, rcC_one _⟩) (by omega) ?_; intro v3 w3 ho3 hb3 hs3 hk3; (rw [Nat.zero_add, List.nil_append, cells_fullR] at ho3); (obtain ⟨A2, c2, rfl, hc2, hm2, _, hR2⟩ := ownR_shape (recs_fullR L1 len1) (by decide) ho3); (have HF2 := Lib.hid hR2); (have HB2 := Lib.hid hb3); (have hlc2 : (len1 : Int) ≤ (c2 : Int) := by omega)))
  obtain ⟨b, off, rfl, _⟩ := fullR_last HF2.out
  have HR2 := Lib.hid (fullR_list HF2.out)
  have HA' := Lib.hid (HR.out.below HB2.out rfl)
  clear ho2 hb2 hs2 hk2 ho3 hb3 hs3 hk3 hR2 HR1 HB1a HM
  unfold maxLen at hm2
  refine (putReach_arg fam (some ⟨b, off, none⟩) len1 c2 _ h4 h6).mono ?_
  rintro e w4 ⟨rfl, rfl⟩
  go_wp2_with fail
  refine (docPutReach_arg fam a1 len1 cap1 _ h4 h6).mono ?_
  rintro e w4 ⟨rfl, rfl⟩
  have hidx : (len1 : Int) < (len1 : Int) + 1 := by omega
  have HS := Lib.hid (fun (j : Nat) (hj : j < len1) => self_rc 9996 (L1 j) (HOk.out j))
  go_wp2_with fail
  refine (same_yes none none 0 0 0 (fun _ => 0) (fun _ => 0) _ (rdR_nil _) (rdR_nil _) (fun _ _ => rfl) (by omega)).mono ?_
  rintro e w5 ⟨rfl, r5, hw5⟩
  have hb5 : Below w4.heap.size w4 w5 := by rw [hw5]; exact bdrewN (bself _) r5
  have HB5 := Lib.hid (HB2.out.trans (hb5.mono HB2.out.size))
  have HF5 := Lib.hid (HF2.out.below hb5 rfl)
  have HL5 := Lib.hid (fullR_list HF5.out)
  have HR5 := Lib.hid (HR.out.below HB5.out rfl)
  
  clear hw5 hb5
  go_wp2_with fail
  refine (sameR_yes (some ⟨b, off, none⟩) a1 len1 c2 cap1 (rcA L1) _ HL5.out HR5.out (fun j hj => HS.out j hj) (fun j => rfl) (by omega)).mono ?_
  rintro e w6 ⟨rfl, r6, hw6⟩
  have hb6 : Below w5.heap.size w5 w6 := by rw [hw6]; exact bdrewN (bself _) r6
  have HB6 := Lib.hid (HB5.out.trans (hb6.mono HB5.out.size))
  have c77 := fullR_cell (HF5.out.below hb6 rfl)
  clear hw6 hb6
  go_wp2_with fail
  go_ret
  exact ⟨rfl, HB6.out⟩
set_option maxHeartbeats 4000000 in
set_option maxRecDepth 100000 in
theorem prefixes_long (fam : Nat) (hf : fam = 4 ∨ fam = 6) (a1 : Option Addr) (len1 cap1 : Nat) (L1 : Nat → Rc) (w : World) (w1 : InR w a1 len1 cap1 L1) (hl : 11 < len1) :
    Calls Try.prog 4 #[.int .u8 (fam : Int), .slice a1 len1 cap1] w fun e w' => e = .returned (.bool true) ∧ Below w.heap.size w w' := by
  obtain ⟨h1, h2, h3, h4, h5⟩ := w1
  have HA := Lib.hid h3
  have HR := Lib.hid h1
  have HOk := Lib.hid h2
  clear h1 h2 h3
  go_enter Try.func4, Try.ntmps4
  go_wp2_with fail
  refine (awake_any _).mono ?_
  rintro e wa ⟨rfl, hb1⟩
  have HR1 := Lib.hid (HR.out.below ((hb1).alloc hb1.size (.cells #[] 47)) rfl)
  have HB1a := Lib.hid (hb1.alloc hb1.size (.cells #[] 47))
  have HM := Lib.hid (made_R w wa hb1)
  clear hb1
  go_wp2_with (first
    | (at_builtin; refine app_R rfl (.tmp 14) (.tmp 15) rfl w (.slice (some ⟨wa.heap.size, 0, none⟩) 0 0) 0 [] rfl HM.out HB1a.out a1 len1 cap1 (rcA L1) rfl HR1.out HA.out (recs_rc L1) (by omega) ?_; intro v2 w2 ho2 hb2 hs2 hk2)
    | (at_builtin; refine app_R rfl (.tmp 16) (.tmp 18) rfl w v2 (0 + len1) _ rfl (ho2.alloc _) (hb2.alloc hb2.size _) (some ⟨w2.heap.size, 0, none⟩) 1 1 (fun _ => rcC rc77) rfl (app1_R w2) (fun e => by cases e) (fun _ => ⟨rfl, rcC_one _⟩) (by omega) ?_; intro v3 w3 ho3 hb3 hs3 hk3; (rw [Nat.zero_add, List.nil_append, cells_fullR] at ho3); (obtain ⟨A2, c2, rfl, hc2, hm2, _, hR2⟩ := ownR_shape (recs_fullR L1 len1) (by decide) ho3); (have HF2 := Lib.hid hR2); (have HB2 := Lib.hid hb3); (have hlc2 : (len1 : Int) ≤ (c2 : Int) := by omega)))
  obtain ⟨b, off, rfl, _⟩ := fullR_last HF2.out
  have HR2 := Lib.hid (fullR_list HF2.out)
  have HA' := Lib.hid (HR.out.below HB2.out rfl)
  clear ho2 hb2 hs2 hk2 ho3 hb3 hs3 hk3 hR2 HR1 HB1a HM
  unfold maxLen at hm2
  refine (putReach_long (fam : Int) (some ⟨b, off, none⟩) len1 c2 _ (by omega) hl (by omega)).mono ?_
  rintro e w4 ⟨rfl, rfl⟩
  go_wp2_with fail
  refine (docPutReach_long (fam : Int) a1 len1 cap1 _ (by omega) hl (by omega)).mono ?_
  rintro e w4 ⟨rfl, rfl⟩
  have hidx : (len1 : Int) < (len1 : Int) + 1 := by omega
  have HS := Lib.hid (fun (j : Nat) (hj : j < len1) => self_rc 9996 (L1 j) (HOk.out j))
  go_wp2_with fail
  refine (same_yes none none 0 0 0 (fun _ => 0) (fun _ => 0) _ (rdR_nil _) (rdR_nil _) (fun _ _ => rfl) (by omega)).mono ?_
  rintro e w5 ⟨rfl, r5, hw5⟩
  have hb5 : Below w4.heap.size w4 w5 := by rw [hw5]; exact bdrewN (bself _) r5
  have HB5 := Lib.hid (HB2.out.trans (hb5.mono HB2.out.size))
  have HF5 := Lib.hid (HF2.out.below hb5 rfl)
  have HL5 := Lib.hid (fullR_list HF5.out)
  have HR5 := Lib.hid (HR.out.below HB5.out rfl)
  
  clear hw5 hb5
  go_wp2_with fail
  refine (sameR_yes (some ⟨b, off, none⟩) a1 len1 c2 cap1 (rcA L1) _ HL5.out HR5.out (fun j hj => HS.out j hj) (fun j => rfl) (by omega)).mono ?_
  rintro e w6 ⟨rfl, r6, hw6⟩
  have hb6 : Below w5.heap.size w5 w6 := by rw [hw6]; exact bdrewN (bself _) r6
  have HB6 := Lib.hid (HB5.out.trans (hb6.mono HB5.out.size))
  have c77 := fullR_cell (HF5.out.below hb6 rfl)
  clear hw6 hb6
  go_wp2_with fail
  go_ret
  exact ⟨rfl, HB6.out⟩
set_option maxHeartbeats 4000000 in
set_option maxRecDepth 100000 in
theorem prefixes_bad (fam : Nat) (hf : fam = 4 ∨ fam = 6) (a1 : Option Addr) (len1 cap1 : Nat) (L1 : Nat → Rc) (w : World) (w1 : InR w a1 len1 cap1 L1) (hl : len1 ≤ 11) (m0 : Nat) (hm : REnds fam L1 len1 m0) (hlt : m0 < len1) :
    Calls Try.prog 4 #[.int .u8 (fam : Int), .slice a1 len1 cap1] w fun e w' => e = .returned (.bool true) ∧ Below w.heap.size w w' := by
  obtain ⟨h1, h2, h3, h4, h5⟩ := w1
  have HA := Lib.hid h3
  have HR := Lib.hid h1
  have HOk := Lib.hid h2
  clear h1 h2 h3
  go_enter Try.func4, Try.ntmps4
  go_wp2_with fail
  refine (awake_any _).mono ?_
  rintro e wa ⟨rfl, hb1⟩
  have HR1 := Lib.hid (HR.out.below ((hb1).alloc hb1.size (.cells #[] 47)) rfl)
  have HB1a := Lib.hid (hb1.alloc hb1.size (.cells #[] 47))
  have HM := Lib.hid (made_R w wa hb1)
  clear hb1
  go_wp2_with (first
    | (at_builtin; refine app_R rfl (.tmp 14) (.tmp 15) rfl w (.slice (some ⟨wa.heap.size, 0, none⟩) 0 0) 0 [] rfl HM.out HB1a.out a1 len1 cap1 (rcA L1) rfl HR1.out HA.out (recs_rc L1) (by omega) ?_; intro v2 w2 ho2 hb2 hs2 hk2)
    | (at_builtin; refine app_R rfl (.tmp 16) (.tmp 18) rfl w v2 (0 + len1) _ rfl (ho2.alloc _) (hb2.alloc hb2.size _) (some ⟨w2.heap.size, 0, none⟩) 1 1 (fun _ => rcC rc77) rfl (app1_R w2) (fun e => by cases e) (fun _ => ⟨rfl, rcC_one _⟩) (by omega) ?_; intro v3 w3 ho3 hb3 hs3 hk3; (rw [Nat.zero_add, List.nil_append, cells_fullR] at ho3); (obtain ⟨A2, c2, rfl, hc2, hm2, _, hR2⟩ := ownR_shape (recs_fullR L1 len1) (by decide) ho3); (have HF2 := Lib.hid hR2); (have HB2 := Lib.hid hb3); (have hlc2 : (len1 : Int) ≤ (c2 : Int) := by omega)))
  obtain ⟨b, off, rfl, _⟩ := fullR_last HF2.out
  have HR2 := Lib.hid (fullR_list HF2.out)
  have HA' := Lib.hid (HR.out.below HB2.out rfl)
  clear ho2 hb2 hs2 hk2 ho3 hb3 hs3 hk3 hR2 HR1 HB1a HM
  unfold maxLen at hm2
  refine (putReach_f fam hf (some ⟨b, off, none⟩) len1 c2 m0 L1 _ HR2.out HOk.out hl (by omega) (by omega) hm).mono ?_
  rintro e w4 (⟨h, _⟩ | ⟨_, rfl, hb4⟩)
  · omega
  have HB4 := Lib.hid (HB2.out.trans (hb4.mono HB2.out.size))
  have HF4 := Lib.hid (HF2.out.below hb4 rfl)
  have HR4 := Lib.hid (HR.out.below HB4.out rfl)
  clear hb4
  go_wp2_with fail
  refine (docPutReach_f fam hf a1 len1 cap1 m0 L1 _ HR4.out HOk.out hl hm).mono ?_
  rintro e w4' (⟨h, _⟩ | ⟨_, rfl, hb4⟩)
  · omega
  have HB4' := Lib.hid (HB4.out.trans (hb4.mono HB4.out.size))
  have HF4' := Lib.hid (HF4.out.below hb4 rfl)
  clear hb4 hm
  have hidx : (len1 : Int) < (len1 : Int) + 1 := by omega
  have HS := Lib.hid (fun (j : Nat) (hj : j < len1) => self_rc 9996 (L1 j) (HOk.out j))
  go_wp2_with fail
  refine (same_yes none none 0 0 0 (fun _ => 0) (fun _ => 0) _ (rdR_nil _) (rdR_nil _) (fun _ _ => rfl) (by omega)).mono ?_
  rintro e w5 ⟨rfl, r5, hw5⟩
  have hb5 : Below w4'.heap.size w4' w5 := by rw [hw5]; exact bdrewN (bself _) r5
  have HB5 := Lib.hid (HB4'.out.trans (hb5.mono HB4'.out.size))
  have HF5 := Lib.hid (HF4'.out.below hb5 rfl)
  have HL5 := Lib.hid (fullR_list HF5.out)
  have HR5 := Lib.hid (HR.out.below HB5.out rfl)
  
  clear hw5 hb5
  go_wp2_with fail
  refine (sameR_yes (some ⟨b, off, none⟩) a1 len1 c2 cap1 (rcA L1) _ HL5.out HR5.out (fun j hj => HS.out j hj) (fun j => rfl) (by omega)).mono ?_
  rintro e w6 ⟨rfl, r6, hw6⟩
  have hb6 : Below w5.heap.size w5 w6 := by rw [hw6]; exact bdrewN (bself _) r6
  have HB6 := Lib.hid (HB5.out.trans (hb6.mono HB5.out.size))
  have c77 := fullR_cell (HF5.out.below hb6 rfl)
  clear hw6 hb6
  go_wp2_with fail
  go_ret
  exact ⟨rfl, HB6.out⟩
set_option maxHeartbeats 4000000 in
set_option maxRecDepth 100000 in
theorem prefixes_good (fam : Nat) (hf : fam = 4 ∨ fam = 6) (a1 : Option Addr) (len1 cap1 : Nat) (L1 : Nat → Rc) (w : World) (w1 : InR w a1 len1 cap1 L1) (hl : len1 ≤ 11) (hm : REnds fam L1 len1 len1) :
    Calls Try.prog 4 #[.int .u8 (fam : Int), .slice a1 len1 cap1] w fun e w' => e = .returned (.bool true) ∧ Below w.heap.size w w' := by
  obtain ⟨h1, h2, h3, h4, h5⟩ := w1
  have HA := Lib.hid h3
  have HR := Lib.hid h1
  have HOk := Lib.hid h2
  clear h1 h2 h3
  go_enter Try.func4, Try.ntmps4
  go_wp2_with fail
  refine (awake_any _).mono ?_
  rintro e wa ⟨rfl, hb1⟩
  have HR1 := Lib.hid (HR.out.below ((hb1).alloc hb1.size (.cells #[] 47)) rfl)
  have HB1a := Lib.hid (hb1.alloc hb1.size (.cells #[] 47))
  have HM := Lib.hid (made_R w wa hb1)
  clear hb1
  go_wp2_with (first
    | (at_builtin; refine app_R rfl (.tmp 14) (.tmp 15) rfl w (.slice (some ⟨wa.heap.size, 0, none⟩) 0 0) 0 [] rfl HM.out HB1a.out a1 len1 cap1 (rcA L1) rfl HR1.out HA.out (recs_rc L1) (by omega) ?_; intro v2 w2 ho2 hb2 hs2 hk2)
    | (at_builtin; refine app_R rfl (.tmp 16) (.tmp 18) rfl w v2 (0 + len1) _ rfl (ho2.alloc _) (hb2.alloc hb2.size _) (some ⟨w2.heap.size, 0, none⟩) 1 1 (fun _ => rcC rc77) rfl (app1_R w2) (fun e => by cases e) (fun _ => ⟨rfl, rcC_one _⟩) (by omega) ?_; intro v3 w3 ho3 hb3 hs3 hk3; (rw [Nat.zero_add, List.nil_append, cells_fullR] at ho3); (obtain ⟨A2, c2, rfl, hc2, hm2, _, hR2⟩ := ownR_shape (recs_fullR L1 len1) (by decide) ho3); (have HF2 := Lib.hid hR2); (have HB2 := Lib.hid hb3); (have hlc2 : (len1 : Int) ≤ (c2 : Int) := by omega)))
  obtain ⟨b, off, rfl, _⟩ := fullR_last HF2.out
  have HR2 := Lib.hid (fullR_list HF2.out)
  have HA' := Lib.hid (HR.out.below HB2.out rfl)
  clear ho2 hb2 hs2 hk2 ho3 hb3 hs3 hk3 hR2 HR1 HB1a HM
  unfold maxLen at hm2
  obtain ⟨n, hn⟩ : ∃ n, (flatR L1 len1).length = n := ⟨_, rfl⟩
  have HRG := Lib.hid (rg_of hm HOk.out)
  have hnb : n ≤ 242 := by have := flat_len HRG.out; omega
  refine (putReach_f fam hf (some ⟨b, off, none⟩) len1 c2 len1 L1 _ HR2.out HOk.out hl (by omega) (by omega) hm).mono ?_
  rintro e w4 (⟨_, v4, rfl, ho4, hb4⟩ | ⟨h, _⟩)
  rotate_left
  · omega
  rw [hn] at ho4
  obtain ⟨A4, c4, rfl, hc4, hm4, _, hrd4⟩ := (own_zL ho4 hn.symm (u8s_rg HRG.out)).shape
  have HB4 := Lib.hid (HB2.out.trans (hb4.mono HB2.out.size))
  have HF4 := Lib.hid (HF2.out.below hb4 rfl)
  have HR4 := Lib.hid (HR.out.below HB4.out rfl)
  have HP4 := Lib.hid hrd4
  clear hb4 ho4 hrd4
  go_wp2_with fail
  refine (docPutReach_f fam hf a1 len1 cap1 len1 L1 _ HR4.out HOk.out hl hm).mono ?_
  rintro e w4' (⟨_, v5, rfl, ho5, hb4⟩ | ⟨h, _⟩)
  rotate_left
  · omega
  rw [hn] at ho5
  obtain ⟨A5, c5, rfl, hc5, hm5, _, hrd5⟩ := (own_zL ho5 hn.symm (u8s_rg HRG.out)).shape
  have HB4' := Lib.hid (HB4.out.trans (hb4.mono HB4.out.size))
  have HF4' := Lib.hid (HF4.out.below hb4 rfl)
  have HP5 := Lib.hid (HP4.out.below hb4 rfl)
  have HQ5 := Lib.hid hrd5
  have hle := lends_flat hf HRG.out
  rw [hn] at hle
  have HLE := Lib.hid hle
  have HF := Lib.hid hf
  have HNN := Lib.hid hn
  unfold maxLen at hm4
  clear hb4 ho5 hrd5 hm hn hle hf
  have hidx : (len1 : Int) < (len1 : Int) + 1 := by omega
  have HS := Lib.hid (fun (j : Nat) (hj : j < len1) => self_rc 9996 (L1 j) (HOk.out j))
  go_wp2_with fail
  refine (same_yes A4 A5 n c4 c5 (zL (flatR L1 len1)) (zL (flatR L1 len1)) _ HP5.out HQ5.out (fun _ _ => rfl) (by omega)).mono ?_
  rintro e w5 ⟨rfl, r5, hw5⟩
  have hb5 : Below w4'.heap.size w4' w5 := by rw [hw5]; exact bdrewN (bself _) r5
  have HB5 := Lib.hid (HB4'.out.trans (hb5.mono HB4'.out.size))
  have HF5 := Lib.hid (HF4'.out.below hb5 rfl)
  have HL5 := Lib.hid (fullR_list HF5.out)
  have HR5 := Lib.hid (HR.out.below HB5.out rfl)
  have HP6 := Lib.hid (HP5.out.below hb5 rfl)
  clear hw5 hb5
  go_wp2_with fail
  refine (sameR_yes (some ⟨b, off, none⟩) a1 len1 c2 cap1 (rcA L1) _ HL5.out HR5.out (fun j hj => HS.out j hj) (fun j => rfl) (by omega)).mono ?_
  rintro e w6 ⟨rfl, r6, hw6⟩
  have hb6 : Below w5.heap.size w5 w6 := by rw [hw6]; exact bdrewN (bself _) r6
  have HB6 := Lib.hid (HB5.out.trans (hb6.mono HB5.out.size))
  have c77 := fullR_cell (HF5.out.below hb6 rfl)
  have HP7 := Lib.hid (HP6.out.below hb6 rfl)
  clear hw6 hb6
  go_wp2_with fail
  refine (getReach_any fam HF.out A4 n c4 len1 (zL (flatR L1 len1)) _ HP7.out HLE.out (by omega) hc4 (by omega)).mono ?_
  rintro e w7 (⟨_, v7, rfl, ho7, hb7⟩ | ⟨hp, _⟩)
  rotate_left
  · rw [pos_flat HF.out HRG.out len1 (Nat.le_refl _), HNN.out] at hp; omega
  have HB7 := Lib.hid (HB6.out.trans (hb7.mono HB6.out.size))
  have hR7 := HR.out.below HB7.out rfl
  obtain ⟨A7, c7, rfl, hc7, hm7, _, hl7⟩ := ownR_shape (fun j => recs_rC fam (zL (flatR L1 len1)) (pos (rNx fam (zL (flatR L1 len1))) j)) (by decide) ho7
  have HL7 := Lib.hid (hl7.congr (C' := rcA L1) fun j hj => rC_flat HF.out HRG.out j hj)
  have HR7 := Lib.hid hR7
  clear ho7 hb7 hR7 hl7 c77
  go_wp2_with fail
  refine (sameR_yes A7 a1 len1 c7 cap1 (rcA L1) _ HL7.out HR7.out (fun j hj => HS.out j hj) (fun j => rfl) (by omega)).mono ?_
  rintro e w8 ⟨rfl, r, hw8⟩
  have HB8 : Hid (Below w.heap.size w w8) := Lib.hid (by rw [hw8]; exact bdrewN HB7.out r)
  clear hw8 HL7 HR7 HS
  go_wp2_with fail
  go_ret
  exact ⟨rfl, HB8.out⟩
theorem walkReachPrefixes (a0 : Int) (a1 : Option Addr) (len1 cap1 : Nat) (L1 : Nat → Rc) (w : World) (w0 : (Lit.int .u8 a0).wf = true) (w1 : InR w a1 len1 cap1 L1) :
    Calls Try.prog 4 #[.int .u8 a0, .slice a1 len1 cap1] w fun e w' => e = .returned (.bool true) ∧ Below w.heap.size w w' := by
  by_cases h46 : a0 = 4 ∨ a0 = 6
  · obtain ⟨fam, hfam, hf⟩ : ∃ fam : Nat, a0 = (fam : Int) ∧ (fam = 4 ∨ fam = 6) := ⟨a0.toNat, by omega, by omega⟩
    subst hfam
    by_cases hl : 11 < len1
    · exact prefixes_long fam hf a1 len1 cap1 L1 w w1 hl
    · obtain ⟨m0, hm⟩ := rends fam L1 len1
      by_cases h0 : m0 = len1
      · subst h0
        exact prefixes_good fam hf a1 m0 cap1 L1 w w1 (by omega) hm
      · exact prefixes_bad fam hf a1 len1 cap1 L1 w w1 (by omega) m0 hm (by have := hm.1; omega)
  · exact prefixes_arg a0 a1 len1 cap1 L1 w w1 (by simp; omega) (by simp; omega)
end Go.Proofs.Ytplfilghhgdffaa
