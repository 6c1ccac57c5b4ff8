/- Texts of this claim put together; each theorem states its conditions. -/
import Derived.Test.YtkiaijmhoikdiaaGreatGStorePlays2
import Derived.Test.YtkiaijmhoikdiaaGreatRows
import Derived.Test.YtkiaijmhoikdiaaGreatGStorePlays1
import Derived.Deep.Slices
import Derived.OpenShut
import Derived.ProofKit
import Derived.SizedLaws
import Derived.Lib.BytesEntry
import Derived.Lib.Bytealg
import Derived.Deep.DeepCutAuto
import Derived.Sort.Grow
import Derived.Sort.Statements
import Derived.BigQuiet
import Derived.Deep.QuietTactic
/- pdu.Read reads a packet. Each theorem states its conditions. -/
namespace Go.Proofs.YtkiaijmhoikdiaaGreat
open Go.RowKit
set_option linter.unusedVariables false

def FormOk (z : Nat → Int) (n : Nat) : Prop := 8 ≤ n ∧ cls (z 4) ≤ 4 ∧ hdN (cls (z 4)) ≤ n ∧ eqB z (headZ (z 4) (hdN (cls (z 4)))) 8 = true ∧ ∀ i, i < (flC (cls (z 4))).length → fAt (cls (z 4)) i = 4 → toldN (cls (z 4)) z i = n
theorem rf_good (b off n c : Nat) (z : Nat → Int) (w : World) (hr : Row8 w b off n z) (hc : n ≤ c) (hcm : c ≤ maxLen) (hn2 : n ≤ 1492) (hf : FormOk z n) (r : Bool) (hft : fitP (rdP (cls (z 4)) z) (cls (z 4)) = r) :
    Calls Tryz.prog 91 #[.slice (some ⟨b, off, none⟩) n c] w (RfOk w b off n c (cls (z 4)) z r) := by
  obtain ⟨h1, h2, h3, h4, h5⟩ := hf
  exact rf_ok b off n c z w hr hc hcm h1 _ rfl h2 h3 hn2 h4 (flC (cls (z 4))).length ⟨Nat.le_refl _, h5, .inl rfl⟩ rfl r hft
theorem rf_fail (A : Option Addr) (n c : Nat) (z : Nat → Int) (w : World) (hr : Rd w A n z) (hc : n ≤ c) (hcm : c ≤ maxLen) (hn2 : n ≤ 1492) (hf : ¬ FormOk z n) :
    Calls Tryz.prog 91 #[.slice A n c] w (RfNo w) := by
  by_cases h8 : n < 8
  · exact rf_short A n c w h8
  · obtain ⟨b, off, rfl, hr2⟩ := hr.row (by omega)
    clear hr
    have hk := cls_le (z 4)
    by_cases h5 : cls (z 4) = 5
    · exact rf_kind b off n c z w hr2 hc hcm (by omega) h5
    · by_cases hh : n < hdN (cls (z 4))
      · exact rf_head b off n c z w hr2 hc hcm (by omega) _ rfl (by omega) hh
      · cases hs : eqB z (headZ (z 4) (hdN (cls (z 4)))) 8
        · exact rf_starts b off n c z w hr2 hc hcm (by omega) _ rfl (by omega) (by omega) hs
        · obtain ⟨m, hm⟩ := lendsF (cls (z 4)) z n
          rcases hm.2.2 with h | h
          · exact absurd ⟨by omega, by omega, by omega, hs, fun i hi => hm.2.1 i (by omega)⟩ hf
          · exact rf_bad b off n c z w hr2 hc hcm (by omega) _ rfl (by omega) (by omega) hn2 hs m hm h.1
def tlZ (q : Nat) (z : Nat → Int) : Nat → Int := fun j => z (hdN q + j)
def withT (p : Pd) (A : Option Addr) (m c : Nat) : Pd := ⟨p.kd, p.ci, p.so, p.ho, p.nu, p.pr, p.la, p.li, p.id, p.sq, p.bi, p.st, p.en, A, m, c⟩
theorem OwnT.far {w w' : World} {base m b : Nat} {v : Value} {L : Nat → It} {C : Array Value} {t : TypeId} (h : OwnT w base v m L) (hs : Stored w w' b C t) (hb : b < base) : OwnT w' base v m L := by
  refine ⟨⟨h.1.1, ?_⟩, fun j hj => ?_⟩
  · rcases h.1.2 with h1 | ⟨g, cap, cur, hv, hg, hc, r⟩
    · exact .inl h1
    · exact .inr ⟨g, cap, cur, hv, hg, (hs.2.2 g (by omega)).trans hc, r⟩
  · obtain ⟨h1, h2, g, h3, h4, h5⟩ := h.2 j hj
    exact ⟨h1, h2, g, h3, h4, h5.block (hs.2.2 g (by omega))⟩
theorem results_rd {fn : Func} {q u : Tmp} (h : fn.results = #[.cell q 127, .tmp u]) (tmps : Array Value) (W : World) (g : Nat) (p : Pd) (x : Value)
    (hp : tmps.getD q undef = .pointer (some ⟨g, 0, none⟩)) (hg : PdT 127 W g p) (hx : tmps.getD u undef = x) : (results fn tmps).run Tryz.prog W = .ok (.tuple #[.agg (pdC p), x]) W := by
  have h1 := run_loadVar_row (P := Tryz.prog) W g 127 127 (pdC p) (0, 0) _ hg Tryz.underlying127 rfl info_pdP
  have hp' : (tmps[q]?).getD undef = .pointer (some ⟨g, 0, none⟩) := by simpa using hp
  have hx' : (tmps[u]?).getD undef = x := by simpa using hx
  simp only [results, h]
  simp [hp', hx', asAddr, h1]
theorem isSigned_any (b off n c : Nat) (z : Nat → Int) (w : World) (r : Bool) (hr : Row8 w b off n z) (hn : 27 ≤ n) (hn2 : n ≤ 1492) (hc : n ≤ c) (hcm : c ≤ maxLen) (hq : rightB (fun j => z (12 + j)) 12 (n - 12) = r) :
    Calls Tryz.prog 94 #[.slice (some ⟨b, off, none⟩) n c] w fun e w' => e = .returned (.bool r) ∧ w = w' := by
  have HR := Lib.hid (right_ok b (off + 12) (n - 12) (c - 12) (fun j => z (12 + j)) 12 w (hr.shift 12 (n - 12) (by omega)) (by omega) (by omega) (by omega))
  rw [show (12 : Int).toNat = 12 from rfl, hq] at HR
  have hne12 : ¬ c = 12 := by omega
  have q1 : ¬ n < 12 := by omega
  obtain ⟨n1, hn1⟩ : ∃ n1, n - 12 = n1 := ⟨_, rfl⟩
  obtain ⟨c1, hc1⟩ : ∃ c1, c - 12 = c1 := ⟨_, rfl⟩
  rw [hn1, hc1] at HR
  unfold maxLen at hcm
  clear hr hq
  go_enter Tryz.func94, Tryz.ntmps94
  go_wp2_with fail
  refine HR.out.mono ?_
  rintro e w1 ⟨rfl, rfl⟩
  go_wp2_with fail
  go_ret
  exact ⟨rfl, rfl⟩
def RdErr (w : World) (E : Int) (e : Ending) (w' : World) : Prop := e = .returned (.tuple #[.agg (pdC pd0), .int .i64 E]) ∧ Below w.heap.size w w'
def RdOk (w : World) (q : Nat) (z : Nat → Int) (m : Nat) (e : Ending) (w' : World) : Prop :=
  ∃ A c L, e = .returned (.tuple #[.agg (pdC (withT (rdP q z) A m c)), .int .i64 0]) ∧ OwnT w' w.heap.size (.slice A m c) m L ∧ IsItZ (tlZ q z) L m ∧ (A = none → m = 0 ∧ c = 0) ∧ m ≤ c ∧ c ≤ maxLen ∧ Below w.heap.size w w'
set_option maxHeartbeats 4000000 in
set_option maxRecDepth 100000 in
theorem rd_long (A : Option Addr) (n c : Nat) (w : World) (h : 1492 < n) : Calls Tryz.prog 68 #[.slice A n c] w (RdErr w 2) := by
  obtain ⟨W1, hW1⟩ : ∃ W1, w.alloc (.cells (pdC pd0) 127) = W1 := ⟨_, rfl⟩
  obtain ⟨g, hg⟩ : ∃ g, w.heap.size = g := ⟨_, rfl⟩
  have HG1 : Hid (PdT 127 W1 g pd0) := Lib.hid (by rw [← hW1, ← hg]; exact heap_alloc_new w _)
  have HB1 : Hid (Below w.heap.size w W1) := Lib.hid (by rw [← hW1]; exact (bself w).alloc (Nat.le_refl _) _)
  have HW1 := Lib.hid hW1
  have HGG := Lib.hid hg
  clear hW1 hg
  go_enter Tryz.func68, Tryz.ntmps68
  go_wp2_with (first
    | (refine wpList_v (op := ⟨some 2, _, _, _, _, _⟩) rfl _ (alloc_P' _ _ rfl w W1 g HGG.out HW1.out) ?_)
    | (refine wpList_v rfl _ (build_0 _ _ rfl _) ?_)
    | (refine wpList_st rfl 127 (.tmp 2) (.tmp 12) rfl g 0 rfl (.agg (pdC pd0)) (pdC pd0) rfl rfl info_pdP (pdC_one _) HG1.out (Nat.le_of_ble_eq_true rfl) (pd_all _ _) ?_; intro w9 hst; refine Hid.out ?_))
  refine Lib.hid ?_
  have HG9 : Hid (PdT 127 w9 g pd0) := Lib.hid hst.1
  have HB9 : Hid (Below w.heap.size w w9) := Lib.hid (HB1.out.trans (hst.2.1 _ (by rw [HGG.out]; exact Nat.le_refl _)))
  clear hst
  go_wp2_with fail
  exact bodyPost_ret (results_rd (u := 3) rfl _ w9 g _ (.int .i64 2) rfl HG9.out rfl) rfl ⟨rfl, HB9.out⟩
set_option maxHeartbeats 4000000 in
set_option maxRecDepth 100000 in
theorem rd_formW (A : Option Addr) (n c : Nat) (z : Nat → Int) (w : World) (hr : Rd w A n z) (hn2 : n ≤ 1492) (hf : ∀ W, Below w.heap.size w W → Calls Tryz.prog 91 #[.slice A n c] W (RfNo W)) : Calls Tryz.prog 68 #[.slice A n c] w (RdErr w 3) := by
  have HF := Lib.hid hf
  clear hf hr
  obtain ⟨W1, hW1⟩ : ∃ W1, w.alloc (.cells (pdC pd0) 127) = W1 := ⟨_, rfl⟩
  obtain ⟨g, hg⟩ : ∃ g, w.heap.size = g := ⟨_, rfl⟩
  have HG1 : Hid (PdT 127 W1 g pd0) := Lib.hid (by rw [← hW1, ← hg]; exact heap_alloc_new w _)
  have HB1 : Hid (Below w.heap.size w W1) := Lib.hid (by rw [← hW1]; exact (bself w).alloc (Nat.le_refl _) _)
  have HW1 := Lib.hid hW1
  have HGG := Lib.hid hg
  clear hW1 hg
  go_enter Tryz.func68, Tryz.ntmps68
  have HRF := Lib.hid (HF.out W1 HB1.out)
  go_wp2_with (refine wpList_v (op := ⟨some 2, _, _, _, _, _⟩) rfl _ (alloc_P' _ _ rfl w W1 g HGG.out HW1.out) ?_)
  refine HRF.out.mono ?_
  rintro e w3 ⟨x, A3, m3, c3, rfl, hb3⟩
  have HG3 := Lib.hid (HG1.out.below hb3 HG1.out.lt)
  have HB3 := Lib.hid (HB1.out.trans (hb3.mono HB1.out.size))
  have hgl : g < w3.heap.size := HG3.out.lt
  obtain ⟨g4, hg4⟩ : ∃ g4, w3.heap.size = g4 := ⟨_, rfl⟩
  obtain ⟨W4, hW4⟩ : ∃ W4, w3.alloc (.cells (pdC pd0) 127) = W4 := ⟨_, rfl⟩
  rw [hg4] at hgl
  have HX4 : Hid (PdT 127 W4 g4 pd0) := Lib.hid (by rw [← hW4, ← hg4]; exact heap_alloc_new w3 _)
  have HG4 : Hid (PdT 127 W4 g pd0) := Lib.hid (by rw [← hW4]; exact (Below.heap_alloc _ _ _ HG3.out.lt).trans HG3.out)
  have HB4 : Hid (Below w.heap.size w W4) := Lib.hid (by rw [← hW4]; exact HB3.out.alloc HB3.out.size _)
  have HG44 := Lib.hid hg4
  have HW44 := Lib.hid hW4
  clear hb3 hg4 hW4
  go_wp2_with (first
    | (refine wpList_v (op := ⟨some 4, _, _, _, _, _⟩) rfl _ (alloc_P' _ _ rfl w3 W4 g4 HG44.out HW44.out) ?_)
    | (refine wpList_st rfl 127 (.tmp 4) (.tmp 16) rfl g4 0 rfl (.agg (pdC x)) (pdC x) rfl rfl info_pdP (pdC_one _) HX4.out (Nat.le_of_ble_eq_true rfl) (pd_all _ _) ?_; intro w5 hst5; refine Hid.out ?_))
  refine Lib.hid ?_
  have HX5 : Hid (PdT 127 w5 g4 x) := Lib.hid hst5.1
  have HG5 : Hid (PdT 127 w5 g pd0) := Lib.hid (HG4.out.far hst5 (by omega))
  have HB5 : Hid (Below w.heap.size w w5) := Lib.hid (HB4.out.trans (hst5.2.1 _ (by rw [HGG.out]; omega)))
  clear hst5 HX4 HG4 HB4
  go_wp2_with (first
    | (refine wpList_v rfl _ (build_0 _ _ rfl _) ?_)
    | (refine wpList_st rfl 127 (.tmp 2) (.tmp 21) rfl g 0 rfl (.agg (pdC pd0)) (pdC pd0) rfl rfl info_pdP (pdC_one _) HG5.out (Nat.le_of_ble_eq_true rfl) (pd_all _ _) ?_; intro w9 hst; refine Hid.out ?_))
  refine Lib.hid ?_
  have HG9 : Hid (PdT 127 w9 g pd0) := Lib.hid hst.1
  have HB9 : Hid (Below w.heap.size w w9) := Lib.hid (HB5.out.trans (hst.2.1 _ (by rw [HGG.out]; exact Nat.le_refl _)))
  clear hst
  go_wp2_with fail
  exact bodyPost_ret (results_rd (u := 3) rfl _ w9 g _ (.int .i64 3) rfl HG9.out rfl) rfl ⟨rfl, HB9.out⟩
theorem getF_kd (p : Pd) (y : Nat → Int) (f : Nat) : (getF p y f).kd = p.kd := by unfold getF; split <;> rfl
theorem rdF_kd (q : Nat) (z : Nat → Int) (i : Nat) : (rdF q z i).kd = z 4 := by
  induction i with
  | zero => rfl
  | succ i ih => exact (getF_kd _ _ _).trans ih
theorem rdP_kd (q : Nat) (z : Nat → Int) : (rdP q z).kd = z 4 := rdF_kd q z _
set_option maxHeartbeats 4000000 in
set_option maxRecDepth 100000 in
theorem rd_split (b off n c : Nat) (z : Nat → Int) (w : World) (hr : Row8 w b off n z) (hc : n ≤ c) (hcm : c ≤ maxLen) (hn2 : n ≤ 1492) (q : Nat) (hq : cls (z 4) = q) (hf : FormOk z n) (hft : fitP (rdP q z) q = true) (m : Nat) (hm : Ends (tlZ q z) (n - hdN q) m) (hne : pos (tlZ q z) m ≠ n - hdN q) : Calls Tryz.prog 68 #[.slice (some ⟨b, off, none⟩) n c] w (RdErr w 3) := by
  have hbw := hr.1
  have hzz := hr.2.2
  have hHn : hdN q ≤ n := by rw [← hq]; exact hf.2.2.1
  have hq4 : q ≤ 4 := by rw [← hq]; exact hf.2.1
  have h17 := hdN_bd q hq4
  have HR := Lib.hid hr
  have HM := Lib.hid hm
  have HQ := Lib.hid hq
  have HCM := Lib.hid hcm
  obtain ⟨H, hH⟩ : ∃ H, hdN q = H := ⟨_, rfl⟩
  have HHH := Lib.hid hH
  obtain ⟨A', hA'⟩ : ∃ A' : Option Addr, (if c = H then some ⟨b, off, none⟩ else some ⟨b, off + H, none⟩) = A' := ⟨_, rfl⟩
  have HAA := Lib.hid hA'
  have HF : Hid (∀ W, Row8 W b off n z → Calls Tryz.prog 91 #[.slice (some ⟨b, off, none⟩) n c] W (fun e w' => e = .returned (.tuple #[.agg (pdC (rdP q z)), .slice A' (n - H) (c - H), .bool true]) ∧ Below W.heap.size W w')) := Lib.hid (fun W hW => by
    have := rf_good b off n c z W hW hc hcm hn2 hf true (by rw [hq]; exact hft)
    rw [hq] at this
    unfold RfOk at this
    rw [hH, hA'] at this
    exact this)
  rw [hH] at HM hHn h17
  have HK : Hid ((rdP q z).kd = z 4) := Lib.hid (rdP_kd q z)
  have HNE := Lib.hid hne
  clear hne
  clear hr hm hf hft hq hH hA'
  obtain ⟨W1, hW1⟩ : ∃ W1, w.alloc (.cells (pdC pd0) 127) = W1 := ⟨_, rfl⟩
  obtain ⟨g, hg⟩ : ∃ g, w.heap.size = g := ⟨_, rfl⟩
  have HG1 : Hid (PdT 127 W1 g pd0) := Lib.hid (by rw [← hW1, ← hg]; exact heap_alloc_new w _)
  have HB1 : Hid (Below w.heap.size w W1) := Lib.hid (by rw [← hW1]; exact (bself w).alloc (Nat.le_refl _) _)
  have HW1 := Lib.hid hW1
  have HGG := Lib.hid hg
  clear hW1 hg
  go_enter Tryz.func68, Tryz.ntmps68
  have HRF := Lib.hid (HF.out W1 (HR.out.below HB1.out hbw))
  go_wp2_with (refine wpList_v (op := ⟨some 2, _, _, _, _, _⟩) rfl _ (alloc_P' _ _ rfl w W1 g HGG.out HW1.out) ?_)
  refine HRF.out.mono ?_
  rintro e w3 ⟨rfl, hb3⟩
  have HG3 := Lib.hid (HG1.out.below hb3 HG1.out.lt)
  have HB3 := Lib.hid (HB1.out.trans (hb3.mono HB1.out.size))
  have hgl : g < w3.heap.size := HG3.out.lt
  obtain ⟨g4, hg4⟩ : ∃ g4, w3.heap.size = g4 := ⟨_, rfl⟩
  obtain ⟨W4, hW4⟩ : ∃ W4, w3.alloc (.cells (pdC pd0) 127) = W4 := ⟨_, rfl⟩
  rw [hg4] at hgl
  have HX4 : Hid (PdT 127 W4 g4 pd0) := Lib.hid (by rw [← hW4, ← hg4]; exact heap_alloc_new w3 _)
  have HG4 : Hid (PdT 127 W4 g pd0) := Lib.hid (by rw [← hW4]; exact (Below.heap_alloc _ _ _ HG3.out.lt).trans HG3.out)
  have HB4 : Hid (Below w.heap.size w W4) := Lib.hid (by rw [← hW4]; exact HB3.out.alloc HB3.out.size _)
  have HG44 := Lib.hid hg4
  have HW44 := Lib.hid hW4
  clear hb3 hg4 hW4
  go_wp2_with (first
    | (refine wpList_v (op := ⟨some 4, _, _, _, _, _⟩) rfl _ (alloc_P' _ _ rfl w3 W4 g4 HG44.out HW44.out) ?_)
    | (refine wpList_st rfl 127 (.tmp 4) (.tmp 16) rfl g4 0 rfl (.agg (pdC (rdP q z))) (pdC (rdP q z)) rfl rfl info_pdP (pdC_one _) HX4.out (Nat.le_of_ble_eq_true rfl) (pd_all _ _) ?_; intro w5 hst5; refine Hid.out ?_))
  refine Lib.hid ?_
  have HX5 : Hid (PdT 127 w5 g4 (rdP q z)) := Lib.hid hst5.1
  have HG5 : Hid (PdT 127 w5 g pd0) := Lib.hid (HG4.out.far hst5 (by omega))
  have HB5 : Hid (Below w.heap.size w w5) := Lib.hid (HB4.out.trans (hst5.2.1 _ (by rw [HGG.out]; omega)))
  clear hst5 HX4 HG4 HB4
  have hR5 : Row8 w5 b off n z := HR.out.below HB5.out hbw
  have HTl : Hid (Rd w5 A' (n - H) (tlZ q z)) := Lib.hid (by
    rw [← HAA.out]
    have e : tlZ q z = fun j => z (H + j) := by unfold tlZ; rw [HHH.out]
    rw [e]
    by_cases hcH : c = H
    · rw [if_pos hcH]
      exact ⟨.inl (by omega), fun j => hzz _⟩
    · rw [if_neg hcH]
      exact ⟨.inr ⟨b, off + H, rfl, hR5.shift H (n - H) (by omega)⟩, fun j => hzz _⟩)
  have HA0 : Hid (A' = none → n - H = 0 ∧ c - H = 0) := Lib.hid (fun e => by rw [← HAA.out] at e; split at e <;> cases e)
  have HSp := Lib.hid (split_any A' (n - H) (c - H) m (tlZ q z) w5 HTl.out HA0.out (by omega) (by omega) (by have := HCM.out; unfold maxLen at this; omega) HM.out)
  have HR5 := Lib.hid hR5
  have c0 : w5.cell? ⟨g4, 0, none⟩ = some (.int .u8 (z 4)) := (HX5.out.cell 0).trans ((pdC_kd _).trans (by rw [HK.out]))
  have hg45 : g4 < w5.heap.size := HX5.out.lt
  clear hR5
  go_wp2_with fail
  refine HSp.out.mono ?_
  rintro e w6 (⟨h, _⟩ | ⟨_, rfl, hb6⟩)
  · exact absurd h (by have := HNE.out; rw [HHH.out] at this; exact this)
  have HG6 := Lib.hid (HG5.out.below hb6 HG5.out.lt)
  have HB6 := Lib.hid (HB5.out.trans (hb6.mono HB5.out.size))
  clear hb6
  go_wp2_with (first
    | (refine wpList_v rfl _ (build_0 _ _ rfl _) ?_)
    | (refine wpList_st rfl 127 (.tmp 2) (.tmp 29) rfl g 0 rfl (.agg (pdC pd0)) (pdC pd0) rfl rfl info_pdP (pdC_one _) HG6.out (Nat.le_of_ble_eq_true rfl) (pd_all _ _) ?_; intro w9 hst; refine Hid.out ?_))
  refine Lib.hid ?_
  have HG9 : Hid (PdT 127 w9 g pd0) := Lib.hid hst.1
  have HB9 : Hid (Below w.heap.size w w9) := Lib.hid (HB6.out.trans (hst.2.1 _ (by rw [HGG.out]; exact Nat.le_refl _)))
  clear hst
  go_wp2_with fail
  exact bodyPost_ret (results_rd (u := 3) rfl _ w9 g _ (.int .i64 3) rfl HG9.out rfl) rfl ⟨rfl, HB9.out⟩
set_option maxHeartbeats 4000000 in
set_option maxRecDepth 100000 in
theorem rd_sum (b off n c : Nat) (z : Nat → Int) (w : World) (hr : Row8 w b off n z) (hc : n ≤ c) (hcm : c ≤ maxLen) (hn2 : n ≤ 1492) (q : Nat) (hq : cls (z 4) = q) (hf : FormOk z n) (hft : fitP (rdP q z) q = true) (m : Nat) (hm : Ends (tlZ q z) (n - hdN q) m) (hne : pos (tlZ q z) m = n - hdN q) (hq2 : q = 2) (hrb : rightB (fun j => z (12 + j)) 12 (n - 12) = false) : Calls Tryz.prog 68 #[.slice (some ⟨b, off, none⟩) n c] w (RdErr w 8) := by
  have hbw := hr.1
  have hzz := hr.2.2
  have hHn : hdN q ≤ n := by rw [← hq]; exact hf.2.2.1
  have hq4 : q ≤ 4 := by rw [← hq]; exact hf.2.1
  have h17 := hdN_bd q hq4
  have HR := Lib.hid hr
  have HM := Lib.hid hm
  have HQ := Lib.hid hq
  have HCM := Lib.hid hcm
  obtain ⟨H, hH⟩ : ∃ H, hdN q = H := ⟨_, rfl⟩
  have HHH := Lib.hid hH
  obtain ⟨A', hA'⟩ : ∃ A' : Option Addr, (if c = H then some ⟨b, off, none⟩ else some ⟨b, off + H, none⟩) = A' := ⟨_, rfl⟩
  have HAA := Lib.hid hA'
  have HF : Hid (∀ W, Row8 W b off n z → Calls Tryz.prog 91 #[.slice (some ⟨b, off, none⟩) n c] W (fun e w' => e = .returned (.tuple #[.agg (pdC (rdP q z)), .slice A' (n - H) (c - H), .bool true]) ∧ Below W.heap.size W w')) := Lib.hid (fun W hW => by
    have := rf_good b off n c z W hW hc hcm hn2 hf true (by rw [hq]; exact hft)
    rw [hq] at this
    unfold RfOk at this
    rw [hH, hA'] at this
    exact this)
  rw [hH] at HM hHn h17
  have HK : Hid ((rdP q z).kd = z 4) := Lib.hid (rdP_kd q z)
  have HNE := Lib.hid hne
  have HRB := Lib.hid hrb
  have HQ2 := Lib.hid hq2
  clear hne hrb hq2
  clear hr hm hf hft hq hH hA'
  obtain ⟨W1, hW1⟩ : ∃ W1, w.alloc (.cells (pdC pd0) 127) = W1 := ⟨_, rfl⟩
  obtain ⟨g, hg⟩ : ∃ g, w.heap.size = g := ⟨_, rfl⟩
  have HG1 : Hid (PdT 127 W1 g pd0) := Lib.hid (by rw [← hW1, ← hg]; exact heap_alloc_new w _)
  have HB1 : Hid (Below w.heap.size w W1) := Lib.hid (by rw [← hW1]; exact (bself w).alloc (Nat.le_refl _) _)
  have HW1 := Lib.hid hW1
  have HGG := Lib.hid hg
  clear hW1 hg
  go_enter Tryz.func68, Tryz.ntmps68
  have HRF := Lib.hid (HF.out W1 (HR.out.below HB1.out hbw))
  go_wp2_with (refine wpList_v (op := ⟨some 2, _, _, _, _, _⟩) rfl _ (alloc_P' _ _ rfl w W1 g HGG.out HW1.out) ?_)
  refine HRF.out.mono ?_
  rintro e w3 ⟨rfl, hb3⟩
  have HG3 := Lib.hid (HG1.out.below hb3 HG1.out.lt)
  have HB3 := Lib.hid (HB1.out.trans (hb3.mono HB1.out.size))
  have hgl : g < w3.heap.size := HG3.out.lt
  obtain ⟨g4, hg4⟩ : ∃ g4, w3.heap.size = g4 := ⟨_, rfl⟩
  obtain ⟨W4, hW4⟩ : ∃ W4, w3.alloc (.cells (pdC pd0) 127) = W4 := ⟨_, rfl⟩
  rw [hg4] at hgl
  have HX4 : Hid (PdT 127 W4 g4 pd0) := Lib.hid (by rw [← hW4, ← hg4]; exact heap_alloc_new w3 _)
  have HG4 : Hid (PdT 127 W4 g pd0) := Lib.hid (by rw [← hW4]; exact (Below.heap_alloc _ _ _ HG3.out.lt).trans HG3.out)
  have HB4 : Hid (Below w.heap.size w W4) := Lib.hid (by rw [← hW4]; exact HB3.out.alloc HB3.out.size _)
  have HG44 := Lib.hid hg4
  have HW44 := Lib.hid hW4
  clear hb3 hg4 hW4
  go_wp2_with (first
    | (refine wpList_v (op := ⟨some 4, _, _, _, _, _⟩) rfl _ (alloc_P' _ _ rfl w3 W4 g4 HG44.out HW44.out) ?_)
    | (refine wpList_st rfl 127 (.tmp 4) (.tmp 16) rfl g4 0 rfl (.agg (pdC (rdP q z))) (pdC (rdP q z)) rfl rfl info_pdP (pdC_one _) HX4.out (Nat.le_of_ble_eq_true rfl) (pd_all _ _) ?_; intro w5 hst5; refine Hid.out ?_))
  refine Lib.hid ?_
  have HX5 : Hid (PdT 127 w5 g4 (rdP q z)) := Lib.hid hst5.1
  have HG5 : Hid (PdT 127 w5 g pd0) := Lib.hid (HG4.out.far hst5 (by omega))
  have HB5 : Hid (Below w.heap.size w w5) := Lib.hid (HB4.out.trans (hst5.2.1 _ (by rw [HGG.out]; omega)))
  clear hst5 HX4 HG4 HB4
  have hR5 : Row8 w5 b off n z := HR.out.below HB5.out hbw
  have HTl : Hid (Rd w5 A' (n - H) (tlZ q z)) := Lib.hid (by
    rw [← HAA.out]
    have e : tlZ q z = fun j => z (H + j) := by unfold tlZ; rw [HHH.out]
    rw [e]
    by_cases hcH : c = H
    · rw [if_pos hcH]
      exact ⟨.inl (by omega), fun j => hzz _⟩
    · rw [if_neg hcH]
      exact ⟨.inr ⟨b, off + H, rfl, hR5.shift H (n - H) (by omega)⟩, fun j => hzz _⟩)
  have HA0 : Hid (A' = none → n - H = 0 ∧ c - H = 0) := Lib.hid (fun e => by rw [← HAA.out] at e; split at e <;> cases e)
  have HSp := Lib.hid (split_any A' (n - H) (c - H) m (tlZ q z) w5 HTl.out HA0.out (by omega) (by omega) (by have := HCM.out; unfold maxLen at this; omega) HM.out)
  have HR5 := Lib.hid hR5
  have c0 : w5.cell? ⟨g4, 0, none⟩ = some (.int .u8 (z 4)) := (HX5.out.cell 0).trans ((pdC_kd _).trans (by rw [HK.out]))
  have hg45 : g4 < w5.heap.size := HX5.out.lt
  clear hR5
  go_wp2_with fail
  refine HSp.out.mono ?_
  rintro e w6 (⟨_, v6, L6, rfl, ho6, hi6, hb6⟩ | ⟨h, _⟩)
  rotate_left
  · exact absurd (by have := HNE.out; rw [HHH.out] at this; exact this) h
  obtain ⟨A6, c6, rfl, hmc, hmx, hA6, _⟩ := ho6.shape
  have HO6 := Lib.hid ho6
  have HI6 := Lib.hid hi6
  have HA6 := Lib.hid hA6
  have HMX := Lib.hid hmx
  have HG6 := Lib.hid (HG5.out.below hb6 HG5.out.lt)
  have HX6 := Lib.hid (HX5.out.below hb6 HX5.out.lt)
  have HB6 := Lib.hid (HB5.out.trans (hb6.mono HB5.out.size))
  have HR6 := Lib.hid (HR5.out.below hb6 HR5.out.1)
  have c0' : w6.cell? ⟨g4, 0, none⟩ = some (.int .u8 (z 4)) := (HX6.out.cell 0).trans ((pdC_kd _).trans (by rw [HK.out]))
  have HST := Lib.hid (isState_any (z 4) w6)
  clear ho6 hi6 hb6 hA6 hmx c0
  rw [show decide (cls (z 4) = 2) = true by rw [HQ.out, HQ2.out]; rfl] at HST
  have h27 : 27 ≤ n := by
    have h1 : H = 27 := by rw [← HHH.out, HQ2.out]; rfl
    omega
  have HSG := Lib.hid (isSigned_any b off n c z w6 false HR6.out h27 hn2 hc HCM.out HRB.out)
  go_wp2_with fail
  refine HST.out.mono ?_
  rintro e w7 ⟨rfl, rfl⟩
  go_wp2_with fail
  refine HSG.out.mono ?_
  rintro e w7 ⟨rfl, rfl⟩
  go_wp2_with (first
    | (refine wpList_v rfl _ (build_0 _ _ rfl _) ?_)
    | (refine wpList_st rfl 127 (.tmp 2) (.tmp 39) rfl g 0 rfl (.agg (pdC pd0)) (pdC pd0) rfl rfl info_pdP (pdC_one _) HG6.out (Nat.le_of_ble_eq_true rfl) (pd_all _ _) ?_; intro w9 hst; refine Hid.out ?_))
  refine Lib.hid ?_
  have HG9 : Hid (PdT 127 w9 g pd0) := Lib.hid hst.1
  have HB9 : Hid (Below w.heap.size w w9) := Lib.hid (HB6.out.trans (hst.2.1 _ (by rw [HGG.out]; exact Nat.le_refl _)))
  clear hst
  go_wp2_with fail
  exact bodyPost_ret (results_rd (u := 3) rfl _ w9 g _ (.int .i64 8) rfl HG9.out rfl) rfl ⟨rfl, HB9.out⟩
set_option maxHeartbeats 4000000 in
set_option maxRecDepth 100000 in
theorem rd_state (b off n c : Nat) (z : Nat → Int) (w : World) (hr : Row8 w b off n z) (hc : n ≤ c) (hcm : c ≤ maxLen) (hn2 : n ≤ 1492) (q : Nat) (hq : cls (z 4) = q) (hf : FormOk z n) (hft : fitP (rdP q z) q = true) (m : Nat) (hm : Ends (tlZ q z) (n - hdN q) m) (hne : pos (tlZ q z) m = n - hdN q) (hq2 : q = 2) (hrb : rightB (fun j => z (12 + j)) 12 (n - 12) = true) : Calls Tryz.prog 68 #[.slice (some ⟨b, off, none⟩) n c] w (RdOk w q z m) := by
  have hbw := hr.1
  have hzz := hr.2.2
  have hHn : hdN q ≤ n := by rw [← hq]; exact hf.2.2.1
  have hq4 : q ≤ 4 := by rw [← hq]; exact hf.2.1
  have h17 := hdN_bd q hq4
  have HR := Lib.hid hr
  have HM := Lib.hid hm
  have HQ := Lib.hid hq
  have HCM := Lib.hid hcm
  obtain ⟨H, hH⟩ : ∃ H, hdN q = H := ⟨_, rfl⟩
  have HHH := Lib.hid hH
  obtain ⟨A', hA'⟩ : ∃ A' : Option Addr, (if c = H then some ⟨b, off, none⟩ else some ⟨b, off + H, none⟩) = A' := ⟨_, rfl⟩
  have HAA := Lib.hid hA'
  have HF : Hid (∀ W, Row8 W b off n z → Calls Tryz.prog 91 #[.slice (some ⟨b, off, none⟩) n c] W (fun e w' => e = .returned (.tuple #[.agg (pdC (rdP q z)), .slice A' (n - H) (c - H), .bool true]) ∧ Below W.heap.size W w')) := Lib.hid (fun W hW => by
    have := rf_good b off n c z W hW hc hcm hn2 hf true (by rw [hq]; exact hft)
    rw [hq] at this
    unfold RfOk at this
    rw [hH, hA'] at this
    exact this)
  rw [hH] at HM hHn h17
  have HK : Hid ((rdP q z).kd = z 4) := Lib.hid (rdP_kd q z)
  have HNE := Lib.hid hne
  have HRB := Lib.hid hrb
  have HQ2 := Lib.hid hq2
  clear hne hrb hq2
  clear hr hm hf hft hq hH hA'
  obtain ⟨W1, hW1⟩ : ∃ W1, w.alloc (.cells (pdC pd0) 127) = W1 := ⟨_, rfl⟩
  obtain ⟨g, hg⟩ : ∃ g, w.heap.size = g := ⟨_, rfl⟩
  have HG1 : Hid (PdT 127 W1 g pd0) := Lib.hid (by rw [← hW1, ← hg]; exact heap_alloc_new w _)
  have HB1 : Hid (Below w.heap.size w W1) := Lib.hid (by rw [← hW1]; exact (bself w).alloc (Nat.le_refl _) _)
  have HW1 := Lib.hid hW1
  have HGG := Lib.hid hg
  clear hW1 hg
  go_enter Tryz.func68, Tryz.ntmps68
  have HRF := Lib.hid (HF.out W1 (HR.out.below HB1.out hbw))
  go_wp2_with (refine wpList_v (op := ⟨some 2, _, _, _, _, _⟩) rfl _ (alloc_P' _ _ rfl w W1 g HGG.out HW1.out) ?_)
  refine HRF.out.mono ?_
  rintro e w3 ⟨rfl, hb3⟩
  have HG3 := Lib.hid (HG1.out.below hb3 HG1.out.lt)
  have HB3 := Lib.hid (HB1.out.trans (hb3.mono HB1.out.size))
  have hgl : g < w3.heap.size := HG3.out.lt
  obtain ⟨g4, hg4⟩ : ∃ g4, w3.heap.size = g4 := ⟨_, rfl⟩
  obtain ⟨W4, hW4⟩ : ∃ W4, w3.alloc (.cells (pdC pd0) 127) = W4 := ⟨_, rfl⟩
  rw [hg4] at hgl
  have HX4 : Hid (PdT 127 W4 g4 pd0) := Lib.hid (by rw [← hW4, ← hg4]; exact heap_alloc_new w3 _)
  have HG4 : Hid (PdT 127 W4 g pd0) := Lib.hid (by rw [← hW4]; exact (Below.heap_alloc _ _ _ HG3.out.lt).trans HG3.out)
  have HB4 : Hid (Below w.heap.size w W4) := Lib.hid (by rw [← hW4]; exact HB3.out.alloc HB3.out.size _)
  have HG44 := Lib.hid hg4
  have HW44 := Lib.hid hW4
  clear hb3 hg4 hW4
  go_wp2_with (first
    | (refine wpList_v (op := ⟨some 4, _, _, _, _, _⟩) rfl _ (alloc_P' _ _ rfl w3 W4 g4 HG44.out HW44.out) ?_)
    | (refine wpList_st rfl 127 (.tmp 4) (.tmp 16) rfl g4 0 rfl (.agg (pdC (rdP q z))) (pdC (rdP q z)) rfl rfl info_pdP (pdC_one _) HX4.out (Nat.le_of_ble_eq_true rfl) (pd_all _ _) ?_; intro w5 hst5; refine Hid.out ?_))
  refine Lib.hid ?_
  have HX5 : Hid (PdT 127 w5 g4 (rdP q z)) := Lib.hid hst5.1
  have HG5 : Hid (PdT 127 w5 g pd0) := Lib.hid (HG4.out.far hst5 (by omega))
  have HB5 : Hid (Below w.heap.size w w5) := Lib.hid (HB4.out.trans (hst5.2.1 _ (by rw [HGG.out]; omega)))
  clear hst5 HX4 HG4 HB4
  have hR5 : Row8 w5 b off n z := HR.out.below HB5.out hbw
  have HTl : Hid (Rd w5 A' (n - H) (tlZ q z)) := Lib.hid (by
    rw [← HAA.out]
    have e : tlZ q z = fun j => z (H + j) := by unfold tlZ; rw [HHH.out]
    rw [e]
    by_cases hcH : c = H
    · rw [if_pos hcH]
      exact ⟨.inl (by omega), fun j => hzz _⟩
    · rw [if_neg hcH]
      exact ⟨.inr ⟨b, off + H, rfl, hR5.shift H (n - H) (by omega)⟩, fun j => hzz _⟩)
  have HA0 : Hid (A' = none → n - H = 0 ∧ c - H = 0) := Lib.hid (fun e => by rw [← HAA.out] at e; split at e <;> cases e)
  have HSp := Lib.hid (split_any A' (n - H) (c - H) m (tlZ q z) w5 HTl.out HA0.out (by omega) (by omega) (by have := HCM.out; unfold maxLen at this; omega) HM.out)
  have HR5 := Lib.hid hR5
  have c0 : w5.cell? ⟨g4, 0, none⟩ = some (.int .u8 (z 4)) := (HX5.out.cell 0).trans ((pdC_kd _).trans (by rw [HK.out]))
  have hg45 : g4 < w5.heap.size := HX5.out.lt
  clear hR5
  go_wp2_with fail
  refine HSp.out.mono ?_
  rintro e w6 (⟨_, v6, L6, rfl, ho6, hi6, hb6⟩ | ⟨h, _⟩)
  rotate_left
  · exact absurd (by have := HNE.out; rw [HHH.out] at this; exact this) h
  obtain ⟨A6, c6, rfl, hmc, hmx, hA6, _⟩ := ho6.shape
  have HO6 := Lib.hid ho6
  have HI6 := Lib.hid hi6
  have HA6 := Lib.hid hA6
  have HMX := Lib.hid hmx
  have HG6 := Lib.hid (HG5.out.below hb6 HG5.out.lt)
  have HX6 := Lib.hid (HX5.out.below hb6 HX5.out.lt)
  have HB6 := Lib.hid (HB5.out.trans (hb6.mono HB5.out.size))
  have HR6 := Lib.hid (HR5.out.below hb6 HR5.out.1)
  have c0' : w6.cell? ⟨g4, 0, none⟩ = some (.int .u8 (z 4)) := (HX6.out.cell 0).trans ((pdC_kd _).trans (by rw [HK.out]))
  have HST := Lib.hid (isState_any (z 4) w6)
  clear ho6 hi6 hb6 hA6 hmx c0
  rw [show decide (cls (z 4) = 2) = true by rw [HQ.out, HQ2.out]; rfl] at HST
  have h27 : 27 ≤ n := by
    have h1 : H = 27 := by rw [← HHH.out, HQ2.out]; rfl
    omega
  have HSG := Lib.hid (isSigned_any b off n c z w6 true HR6.out h27 hn2 hc HCM.out HRB.out)
  go_wp2_with fail
  refine HST.out.mono ?_
  rintro e w7 ⟨rfl, rfl⟩
  go_wp2_with fail
  refine HSG.out.mono ?_
  rintro e w7 ⟨rfl, rfl⟩
  go_wp2_with (first
    | (refine wpList_st rfl 37 (.tmp 41) (.tmp 40) rfl g4 46 rfl (.slice A6 m c6) #[.slice A6 m c6] rfl rfl (by kernel_rfl) (by kernel_rfl) HX6.out (Nat.le_of_ble_eq_true rfl) (C' := pdC (withT (rdP q z) A6 m c6)) (by kernel_rfl) ?_; intro w8 hst8; refine Hid.out ?_))
  refine Lib.hid ?_
  have HX8 : Hid (PdT 127 w8 g4 (withT (rdP q z) A6 m c6)) := Lib.hid hst8.1
  have HG8 : Hid (PdT 127 w8 g pd0) := Lib.hid (HG6.out.far hst8 (by omega))
  have HB8 : Hid (Below w.heap.size w w8) := Lib.hid (HB6.out.trans (hst8.2.1 _ (by rw [HGG.out]; omega)))
  have HO8 := Lib.hid (HO6.out.far hst8 hg45)
  clear hst8 c0'
  go_wp2_with (first
    | (refine wpList_load_mid rfl 127 (.tmp 4) rfl g4 0 rfl (pdC (withT (rdP q z) A6 m c6)).toList _ HX8.out.all Tryz.underlying127 rfl info_pdP ?_)
    | (refine wpList_st rfl 127 (.tmp 2) (.tmp 42) rfl g 0 rfl (.agg (pdC (withT (rdP q z) A6 m c6))) (pdC (withT (rdP q z) A6 m c6)) rfl rfl info_pdP (pdC_one _) HG8.out (Nat.le_of_ble_eq_true rfl) (pd_all _ _) ?_; intro w9 hst9; refine Hid.out ?_))
  refine Lib.hid ?_
  have HG9 : Hid (PdT 127 w9 g (withT (rdP q z) A6 m c6)) := Lib.hid hst9.1
  have HB9 : Hid (Below w.heap.size w w9) := Lib.hid (HB8.out.trans (hst9.2.1 _ (by rw [HGG.out]; exact Nat.le_refl _)))
  have HO9 := Lib.hid (HO8.out.far hst9 (by omega))
  have HO9' : Hid (OwnT w9 w.heap.size (.slice A6 m c6) m L6) := Lib.hid ⟨ownsRow_mono HO9.out.1 HB5.out.size, fun j hj => (HO9.out.2 j hj).mono HB5.out.size⟩
  clear hst9
  go_wp2_with fail
  exact bodyPost_ret (results_rd (u := 3) rfl _ w9 g _ (.int .i64 0) rfl HG9.out rfl) rfl ⟨A6, c6, L6, rfl, HO9'.out, HI6.out, HA6.out, hmc, HMX.out, HB9.out⟩
set_option maxHeartbeats 4000000 in
set_option maxRecDepth 100000 in
theorem rd_plain (b off n c : Nat) (z : Nat → Int) (w : World) (hr : Row8 w b off n z) (hc : n ≤ c) (hcm : c ≤ maxLen) (hn2 : n ≤ 1492) (q : Nat) (hq : cls (z 4) = q) (hf : FormOk z n) (hft : fitP (rdP q z) q = true) (m : Nat) (hm : Ends (tlZ q z) (n - hdN q) m) (hne : pos (tlZ q z) m = n - hdN q) (hq2 : q ≠ 2) : Calls Tryz.prog 68 #[.slice (some ⟨b, off, none⟩) n c] w (RdOk w q z m) := by
  have hbw := hr.1
  have hzz := hr.2.2
  have hHn : hdN q ≤ n := by rw [← hq]; exact hf.2.2.1
  have hq4 : q ≤ 4 := by rw [← hq]; exact hf.2.1
  have h17 := hdN_bd q hq4
  have HR := Lib.hid hr
  have HM := Lib.hid hm
  have HQ := Lib.hid hq
  have HCM := Lib.hid hcm
  obtain ⟨H, hH⟩ : ∃ H, hdN q = H := ⟨_, rfl⟩
  have HHH := Lib.hid hH
  obtain ⟨A', hA'⟩ : ∃ A' : Option Addr, (if c = H then some ⟨b, off, none⟩ else some ⟨b, off + H, none⟩) = A' := ⟨_, rfl⟩
  have HAA := Lib.hid hA'
  have HF : Hid (∀ W, Row8 W b off n z → Calls Tryz.prog 91 #[.slice (some ⟨b, off, none⟩) n c] W (fun e w' => e = .returned (.tuple #[.agg (pdC (rdP q z)), .slice A' (n - H) (c - H), .bool true]) ∧ Below W.heap.size W w')) := Lib.hid (fun W hW => by
    have := rf_good b off n c z W hW hc hcm hn2 hf true (by rw [hq]; exact hft)
    rw [hq] at this
    unfold RfOk at this
    rw [hH, hA'] at this
    exact this)
  rw [hH] at HM hHn h17
  have HK : Hid ((rdP q z).kd = z 4) := Lib.hid (rdP_kd q z)
  have HNE := Lib.hid hne
  have HQ2 := Lib.hid hq2
  clear hne hq2
  clear hr hm hf hft hq hH hA'
  obtain ⟨W1, hW1⟩ : ∃ W1, w.alloc (.cells (pdC pd0) 127) = W1 := ⟨_, rfl⟩
  obtain ⟨g, hg⟩ : ∃ g, w.heap.size = g := ⟨_, rfl⟩
  have HG1 : Hid (PdT 127 W1 g pd0) := Lib.hid (by rw [← hW1, ← hg]; exact heap_alloc_new w _)
  have HB1 : Hid (Below w.heap.size w W1) := Lib.hid (by rw [← hW1]; exact (bself w).alloc (Nat.le_refl _) _)
  have HW1 := Lib.hid hW1
  have HGG := Lib.hid hg
  clear hW1 hg
  go_enter Tryz.func68, Tryz.ntmps68
  have HRF := Lib.hid (HF.out W1 (HR.out.below HB1.out hbw))
  go_wp2_with (refine wpList_v (op := ⟨some 2, _, _, _, _, _⟩) rfl _ (alloc_P' _ _ rfl w W1 g HGG.out HW1.out) ?_)
  refine HRF.out.mono ?_
  rintro e w3 ⟨rfl, hb3⟩
  have HG3 := Lib.hid (HG1.out.below hb3 HG1.out.lt)
  have HB3 := Lib.hid (HB1.out.trans (hb3.mono HB1.out.size))
  have hgl : g < w3.heap.size := HG3.out.lt
  obtain ⟨g4, hg4⟩ : ∃ g4, w3.heap.size = g4 := ⟨_, rfl⟩
  obtain ⟨W4, hW4⟩ : ∃ W4, w3.alloc (.cells (pdC pd0) 127) = W4 := ⟨_, rfl⟩
  rw [hg4] at hgl
  have HX4 : Hid (PdT 127 W4 g4 pd0) := Lib.hid (by rw [← hW4, ← hg4]; exact heap_alloc_new w3 _)
  have HG4 : Hid (PdT 127 W4 g pd0) := Lib.hid (by rw [← hW4]; exact (Below.heap_alloc _ _ _ HG3.out.lt).trans HG3.out)
  have HB4 : Hid (Below w.heap.size w W4) := Lib.hid (by rw [← hW4]; exact HB3.out.alloc HB3.out.size _)
  have HG44 := Lib.hid hg4
  have HW44 := Lib.hid hW4
  clear hb3 hg4 hW4
  go_wp2_with (first
    | (refine wpList_v (op := ⟨some 4, _, _, _, _, _⟩) rfl _ (alloc_P' _ _ rfl w3 W4 g4 HG44.out HW44.out) ?_)
    | (refine wpList_st rfl 127 (.tmp 4) (.tmp 16) rfl g4 0 rfl (.agg (pdC (rdP q z))) (pdC (rdP q z)) rfl rfl info_pdP (pdC_one _) HX4.out (Nat.le_of_ble_eq_true rfl) (pd_all _ _) ?_; intro w5 hst5; refine Hid.out ?_))
  refine Lib.hid ?_
  have HX5 : Hid (PdT 127 w5 g4 (rdP q z)) := Lib.hid hst5.1
  have HG5 : Hid (PdT 127 w5 g pd0) := Lib.hid (HG4.out.far hst5 (by omega))
  have HB5 : Hid (Below w.heap.size w w5) := Lib.hid (HB4.out.trans (hst5.2.1 _ (by rw [HGG.out]; omega)))
  clear hst5 HX4 HG4 HB4
  have hR5 : Row8 w5 b off n z := HR.out.below HB5.out hbw
  have HTl : Hid (Rd w5 A' (n - H) (tlZ q z)) := Lib.hid (by
    rw [← HAA.out]
    have e : tlZ q z = fun j => z (H + j) := by unfold tlZ; rw [HHH.out]
    rw [e]
    by_cases hcH : c = H
    · rw [if_pos hcH]
      exact ⟨.inl (by omega), fun j => hzz _⟩
    · rw [if_neg hcH]
      exact ⟨.inr ⟨b, off + H, rfl, hR5.shift H (n - H) (by omega)⟩, fun j => hzz _⟩)
  have HA0 : Hid (A' = none → n - H = 0 ∧ c - H = 0) := Lib.hid (fun e => by rw [← HAA.out] at e; split at e <;> cases e)
  have HSp := Lib.hid (split_any A' (n - H) (c - H) m (tlZ q z) w5 HTl.out HA0.out (by omega) (by omega) (by have := HCM.out; unfold maxLen at this; omega) HM.out)
  have HR5 := Lib.hid hR5
  have c0 : w5.cell? ⟨g4, 0, none⟩ = some (.int .u8 (z 4)) := (HX5.out.cell 0).trans ((pdC_kd _).trans (by rw [HK.out]))
  have hg45 : g4 < w5.heap.size := HX5.out.lt
  clear hR5
  go_wp2_with fail
  refine HSp.out.mono ?_
  rintro e w6 (⟨_, v6, L6, rfl, ho6, hi6, hb6⟩ | ⟨h, _⟩)
  rotate_left
  · exact absurd (by have := HNE.out; rw [HHH.out] at this; exact this) h
  obtain ⟨A6, c6, rfl, hmc, hmx, hA6, _⟩ := ho6.shape
  have HO6 := Lib.hid ho6
  have HI6 := Lib.hid hi6
  have HA6 := Lib.hid hA6
  have HMX := Lib.hid hmx
  have HG6 := Lib.hid (HG5.out.below hb6 HG5.out.lt)
  have HX6 := Lib.hid (HX5.out.below hb6 HX5.out.lt)
  have HB6 := Lib.hid (HB5.out.trans (hb6.mono HB5.out.size))
  have HR6 := Lib.hid (HR5.out.below hb6 HR5.out.1)
  have c0' : w6.cell? ⟨g4, 0, none⟩ = some (.int .u8 (z 4)) := (HX6.out.cell 0).trans ((pdC_kd _).trans (by rw [HK.out]))
  have HST := Lib.hid (isState_any (z 4) w6)
  clear ho6 hi6 hb6 hA6 hmx c0
  rw [show decide (cls (z 4) = 2) = false by rw [HQ.out]; exact decide_eq_false HQ2.out] at HST
  go_wp2_with fail
  refine HST.out.mono ?_
  rintro e w7 ⟨rfl, rfl⟩
  go_wp2_with (first
    | (refine wpList_st rfl 37 (.tmp 41) (.tmp 40) rfl g4 46 rfl (.slice A6 m c6) #[.slice A6 m c6] rfl rfl (by kernel_rfl) (by kernel_rfl) HX6.out (Nat.le_of_ble_eq_true rfl) (C' := pdC (withT (rdP q z) A6 m c6)) (by kernel_rfl) ?_; intro w8 hst8; refine Hid.out ?_))
  refine Lib.hid ?_
  have HX8 : Hid (PdT 127 w8 g4 (withT (rdP q z) A6 m c6)) := Lib.hid hst8.1
  have HG8 : Hid (PdT 127 w8 g pd0) := Lib.hid (HG6.out.far hst8 (by omega))
  have HB8 : Hid (Below w.heap.size w w8) := Lib.hid (HB6.out.trans (hst8.2.1 _ (by rw [HGG.out]; omega)))
  have HO8 := Lib.hid (HO6.out.far hst8 hg45)
  clear hst8 c0'
  go_wp2_with (first
    | (refine wpList_load_mid rfl 127 (.tmp 4) rfl g4 0 rfl (pdC (withT (rdP q z) A6 m c6)).toList _ HX8.out.all Tryz.underlying127 rfl info_pdP ?_)
    | (refine wpList_st rfl 127 (.tmp 2) (.tmp 42) rfl g 0 rfl (.agg (pdC (withT (rdP q z) A6 m c6))) (pdC (withT (rdP q z) A6 m c6)) rfl rfl info_pdP (pdC_one _) HG8.out (Nat.le_of_ble_eq_true rfl) (pd_all _ _) ?_; intro w9 hst9; refine Hid.out ?_))
  refine Lib.hid ?_
  have HG9 : Hid (PdT 127 w9 g (withT (rdP q z) A6 m c6)) := Lib.hid hst9.1
  have HB9 : Hid (Below w.heap.size w w9) := Lib.hid (HB8.out.trans (hst9.2.1 _ (by rw [HGG.out]; exact Nat.le_refl _)))
  have HO9 := Lib.hid (HO8.out.far hst9 (by omega))
  have HO9' : Hid (OwnT w9 w.heap.size (.slice A6 m c6) m L6) := Lib.hid ⟨ownsRow_mono HO9.out.1 HB5.out.size, fun j hj => (HO9.out.2 j hj).mono HB5.out.size⟩
  clear hst9
  go_wp2_with fail
  exact bodyPost_ret (results_rd (u := 3) rfl _ w9 g _ (.int .i64 0) rfl HG9.out rfl) rfl ⟨A6, c6, L6, rfl, HO9'.out, HI6.out, HA6.out, hmc, HMX.out, HB9.out⟩
end Go.Proofs.YtkiaijmhoikdiaaGreat

/- The document's Plain: a packet with the fields alone that its kind has. Each theorem states its conditions. -/
namespace Go.Proofs.YtkiaijmhoikdiaaGreat
open Go.RowKit
set_option linter.unusedVariables false

theorem alloc_R' (o : Oper) (e : Operand → Value) (ho : o.op = .alloc 39) (W W' : World) (n : Nat) (hn : W.heap.size = n) (hW : W.alloc (.cells (pdC pd0) 39) = W') : (execOp e o).run Tryz.prog W = .ok (.value (.pointer (some ⟨n, 0, none⟩))) W' := by
  subst hn hW
  exact alloc_R o e ho W
theorem hello_yes (k : Int) (h : k = 15 ∨ k = 16 ∨ k = 17) (w : World) : Calls Tryz.prog 55 #[.int .u8 k] w fun e w' => e = .returned (.bool true) ∧ w = w' := by
  rcases h with rfl | rfl | rfl <;>
  · go_enter Tryz.func55, Tryz.ntmps55
    go_wp2
    go_ret
    exact ⟨rfl, rfl⟩
theorem hello_no (k : Int) (h : ¬ (k = 15 ∨ k = 16 ∨ k = 17)) (w : World) : Calls Tryz.prog 55 #[.int .u8 k] w fun e w' => e = .returned (.bool false) ∧ w = w' := by
  have h1 : (k == 15) = false := by simp; omega
  have h2 : (k == 16) = false := by simp; omega
  have h3 : (k == 17) = false := by simp; omega
  clear h
  go_enter Tryz.func55, Tryz.ntmps55
  go_wp2
  go_ret
  exact ⟨rfl, rfl⟩
theorem lsp_yes (k : Int) (h : k = 18 ∨ k = 20) (w : World) : Calls Tryz.prog 48 #[.int .u8 k] w fun e w' => e = .returned (.bool true) ∧ w = w' := by
  rcases h with rfl | rfl <;>
  · go_enter Tryz.func48, Tryz.ntmps48
    go_wp2
    go_ret
    exact ⟨rfl, rfl⟩
theorem lsp_no (k : Int) (h : ¬ (k = 18 ∨ k = 20)) (w : World) : Calls Tryz.prog 48 #[.int .u8 k] w fun e w' => e = .returned (.bool false) ∧ w = w' := by
  have h1 : (k == 18) = false := by simp; omega
  have h2 : (k == 20) = false := by simp; omega
  clear h
  go_enter Tryz.func48, Tryz.ntmps48
  go_wp2
  go_ret
  exact ⟨rfl, rfl⟩
def pl0 (x : Pd) : Pd := ⟨x.kd, x.ci, cutSys x.so, x.ho, x.nu, 0, z0, 0, z0, 0, 0, z0, z0, x.A, x.m, x.c⟩
def pl1 (x : Pd) : Pd := ⟨x.kd, x.ci, cutSys x.so, x.ho, 0, x.pr, x.la, 0, z0, 0, 0, z0, z0, x.A, x.m, x.c⟩
def pl2 (x : Pd) : Pd := ⟨x.kd, 0, z0, 0, 0, 0, z0, x.li, x.id, x.sq, x.bi, z0, z0, x.A, x.m, x.c⟩
def pl3 (x : Pd) : Pd := ⟨x.kd, 0, x.so, 0, 0, 0, z0, 0, z0, 0, 0, x.st, x.en, x.A, x.m, x.c⟩
def pl4 (x : Pd) : Pd := ⟨x.kd, 0, x.so, 0, 0, 0, z0, 0, z0, 0, 0, z0, z0, x.A, x.m, x.c⟩
end Go.Proofs.YtkiaijmhoikdiaaGreat

/- The document's Twin of a list. Each theorem states its conditions. -/
namespace Go.Proofs.YtkiaijmhoikdiaaGreat
open Go.RowKit
set_option linter.unusedVariables false

end Go.Proofs.YtkiaijmhoikdiaaGreat

/- Lists as bytes and back. Each theorem states its conditions. -/
namespace Go.Proofs.YtkiaijmhoikdiaaGreat
open Go.RowKit
set_option linter.unusedVariables false

theorem J_old (L : Nat → It) (k m : Nat) (h : k ≤ m) : ∀ j, j < sz L k → J L m j = J L k j := by
  induction m with
  | zero => obtain rfl : k = 0 := by omega
            intro j _; rfl
  | succ m ih =>
    by_cases e : k = m + 1
    · subst e; intro j _; rfl
    · intro j hj
      have := sz_mono L k m (by omega)
      simp only [J]
      unfold cat
      rw [if_pos (by omega), if_pos (by omega)]
      exact ih (by omega) j hj
theorem J_item (L : Nat → It) (k m : Nat) (h : k < m) : J L m (sz L k) = (L k).ty ∧ J L m (sz L k + 1) = (L k).n ∧ ∀ i, i < (L k).n → J L m (sz L k + 2 + i) = (L k).z i := by
  have hs : sz L (k + 1) = sz L k + (2 + (L k).n) := rfl
  refine ⟨?_, ?_, fun i hi => ?_⟩
  · rw [J_old L (k + 1) m (by omega) _ (by omega)]
    simp [J, cat, two]
  · rw [J_old L (k + 1) m (by omega) _ (by omega)]
    simp [J, cat, two]
    omega
  · rw [J_old L (k + 1) m (by omega) _ (by omega)]
    simp only [J]
    unfold cat
    rw [if_neg (by omega)]
    congr 1; omega
theorem J_pos (L : Nat → It) (m : Nat) : ∀ k, k ≤ m → pos (J L m) k = sz L k := by
  intro k hk
  induction k with
  | zero => rfl
  | succ k ih =>
    obtain ⟨_, h2, _⟩ := J_item L k m (by omega)
    simp only [pos, sz, ih (by omega), h2]
    omega
end Go.Proofs.YtkiaijmhoikdiaaGreat

/- Check bytes that are laid are right there; a byte that is turned is seen. Plain facts, and what two stores leave. Each theorem states its conditions. -/
namespace Go.Proofs.YtkiaijmhoikdiaaGreat
open Go.RowKit
set_option linter.unusedVariables false

theorem sumA_congr (z z' : Nat → Int) (s k : Nat) (h : ∀ j, j < k → j ≠ s → j ≠ s + 1 → z j = z' j) : sumA z s k = sumA z' s k := by
  induction k with
  | zero => rfl
  | succ k ih =>
    have := ih fun j hj => h j (by omega)
    by_cases hk : k = s ∨ k = s + 1
    · rw [sumA_skip _ _ _ hk, sumA_skip _ _ _ hk, this]
    · rw [sumA_take _ _ _ hk, sumA_take _ _ _ hk, this, h k (by omega) (by omega) (by omega)]
theorem sumB_congr (z z' : Nat → Int) (s n k : Nat) (h : ∀ j, j < k → j ≠ s → j ≠ s + 1 → z j = z' j) : sumB z s n k = sumB z' s n k := by
  induction k with
  | zero => rfl
  | succ k ih =>
    have := ih fun j hj => h j (by omega)
    by_cases hk : k = s ∨ k = s + 1
    · rw [sumB_skip _ _ _ _ hk, sumB_skip _ _ _ _ hk, this]
    · rw [sumB_take _ _ _ _ hk, sumB_take _ _ _ _ hk, this, h k (by omega) (by omega) (by omega)]
def laidZ (z : Nat → Int) (s n : Nat) : Nat → Int := upd (upd z s (chkX z s n)) (s + 1) (chkY z s n)
theorem laidZ_far (z : Nat → Int) (s n j : Nat) (h1 : j ≠ s) (h2 : j ≠ s + 1) : laidZ z s n j = z j := by
  unfold laidZ; rw [upd_other _ _ _ _ h2, upd_other _ _ _ _ h1]
theorem laidZ_s (z : Nat → Int) (s n : Nat) : laidZ z s n s = chkX z s n := by
  unfold laidZ; rw [upd_other _ _ _ _ (by omega), upd_same]
theorem laidZ_s1 (z : Nat → Int) (s n : Nat) : laidZ z s n (s + 1) = chkY z s n := by
  unfold laidZ; rw [upd_same]
theorem chkX_congr (z z' : Nat → Int) (s n : Nat) (h : ∀ j, j < n → j ≠ s → j ≠ s + 1 → z j = z' j) : chkX z s n = chkX z' s n := by
  unfold chkX; rw [sumA_congr z z' s n h, sumB_congr z z' s n n h]
theorem chkY_congr (z z' : Nat → Int) (s n : Nat) (h : ∀ j, j < n → j ≠ s → j ≠ s + 1 → z j = z' j) : chkY z s n = chkY z' s n := by
  unfold chkY; rw [sumA_congr z z' s n h, chkX_congr z z' s n h]
theorem chkX_laid (z : Nat → Int) (s n : Nat) : chkX (laidZ z s n) s n = chkX z s n := chkX_congr _ _ s n fun j _ h1 h2 => laidZ_far z s n j h1 h2
theorem chkY_laid (z : Nat → Int) (s n : Nat) : chkY (laidZ z s n) s n = chkY z s n := chkY_congr _ _ s n fun j _ h1 h2 => laidZ_far z s n j h1 h2
theorem right_laid (z : Nat → Int) (s n : Nat) : rightB (laidZ z s n) s n = true := by
  unfold rightB; rw [chkX_laid, chkY_laid, laidZ_s, laidZ_s1]; simp

section
variable {w w0 : World} {g n cap s : Nat} {z : Nat → Int}
theorem Own8.at_ (h : Own8 w g n cap z) (j : Nat) (hj : j < n) : w.cell? ⟨g, j, none⟩ = some (.int .u8 (z j)) := by
  have := h.row.2.1 j hj
  rwa [Nat.zero_add] at this
end
end Go.Proofs.YtkiaijmhoikdiaaGreat

/- Cells that came in as an argument. Each theorem states its conditions. -/
namespace Go.Proofs.YtkiaijmhoikdiaaGreat
open Go.RowKit Go.ChangeShapes Go.WideShapes
set_option linter.unusedVariables false

theorem dnumZ_congr (z z' : Nat → Int) (k : Nat) (h : ∀ j, j < k → z j = z' j) : numZ z 0 k = numZ z' 0 k := by
  induction k with
  | zero => rfl
  | succ k ih =>
    show numZ z 0 k * 256 + z (0 + k) = numZ z' 0 k * 256 + z' (0 + k)
    rw [ih fun j hj => h j (by omega), Nat.zero_add, h k (by omega)]
section
variable {H : Type} {enc : TypeId × Value → H} {w : World} {base : Nat} {spare : Nat → Bool} {held : Bool} {m : Nat} {cs : List Value} {x : DataW H × List MemPlace}
theorem cell_u8 {k : Nat} {o : Option (DataW H × List MemPlace)} (h : DataW.trod enc Tryz.prog w base spare held m 5 ((cs.drop k).take 1) = o) (ho : o.isSome = true) : ∃ a : Int, cs[k]? = some (.int .u8 a) ∧ 0 ≤ a ∧ a ≤ 255 := by
  obtain ⟨y, rfl⟩ := Option.isSome_iff_exists.1 ho
  obtain ⟨a, ea, _, wa⟩ := DataW.trod_int Tryz.underlying5 h
  refine ⟨a, ?_, wf_u8 wa⟩
  have := congrArg (·[0]?) ea
  simpa [List.getElem?_take, List.getElem?_drop] using this
theorem bytes_run {n e : Nat} {t : TypeId} (ht : Tryz.prog.underlying t = some (.array n 5)) {o : Option (DataW H × List MemPlace)} (h : DataW.trod enc Tryz.prog w base spare held m t ((cs.drop e).take n) = o) (ho : o.isSome = true) :
    ∃ z : Nat → Int, (∀ i, i < n → cs[e + i]? = some (.int .u8 (z i))) ∧ ∀ i, 0 ≤ z i ∧ z i ≤ 255 := by
  obtain ⟨y, rfl⟩ := Option.isSome_iff_exists.1 ho
  have hc1 : Tryz.prog.cellsOf 5 = 1 := by kernel_rfl
  obtain ⟨ys, m2, _, _, _, hn2, hel2⟩ := DataW.trod_array ht h
  have one : ∀ i, i < n → ∃ a : Int, cs[e + i]? = some (.int .u8 a) ∧ 0 ≤ a ∧ a ≤ 255 := by
    intro i hi
    have he := hel2 i hi
    rw [hc1, Nat.mul_one] at he
    obtain ⟨a, ha, hb⟩ := cell_u8 he (by rw [List.getElem?_eq_getElem (by omega)]; rfl)
    refine ⟨a, ?_, hb⟩
    rwa [List.getElem?_take, if_pos hi, List.getElem?_drop] at ha
  refine ⟨fun i => if h : i < n then (one i h).choose else 0, fun i hi => ?_, fun i => ?_⟩
  · simp only [dif_pos hi]
    exact (one i hi).choose_spec.1
  · by_cases h : i < n
    · simp only [dif_pos h]
      exact (one i h).choose_spec.2
    · simp only [dif_neg h]
      exact ⟨Int.le_refl 0, by decide⟩
end
end Go.Proofs.YtkiaijmhoikdiaaGreat

/- The bytes of a packet, read again. Each theorem states its conditions. -/
namespace Go.Proofs.YtkiaijmhoikdiaaGreat
open Go.RowKit
set_option linter.unusedVariables false

theorem accZ_old (p : Pd) (W q k k' : Nat) (h : k ≤ k') : ∀ j, j < accN q k → accZ p W q k' j = accZ p W q k j := by
  induction k' with
  | zero => obtain rfl : k = 0 := by omega
            intro j _; rfl
  | succ k' ih =>
    by_cases e : k = k' + 1
    · subst e; intro j _; rfl
    · intro j hj
      have := accN_mono q k k' (by omega)
      simp only [accZ]
      unfold cat
      rw [if_pos (by omega)]
      exact ih (by omega) j hj
theorem acc_at (p : Pd) (W q i j : Nat) (hi : i < (flC q).length) (hj : j < fsz (fAt q i)) : accZ p W q (flC q).length (accN q i + j) = fZ p W (fAt q i) j := by
  rw [accZ_old p W q (i + 1) _ (by omega) _ (by simp only [accN]; omega)]
  simp only [accZ]
  unfold cat
  rw [if_neg (by omega), Nat.add_sub_cancel_left]
theorem wZ_lo (p : Pd) (q : Nat) (L : Nat → It) (j : Nat) (h : j < hdN q) : wZ p q L j = accZ p (hdN q + sz L p.m) q (flC q).length j := by
  unfold wZ cat; rw [if_pos h]
theorem wZ_hi (p : Pd) (q : Nat) (L : Nat → It) (j : Nat) : wZ p q L (hdN q + j) = J L p.m j := by
  unfold wZ cat; rw [if_neg (by omega), Nat.add_sub_cancel_left]
theorem pdZ_far (p : Pd) (q : Nat) (L : Nat → It) (j : Nat) (h : q = 2 → j ≠ 24 ∧ j ≠ 25) : pdZ p q L j = wZ p q L j := by
  unfold pdZ
  by_cases e : q = 2
  · rw [if_pos e]
    unfold sgZ
    rw [if_neg (h e).1, if_neg (h e).2]
  · rw [if_neg e]
theorem pd_field (p : Pd) (q : Nat) (L : Nat → It) (i j : Nat) (hi : i < (flC q).length) (hj : j < fsz (fAt q i)) (h11 : fAt q i ≠ 11) : pdZ p q L (accN q i + j) = fZ p (hdN q + sz L p.m) (fAt q i) j := by
  have hh := accN_hd q i hi
  rw [pdZ_far, wZ_lo _ _ _ _ (by omega), acc_at _ _ _ _ _ hi hj]
  intro e
  subst e
  have hi' : i < 6 := hi
  rcases (by omega : i = 0 ∨ i = 1 ∨ i = 2 ∨ i = 3 ∨ i = 4 ∨ i = 5) with rfl | rfl | rfl | rfl | rfl | rfl
  · have : j < 2 := hj
    show 8 + j ≠ 24 ∧ 8 + j ≠ 25; omega
  · have : j < 2 := hj
    show 10 + j ≠ 24 ∧ 10 + j ≠ 25; omega
  · have : j < 8 := hj
    show 12 + j ≠ 24 ∧ 12 + j ≠ 25; omega
  · have : j < 4 := hj
    show 20 + j ≠ 24 ∧ 20 + j ≠ 25; omega
  · exact absurd rfl h11
  · have : j < 1 := hj
    show 26 + j ≠ 24 ∧ 26 + j ≠ 25; omega
theorem pd_head (p : Pd) (q : Nat) (L : Nat → It) (hq : q ≤ 4) (j : Nat) (hj : j < 8) : pdZ p q L j = headZ p.kd (hdN q) j := by
  have hh := hdN_bd q hq
  rw [pdZ_far _ _ _ _ (fun _ => by omega), wZ_lo _ _ _ _ (by omega), accZ_old p _ q 0 _ (Nat.zero_le _) j hj]
  rfl
theorem pd_tail (p : Pd) (q : Nat) (L : Nat → It) (hq : q ≤ 4) (j : Nat) : pdZ p q L (hdN q + j) = J L p.m j := by
  rw [pdZ_far, wZ_hi]
  intro e
  subst e
  show 27 + j ≠ 24 ∧ 27 + j ≠ 25
  omega
theorem told_pd (p : Pd) (q : Nat) (L : Nat → It) (hn : hdN q + sz L p.m ≤ 1492) (i : Nat) (hi : i < (flC q).length) (h4 : fAt q i = 4) : toldN q (pdZ p q L) i = hdN q + sz L p.m := by
  unfold toldN
  rw [dnumZ_congr _ (putZ (hdN q + sz L p.m) 2) 2 (fun j hj => by rw [pd_field p q L i j hi (by rw [h4]; exact hj) (by rw [h4]; decide), h4]; rfl), num_put, Int.toNat_natCast]
  exact Nat.mod_eq_of_lt (by omega)
theorem form_pd (p : Pd) (L : Nat → It) (hq : cls p.kd ≤ 4) (hn : hdN (cls p.kd) + sz L p.m ≤ 1492) (hk : by1 p.kd) (hzb : ∀ j, 0 ≤ pdZ p (cls p.kd) L j ∧ pdZ p (cls p.kd) L j ≤ 255) : FormOk (pdZ p (cls p.kd) L) (hdN (cls p.kd) + sz L p.m) := by
  have hh := hdN_bd _ hq
  have h4 : pdZ p (cls p.kd) L 4 = p.kd := pd_head p _ L hq 4 (by omega)
  refine ⟨by omega, by rw [h4]; exact hq, by rw [h4]; omega, ?_, ?_⟩
  · rw [h4, eqB_iff hzb (headZ_bd _ _ hk (by omega))]
    exact fun j hj => pd_head p _ L hq j hj
  · rw [h4]
    exact fun i hi he => told_pd p _ L hn i hi he
def PdEq (p p' : Pd) : Prop := (p.kd = p'.kd ∧ p.ci = p'.ci ∧ (∀ j, j < 7 → p.so j = p'.so j) ∧ p.ho = p'.ho ∧ p.nu = p'.nu ∧ p.pr = p'.pr ∧ (∀ j, j < 7 → p.la j = p'.la j)) ∧
  p.li = p'.li ∧ (∀ j, j < 8 → p.id j = p'.id j) ∧ p.sq = p'.sq ∧ p.bi = p'.bi ∧ (∀ j, j < 8 → p.st j = p'.st j) ∧ ∀ j, j < 8 → p.en j = p'.en j
theorem num_field (p : Pd) (q : Nat) (L : Nat → It) (i k N : Nat) (hi : i < (flC q).length) (hk : fsz (fAt q i) = k) (h11 : fAt q i ≠ 11) (hN : fZ p (hdN q + sz L p.m) (fAt q i) = putZ N k) (hf : N < 256 ^ k) : (numZ (fun j => pdZ p q L (accN q i + j)) 0 k).toNat = N := by
  rw [dnumZ_congr _ (putZ N k) k (fun j hj => by rw [pd_field p q L i j hi (by omega) h11, hN]), num_put, Int.toNat_natCast]
  exact Nat.mod_eq_of_lt hf
theorem fitB_eq {p p' : Pd} (f : Nat) (h : p.ci = p'.ci ∧ p.ho = p'.ho ∧ p.li = p'.li ∧ p.pr = p'.pr) : fitB p f = fitB p' f := by
  obtain ⟨h1, h2, h3, h4⟩ := h
  unfold fitB
  split <;> simp only [h1, h2, h3, h4]
theorem rd_eq0 (p : Pd) (L : Nat → It) (hp : PdOk p) (hk : cls p.kd = 0) (hft : fitP p 0 = true) : PdEq (rdP 0 (pdZ p 0 L)) (pl0 p) := by
  have hfit := fun i hi => fitP_at hft i hi
  have e_kd : (rdP 0 (pdZ p 0 L)).kd = p.kd := (rdP_kd _ _).trans (pd_head p 0 L (by decide) 4 (by omega))
  have e_ci : (rdP 0 (pdZ p 0 L)).ci = p.ci := pd_field p 0 L 0 0 (by decide) (by decide) (by decide)
  have e_so : ∀ j, j < 7 → (rdP 0 (pdZ p 0 L)).so j = cutSys p.so j := fun j hj => by
    show mixS (fun j => pdZ p 0 L (accN 0 1 + j)) z0 j = cutSys p.so j
    unfold mixS
    by_cases h6 : j < 6
    · rw [if_pos h6]
      exact pd_field p 0 L 1 j (by decide) h6 (by decide)
    · rw [if_neg h6]
      unfold cutSys
      rw [if_neg h6]
      rfl
  have e_ho : (rdP 0 (pdZ p 0 L)).ho = p.ho := by
    have hb := of_decide_eq_true (hfit 2 (by decide))
    have h2 : 0 ≤ p.ho ∧ p.ho ≤ 65535 := hb
    show (((numZ (fun j => pdZ p 0 L (accN 0 2 + j)) 0 2).toNat : Nat) : Int) = p.ho
    rw [num_field p 0 L 2 2 p.ho.toNat (by decide) rfl (by decide) rfl (by omega)]
    omega
  have e_nu : (rdP 0 (pdZ p 0 L)).nu = p.nu := pd_field p 0 L 4 0 (by decide) (by decide) (by decide)
  exact ⟨⟨e_kd, e_ci, e_so, e_ho, e_nu, rfl, fun _ _ => rfl⟩, rfl, fun _ _ => rfl, rfl, rfl, fun _ _ => rfl, fun _ _ => rfl⟩
theorem rd_eq1 (p : Pd) (L : Nat → It) (hp : PdOk p) (hk : cls p.kd = 1) (hft : fitP p 1 = true) : PdEq (rdP 1 (pdZ p 1 L)) (pl1 p) := by
  have hfit := fun i hi => fitP_at hft i hi
  have e_kd : (rdP 1 (pdZ p 1 L)).kd = p.kd := (rdP_kd _ _).trans (pd_head p 1 L (by decide) 4 (by omega))
  have e_ci : (rdP 1 (pdZ p 1 L)).ci = p.ci := pd_field p 1 L 0 0 (by decide) (by decide) (by decide)
  have e_so : ∀ j, j < 7 → (rdP 1 (pdZ p 1 L)).so j = cutSys p.so j := fun j hj => by
    show mixS (fun j => pdZ p 1 L (accN 1 1 + j)) z0 j = cutSys p.so j
    unfold mixS
    by_cases h6 : j < 6
    · rw [if_pos h6]
      exact pd_field p 1 L 1 j (by decide) h6 (by decide)
    · rw [if_neg h6]
      unfold cutSys
      rw [if_neg h6]
      rfl
  have e_ho : (rdP 1 (pdZ p 1 L)).ho = p.ho := by
    have hb := of_decide_eq_true (hfit 2 (by decide))
    have h2 : 0 ≤ p.ho ∧ p.ho ≤ 65535 := hb
    show (((numZ (fun j => pdZ p 1 L (accN 1 2 + j)) 0 2).toNat : Nat) : Int) = p.ho
    rw [num_field p 1 L 2 2 p.ho.toNat (by decide) rfl (by decide) rfl (by omega)]
    omega
  have e_pr : (rdP 1 (pdZ p 1 L)).pr = p.pr := pd_field p 1 L 4 0 (by decide) (by decide) (by decide)
  have e_la : ∀ j, j < 7 → (rdP 1 (pdZ p 1 L)).la j = p.la j := fun j hj => pd_field p 1 L 5 j (by decide) hj (by decide)
  exact ⟨⟨e_kd, e_ci, e_so, e_ho, rfl, e_pr, e_la⟩, rfl, fun _ _ => rfl, rfl, rfl, fun _ _ => rfl, fun _ _ => rfl⟩
theorem rd_eq2 (p : Pd) (L : Nat → It) (hp : PdOk p) (hk : cls p.kd = 2) (hft : fitP p 2 = true) : PdEq (rdP 2 (pdZ p 2 L)) (pl2 p) := by
  have hfit := fun i hi => fitP_at hft i hi
  have e_kd : (rdP 2 (pdZ p 2 L)).kd = p.kd := (rdP_kd _ _).trans (pd_head p 2 L (by decide) 4 (by omega))
  have e_li : (rdP 2 (pdZ p 2 L)).li = p.li := by
    have hb := of_decide_eq_true (hfit 1 (by decide))
    have h2 : 0 ≤ p.li ∧ p.li ≤ 65535 := hb
    show (((numZ (fun j => pdZ p 2 L (accN 2 1 + j)) 0 2).toNat : Nat) : Int) = p.li
    rw [num_field p 2 L 1 2 p.li.toNat (by decide) rfl (by decide) rfl (by omega)]
    omega
  have e_id : ∀ j, j < 8 → (rdP 2 (pdZ p 2 L)).id j = p.id j := fun j hj => pd_field p 2 L 2 j (by decide) hj (by decide)
  have e_sq : (rdP 2 (pdZ p 2 L)).sq = p.sq := by
    show (numZ (fun j => pdZ p 2 L (accN 2 3 + j)) 0 4).toNat = p.sq
    exact num_field p 2 L 3 4 p.sq (by decide) rfl (by decide) rfl (by have := hp.2.2.2.1; omega)
  have e_bi : (rdP 2 (pdZ p 2 L)).bi = p.bi := pd_field p 2 L 5 0 (by decide) (by decide) (by decide)
  exact ⟨⟨e_kd, rfl, fun _ _ => rfl, rfl, rfl, rfl, fun _ _ => rfl⟩, e_li, e_id, e_sq, e_bi, fun _ _ => rfl, fun _ _ => rfl⟩
theorem rd_eq3 (p : Pd) (L : Nat → It) (hp : PdOk p) (hk : cls p.kd = 3) (hft : fitP p 3 = true) : PdEq (rdP 3 (pdZ p 3 L)) (pl3 p) := by
  have hfit := fun i hi => fitP_at hft i hi
  have e_kd : (rdP 3 (pdZ p 3 L)).kd = p.kd := (rdP_kd _ _).trans (pd_head p 3 L (by decide) 4 (by omega))
  have e_so : ∀ j, j < 7 → (rdP 3 (pdZ p 3 L)).so j = p.so j := fun j hj => pd_field p 3 L 1 j (by decide) hj (by decide)
  have e_st : ∀ j, j < 8 → (rdP 3 (pdZ p 3 L)).st j = p.st j := fun j hj => pd_field p 3 L 2 j (by decide) hj (by decide)
  have e_en : ∀ j, j < 8 → (rdP 3 (pdZ p 3 L)).en j = p.en j := fun j hj => pd_field p 3 L 3 j (by decide) hj (by decide)
  exact ⟨⟨e_kd, rfl, e_so, rfl, rfl, rfl, fun _ _ => rfl⟩, rfl, fun _ _ => rfl, rfl, rfl, e_st, e_en⟩
theorem rd_eq4 (p : Pd) (L : Nat → It) (hp : PdOk p) (hk : cls p.kd = 4) (hft : fitP p 4 = true) : PdEq (rdP 4 (pdZ p 4 L)) (pl4 p) := by
  have hfit := fun i hi => fitP_at hft i hi
  have e_kd : (rdP 4 (pdZ p 4 L)).kd = p.kd := (rdP_kd _ _).trans (pd_head p 4 L (by decide) 4 (by omega))
  have e_so : ∀ j, j < 7 → (rdP 4 (pdZ p 4 L)).so j = p.so j := fun j hj => pd_field p 4 L 1 j (by decide) hj (by decide)
  exact ⟨⟨e_kd, rfl, e_so, rfl, rfl, rfl, fun _ _ => rfl⟩, rfl, fun _ _ => rfl, rfl, rfl, fun _ _ => rfl, fun _ _ => rfl⟩
def plQ (q : Nat) (p : Pd) : Pd := if q = 0 then pl0 p else if q = 1 then pl1 p else if q = 2 then pl2 p else if q = 3 then pl3 p else pl4 p
theorem rd_eq (p : Pd) (L : Nat → It) (hp : PdOk p) (q : Nat) (hk : cls p.kd = q) (hq : q ≤ 4) (hft : fitP p q = true) : PdEq (rdP q (pdZ p q L)) (plQ q p) := by
  rcases (by omega : q = 0 ∨ q = 1 ∨ q = 2 ∨ q = 3 ∨ q = 4) with rfl | rfl | rfl | rfl | rfl
  · exact rd_eq0 p L hp hk hft
  · exact rd_eq1 p L hp hk hft
  · exact rd_eq2 p L hp hk hft
  · exact rd_eq3 p L hp hk hft
  · exact rd_eq4 p L hp hk hft
theorem fit_plQ (p : Pd) (q : Nat) (hq : q ≤ 4) : fitP (plQ q p) q = fitP p q := by
  refine fitsTo_congr _ fun i hi => ?_
  rcases (by omega : q = 0 ∨ q = 1 ∨ q = 2 ∨ q = 3 ∨ q = 4) with rfl | rfl | rfl | rfl | rfl
  · have hi : i < 5 := hi
    rcases (by omega : i = 0 ∨ i = 1 ∨ i = 2 ∨ i = 3 ∨ i = 4) with rfl | rfl | rfl | rfl | rfl <;> rfl
  · have hi : i < 6 := hi
    rcases (by omega : i = 0 ∨ i = 1 ∨ i = 2 ∨ i = 3 ∨ i = 4 ∨ i = 5) with rfl | rfl | rfl | rfl | rfl | rfl <;> rfl
  · have hi : i < 6 := hi
    rcases (by omega : i = 0 ∨ i = 1 ∨ i = 2 ∨ i = 3 ∨ i = 4 ∨ i = 5) with rfl | rfl | rfl | rfl | rfl | rfl <;> rfl
  · have hi : i < 4 := hi
    rcases (by omega : i = 0 ∨ i = 1 ∨ i = 2 ∨ i = 3) with rfl | rfl | rfl | rfl <;> rfl
  · have hi : i < 2 := hi
    rcases (by omega : i = 0 ∨ i = 1) with rfl | rfl <;> rfl
theorem fit_rd (p : Pd) (L : Nat → It) (hp : PdOk p) (q : Nat) (hk : cls p.kd = q) (hq : q ≤ 4) (hft : fitP p q = true) : fitP (rdP q (pdZ p q L)) q = true := by
  have h := rd_eq p L hp q hk hq hft
  rw [← hft, ← fit_plQ p q hq]
  exact fitsTo_congr _ fun i _ => fitB_eq _ ⟨h.1.2.1, h.1.2.2.2.1, h.2.1, h.1.2.2.2.2.2.1⟩
theorem tl_pd (p : Pd) (q : Nat) (L : Nat → It) (hq : q ≤ 4) : tlZ q (pdZ p q L) = J L p.m := by
  funext j
  exact pd_tail p q L hq j
theorem ends_pd (p : Pd) (q : Nat) (L : Nat → It) (hq : q ≤ 4) : pos (tlZ q (pdZ p q L)) p.m = sz L p.m := by
  rw [tl_pd p q L hq]
  exact J_pos L p.m p.m (Nat.le_refl _)
theorem right_sg (z : Nat → Int) (n : Nat) (hn : 27 ≤ n) : rightB (fun j => sgZ z n (12 + j)) 12 (n - 12) = true := by
  have e : (fun j => sgZ z n (12 + j)) = laidZ (fun j => z (12 + j)) 12 (n - 12) := by
    funext j
    unfold sgZ laidZ upd
    by_cases e13 : j = 13
    · subst e13; simp
    · by_cases e12 : j = 12
      · subst e12; simp
      · rw [if_neg (by omega), if_neg (by omega), if_neg e13, if_neg e12]
  rw [e]
  exact right_laid _ _ _
theorem right_pd (p : Pd) (q : Nat) (L : Nat → It) (h2 : q = 2) : rightB (fun j => pdZ p q L (12 + j)) 12 (hdN q + sz L p.m - 12) = true := by
  have e : pdZ p q L = sgZ (wZ p q L) (hdN q + sz L p.m) := by unfold pdZ; rw [if_pos h2]
  rw [e]
  exact right_sg _ _ (by subst h2; show 27 ≤ 27 + _; omega)
end Go.Proofs.YtkiaijmhoikdiaaGreat

/- pdu.Read, all ways. Each theorem states its conditions. -/
namespace Go.Proofs.YtkiaijmhoikdiaaGreat
open Go.RowKit
set_option linter.unusedVariables false

def GoodZ (z : Nat → Int) (n m : Nat) : Prop := FormOk z n ∧ fitP (rdP (cls (z 4)) z) (cls (z 4)) = true ∧ Ends (tlZ (cls (z 4)) z) (n - hdN (cls (z 4))) m ∧ pos (tlZ (cls (z 4)) z) m = n - hdN (cls (z 4)) ∧ (cls (z 4) = 2 → rightB (fun j => z (12 + j)) 12 (n - 12) = true)
theorem read_good (A : Option Addr) (n c : Nat) (z : Nat → Int) (w : World) (hr : Rd w A n z) (hc : n ≤ c) (hcm : c ≤ maxLen) (hn2 : n ≤ 1492) (m : Nat) (hg : GoodZ z n m) :
    Calls Tryz.prog 68 #[.slice A n c] w (RdOk w (cls (z 4)) z m) := by
  obtain ⟨h1, h2, h3, h4, h5⟩ := hg
  obtain ⟨b, off, rfl, hr2⟩ := hr.row (by have := h1.1; omega)
  by_cases e : cls (z 4) = 2
  · exact rd_state b off n c z w hr2 hc hcm hn2 _ rfl h1 h2 m h3 h4 e (h5 e)
  · exact rd_plain b off n c z w hr2 hc hcm hn2 _ rfl h1 h2 m h3 h4 e
theorem read_form (A : Option Addr) (n c : Nat) (z : Nat → Int) (w : World) (hr : Rd w A n z) (hc : n ≤ c) (hcm : c ≤ maxLen) (hn2 : n ≤ 1492) (hf : ¬ FormOk z n) :
    Calls Tryz.prog 68 #[.slice A n c] w (RdErr w 3) := by
  exact rd_formW A n c z w hr hn2 (fun W hbW => rf_fail A n c z W (hr.below hbW rfl) hc hcm hn2 hf)
theorem good_pd (p : Pd) (L : Nat → It) (hp : PdOk p) (hq : cls p.kd ≤ 4) (hft : fitP p (cls p.kd) = true) (hn : hdN (cls p.kd) + sz L p.m ≤ 1492) (hzb : ∀ j, 0 ≤ pdZ p (cls p.kd) L j ∧ pdZ p (cls p.kd) L j ≤ 255) : GoodZ (pdZ p (cls p.kd) L) (hdN (cls p.kd) + sz L p.m) p.m := by
  have h4 : pdZ p (cls p.kd) L 4 = p.kd := pd_head p _ L hq 4 (by omega)
  have hpos := ends_pd p _ L hq
  refine ⟨form_pd p L hq hn hp.1.1 hzb, ?_, ?_, ?_, ?_⟩
  · rw [h4]; exact fit_rd p L hp _ rfl hq hft
  · rw [h4]; exact ⟨by omega, .inl (by omega)⟩
  · rw [h4, hpos]; omega
  · rw [h4]; exact fun e => right_pd p _ L e
end Go.Proofs.YtkiaijmhoikdiaaGreat

/- What a store holds: an LSP's entry, its bytes, how long it has been a purge; the order of two. Each theorem states its conditions. -/
namespace Go.Proofs.YtkiaijmhoikdiaaGreat
open Go.RowKit
set_option linter.unusedVariables false

def cmp3 (a b : Int) : Int := if a < b then -1 else if b < a then 1 else 0
structure Tot {α : Type} (c : α → α → Int) : Prop where
  val : ∀ a b, c a b = -1 ∨ c a b = 0 ∨ c a b = 1
  anti : ∀ a b, c b a = - c a b
  tr : ∀ a b d, 0 ≤ c a b → 0 ≤ c b d → c a d = max (c a b) (c b d)
theorem tot_cmp3 : Tot cmp3 := by
  refine ⟨fun a b => ?_, fun a b => ?_, fun a b d h1 h2 => ?_⟩
  · unfold cmp3; (repeat' split) <;> omega
  · unfold cmp3; (repeat' split) <;> omega
  · revert h1 h2; unfold cmp3; (repeat' split) <;> omega
theorem Tot.comap {α β : Type} {c : α → α → Int} (h : Tot c) (f : β → α) : Tot (fun a b => c (f a) (f b)) :=
  ⟨fun a b => h.val _ _, fun a b => h.anti _ _, fun a b d => h.tr _ _ _⟩
def or2 (a b : Int) : Int := if a = 0 then b else a
theorem Tot.or {α : Type} {c d : α → α → Int} (hc : Tot c) (hd : Tot d) : Tot (fun a b => or2 (c a b) (d a b)) := by
  refine ⟨fun a b => ?_, fun a b => ?_, fun x y z h1 h2 => ?_⟩
  · have := hc.val a b; have := hd.val a b; unfold or2; split <;> omega
  · have := hc.anti a b; have := hd.anti a b; unfold or2; (repeat' split) <;> omega
  · have := hc.val x y; have := hc.val y z; have := hc.val x z; have := hc.tr x y z
    have := hd.val x y; have := hd.val y z; have := hd.val x z; have := hd.tr x y z
    simp only [or2] at h1 h2 ⊢
    (repeat' split at h1) <;> (repeat' split at h2) <;> (repeat' split) <;> omega
def cmpL : List Int → List Int → Int
  | [], [] => 0
  | [], _ :: _ => -1
  | _ :: _, [] => 1
  | x :: xs, y :: ys => if x < y then -1 else if y < x then 1 else cmpL xs ys
theorem cmpL_val (a : List Int) : ∀ b, cmpL a b = -1 ∨ cmpL a b = 0 ∨ cmpL a b = 1 := by
  induction a with
  | nil => intro b; cases b <;> simp [cmpL]
  | cons x xs ih =>
    intro b
    cases b with
    | nil => simp [cmpL]
    | cons y ys => have := ih ys; simp only [cmpL]; (repeat' split) <;> omega
theorem tot_cmpL : Tot cmpL := by
  refine ⟨fun a b => cmpL_val a b, fun a => ?_, fun a => ?_⟩
  · induction a with
    | nil => intro b; cases b <;> simp [cmpL]
    | cons x xs ih =>
      intro b
      cases b with
      | nil => simp [cmpL]
      | cons y ys => have := ih ys; simp only [cmpL]; (repeat' split) <;> omega
  · induction a with
    | nil =>
      intro b d
      cases b with
      | nil => cases d <;> simp [cmpL]
      | cons y ys => simp [cmpL]
    | cons x xs ih =>
      intro b d
      cases b with
      | nil =>
        intro h1 h2
        cases d with
        | nil => simp only [cmpL]; omega
        | cons z zs => simp [cmpL] at h2
      | cons y ys =>
        cases d with
        | nil =>
          intro h1 h2
          have := cmpL_val xs ys
          simp only [cmpL] at h1 h2 ⊢
          (repeat' split at h1) <;> omega
        | cons z zs =>
          intro h1 h2
          have := ih ys zs
          have := cmpL_val xs ys; have := cmpL_val ys zs
          simp only [cmpL] at h1 h2 ⊢
          (repeat' split at h1) <;> (repeat' split at h2) <;> (repeat' split) <;> omega
theorem Tot.law {α : Type} {c : α → α → Int} (h : Tot c) (a b d : α) : (c a b < 0 ∨ c b d < 0 ∨ c a d = max (c a b) (c b d)) ∧ (0 < c a b ∨ 0 < c b d ∨ c a d = min (c a b) (c b d)) := by
  have h1 := h.tr a b d
  have h2 := h.tr d b a
  have := h.anti a b; have := h.anti b d; have := h.anti a d
  omega

structure Hd where
  id : Nat
  sq : Nat
  li : Int
  su : Nat
  n : Nat
  z : Nat → Int
  pu : Int
def hdE (h : Hd) : En := ⟨dg h.id, h.sq, h.li, h.su⟩
def hdC (h : Hd) (A : Option Addr) (c : Nat) : Array Value := #[.int .u8 (dg h.id 0), .int .u8 (dg h.id 1), .int .u8 (dg h.id 2), .int .u8 (dg h.id 3), .int .u8 (dg h.id 4), .int .u8 (dg h.id 5), .int .u8 (dg h.id 6), .int .u8 (dg h.id 7), .int .u32 (h.sq : Int), .int .i64 h.li, .int .u16 (h.su : Int), .slice A h.n c, .int .i64 h.pu]
theorem enC_all (e : En) : (enC e).all (·.oneCell') = true := by kernel_rfl
theorem info_enP : (Tryz.prog.info? 58).map (·.size) = some 11 := by kernel_rfl
def idZ (z : Nat → Int) : Nat := (z 12).toNat * 72057594037927936 + (z 13).toNat * 281474976710656 + (z 14).toNat * 1099511627776 + (z 15).toNat * 4294967296 + (z 16).toNat * 16777216 + (z 17).toNat * 65536 + (z 18).toNat * 256 + (z 19).toNat
theorem idZ_both (z : Nat → Int) (hz : ∀ j, 0 ≤ z j ∧ z j ≤ 255) : IdOk (idZ z) ∧ ∀ i, i < 8 → dg (idZ z) i = z (12 + i) := by
  obtain ⟨f, hf⟩ : ∃ f : Nat → Nat, ∀ i, z i = (f i : Int) ∧ f i ≤ 255 := ⟨fun i => (z i).toNat, fun i => by have := hz i; show z i = ((z i).toNat : Int) ∧ (z i).toNat ≤ 255; omega⟩
  have a0 := hf 12; have a1 := hf 13; have a2 := hf 14; have a3 := hf 15; have a4 := hf 16; have a5 := hf 17; have a6 := hf 18; have a7 := hf 19
  have e : idZ z = f 12 * 72057594037927936 + f 13 * 281474976710656 + f 14 * 1099511627776 + f 15 * 4294967296 + f 16 * 16777216 + f 17 * 65536 + f 18 * 256 + f 19 := by
    unfold idZ
    rw [a0.1, a1.1, a2.1, a3.1, a4.1, a5.1, a6.1, a7.1]
    simp only [Int.toNat_natCast]
  rw [e]
  refine ⟨by unfold IdOk; omega, fun i hi => ?_⟩
  rcases (by omega : i = 0 ∨ i = 1 ∨ i = 2 ∨ i = 3 ∨ i = 4 ∨ i = 5 ∨ i = 6 ∨ i = 7) with rfl | rfl | rfl | rfl | rfl | rfl | rfl | rfl
  · rw [show 12 + 0 = 12 from rfl, a0.1]; simp only [dg, pw]; omega
  · rw [show 12 + 1 = 13 from rfl, a1.1]; simp only [dg, pw]; omega
  · rw [show 12 + 2 = 14 from rfl, a2.1]; simp only [dg, pw]; omega
  · rw [show 12 + 3 = 15 from rfl, a3.1]; simp only [dg, pw]; omega
  · rw [show 12 + 4 = 16 from rfl, a4.1]; simp only [dg, pw]; omega
  · rw [show 12 + 5 = 17 from rfl, a5.1]; simp only [dg, pw]; omega
  · rw [show 12 + 6 = 18 from rfl, a6.1]; simp only [dg, pw]; omega
  · rw [show 12 + 7 = 19 from rfl, a7.1]; simp only [dg, pw]; omega
theorem idZ_bd (z : Nat → Int) (hz : ∀ j, 0 ≤ z j ∧ z j ≤ 255) : IdOk (idZ z) := (idZ_both z hz).1
theorem dg_idZ (z : Nat → Int) (hz : ∀ j, 0 ≤ z j ∧ z j ≤ 255) (i : Nat) (hi : i < 8) : dg (idZ z) i = z (12 + i) := (idZ_both z hz).2 i hi
def hdZ (n : Nat) (z : Nat → Int) : Hd := ⟨idZ z, (numZ (fun j => z (20 + j)) 0 4).toNat, (((numZ (fun j => z (10 + j)) 0 2).toNat : Nat) : Int), (z 24 * 256 + z 25).toNat, n, z, 0⟩
def lstZ (z : Nat → Int) (a n : Nat) : List Int := (List.range n).map fun j => z (a + j)
def relE (a b : En) : Int := or2 (cmp3 (a.sq : Int) (b.sq : Int)) (or2 (cmp3 (if a.li = 0 then 1 else 0) (if b.li = 0 then 1 else 0)) (cmp3 (a.su : Int) (b.su : Int)))
def relH (a b : Hd) : Int := or2 (relE (hdE a) (hdE b)) (or2 (cmpL (lstZ a.z 0 10) (lstZ b.z 0 10)) (cmpL (lstZ a.z 12 (a.n - 12)) (lstZ b.z 12 (b.n - 12))))
theorem tot_relE : Tot relE := (tot_cmp3.comap (fun a : En => (a.sq : Int))).or ((tot_cmp3.comap (fun a : En => if a.li = 0 then 1 else 0)).or (tot_cmp3.comap (fun a : En => (a.su : Int))))
theorem tot_relH : Tot relH := (tot_relE.comap hdE).or ((tot_cmpL.comap (fun a : Hd => lstZ a.z 0 10)).or (tot_cmpL.comap (fun a : Hd => lstZ a.z 12 (a.n - 12))))
def HdR (w : World) (g : Nat) (h : Hd) : Prop := ∃ A c, Blk 91 w g (hdC h A c) ∧ Rd w A h.n h.z ∧ h.n ≤ c ∧ c ≤ maxLen
def RwT (w : World) (b off n : Nat) (z : Nat → Int) : Prop := Row8 w b off n z ∧ ∃ cur, w.heap[b]? = some (.cells cur 5 (0, 0))
section
variable {w w' : World} {b off n : Nat} {z : Nat → Int}
theorem RwT.lt (h : RwT w b off n z) : b < w.heap.size := h.1.1
theorem RwT.block (h : RwT w b off n z) (e : w'.heap[b]? = w.heap[b]?) : RwT w' b off n z := by
  obtain ⟨⟨h1, h2, h3⟩, cur, h4⟩ := h
  have h5 : w'.heap[b]? = some (.cells cur 5 (0, 0)) := e.trans h4
  exact ⟨⟨(Array.getElem?_eq_some_iff.1 h5).1, fun j hj => (World.cell?_of_block e).trans (h2 j hj), h3⟩, cur, h5⟩
theorem RwT.below {B : Nat} (h : RwT w b off n z) (hb : Below B w w') (hB : b < B) : RwT w' b off n z := h.block (hb.block b hB)
theorem RwT.far {c : Nat} {C : Array Value} {t : TypeId} (h : RwT w b off n z) (hs : Stored w w' c C t) (hk : b ≠ c) : RwT w' b off n z := h.block (hs.2.2 b hk)
theorem RwT.of {c : Nat} (h : Own8 w b n c z) (hn : 0 < n) : RwT w b 0 n z := by
  obtain ⟨b1, o1, e, hr⟩ := (Own8.rd h).row hn
  obtain ⟨⟨cur, h1, _⟩, _⟩ := h
  cases e
  exact ⟨hr, cur, h1⟩
end
def HdAt (w : World) (B g : Nat) (h : Hd) : Prop := B ≤ g ∧ ∃ ro oa c, Blk 91 w g (hdC h (some ⟨ro, oa, none⟩) c) ∧ RwT w ro oa h.n h.z ∧ B ≤ ro ∧ h.n ≤ c ∧ c ≤ maxLen
theorem HdAt.lt {w : World} {B g : Nat} {h : Hd} (k : HdAt w B g h) : g < w.heap.size := by obtain ⟨_, _, _, _, k, _⟩ := k; exact k.lt
theorem HdAt.below {w w' : World} {B g : Nat} {h : Hd} (k : HdAt w B g h) (hb : Below w.heap.size w w') : HdAt w' B g h := by
  obtain ⟨h1, ro, oa, c, h2, h3, h4⟩ := k
  exact ⟨h1, ro, oa, c, h2.below hb h2.lt, h3.below hb h3.lt, h4⟩
theorem HdAt.r {w : World} {B g : Nat} {h : Hd} (k : HdAt w B g h) : HdR w g h := by
  obtain ⟨h1, ro, oa, c, h2, h3, h4, h5, h6⟩ := k
  exact ⟨_, c, h2, ⟨.inr ⟨ro, oa, rfl, h3.1⟩, h3.1.2.2⟩, h5, h6⟩
end Go.Proofs.YtkiaijmhoikdiaaGreat

/- The program's comparisons of LSPs: compareEntries, compare. Each theorem states its conditions. -/
namespace Go.Proofs.YtkiaijmhoikdiaaGreat
open Go.RowKit
set_option linter.unusedVariables false
set_option linter.unusedSimpArgs false

theorem isNaN_u32 (x : Int) (w : World) : Calls Tryz.prog 95 #[.int .u32 x] w fun e w' => e = .returned (.bool false) ∧ w' = w := by
  go_enter Tryz.func95, Tryz.ntmps95
  go_wp2_with fail
  go_ret
  exact ⟨by simp, rfl⟩
theorem cmp_u32 (x y : Int) (w : World) : Calls Tryz.prog 74 #[.int .u32 x, .int .u32 y] w fun e w' => e = .returned (.int .i64 (cmp3 x y)) ∧ w' = w := by
  have hn := fun x W => isNaN_u32 x W
  go_enter Tryz.func74, Tryz.ntmps74
  by_cases h1 : x < y
  · have e : cmp3 x y = -1 := by unfold cmp3; rw [if_pos h1]
    rw [e]; clear e
    go_wp2_with (first | (go_at_call 95; refine (hn _ _).mono ?_; rintro e w' ⟨rfl, rfl⟩) | go_in)
    go_ret
    exact ⟨rfl, rfl⟩
  · by_cases h2 : y < x
    · have e : cmp3 x y = 1 := by unfold cmp3; rw [if_neg h1, if_pos h2]
      rw [e]; clear e
      go_wp2_with (first | (go_at_call 95; refine (hn _ _).mono ?_; rintro e w' ⟨rfl, rfl⟩) | go_in)
      go_ret
      exact ⟨rfl, rfl⟩
    · have e : cmp3 x y = 0 := by unfold cmp3; rw [if_neg h1, if_neg h2]
      rw [e]; clear e
      go_wp2_with (first | (go_at_call 95; refine (hn _ _).mono ?_; rintro e w' ⟨rfl, rfl⟩) | go_in)
      go_ret
      exact ⟨rfl, rfl⟩
theorem isNaN_u16 (x : Int) (w : World) : Calls Tryz.prog 97 #[.int .u16 x] w fun e w' => e = .returned (.bool false) ∧ w' = w := by
  go_enter Tryz.func97, Tryz.ntmps97
  go_wp2_with fail
  go_ret
  exact ⟨by simp, rfl⟩
theorem cmp_u16 (x y : Int) (w : World) : Calls Tryz.prog 76 #[.int .u16 x, .int .u16 y] w fun e w' => e = .returned (.int .i64 (cmp3 x y)) ∧ w' = w := by
  have hn := fun x W => isNaN_u16 x W
  go_enter Tryz.func76, Tryz.ntmps76
  by_cases h1 : x < y
  · have e : cmp3 x y = -1 := by unfold cmp3; rw [if_pos h1]
    rw [e]; clear e
    go_wp2_with (first | (go_at_call 97; refine (hn _ _).mono ?_; rintro e w' ⟨rfl, rfl⟩) | go_in)
    go_ret
    exact ⟨rfl, rfl⟩
  · by_cases h2 : y < x
    · have e : cmp3 x y = 1 := by unfold cmp3; rw [if_neg h1, if_pos h2]
      rw [e]; clear e
      go_wp2_with (first | (go_at_call 97; refine (hn _ _).mono ?_; rintro e w' ⟨rfl, rfl⟩) | go_in)
      go_ret
      exact ⟨rfl, rfl⟩
    · have e : cmp3 x y = 0 := by unfold cmp3; rw [if_neg h1, if_neg h2]
      rw [e]; clear e
      go_wp2_with (first | (go_at_call 97; refine (hn _ _).mono ?_; rintro e w' ⟨rfl, rfl⟩) | go_in)
      go_ret
      exact ⟨rfl, rfl⟩
def or3 (a b c : Int) : Int := if a ≠ 0 then a else if b ≠ 0 then b else c
set_option maxHeartbeats 4000000 in
set_option maxRecDepth 100000 in
theorem or_any (g : Nat) (a b c : Int) (w : World) (hg : Blk 3 w g #[.int .i64 a, .int .i64 b, .int .i64 c]) : Calls Tryz.prog 64 #[.slice (some ⟨g, 0, none⟩) 3 3] w fun e w' => e = .returned (.int .i64 (or3 a b c)) ∧ w' = w := by
  have c0 : w.cell? ⟨g, 0, none⟩ = some (.int .i64 a) := (hg.cell 0).trans rfl
  have c1 : w.cell? ⟨g, 1, none⟩ = some (.int .i64 b) := (hg.cell 1).trans rfl
  have c2 : w.cell? ⟨g, 2, none⟩ = some (.int .i64 c) := (hg.cell 2).trans rfl
  clear hg
  go_enter Tryz.func64, Tryz.ntmps64
  go_wp2_with fail
  by_cases ha : a = 0
  · subst ha
    by_cases hb : b = 0
    · subst hb
      by_cases hc : c = 0
      · subst hc
        refine wp_loop_rounds 4 ?_
        rw [rounds_succ]
        go_wp2
        rw [rounds_succ]
        go_wp2
        rw [rounds_succ]
        go_wp2
        rw [rounds_succ]
        go_wp2
        go_ret
        exact ⟨rfl, rfl⟩
      · refine wp_loop_rounds 3 ?_
        rw [rounds_succ]
        go_wp2
        rw [rounds_succ]
        go_wp2
        rw [rounds_succ]
        go_wp2
        refine bodyPost_ret (results_tmp rfl _ _ _) rfl ?_
        exact ⟨rfl, rfl⟩
    · refine wp_loop_rounds 2 ?_
      rw [rounds_succ]
      go_wp2
      rw [rounds_succ]
      go_wp2
      refine bodyPost_ret (results_tmp rfl _ _ _) rfl ?_
      exact ⟨by simp [or3, hb], rfl⟩
  · refine wp_loop_rounds 1 ?_
    rw [rounds_succ]
    go_wp2
    refine bodyPost_ret (results_tmp rfl _ _ _) rfl ?_
    exact ⟨by simp [or3, ha], rfl⟩
theorem num_hi {n : Nat} (h : IdOk n) : numZ (dg n) 0 6 = ((n / 65536 : Nat) : Int) := by
  unfold IdOk at h
  simp only [numZ, dg, pw, Nat.zero_add]
  omega
theorem bs_int (W : World) (o : Oper) (e : Operand → Value) {x y z : Operand} (ho : o.op = .buildSlice 148 3 #[(0, x), (1, y), (2, z)]) (a b c : Int) (hx : e x = .int .i64 a) (hy : e y = .int .i64 b) (hz : e z = .int .i64 c) :
    (execOp e o).run Tryz.prog W = .ok (.value (.slice (some ⟨W.heap.size, 0, none⟩) 3 3)) (W.alloc (.cells #[.int .i64 a, .int .i64 b, .int .i64 c] 3)) := by
  unfold execOp
  simp only [ho]
  simp only [List.map_toArray, List.map_cons, List.map_nil, hx, hy, hz]
  kernel_rfl
def BlO (t : TypeId) (w : World) (g : Nat) (C : Array Value) : Prop := Blk t w g C
theorem BlO.below {t : TypeId} {w w' : World} {g : Nat} {C : Array Value} (h : BlO t w g C) (hb : Below w.heap.size w w') : BlO t w' g C := Blk.below h hb (Blk.lt h)
theorem takeBsn {ops : Array Oper} {Q : Exit → Act → World → Prop} {md : Region.Mode} {S : World → Prop} {i : Nat} {oi : Oper} (d : Option Tmp) {fuel : Nat} {listed : Array Bool} {a : Act} {w : World} (n : Nat) (t : TypeId) (C : Array Value) (hi : ops[i]? = some oi) (hd : oi.dst = d)
    (hr : Region.ready md ops listed = [i]) (hw : Region.wanted oi (yielded ops a.tmps) = true) (hx : (execOp a.eval oi).run Tryz.prog w = .ok (.value (.slice (some ⟨w.heap.size, 0, none⟩) n n)) (w.alloc (.cells C t))) (N : Nat) (hN : w.heap.size = N)
    (h : ∀ w', Blk t w' N C → Below w.heap.size w w' → N + 1 ≤ w'.heap.size → S w' ∧ wpAnyH Tryz.prog md ops Q S fuel (listed.setIfInBounds i true) (a.put d (.slice (some ⟨N, 0, none⟩) n n)) w') : wpAnyH Tryz.prog md ops Q S (fuel + 1) listed a w := by
  subst hN
  obtain ⟨h1, h2⟩ := h _ (heap_alloc_new w _) ((Below.refl _ _).alloc (Nat.le_refl _) _) (by simp)
  exact takeV d hi hd hr hw hx h1 h2
theorem Row8.lt {w : World} {b o n : Nat} {z : Nat → Int} (h : Row8 w b o n z) : b < w.heap.size := h.1
theorem or3_2 (a b c : Int) : or3 a b c = or2 a (or2 b c) := by unfold or3 or2; (repeat' split) <;> first | rfl | omega
theorem cmp_lst : ∀ (xs ys : List Int), (∀ x ∈ xs, 0 ≤ x ∧ x ≤ 255) → (∀ x ∈ ys, 0 ≤ x ∧ x ≤ 255) → Lib.compareBytes (Lib.bytesOf xs) (Lib.bytesOf ys) = cmpL xs ys
  | [], [], _, _ => by simp [Lib.bytesOf, Lib.compareBytes, cmpL]
  | [], _ :: _, _, _ => by simp [Lib.bytesOf, Lib.compareBytes, cmpL]
  | _ :: _, [], _, _ => by simp [Lib.bytesOf, Lib.compareBytes, cmpL]
  | x :: xs, y :: ys, hx, hy => by
    have a := hx x (by simp)
    have b := hy y (by simp)
    have ih := cmp_lst xs ys (fun z hz => hx z (by simp [hz])) (fun z hz => hy z (by simp [hz]))
    show (if x.toNat.toUInt8 < y.toNat.toUInt8 then (-1 : Int) else if y.toNat.toUInt8 < x.toNat.toUInt8 then 1 else Lib.compareBytes (Lib.bytesOf xs) (Lib.bytesOf ys)) = _
    have u8 : ∀ {a b : Int}, (0 ≤ a ∧ a ≤ 255) → (0 ≤ b ∧ b ≤ 255) → ((a.toNat.toUInt8 < b.toNat.toUInt8) ↔ a < b) := fun ha hb => by
      rw [UInt8.lt_iff_toNat_lt]
      simp only [Nat.toUInt8, UInt8.toNat_ofNat']
      omega
    simp only [u8 a b, u8 b a, cmpL, ih]
theorem lstZ_len (z : Nat → Int) (a n : Nat) : (lstZ z a n).length = n := by simp [lstZ]
theorem lstZ_bd {z : Nat → Int} (h : ∀ j, 0 ≤ z j ∧ z j ≤ 255) (a n : Nat) : ∀ x ∈ lstZ z a n, 0 ≤ x ∧ x ≤ 255 := by
  intro x hx
  obtain ⟨j, _, rfl⟩ := List.mem_map.1 hx
  exact h _
theorem lstZ_at {z : Nat → Int} {a n j : Nat} {x : Int} (h : (lstZ z a n)[j]? = some x) : j < n ∧ x = z (a + j) := by
  unfold lstZ at h
  rw [List.getElem?_map] at h
  by_cases hj : j < n
  · rw [List.getElem?_range hj] at h
    exact ⟨hj, by simpa using h.symm⟩
  · rw [List.getElem?_eq_none (by simpa using hj)] at h
    cases h
theorem row_lst {w : World} {b off n : Nat} {z : Nat → Int} (h : Row8 w b off n z) (a m : Nat) (hm : a + m ≤ n) : ∀ j x, (lstZ z a m)[j]? = some x → w.cell? ((⟨b, off + a, none⟩ : Addr).add j) = some (.int .u8 x) := by
  intro j x hj
  obtain ⟨h1, rfl⟩ := lstZ_at hj
  have := h.2.1 (a + j) (by omega)
  rw [show (⟨b, off + a, none⟩ : Addr).add j = ⟨b, off + (a + j), none⟩ from by rw [add_none, Nat.add_assoc]]
  exact this
set_option maxRecDepth 100000 in
theorem cmpB_any (b1 o1 a1 n1 N1 c1 b2 o2 a2 n2 N2 c2 : Nat) (y z : Nat → Int) (w : World) (hy : Row8 w b1 o1 N1 y) (hz : Row8 w b2 o2 N2 z) (h1 : a1 + n1 ≤ N1) (h2 : a2 + n2 ≤ N2) :
    Calls Tryz.prog 65 #[.slice (some ⟨b1, o1 + a1, none⟩) n1 c1, .slice (some ⟨b2, o2 + a2, none⟩) n2 c2] w fun e w' => e = .returned (.int .i64 (cmpL (lstZ y a1 n1) (lstZ z a2 n2))) ∧ w' = w := by
  have hrun : (Extern.BytealgCompare.compare #[.slice (some ⟨b1, o1 + a1, none⟩) n1 c1, .slice (some ⟨b2, o2 + a2, none⟩) n2 c2]).run Tryz.prog w = .ok (.int .i64 (cmpL (lstZ y a1 n1) (lstZ z a2 n2))) w := by
    have e1 := Lib.run_loadBytesX (P := Tryz.prog) w (lstZ y a1 n1) ⟨b1, o1 + a1, none⟩ .empty (row_lst hy a1 n1 h1)
    have e2 := Lib.run_loadBytesX (P := Tryz.prog) w (lstZ z a2 n2) ⟨b2, o2 + a2, none⟩ .empty (row_lst hz a2 n2 h2)
    rw [lstZ_len] at e1 e2
    change Sem.run Tryz.prog (do pure (goInt (Extern.BytealgCompare.cmp (← Extern.Bytes.loadBytes ⟨b1, o1 + a1, none⟩ n1 .empty) (← Extern.Bytes.loadBytes ⟨b2, o2 + a2, none⟩ n2 .empty)))) w = _
    simp only [Sem.run_bind, e1, e2, Result.andThen, Sem.run_pure]
    rw [Lib.cmp_eq, ← cmp_lst _ _ (lstZ_bd hy.2.2 _ _) (lstZ_bd hz.2.2 _ _)]
    simp [goInt]
  clear hy hz h1 h2
  go_enter Tryz.func65, Tryz.ntmps65
  go_wp2
  rw [run_callFunc_extern Tryz.func89 (by kernel_rfl) (by kernel_rfl) (by kernel_rfl) (e := Extern.BytealgCompare.compare) (by kernel_rfl), hrun]
  simp only [Result.andThen]
  rw [Oper.upon_value]
  go_wp2
  go_ret
  exact ⟨rfl, rfl⟩
theorem isPurge_any (a : En) (w : World) : Calls Tryz.prog 96 #[.agg (enC a)] w fun e w' => e = .returned (.bool (a.li == 0)) ∧ Below w.heap.size w w' := by
  go_enter Tryz.func96, Tryz.ntmps96
  have HB := Lib.hid (Below.refl w.heap.size w)
  obtain ⟨N1, hN1⟩ : ∃ N, w.heap.size = N := ⟨_, rfl⟩
  have HN1 := Lib.hid hN1
  clear hN1
  go_wp2_with (refine wpList_box (op := ⟨some 1, _, _, _, _, _⟩) rfl 58 (.tmp 0) rfl (enC a) rfl N1 HN1.out ?_; intro w1 k1 b1 s1; refine Hid.out ?_)
  refine Lib.hid ?_
  have c1 : w1.cell? ⟨N1, 9, none⟩ = some (.int .i64 a.li) := (k1.cell 9).trans rfl
  have HBn := Lib.hid (HB.out.trans (b1.mono HB.out.size))
  clear k1 b1 HB s1
  go_wp2_with fail
  go_ret
  exact ⟨rfl, HBn.out⟩
set_option maxHeartbeats 8000000 in
set_option maxRecDepth 100000 in
theorem comparePurges_any (a b : En) (w : World) : Calls Tryz.prog 75 #[.agg (enC a), .agg (enC b)] w fun e w' => e = .returned (.int .i64 (cmp3 (if a.li = 0 then 1 else 0) (if b.li = 0 then 1 else 0))) ∧ Below w.heap.size w w' := by
  obtain ⟨pa, hpa⟩ : ∃ p, (a.li == 0) = p := ⟨_, rfl⟩
  obtain ⟨pb, hpb⟩ : ∃ p, (b.li == 0) = p := ⟨_, rfl⟩
  have HPA := Lib.hid hpa
  have HPB := Lib.hid hpb
  have HE : Hid (cmp3 (if a.li = 0 then 1 else 0) (if b.li = 0 then 1 else 0) = if pa = pb then 0 else if pa = true then 1 else -1) := Lib.hid (by
    rw [← hpa, ← hpb]
    by_cases h1 : a.li = 0 <;> by_cases h2 : b.li = 0 <;> (have e1 : (a.li == 0) = decide (a.li = 0) := rfl; have e2 : (b.li == 0) = decide (b.li = 0) := rfl; rw [e1, e2]; simp [h1, h2, cmp3]))
  rw [HE.out]
  clear hpa hpb HE
  go_enter Tryz.func75, Tryz.ntmps75
  have HB := Lib.hid (Below.refl w.heap.size w)
  obtain ⟨N1, hN1⟩ : ∃ N, w.heap.size = N := ⟨_, rfl⟩
  have HN1 := Lib.hid hN1
  clear hN1
  go_wp2_with (refine wpList_box (op := ⟨some 2, _, _, _, _, _⟩) rfl 58 (.tmp 0) rfl (enC a) rfl N1 HN1.out ?_; intro w1 k1 b1 s1; refine Hid.out ?_)
  refine Lib.hid ?_
  have K2 := Lib.hid k1
  clear k1
  have le_HB_N1 : w.heap.size ≤ N1 := by rw [← HN1.out]; exact HB.out.size
  replace HB := Lib.hid (HB.out.trans (b1.mono HB.out.size))
  clear b1 HN1
  obtain ⟨N2, hN2⟩ : ∃ N, w1.heap.size = N := ⟨_, rfl⟩
  have HN2 := Lib.hid hN2
  clear hN2
  go_wp2_with (refine wpList_box (op := ⟨some 3, _, _, _, _, _⟩) rfl 58 (.tmp 1) rfl (enC b) rfl N2 HN2.out ?_; intro w2 k1 b1 s1; refine Hid.out ?_)
  refine Lib.hid ?_
  have K3 := Lib.hid k1
  clear k1
  have lt_N1_N2 : N1 < N2 := by rw [← HN2.out]; exact K2.out.lt
  have le_HB_N2 : w.heap.size ≤ N2 := by rw [← HN2.out]; exact HB.out.size
  replace K2 := Lib.hid (K2.out.below b1 K2.out.lt)
  replace HB := Lib.hid (HB.out.trans (b1.mono HB.out.size))
  clear b1 HN2
  go_wp2_with fail
  refine wp_region_held_drew (S := fun w' => Blk 58 w' N1 (enC a) ∧ Blk 58 w' N2 (enC b) ∧ Below w.heap.size w w') (by kernel_rfl) ⟨K2.out, K3.out, HB.out.drew⟩ (fun hS => ?_)
  generalize hW3 : w2.drew = W3 at hS  ⊢
  clear hW3
  clear K2
  clear K3
  clear HB
  have K2 := Lib.hid hS.1
  have K3 := Lib.hid hS.2.1
  have HB := Lib.hid hS.2.2
  refine tL (i := 0) (some 6) 58 (.tmp 2) N1 0 (enC a) _ rfl rfl rfl rfl (fun w' hS => hS.1.all) Tryz.underlying58 rfl info_enP hS ?_
  simp only [Act.put, pA, pB, pC]
  refine tL (i := 2) (some 8) 58 (.tmp 3) N2 0 (enC b) _ rfl rfl rfl rfl (fun w' hS => hS.2.1.all) Tryz.underlying58 rfl info_enP hS ?_
  simp only [Act.put, pA, pB, pC]
  refine takeC (i := 1) (some 7) 96 #[.agg (enC a)] (.bool pa) (R := fun w' => Below W3.heap.size W3 w') rfl rfl (by kernel_rfl) (by rfl) (by go_simp) ((by rw [← HPA.out]; exact isPurge_any a W3)) (fun w' hb => ⟨hS.1.below hb hS.1.lt, hS.2.1.below hb hS.2.1.lt, hS.2.2.trans (hb.mono hS.2.2.size)⟩) (fun W4 hb1 hS2 => ?_)
  simp only [Act.put, pA, pB, pC]
  clear K2
  clear K3
  clear HB
  clear hS hb1
  have hS := hS2
  clear hS2
  have K2 := Lib.hid hS.1
  have K3 := Lib.hid hS.2.1
  have HB := Lib.hid hS.2.2
  refine takeC (i := 3) (some 9) 96 #[.agg (enC b)] (.bool pb) (R := fun w' => Below W4.heap.size W4 w') rfl rfl (by kernel_rfl) (by rfl) (by go_simp) ((by rw [← HPB.out]; exact isPurge_any b W4)) (fun w' hb => ⟨hS.1.below hb hS.1.lt, hS.2.1.below hb hS.2.1.lt, hS.2.2.trans (hb.mono hS.2.2.size)⟩) (fun W5 hb1 hS2 => ?_)
  simp only [Act.put, pA, pB, pC]
  clear K2
  clear K3
  clear HB
  clear hS hb1
  have hS := hS2
  clear hS2
  have K2 := Lib.hid hS.1
  have K3 := Lib.hid hS.2.1
  have HB := Lib.hid hS.2.2
  have HIS : Hid (∀ W, Calls Tryz.prog 96 #[.agg (enC a)] W fun e w' => e = .returned (.bool pa) ∧ Below W.heap.size W w') := Lib.hid (fun W => by rw [← HPA.out]; exact isPurge_any a W)
  cases pa <;> cases pb
  · refine tY (i := 4) (some 10) (v := .bool true) rfl rfl (fun w' hS => by go_simp) hS ?_
    simp only [Act.put, pA, pB, pC]
    refine tY (i := 5) (some 5) (v := .bool true) rfl rfl (fun w' hS => by go_simp) hS ?_
    simp only [Act.put, pA, pB, pC]
    clear hS
    refine wpAnyH_done (by kernel_rfl) ?_ _
    go_wp2_with fail
    go_ret
    exact ⟨rfl, HB.out⟩
  · refine tY (i := 4) (some 10) (v := .bool false) rfl rfl (fun w' hS => by go_simp) hS ?_
    simp only [Act.put, pA, pB, pC]
    refine tY (i := 5) (some 5) (v := .bool false) rfl rfl (fun w' hS => by go_simp) hS ?_
    simp only [Act.put, pA, pB, pC]
    clear hS
    refine wpAnyH_done (by kernel_rfl) ?_ _
    go_wp2_with (refine wpList_ld (op := ⟨some 12, _, _, _, _, _⟩) (by rfl) 58 (.tmp 2) rfl N1 0 rfl (enC a) _ K2.out.all Tryz.underlying58 rfl info_enP ?_; refine Hid.out ?_)
    refine Lib.hid ?_
    go_wp2_with fail
    refine (HIS.out W5).mono ?_
    rintro e w6 ⟨rfl, b1⟩
    replace K2 := Lib.hid (K2.out.below b1 K2.out.lt)
    replace K3 := Lib.hid (K3.out.below b1 K3.out.lt)
    replace HB := Lib.hid (HB.out.trans (b1.mono HB.out.size))
    clear b1
    go_wp2_with fail
    go_ret
    exact ⟨rfl, HB.out⟩
  · refine tY (i := 4) (some 10) (v := .bool false) rfl rfl (fun w' hS => by go_simp) hS ?_
    simp only [Act.put, pA, pB, pC]
    refine tY (i := 5) (some 5) (v := .bool false) rfl rfl (fun w' hS => by go_simp) hS ?_
    simp only [Act.put, pA, pB, pC]
    clear hS
    refine wpAnyH_done (by kernel_rfl) ?_ _
    go_wp2_with (refine wpList_ld (op := ⟨some 12, _, _, _, _, _⟩) (by rfl) 58 (.tmp 2) rfl N1 0 rfl (enC a) _ K2.out.all Tryz.underlying58 rfl info_enP ?_; refine Hid.out ?_)
    refine Lib.hid ?_
    go_wp2_with fail
    refine (HIS.out W5).mono ?_
    rintro e w6 ⟨rfl, b1⟩
    replace K2 := Lib.hid (K2.out.below b1 K2.out.lt)
    replace K3 := Lib.hid (K3.out.below b1 K3.out.lt)
    replace HB := Lib.hid (HB.out.trans (b1.mono HB.out.size))
    clear b1
    go_wp2_with fail
    go_ret
    exact ⟨rfl, HB.out⟩
  · refine tY (i := 4) (some 10) (v := .bool true) rfl rfl (fun w' hS => by go_simp) hS ?_
    simp only [Act.put, pA, pB, pC]
    refine tY (i := 5) (some 5) (v := .bool true) rfl rfl (fun w' hS => by go_simp) hS ?_
    simp only [Act.put, pA, pB, pC]
    clear hS
    refine wpAnyH_done (by kernel_rfl) ?_ _
    go_wp2_with fail
    go_ret
    exact ⟨rfl, HB.out⟩
set_option maxHeartbeats 8000000 in
set_option maxRecDepth 100000 in
theorem compareEntries_any (a b : En) (w : World) : Calls Tryz.prog 52 #[.agg (enC a), .agg (enC b)] w fun e w' => e = .returned (.int .i64 (relE a b)) ∧ Below w.heap.size w w' := by
  obtain ⟨cp, hcp⟩ : ∃ p, cmp3 (if a.li = 0 then 1 else 0) (if b.li = 0 then 1 else 0) = p := ⟨_, rfl⟩
  have HCP := Lib.hid hcp
  have HE : Hid (relE a b = or3 (cmp3 (a.sq : Int) (b.sq : Int)) cp (cmp3 (a.su : Int) (b.su : Int))) := Lib.hid (by rw [or3_2, ← hcp]; rfl)
  rw [HE.out]
  obtain ⟨X, hX⟩ : ∃ X, or3 (cmp3 (a.sq : Int) (b.sq : Int)) cp (cmp3 (a.su : Int) (b.su : Int)) = X := ⟨_, rfl⟩
  rw [hX]
  have HX := Lib.hid hX
  clear hcp HE hX
  go_enter Tryz.func52, Tryz.ntmps52
  have HB := Lib.hid (Below.refl w.heap.size w)
  obtain ⟨N1, hN1⟩ : ∃ N, w.heap.size = N := ⟨_, rfl⟩
  have HN1 := Lib.hid hN1
  clear hN1
  go_wp2_with (refine wpList_box (op := ⟨some 2, _, _, _, _, _⟩) rfl 58 (.tmp 0) rfl (enC a) rfl N1 HN1.out ?_; intro w1 k1 b1 s1; refine Hid.out ?_)
  refine Lib.hid ?_
  have K2 := Lib.hid k1
  clear k1
  have le_HB_N1 : w.heap.size ≤ N1 := by rw [← HN1.out]; exact HB.out.size
  replace HB := Lib.hid (HB.out.trans (b1.mono HB.out.size))
  clear b1 HN1
  obtain ⟨N2, hN2⟩ : ∃ N, w1.heap.size = N := ⟨_, rfl⟩
  have HN2 := Lib.hid hN2
  clear hN2
  go_wp2_with (refine wpList_box (op := ⟨some 3, _, _, _, _, _⟩) rfl 58 (.tmp 1) rfl (enC b) rfl N2 HN2.out ?_; intro w2 k1 b1 s1; refine Hid.out ?_)
  refine Lib.hid ?_
  have K3 := Lib.hid k1
  clear k1
  have lt_N1_N2 : N1 < N2 := by rw [← HN2.out]; exact K2.out.lt
  have le_HB_N2 : w.heap.size ≤ N2 := by rw [← HN2.out]; exact HB.out.size
  replace K2 := Lib.hid (K2.out.below b1 K2.out.lt)
  replace HB := Lib.hid (HB.out.trans (b1.mono HB.out.size))
  clear b1 HN2
  go_wp2_with fail
  refine wp_region_held_drew (S := fun w' => Blk 58 w' N1 (enC a) ∧ Blk 58 w' N2 (enC b) ∧ Below w.heap.size w w') (by kernel_rfl) ⟨K2.out, K3.out, HB.out.drew⟩ (fun hS => ?_)
  generalize hW3 : w2.drew = W3 at hS  ⊢
  clear hW3
  clear K2
  clear K3
  clear HB
  have K2 := Lib.hid hS.1
  have K3 := Lib.hid hS.2.1
  have HB := Lib.hid hS.2.2
  refine tY (i := 0) (some 5) (v := .pointer (some ⟨N1, 8, none⟩)) rfl rfl (fun w' hS => by go_simp) hS ?_
  simp only [Act.put, pA, pB, pC]
  refine tY (i := 1) (some 6) (v := .int .u32 (a.sq : Int)) rfl rfl (fun w' hS => by (have c9 : w'.cell? ⟨N1, 8, none⟩ = some (.int .u32 (a.sq : Int)) := (hS.1.cell 8).trans rfl; clear hS; go_simp)) hS ?_
  simp only [Act.put, pA, pB, pC]
  refine tY (i := 2) (some 7) (v := .pointer (some ⟨N2, 8, none⟩)) rfl rfl (fun w' hS => by go_simp) hS ?_
  simp only [Act.put, pA, pB, pC]
  refine tY (i := 3) (some 8) (v := .int .u32 (b.sq : Int)) rfl rfl (fun w' hS => by (have c9 : w'.cell? ⟨N2, 8, none⟩ = some (.int .u32 (b.sq : Int)) := (hS.2.1.cell 8).trans rfl; clear hS; go_simp)) hS ?_
  simp only [Act.put, pA, pB, pC]
  refine tL (i := 5) (some 10) 58 (.tmp 2) N1 0 (enC a) _ rfl rfl rfl rfl (fun w' hS => hS.1.all) Tryz.underlying58 rfl info_enP hS ?_
  simp only [Act.put, pA, pB, pC]
  refine tL (i := 6) (some 11) 58 (.tmp 3) N2 0 (enC b) _ rfl rfl rfl rfl (fun w' hS => hS.2.1.all) Tryz.underlying58 rfl info_enP hS ?_
  simp only [Act.put, pA, pB, pC]
  refine tY (i := 8) (some 13) (v := .pointer (some ⟨N1, 10, none⟩)) rfl rfl (fun w' hS => by go_simp) hS ?_
  simp only [Act.put, pA, pB, pC]
  refine tY (i := 9) (some 14) (v := .int .u16 (a.su : Int)) rfl rfl (fun w' hS => by (have c9 : w'.cell? ⟨N1, 10, none⟩ = some (.int .u16 (a.su : Int)) := (hS.1.cell 10).trans rfl; clear hS; go_simp)) hS ?_
  simp only [Act.put, pA, pB, pC]
  refine tY (i := 10) (some 15) (v := .pointer (some ⟨N2, 10, none⟩)) rfl rfl (fun w' hS => by go_simp) hS ?_
  simp only [Act.put, pA, pB, pC]
  refine tY (i := 11) (some 16) (v := .int .u16 (b.su : Int)) rfl rfl (fun w' hS => by (have c9 : w'.cell? ⟨N2, 10, none⟩ = some (.int .u16 (b.su : Int)) := (hS.2.1.cell 10).trans rfl; clear hS; go_simp)) hS ?_
  simp only [Act.put, pA, pB, pC]
  refine takeC (i := 4) (some 9) 74 #[.int .u32 (a.sq : Int), .int .u32 (b.sq : Int)] (.int .i64 (cmp3 (a.sq : Int) (b.sq : Int))) (R := fun w' => W3 = w') rfl rfl (by kernel_rfl) (by rfl) (by go_simp) ((cmp_u32 _ _ W3).mono fun e w' h => ⟨h.1, h.2.symm⟩) (fun w' hb => hb ▸ hS) (fun W4 hb1 hS2 => ?_)
  subst hb1
  clear hS2
  simp only [Act.put, pA, pB, pC]
  refine takeC (i := 7) (some 12) 75 #[.agg (enC a), .agg (enC b)] (.int .i64 cp) (R := fun w' => Below W3.heap.size W3 w') rfl rfl (by kernel_rfl) (by rfl) (by go_simp) ((by rw [← HCP.out]; exact comparePurges_any a b W3)) (fun w' hb => ⟨hS.1.below hb hS.1.lt, hS.2.1.below hb hS.2.1.lt, hS.2.2.trans (hb.mono hS.2.2.size)⟩) (fun W5 hb1 hS2 => ?_)
  simp only [Act.put, pA, pB, pC]
  clear K2
  clear K3
  clear HB
  clear hS hb1
  have hS := hS2
  clear hS2
  have K2 := Lib.hid hS.1
  have K3 := Lib.hid hS.2.1
  have HB := Lib.hid hS.2.2
  refine takeC (i := 12) (some 17) 76 #[.int .u16 (a.su : Int), .int .u16 (b.su : Int)] (.int .i64 (cmp3 (a.su : Int) (b.su : Int))) (R := fun w' => W5 = w') rfl rfl (by kernel_rfl) (by rfl) (by go_simp) ((cmp_u16 _ _ W5).mono fun e w' h => ⟨h.1, h.2.symm⟩) (fun w' hb => hb ▸ hS) (fun W6 hb1 hS2 => ?_)
  subst hb1
  clear hS2
  simp only [Act.put, pA, pB, pC]
  obtain ⟨N7, hN7⟩ : ∃ N, W5.heap.size = N := ⟨_, rfl⟩
  have HN7 := Lib.hid hN7
  clear hN7
  refine takeBsn (i := 13) (some 18) 3 3 (#[.int .i64 (cmp3 (a.sq : Int) (b.sq : Int)), .int .i64 cp, .int .i64 (cmp3 (a.su : Int) (b.su : Int))]) rfl rfl (by kernel_rfl) (by rfl) (bs_int _ _ _ rfl _ _ _ rfl rfl rfl) N7 HN7.out (fun W7 k1 b1 s1 => ⟨⟨hS.1.below b1 hS.1.lt, hS.2.1.below b1 hS.2.1.lt, hS.2.2.trans (b1.mono hS.2.2.size)⟩, ?_⟩)
  simp only [Act.put, pA, pB, pC]
  have KV : Hid (BlO 3 W7 N7 (#[.int .i64 (cmp3 (a.sq : Int) (b.sq : Int)), .int .i64 cp, .int .i64 (cmp3 (a.su : Int) (b.su : Int))])) := Lib.hid k1
  clear k1
  replace K2 := Lib.hid (K2.out.below b1 K2.out.lt)
  replace K3 := Lib.hid (K3.out.below b1 K3.out.lt)
  replace HB := Lib.hid (HB.out.trans (b1.mono HB.out.size))
  clear b1 hS HN7
  have hS := (And.intro K2.out (And.intro K3.out HB.out))
  refine takeC (i := 14) (some 19) 64 #[.slice (some ⟨N7, 0, none⟩) 3 3] (.int .i64 X) (R := fun w' => W7 = w') rfl rfl (by kernel_rfl) (by rfl) (by go_simp) ((by rw [← HX.out]; exact (or_any N7 _ _ _ W7 KV.out).mono fun e w' h => ⟨h.1, h.2.symm⟩)) (fun w' hb => hb ▸ hS) (fun W8 hb1 hS2 => ?_)
  subst hb1
  clear hS2
  simp only [Act.put, pA, pB, pC]
  refine tY (i := 15) (some 4) (v := .int .i64 X) rfl rfl (fun w' hS => by go_simp) hS ?_
  simp only [Act.put, pA, pB, pC]
  clear hS
  refine wpAnyH_done (by kernel_rfl) ?_ _
  go_wp2_with fail
  go_ret
  exact ⟨rfl, HB.out⟩
theorem hd_en {w : World} {g : Nat} {h : Hd} {A : Option Addr} {c : Nat} (k : Blk 91 w g (hdC h A c)) : w.rangeAt g 0 (enC (hdE h)).toList := fun j v hj => by
  have := k.all j v ?_
  · exact this
  · match j, hj with
    | 0, hj => exact hj
    | 1, hj => exact hj
    | 2, hj => exact hj
    | 3, hj => exact hj
    | 4, hj => exact hj
    | 5, hj => exact hj
    | 6, hj => exact hj
    | 7, hj => exact hj
    | 8, hj => exact hj
    | 9, hj => exact hj
    | 10, hj => exact hj
theorem slice_hi (o : Oper) (e : Operand → Value) (x : Operand) (ho : o.op = .slice 40 x none (some (.const (.int .i64 10))) none) (b off n c : Nat) (h0 : e x = .slice (some ⟨b, off, none⟩) n c) (hc : e (.const (.int .i64 10)) = .int .i64 10) (hcm : 10 ≤ c) (W : World) :
    (execOp e o).run Tryz.prog W = .ok (.value (.slice (some ⟨b, off, none⟩) 10 c)) W := by
  unfold execOp
  simp only [ho, h0, hc, Option.map_none, Option.map_some]
  have e1 : ¬ ((c : Int) < 10) := by omega
  have e2 : ¬ (c < 10) := by omega
  simp [go_sem, e1, e2]
theorem slice_lo (o : Oper) (e : Operand → Value) (x : Operand) (ho : o.op = .slice 40 x (some (.const (.int .i64 12))) none none) (b off n c : Nat) (h0 : e x = .slice (some ⟨b, off, none⟩) n c) (hc : e (.const (.int .i64 12)) = .int .i64 12) (hn : 12 < n) (hcm : n ≤ c) (W : World) :
    (execOp e o).run Tryz.prog W = .ok (.value (.slice (some ⟨b, off + 12, none⟩) (n - 12) (c - 12))) W := by
  unfold execOp
  simp only [ho, h0, hc, Option.map_none, Option.map_some]
  have e1 : ¬ (c = 12) := by omega
  have e2 : ¬ (n < 12) := by omega
  have e3 : ¬ ((n : Int) < 12) := by omega
  have e4 : (n : Int) - 12 = ((n - 12 : Nat) : Int) := by omega
  simp [go_sem, e1, e2, e3]
  try omega
set_option maxHeartbeats 16000000 in
set_option maxRecDepth 100000 in
theorem compare_any (x y : Hd) (g k : Nat) (w : World) (hx : HdR w g x) (hy : HdR w k y) (nx : 27 ≤ x.n ∧ x.n ≤ 1492) (ny : 27 ≤ y.n ∧ y.n ≤ 1492) : Calls Tryz.prog 45 #[.pointer (some ⟨g, 0, none⟩), .pointer (some ⟨k, 0, none⟩)] w fun e w' => e = .returned (.int .i64 (relH x y)) ∧ Below w.heap.size w w' := by
  obtain ⟨A1, c1, k1, r1, n1, m1⟩ := hx
  obtain ⟨A2, c2, k2, r2, n2, m2⟩ := hy
  obtain ⟨b1, o1, rfl, t1⟩ := r1.row (by omega)
  obtain ⟨b2, o2, rfl, t2⟩ := r2.row (by omega)
  have NX := Lib.hid nx
  have NY := Lib.hid ny
  have HC1 := Lib.hid (And.intro n1 m1)
  have HC2 := Lib.hid (And.intro n2 m2)
  have KX := Lib.hid k1
  have KY := Lib.hid k2
  have RX : Hid (Row8 w b1 o1 x.n x.z) := Lib.hid t1
  have RY : Hid (Row8 w b2 o2 y.n y.z) := Lib.hid t2
  clear nx ny n1 m1 n2 m2 k1 k2 r1 r2 t1 t2
  obtain ⟨re, hre⟩ : ∃ p, relE (hdE x) (hdE y) = p := ⟨_, rfl⟩
  have HRE := Lib.hid hre
  have HE : Hid (relH x y = or3 re (cmpL (lstZ x.z 0 10) (lstZ y.z 0 10)) (cmpL (lstZ x.z 12 (x.n - 12)) (lstZ y.z 12 (y.n - 12)))) := Lib.hid (by rw [or3_2, ← hre]; rfl)
  rw [HE.out]
  obtain ⟨X, hX⟩ : ∃ X, or3 re (cmpL (lstZ x.z 0 10) (lstZ y.z 0 10)) (cmpL (lstZ x.z 12 (x.n - 12)) (lstZ y.z 12 (y.n - 12))) = X := ⟨_, rfl⟩
  rw [hX]
  have HX := Lib.hid hX
  clear hre HE hX
  go_enter Tryz.func45, Tryz.ntmps45
  have HB := Lib.hid (Below.refl w.heap.size w)
  go_wp2_with fail
  refine wp_region_held_drew (S := fun w' => Blk 91 w' g (hdC x (some ⟨b1, o1, none⟩) c1) ∧ Blk 91 w' k (hdC y (some ⟨b2, o2, none⟩) c2) ∧ Row8 w' b1 o1 x.n x.z ∧ Row8 w' b2 o2 y.n y.z ∧ Below w.heap.size w w') (by kernel_rfl) ⟨KX.out, KY.out, RX.out, RY.out, HB.out.drew⟩ (fun hS => ?_)
  generalize hW1 : w.drew = W1 at hS  ⊢
  clear hW1
  clear KX
  clear KY
  clear RX
  clear RY
  clear HB
  have KX := Lib.hid hS.1
  have KY := Lib.hid hS.2.1
  have RX := Lib.hid hS.2.2.1
  have RY := Lib.hid hS.2.2.2.1
  have HB := Lib.hid hS.2.2.2.2
  refine tY (i := 0) (some 5) (v := .pointer (some ⟨g, 0, none⟩)) rfl rfl (fun w' hS => by clear hS; go_simp) hS ?_
  simp only [Act.put, pA, pB, pC]
  refine tY (i := 1) (some 6) (v := .pointer (some ⟨g, 0, none⟩)) rfl rfl (fun w' hS => by clear hS; go_simp) hS ?_
  simp only [Act.put, pA, pB, pC]
  refine tY (i := 2) (some 7) (v := .pointer (some ⟨g, 0, none⟩)) rfl rfl (fun w' hS => by clear hS; go_simp) hS ?_
  simp only [Act.put, pA, pB, pC]
  refine tL (i := 3) (some 8) 58 (.tmp 7) g 0 (enC (hdE x)) _ rfl rfl rfl rfl (fun w' hS => hd_en hS.1) Tryz.underlying58 rfl info_enP hS ?_
  simp only [Act.put, pA, pB, pC]
  refine tY (i := 4) (some 9) (v := .pointer (some ⟨k, 0, none⟩)) rfl rfl (fun w' hS => by clear hS; go_simp) hS ?_
  simp only [Act.put, pA, pB, pC]
  refine tY (i := 5) (some 10) (v := .pointer (some ⟨k, 0, none⟩)) rfl rfl (fun w' hS => by clear hS; go_simp) hS ?_
  simp only [Act.put, pA, pB, pC]
  refine tY (i := 6) (some 11) (v := .pointer (some ⟨k, 0, none⟩)) rfl rfl (fun w' hS => by clear hS; go_simp) hS ?_
  simp only [Act.put, pA, pB, pC]
  refine tL (i := 7) (some 12) 58 (.tmp 11) k 0 (enC (hdE y)) _ rfl rfl rfl rfl (fun w' hS => hd_en hS.2.1) Tryz.underlying58 rfl info_enP hS ?_
  simp only [Act.put, pA, pB, pC]
  refine tY (i := 9) (some 14) (v := .pointer (some ⟨g, 0, none⟩)) rfl rfl (fun w' hS => by clear hS; go_simp) hS ?_
  simp only [Act.put, pA, pB, pC]
  refine tY (i := 10) (some 15) (v := .pointer (some ⟨g, 0, none⟩)) rfl rfl (fun w' hS => by clear hS; go_simp) hS ?_
  simp only [Act.put, pA, pB, pC]
  refine tY (i := 11) (some 16) (v := .pointer (some ⟨g, 11, none⟩)) rfl rfl (fun w' hS => by clear hS; go_simp) hS ?_
  simp only [Act.put, pA, pB, pC]
  refine tY (i := 12) (some 17) (v := .slice (some ⟨b1, o1, none⟩) x.n c1) rfl rfl (fun w' hS => by (have c9 : w'.cell? ⟨g, 11, none⟩ = some (.slice (some ⟨b1, o1, none⟩) x.n c1) := (hS.1.cell 11).trans rfl; clear hS; go_simp)) hS ?_
  simp only [Act.put, pA, pB, pC]
  refine tY (i := 13) (some 18) (v := .slice (some ⟨b1, o1, none⟩) 10 c1) rfl rfl (fun w' hS => by exact slice_hi _ _ _ rfl b1 o1 x.n c1 rfl rfl (by have := HC1.out; have := NX.out; omega) _) hS ?_
  simp only [Act.put, pA, pB, pC]
  refine tY (i := 14) (some 19) (v := .pointer (some ⟨k, 0, none⟩)) rfl rfl (fun w' hS => by clear hS; go_simp) hS ?_
  simp only [Act.put, pA, pB, pC]
  refine tY (i := 15) (some 20) (v := .pointer (some ⟨k, 0, none⟩)) rfl rfl (fun w' hS => by clear hS; go_simp) hS ?_
  simp only [Act.put, pA, pB, pC]
  refine tY (i := 16) (some 21) (v := .pointer (some ⟨k, 11, none⟩)) rfl rfl (fun w' hS => by clear hS; go_simp) hS ?_
  simp only [Act.put, pA, pB, pC]
  refine tY (i := 17) (some 22) (v := .slice (some ⟨b2, o2, none⟩) y.n c2) rfl rfl (fun w' hS => by (have c9 : w'.cell? ⟨k, 11, none⟩ = some (.slice (some ⟨b2, o2, none⟩) y.n c2) := (hS.2.1.cell 11).trans rfl; clear hS; go_simp)) hS ?_
  simp only [Act.put, pA, pB, pC]
  refine tY (i := 18) (some 23) (v := .slice (some ⟨b2, o2, none⟩) 10 c2) rfl rfl (fun w' hS => by exact slice_hi _ _ _ rfl b2 o2 y.n c2 rfl rfl (by have := HC2.out; have := NY.out; omega) _) hS ?_
  simp only [Act.put, pA, pB, pC]
  refine tY (i := 20) (some 25) (v := .pointer (some ⟨g, 0, none⟩)) rfl rfl (fun w' hS => by clear hS; go_simp) hS ?_
  simp only [Act.put, pA, pB, pC]
  refine tY (i := 21) (some 26) (v := .pointer (some ⟨g, 0, none⟩)) rfl rfl (fun w' hS => by clear hS; go_simp) hS ?_
  simp only [Act.put, pA, pB, pC]
  refine tY (i := 22) (some 27) (v := .pointer (some ⟨g, 11, none⟩)) rfl rfl (fun w' hS => by clear hS; go_simp) hS ?_
  simp only [Act.put, pA, pB, pC]
  refine tY (i := 23) (some 28) (v := .slice (some ⟨b1, o1, none⟩) x.n c1) rfl rfl (fun w' hS => by (have c9 : w'.cell? ⟨g, 11, none⟩ = some (.slice (some ⟨b1, o1, none⟩) x.n c1) := (hS.1.cell 11).trans rfl; clear hS; go_simp)) hS ?_
  simp only [Act.put, pA, pB, pC]
  refine tY (i := 24) (some 29) (v := .slice (some ⟨b1, o1 + 12, none⟩) (x.n - 12) (c1 - 12)) rfl rfl (fun w' hS => by exact slice_lo _ _ _ rfl b1 o1 x.n c1 rfl rfl (by have := NX.out; omega) HC1.out.1 _) hS ?_
  simp only [Act.put, pA, pB, pC]
  refine tY (i := 25) (some 30) (v := .pointer (some ⟨k, 0, none⟩)) rfl rfl (fun w' hS => by clear hS; go_simp) hS ?_
  simp only [Act.put, pA, pB, pC]
  refine tY (i := 26) (some 31) (v := .pointer (some ⟨k, 0, none⟩)) rfl rfl (fun w' hS => by clear hS; go_simp) hS ?_
  simp only [Act.put, pA, pB, pC]
  refine tY (i := 27) (some 32) (v := .pointer (some ⟨k, 11, none⟩)) rfl rfl (fun w' hS => by clear hS; go_simp) hS ?_
  simp only [Act.put, pA, pB, pC]
  refine tY (i := 28) (some 33) (v := .slice (some ⟨b2, o2, none⟩) y.n c2) rfl rfl (fun w' hS => by (have c9 : w'.cell? ⟨k, 11, none⟩ = some (.slice (some ⟨b2, o2, none⟩) y.n c2) := (hS.2.1.cell 11).trans rfl; clear hS; go_simp)) hS ?_
  simp only [Act.put, pA, pB, pC]
  refine tY (i := 29) (some 34) (v := .slice (some ⟨b2, o2 + 12, none⟩) (y.n - 12) (c2 - 12)) rfl rfl (fun w' hS => by exact slice_lo _ _ _ rfl b2 o2 y.n c2 rfl rfl (by have := NY.out; omega) HC2.out.1 _) hS ?_
  simp only [Act.put, pA, pB, pC]
  refine takeC (i := 8) (some 13) 52 #[.agg (enC (hdE x)), .agg (enC (hdE y))] (.int .i64 re) (R := fun w' => Below W1.heap.size W1 w') rfl rfl (by kernel_rfl) (by rfl) (by go_simp) ((by rw [← HRE.out]; exact compareEntries_any _ _ W1)) (fun w' hb => ⟨hS.1.below hb hS.1.lt, hS.2.1.below hb hS.2.1.lt, hS.2.2.1.below hb hS.2.2.1.lt, hS.2.2.2.1.below hb hS.2.2.2.1.lt, hS.2.2.2.2.trans (hb.mono hS.2.2.2.2.size)⟩) (fun W2 hb1 hS2 => ?_)
  simp only [Act.put, pA, pB, pC]
  clear KX
  clear KY
  clear RX
  clear RY
  clear HB
  clear hS hb1
  have hS := hS2
  clear hS2
  have KX := Lib.hid hS.1
  have KY := Lib.hid hS.2.1
  have RX := Lib.hid hS.2.2.1
  have RY := Lib.hid hS.2.2.2.1
  have HB := Lib.hid hS.2.2.2.2
  refine takeC (i := 19) (some 24) 65 #[.slice (some ⟨b1, o1, none⟩) 10 c1, .slice (some ⟨b2, o2, none⟩) 10 c2] (.int .i64 (cmpL (lstZ x.z 0 10) (lstZ y.z 0 10))) (R := fun w' => W2 = w') rfl rfl (by kernel_rfl) (by rfl) (by go_simp) ((cmpB_any b1 o1 0 10 x.n c1 b2 o2 0 10 y.n c2 x.z y.z W2 RX.out RY.out (by have := NX.out; omega) (by have := NY.out; omega)).mono fun e w' h => ⟨h.1, h.2.symm⟩) (fun w' hb => hb ▸ hS) (fun W3 hb1 hS2 => ?_)
  subst hb1
  clear hS2
  simp only [Act.put, pA, pB, pC]
  refine takeC (i := 30) (some 35) 65 #[.slice (some ⟨b1, o1 + 12, none⟩) (x.n - 12) (c1 - 12), .slice (some ⟨b2, o2 + 12, none⟩) (y.n - 12) (c2 - 12)] (.int .i64 (cmpL (lstZ x.z 12 (x.n - 12)) (lstZ y.z 12 (y.n - 12)))) (R := fun w' => W2 = w') rfl rfl (by kernel_rfl) (by rfl) (by go_simp) ((cmpB_any b1 o1 12 (x.n - 12) x.n (c1 - 12) b2 o2 12 (y.n - 12) y.n (c2 - 12) x.z y.z W2 RX.out RY.out (by have := NX.out; omega) (by have := NY.out; omega)).mono fun e w' h => ⟨h.1, h.2.symm⟩) (fun w' hb => hb ▸ hS) (fun W4 hb1 hS2 => ?_)
  subst hb1
  clear hS2
  simp only [Act.put, pA, pB, pC]
  obtain ⟨N5, hN5⟩ : ∃ N, W2.heap.size = N := ⟨_, rfl⟩
  have HN5 := Lib.hid hN5
  clear hN5
  refine takeBsn (i := 31) (some 36) 3 3 (#[.int .i64 re, .int .i64 (cmpL (lstZ x.z 0 10) (lstZ y.z 0 10)), .int .i64 (cmpL (lstZ x.z 12 (x.n - 12)) (lstZ y.z 12 (y.n - 12)))]) rfl rfl (by kernel_rfl) (by rfl) (bs_int _ _ _ rfl _ _ _ rfl rfl rfl) N5 HN5.out (fun W5 k1 b1 s1 => ⟨⟨hS.1.below b1 hS.1.lt, hS.2.1.below b1 hS.2.1.lt, hS.2.2.1.below b1 hS.2.2.1.lt, hS.2.2.2.1.below b1 hS.2.2.2.1.lt, hS.2.2.2.2.trans (b1.mono hS.2.2.2.2.size)⟩, ?_⟩)
  simp only [Act.put, pA, pB, pC]
  have KV : Hid (BlO 3 W5 N5 (#[.int .i64 re, .int .i64 (cmpL (lstZ x.z 0 10) (lstZ y.z 0 10)), .int .i64 (cmpL (lstZ x.z 12 (x.n - 12)) (lstZ y.z 12 (y.n - 12)))])) := Lib.hid k1
  clear k1
  replace KX := Lib.hid (KX.out.below b1 KX.out.lt)
  replace KY := Lib.hid (KY.out.below b1 KY.out.lt)
  replace RX := Lib.hid (RX.out.below b1 RX.out.lt)
  replace RY := Lib.hid (RY.out.below b1 RY.out.lt)
  replace HB := Lib.hid (HB.out.trans (b1.mono HB.out.size))
  clear b1 hS HN5
  have hS := (And.intro KX.out (And.intro KY.out (And.intro RX.out (And.intro RY.out HB.out))))
  refine takeC (i := 32) (some 37) 64 #[.slice (some ⟨N5, 0, none⟩) 3 3] (.int .i64 X) (R := fun w' => W5 = w') rfl rfl (by kernel_rfl) (by rfl) (by go_simp) ((by rw [← HX.out]; exact (or_any N5 _ _ _ W5 KV.out).mono fun e w' h => ⟨h.1, h.2.symm⟩)) (fun w' hb => hb ▸ hS) (fun W6 hb1 hS2 => ?_)
  subst hb1
  clear hS2
  simp only [Act.put, pA, pB, pC]
  refine tY (i := 33) (some 4) (v := .int .i64 X) rfl rfl (fun w' hS => by go_simp) hS ?_
  simp only [Act.put, pA, pB, pC]
  clear hS
  refine wpAnyH_done (by kernel_rfl) ?_ _
  go_wp2_with fail
  go_ret
  exact ⟨rfl, HB.out⟩
end Go.Proofs.YtkiaijmhoikdiaaGreat

/- The order of IDs is that of their numbers; the order that the store's sorts are handed. Each theorem states its conditions. -/
namespace Go.Proofs.YtkiaijmhoikdiaaGreat
open Go.RowKit Go.Sort
set_option linter.unusedVariables false

def byte6 (z : Nat → Int) : Prop := ∀ j, 0 ≤ z j ∧ z j ≤ 255
def lst6 (z : Nat → Int) : List Int := [z 0, z 1, z 2, z 3, z 4, z 5]
theorem u8_lt {a b : Int} (ha : 0 ≤ a ∧ a ≤ 255) (hb : 0 ≤ b ∧ b ≤ 255) : (a.toNat.toUInt8 < b.toNat.toUInt8) ↔ a < b := by
  rw [UInt8.lt_iff_toNat_lt]
  simp only [Nat.toUInt8, UInt8.toNat_ofNat']
  omega
def fold6 : Int → List Int → Int
  | p, [] => p
  | p, x :: xs => fold6 (p * 256 + x) xs
theorem fold6_lt : ∀ (xs ys : List Int) (p q : Int), xs.length = ys.length → (∀ x ∈ xs, 0 ≤ x ∧ x ≤ 255) → (∀ x ∈ ys, 0 ≤ x ∧ x ≤ 255) → p < q → fold6 p xs < fold6 q ys
  | [], [], p, q, _, _, _, h => h
  | [], _ :: _, _, _, h, _, _, _ => by simp at h
  | _ :: _, [], _, _, h, _, _, _ => by simp at h
  | x :: xs, y :: ys, p, q, hl, hx, hy, h => by
    have a := hx x (by simp)
    have b := hy y (by simp)
    exact fold6_lt xs ys _ _ (by simpa using hl) (fun z hz => hx z (by simp [hz])) (fun z hz => hy z (by simp [hz])) (by omega)
theorem cmp_fold : ∀ (xs ys : List Int) (p : Int), xs.length = ys.length → (∀ x ∈ xs, 0 ≤ x ∧ x ≤ 255) → (∀ x ∈ ys, 0 ≤ x ∧ x ≤ 255) → Lib.compareBytes (Lib.bytesOf xs) (Lib.bytesOf ys) = cmp3 (fold6 p xs) (fold6 p ys)
  | [], [], p, _, _, _ => by simp [Lib.bytesOf, Lib.compareBytes, fold6, cmp3]
  | [], _ :: _, _, h, _, _ => by simp at h
  | _ :: _, [], _, h, _, _ => by simp at h
  | x :: xs, y :: ys, p, hl, hx, hy => by
    have a := hx x (by simp)
    have b := hy y (by simp)
    have hl' : xs.length = ys.length := by simpa using hl
    have hx' : ∀ z ∈ xs, 0 ≤ z ∧ z ≤ 255 := fun z hz => hx z (by simp [hz])
    have hy' : ∀ z ∈ ys, 0 ≤ z ∧ z ≤ 255 := fun z hz => hy z (by simp [hz])
    show (if x.toNat.toUInt8 < y.toNat.toUInt8 then (-1 : Int) else if y.toNat.toUInt8 < x.toNat.toUInt8 then 1 else Lib.compareBytes (Lib.bytesOf xs) (Lib.bytesOf ys)) = _
    simp only [u8_lt a b, u8_lt b a, fold6]
    by_cases h1 : x < y
    · rw [if_pos h1]
      have := fold6_lt xs ys (p * 256 + x) (p * 256 + y) hl' hx' hy' (by omega)
      unfold cmp3; rw [if_pos this]
    · rw [if_neg h1]
      by_cases h2 : y < x
      · rw [if_pos h2]
        have := fold6_lt ys xs (p * 256 + y) (p * 256 + x) hl'.symm hy' hx' (by omega)
        unfold cmp3; rw [if_neg (by omega), if_pos this]
      · rw [if_neg h2, cmp_fold xs ys (p * 256 + x) hl' hx' hy', show x = y by omega]
theorem lst6_bd {z : Nat → Int} (h : byte6 z) : ∀ x ∈ lst6 z, 0 ≤ x ∧ x ≤ 255 := by
  intro x hx
  simp only [lst6, List.mem_cons, List.not_mem_nil, or_false] at hx
  rcases hx with rfl | rfl | rfl | rfl | rfl | rfl <;> exact h _
theorem num_fold (z : Nat → Int) : numZ z 0 6 = fold6 0 (lst6 z) := by
  simp only [numZ, fold6, lst6, Nat.zero_add]
theorem cmp6_bytes {y z : Nat → Int} (hy : byte6 y) (hz : byte6 z) : Lib.compareBytes (Lib.bytesOf (lst6 y)) (Lib.bytesOf (lst6 z)) = cmp3 (numZ y 0 6) (numZ z 0 6) := by
  rw [num_fold, num_fold]
  exact cmp_fold _ _ 0 rfl (lst6_bd hy) (lst6_bd hz)
theorem row6_list {w : World} {b o : Nat} {z : Nat → Int} (h : w.rangeAt b o (syC z).toList) : ∀ j x, (lst6 z)[j]? = some x → w.cell? ((⟨b, o, none⟩ : Addr).add j) = some (.int .u8 x) := by
  intro j x hj
  rw [add_none]
  match j, hj with
  | 0, hj => simp [lst6] at hj; subst hj; exact h 0 _ rfl
  | 1, hj => simp [lst6] at hj; subst hj; exact h 1 _ rfl
  | 2, hj => simp [lst6] at hj; subst hj; exact h 2 _ rfl
  | 3, hj => simp [lst6] at hj; subst hj; exact h 3 _ rfl
  | 4, hj => simp [lst6] at hj; subst hj; exact h 4 _ rfl
  | 5, hj => simp [lst6] at hj; subst hj; exact h 5 _ rfl
theorem run_cmp6 (b1 o1 c1 b2 o2 c2 : Nat) (y z : Nat → Int) (w : World) (hy : w.rangeAt b1 o1 (syC y).toList) (hz : w.rangeAt b2 o2 (syC z).toList) (ky : byte6 y) (kz : byte6 z) :
    (Extern.BytealgCompare.compare #[.slice (some ⟨b1, o1, none⟩) 6 c1, .slice (some ⟨b2, o2, none⟩) 6 c2]).run Tryz.prog w = .ok (.int .i64 (cmp3 (numZ y 0 6) (numZ z 0 6))) w := by
  change Sem.run Tryz.prog (do pure (goInt (Extern.BytealgCompare.cmp (← Extern.Bytes.loadBytes ⟨b1, o1, none⟩ (lst6 y).length .empty) (← Extern.Bytes.loadBytes ⟨b2, o2, none⟩ (lst6 z).length .empty)))) w = _
  simp only [Sem.run_bind, Lib.run_loadBytesX w (lst6 y) ⟨b1, o1, none⟩ .empty (row6_list hy), Lib.run_loadBytesX w (lst6 z) ⟨b2, o2, none⟩ .empty (row6_list hz), Result.andThen, Sem.run_pure]
  rw [Lib.cmp_eq, ← cmp6_bytes ky kz]
  rfl
set_option maxHeartbeats 8000000 in
set_option maxRecDepth 100000 in
theorem cmp6_any (b1 o1 c1 b2 o2 c2 : Nat) (y z : Nat → Int) (w : World) (hy : w.rangeAt b1 o1 (syC y).toList) (hz : w.rangeAt b2 o2 (syC z).toList) (ky : byte6 y) (kz : byte6 z) :
    Calls Tryz.prog 65 #[.slice (some ⟨b1, o1, none⟩) 6 c1, .slice (some ⟨b2, o2, none⟩) 6 c2] w fun e w' => e = .returned (.int .i64 (cmp3 (numZ y 0 6) (numZ z 0 6))) ∧ w' = w := by
  have hrun := run_cmp6 b1 o1 c1 b2 o2 c2 y z w hy hz ky kz
  go_enter Tryz.func65, Tryz.ntmps65
  go_wp2
  rw [run_callFunc_extern Tryz.func89 (by kernel_rfl) (by kernel_rfl) (by kernel_rfl) (e := Extern.BytealgCompare.compare) (by kernel_rfl), hrun]
  simp only [Result.andThen]
  rw [Oper.upon_value]
  go_wp2
  go_ret
  exact ⟨rfl, rfl⟩

set_option maxHeartbeats 8000000 in
set_option maxRecDepth 100000 in
theorem isNaN_any (x : Int) (w : World) : Calls Tryz.prog 90 #[.int .u8 x] w fun e w' => e = .returned (.bool false) ∧ w' = w := by
  go_enter Tryz.func90, Tryz.ntmps90
  go_wp2_with fail
  go_ret
  exact ⟨by simp, rfl⟩
set_option maxHeartbeats 8000000 in
set_option maxRecDepth 100000 in
theorem cmpb_any (x y : Int) (w : World) : Calls Tryz.prog 66 #[.int .u8 x, .int .u8 y] w fun e w' => e = .returned (.int .i64 (cmp3 x y)) ∧ w' = w := by
  have hn := fun x W => isNaN_any x W
  go_enter Tryz.func66, Tryz.ntmps66
  by_cases h1 : x < y
  · have e : cmp3 x y = -1 := by unfold cmp3; rw [if_pos h1]
    rw [e]; clear e
    go_wp2_with (first | (go_at_call 90; refine (hn _ _).mono ?_; rintro e w' ⟨rfl, rfl⟩) | go_in)
    go_ret
    exact ⟨rfl, rfl⟩
  · by_cases h2 : y < x
    · have e : cmp3 x y = 1 := by unfold cmp3; rw [if_neg h1, if_pos h2]
      rw [e]; clear e
      go_wp2_with (first | (go_at_call 90; refine (hn _ _).mono ?_; rintro e w' ⟨rfl, rfl⟩) | go_in)
      go_ret
      exact ⟨rfl, rfl⟩
    · have e : cmp3 x y = 0 := by unfold cmp3; rw [if_neg h1, if_neg h2]
      rw [e]; clear e
      go_wp2_with (first | (go_at_call 90; refine (hn _ _).mono ?_; rintro e w' ⟨rfl, rfl⟩) | go_in)
      go_ret
      exact ⟨rfl, rfl⟩
theorem or_cmp {x y : Nat} (hx : IdOk x) (hy : IdOk y) : or3 (cmp3 (numZ (dg x) 0 6) (numZ (dg y) 0 6)) (cmp3 (dg x 6) (dg y 6)) (cmp3 (dg x 7) (dg y 7)) = cmp3 (x : Int) (y : Int) := by
  rw [num_hi hx, num_hi hy]
  unfold IdOk at hx hy
  simp only [dg, pw]
  unfold or3 cmp3
  repeat' split
  all_goals first | rfl | omega
theorem Blk.sys6 {w : World} {g n : Nat} (h : Blk 35 w g (iC n)) : w.rangeAt g 0 (syC (dg n)).toList := h.range (six ⟨rfl, rfl, rfl, rfl, rfl, rfl⟩)
abbrev IdT := { n : Nat // IdOk n }
instance : Inhabited IdT := ⟨⟨0, by unfold IdOk; decide⟩⟩
set_option maxHeartbeats 16000000 in
set_option maxRecDepth 100000 in
theorem order_any (x y : Nat) (W : World) (hx : IdOk x) (hy : IdOk y) : Calls Tryz.prog 36 #[.agg (iC x), .agg (iC y)] W fun e w' => e = .returned (.int .i64 (cmp3 (x : Int) (y : Int))) ∧ ∃ q os', w' = grow (W.drewN q) os' := by
  have HE := Lib.hid (or_cmp hx hy)
  clear hx hy
  go_enter Tryz.func36, Tryz.ntmps36
  go_wp2_with fail
  obtain ⟨W2, hW2⟩ : ∃ W2, (W.alloc (.cells (iC x) 35)).alloc (.cells (iC y) 35) = W2 := ⟨_, rfl⟩
  have k1 : Blk 35 W2 W.heap.size (iC x) := by rw [← hW2]; exact (Below.heap_alloc _ _ _ (by simp)).trans (heap_alloc_new W _)
  have k2 : Blk 35 W2 (W.heap.size + 1) (iC y) := by
    rw [← hW2]
    have h := heap_alloc_new (W.alloc (.cells (iC x) 35)) (.cells (iC y) 35)
    rw [World.size_alloc] at h
    exact h
  have HW : Hid (∀ o, ∃ os', W2.drew.alloc o = grow (W.drewN 1) os') := Lib.hid fun o => ⟨_, by
    rw [← hW2, alloc_eq_grow, alloc_eq_grow, alloc_eq_grow, grow_grow]
    change grow (grow W.drew (#[Obj.cells (iC x) _] ++ #[Obj.cells (iC y) _])) #[o] = _
    rw [grow_grow]
    rfl⟩
  rw [hW2]
  clear hW2
  obtain ⟨N1, hN1⟩ : ∃ N, W.heap.size = N := ⟨_, rfl⟩
  rw [hN1] at k1 k2 ⊢
  clear hN1
  obtain ⟨N2, hN2⟩ : ∃ N, N1 + 1 = N := ⟨_, rfl⟩
  rw [hN2] at k2 ⊢
  clear hN2
  refine wp_region_held_drew (S := fun w' => Blk 35 w' N1 (iC x) ∧ Blk 35 w' N2 (iC y)) (by kernel_rfl) ⟨k1, k2⟩ (fun hS => ?_)
  clear k1 k2
  generalize hW3 : W2.drew = W3 at hS ⊢
  rw [hW3] at HW
  clear hW3
  refine tY (i := 0) (some 5) (v := .pointer (some ⟨N1, 0, none⟩)) rfl rfl (fun w' hS => by clear hS; go_simp) hS ?_
  simp only [Act.put, pA, pB, pC]
  refine tY (i := 1) (some 6) (v := .pointer (some ⟨N1, 0, none⟩)) rfl rfl (fun w' hS => by clear hS; go_simp) hS ?_
  simp only [Act.put, pA, pB, pC]
  refine tY (i := 2) (some 7) (v := .slice (some ⟨N1, 0, none⟩) 6 6) rfl rfl (fun w' hS => by clear hS; go_simp) hS ?_
  simp only [Act.put, pA, pB, pC]
  refine tY (i := 3) (some 8) (v := .pointer (some ⟨N2, 0, none⟩)) rfl rfl (fun w' hS => by clear hS; go_simp) hS ?_
  simp only [Act.put, pA, pB, pC]
  refine tY (i := 4) (some 9) (v := .pointer (some ⟨N2, 0, none⟩)) rfl rfl (fun w' hS => by clear hS; go_simp) hS ?_
  simp only [Act.put, pA, pB, pC]
  refine tY (i := 5) (some 10) (v := .slice (some ⟨N2, 0, none⟩) 6 6) rfl rfl (fun w' hS => by clear hS; go_simp) hS ?_
  simp only [Act.put, pA, pB, pC]
  refine tY (i := 7) (some 12) (v := .pointer (some ⟨N1, 0, none⟩)) rfl rfl (fun w' hS => by clear hS; go_simp) hS ?_
  simp only [Act.put, pA, pB, pC]
  refine tY (i := 8) (some 13) (v := .pointer (some ⟨N1, 6, none⟩)) rfl rfl (fun w' hS => by clear hS; go_simp) hS ?_
  simp only [Act.put, pA, pB, pC]
  refine tY (i := 9) (some 14) (v := .int .u8 (dg x 6)) rfl rfl (fun w' hS => by (have c9 : w'.cell? ⟨N1, 6, none⟩ = some (.int .u8 (dg x 6)) := (hS.1.cell 6).trans rfl; clear hS; go_simp)) hS ?_
  simp only [Act.put, pA, pB, pC]
  refine tY (i := 10) (some 15) (v := .pointer (some ⟨N2, 0, none⟩)) rfl rfl (fun w' hS => by clear hS; go_simp) hS ?_
  simp only [Act.put, pA, pB, pC]
  refine tY (i := 11) (some 16) (v := .pointer (some ⟨N2, 6, none⟩)) rfl rfl (fun w' hS => by clear hS; go_simp) hS ?_
  simp only [Act.put, pA, pB, pC]
  refine tY (i := 12) (some 17) (v := .int .u8 (dg y 6)) rfl rfl (fun w' hS => by (have c9 : w'.cell? ⟨N2, 6, none⟩ = some (.int .u8 (dg y 6)) := (hS.2.cell 6).trans rfl; clear hS; go_simp)) hS ?_
  simp only [Act.put, pA, pB, pC]
  refine tY (i := 14) (some 19) (v := .pointer (some ⟨N1, 7, none⟩)) rfl rfl (fun w' hS => by clear hS; go_simp) hS ?_
  simp only [Act.put, pA, pB, pC]
  refine tY (i := 15) (some 20) (v := .int .u8 (dg x 7)) rfl rfl (fun w' hS => by (have c9 : w'.cell? ⟨N1, 7, none⟩ = some (.int .u8 (dg x 7)) := (hS.1.cell 7).trans rfl; clear hS; go_simp)) hS ?_
  simp only [Act.put, pA, pB, pC]
  refine tY (i := 16) (some 21) (v := .pointer (some ⟨N2, 7, none⟩)) rfl rfl (fun w' hS => by clear hS; go_simp) hS ?_
  simp only [Act.put, pA, pB, pC]
  refine tY (i := 17) (some 22) (v := .int .u8 (dg y 7)) rfl rfl (fun w' hS => by (have c9 : w'.cell? ⟨N2, 7, none⟩ = some (.int .u8 (dg y 7)) := (hS.2.cell 7).trans rfl; clear hS; go_simp)) hS ?_
  simp only [Act.put, pA, pB, pC]
  refine takeC (i := 6) (some 11) 65 #[.slice (some ⟨N1, 0, none⟩) 6 6, .slice (some ⟨N2, 0, none⟩) 6 6] (.int .i64 (cmp3 (numZ (dg x) 0 6) (numZ (dg y) 0 6))) (R := fun w' => W3 = w') rfl rfl (by kernel_rfl) (by rfl) (by go_simp) ((cmp6_any _ _ _ _ _ _ (dg x) (dg y) W3 hS.1.sys6 hS.2.sys6 (dg_bd x) (dg_bd y)).mono (fun e w' h => ⟨h.1, h.2.symm⟩)) (fun w' h => h ▸ hS) (fun w3 h3 _ => ?_)
  subst h3
  simp only [Act.put, pA, pB, pC]
  refine takeC (i := 13) (some 18) 66 #[.int .u8 (dg x 6), .int .u8 (dg y 6)] (.int .i64 (cmp3 (dg x 6) (dg y 6))) (R := fun w' => W3 = w') rfl rfl (by kernel_rfl) (by rfl) (by go_simp) ((cmpb_any _ _ W3).mono (fun e w' h => ⟨h.1, h.2.symm⟩)) (fun w' h => h ▸ hS) (fun w3 h3 _ => ?_)
  subst h3
  simp only [Act.put, pA, pB, pC]
  refine takeC (i := 18) (some 23) 66 #[.int .u8 (dg x 7), .int .u8 (dg y 7)] (.int .i64 (cmp3 (dg x 7) (dg y 7))) (R := fun w' => W3 = w') rfl rfl (by kernel_rfl) (by rfl) (by go_simp) ((cmpb_any _ _ W3).mono (fun e w' h => ⟨h.1, h.2.symm⟩)) (fun w' h => h ▸ hS) (fun w3 h3 _ => ?_)
  subst h3
  simp only [Act.put, pA, pB, pC]
  obtain ⟨N3, hN3⟩ : ∃ N, W3.heap.size = N := ⟨_, rfl⟩
  obtain ⟨W4, hW4⟩ : ∃ W4, W3.alloc (.cells #[.int .i64 (cmp3 (numZ (dg x) 0 6) (numZ (dg y) 0 6)), .int .i64 (cmp3 (dg x 6) (dg y 6)), .int .i64 (cmp3 (dg x 7) (dg y 7))] 3) = W4 := ⟨_, rfl⟩
  have hb4 : Below W3.heap.size W3 W4 := by rw [← hW4]; exact (Below.refl _ _).alloc (Nat.le_refl _) _
  have k4 : Blk 3 W4 N3 #[.int .i64 (cmp3 (numZ (dg x) 0 6) (numZ (dg y) 0 6)), .int .i64 (cmp3 (dg x 6) (dg y 6)), .int .i64 (cmp3 (dg x 7) (dg y 7))] := by rw [← hW4, ← hN3]; exact heap_alloc_new W3 _
  have hS4 : Blk 35 W4 N1 (iC x) ∧ Blk 35 W4 N2 (iC y) := ⟨hS.1.below hb4 hS.1.lt, hS.2.below hb4 hS.2.lt⟩
  refine takeV (i := 19) (some 24) (v := .slice (some ⟨N3, 0, none⟩) 3 3) (w' := W4) rfl rfl (by kernel_rfl) (by rfl) (by rw [← hN3, ← hW4]; exact bs_int W3 _ _ rfl _ _ _ rfl rfl rfl) hS4 ?_
  simp only [Act.put, pA, pB, pC]
  refine takeC (i := 20) (some 25) 64 #[.slice (some ⟨N3, 0, none⟩) 3 3] (.int .i64 (cmp3 (x : Int) (y : Int))) (R := fun w' => W4 = w') rfl rfl (by kernel_rfl) (by rfl) (by go_simp) ((or_any N3 _ _ _ W4 k4).mono (fun e w' h => ⟨by rw [h.1, HE.out], h.2.symm⟩)) (fun w' h => h ▸ hS4) (fun w3 h3 _ => ?_)
  subst h3
  simp only [Act.put, pA, pB, pC]
  refine tY (i := 21) (some 4) (v := .int .i64 (cmp3 (x : Int) (y : Int))) rfl rfl (fun w' hS => by clear hS; go_simp) hS4 ?_
  simp only [Act.put, pA, pB, pC]
  refine wpAnyH_done (by kernel_rfl) ?_ _
  go_wp2_with fail
  go_ret
  obtain ⟨os', h⟩ := HW.out (.cells #[.int .i64 (cmp3 (numZ (dg x) 0 6) (numZ (dg y) 0 6)), .int .i64 (cmp3 (dg x 6) (dg y 6)), .int .i64 (cmp3 (dg x 7) (dg y 7))] 3)
  exact ⟨rfl, 1, os', by rw [← hW4]; exact h⟩
end Go.Proofs.YtkiaijmhoikdiaaGreat

/- store.read: what is held of bytes, or why not. Each theorem states its conditions. -/
namespace Go.Proofs.YtkiaijmhoikdiaaGreat
open Go.RowKit
set_option linter.unusedVariables false
set_option linter.unusedSimpArgs false

theorem zero_pdP : (Tryz.prog.info? 127).map (·.zero) = some (some (.agg (pdC pd0))) := by kernel_rfl
theorem pd_over (p q : Pd) : putMany (pdC q) 0 (pdC p).toList = pdC p := by kernel_rfl
theorem iC_z {z : Nat → Int} (hz : ∀ j, 0 ≤ z j ∧ z j ≤ 255) : iC (idZ z) = #[.int .u8 (z 12), .int .u8 (z 13), .int .u8 (z 14), .int .u8 (z 15), .int .u8 (z 16), .int .u8 (z 17), .int .u8 (z 18), .int .u8 (z 19)] := by
  have h := fun i hi => dg_idZ z hz i hi
  unfold iC
  rw [h 0 (by decide), h 1 (by decide), h 2 (by decide), h 3 (by decide), h 4 (by decide), h 5 (by decide), h 6 (by decide), h 7 (by decide)]
theorem eight8 {P : Nat → Prop} (h : P 0 ∧ P 1 ∧ P 2 ∧ P 3 ∧ P 4 ∧ P 5 ∧ P 6 ∧ P 7) (j : Nat) (hj : j < 8) : P j := by
  rcases (by omega : j = 0 ∨ j = 1 ∨ j = 2 ∨ j = 3 ∨ j = 4 ∨ j = 5 ∨ j = 6 ∨ j = 7) with rfl | rfl | rfl | rfl | rfl | rfl | rfl | rfl <;> simp_all
theorem rd2 (z : Nat → Int) : (rdP 2 z).kd = z 4 ∧ (rdP 2 z).li = (((numZ (fun j => z (10 + j)) 0 2).toNat : Nat) : Int) ∧ (rdP 2 z).id = (fun j => z (12 + j)) ∧ (rdP 2 z).sq = (numZ (fun j => z (20 + j)) 0 4).toNat := ⟨rdP_kd 2 z, rfl, rfl, rfl⟩
theorem build_enS (o : Oper) (e : Operand → Value) (x0 x1 x2 x3 : Operand) (ho : o.op = .build 58 #[(0, x0), (1, x1), (2, x2), (3, x3)]) (i : Nat) (sq su : Nat) (li : Int) (h0 : e x0 = .agg (iC i)) (h1 : e x1 = .int .u32 (sq : Int)) (h2 : e x2 = .int .i64 li) (h3 : e x3 = .int .u16 (su : Int)) (W : World) :
    (execOp e o).run Tryz.prog W = .ok (.value (.agg (enC ⟨dg i, sq, li, su⟩))) W := by
  unfold execOp
  simp only [ho]
  simp only [List.map_toArray, List.map_cons, List.map_nil, h0, h1, h2, h3]
  kernel_rfl
theorem build_hd (o : Oper) (e : Operand → Value) (x0 x1 : Operand) (ho : o.op = .build 91 #[(0, x0), (1, x1)]) (h : Hd) (A : Option Addr) (c : Nat) (hp : h.pu = 0) (h0 : e x0 = .agg (enC (hdE h))) (h1 : e x1 = .slice A h.n c) (W : World) :
    (execOp e o).run Tryz.prog W = .ok (.value (.agg (hdC h A c))) W := by
  obtain ⟨i, sq, li, su, n, z, pu⟩ := h
  subst hp
  unfold execOp
  simp only [ho]
  simp only [List.map_toArray, List.map_cons, List.map_nil, h0, h1]
  kernel_rfl
def ReadOk (w : World) (n : Nat) (z : Nat → Int) (B : Option Addr) (c : Nat) (e : Ending) (w' : World) : Prop :=
  ∃ g, e = .returned (.tuple #[.pointer (some ⟨g, 0, none⟩), .int .i64 0]) ∧ w.heap.size ≤ g ∧ Blk 91 w' g (hdC (hdZ n z) B c) ∧ Below w.heap.size w w'
def ReadNo (w : World) (E : Int) (e : Ending) (w' : World) : Prop := e = .returned (.tuple #[.pointer none, .int .i64 E]) ∧ Below w.heap.size w w'
theorem or16 (a b : Int) (ha : 0 ≤ a ∧ a ≤ 255) (hb : 0 ≤ b ∧ b ≤ 255) : Go.bits BinOp.or IntKind.u16 (a * 256) b = a * 256 + b := by
  obtain ⟨x, rfl⟩ : ∃ x : Nat, a = x := ⟨a.toNat, by omega⟩
  obtain ⟨y, rfl⟩ : ∃ y : Nat, b = y := ⟨b.toNat, by omega⟩
  have e1 : (BitVec.ofInt 16 ((x : Int) * 256)).toNat = x <<< 8 := by
    rw [BitVec.toNat_ofInt, Nat.shiftLeft_eq]
    omega
  have e2 : (BitVec.ofInt 16 (y : Int)).toNat = y := by
    rw [BitVec.toNat_ofInt]
    omega
  show IntKind.u16.wrap ((BitVec.ofInt 16 ((x : Int) * 256) ||| BitVec.ofInt 16 (y : Int)).toNat : Int) = _
  rw [BitVec.toNat_or, e1, e2, ← Nat.shiftLeft_add_eq_or_of_lt (by omega : y < 2 ^ 8), Nat.shiftLeft_eq, wU2 _ (by omega)]
  omega
theorem w16 (a : Int) (h : 0 ≤ a ∧ a ≤ 65535) : IntKind.u16.wrap a = a := by simp [IntKind.wrap, IntKind.signed, IntKind.bits]; omega
set_option maxHeartbeats 8000000 in
set_option maxRecDepth 100000 in
theorem read_err (B : Option Addr) (n c : Nat) (w : World) (E : Int) (hE : E = 2 ∨ E = 3 ∨ E = 8) (hrd : Calls Tryz.prog 68 #[.slice B n c] w (RdErr w E)) : Calls Tryz.prog 43 #[.slice B n c] w (ReadNo w E) := by
  have HRD := Lib.hid hrd
  have hE2 : (E != 0) = true := by rcases hE with rfl | rfl | rfl <;> rfl
  clear hrd hE
  go_enter Tryz.func43, Tryz.ntmps43
  go_wp2_with fail
  refine HRD.out.mono ?_
  rintro e w1 ⟨rfl, b1⟩
  have HB := Lib.hid b1
  clear b1
  obtain ⟨N2, hN2⟩ : ∃ N, w1.heap.size = N := ⟨_, rfl⟩
  have HN2 := Lib.hid hN2
  clear hN2
  go_wp2_with (refine wpList_new (op := ⟨some 4, _, _, _, _, _⟩) rfl 127 rfl (pdC pd0) zero_pdP N2 HN2.out ?_; intro w2 k1 b1 s1; refine Hid.out ?_)
  refine Lib.hid ?_
  have K4 := Lib.hid k1
  clear k1
  have le_HB_N2 : w.heap.size ≤ N2 := by rw [← HN2.out]; exact HB.out.size
  replace HB := Lib.hid (HB.out.trans (b1.mono HB.out.size))
  clear b1 HN2
  go_wp2_with (refine wpList_st rfl 127 (.tmp 4) (.tmp 10) rfl N2 0 rfl (.agg (pdC pd0)) (pdC pd0) rfl rfl info_pdP (pdC_one _) K4.out (Nat.le_of_ble_eq_true rfl) (C' := pdC pd0) (pd_over _ _) ?_; intro w20 q1; refine Hid.out ?_)
  refine Lib.hid ?_
  replace HB := Lib.hid (HB.out.trans (q1.2.1 _ (by omega)))
  replace K4 : Hid (Blk 127 w20 N2 (pdC pd0)) := Lib.hid q1.1
  clear q1
  go_wp2_with fail
  refine bodyPost_ret (v := .tuple #[.pointer none, .int .i64 E]) (by simp [results, Tryz.f43, go_sem]) rfl ?_
  exact ⟨rfl, HB.out⟩
set_option maxHeartbeats 16000000 in
set_option maxRecDepth 100000 in
theorem read_yes (B : Option Addr) (n c : Nat) (z : Nat → Int) (q m : Nat) (w : World) (hq : cls (z 4) = q) (hn : 27 ≤ n) (hB : Rd w B n z) (hc : n ≤ c) (hcm : c ≤ maxLen) (hrd : Calls Tryz.prog 68 #[.slice B n c] w (RdOk w q z m)) :
    Calls Tryz.prog 43 #[.slice B n c] w (fun e w' => (q = 2 ∧ ReadOk w n z B c e w') ∨ (q ≠ 2 ∧ ReadNo w 3 e w')) := by
  have HRD := Lib.hid hrd
  have HQ := Lib.hid hq
  have hz := hB.2
  obtain ⟨b, off, rfl, hr⟩ := hB.row (by omega)
  have HR := Lib.hid hr
  have hcm2 : c ≤ 9223372036854775807 := hcm
  have HZ := Lib.hid hz
  have h24 : (24 : Int) < (n : Int) := by omega
  have h25 : (25 : Int) < (n : Int) := by omega
  clear hrd hB hr hcm hz hq
  go_enter Tryz.func43, Tryz.ntmps43
  go_wp2_with fail
  refine HRD.out.mono ?_
  rintro e w1 ⟨A7, c7, L, rfl, ho, hI, hA7, hc71, hc72, b1⟩
  clear ho hI hA7 hc71 hc72
  have HB := Lib.hid b1
  clear b1 HRD
  obtain ⟨p, hp⟩ : ∃ p, withT (rdP q z) A7 m c7 = p := ⟨_, rfl⟩
  rw [hp]
  have hkd : p.kd = z 4 := by rw [← hp]; exact rdP_kd q z
  have HP := Lib.hid hp
  have HKD := Lib.hid hkd
  clear hp hkd
  obtain ⟨N2, hN2⟩ : ∃ N, w1.heap.size = N := ⟨_, rfl⟩
  have HN2 := Lib.hid hN2
  clear hN2
  go_wp2_with (refine wpList_new (op := ⟨some 4, _, _, _, _, _⟩) rfl 127 rfl (pdC pd0) zero_pdP N2 HN2.out ?_; intro w2 k1 b1 s1; refine Hid.out ?_)
  refine Lib.hid ?_
  have K4 := Lib.hid k1
  clear k1
  have le_HB_N2 : w.heap.size ≤ N2 := by rw [← HN2.out]; exact HB.out.size
  replace HB := Lib.hid (HB.out.trans (b1.mono HB.out.size))
  clear b1 HN2
  go_wp2_with (refine wpList_st rfl 127 (.tmp 4) (.tmp 10) rfl N2 0 rfl (.agg (pdC p)) (pdC p) rfl rfl info_pdP (pdC_one _) K4.out (Nat.le_of_ble_eq_true rfl) (C' := pdC p) (pd_over _ _) ?_; intro w20 q1; refine Hid.out ?_)
  refine Lib.hid ?_
  replace HB := Lib.hid (HB.out.trans (q1.2.1 _ (by omega)))
  replace K4 : Hid (Blk 127 w20 N2 (pdC p)) := Lib.hid q1.1
  clear q1
  obtain ⟨kd, hkd⟩ : ∃ k, z 4 = k := ⟨_, rfl⟩
  rw [hkd] at HQ HKD
  have c0 : w20.cell? ⟨N2, 0, none⟩ = some (.int .u8 kd) := (K4.out.cell 0).trans (by rw [pdC_0, HKD.out])
  clear hkd
  by_cases hk : kd = 18 ∨ kd = 20
  · have hq2 : q = 2 := by have := HQ.out; unfold cls at this; (repeat' split at this) <;> omega
    subst hq2
    obtain ⟨r1, r2, r3, r4⟩ := rd2 z
    have hli : p.li = (((numZ (fun j => z (10 + j)) 0 2).toNat : Nat) : Int) := by rw [← HP.out]; exact r2
    have hsq : p.sq = (numZ (fun j => z (20 + j)) 0 4).toNat := by rw [← HP.out]; exact r4
    have hid : p.id = fun j => z (12 + j) := by rw [← HP.out]; exact r3
    have HF := Lib.hid (And.intro hli (And.intro hsq hid))
    clear hli hsq hid r1 r2 r3 r4
    obtain ⟨y4, hy4⟩ : ∃ y, z 24 = y := ⟨_, rfl⟩
    obtain ⟨y5, hy5⟩ : ∃ y, z 25 = y := ⟨_, rfl⟩
    have by4 : 0 ≤ y4 ∧ y4 ≤ 255 := by rw [← hy4]; exact HZ.out 24
    have by5 : 0 ≤ y5 ∧ y5 ≤ 255 := by rw [← hy5]; exact HZ.out 25
    have HRc := Lib.hid (HR.out.below' HB.out)
    have c24 : w20.cell? ⟨b, off + 24, none⟩ = some (.int .u8 y4) := by rw [← hy4]; exact HRc.out.2.1 24 (by omega)
    have c25 : w20.cell? ⟨b, off + 25, none⟩ = some (.int .u8 y5) := by rw [← hy5]; exact HRc.out.2.1 25 (by omega)
    have HY := Lib.hid (And.intro hy4 hy5)
    clear hy4 hy5
    obtain ⟨su, hsu⟩ : ∃ s : Nat, (y4 * 256 + y5).toNat = s := ⟨_, rfl⟩
    have hsu2 : y4 * 256 + y5 = (su : Int) := by omega
    have HSU : Hid ((z 24 * 256 + z 25).toNat = su) := Lib.hid (by rw [HY.out.1, HY.out.2]; exact hsu)
    clear hsu
    have W4 := Lib.hid (w16 y4 (by omega))
    have W5 := Lib.hid (w16 y5 (by omega))
    have W6 := Lib.hid (w16 (y4 * 256) (by omega))
    have HOR := Lib.hid ((or16 y4 y5 by4 by5).trans hsu2)
    clear hsu2
    rcases hk with rfl | rfl
    · have h18 : ((18 : Int) != 18) = false := rfl
      go_wp2_with fail
      refine wp_region_held_drew (S := fun w' => Blk 127 w' N2 (pdC p) ∧ Row8 w' b off n z ∧ Below w.heap.size w w') (by kernel_rfl) ⟨K4.out, HRc.out, HB.out.drew⟩ (fun hS => ?_)
      generalize hW51 : w20.drew = W51 at hS  ⊢
      clear hW51
      clear K4
      clear HRc
      clear HB
      have K4 := Lib.hid hS.1
      have HRc := Lib.hid hS.2.1
      have HB := Lib.hid hS.2.2
      refine tY (i := 0) (some 25) (v := .slice (some ⟨b, off, none⟩) n c) rfl rfl (fun w' hS => by clear hS; go_simp) hS ?_
      simp only [Act.put, pA, pB, pC]
      refine tY (i := 1) (some 26) (v := .pointer (some ⟨b, off + 24, none⟩)) rfl rfl (fun w' hS => by clear hS; go_simp) hS ?_
      simp only [Act.put, pA, pB, pC]
      refine tY (i := 2) (some 27) (v := .int .u8 y4) rfl rfl (fun w' hS => by (have c9 : w'.cell? ⟨b, off + 24, none⟩ = some (.int .u8 y4) := (by rw [← HY.out.1]; exact hS.2.1.2.1 24 (by omega)); clear hS; go_simp)) hS ?_
      simp only [Act.put, pA, pB, pC]
      refine tY (i := 3) (some 28) (v := .int .u16 y4) rfl rfl (fun w' hS => by clear hS; go_simp; exact W4.out) hS ?_
      simp only [Act.put, pA, pB, pC]
      refine tY (i := 4) (some 29) (v := .int .u16 (y4 * 256)) rfl rfl (fun w' hS => by clear hS; go_simp; exact W6.out) hS ?_
      simp only [Act.put, pA, pB, pC]
      refine tY (i := 5) (some 30) (v := .slice (some ⟨b, off, none⟩) n c) rfl rfl (fun w' hS => by clear hS; go_simp) hS ?_
      simp only [Act.put, pA, pB, pC]
      refine tY (i := 6) (some 31) (v := .pointer (some ⟨b, off + 25, none⟩)) rfl rfl (fun w' hS => by clear hS; go_simp) hS ?_
      simp only [Act.put, pA, pB, pC]
      refine tY (i := 7) (some 32) (v := .int .u8 y5) rfl rfl (fun w' hS => by (have c9 : w'.cell? ⟨b, off + 25, none⟩ = some (.int .u8 y5) := (by rw [← HY.out.2]; exact hS.2.1.2.1 25 (by omega)); clear hS; go_simp)) hS ?_
      simp only [Act.put, pA, pB, pC]
      refine tY (i := 8) (some 33) (v := .int .u16 y5) rfl rfl (fun w' hS => by clear hS; go_simp; exact W5.out) hS ?_
      simp only [Act.put, pA, pB, pC]
      refine tY (i := 9) (some 34) (v := .int .u16 (su : Int)) rfl rfl (fun w' hS => by clear hS; go_simp; exact HOR.out) hS ?_
      simp only [Act.put, pA, pB, pC]
      refine tY (i := 10) (some 6) (v := .int .u16 (su : Int)) rfl rfl (fun w' hS => by clear hS; go_simp) hS ?_
      simp only [Act.put, pA, pB, pC]
      clear hS
      refine wpAnyH_done (by kernel_rfl) ?_ _
      have HI : Hid (W51.rangeAt N2 20 (iC (idZ z)).toList) := Lib.hid (by
        rw [iC_z HZ.out]
        refine K4.out.range (eight8 ?_)
        have h := HF.out.2.2
        refine ⟨?_, ?_, ?_, ?_, ?_, ?_, ?_, ?_⟩
        · show some (Value.int .u8 (p.id 0)) = some (Value.int .u8 (z 12)); rw [h]
        · show some (Value.int .u8 (p.id 1)) = some (Value.int .u8 (z 13)); rw [h]
        · show some (Value.int .u8 (p.id 2)) = some (Value.int .u8 (z 14)); rw [h]
        · show some (Value.int .u8 (p.id 3)) = some (Value.int .u8 (z 15)); rw [h]
        · show some (Value.int .u8 (p.id 4)) = some (Value.int .u8 (z 16)); rw [h]
        · show some (Value.int .u8 (p.id 5)) = some (Value.int .u8 (z 17)); rw [h]
        · show some (Value.int .u8 (p.id 6)) = some (Value.int .u8 (z 18)); rw [h]
        · show some (Value.int .u8 (p.id 7)) = some (Value.int .u8 (z 19)); rw [h])
      have csq : W51.cell? ⟨N2, 28, none⟩ = some (.int .u32 (((numZ (fun j => z (20 + j)) 0 4).toNat : Nat) : Int)) := (K4.out.cell 28).trans (by show some (Value.int .u32 (p.sq : Int)) = _; rw [HF.out.2.1])
      have cli : W51.cell? ⟨N2, 19, none⟩ = some (.int .i64 (((numZ (fun j => z (10 + j)) 0 2).toNat : Nat) : Int)) := (K4.out.cell 19).trans (by show some (Value.int .i64 p.li) = _; rw [HF.out.1])
      obtain ⟨sq, hsq⟩ : ∃ s, (numZ (fun j => z (20 + j)) 0 4).toNat = s := ⟨_, rfl⟩
      obtain ⟨li, hli⟩ : ∃ s, (((numZ (fun j => z (10 + j)) 0 2).toNat : Nat) : Int) = s := ⟨_, rfl⟩
      rw [hsq] at csq
      rw [hli] at cli
      have HH : Hid (hdZ n z = ⟨idZ z, sq, li, su, n, z, 0⟩) := Lib.hid (by unfold hdZ; rw [hsq, hli, HSU.out])
      clear hsq hli
      go_wp2_with (refine wpList_v (op := ⟨some 36, _, _, _, _, _⟩) rfl (.agg (iC (idZ z))) (load_rng _ _ 35 _ rfl N2 20 rfl (iC (idZ z)).toList _ HI.out Tryz.underlying35 rfl info_iC) ?_; refine Hid.out ?_)
      refine Lib.hid ?_
      go_wp2_with (refine wpList_v (op := ⟨some 42, _, _, _, _, _⟩) rfl (.agg (enC ⟨dg (idZ z), sq, li, su⟩)) (build_enS _ _ _ _ _ _ rfl _ _ _ _ rfl rfl rfl rfl _) ?_; refine Hid.out ?_)
      refine Lib.hid ?_
      go_wp2_with (refine wpList_v (op := ⟨some 44, _, _, _, _, _⟩) rfl (.agg (hdC ⟨idZ z, sq, li, su, n, z, 0⟩ (some ⟨b, off, none⟩) c)) (build_hd _ _ _ _ rfl ⟨idZ z, sq, li, su, n, z, 0⟩ _ _ rfl rfl rfl _) ?_; refine Hid.out ?_)
      refine Lib.hid ?_
      obtain ⟨N81, hN81⟩ : ∃ N, W51.heap.size = N := ⟨_, rfl⟩
      have HN81 := Lib.hid hN81
      clear hN81
      go_wp2_with (refine wpList_box (op := ⟨some 45, _, _, _, _, _⟩) rfl 91 (.tmp 44) rfl (hdC ⟨idZ z, sq, li, su, n, z, 0⟩ (some ⟨b, off, none⟩) c) rfl N81 HN81.out ?_; intro w81 k1 b1 s1; refine Hid.out ?_)
      refine Lib.hid ?_
      have K45 := Lib.hid k1
      clear k1
      have lt_N2_N81 : N2 < N81 := by rw [← HN81.out]; exact K4.out.lt
      have lt_b_N81 : b < N81 := by rw [← HN81.out]; exact HRc.out.lt
      have le_HB_N81 : w.heap.size ≤ N81 := by rw [← HN81.out]; exact HB.out.size
      replace K4 := Lib.hid (K4.out.below b1 K4.out.lt)
      replace HRc := Lib.hid (HRc.out.below b1 HRc.out.lt)
      replace HB := Lib.hid (HB.out.trans (b1.mono HB.out.size))
      clear b1 HN81
      go_wp2_with fail
      refine bodyPost_ret (v := .tuple #[.pointer (some ⟨N81, 0, none⟩), .int .i64 0]) (by simp [results, Tryz.f43, go_sem]) rfl ?_
      exact ⟨N81, rfl, le_HB_N81, by rw [HH.out]; exact K45.out, HB.out⟩
    · have h18 : ((20 : Int) != 18) = true := rfl
      go_wp2_with fail
      refine wp_region_held_drew (S := fun w' => Blk 127 w' N2 (pdC p) ∧ Row8 w' b off n z ∧ Below w.heap.size w w') (by kernel_rfl) ⟨K4.out, HRc.out, HB.out.drew⟩ (fun hS => ?_)
      generalize hW51 : w20.drew = W51 at hS  ⊢
      clear hW51
      clear K4
      clear HRc
      clear HB
      have K4 := Lib.hid hS.1
      have HRc := Lib.hid hS.2.1
      have HB := Lib.hid hS.2.2
      refine tY (i := 0) (some 25) (v := .slice (some ⟨b, off, none⟩) n c) rfl rfl (fun w' hS => by clear hS; go_simp) hS ?_
      simp only [Act.put, pA, pB, pC]
      refine tY (i := 1) (some 26) (v := .pointer (some ⟨b, off + 24, none⟩)) rfl rfl (fun w' hS => by clear hS; go_simp) hS ?_
      simp only [Act.put, pA, pB, pC]
      refine tY (i := 2) (some 27) (v := .int .u8 y4) rfl rfl (fun w' hS => by (have c9 : w'.cell? ⟨b, off + 24, none⟩ = some (.int .u8 y4) := (by rw [← HY.out.1]; exact hS.2.1.2.1 24 (by omega)); clear hS; go_simp)) hS ?_
      simp only [Act.put, pA, pB, pC]
      refine tY (i := 3) (some 28) (v := .int .u16 y4) rfl rfl (fun w' hS => by clear hS; go_simp; exact W4.out) hS ?_
      simp only [Act.put, pA, pB, pC]
      refine tY (i := 4) (some 29) (v := .int .u16 (y4 * 256)) rfl rfl (fun w' hS => by clear hS; go_simp; exact W6.out) hS ?_
      simp only [Act.put, pA, pB, pC]
      refine tY (i := 5) (some 30) (v := .slice (some ⟨b, off, none⟩) n c) rfl rfl (fun w' hS => by clear hS; go_simp) hS ?_
      simp only [Act.put, pA, pB, pC]
      refine tY (i := 6) (some 31) (v := .pointer (some ⟨b, off + 25, none⟩)) rfl rfl (fun w' hS => by clear hS; go_simp) hS ?_
      simp only [Act.put, pA, pB, pC]
      refine tY (i := 7) (some 32) (v := .int .u8 y5) rfl rfl (fun w' hS => by (have c9 : w'.cell? ⟨b, off + 25, none⟩ = some (.int .u8 y5) := (by rw [← HY.out.2]; exact hS.2.1.2.1 25 (by omega)); clear hS; go_simp)) hS ?_
      simp only [Act.put, pA, pB, pC]
      refine tY (i := 8) (some 33) (v := .int .u16 y5) rfl rfl (fun w' hS => by clear hS; go_simp; exact W5.out) hS ?_
      simp only [Act.put, pA, pB, pC]
      refine tY (i := 9) (some 34) (v := .int .u16 (su : Int)) rfl rfl (fun w' hS => by clear hS; go_simp; exact HOR.out) hS ?_
      simp only [Act.put, pA, pB, pC]
      refine tY (i := 10) (some 6) (v := .int .u16 (su : Int)) rfl rfl (fun w' hS => by clear hS; go_simp) hS ?_
      simp only [Act.put, pA, pB, pC]
      clear hS
      refine wpAnyH_done (by kernel_rfl) ?_ _
      have HI : Hid (W51.rangeAt N2 20 (iC (idZ z)).toList) := Lib.hid (by
        rw [iC_z HZ.out]
        refine K4.out.range (eight8 ?_)
        have h := HF.out.2.2
        refine ⟨?_, ?_, ?_, ?_, ?_, ?_, ?_, ?_⟩
        · show some (Value.int .u8 (p.id 0)) = some (Value.int .u8 (z 12)); rw [h]
        · show some (Value.int .u8 (p.id 1)) = some (Value.int .u8 (z 13)); rw [h]
        · show some (Value.int .u8 (p.id 2)) = some (Value.int .u8 (z 14)); rw [h]
        · show some (Value.int .u8 (p.id 3)) = some (Value.int .u8 (z 15)); rw [h]
        · show some (Value.int .u8 (p.id 4)) = some (Value.int .u8 (z 16)); rw [h]
        · show some (Value.int .u8 (p.id 5)) = some (Value.int .u8 (z 17)); rw [h]
        · show some (Value.int .u8 (p.id 6)) = some (Value.int .u8 (z 18)); rw [h]
        · show some (Value.int .u8 (p.id 7)) = some (Value.int .u8 (z 19)); rw [h])
      have csq : W51.cell? ⟨N2, 28, none⟩ = some (.int .u32 (((numZ (fun j => z (20 + j)) 0 4).toNat : Nat) : Int)) := (K4.out.cell 28).trans (by show some (Value.int .u32 (p.sq : Int)) = _; rw [HF.out.2.1])
      have cli : W51.cell? ⟨N2, 19, none⟩ = some (.int .i64 (((numZ (fun j => z (10 + j)) 0 2).toNat : Nat) : Int)) := (K4.out.cell 19).trans (by show some (Value.int .i64 p.li) = _; rw [HF.out.1])
      obtain ⟨sq, hsq⟩ : ∃ s, (numZ (fun j => z (20 + j)) 0 4).toNat = s := ⟨_, rfl⟩
      obtain ⟨li, hli⟩ : ∃ s, (((numZ (fun j => z (10 + j)) 0 2).toNat : Nat) : Int) = s := ⟨_, rfl⟩
      rw [hsq] at csq
      rw [hli] at cli
      have HH : Hid (hdZ n z = ⟨idZ z, sq, li, su, n, z, 0⟩) := Lib.hid (by unfold hdZ; rw [hsq, hli, HSU.out])
      clear hsq hli
      go_wp2_with (refine wpList_v (op := ⟨some 36, _, _, _, _, _⟩) rfl (.agg (iC (idZ z))) (load_rng _ _ 35 _ rfl N2 20 rfl (iC (idZ z)).toList _ HI.out Tryz.underlying35 rfl info_iC) ?_; refine Hid.out ?_)
      refine Lib.hid ?_
      go_wp2_with (refine wpList_v (op := ⟨some 42, _, _, _, _, _⟩) rfl (.agg (enC ⟨dg (idZ z), sq, li, su⟩)) (build_enS _ _ _ _ _ _ rfl _ _ _ _ rfl rfl rfl rfl _) ?_; refine Hid.out ?_)
      refine Lib.hid ?_
      go_wp2_with (refine wpList_v (op := ⟨some 44, _, _, _, _, _⟩) rfl (.agg (hdC ⟨idZ z, sq, li, su, n, z, 0⟩ (some ⟨b, off, none⟩) c)) (build_hd _ _ _ _ rfl ⟨idZ z, sq, li, su, n, z, 0⟩ _ _ rfl rfl rfl _) ?_; refine Hid.out ?_)
      refine Lib.hid ?_
      obtain ⟨N81, hN81⟩ : ∃ N, W51.heap.size = N := ⟨_, rfl⟩
      have HN81 := Lib.hid hN81
      clear hN81
      go_wp2_with (refine wpList_box (op := ⟨some 45, _, _, _, _, _⟩) rfl 91 (.tmp 44) rfl (hdC ⟨idZ z, sq, li, su, n, z, 0⟩ (some ⟨b, off, none⟩) c) rfl N81 HN81.out ?_; intro w81 k1 b1 s1; refine Hid.out ?_)
      refine Lib.hid ?_
      have K45 := Lib.hid k1
      clear k1
      have lt_N2_N81 : N2 < N81 := by rw [← HN81.out]; exact K4.out.lt
      have lt_b_N81 : b < N81 := by rw [← HN81.out]; exact HRc.out.lt
      have le_HB_N81 : w.heap.size ≤ N81 := by rw [← HN81.out]; exact HB.out.size
      replace K4 := Lib.hid (K4.out.below b1 K4.out.lt)
      replace HRc := Lib.hid (HRc.out.below b1 HRc.out.lt)
      replace HB := Lib.hid (HB.out.trans (b1.mono HB.out.size))
      clear b1 HN81
      go_wp2_with fail
      refine bodyPost_ret (v := .tuple #[.pointer (some ⟨N81, 0, none⟩), .int .i64 0]) (by simp [results, Tryz.f43, go_sem]) rfl ?_
      exact ⟨N81, rfl, le_HB_N81, by rw [HH.out]; exact K45.out, HB.out⟩
  · have hq2 : q ≠ 2 := fun e => hk (by have := HQ.out; rw [e] at this; unfold cls at this; (repeat' split at this) <;> omega)
    have HQ2 := Lib.hid hq2
    clear hq2
    have h18 : (kd != 18) = true := by simp; omega
    have h20 : (kd != 20) = true := by simp; omega
    clear hk
    go_wp2_with fail
    refine bodyPost_ret (v := .tuple #[.pointer none, .int .i64 3]) (by simp [results, Tryz.f43, go_sem]) rfl ?_
    exact .inr ⟨HQ2.out, rfl, HB.out⟩
end Go.Proofs.YtkiaijmhoikdiaaGreat
