/- Texts of this claim put together; each theorem states its conditions. -/
import Derived.Test.YtfojfdlapekjoaaGPduReads5
import Derived.Test.YtfojfdlapekjoaaGPduReads4
import Derived.Test.YtfojfdlapekjoaaGPduReads2
import Derived.Test.YtfojfdlapekjoaaGPduReads1
import Derived.Test.YtfojfdlapekjoaaGPduReads3
import Derived.Laws.AppendOwnNone
import Derived.Deep.DeepCutAuto
import Derived.Deep.CutBlock
/- pdu.Read reads a packet. Each theorem states its conditions. -/
namespace Go.Proofs.Ytfojfdlapekjoaa
open Go.RowKit
set_option linter.unusedVariables false

/-- the bytes are of the form of a kind, as far as the TLVs -/
def FormOk (z : Nat → Int) (n : Nat) : Prop := 8 ≤ n ∧ cls (z 4) ≤ 4 ∧ hdN (cls (z 4)) ≤ n ∧ eqB z (headZ (z 4) (hdN (cls (z 4)))) 8 = true ∧ ∀ i, i < (flC (cls (z 4))).length → fAt (cls (z 4)) i = 4 → toldN (cls (z 4)) z i = n
theorem rf_good (b off n c : Nat) (z : Nat → Int) (w : World) (hr : Row8 w b off n z) (hc : n ≤ c) (hcm : c ≤ maxLen) (hn2 : n ≤ 1492) (hf : FormOk z n) (r : Bool) (hft : fitP (rdP (cls (z 4)) z) (cls (z 4)) = r) :
    Calls Try.prog 42 #[.slice (some ⟨b, off, none⟩) n c] w (RfOk w b off n c (cls (z 4)) z r) := by
  obtain ⟨h1, h2, h3, h4, h5⟩ := hf
  exact rf_ok b off n c z w hr hc hcm h1 _ rfl h2 h3 hn2 h4 (flC (cls (z 4))).length ⟨Nat.le_refl _, h5, .inl rfl⟩ rfl r hft
theorem rf_fail (A : Option Addr) (n c : Nat) (z : Nat → Int) (w : World) (hr : Rd w A n z) (hc : n ≤ c) (hcm : c ≤ maxLen) (hn2 : n ≤ 1492) (hf : ¬ FormOk z n) :
    Calls Try.prog 42 #[.slice A n c] w (RfNo w) := by
  by_cases h8 : n < 8
  · exact rf_short A n c w h8
  · obtain ⟨b, off, rfl, hr2⟩ := hr.row (by omega)
    clear hr
    have hk := cls_le (z 4)
    by_cases h5 : cls (z 4) = 5
    · exact rf_kind b off n c z w hr2 hc hcm (by omega) h5
    · by_cases hh : n < hdN (cls (z 4))
      · exact rf_head b off n c z w hr2 hc hcm (by omega) _ rfl (by omega) hh
      · cases hs : eqB z (headZ (z 4) (hdN (cls (z 4)))) 8
        · exact rf_starts b off n c z w hr2 hc hcm (by omega) _ rfl (by omega) (by omega) hs
        · obtain ⟨m, hm⟩ := lendsF (cls (z 4)) z n
          rcases hm.2.2 with h | h
          · exact absurd ⟨by omega, by omega, by omega, hs, fun i hi => hm.2.1 i (by omega)⟩ hf
          · exact rf_bad b off n c z w hr2 hc hcm (by omega) _ rfl (by omega) (by omega) hn2 hs m hm h.1
/-- the TLVs' bytes -/
def tlZ (q : Nat) (z : Nat → Int) : Nat → Int := fun j => z (hdN q + j)
/-- a packet with these TLVs -/
def withT (p : Pd) (A : Option Addr) (m c : Nat) : Pd := ⟨p.kd, p.ci, p.so, p.ho, p.nu, p.pr, p.la, p.li, p.id, p.sq, p.bi, p.st, p.en, A, m, c⟩
theorem OwnT.far {w w' : World} {base m b : Nat} {v : Value} {L : Nat → It} {C : Array Value} {t : TypeId} (h : OwnT w base v m L) (hs : Stored w w' b C t) (hb : b < base) : OwnT w' base v m L := by
  refine ⟨⟨h.1.1, ?_⟩, fun j hj => ?_⟩
  · rcases h.1.2 with h1 | ⟨g, cap, cur, hv, hg, hc, r⟩
    · exact .inl h1
    · exact .inr ⟨g, cap, cur, hv, hg, (hs.2.2 g (by omega)).trans hc, r⟩
  · obtain ⟨h1, h2, g, h3, h4, h5⟩ := h.2 j hj
    exact ⟨h1, h2, g, h3, h4, h5.block (hs.2.2 g (by omega))⟩
theorem results_rd {fn : Func} {q u : Tmp} (h : fn.results = #[.cell q 33, .tmp u]) (tmps : Array Value) (W : World) (g : Nat) (p : Pd) (x : Value)
    (hp : tmps.getD q undef = .pointer (some ⟨g, 0, none⟩)) (hg : PdT 33 W g p) (hx : tmps.getD u undef = x) : (results fn tmps).run Try.prog W = .ok (.tuple #[.agg (pdC p), x]) W := by
  have h1 := run_loadVar_row (P := Try.prog) W g 33 33 (pdC p) (0, 0) _ hg Try.underlying33 rfl info_pdP
  have hp' : (tmps[q]?).getD undef = .pointer (some ⟨g, 0, none⟩) := by simpa using hp
  have hx' : (tmps[u]?).getD undef = x := by simpa using hx
  simp only [results, h]
  simp [hp', hx', asAddr, h1]
theorem isSigned_any (b off n c : Nat) (z : Nat → Int) (w : World) (r : Bool) (hr : Row8 w b off n z) (hn : 27 ≤ n) (hn2 : n ≤ 1492) (hc : n ≤ c) (hcm : c ≤ maxLen) (hq : rightB (fun j => z (12 + j)) 12 (n - 12) = r) :
    Calls Try.prog 44 #[.slice (some ⟨b, off, none⟩) n c] w fun e w' => e = .returned (.bool r) ∧ w = w' := by
  have HR := Lib.hid (right_ok b (off + 12) (n - 12) (c - 12) (fun j => z (12 + j)) 12 w (hr.shift 12 (n - 12) (by omega)) (by omega) (by omega) (by omega))
  rw [show (12 : Int).toNat = 12 from rfl, hq] at HR
  have hne12 : ¬ c = 12 := by omega
  have q1 : ¬ n < 12 := by omega
  obtain ⟨n1, hn1⟩ : ∃ n1, n - 12 = n1 := ⟨_, rfl⟩
  obtain ⟨c1, hc1⟩ : ∃ c1, c - 12 = c1 := ⟨_, rfl⟩
  rw [hn1, hc1] at HR
  unfold maxLen at hcm
  clear hr hq
  go_enter Try.func44, Try.ntmps44
  go_wp2_with fail
  refine HR.out.mono ?_
  rintro e w1 ⟨rfl, rfl⟩
  go_wp2_with fail
  go_ret
  exact ⟨rfl, rfl⟩
/-- what Read leaves where it refuses -/
def RdErr (w : World) (E : Int) (e : Ending) (w' : World) : Prop := e = .returned (.tuple #[.agg (pdC pd0), .int .i64 E]) ∧ Below w.heap.size w w'
/-- what Read leaves where it reads -/
def RdOk (w : World) (q : Nat) (z : Nat → Int) (m : Nat) (e : Ending) (w' : World) : Prop :=
  ∃ A c L, e = .returned (.tuple #[.agg (pdC (withT (rdP q z) A m c)), .int .i64 0]) ∧ OwnT w' w.heap.size (.slice A m c) m L ∧ IsItZ (tlZ q z) L m ∧ (A = none → m = 0 ∧ c = 0) ∧ m ≤ c ∧ c ≤ maxLen ∧ Below w.heap.size w w'
set_option maxHeartbeats 4000000 in
set_option maxRecDepth 100000 in
theorem rd_long (A : Option Addr) (n c : Nat) (w : World) (h : 1492 < n) : Calls Try.prog 16 #[.slice A n c] w (RdErr w 2) := by
  obtain ⟨W1, hW1⟩ : ∃ W1, w.alloc (.cells (pdC pd0) 33) = W1 := ⟨_, rfl⟩
  obtain ⟨g, hg⟩ : ∃ g, w.heap.size = g := ⟨_, rfl⟩
  have HG1 : Hid (PdT 33 W1 g pd0) := Lib.hid (by rw [← hW1, ← hg]; exact heap_alloc_new w _)
  have HB1 : Hid (Below w.heap.size w W1) := Lib.hid (by rw [← hW1]; exact (bself w).alloc (Nat.le_refl _) _)
  have HW1 := Lib.hid hW1
  have HGG := Lib.hid hg
  clear hW1 hg
  go_enter Try.func16, Try.ntmps16
  go_wp2_with (first
    | (refine wpList_v (op := ⟨some 2, _, _, _, _, _⟩) rfl _ (alloc_P' _ _ rfl w W1 g HGG.out HW1.out) ?_)
    | (refine wpList_v rfl _ (build_0 _ _ rfl _) ?_)
    | (refine wpList_st rfl 33 (.tmp 2) (.tmp 12) rfl g 0 rfl (.agg (pdC pd0)) (pdC pd0) rfl rfl info_pdP (pdC_one _) HG1.out (Nat.le_of_ble_eq_true rfl) (pd_all _ _) ?_; intro w9 hst; refine Hid.out ?_))
  refine Lib.hid ?_
  have HG9 : Hid (PdT 33 w9 g pd0) := Lib.hid hst.1
  have HB9 : Hid (Below w.heap.size w w9) := Lib.hid (HB1.out.trans (hst.2.1 _ (by rw [HGG.out]; exact Nat.le_refl _)))
  clear hst
  go_wp2_with fail
  exact bodyPost_ret (results_rd (u := 3) rfl _ w9 g _ (.int .i64 2) rfl HG9.out rfl) rfl ⟨rfl, HB9.out⟩
set_option maxHeartbeats 4000000 in
set_option maxRecDepth 100000 in
theorem rd_formW (A : Option Addr) (n c : Nat) (z : Nat → Int) (w : World) (hr : Rd w A n z) (hn2 : n ≤ 1492) (hf : ∀ W, Below w.heap.size w W → Calls Try.prog 42 #[.slice A n c] W (RfNo W)) : Calls Try.prog 16 #[.slice A n c] w (RdErr w 3) := by
  have HF := Lib.hid hf
  clear hf hr
  obtain ⟨W1, hW1⟩ : ∃ W1, w.alloc (.cells (pdC pd0) 33) = W1 := ⟨_, rfl⟩
  obtain ⟨g, hg⟩ : ∃ g, w.heap.size = g := ⟨_, rfl⟩
  have HG1 : Hid (PdT 33 W1 g pd0) := Lib.hid (by rw [← hW1, ← hg]; exact heap_alloc_new w _)
  have HB1 : Hid (Below w.heap.size w W1) := Lib.hid (by rw [← hW1]; exact (bself w).alloc (Nat.le_refl _) _)
  have HW1 := Lib.hid hW1
  have HGG := Lib.hid hg
  clear hW1 hg
  go_enter Try.func16, Try.ntmps16
  have HRF := Lib.hid (HF.out W1 HB1.out)
  go_wp2_with (refine wpList_v (op := ⟨some 2, _, _, _, _, _⟩) rfl _ (alloc_P' _ _ rfl w W1 g HGG.out HW1.out) ?_)
  refine HRF.out.mono ?_
  rintro e w3 ⟨x, A3, m3, c3, rfl, hb3⟩
  have HG3 := Lib.hid (HG1.out.below hb3 HG1.out.lt)
  have HB3 := Lib.hid (HB1.out.trans (hb3.mono HB1.out.size))
  have hgl : g < w3.heap.size := HG3.out.lt
  obtain ⟨g4, hg4⟩ : ∃ g4, w3.heap.size = g4 := ⟨_, rfl⟩
  obtain ⟨W4, hW4⟩ : ∃ W4, w3.alloc (.cells (pdC pd0) 33) = W4 := ⟨_, rfl⟩
  rw [hg4] at hgl
  have HX4 : Hid (PdT 33 W4 g4 pd0) := Lib.hid (by rw [← hW4, ← hg4]; exact heap_alloc_new w3 _)
  have HG4 : Hid (PdT 33 W4 g pd0) := Lib.hid (by rw [← hW4]; exact (Below.heap_alloc _ _ _ HG3.out.lt).trans HG3.out)
  have HB4 : Hid (Below w.heap.size w W4) := Lib.hid (by rw [← hW4]; exact HB3.out.alloc HB3.out.size _)
  have HG44 := Lib.hid hg4
  have HW44 := Lib.hid hW4
  clear hb3 hg4 hW4
  go_wp2_with (first
    | (refine wpList_v (op := ⟨some 4, _, _, _, _, _⟩) rfl _ (alloc_P' _ _ rfl w3 W4 g4 HG44.out HW44.out) ?_)
    | (refine wpList_st rfl 33 (.tmp 4) (.tmp 16) rfl g4 0 rfl (.agg (pdC x)) (pdC x) rfl rfl info_pdP (pdC_one _) HX4.out (Nat.le_of_ble_eq_true rfl) (pd_all _ _) ?_; intro w5 hst5; refine Hid.out ?_))
  refine Lib.hid ?_
  have HX5 : Hid (PdT 33 w5 g4 x) := Lib.hid hst5.1
  have HG5 : Hid (PdT 33 w5 g pd0) := Lib.hid (HG4.out.far hst5 (by omega))
  have HB5 : Hid (Below w.heap.size w w5) := Lib.hid (HB4.out.trans (hst5.2.1 _ (by rw [HGG.out]; omega)))
  clear hst5 HX4 HG4 HB4
  go_wp2_with (first
    | (refine wpList_v rfl _ (build_0 _ _ rfl _) ?_)
    | (refine wpList_st rfl 33 (.tmp 2) (.tmp 21) rfl g 0 rfl (.agg (pdC pd0)) (pdC pd0) rfl rfl info_pdP (pdC_one _) HG5.out (Nat.le_of_ble_eq_true rfl) (pd_all _ _) ?_; intro w9 hst; refine Hid.out ?_))
  refine Lib.hid ?_
  have HG9 : Hid (PdT 33 w9 g pd0) := Lib.hid hst.1
  have HB9 : Hid (Below w.heap.size w w9) := Lib.hid (HB5.out.trans (hst.2.1 _ (by rw [HGG.out]; exact Nat.le_refl _)))
  clear hst
  go_wp2_with fail
  exact bodyPost_ret (results_rd (u := 3) rfl _ w9 g _ (.int .i64 3) rfl HG9.out rfl) rfl ⟨rfl, HB9.out⟩
theorem getF_kd (p : Pd) (y : Nat → Int) (f : Nat) : (getF p y f).kd = p.kd := by unfold getF; split <;> rfl
theorem rdF_kd (q : Nat) (z : Nat → Int) (i : Nat) : (rdF q z i).kd = z 4 := by
  induction i with
  | zero => rfl
  | succ i ih => exact (getF_kd _ _ _).trans ih
theorem rdP_kd (q : Nat) (z : Nat → Int) : (rdP q z).kd = z 4 := rdF_kd q z _
set_option maxHeartbeats 4000000 in
set_option maxRecDepth 100000 in
theorem rd_split (b off n c : Nat) (z : Nat → Int) (w : World) (hr : Row8 w b off n z) (hc : n ≤ c) (hcm : c ≤ maxLen) (hn2 : n ≤ 1492) (q : Nat) (hq : cls (z 4) = q) (hf : FormOk z n) (hft : fitP (rdP q z) q = true) (m : Nat) (hm : Ends (tlZ q z) (n - hdN q) m) (hne : pos (tlZ q z) m ≠ n - hdN q) : Calls Try.prog 16 #[.slice (some ⟨b, off, none⟩) n c] w (RdErr w 3) := by
  have hbw := hr.1
  have hzz := hr.2.2
  have hHn : hdN q ≤ n := by rw [← hq]; exact hf.2.2.1
  have hq4 : q ≤ 4 := by rw [← hq]; exact hf.2.1
  have h17 := hdN_bd q hq4
  have HR := Lib.hid hr
  have HM := Lib.hid hm
  have HQ := Lib.hid hq
  have HCM := Lib.hid hcm
  obtain ⟨H, hH⟩ : ∃ H, hdN q = H := ⟨_, rfl⟩
  have HHH := Lib.hid hH
  obtain ⟨A', hA'⟩ : ∃ A' : Option Addr, (if c = H then some ⟨b, off, none⟩ else some ⟨b, off + H, none⟩) = A' := ⟨_, rfl⟩
  have HAA := Lib.hid hA'
  have HF : Hid (∀ W, Row8 W b off n z → Calls Try.prog 42 #[.slice (some ⟨b, off, none⟩) n c] W (fun e w' => e = .returned (.tuple #[.agg (pdC (rdP q z)), .slice A' (n - H) (c - H), .bool true]) ∧ Below W.heap.size W w')) := Lib.hid (fun W hW => by
    have := rf_good b off n c z W hW hc hcm hn2 hf true (by rw [hq]; exact hft)
    rw [hq] at this
    unfold RfOk at this
    rw [hH, hA'] at this
    exact this)
  rw [hH] at HM hHn h17
  have HK : Hid ((rdP q z).kd = z 4) := Lib.hid (rdP_kd q z)
  have HNE := Lib.hid hne
  clear hne
  clear hr hm hf hft hq hH hA'
  obtain ⟨W1, hW1⟩ : ∃ W1, w.alloc (.cells (pdC pd0) 33) = W1 := ⟨_, rfl⟩
  obtain ⟨g, hg⟩ : ∃ g, w.heap.size = g := ⟨_, rfl⟩
  have HG1 : Hid (PdT 33 W1 g pd0) := Lib.hid (by rw [← hW1, ← hg]; exact heap_alloc_new w _)
  have HB1 : Hid (Below w.heap.size w W1) := Lib.hid (by rw [← hW1]; exact (bself w).alloc (Nat.le_refl _) _)
  have HW1 := Lib.hid hW1
  have HGG := Lib.hid hg
  clear hW1 hg
  go_enter Try.func16, Try.ntmps16
  have HRF := Lib.hid (HF.out W1 (HR.out.below HB1.out hbw))
  go_wp2_with (refine wpList_v (op := ⟨some 2, _, _, _, _, _⟩) rfl _ (alloc_P' _ _ rfl w W1 g HGG.out HW1.out) ?_)
  refine HRF.out.mono ?_
  rintro e w3 ⟨rfl, hb3⟩
  have HG3 := Lib.hid (HG1.out.below hb3 HG1.out.lt)
  have HB3 := Lib.hid (HB1.out.trans (hb3.mono HB1.out.size))
  have hgl : g < w3.heap.size := HG3.out.lt
  obtain ⟨g4, hg4⟩ : ∃ g4, w3.heap.size = g4 := ⟨_, rfl⟩
  obtain ⟨W4, hW4⟩ : ∃ W4, w3.alloc (.cells (pdC pd0) 33) = W4 := ⟨_, rfl⟩
  rw [hg4] at hgl
  have HX4 : Hid (PdT 33 W4 g4 pd0) := Lib.hid (by rw [← hW4, ← hg4]; exact heap_alloc_new w3 _)
  have HG4 : Hid (PdT 33 W4 g pd0) := Lib.hid (by rw [← hW4]; exact (Below.heap_alloc _ _ _ HG3.out.lt).trans HG3.out)
  have HB4 : Hid (Below w.heap.size w W4) := Lib.hid (by rw [← hW4]; exact HB3.out.alloc HB3.out.size _)
  have HG44 := Lib.hid hg4
  have HW44 := Lib.hid hW4
  clear hb3 hg4 hW4
  go_wp2_with (first
    | (refine wpList_v (op := ⟨some 4, _, _, _, _, _⟩) rfl _ (alloc_P' _ _ rfl w3 W4 g4 HG44.out HW44.out) ?_)
    | (refine wpList_st rfl 33 (.tmp 4) (.tmp 16) rfl g4 0 rfl (.agg (pdC (rdP q z))) (pdC (rdP q z)) rfl rfl info_pdP (pdC_one _) HX4.out (Nat.le_of_ble_eq_true rfl) (pd_all _ _) ?_; intro w5 hst5; refine Hid.out ?_))
  refine Lib.hid ?_
  have HX5 : Hid (PdT 33 w5 g4 (rdP q z)) := Lib.hid hst5.1
  have HG5 : Hid (PdT 33 w5 g pd0) := Lib.hid (HG4.out.far hst5 (by omega))
  have HB5 : Hid (Below w.heap.size w w5) := Lib.hid (HB4.out.trans (hst5.2.1 _ (by rw [HGG.out]; omega)))
  clear hst5 HX4 HG4 HB4
  have hR5 : Row8 w5 b off n z := HR.out.below HB5.out hbw
  have HTl : Hid (Rd w5 A' (n - H) (tlZ q z)) := Lib.hid (by
    rw [← HAA.out]
    have e : tlZ q z = fun j => z (H + j) := by unfold tlZ; rw [HHH.out]
    rw [e]
    by_cases hcH : c = H
    · rw [if_pos hcH]
      exact ⟨.inl (by omega), fun j => hzz _⟩
    · rw [if_neg hcH]
      exact ⟨.inr ⟨b, off + H, rfl, hR5.shift H (n - H) (by omega)⟩, fun j => hzz _⟩)
  have HA0 : Hid (A' = none → n - H = 0 ∧ c - H = 0) := Lib.hid (fun e => by rw [← HAA.out] at e; split at e <;> cases e)
  have HSp := Lib.hid (split_any A' (n - H) (c - H) m (tlZ q z) w5 HTl.out HA0.out (by omega) (by omega) (by have := HCM.out; unfold maxLen at this; omega) HM.out)
  have HR5 := Lib.hid hR5
  have c0 : w5.cell? ⟨g4, 0, none⟩ = some (.int .u8 (z 4)) := (HX5.out.cell 0).trans ((pdC_kd _).trans (by rw [HK.out]))
  have hg45 : g4 < w5.heap.size := HX5.out.lt
  clear hR5
  go_wp2_with fail
  refine HSp.out.mono ?_
  rintro e w6 (⟨h, _⟩ | ⟨_, rfl, hb6⟩)
  · exact absurd h (by have := HNE.out; rw [HHH.out] at this; exact this)
  have HG6 := Lib.hid (HG5.out.below hb6 HG5.out.lt)
  have HB6 := Lib.hid (HB5.out.trans (hb6.mono HB5.out.size))
  clear hb6
  go_wp2_with (first
    | (refine wpList_v rfl _ (build_0 _ _ rfl _) ?_)
    | (refine wpList_st rfl 33 (.tmp 2) (.tmp 29) rfl g 0 rfl (.agg (pdC pd0)) (pdC pd0) rfl rfl info_pdP (pdC_one _) HG6.out (Nat.le_of_ble_eq_true rfl) (pd_all _ _) ?_; intro w9 hst; refine Hid.out ?_))
  refine Lib.hid ?_
  have HG9 : Hid (PdT 33 w9 g pd0) := Lib.hid hst.1
  have HB9 : Hid (Below w.heap.size w w9) := Lib.hid (HB6.out.trans (hst.2.1 _ (by rw [HGG.out]; exact Nat.le_refl _)))
  clear hst
  go_wp2_with fail
  exact bodyPost_ret (results_rd (u := 3) rfl _ w9 g _ (.int .i64 3) rfl HG9.out rfl) rfl ⟨rfl, HB9.out⟩
set_option maxHeartbeats 4000000 in
set_option maxRecDepth 100000 in
theorem rd_sum (b off n c : Nat) (z : Nat → Int) (w : World) (hr : Row8 w b off n z) (hc : n ≤ c) (hcm : c ≤ maxLen) (hn2 : n ≤ 1492) (q : Nat) (hq : cls (z 4) = q) (hf : FormOk z n) (hft : fitP (rdP q z) q = true) (m : Nat) (hm : Ends (tlZ q z) (n - hdN q) m) (hne : pos (tlZ q z) m = n - hdN q) (hq2 : q = 2) (hrb : rightB (fun j => z (12 + j)) 12 (n - 12) = false) : Calls Try.prog 16 #[.slice (some ⟨b, off, none⟩) n c] w (RdErr w 8) := by
  have hbw := hr.1
  have hzz := hr.2.2
  have hHn : hdN q ≤ n := by rw [← hq]; exact hf.2.2.1
  have hq4 : q ≤ 4 := by rw [← hq]; exact hf.2.1
  have h17 := hdN_bd q hq4
  have HR := Lib.hid hr
  have HM := Lib.hid hm
  have HQ := Lib.hid hq
  have HCM := Lib.hid hcm
  obtain ⟨H, hH⟩ : ∃ H, hdN q = H := ⟨_, rfl⟩
  have HHH := Lib.hid hH
  obtain ⟨A', hA'⟩ : ∃ A' : Option Addr, (if c = H then some ⟨b, off, none⟩ else some ⟨b, off + H, none⟩) = A' := ⟨_, rfl⟩
  have HAA := Lib.hid hA'
  have HF : Hid (∀ W, Row8 W b off n z → Calls Try.prog 42 #[.slice (some ⟨b, off, none⟩) n c] W (fun e w' => e = .returned (.tuple #[.agg (pdC (rdP q z)), .slice A' (n - H) (c - H), .bool true]) ∧ Below W.heap.size W w')) := Lib.hid (fun W hW => by
    have := rf_good b off n c z W hW hc hcm hn2 hf true (by rw [hq]; exact hft)
    rw [hq] at this
    unfold RfOk at this
    rw [hH, hA'] at this
    exact this)
  rw [hH] at HM hHn h17
  have HK : Hid ((rdP q z).kd = z 4) := Lib.hid (rdP_kd q z)
  have HNE := Lib.hid hne
  have HRB := Lib.hid hrb
  have HQ2 := Lib.hid hq2
  clear hne hrb hq2
  clear hr hm hf hft hq hH hA'
  obtain ⟨W1, hW1⟩ : ∃ W1, w.alloc (.cells (pdC pd0) 33) = W1 := ⟨_, rfl⟩
  obtain ⟨g, hg⟩ : ∃ g, w.heap.size = g := ⟨_, rfl⟩
  have HG1 : Hid (PdT 33 W1 g pd0) := Lib.hid (by rw [← hW1, ← hg]; exact heap_alloc_new w _)
  have HB1 : Hid (Below w.heap.size w W1) := Lib.hid (by rw [← hW1]; exact (bself w).alloc (Nat.le_refl _) _)
  have HW1 := Lib.hid hW1
  have HGG := Lib.hid hg
  clear hW1 hg
  go_enter Try.func16, Try.ntmps16
  have HRF := Lib.hid (HF.out W1 (HR.out.below HB1.out hbw))
  go_wp2_with (refine wpList_v (op := ⟨some 2, _, _, _, _, _⟩) rfl _ (alloc_P' _ _ rfl w W1 g HGG.out HW1.out) ?_)
  refine HRF.out.mono ?_
  rintro e w3 ⟨rfl, hb3⟩
  have HG3 := Lib.hid (HG1.out.below hb3 HG1.out.lt)
  have HB3 := Lib.hid (HB1.out.trans (hb3.mono HB1.out.size))
  have hgl : g < w3.heap.size := HG3.out.lt
  obtain ⟨g4, hg4⟩ : ∃ g4, w3.heap.size = g4 := ⟨_, rfl⟩
  obtain ⟨W4, hW4⟩ : ∃ W4, w3.alloc (.cells (pdC pd0) 33) = W4 := ⟨_, rfl⟩
  rw [hg4] at hgl
  have HX4 : Hid (PdT 33 W4 g4 pd0) := Lib.hid (by rw [← hW4, ← hg4]; exact heap_alloc_new w3 _)
  have HG4 : Hid (PdT 33 W4 g pd0) := Lib.hid (by rw [← hW4]; exact (Below.heap_alloc _ _ _ HG3.out.lt).trans HG3.out)
  have HB4 : Hid (Below w.heap.size w W4) := Lib.hid (by rw [← hW4]; exact HB3.out.alloc HB3.out.size _)
  have HG44 := Lib.hid hg4
  have HW44 := Lib.hid hW4
  clear hb3 hg4 hW4
  go_wp2_with (first
    | (refine wpList_v (op := ⟨some 4, _, _, _, _, _⟩) rfl _ (alloc_P' _ _ rfl w3 W4 g4 HG44.out HW44.out) ?_)
    | (refine wpList_st rfl 33 (.tmp 4) (.tmp 16) rfl g4 0 rfl (.agg (pdC (rdP q z))) (pdC (rdP q z)) rfl rfl info_pdP (pdC_one _) HX4.out (Nat.le_of_ble_eq_true rfl) (pd_all _ _) ?_; intro w5 hst5; refine Hid.out ?_))
  refine Lib.hid ?_
  have HX5 : Hid (PdT 33 w5 g4 (rdP q z)) := Lib.hid hst5.1
  have HG5 : Hid (PdT 33 w5 g pd0) := Lib.hid (HG4.out.far hst5 (by omega))
  have HB5 : Hid (Below w.heap.size w w5) := Lib.hid (HB4.out.trans (hst5.2.1 _ (by rw [HGG.out]; omega)))
  clear hst5 HX4 HG4 HB4
  have hR5 : Row8 w5 b off n z := HR.out.below HB5.out hbw
  have HTl : Hid (Rd w5 A' (n - H) (tlZ q z)) := Lib.hid (by
    rw [← HAA.out]
    have e : tlZ q z = fun j => z (H + j) := by unfold tlZ; rw [HHH.out]
    rw [e]
    by_cases hcH : c = H
    · rw [if_pos hcH]
      exact ⟨.inl (by omega), fun j => hzz _⟩
    · rw [if_neg hcH]
      exact ⟨.inr ⟨b, off + H, rfl, hR5.shift H (n - H) (by omega)⟩, fun j => hzz _⟩)
  have HA0 : Hid (A' = none → n - H = 0 ∧ c - H = 0) := Lib.hid (fun e => by rw [← HAA.out] at e; split at e <;> cases e)
  have HSp := Lib.hid (split_any A' (n - H) (c - H) m (tlZ q z) w5 HTl.out HA0.out (by omega) (by omega) (by have := HCM.out; unfold maxLen at this; omega) HM.out)
  have HR5 := Lib.hid hR5
  have c0 : w5.cell? ⟨g4, 0, none⟩ = some (.int .u8 (z 4)) := (HX5.out.cell 0).trans ((pdC_kd _).trans (by rw [HK.out]))
  have hg45 : g4 < w5.heap.size := HX5.out.lt
  clear hR5
  go_wp2_with fail
  refine HSp.out.mono ?_
  rintro e w6 (⟨_, v6, L6, rfl, ho6, hi6, hb6⟩ | ⟨h, _⟩)
  rotate_left
  · exact absurd (by have := HNE.out; rw [HHH.out] at this; exact this) h
  obtain ⟨A6, c6, rfl, hmc, hmx, hA6, _⟩ := ho6.shape
  have HO6 := Lib.hid ho6
  have HI6 := Lib.hid hi6
  have HA6 := Lib.hid hA6
  have HMX := Lib.hid hmx
  have HG6 := Lib.hid (HG5.out.below hb6 HG5.out.lt)
  have HX6 := Lib.hid (HX5.out.below hb6 HX5.out.lt)
  have HB6 := Lib.hid (HB5.out.trans (hb6.mono HB5.out.size))
  have HR6 := Lib.hid (HR5.out.below hb6 HR5.out.1)
  have c0' : w6.cell? ⟨g4, 0, none⟩ = some (.int .u8 (z 4)) := (HX6.out.cell 0).trans ((pdC_kd _).trans (by rw [HK.out]))
  have HST := Lib.hid (isState_any (z 4) w6)
  clear ho6 hi6 hb6 hA6 hmx c0
  rw [show decide (cls (z 4) = 2) = true by rw [HQ.out, HQ2.out]; rfl] at HST
  have h27 : 27 ≤ n := by
    have h1 : H = 27 := by rw [← HHH.out, HQ2.out]; rfl
    omega
  have HSG := Lib.hid (isSigned_any b off n c z w6 false HR6.out h27 hn2 hc HCM.out HRB.out)
  go_wp2_with fail
  refine HST.out.mono ?_
  rintro e w7 ⟨rfl, rfl⟩
  go_wp2_with fail
  refine HSG.out.mono ?_
  rintro e w7 ⟨rfl, rfl⟩
  go_wp2_with (first
    | (refine wpList_v rfl _ (build_0 _ _ rfl _) ?_)
    | (refine wpList_st rfl 33 (.tmp 2) (.tmp 39) rfl g 0 rfl (.agg (pdC pd0)) (pdC pd0) rfl rfl info_pdP (pdC_one _) HG6.out (Nat.le_of_ble_eq_true rfl) (pd_all _ _) ?_; intro w9 hst; refine Hid.out ?_))
  refine Lib.hid ?_
  have HG9 : Hid (PdT 33 w9 g pd0) := Lib.hid hst.1
  have HB9 : Hid (Below w.heap.size w w9) := Lib.hid (HB6.out.trans (hst.2.1 _ (by rw [HGG.out]; exact Nat.le_refl _)))
  clear hst
  go_wp2_with fail
  exact bodyPost_ret (results_rd (u := 3) rfl _ w9 g _ (.int .i64 8) rfl HG9.out rfl) rfl ⟨rfl, HB9.out⟩
set_option maxHeartbeats 4000000 in
set_option maxRecDepth 100000 in
theorem rd_state (b off n c : Nat) (z : Nat → Int) (w : World) (hr : Row8 w b off n z) (hc : n ≤ c) (hcm : c ≤ maxLen) (hn2 : n ≤ 1492) (q : Nat) (hq : cls (z 4) = q) (hf : FormOk z n) (hft : fitP (rdP q z) q = true) (m : Nat) (hm : Ends (tlZ q z) (n - hdN q) m) (hne : pos (tlZ q z) m = n - hdN q) (hq2 : q = 2) (hrb : rightB (fun j => z (12 + j)) 12 (n - 12) = true) : Calls Try.prog 16 #[.slice (some ⟨b, off, none⟩) n c] w (RdOk w q z m) := by
  have hbw := hr.1
  have hzz := hr.2.2
  have hHn : hdN q ≤ n := by rw [← hq]; exact hf.2.2.1
  have hq4 : q ≤ 4 := by rw [← hq]; exact hf.2.1
  have h17 := hdN_bd q hq4
  have HR := Lib.hid hr
  have HM := Lib.hid hm
  have HQ := Lib.hid hq
  have HCM := Lib.hid hcm
  obtain ⟨H, hH⟩ : ∃ H, hdN q = H := ⟨_, rfl⟩
  have HHH := Lib.hid hH
  obtain ⟨A', hA'⟩ : ∃ A' : Option Addr, (if c = H then some ⟨b, off, none⟩ else some ⟨b, off + H, none⟩) = A' := ⟨_, rfl⟩
  have HAA := Lib.hid hA'
  have HF : Hid (∀ W, Row8 W b off n z → Calls Try.prog 42 #[.slice (some ⟨b, off, none⟩) n c] W (fun e w' => e = .returned (.tuple #[.agg (pdC (rdP q z)), .slice A' (n - H) (c - H), .bool true]) ∧ Below W.heap.size W w')) := Lib.hid (fun W hW => by
    have := rf_good b off n c z W hW hc hcm hn2 hf true (by rw [hq]; exact hft)
    rw [hq] at this
    unfold RfOk at this
    rw [hH, hA'] at this
    exact this)
  rw [hH] at HM hHn h17
  have HK : Hid ((rdP q z).kd = z 4) := Lib.hid (rdP_kd q z)
  have HNE := Lib.hid hne
  have HRB := Lib.hid hrb
  have HQ2 := Lib.hid hq2
  clear hne hrb hq2
  clear hr hm hf hft hq hH hA'
  obtain ⟨W1, hW1⟩ : ∃ W1, w.alloc (.cells (pdC pd0) 33) = W1 := ⟨_, rfl⟩
  obtain ⟨g, hg⟩ : ∃ g, w.heap.size = g := ⟨_, rfl⟩
  have HG1 : Hid (PdT 33 W1 g pd0) := Lib.hid (by rw [← hW1, ← hg]; exact heap_alloc_new w _)
  have HB1 : Hid (Below w.heap.size w W1) := Lib.hid (by rw [← hW1]; exact (bself w).alloc (Nat.le_refl _) _)
  have HW1 := Lib.hid hW1
  have HGG := Lib.hid hg
  clear hW1 hg
  go_enter Try.func16, Try.ntmps16
  have HRF := Lib.hid (HF.out W1 (HR.out.below HB1.out hbw))
  go_wp2_with (refine wpList_v (op := ⟨some 2, _, _, _, _, _⟩) rfl _ (alloc_P' _ _ rfl w W1 g HGG.out HW1.out) ?_)
  refine HRF.out.mono ?_
  rintro e w3 ⟨rfl, hb3⟩
  have HG3 := Lib.hid (HG1.out.below hb3 HG1.out.lt)
  have HB3 := Lib.hid (HB1.out.trans (hb3.mono HB1.out.size))
  have hgl : g < w3.heap.size := HG3.out.lt
  obtain ⟨g4, hg4⟩ : ∃ g4, w3.heap.size = g4 := ⟨_, rfl⟩
  obtain ⟨W4, hW4⟩ : ∃ W4, w3.alloc (.cells (pdC pd0) 33) = W4 := ⟨_, rfl⟩
  rw [hg4] at hgl
  have HX4 : Hid (PdT 33 W4 g4 pd0) := Lib.hid (by rw [← hW4, ← hg4]; exact heap_alloc_new w3 _)
  have HG4 : Hid (PdT 33 W4 g pd0) := Lib.hid (by rw [← hW4]; exact (Below.heap_alloc _ _ _ HG3.out.lt).trans HG3.out)
  have HB4 : Hid (Below w.heap.size w W4) := Lib.hid (by rw [← hW4]; exact HB3.out.alloc HB3.out.size _)
  have HG44 := Lib.hid hg4
  have HW44 := Lib.hid hW4
  clear hb3 hg4 hW4
  go_wp2_with (first
    | (refine wpList_v (op := ⟨some 4, _, _, _, _, _⟩) rfl _ (alloc_P' _ _ rfl w3 W4 g4 HG44.out HW44.out) ?_)
    | (refine wpList_st rfl 33 (.tmp 4) (.tmp 16) rfl g4 0 rfl (.agg (pdC (rdP q z))) (pdC (rdP q z)) rfl rfl info_pdP (pdC_one _) HX4.out (Nat.le_of_ble_eq_true rfl) (pd_all _ _) ?_; intro w5 hst5; refine Hid.out ?_))
  refine Lib.hid ?_
  have HX5 : Hid (PdT 33 w5 g4 (rdP q z)) := Lib.hid hst5.1
  have HG5 : Hid (PdT 33 w5 g pd0) := Lib.hid (HG4.out.far hst5 (by omega))
  have HB5 : Hid (Below w.heap.size w w5) := Lib.hid (HB4.out.trans (hst5.2.1 _ (by rw [HGG.out]; omega)))
  clear hst5 HX4 HG4 HB4
  have hR5 : Row8 w5 b off n z := HR.out.below HB5.out hbw
  have HTl : Hid (Rd w5 A' (n - H) (tlZ q z)) := Lib.hid (by
    rw [← HAA.out]
    have e : tlZ q z = fun j => z (H + j) := by unfold tlZ; rw [HHH.out]
    rw [e]
    by_cases hcH : c = H
    · rw [if_pos hcH]
      exact ⟨.inl (by omega), fun j => hzz _⟩
    · rw [if_neg hcH]
      exact ⟨.inr ⟨b, off + H, rfl, hR5.shift H (n - H) (by omega)⟩, fun j => hzz _⟩)
  have HA0 : Hid (A' = none → n - H = 0 ∧ c - H = 0) := Lib.hid (fun e => by rw [← HAA.out] at e; split at e <;> cases e)
  have HSp := Lib.hid (split_any A' (n - H) (c - H) m (tlZ q z) w5 HTl.out HA0.out (by omega) (by omega) (by have := HCM.out; unfold maxLen at this; omega) HM.out)
  have HR5 := Lib.hid hR5
  have c0 : w5.cell? ⟨g4, 0, none⟩ = some (.int .u8 (z 4)) := (HX5.out.cell 0).trans ((pdC_kd _).trans (by rw [HK.out]))
  have hg45 : g4 < w5.heap.size := HX5.out.lt
  clear hR5
  go_wp2_with fail
  refine HSp.out.mono ?_
  rintro e w6 (⟨_, v6, L6, rfl, ho6, hi6, hb6⟩ | ⟨h, _⟩)
  rotate_left
  · exact absurd (by have := HNE.out; rw [HHH.out] at this; exact this) h
  obtain ⟨A6, c6, rfl, hmc, hmx, hA6, _⟩ := ho6.shape
  have HO6 := Lib.hid ho6
  have HI6 := Lib.hid hi6
  have HA6 := Lib.hid hA6
  have HMX := Lib.hid hmx
  have HG6 := Lib.hid (HG5.out.below hb6 HG5.out.lt)
  have HX6 := Lib.hid (HX5.out.below hb6 HX5.out.lt)
  have HB6 := Lib.hid (HB5.out.trans (hb6.mono HB5.out.size))
  have HR6 := Lib.hid (HR5.out.below hb6 HR5.out.1)
  have c0' : w6.cell? ⟨g4, 0, none⟩ = some (.int .u8 (z 4)) := (HX6.out.cell 0).trans ((pdC_kd _).trans (by rw [HK.out]))
  have HST := Lib.hid (isState_any (z 4) w6)
  clear ho6 hi6 hb6 hA6 hmx c0
  rw [show decide (cls (z 4) = 2) = true by rw [HQ.out, HQ2.out]; rfl] at HST
  have h27 : 27 ≤ n := by
    have h1 : H = 27 := by rw [← HHH.out, HQ2.out]; rfl
    omega
  have HSG := Lib.hid (isSigned_any b off n c z w6 true HR6.out h27 hn2 hc HCM.out HRB.out)
  go_wp2_with fail
  refine HST.out.mono ?_
  rintro e w7 ⟨rfl, rfl⟩
  go_wp2_with fail
  refine HSG.out.mono ?_
  rintro e w7 ⟨rfl, rfl⟩
  go_wp2_with (first
    | (refine wpList_st rfl 29 (.tmp 41) (.tmp 40) rfl g4 46 rfl (.slice A6 m c6) #[.slice A6 m c6] rfl rfl (by kernel_rfl) (by kernel_rfl) HX6.out (Nat.le_of_ble_eq_true rfl) (C' := pdC (withT (rdP q z) A6 m c6)) (by kernel_rfl) ?_; intro w8 hst8; refine Hid.out ?_))
  refine Lib.hid ?_
  have HX8 : Hid (PdT 33 w8 g4 (withT (rdP q z) A6 m c6)) := Lib.hid hst8.1
  have HG8 : Hid (PdT 33 w8 g pd0) := Lib.hid (HG6.out.far hst8 (by omega))
  have HB8 : Hid (Below w.heap.size w w8) := Lib.hid (HB6.out.trans (hst8.2.1 _ (by rw [HGG.out]; omega)))
  have HO8 := Lib.hid (HO6.out.far hst8 hg45)
  clear hst8 c0'
  go_wp2_with (first
    | (refine wpList_load_mid rfl 33 (.tmp 4) rfl g4 0 rfl (pdC (withT (rdP q z) A6 m c6)).toList _ HX8.out.all Try.underlying33 rfl info_pdP ?_)
    | (refine wpList_st rfl 33 (.tmp 2) (.tmp 42) rfl g 0 rfl (.agg (pdC (withT (rdP q z) A6 m c6))) (pdC (withT (rdP q z) A6 m c6)) rfl rfl info_pdP (pdC_one _) HG8.out (Nat.le_of_ble_eq_true rfl) (pd_all _ _) ?_; intro w9 hst9; refine Hid.out ?_))
  refine Lib.hid ?_
  have HG9 : Hid (PdT 33 w9 g (withT (rdP q z) A6 m c6)) := Lib.hid hst9.1
  have HB9 : Hid (Below w.heap.size w w9) := Lib.hid (HB8.out.trans (hst9.2.1 _ (by rw [HGG.out]; exact Nat.le_refl _)))
  have HO9 := Lib.hid (HO8.out.far hst9 (by omega))
  have HO9' : Hid (OwnT w9 w.heap.size (.slice A6 m c6) m L6) := Lib.hid ⟨ownsRow_mono HO9.out.1 HB5.out.size, fun j hj => (HO9.out.2 j hj).mono HB5.out.size⟩
  clear hst9
  go_wp2_with fail
  exact bodyPost_ret (results_rd (u := 3) rfl _ w9 g _ (.int .i64 0) rfl HG9.out rfl) rfl ⟨A6, c6, L6, rfl, HO9'.out, HI6.out, HA6.out, hmc, HMX.out, HB9.out⟩
set_option maxHeartbeats 4000000 in
set_option maxRecDepth 100000 in
theorem rd_plain (b off n c : Nat) (z : Nat → Int) (w : World) (hr : Row8 w b off n z) (hc : n ≤ c) (hcm : c ≤ maxLen) (hn2 : n ≤ 1492) (q : Nat) (hq : cls (z 4) = q) (hf : FormOk z n) (hft : fitP (rdP q z) q = true) (m : Nat) (hm : Ends (tlZ q z) (n - hdN q) m) (hne : pos (tlZ q z) m = n - hdN q) (hq2 : q ≠ 2) : Calls Try.prog 16 #[.slice (some ⟨b, off, none⟩) n c] w (RdOk w q z m) := by
  have hbw := hr.1
  have hzz := hr.2.2
  have hHn : hdN q ≤ n := by rw [← hq]; exact hf.2.2.1
  have hq4 : q ≤ 4 := by rw [← hq]; exact hf.2.1
  have h17 := hdN_bd q hq4
  have HR := Lib.hid hr
  have HM := Lib.hid hm
  have HQ := Lib.hid hq
  have HCM := Lib.hid hcm
  obtain ⟨H, hH⟩ : ∃ H, hdN q = H := ⟨_, rfl⟩
  have HHH := Lib.hid hH
  obtain ⟨A', hA'⟩ : ∃ A' : Option Addr, (if c = H then some ⟨b, off, none⟩ else some ⟨b, off + H, none⟩) = A' := ⟨_, rfl⟩
  have HAA := Lib.hid hA'
  have HF : Hid (∀ W, Row8 W b off n z → Calls Try.prog 42 #[.slice (some ⟨b, off, none⟩) n c] W (fun e w' => e = .returned (.tuple #[.agg (pdC (rdP q z)), .slice A' (n - H) (c - H), .bool true]) ∧ Below W.heap.size W w')) := Lib.hid (fun W hW => by
    have := rf_good b off n c z W hW hc hcm hn2 hf true (by rw [hq]; exact hft)
    rw [hq] at this
    unfold RfOk at this
    rw [hH, hA'] at this
    exact this)
  rw [hH] at HM hHn h17
  have HK : Hid ((rdP q z).kd = z 4) := Lib.hid (rdP_kd q z)
  have HNE := Lib.hid hne
  have HQ2 := Lib.hid hq2
  clear hne hq2
  clear hr hm hf hft hq hH hA'
  obtain ⟨W1, hW1⟩ : ∃ W1, w.alloc (.cells (pdC pd0) 33) = W1 := ⟨_, rfl⟩
  obtain ⟨g, hg⟩ : ∃ g, w.heap.size = g := ⟨_, rfl⟩
  have HG1 : Hid (PdT 33 W1 g pd0) := Lib.hid (by rw [← hW1, ← hg]; exact heap_alloc_new w _)
  have HB1 : Hid (Below w.heap.size w W1) := Lib.hid (by rw [← hW1]; exact (bself w).alloc (Nat.le_refl _) _)
  have HW1 := Lib.hid hW1
  have HGG := Lib.hid hg
  clear hW1 hg
  go_enter Try.func16, Try.ntmps16
  have HRF := Lib.hid (HF.out W1 (HR.out.below HB1.out hbw))
  go_wp2_with (refine wpList_v (op := ⟨some 2, _, _, _, _, _⟩) rfl _ (alloc_P' _ _ rfl w W1 g HGG.out HW1.out) ?_)
  refine HRF.out.mono ?_
  rintro e w3 ⟨rfl, hb3⟩
  have HG3 := Lib.hid (HG1.out.below hb3 HG1.out.lt)
  have HB3 := Lib.hid (HB1.out.trans (hb3.mono HB1.out.size))
  have hgl : g < w3.heap.size := HG3.out.lt
  obtain ⟨g4, hg4⟩ : ∃ g4, w3.heap.size = g4 := ⟨_, rfl⟩
  obtain ⟨W4, hW4⟩ : ∃ W4, w3.alloc (.cells (pdC pd0) 33) = W4 := ⟨_, rfl⟩
  rw [hg4] at hgl
  have HX4 : Hid (PdT 33 W4 g4 pd0) := Lib.hid (by rw [← hW4, ← hg4]; exact heap_alloc_new w3 _)
  have HG4 : Hid (PdT 33 W4 g pd0) := Lib.hid (by rw [← hW4]; exact (Below.heap_alloc _ _ _ HG3.out.lt).trans HG3.out)
  have HB4 : Hid (Below w.heap.size w W4) := Lib.hid (by rw [← hW4]; exact HB3.out.alloc HB3.out.size _)
  have HG44 := Lib.hid hg4
  have HW44 := Lib.hid hW4
  clear hb3 hg4 hW4
  go_wp2_with (first
    | (refine wpList_v (op := ⟨some 4, _, _, _, _, _⟩) rfl _ (alloc_P' _ _ rfl w3 W4 g4 HG44.out HW44.out) ?_)
    | (refine wpList_st rfl 33 (.tmp 4) (.tmp 16) rfl g4 0 rfl (.agg (pdC (rdP q z))) (pdC (rdP q z)) rfl rfl info_pdP (pdC_one _) HX4.out (Nat.le_of_ble_eq_true rfl) (pd_all _ _) ?_; intro w5 hst5; refine Hid.out ?_))
  refine Lib.hid ?_
  have HX5 : Hid (PdT 33 w5 g4 (rdP q z)) := Lib.hid hst5.1
  have HG5 : Hid (PdT 33 w5 g pd0) := Lib.hid (HG4.out.far hst5 (by omega))
  have HB5 : Hid (Below w.heap.size w w5) := Lib.hid (HB4.out.trans (hst5.2.1 _ (by rw [HGG.out]; omega)))
  clear hst5 HX4 HG4 HB4
  have hR5 : Row8 w5 b off n z := HR.out.below HB5.out hbw
  have HTl : Hid (Rd w5 A' (n - H) (tlZ q z)) := Lib.hid (by
    rw [← HAA.out]
    have e : tlZ q z = fun j => z (H + j) := by unfold tlZ; rw [HHH.out]
    rw [e]
    by_cases hcH : c = H
    · rw [if_pos hcH]
      exact ⟨.inl (by omega), fun j => hzz _⟩
    · rw [if_neg hcH]
      exact ⟨.inr ⟨b, off + H, rfl, hR5.shift H (n - H) (by omega)⟩, fun j => hzz _⟩)
  have HA0 : Hid (A' = none → n - H = 0 ∧ c - H = 0) := Lib.hid (fun e => by rw [← HAA.out] at e; split at e <;> cases e)
  have HSp := Lib.hid (split_any A' (n - H) (c - H) m (tlZ q z) w5 HTl.out HA0.out (by omega) (by omega) (by have := HCM.out; unfold maxLen at this; omega) HM.out)
  have HR5 := Lib.hid hR5
  have c0 : w5.cell? ⟨g4, 0, none⟩ = some (.int .u8 (z 4)) := (HX5.out.cell 0).trans ((pdC_kd _).trans (by rw [HK.out]))
  have hg45 : g4 < w5.heap.size := HX5.out.lt
  clear hR5
  go_wp2_with fail
  refine HSp.out.mono ?_
  rintro e w6 (⟨_, v6, L6, rfl, ho6, hi6, hb6⟩ | ⟨h, _⟩)
  rotate_left
  · exact absurd (by have := HNE.out; rw [HHH.out] at this; exact this) h
  obtain ⟨A6, c6, rfl, hmc, hmx, hA6, _⟩ := ho6.shape
  have HO6 := Lib.hid ho6
  have HI6 := Lib.hid hi6
  have HA6 := Lib.hid hA6
  have HMX := Lib.hid hmx
  have HG6 := Lib.hid (HG5.out.below hb6 HG5.out.lt)
  have HX6 := Lib.hid (HX5.out.below hb6 HX5.out.lt)
  have HB6 := Lib.hid (HB5.out.trans (hb6.mono HB5.out.size))
  have HR6 := Lib.hid (HR5.out.below hb6 HR5.out.1)
  have c0' : w6.cell? ⟨g4, 0, none⟩ = some (.int .u8 (z 4)) := (HX6.out.cell 0).trans ((pdC_kd _).trans (by rw [HK.out]))
  have HST := Lib.hid (isState_any (z 4) w6)
  clear ho6 hi6 hb6 hA6 hmx c0
  rw [show decide (cls (z 4) = 2) = false by rw [HQ.out]; exact decide_eq_false HQ2.out] at HST
  go_wp2_with fail
  refine HST.out.mono ?_
  rintro e w7 ⟨rfl, rfl⟩
  go_wp2_with (first
    | (refine wpList_st rfl 29 (.tmp 41) (.tmp 40) rfl g4 46 rfl (.slice A6 m c6) #[.slice A6 m c6] rfl rfl (by kernel_rfl) (by kernel_rfl) HX6.out (Nat.le_of_ble_eq_true rfl) (C' := pdC (withT (rdP q z) A6 m c6)) (by kernel_rfl) ?_; intro w8 hst8; refine Hid.out ?_))
  refine Lib.hid ?_
  have HX8 : Hid (PdT 33 w8 g4 (withT (rdP q z) A6 m c6)) := Lib.hid hst8.1
  have HG8 : Hid (PdT 33 w8 g pd0) := Lib.hid (HG6.out.far hst8 (by omega))
  have HB8 : Hid (Below w.heap.size w w8) := Lib.hid (HB6.out.trans (hst8.2.1 _ (by rw [HGG.out]; omega)))
  have HO8 := Lib.hid (HO6.out.far hst8 hg45)
  clear hst8 c0'
  go_wp2_with (first
    | (refine wpList_load_mid rfl 33 (.tmp 4) rfl g4 0 rfl (pdC (withT (rdP q z) A6 m c6)).toList _ HX8.out.all Try.underlying33 rfl info_pdP ?_)
    | (refine wpList_st rfl 33 (.tmp 2) (.tmp 42) rfl g 0 rfl (.agg (pdC (withT (rdP q z) A6 m c6))) (pdC (withT (rdP q z) A6 m c6)) rfl rfl info_pdP (pdC_one _) HG8.out (Nat.le_of_ble_eq_true rfl) (pd_all _ _) ?_; intro w9 hst9; refine Hid.out ?_))
  refine Lib.hid ?_
  have HG9 : Hid (PdT 33 w9 g (withT (rdP q z) A6 m c6)) := Lib.hid hst9.1
  have HB9 : Hid (Below w.heap.size w w9) := Lib.hid (HB8.out.trans (hst9.2.1 _ (by rw [HGG.out]; exact Nat.le_refl _)))
  have HO9 := Lib.hid (HO8.out.far hst9 (by omega))
  have HO9' : Hid (OwnT w9 w.heap.size (.slice A6 m c6) m L6) := Lib.hid ⟨ownsRow_mono HO9.out.1 HB5.out.size, fun j hj => (HO9.out.2 j hj).mono HB5.out.size⟩
  clear hst9
  go_wp2_with fail
  exact bodyPost_ret (results_rd (u := 3) rfl _ w9 g _ (.int .i64 0) rfl HG9.out rfl) rfl ⟨A6, c6, L6, rfl, HO9'.out, HI6.out, HA6.out, hmc, HMX.out, HB9.out⟩
end Go.Proofs.Ytfojfdlapekjoaa

/- The bytes of a packet, read again. Each theorem states its conditions. -/
namespace Go.Proofs.Ytfojfdlapekjoaa
open Go.RowKit
set_option linter.unusedVariables false

theorem accZ_old (p : Pd) (W q k k' : Nat) (h : k ≤ k') : ∀ j, j < accN q k → accZ p W q k' j = accZ p W q k j := by
  induction k' with
  | zero => obtain rfl : k = 0 := by omega
            intro j _; rfl
  | succ k' ih =>
    by_cases e : k = k' + 1
    · subst e; intro j _; rfl
    · intro j hj
      have := accN_mono q k k' (by omega)
      simp only [accZ]
      unfold cat
      rw [if_pos (by omega)]
      exact ih (by omega) j hj
theorem acc_at (p : Pd) (W q i j : Nat) (hi : i < (flC q).length) (hj : j < fsz (fAt q i)) : accZ p W q (flC q).length (accN q i + j) = fZ p W (fAt q i) j := by
  rw [accZ_old p W q (i + 1) _ (by omega) _ (by simp only [accN]; omega)]
  simp only [accZ]
  unfold cat
  rw [if_neg (by omega), Nat.add_sub_cancel_left]
theorem wZ_lo (p : Pd) (q : Nat) (L : Nat → It) (j : Nat) (h : j < hdN q) : wZ p q L j = accZ p (hdN q + sz L p.m) q (flC q).length j := by
  unfold wZ cat; rw [if_pos h]
theorem wZ_hi (p : Pd) (q : Nat) (L : Nat → It) (j : Nat) : wZ p q L (hdN q + j) = J L p.m j := by
  unfold wZ cat; rw [if_neg (by omega), Nat.add_sub_cancel_left]
theorem pdZ_far (p : Pd) (q : Nat) (L : Nat → It) (j : Nat) (h : q = 2 → j ≠ 24 ∧ j ≠ 25) : pdZ p q L j = wZ p q L j := by
  unfold pdZ
  by_cases e : q = 2
  · rw [if_pos e]
    unfold sgZ
    rw [if_neg (h e).1, if_neg (h e).2]
  · rw [if_neg e]
theorem pd_field (p : Pd) (q : Nat) (L : Nat → It) (i j : Nat) (hi : i < (flC q).length) (hj : j < fsz (fAt q i)) (h11 : fAt q i ≠ 11) : pdZ p q L (accN q i + j) = fZ p (hdN q + sz L p.m) (fAt q i) j := by
  have hh := accN_hd q i hi
  rw [pdZ_far, wZ_lo _ _ _ _ (by omega), acc_at _ _ _ _ _ hi hj]
  intro e
  subst e
  have hi' : i < 6 := hi
  rcases (by omega : i = 0 ∨ i = 1 ∨ i = 2 ∨ i = 3 ∨ i = 4 ∨ i = 5) with rfl | rfl | rfl | rfl | rfl | rfl
  · have : j < 2 := hj
    show 8 + j ≠ 24 ∧ 8 + j ≠ 25; omega
  · have : j < 2 := hj
    show 10 + j ≠ 24 ∧ 10 + j ≠ 25; omega
  · have : j < 8 := hj
    show 12 + j ≠ 24 ∧ 12 + j ≠ 25; omega
  · have : j < 4 := hj
    show 20 + j ≠ 24 ∧ 20 + j ≠ 25; omega
  · exact absurd rfl h11
  · have : j < 1 := hj
    show 26 + j ≠ 24 ∧ 26 + j ≠ 25; omega
theorem pd_head (p : Pd) (q : Nat) (L : Nat → It) (hq : q ≤ 4) (j : Nat) (hj : j < 8) : pdZ p q L j = headZ p.kd (hdN q) j := by
  have hh := hdN_bd q hq
  rw [pdZ_far _ _ _ _ (fun _ => by omega), wZ_lo _ _ _ _ (by omega), accZ_old p _ q 0 _ (Nat.zero_le _) j hj]
  rfl
theorem pd_tail (p : Pd) (q : Nat) (L : Nat → It) (hq : q ≤ 4) (j : Nat) : pdZ p q L (hdN q + j) = J L p.m j := by
  rw [pdZ_far, wZ_hi]
  intro e
  subst e
  show 27 + j ≠ 24 ∧ 27 + j ≠ 25
  omega
theorem told_pd (p : Pd) (q : Nat) (L : Nat → It) (hn : hdN q + sz L p.m ≤ 1492) (i : Nat) (hi : i < (flC q).length) (h4 : fAt q i = 4) : toldN q (pdZ p q L) i = hdN q + sz L p.m := by
  unfold toldN
  rw [numZ_congr _ (putZ (hdN q + sz L p.m) 2) 2 (fun j hj => by rw [pd_field p q L i j hi (by rw [h4]; exact hj) (by rw [h4]; decide), h4]; rfl), num_put, Int.toNat_natCast]
  exact Nat.mod_eq_of_lt (by omega)
/-- each class tells its length -/
theorem told_at (q : Nat) (hq : q ≤ 4) : ∃ i, i < (flC q).length ∧ fAt q i = 4 := by
  rcases (by omega : q = 0 ∨ q = 1 ∨ q = 2 ∨ q = 3 ∨ q = 4) with rfl | rfl | rfl | rfl | rfl
  · exact ⟨3, by decide, rfl⟩
  · exact ⟨3, by decide, rfl⟩
  · exact ⟨0, by decide, rfl⟩
  · exact ⟨0, by decide, rfl⟩
  · exact ⟨0, by decide, rfl⟩
theorem form_pd (p : Pd) (L : Nat → It) (hq : cls p.kd ≤ 4) (hn : hdN (cls p.kd) + sz L p.m ≤ 1492) (hk : by1 p.kd) (hzb : ∀ j, 0 ≤ pdZ p (cls p.kd) L j ∧ pdZ p (cls p.kd) L j ≤ 255) : FormOk (pdZ p (cls p.kd) L) (hdN (cls p.kd) + sz L p.m) := by
  have hh := hdN_bd _ hq
  have h4 : pdZ p (cls p.kd) L 4 = p.kd := pd_head p _ L hq 4 (by omega)
  refine ⟨by omega, by rw [h4]; exact hq, by rw [h4]; omega, ?_, ?_⟩
  · rw [h4, eqB_iff hzb (headZ_bd _ _ hk (by omega))]
    exact fun j hj => pd_head p _ L hq j hj
  · rw [h4]
    exact fun i hi he => told_pd p _ L hn i hi he
/-- bytes whose told length is another one are of no form -/
theorem form_not (p : Pd) (L : Nat → It) (z : Nat → Int) (n : Nat) (hq : cls p.kd ≤ 4) (hn : hdN (cls p.kd) + sz L p.m ≤ 1492) (hz : ∀ j, j < hdN (cls p.kd) → j < n → z j = pdZ p (cls p.kd) L j) (hne : n ≠ hdN (cls p.kd) + sz L p.m) : ¬ FormOk z n := by
  intro h
  obtain ⟨h1, h2, h3, h4, h5⟩ := h
  have hh := hdN_bd _ hq
  have e4 : z 4 = p.kd := by rw [hz 4 (by omega) (by omega)]; exact pd_head p _ L hq 4 (by omega)
  rw [e4] at h2 h3 h4 h5
  obtain ⟨i, hi, hf⟩ := told_at _ hq
  have h6 := h5 i hi hf
  have hd := accN_hd _ i hi
  rw [hf] at hd
  have h7 := told_pd p _ L hn i hi hf
  unfold toldN at h6 h7
  rw [numZ_congr _ (fun j => pdZ p (cls p.kd) L (accN (cls p.kd) i + j)) 2 (fun j hj => hz _ (by have : fsz 4 = 2 := rfl; omega) (by have : fsz 4 = 2 := rfl; omega))] at h6
  omega
/-- the same in all cells but the TLVs -/
def PdEq (p p' : Pd) : Prop := (p.kd = p'.kd ∧ p.ci = p'.ci ∧ (∀ j, j < 7 → p.so j = p'.so j) ∧ p.ho = p'.ho ∧ p.nu = p'.nu ∧ p.pr = p'.pr ∧ (∀ j, j < 7 → p.la j = p'.la j)) ∧
  p.li = p'.li ∧ (∀ j, j < 8 → p.id j = p'.id j) ∧ p.sq = p'.sq ∧ p.bi = p'.bi ∧ (∀ j, j < 8 → p.st j = p'.st j) ∧ ∀ j, j < 8 → p.en j = p'.en j
theorem pdC_ext {p p' : Pd} (h : PdEq p p') (A : Option Addr) (m c : Nat) : pdC (withT p A m c) = pdC (withT p' A m c) := by
  obtain ⟨⟨h1, h2, h3, h4, h5, h6, h7⟩, h8, h9, h10, h11, h12, h13⟩ := h
  unfold pdC withT
  simp only [h1, h2, h4, h5, h6, h8, h10, h11, h3 0 (by omega), h3 1 (by omega), h3 2 (by omega), h3 3 (by omega), h3 4 (by omega), h3 5 (by omega), h3 6 (by omega),
    h7 0 (by omega), h7 1 (by omega), h7 2 (by omega), h7 3 (by omega), h7 4 (by omega), h7 5 (by omega), h7 6 (by omega)]
  simp only [h9 0 (by omega), h9 1 (by omega), h9 2 (by omega), h9 3 (by omega), h9 4 (by omega), h9 5 (by omega), h9 6 (by omega), h9 7 (by omega), h12 0 (by omega), h12 1 (by omega), h12 2 (by omega), h12 3 (by omega), h12 4 (by omega), h12 5 (by omega), h12 6 (by omega), h12 7 (by omega), h13 0 (by omega), h13 1 (by omega), h13 2 (by omega), h13 3 (by omega), h13 4 (by omega), h13 5 (by omega), h13 6 (by omega), h13 7 (by omega)]
theorem num_field (p : Pd) (q : Nat) (L : Nat → It) (i k N : Nat) (hi : i < (flC q).length) (hk : fsz (fAt q i) = k) (h11 : fAt q i ≠ 11) (hN : fZ p (hdN q + sz L p.m) (fAt q i) = putZ N k) (hf : N < 256 ^ k) : (numZ (fun j => pdZ p q L (accN q i + j)) 0 k).toNat = N := by
  rw [numZ_congr _ (putZ N k) k (fun j hj => by rw [pd_field p q L i j hi (by omega) h11, hN]), num_put, Int.toNat_natCast]
  exact Nat.mod_eq_of_lt hf
theorem fitB_eq {p p' : Pd} (f : Nat) (h : p.ci = p'.ci ∧ p.ho = p'.ho ∧ p.li = p'.li ∧ p.pr = p'.pr) : fitB p f = fitB p' f := by
  obtain ⟨h1, h2, h3, h4⟩ := h
  unfold fitB
  split <;> simp only [h1, h2, h3, h4]
theorem rd_eq0 (p : Pd) (L : Nat → It) (hp : PdOk p) (hk : cls p.kd = 0) (hft : fitP p 0 = true) : PdEq (rdP 0 (pdZ p 0 L)) (pl0 p) := by
  have hfit := fun i hi => fitP_at hft i hi
  have e_kd : (rdP 0 (pdZ p 0 L)).kd = p.kd := (rdP_kd _ _).trans (pd_head p 0 L (by decide) 4 (by omega))
  have e_ci : (rdP 0 (pdZ p 0 L)).ci = p.ci := pd_field p 0 L 0 0 (by decide) (by decide) (by decide)
  have e_so : ∀ j, j < 7 → (rdP 0 (pdZ p 0 L)).so j = cutSys p.so j := fun j hj => by
    show mixS (fun j => pdZ p 0 L (accN 0 1 + j)) z0 j = cutSys p.so j
    unfold mixS
    by_cases h6 : j < 6
    · rw [if_pos h6]
      exact pd_field p 0 L 1 j (by decide) h6 (by decide)
    · rw [if_neg h6]
      unfold cutSys
      rw [if_neg h6]
      rfl
  have e_ho : (rdP 0 (pdZ p 0 L)).ho = p.ho := by
    have hb := of_decide_eq_true (hfit 2 (by decide))
    have h2 : 0 ≤ p.ho ∧ p.ho ≤ 65535 := hb
    show (((numZ (fun j => pdZ p 0 L (accN 0 2 + j)) 0 2).toNat : Nat) : Int) = p.ho
    rw [num_field p 0 L 2 2 p.ho.toNat (by decide) rfl (by decide) rfl (by omega)]
    omega
  have e_nu : (rdP 0 (pdZ p 0 L)).nu = p.nu := pd_field p 0 L 4 0 (by decide) (by decide) (by decide)
  exact ⟨⟨e_kd, e_ci, e_so, e_ho, e_nu, rfl, fun _ _ => rfl⟩, rfl, fun _ _ => rfl, rfl, rfl, fun _ _ => rfl, fun _ _ => rfl⟩
theorem rd_eq1 (p : Pd) (L : Nat → It) (hp : PdOk p) (hk : cls p.kd = 1) (hft : fitP p 1 = true) : PdEq (rdP 1 (pdZ p 1 L)) (pl1 p) := by
  have hfit := fun i hi => fitP_at hft i hi
  have e_kd : (rdP 1 (pdZ p 1 L)).kd = p.kd := (rdP_kd _ _).trans (pd_head p 1 L (by decide) 4 (by omega))
  have e_ci : (rdP 1 (pdZ p 1 L)).ci = p.ci := pd_field p 1 L 0 0 (by decide) (by decide) (by decide)
  have e_so : ∀ j, j < 7 → (rdP 1 (pdZ p 1 L)).so j = cutSys p.so j := fun j hj => by
    show mixS (fun j => pdZ p 1 L (accN 1 1 + j)) z0 j = cutSys p.so j
    unfold mixS
    by_cases h6 : j < 6
    · rw [if_pos h6]
      exact pd_field p 1 L 1 j (by decide) h6 (by decide)
    · rw [if_neg h6]
      unfold cutSys
      rw [if_neg h6]
      rfl
  have e_ho : (rdP 1 (pdZ p 1 L)).ho = p.ho := by
    have hb := of_decide_eq_true (hfit 2 (by decide))
    have h2 : 0 ≤ p.ho ∧ p.ho ≤ 65535 := hb
    show (((numZ (fun j => pdZ p 1 L (accN 1 2 + j)) 0 2).toNat : Nat) : Int) = p.ho
    rw [num_field p 1 L 2 2 p.ho.toNat (by decide) rfl (by decide) rfl (by omega)]
    omega
  have e_pr : (rdP 1 (pdZ p 1 L)).pr = p.pr := pd_field p 1 L 4 0 (by decide) (by decide) (by decide)
  have e_la : ∀ j, j < 7 → (rdP 1 (pdZ p 1 L)).la j = p.la j := fun j hj => pd_field p 1 L 5 j (by decide) hj (by decide)
  exact ⟨⟨e_kd, e_ci, e_so, e_ho, rfl, e_pr, e_la⟩, rfl, fun _ _ => rfl, rfl, rfl, fun _ _ => rfl, fun _ _ => rfl⟩
theorem rd_eq2 (p : Pd) (L : Nat → It) (hp : PdOk p) (hk : cls p.kd = 2) (hft : fitP p 2 = true) : PdEq (rdP 2 (pdZ p 2 L)) (pl2 p) := by
  have hfit := fun i hi => fitP_at hft i hi
  have e_kd : (rdP 2 (pdZ p 2 L)).kd = p.kd := (rdP_kd _ _).trans (pd_head p 2 L (by decide) 4 (by omega))
  have e_li : (rdP 2 (pdZ p 2 L)).li = p.li := by
    have hb := of_decide_eq_true (hfit 1 (by decide))
    have h2 : 0 ≤ p.li ∧ p.li ≤ 65535 := hb
    show (((numZ (fun j => pdZ p 2 L (accN 2 1 + j)) 0 2).toNat : Nat) : Int) = p.li
    rw [num_field p 2 L 1 2 p.li.toNat (by decide) rfl (by decide) rfl (by omega)]
    omega
  have e_id : ∀ j, j < 8 → (rdP 2 (pdZ p 2 L)).id j = p.id j := fun j hj => pd_field p 2 L 2 j (by decide) hj (by decide)
  have e_sq : (rdP 2 (pdZ p 2 L)).sq = p.sq := by
    show (numZ (fun j => pdZ p 2 L (accN 2 3 + j)) 0 4).toNat = p.sq
    exact num_field p 2 L 3 4 p.sq (by decide) rfl (by decide) rfl (by have := hp.2.2.2.1; omega)
  have e_bi : (rdP 2 (pdZ p 2 L)).bi = p.bi := pd_field p 2 L 5 0 (by decide) (by decide) (by decide)
  exact ⟨⟨e_kd, rfl, fun _ _ => rfl, rfl, rfl, rfl, fun _ _ => rfl⟩, e_li, e_id, e_sq, e_bi, fun _ _ => rfl, fun _ _ => rfl⟩
theorem rd_eq3 (p : Pd) (L : Nat → It) (hp : PdOk p) (hk : cls p.kd = 3) (hft : fitP p 3 = true) : PdEq (rdP 3 (pdZ p 3 L)) (pl3 p) := by
  have hfit := fun i hi => fitP_at hft i hi
  have e_kd : (rdP 3 (pdZ p 3 L)).kd = p.kd := (rdP_kd _ _).trans (pd_head p 3 L (by decide) 4 (by omega))
  have e_so : ∀ j, j < 7 → (rdP 3 (pdZ p 3 L)).so j = p.so j := fun j hj => pd_field p 3 L 1 j (by decide) hj (by decide)
  have e_st : ∀ j, j < 8 → (rdP 3 (pdZ p 3 L)).st j = p.st j := fun j hj => pd_field p 3 L 2 j (by decide) hj (by decide)
  have e_en : ∀ j, j < 8 → (rdP 3 (pdZ p 3 L)).en j = p.en j := fun j hj => pd_field p 3 L 3 j (by decide) hj (by decide)
  exact ⟨⟨e_kd, rfl, e_so, rfl, rfl, rfl, fun _ _ => rfl⟩, rfl, fun _ _ => rfl, rfl, rfl, e_st, e_en⟩
theorem rd_eq4 (p : Pd) (L : Nat → It) (hp : PdOk p) (hk : cls p.kd = 4) (hft : fitP p 4 = true) : PdEq (rdP 4 (pdZ p 4 L)) (pl4 p) := by
  have hfit := fun i hi => fitP_at hft i hi
  have e_kd : (rdP 4 (pdZ p 4 L)).kd = p.kd := (rdP_kd _ _).trans (pd_head p 4 L (by decide) 4 (by omega))
  have e_so : ∀ j, j < 7 → (rdP 4 (pdZ p 4 L)).so j = p.so j := fun j hj => pd_field p 4 L 1 j (by decide) hj (by decide)
  exact ⟨⟨e_kd, rfl, e_so, rfl, rfl, rfl, fun _ _ => rfl⟩, rfl, fun _ _ => rfl, rfl, rfl, fun _ _ => rfl, fun _ _ => rfl⟩
/-- Plain, by the class -/
def plQ (q : Nat) (p : Pd) : Pd := if q = 0 then pl0 p else if q = 1 then pl1 p else if q = 2 then pl2 p else if q = 3 then pl3 p else pl4 p
theorem rd_eq (p : Pd) (L : Nat → It) (hp : PdOk p) (q : Nat) (hk : cls p.kd = q) (hq : q ≤ 4) (hft : fitP p q = true) : PdEq (rdP q (pdZ p q L)) (plQ q p) := by
  rcases (by omega : q = 0 ∨ q = 1 ∨ q = 2 ∨ q = 3 ∨ q = 4) with rfl | rfl | rfl | rfl | rfl
  · exact rd_eq0 p L hp hk hft
  · exact rd_eq1 p L hp hk hft
  · exact rd_eq2 p L hp hk hft
  · exact rd_eq3 p L hp hk hft
  · exact rd_eq4 p L hp hk hft
theorem fit_plQ (p : Pd) (q : Nat) (hq : q ≤ 4) : fitP (plQ q p) q = fitP p q := by
  refine fitsTo_congr _ fun i hi => ?_
  rcases (by omega : q = 0 ∨ q = 1 ∨ q = 2 ∨ q = 3 ∨ q = 4) with rfl | rfl | rfl | rfl | rfl
  · have hi : i < 5 := hi
    rcases (by omega : i = 0 ∨ i = 1 ∨ i = 2 ∨ i = 3 ∨ i = 4) with rfl | rfl | rfl | rfl | rfl <;> rfl
  · have hi : i < 6 := hi
    rcases (by omega : i = 0 ∨ i = 1 ∨ i = 2 ∨ i = 3 ∨ i = 4 ∨ i = 5) with rfl | rfl | rfl | rfl | rfl | rfl <;> rfl
  · have hi : i < 6 := hi
    rcases (by omega : i = 0 ∨ i = 1 ∨ i = 2 ∨ i = 3 ∨ i = 4 ∨ i = 5) with rfl | rfl | rfl | rfl | rfl | rfl <;> rfl
  · have hi : i < 4 := hi
    rcases (by omega : i = 0 ∨ i = 1 ∨ i = 2 ∨ i = 3) with rfl | rfl | rfl | rfl <;> rfl
  · have hi : i < 2 := hi
    rcases (by omega : i = 0 ∨ i = 1) with rfl | rfl <;> rfl
theorem fit_rd (p : Pd) (L : Nat → It) (hp : PdOk p) (q : Nat) (hk : cls p.kd = q) (hq : q ≤ 4) (hft : fitP p q = true) : fitP (rdP q (pdZ p q L)) q = true := by
  have h := rd_eq p L hp q hk hq hft
  rw [← hft, ← fit_plQ p q hq]
  exact fitsTo_congr _ fun i _ => fitB_eq _ ⟨h.1.2.1, h.1.2.2.2.1, h.2.1, h.1.2.2.2.2.2.1⟩
theorem pos_congr {z z' : Nat → Int} {n : Nat} (h : ∀ j, j < n → z j = z' j) : ∀ k, pos z' k ≤ n → (∀ i, i < k → pos z' i + 1 < n) → pos z k = pos z' k := by
  intro k
  induction k with
  | zero => intro _ _; rfl
  | succ k ih =>
    intro hk h2
    have hm := pos_mono z' k (k + 1) (by omega)
    have := h2 k (by omega)
    have e := ih (by omega) (fun i hi => h2 i (by omega))
    simp only [pos, e]
    rw [h (pos z' k + 1) (by omega)]
/-- the TLVs of what was written -/
theorem tl_pd (p : Pd) (q : Nat) (L : Nat → It) (hq : q ≤ 4) : tlZ q (pdZ p q L) = J L p.m := by
  funext j
  exact pd_tail p q L hq j
theorem ends_pd (p : Pd) (q : Nat) (L : Nat → It) (hq : q ≤ 4) : pos (tlZ q (pdZ p q L)) p.m = sz L p.m := by
  rw [tl_pd p q L hq]
  exact J_pos L p.m p.m (Nat.le_refl _)
theorem right_sg (z : Nat → Int) (n : Nat) (hn : 27 ≤ n) : rightB (fun j => sgZ z n (12 + j)) 12 (n - 12) = true := by
  have e : (fun j => sgZ z n (12 + j)) = laidZ (fun j => z (12 + j)) 12 (n - 12) := by
    funext j
    unfold sgZ laidZ upd
    by_cases e13 : j = 13
    · subst e13; simp
    · by_cases e12 : j = 12
      · subst e12; simp
      · rw [if_neg (by omega), if_neg (by omega), if_neg e13, if_neg e12]
  rw [e]
  exact right_laid _ _ _
theorem right_pd (p : Pd) (q : Nat) (L : Nat → It) (h2 : q = 2) : rightB (fun j => pdZ p q L (12 + j)) 12 (hdN q + sz L p.m - 12) = true := by
  have e : pdZ p q L = sgZ (wZ p q L) (hdN q + sz L p.m) := by unfold pdZ; rw [if_pos h2]
  rw [e]
  exact right_sg _ _ (by subst h2; show 27 ≤ 27 + _; omega)
end Go.Proofs.Ytfojfdlapekjoaa

/- pdu.Read, all ways. Each theorem states its conditions. -/
namespace Go.Proofs.Ytfojfdlapekjoaa
open Go.RowKit
set_option linter.unusedVariables false

/-- the bytes are a packet of m TLVs -/
def GoodZ (z : Nat → Int) (n m : Nat) : Prop := FormOk z n ∧ fitP (rdP (cls (z 4)) z) (cls (z 4)) = true ∧ Ends (tlZ (cls (z 4)) z) (n - hdN (cls (z 4))) m ∧ pos (tlZ (cls (z 4)) z) m = n - hdN (cls (z 4)) ∧ (cls (z 4) = 2 → rightB (fun j => z (12 + j)) 12 (n - 12) = true)
theorem read_good (A : Option Addr) (n c : Nat) (z : Nat → Int) (w : World) (hr : Rd w A n z) (hc : n ≤ c) (hcm : c ≤ maxLen) (hn2 : n ≤ 1492) (m : Nat) (hg : GoodZ z n m) :
    Calls Try.prog 16 #[.slice A n c] w (RdOk w (cls (z 4)) z m) := by
  obtain ⟨h1, h2, h3, h4, h5⟩ := hg
  obtain ⟨b, off, rfl, hr2⟩ := hr.row (by have := h1.1; omega)
  by_cases e : cls (z 4) = 2
  · exact rd_state b off n c z w hr2 hc hcm hn2 _ rfl h1 h2 m h3 h4 e (h5 e)
  · exact rd_plain b off n c z w hr2 hc hcm hn2 _ rfl h1 h2 m h3 h4 e
/-- what a refusal leaves -/
def RdNot (w : World) (e : Ending) (w' : World) : Prop := ∃ E : Int, (E = 3 ∨ E = 8) ∧ RdErr w E e w'
theorem read_form (A : Option Addr) (n c : Nat) (z : Nat → Int) (w : World) (hr : Rd w A n z) (hc : n ≤ c) (hcm : c ≤ maxLen) (hn2 : n ≤ 1492) (hf : ¬ FormOk z n) :
    Calls Try.prog 16 #[.slice A n c] w (RdErr w 3) := by
  exact rd_formW A n c z w hr hn2 (fun W hbW => rf_fail A n c z W (hr.below hbW rfl) hc hcm hn2 hf)
theorem read_bad (A : Option Addr) (n c : Nat) (z : Nat → Int) (w : World) (hr : Rd w A n z) (hc : n ≤ c) (hcm : c ≤ maxLen) (hn2 : n ≤ 1492) (hg : ∀ m, ¬ GoodZ z n m) :
    Calls Try.prog 16 #[.slice A n c] w (RdNot w) := by
  by_cases hf : FormOk z n
  · obtain ⟨b, off, rfl, hr2⟩ := hr.row (by have := hf.1; omega)
    cases hft : fitP (rdP (cls (z 4)) z) (cls (z 4))
    · refine (rd_formW (some ⟨b, off, none⟩) n c z w hr hn2 fun W hbW => ?_).mono fun e w' h => ⟨3, .inl rfl, h⟩
      refine (rf_good b off n c z W (hr2.below' hbW) hc hcm hn2 hf false hft).mono fun e w' h => ?_
      exact ⟨_, _, _, _, h.1, h.2⟩
    · obtain ⟨m, h1, h2⟩ := pos_cases (tlZ (cls (z 4)) z) (n - hdN (cls (z 4)))
      have hE : Ends (tlZ (cls (z 4)) z) (n - hdN (cls (z 4))) m := ⟨h1, h2⟩
      by_cases hp : pos (tlZ (cls (z 4)) z) m = n - hdN (cls (z 4))
      · by_cases h22 : cls (z 4) = 2
        · cases hrb : rightB (fun j => z (12 + j)) 12 (n - 12)
          · exact (rd_sum b off n c z w hr2 hc hcm hn2 _ rfl hf hft m hE hp h22 hrb).mono fun e w' h => ⟨8, .inr rfl, h⟩
          · exact absurd ⟨hf, hft, hE, hp, fun _ => hrb⟩ (hg m)
        · exact absurd ⟨hf, hft, hE, hp, fun h => absurd h h22⟩ (hg m)
      · exact (rd_split b off n c z w hr2 hc hcm hn2 _ rfl hf hft m hE hp).mono fun e w' h => ⟨3, .inl rfl, h⟩
  · exact (read_form A n c z w hr hc hcm hn2 hf).mono fun e w' h => ⟨3, .inl rfl, h⟩
/-- what was written is a packet -/
theorem good_pd (p : Pd) (L : Nat → It) (hp : PdOk p) (hq : cls p.kd ≤ 4) (hft : fitP p (cls p.kd) = true) (hn : hdN (cls p.kd) + sz L p.m ≤ 1492) (hzb : ∀ j, 0 ≤ pdZ p (cls p.kd) L j ∧ pdZ p (cls p.kd) L j ≤ 255) : GoodZ (pdZ p (cls p.kd) L) (hdN (cls p.kd) + sz L p.m) p.m := by
  have h4 : pdZ p (cls p.kd) L 4 = p.kd := pd_head p _ L hq 4 (by omega)
  have hpos := ends_pd p _ L hq
  refine ⟨form_pd p L hq hn hp.1.1 hzb, ?_, ?_, ?_, ?_⟩
  · rw [h4]; exact fit_rd p L hp _ rfl hq hft
  · rw [h4]; exact ⟨by omega, .inl (by omega)⟩
  · rw [h4, hpos]; omega
  · rw [h4]; exact fun e => right_pd p _ L e
end Go.Proofs.Ytfojfdlapekjoaa

/- What the laws of pdu have in common: a copy is made and written. Each theorem states its conditions. -/
namespace Go.Proofs.Ytfojfdlapekjoaa
open Go.RowKit
set_option linter.unusedVariables false

theorem withT_ok {p : Pd} (hp : PdOk p) (A : Option Addr) (m c : Nat) : PdOk (withT p A m c) := hp
theorem wr_yes {p : Pd} {L : Nat → It} {m0 : Nat} (hm : JEnds L p.m m0) (h : wrX p L m0 = 0) : cls p.kd ≤ 4 ∧ fitP p (cls p.kd) = true ∧ hdN (cls p.kd) + sz L p.m ≤ 1492 ∧ m0 = p.m ∧ wrN p L m0 = hdN (cls p.kd) + sz L p.m ∧ wrZ p L m0 = pdZ p (cls p.kd) L := by
  have hc := cls_le p.kd
  by_cases h1 : cls p.kd = 5 ∨ fitP p (cls p.kd) = false
  · rw [(wr_1 p L m0 h1).1] at h; cases h
  · by_cases h2 : m0 < p.m ∨ 1492 < hdN (cls p.kd) + sz L p.m
    · rw [(wr_2 p L m0 h1 h2).1] at h; cases h
    · obtain ⟨_, e2, e3⟩ := wr_0 p L m0 h1 h2
      have h3 : fitP p (cls p.kd) = true := by
        cases hf : fitP p (cls p.kd)
        · exact absurd (.inr hf) h1
        · rfl
      exact ⟨by omega, h3, by omega, by have := hm.1; omega, e2, e3⟩
theorem wr_noN {p : Pd} {L : Nat → It} {m0 : Nat} (h : wrX p L m0 ≠ 0) : wrN p L m0 = 0 := by unfold wrN; rw [if_neg h]
/-- 'append(p, x...)' of bytes that came in, none perhaps -/
theorem app_o {ops : Array Oper} {rest : List Oper} {o : Oper} {a : Act} {w : World} {Q : Exit → Act → World → Prop} (hgd : o.guard = none) (s x : Operand)
    (ho : o.op = .call { callee := .builtin .append, args := #[s, x], argTypes := #[35, 35] })
    (w0 : World) (v : Value) (n : Nat) (xs : List Value) (hs : a.eval s = v) (hown : w.ownsRow w0.heap.size 5 1 v n xs) (hb : Below w0.heap.size w0 w)
    (A : Option Addr) (m c : Nat) (z : Nat → Int) (hx : a.eval x = .slice A m c) (hR : Rd w A m z) (hA : A = none → m = 0 ∧ c = 0)
    (hn : n + m ≤ 140737488355328)
    (h : ∀ v' w', w'.ownsRow w0.heap.size 5 1 v' (n + m) (xs ++ vals z m) → Below w0.heap.size w0 w' → w.heap.size ≤ w'.heap.size → (∀ k, k < w.heap.size → v.ownBlock ≠ some k → w'.heap[k]? = w.heap[k]? ∧ v'.ownBlock ≠ some k) → wpList Try.prog ops Q rest (a.put o.dst v') w') :
    wpList Try.prog ops Q (o :: rest) a w := by
  rcases A with _ | ad
  · obtain ⟨rfl, rfl⟩ := hA rfl
    obtain ⟨i0, hi, hz0, hz1, hz2⟩ := info_parts info_u8
    refine wpList_append_own_none hgd s x _ ho w0.heap.size 5 i0 1 Try.underlying35 hi v n xs hs hown hx ?_
    exact h v w (by simpa [vals] using hown) hb (Nat.le_refl _) (fun k _ hne => ⟨rfl, hne⟩)
  · exact app_s hgd s x ho w0 v n xs hs hown hb ad m c (vals z m) hx (vals_len _ _) (rd_newsB hR) (vals_one _ _) hn h
theorem cat_lo (z z' : Nat → Int) (n j : Nat) (h : j < n) : cat z n z' j = z j := by unfold cat; rw [if_pos h]
end Go.Proofs.Ytfojfdlapekjoaa

/- An LSP of which a byte is turned is no packet. Each theorem states its conditions. -/
namespace Go.Proofs.Ytfojfdlapekjoaa
open Go.RowKit
set_option linter.unusedVariables false

theorem sg_laid (z : Nat → Int) (n : Nat) : (fun j => sgZ z n (12 + j)) = laidZ (fun j => z (12 + j)) 12 (n - 12) := by
  funext j
  unfold sgZ laidZ upd
  by_cases e13 : j = 13
  · subst e13; simp
  · by_cases e12 : j = 12
    · subst e12; simp
    · rw [if_neg (by omega), if_neg (by omega), if_neg e13, if_neg e12]
theorem bad_turn (p : Pd) (L : Nat → It) (hk : cls p.kd = 2) (hn : hdN 2 + sz L p.m ≤ 1492) (hwb : ∀ j, 0 ≤ wZ p 2 L j ∧ wZ p 2 L j ≤ 255) (I : Nat) (hI : 8 ≤ I) (hI2 : I < hdN 2 + sz L p.m) (h10 : I ≠ 10) (h11 : I ≠ 11) (v : Int) (hv : 0 ≤ v ∧ v ≤ 255) (hne : v ≠ pdZ p 2 L I)
    (h1 : ¬ (pdZ p 2 L I = 0 ∧ v = 255)) (h2 : ¬ (pdZ p 2 L I = 255 ∧ v = 0)) : ∀ m, ¬ GoodZ (upd (pdZ p 2 L) I v) (hdN 2 + sz L p.m) m := by
  intro m ⟨hf, _, _, _, hrb⟩
  have e4 : upd (pdZ p 2 L) I v 4 = p.kd := by
    rw [upd_other _ _ _ _ (by omega)]
    exact pd_head p 2 L (by decide) 4 (by omega)
  have h5 := hf.2.2.2.2
  rw [e4, hk] at h5 hrb
  have hd2 : hdN 2 = 27 := rfl
  by_cases hlt : I < 10
  · have t1 := h5 0 (by decide) rfl
    have t2 := told_pd p 2 L hn 0 (by decide) rfl
    unfold toldN at t1 t2
    have z8 : 0 ≤ pdZ p 2 L 8 ∧ pdZ p 2 L 8 ≤ 255 := by rw [pdZ_far p 2 L 8 (fun _ => by decide)]; exact hwb 8
    have z9 : 0 ≤ pdZ p 2 L 9 ∧ pdZ p 2 L 9 ≤ 255 := by rw [pdZ_far p 2 L 9 (fun _ => by decide)]; exact hwb 9
    have u2 : numZ (fun j => pdZ p 2 L (accN 2 0 + j)) 0 2 = pdZ p 2 L 8 * 256 + pdZ p 2 L 9 := by
      show (0 * 256 + pdZ p 2 L 8) * 256 + pdZ p 2 L 9 = _
      omega
    have u1 : numZ (fun j => upd (pdZ p 2 L) I v (accN 2 0 + j)) 0 2 = upd (pdZ p 2 L) I v 8 * 256 + upd (pdZ p 2 L) I v 9 := by
      show (0 * 256 + upd (pdZ p 2 L) I v 8) * 256 + upd (pdZ p 2 L) I v 9 = _
      omega
    rw [u1] at t1
    rw [u2] at t2
    rcases (by omega : I = 8 ∨ I = 9) with rfl | rfl
    · rw [upd_same, upd_other _ _ _ _ (by decide)] at t1
      omega
    · rw [upd_same, upd_other _ _ _ _ (by decide)] at t1
      omega
  · have hr := hrb rfl
    have es : pdZ p 2 L = sgZ (wZ p 2 L) (hdN 2 + sz L p.m) := rfl
    have el : ∀ j, pdZ p 2 L (12 + j) = laidZ (fun j => wZ p 2 L (12 + j)) 12 (hdN 2 + sz L p.m - 12) j := fun j => by
      rw [es]
      exact congrFun (sg_laid (wZ p 2 L) (hdN 2 + sz L p.m)) j
    have e : (fun j => upd (pdZ p 2 L) I v (12 + j)) = upd (laidZ (fun j => wZ p 2 L (12 + j)) 12 (hdN 2 + sz L p.m - 12)) (I - 12) v := by
      funext j
      unfold upd
      by_cases ej : j = I - 12
      · rw [if_pos ej, if_pos (by omega)]
      · rw [if_neg ej, if_neg (by omega)]
        exact el j
    have eI : laidZ (fun j => wZ p 2 L (12 + j)) 12 (hdN 2 + sz L p.m - 12) (I - 12) = pdZ p 2 L I := by
      rw [← el (I - 12)]
      congr 1
      omega
    rw [e] at hr
    have := turned_not (fun j => wZ p 2 L (12 + j)) 12 (hdN 2 + sz L p.m - 12) (I - 12) v (by omega) (fun j => hwb _) hv (by rw [eI]; exact fun h => hne h.symm) (by rw [eI]; exact h1) (by rw [eI]; exact h2)
    rw [this] at hr
    cases hr
theorem xor_ne (a b : Int) (ha : 0 ≤ a ∧ a ≤ 255) (hb : 0 ≤ b ∧ b ≤ 255) (h : b ≠ 0) : bits .xor .u8 a b ≠ a := by
  rw [u8_xor _ _ ha.1 (by omega) hb.1 (by omega)]
  intro e
  have e1 : a.toNat ^^^ b.toNat = a.toNat := by omega
  have e2 : b.toNat = 0 := by
    have := congrArg (a.toNat ^^^ ·) e1
    simp only [← Nat.xor_assoc, Nat.xor_self, Nat.zero_xor] at this
    exact this
  omega
/-- a packet of another kind -/
def setK (p : Pd) (k : Int) : Pd := ⟨k, p.ci, p.so, p.ho, p.nu, p.pr, p.la, p.li, p.id, p.sq, p.bi, p.st, p.en, p.A, p.m, p.c⟩
theorem setK_ok {p : Pd} (h : PdOk p) (k : Int) (hk : by1 k) : PdOk (setK p k) := ⟨⟨hk, h.1.2⟩, h.2⟩
theorem RdT.cut {w : World} {A : Option Addr} {m : Nat} {L : Nat → It} (h : RdT w A m L) (k : Nat) (hk : k ≤ m) : RdT w A k L := by
  rcases h with h | ⟨b, off, rfl, h⟩
  · exact .inl (by omega)
  · exact .inr ⟨b, off, rfl, h.1, fun j hj => h.2 j (by omega)⟩
/-- the place that is turned -/
theorem turn_at (a : Nat) (N : Nat) (hN : 27 ≤ N) : ∃ I : Nat, (a : Int).tmod ((N : Int) - 8) = (I : Int) - 8 ∧ (a : Int) % ((N : Int) - 8) = (I : Int) - 8 ∧ 8 ≤ I ∧ I < N := by
  have e : (a : Int).tmod ((N : Int) - 8) = (a : Int) % ((N : Int) - 8) := Int.tmod_eq_emod_of_nonneg (by omega)
  have h1 := Int.emod_nonneg (a : Int) (show ((N : Int) - 8) ≠ 0 by omega)
  have h2 := Int.emod_lt_of_pos (a : Int) (show 0 < ((N : Int) - 8) by omega)
  refine ⟨((a : Int) % ((N : Int) - 8)).toNat + 8, ?_, ?_, by omega, by omega⟩
  · rw [e]; omega
  · omega
end Go.Proofs.Ytfojfdlapekjoaa

/- The document's Same of two packets: packets that are alike are the same. Each theorem states its conditions. -/
namespace Go.Proofs.Ytfojfdlapekjoaa
open Go.RowKit
set_option linter.unusedVariables false

theorem eql_self (o : Oper) (e : Operand → Value) (x y : Operand) (t t' : TypeId) (ho : o.op = .binOp .eql t x y t') (htt : t = t') (hg : Try.prog.eqGuardType Try.prog.depth t = false) (xs : Array Value) (hs : SelfEq 10000 t (.agg xs)) (h0 : e x = .agg xs) (h1 : e y = .agg xs) (W : World) :
    (execOp e o).run Try.prog W = .ok (.value (.bool true)) W := by
  subst htt
  unfold execOp
  simp only [ho, h0, h1]
  simp [Sem.run_bind, run_eqGuard_agg _ _ _ _ _ _ _ hg, run_eql_struct, hs W]
theorem load_rng (o : Oper) (e : Operand → Value) (ty : TypeId) (x : Operand) (ho : o.op = .load ty x) (b off : Nat) (hx : e x = .pointer (some ⟨b, off, none⟩)) (cs : List Value) (d : TypeDesc) {w : World} (hc : w.rangeAt b off cs) (hu : Try.prog.underlying ty = some d) (hd : d.isRow = true) (hi : (Try.prog.info? ty).map (·.size) = some cs.length) :
    (execOp e o).run Try.prog w = .ok (.value (.agg cs.toArray)) w := by
  unfold execOp
  simp only [ho, hx, Instr.loadAt, Instr.sureAddr, Sem.run_bind, Sem.run_pure, Result.andThen_ok, run_loadVar_mid w b off ty cs d hc hu hd hi]
/-- an operation that is wanted and yields v -/
theorem wpList_gv {ops : Array Oper} {Q : Exit → Act → World → Prop} {rest : List Oper} {op : Oper} {a : Act} {w w' : World} (v : Value) (hw : Region.wanted op (yielded ops a.tmps) = true) (hx : (execOp a.eval op).run Try.prog w = .ok (.value v) w') (h : wpList Try.prog ops Q rest (a.put op.dst v) w') : wpList Try.prog ops Q (op :: rest) a w := by
  refine wpList_step fun K hK => ?_
  rw [if_pos hw]
  unfold Oper.wp
  rw [hx, Oper.upon_value]
  exact hK _ _ h
theorem guard_nd : Try.prog.eqGuardType Try.prog.depth 25 = false := by kernel_rfl
theorem guard_id : Try.prog.eqGuardType Try.prog.depth 27 = false := by kernel_rfl
theorem nd_self (s : Nat → Int) (hs : ∀ j, 0 ≤ s j ∧ s j ≤ 255) : SelfEq 10000 25 (.agg (ndC s)) := self_node 9997 s hs
theorem id_selfs (s : Nat → Int) (hs : ∀ j, 0 ≤ s j ∧ s j ≤ 255) : SelfEq 10000 27 (.agg (idC s)) := self_id 9996 s hs
set_option maxHeartbeats 4000000 in
set_option maxRecDepth 100000 in
theorem same_pd (p p' : Pd) (L L' : Nat → It) (w : World) (hp : PdOk p) (hpp : pdC p' = pdC (withT p p'.A p'.m p'.c)) (ha : RdT w p.A p.m L) (hb : RdT w p'.A p'.m L') (hm : p'.m = p.m) (hmm : p.m ≤ 9223372036854775807)
    (he : ∀ j, j < p.m → (L j).ty = (L' j).ty ∧ (L j).n = (L' j).n ∧ ∀ i, i < (L j).n → (L j).z i = (L' j).z i) :
    Calls Try.prog 17 #[.agg (pdC p), .agg (pdC p')] w fun e w' => e = .returned (.bool true) ∧ Below w.heap.size w w' := by
  obtain ⟨W1, hW1⟩ : ∃ W1, (w.alloc (.cells (pdC p) 31)).alloc (.cells (pdC (withT p p'.A p'.m p'.c)) 31) = W1 := ⟨_, rfl⟩
  obtain ⟨X, hX⟩ : ∃ X, w.heap.size = X := ⟨_, rfl⟩
  have hx1 : PdT 31 W1 X p := by rw [← hW1, ← hX]; exact (Below.heap_alloc _ _ _ (by simp)).trans (heap_alloc_new w _)
  have hy1 : PdT 31 W1 (X + 1) (withT p p'.A p'.m p'.c) := by
    have := heap_alloc_new (w.alloc (.cells (pdC p) 31)) (.cells (pdC (withT p p'.A p'.m p'.c)) 31)
    rw [hW1, World.size_alloc, hX] at this
    exact this
  have hb1 : Below w.heap.size w W1 := by rw [← hW1]; exact ((bself w).alloc (Nat.le_refl _) _).alloc (by simp) _
  have HX1 := Lib.hid hx1
  have HY1 := Lib.hid hy1
  have HB1 := Lib.hid hb1
  have HW1 := Lib.hid hW1
  have HXX := Lib.hid hX
  have HP := Lib.hid hp
  have HS := Lib.hid (sameL_yes p.A p'.A p.m p.c p'.c L L' W1 (ha.below hb1) (by rw [← hm]; exact hb.below hb1) he hmm)
  rw [hpp]
  obtain ⟨p'A, hpA⟩ : ∃ a, p'.A = a := ⟨_, rfl⟩
  obtain ⟨p'c, hpc⟩ : ∃ a, p'.c = a := ⟨_, rfl⟩
  rw [hpA, hm, hpc] at HY1 HW1 ⊢
  rw [hpA, hpc] at HS
  have x_kd : W1.cell? ⟨X, 0, none⟩ = some (.int .u8 p.kd) := (hx1.cell 0).trans rfl
  have y_kd : W1.cell? ⟨X + 1, 0, none⟩ = some (.int .u8 p.kd) := (hy1.cell 0).trans rfl
  have x_ci : W1.cell? ⟨X, 1, none⟩ = some (.int .u8 p.ci) := (hx1.cell 1).trans rfl
  have y_ci : W1.cell? ⟨X + 1, 1, none⟩ = some (.int .u8 p.ci) := (hy1.cell 1).trans rfl
  have x_ho : W1.cell? ⟨X, 9, none⟩ = some (.int .i64 p.ho) := (hx1.cell 9).trans rfl
  have y_ho : W1.cell? ⟨X + 1, 9, none⟩ = some (.int .i64 p.ho) := (hy1.cell 9).trans rfl
  have x_nu : W1.cell? ⟨X, 10, none⟩ = some (.int .u8 p.nu) := (hx1.cell 10).trans rfl
  have y_nu : W1.cell? ⟨X + 1, 10, none⟩ = some (.int .u8 p.nu) := (hy1.cell 10).trans rfl
  have x_pr : W1.cell? ⟨X, 11, none⟩ = some (.int .u8 p.pr) := (hx1.cell 11).trans rfl
  have y_pr : W1.cell? ⟨X + 1, 11, none⟩ = some (.int .u8 p.pr) := (hy1.cell 11).trans rfl
  have x_li : W1.cell? ⟨X, 19, none⟩ = some (.int .i64 p.li) := (hx1.cell 19).trans rfl
  have y_li : W1.cell? ⟨X + 1, 19, none⟩ = some (.int .i64 p.li) := (hy1.cell 19).trans rfl
  have x_sq : W1.cell? ⟨X, 28, none⟩ = some (.int .u32 (p.sq : Int)) := (hx1.cell 28).trans rfl
  have y_sq : W1.cell? ⟨X + 1, 28, none⟩ = some (.int .u32 (p.sq : Int)) := (hy1.cell 28).trans rfl
  have x_bi : W1.cell? ⟨X, 29, none⟩ = some (.int .u8 p.bi) := (hx1.cell 29).trans rfl
  have y_bi : W1.cell? ⟨X + 1, 29, none⟩ = some (.int .u8 p.bi) := (hy1.cell 29).trans rfl
  have x_tl : W1.cell? ⟨X, 46, none⟩ = some (.slice p.A p.m p.c) := (hx1.cell 46).trans rfl
  have y_tl : W1.cell? ⟨X + 1, 46, none⟩ = some (.slice p'A p.m p'c) := (HY1.out.cell 46).trans rfl
  clear hx1 hy1 hb1 hW1 hX hp ha hb he hpp hm hpA hpc
  go_enter Try.func17, Try.ntmps17
  go_wp2_with (rw [HW1.out, HXX.out]; refine Hid.out ?_)
  refine Lib.hid ?_
  go_wp2_with (refine wpList_gv (op := ⟨some 19, _, _, _, _, _⟩) _ (by rfl) (load_rng _ _ 25 _ rfl X 2 rfl (ndC p.so).toList _ HX1.out.so Try.underlying25 rfl info_node) ?_; refine Hid.out ?_)
  refine Lib.hid ?_
  go_wp2_with (refine wpList_gv (op := ⟨some 21, _, _, _, _, _⟩) _ (by rfl) (load_rng _ _ 25 _ rfl (X + 1) 2 rfl (ndC p.so).toList _ HY1.out.so Try.underlying25 rfl info_node) ?_; refine Hid.out ?_)
  refine Lib.hid ?_
  go_wp2_with (refine wpList_gv (op := ⟨some 22, _, _, _, _, _⟩) _ (by rfl) (neq_self _ _ _ _ _ _ rfl rfl guard_nd _ (nd_self p.so HP.out.1.2.2.1) rfl rfl _) ?_; refine Hid.out ?_)
  refine Lib.hid ?_
  go_wp2_with (refine wpList_gv (op := ⟨some 47, _, _, _, _, _⟩) _ (by rfl) (load_rng _ _ 25 _ rfl X 12 rfl (ndC p.la).toList _ HX1.out.la Try.underlying25 rfl info_node) ?_; refine Hid.out ?_)
  refine Lib.hid ?_
  go_wp2_with (refine wpList_gv (op := ⟨some 49, _, _, _, _, _⟩) _ (by rfl) (load_rng _ _ 25 _ rfl (X + 1) 12 rfl (ndC p.la).toList _ HY1.out.la Try.underlying25 rfl info_node) ?_; refine Hid.out ?_)
  refine Lib.hid ?_
  go_wp2_with (refine wpList_gv (op := ⟨some 50, _, _, _, _, _⟩) _ (by rfl) (neq_self _ _ _ _ _ _ rfl rfl guard_nd _ (nd_self p.la HP.out.1.2.2.2.2.2.2) rfl rfl _) ?_; refine Hid.out ?_)
  refine Lib.hid ?_
  go_wp2_with (refine wpList_gv (op := ⟨some 59, _, _, _, _, _⟩) _ (by rfl) (load_rng _ _ 27 _ rfl X 20 rfl (idC p.id).toList _ HX1.out.id Try.underlying27 rfl info_id) ?_; refine Hid.out ?_)
  refine Lib.hid ?_
  go_wp2_with (refine wpList_gv (op := ⟨some 61, _, _, _, _, _⟩) _ (by rfl) (load_rng _ _ 27 _ rfl (X + 1) 20 rfl (idC p.id).toList _ HY1.out.id Try.underlying27 rfl info_id) ?_; refine Hid.out ?_)
  refine Lib.hid ?_
  go_wp2_with (refine wpList_gv (op := ⟨some 62, _, _, _, _, _⟩) _ (by rfl) (eql_self _ _ _ _ _ _ rfl rfl guard_id _ (id_selfs p.id HP.out.2.2.1) rfl rfl _) ?_; refine Hid.out ?_)
  refine Lib.hid ?_
  go_wp2_with (refine wpList_gv (op := ⟨some 80, _, _, _, _, _⟩) _ (by rfl) (load_rng _ _ 27 _ rfl X 30 rfl (idC p.st).toList _ HX1.out.st Try.underlying27 rfl info_id) ?_; refine Hid.out ?_)
  refine Lib.hid ?_
  go_wp2_with (refine wpList_gv (op := ⟨some 82, _, _, _, _, _⟩) _ (by rfl) (load_rng _ _ 27 _ rfl (X + 1) 30 rfl (idC p.st).toList _ HY1.out.st Try.underlying27 rfl info_id) ?_; refine Hid.out ?_)
  refine Lib.hid ?_
  go_wp2_with (refine wpList_gv (op := ⟨some 83, _, _, _, _, _⟩) _ (by rfl) (eql_self _ _ _ _ _ _ rfl rfl guard_id _ (id_selfs p.st HP.out.2.2.2.2.2.1) rfl rfl _) ?_; refine Hid.out ?_)
  refine Lib.hid ?_
  go_wp2_with (refine wpList_gv (op := ⟨some 87, _, _, _, _, _⟩) _ (by rfl) (load_rng _ _ 27 _ rfl X 38 rfl (idC p.en).toList _ HX1.out.en Try.underlying27 rfl info_id) ?_; refine Hid.out ?_)
  refine Lib.hid ?_
  go_wp2_with (refine wpList_gv (op := ⟨some 89, _, _, _, _, _⟩) _ (by rfl) (load_rng _ _ 27 _ rfl (X + 1) 38 rfl (idC p.en).toList _ HY1.out.en Try.underlying27 rfl info_id) ?_; refine Hid.out ?_)
  refine Lib.hid ?_
  go_wp2_with (refine wpList_gv (op := ⟨some 90, _, _, _, _, _⟩) _ (by rfl) (eql_self _ _ _ _ _ _ rfl rfl guard_id _ (id_selfs p.en HP.out.2.2.2.2.2.2) rfl rfl _) ?_; refine Hid.out ?_)
  refine Lib.hid ?_
  go_wp2_with fail
  refine HS.out.mono ?_
  rintro e w2 ⟨rfl, k, rfl⟩
  go_wp2_with fail
  go_ret
  exact ⟨rfl, bdrewN HB1.out k⟩
end Go.Proofs.Ytfojfdlapekjoaa

/- An LSP whose life alone is another one: its bytes. Each theorem states its conditions. -/
namespace Go.Proofs.Ytfojfdlapekjoaa
open Go.RowKit
set_option linter.unusedVariables false

/-- a packet of another life -/
def setL (p : Pd) (n : Int) : Pd := ⟨p.kd, p.ci, p.so, p.ho, p.nu, p.pr, p.la, n, p.id, p.sq, p.bi, p.st, p.en, p.A, p.m, p.c⟩
theorem setL_ok {p : Pd} (h : PdOk p) (n : Int) (hn : in64 n) : PdOk (setL p n) := ⟨h.1, hn, h.2.2⟩
theorem fit_setL (p : Pd) (n : Nat) (hn : n ≤ 65535) : fitP (setL p n) 2 = true := by
  have h8 : fitB (setL p n) 8 = true := decide_eq_true (show 0 ≤ (n : Int) ∧ (n : Int) ≤ 65535 by omega)
  show ((((((true && fitB (setL p n) 4) && fitB (setL p n) 8) && fitB (setL p n) 9) && fitB (setL p n) 10) && fitB (setL p n) 11) && fitB (setL p n) 12) = true
  rw [h8]
  rfl
theorem acc_setL (p : Pd) (n W j : Nat) (hj : j < 27) (h10 : j ≠ 10) (h11 : j ≠ 11) : accZ (setL p n) W 2 6 j = accZ p W 2 6 j := by
  rcases (by omega : j = 0 ∨ j = 1 ∨ j = 2 ∨ j = 3 ∨ j = 4 ∨ j = 5 ∨ j = 6 ∨ j = 7 ∨ j = 8 ∨ j = 9 ∨ j = 12 ∨ j = 13 ∨ j = 14 ∨ j = 15 ∨ j = 16 ∨ j = 17 ∨ j = 18 ∨ j = 19 ∨ j = 20 ∨ j = 21 ∨ j = 22 ∨ j = 23 ∨ j = 24 ∨ j = 25 ∨ j = 26) with rfl | rfl | rfl | rfl | rfl | rfl | rfl | rfl | rfl | rfl | rfl | rfl | rfl | rfl | rfl | rfl | rfl | rfl | rfl | rfl | rfl | rfl | rfl | rfl | rfl <;> rfl
theorem wZ_setL (p : Pd) (L : Nat → It) (n j : Nat) (h10 : j ≠ 10) (h11 : j ≠ 11) : wZ (setL p n) 2 L j = wZ p 2 L j := by
  by_cases hj : j < 27
  · rw [wZ_lo _ _ _ _ hj, wZ_lo _ _ _ _ hj]
    exact acc_setL p n _ j hj h10 h11
  · obtain ⟨i, rfl⟩ : ∃ i, j = hdN 2 + i := ⟨j - 27, by show j = 27 + (j - 27); omega⟩
    rw [wZ_hi, wZ_hi]
    rfl
theorem life_pd (p : Pd) (L : Nat → It) (n : Nat) (hn : n ≤ 65535) : upd (upd (pdZ p 2 L) 10 ((n : Int) / 256)) 11 ((n : Int) % 256) = pdZ (setL p n) 2 L := by
  have hw : (fun i => wZ (setL p n) 2 L (12 + i)) = fun i => wZ p 2 L (12 + i) := by
    funext i
    exact wZ_setL p L n _ (by omega) (by omega)
  have e10 : pdZ (setL p n) 2 L 10 = (n : Int) / 256 := by
    rw [pdZ_far _ _ _ _ (fun _ => by decide), wZ_lo _ _ _ _ (by decide)]
    show putZ (setL p n).li.toNat 2 0 = _
    show (((qN ((n : Int).toNat) 1) % 256 : Nat) : Int) = _
    rw [Int.toNat_natCast]
    unfold qN
    omega
  have e11 : pdZ (setL p n) 2 L 11 = (n : Int) % 256 := by
    rw [pdZ_far _ _ _ _ (fun _ => by decide), wZ_lo _ _ _ _ (by decide)]
    show (((qN ((n : Int).toNat) 0) % 256 : Nat) : Int) = _
    rw [Int.toNat_natCast, qN_0]
    omega
  funext j
  by_cases h11 : j = 11
  · subst h11
    rw [upd_same, e11]
  · rw [upd_other _ _ _ _ h11]
    by_cases h10 : j = 10
    · subst h10
      rw [upd_same, e10]
    · rw [upd_other _ _ _ _ h10]
      show sgZ (wZ p 2 L) _ j = sgZ (wZ (setL p n) 2 L) _ j
      unfold sgZ
      rw [hw, wZ_setL p L n j h10 h11]
      rfl
end Go.Proofs.Ytfojfdlapekjoaa

/- The document's check bytes, found by trying them all, are those that octet.Sum reckons. Each theorem states its conditions. -/
namespace Go.Proofs.Ytfojfdlapekjoaa
open Go.RowKit
set_option linter.unusedVariables false

theorem weigh_ok (b off len cap : Nat) (z : Nat → Int) (i : Int) (w : World) (hr : Row8 w b off len z) (hn : len ≤ 1492) (hi0 : 0 ≤ i) (hi : i ≤ len - 2) :
    Calls Try.prog 75 #[.slice (some ⟨b, off, none⟩) len cap, .int .i64 i] w fun e w' => e = .returned (.tuple #[.int .i64 (sumA z i.toNat len), .int .i64 (sumB z i.toNat len len)]) ∧ w = w' := by
  obtain ⟨s, rfl⟩ := Int.eq_ofNat_of_zero_le hi0
  rw [Int.toNat_natCast]
  have hz := hr.2.2
  have hc := hr.2.1
  clear hr
  go_enter Try.func75, Try.ntmps75
  go_wp2
  go_loop [6, 7, 11] (fun p q t => ∃ c : Nat, c ≤ len ∧ t = .int .i64 c ∧ p = .int .i64 (sumA z s c) ∧ q = .int .i64 (sumB z s len c)) (fun _ _ t => len - (intOf t).toNat)
  case atStart => exact ⟨0, Nat.zero_le _, rfl, rfl, rfl⟩
  case round =>
    obtain ⟨c, hcm, rfl, rfl, rfl⟩ := hrel
    have hA := sumA_bd z s c hz
    have hB := sumB_bd z s len c hz hn hcm
    by_cases hlt : c < len
    · have hcell := hc c hlt
      have hb := hz c
      have hm := mul_bd (z c) ((len : Int) - c) 255 1492 hb.1 hb.2 (by omega) (by omega)
      by_cases h1 : c = s
      · have hs1 := Lib.hid (sumA_skip z s c (.inl h1))
        have hs2 := Lib.hid (sumB_skip z s len c (.inl h1))
        have h1' : ((c : Int) != s) = false := by simp [h1]
        have H1 := Lib.hid h1; clear h1
        go_wp2
        go_round
        case rel => exact ⟨c + 1, by omega, by go_num, by rw [hs1.out], by rw [hs2.out]⟩
        case measure => simp [intOf]; omega
      · have h1' : ((c : Int) != s) = true := by simp; omega
        by_cases h2 : c = s + 1
        · have hs1 := Lib.hid (sumA_skip z s c (.inr h2))
          have hs2 := Lib.hid (sumB_skip z s len c (.inr h2))
          have h2' : ((c : Int) != (s : Int) + 1) = false := by simp; omega
          have H2 := Lib.hid h2; clear h2
          go_wp2
          go_round
          case rel => exact ⟨c + 1, by omega, by go_num, by rw [hs1.out], by rw [hs2.out]⟩
          case measure => simp [intOf]; omega
        · have hs1 := Lib.hid (sumA_take z s c (by omega))
          have hs2 := Lib.hid (sumB_take z s len c (by omega))
          have h2' : ((c : Int) != (s : Int) + 1) = true := by simp; omega
          go_wp2
          go_round
          case rel => exact ⟨c + 1, by omega, by go_num, by rw [hs1.out], by rw [hs2.out]⟩
          case measure => simp [intOf]; omega
    · obtain rfl : c = len := by omega
      go_wp2
      go_ret2
      exact ⟨rfl, rfl⟩

/-- the second byte that goes with the first one k -/
def yOf (A k : Int) : Int := 255 - (A + k) % 255
theorem yOf_bd (A k : Int) : 1 ≤ yOf A k ∧ yOf A k ≤ 255 := by unfold yOf; omega
theorem yOf_chk (A k : Int) : cbI (-A - k) = yOf A k := by unfold cbI yOf; omega
theorem try_iff (A B k m : Int) (h1 : 1 ≤ k) (h2 : k ≤ 255) :
    (B + k * (m + 1) + yOf A k * m) % 255 = 0 ↔ k = cbI (A * m - B) := by
  have hq : ∃ q, yOf A k = 255 - A - k + 255 * q := ⟨(A + k) / 255, by unfold yOf; omega⟩
  obtain ⟨q, hq⟩ := hq
  have e : B + k * (m + 1) + yOf A k * m = B + k - A * m + 255 * ((1 + q) * m) := by
    rw [hq]
    simp only [Int.add_mul, Int.sub_mul, Int.mul_add, Int.mul_one, Int.mul_assoc, Int.one_mul]
    omega
  rw [e]
  unfold cbI
  generalize A * m = P
  generalize (1 + q) * m = Q
  omega

theorem check_ok (b off len cap : Nat) (z : Nat → Int) (i : Int) (w : World) (hr : Row8 w b off len z) (hn : len ≤ 1492) (hi0 : 0 ≤ i) (hi : i ≤ len - 2) :
    Calls Try.prog 65 #[.slice (some ⟨b, off, none⟩) len cap, .int .i64 i] w fun e w' => e = .returned (.tuple #[.int .i64 (chkX z i.toNat len), .int .i64 (chkY z i.toNat len)]) ∧ w = w' := by
  obtain ⟨s, rfl⟩ := Int.eq_ofNat_of_zero_le hi0
  rw [Int.toNat_natCast]
  have HW := Lib.hid (weigh_ok b off len cap z s w hr hn hi0 hi)
  rw [Int.toNat_natCast] at HW
  have hA := sumA_bd z s len hr.2.2
  have hB := sumB_bd z s len len hr.2.2 hn (Nat.le_refl _)
  have hX := (chk_bd z s len).2.2.2.2
  have heX : Hid (chkX z s len = cbI (sumA z s len * ((len : Int) - s - 1) - sumB z s len len)) := Lib.hid rfl
  have heY : Hid (chkY z s len = yOf (sumA z s len) (chkX z s len)) := Lib.hid (by rw [← yOf_chk]; rfl)
  generalize chkX z s len = X at *
  generalize chkY z s len = Y at *
  generalize sumA z s len = A at *
  generalize sumB z s len len = B at *
  clear hr
  go_enter Try.func65, Try.ntmps65
  go_wp2_with (refine (HW.out).mono ?_; rintro e w' ⟨rfl, rfl⟩)
  go_loop [8] (fun t => ∃ k : Int, 1 ≤ k ∧ k ≤ X ∧ t = .int .i64 k) (fun t => (256 - intOf t).toNat)
  case atStart => exact ⟨1, by omega, by omega, rfl⟩
  case round =>
    obtain ⟨k, hk1, hkX, rfl⟩ := hrel
    have ht := try_iff A B k ((len : Int) - s - 1) hk1 (by omega)
    rw [← heX.out, show (len : Int) - s - 1 + 1 = len - s by omega] at ht
    have hy := yOf_bd A k
    have m1 := mul_bd k ((len : Int) - s) 255 1492 (by omega) (by omega) (by omega) (by omega)
    have m2 := mul_bd (yOf A k) ((len : Int) - s - 1) 255 1492 (by omega) (by omega) (by omega) (by omega)
    have HT := Lib.hid ht
    clear ht
    by_cases hkx : k = X
    · subst hkx
      have t1 : ((B + k * ((len : Int) - s) + yOf A k * ((len : Int) - s - 1)) % 255 == 0) = true := by simp only [beq_iff_eq]; exact HT.out.2 rfl
      unfold yOf at t1 hy m2
      go_wp2
      go_ret2
      exact ⟨by rw [heY.out]; rfl, rfl⟩
    · have t1 : ((B + k * ((len : Int) - s) + yOf A k * ((len : Int) - s - 1)) % 255 == 0) = false := by simp only [beq_eq_false_iff_ne]; exact fun h => hkx (HT.out.1 h)
      unfold yOf at t1 hy m2
      go_wp2
      go_round
      case rel => exact ⟨k + 1, by omega, by omega, rfl⟩
      case measure => simp [intOf]; omega

end Go.Proofs.Ytfojfdlapekjoaa

/- Bytes that grow by appends while other blocks stay as they are. Each theorem states its conditions. -/
namespace Go.Proofs.Ytfojfdlapekjoaa
open Go.RowKit
set_option linter.unusedVariables false

/-- blocks that stay as they are -/
def Kp (w : World) (l : List (Nat × Obj)) : Prop := ∀ p ∈ l, w.heap[p.1]? = some p.2
/-- bytes that grow: v is a row of the call's own, apart from the blocks of l -/
def Out (w0 w : World) (v : Value) (n : Nat) (z : Nat → Int) (l : List (Nat × Obj)) : Prop :=
  OwnB w w0.heap.size v n z ∧ Below w0.heap.size w0 w ∧ Kp w l ∧ ∀ p ∈ l, v.ownBlock ≠ some p.1
theorem Kp.nil (w : World) : Kp w [] := fun p h => by cases h
theorem Kp.cons {w : World} {l : List (Nat × Obj)} {g : Nat} {o : Obj} (h : Kp w l) (hg : w.heap[g]? = some o) : Kp w ((g, o) :: l) := by
  intro p hp
  rcases List.mem_cons.1 hp with rfl | hp
  · exact hg
  · exact h p hp
theorem Kp.tail {w : World} {l : List (Nat × Obj)} {q : Nat × Obj} (h : Kp w (q :: l)) : Kp w l := fun p hp => h p (List.mem_cons_of_mem _ hp)
theorem Kp.below {w w' : World} {l : List (Nat × Obj)} (h : Kp w l) (hb : Below w.heap.size w w') : Kp w' l := fun p hp => (hb.block _ (Array.getElem?_eq_some_iff.1 (h p hp)).1).trans (h p hp)
section
variable {w0 w w' : World} {v : Value} {n : Nat} {z : Nat → Int} {l : List (Nat × Obj)}
theorem Out.kp (h : Out w0 w v n z l) : Kp w l := h.2.2.1
theorem Out.le (h : Out w0 w v n z l) : w0.heap.size ≤ w.heap.size := h.2.1.size
theorem Out.tail {q : Nat × Obj} (h : Out w0 w v n z (q :: l)) : Out w0 w v n z l := ⟨h.1, h.2.1, h.2.2.1.tail, fun p hp => h.2.2.2 p (List.mem_cons_of_mem _ hp)⟩
theorem Out.below (h : Out w0 w v n z l) (hb : Below w.heap.size w w') : Out w0 w' v n z l := ⟨h.1.below hb, h.2.1.trans (hb.mono h.le), h.2.2.1.below hb, h.2.2.2⟩
theorem Out.new (h : Out w0 w v n z l) (hb : Below w.heap.size w w') {g : Nat} {o : Obj} (hg : w.heap.size ≤ g) (ho : w'.heap[g]? = some o) : Out w0 w' v n z ((g, o) :: l) := by
  refine ⟨h.1.below hb, h.2.1.trans (hb.mono h.le), (h.2.2.1.below hb).cons ho, fun p hp => ?_⟩
  rcases List.mem_cons.1 hp with rfl | hp
  · intro e
    have := (h.1.1.lt _ e).2
    simp only at this
    omega
  · exact h.2.2.2 p hp
theorem Out.alloc (h : Out w0 w v n z l) (C : Array Value) (t : TypeId) : Out w0 (w.alloc (.cells C t)) v n z ((w.heap.size, .cells C t (0, 0)) :: l) := h.new ((bself w).alloc (Nat.le_refl _) _) (Nat.le_refl _) (heap_alloc_new w _)
theorem Out.zz {z' : Nat → Int} (h : Out w0 w v n z l) (he : ∀ j, j < n → z j = z' j) (hz : ∀ j, 0 ≤ z' j ∧ z' j ≤ 255) : Out w0 w v n z' l := by
  refine ⟨⟨?_, hz⟩, h.2⟩
  rw [← vals_ext he]
  exact h.1.1
end
/-- a row of bytes in a block that stays: what is read there -/
theorem kp_own {w : World} {l : List (Nat × Obj)} {g n cap : Nat} {z : Nat → Int} {w1 : World} (h : Own8 w1 g n cap z) (hg : w.heap[g]? = w1.heap[g]?) : Own8 w g n cap z := h.block hg
/-- an append to bytes that grow -/
theorem out_run {o : Oper} {a : Act} {w0 w : World} {v : Value} {n : Nat} {z : Nat → Int} {l : List (Nat × Obj)} (s x : Operand)
    (ho : o.op = .call { callee := .builtin .append, args := #[s, x], argTypes := #[35, 35] })
    (hs : a.eval s = v) (h : Out w0 w v n z l) (A : Option Addr) (m c : Nat) (zx : Nat → Int) (hx : a.eval x = .slice A m c) (hR : Rd w A m zx) (hA : A = none → m = 0 ∧ c = 0) (hn : n + m ≤ 140737488355328) :
    ∃ v' w', (execOp a.eval o).run Try.prog w = .ok (.value v') w' ∧ Out w0 w' v' (n + m) (cat z n zx) l ∧ w.heap.size ≤ w'.heap.size := by
  rcases A with _ | ad
  · obtain ⟨rfl, rfl⟩ := hA rfl
    refine ⟨v, w, ?_, ⟨⟨?_, cat_bd h.1.2 hR.2⟩, h.2⟩, Nat.le_refl _⟩
    · obtain ⟨i0, hi, hz0, hz1, hz2⟩ := info_parts info_u8
      obtain ⟨g, cap, hv⟩ : ∃ A c, v = .slice A n c := by obtain ⟨A, c, h1, _⟩ := h.1.shape; exact ⟨A, c, h1⟩
      have hr := run_append_owned_none (P := Try.prog) (w := w) w0.heap.size 35 o.type 5 i0 1 Try.underlying35 hi v n _ h.1.1
      simp [execOp, ho, resolve, invoke, builtin, hs, hx, hr, Result.andThen]
    · rw [Nat.add_zero, vals_ext (z' := z) (fun j hj => by unfold cat; rw [if_pos hj])]
      exact h.1.1
  · obtain ⟨v', w', h2, h3, h4, h5, h6⟩ := app_run s x ho w0 v n _ hs h.1.1 h.2.1 ad m c (vals zx m) hx (vals_len _ _) (rd_newsB hR) (vals_one _ _) hn
    rw [vals_cat] at h3
    have hb : ∀ p ∈ l, w'.heap[p.1]? = w.heap[p.1]? ∧ v'.ownBlock ≠ some p.1 := fun p hp => h6 p.1 (Array.getElem?_eq_some_iff.1 (h.2.2.1 p hp)).1 (h.2.2.2 p hp)
    exact ⟨v', w', h2, ⟨⟨h3, cat_bd h.1.2 hR.2⟩, h4, fun p hp => (hb p hp).1.trans (h.2.2.1 p hp), fun p hp => (hb p hp).2⟩, h5⟩
section
variable {ops : Array Oper} {Q : Exit → Act → World → Prop} {md : Region.Mode} {S : World → Prop}
/-- an append alone may come up -/
theorem takeOut {i : Nat} {oi : Oper} (d : Option Tmp) {fuel : Nat} {listed : Array Bool} {a : Act} {w0 w : World} {v : Value} {n : Nat} {z : Nat → Int} {l : List (Nat × Obj)} (s x : Operand) (hi : ops[i]? = some oi) (hd : oi.dst = d)
    (hr : Region.ready md ops listed = [i]) (hw : Region.wanted oi (yielded ops a.tmps) = true)
    (ho : oi.op = .call { callee := .builtin .append, args := #[s, x], argTypes := #[35, 35] })
    (hs : a.eval s = v) (h : Out w0 w v n z l) (A : Option Addr) (m c : Nat) (zx : Nat → Int) (hx : a.eval x = .slice A m c) (hR : Rd w A m zx) (hA : A = none → m = 0 ∧ c = 0) (hn : n + m ≤ 140737488355328)
    (k : ∀ v' w', Out w0 w' v' (n + m) (cat z n zx) l → S w' ∧ wpAnyH Try.prog md ops Q S fuel (listed.setIfInBounds i true) (a.put d v') w') :
    wpAnyH Try.prog md ops Q S (fuel + 1) listed a w := by
  obtain ⟨v', w', h2, h3, _⟩ := out_run s x ho hs h A m c zx hx hR hA hn
  obtain ⟨h7, h8⟩ := k v' w' h3
  exact takeV d hi hd hr hw h2 h7 h8
/-- of several that may come up: an append -/
theorem consOut {i : Nat} {oi : Oper} (d : Option Tmp) {rs : List Nat} {fuel : Nat} {listed : Array Bool} {a : Act} {w0 w : World} {v : Value} {n : Nat} {z : Nat → Int} {l : List (Nat × Obj)} (s x : Operand) (hi : ops[i]? = some oi) (hd : oi.dst = d)
    (hw : Region.wanted oi (yielded ops a.tmps) = true)
    (ho : oi.op = .call { callee := .builtin .append, args := #[s, x], argTypes := #[35, 35] })
    (hs : a.eval s = v) (h : Out w0 w v n z l) (A : Option Addr) (m c : Nat) (zx : Nat → Int) (hx : a.eval x = .slice A m c) (hR : Rd w A m zx) (hA : A = none → m = 0 ∧ c = 0) (hn : n + m ≤ 140737488355328)
    (k : ∀ v' w', Out w0 w' v' (n + m) (cat z n zx) l → S w' ∧ wpAnyH Try.prog md ops Q S fuel (listed.setIfInBounds i true) (a.put d v') w') (hs' : AllReadyH Try.prog md ops Q S fuel listed a w rs) :
    AllReadyH Try.prog md ops Q S fuel listed a w (i :: rs) := by
  obtain ⟨v', w', h2, h3, _⟩ := out_run s x ho hs h A m c zx hx hR hA hn
  obtain ⟨h7, h8⟩ := k v' w' h3
  exact consVW d hi hd hw h2 h7 h8 hs'
/-- an append, in the order of the text -/
theorem wpList_out {rest : List Oper} {op : Oper} {a : Act} {w0 w : World} {v : Value} {n : Nat} {z : Nat → Int} {l : List (Nat × Obj)} (hgd : op.guard = none) (s x : Operand)
    (ho : op.op = .call { callee := .builtin .append, args := #[s, x], argTypes := #[35, 35] })
    (hs : a.eval s = v) (h : Out w0 w v n z l) (A : Option Addr) (m c : Nat) (zx : Nat → Int) (hx : a.eval x = .slice A m c) (hR : Rd w A m zx) (hA : A = none → m = 0 ∧ c = 0) (hn : n + m ≤ 140737488355328)
    (k : ∀ v' w', Out w0 w' v' (n + m) (cat z n zx) l → wpList Try.prog ops Q rest (a.put op.dst v') w') : wpList Try.prog ops Q (op :: rest) a w := by
  obtain ⟨v', w', h2, h3, _⟩ := out_run s x ho hs h A m c zx hx hR hA hn
  refine wpList_plain hgd fun K hK => ?_
  unfold Oper.wp
  rw [h2, Oper.upon_value]
  exact hK _ _ (k v' w' h3)
end
/-- bytes that a call made: they can be read as long as their block stays -/
theorem own_has {w : World} {base n : Nat} {v : Value} {z : Nat → Int} (h : OwnB w base v n z) : ∃ A c, ∃ l : List (Nat × Obj), v = .slice A n c ∧ n ≤ c ∧ c ≤ maxLen ∧ (A = none → n = 0 ∧ c = 0) ∧ Kp w l ∧ ∀ w', Kp w' l → Rd w' A n z := by
  rcases h.1.2 with ⟨rfl, rfl⟩ | ⟨g, cap, cur, rfl, hb, hc, h1, h2, h3, h4⟩
  · exact ⟨none, 0, [], rfl, Nat.le_refl _, by decide, fun _ => ⟨rfl, rfl⟩, Kp.nil w, fun w' _ => ⟨.inl rfl, h.2⟩⟩
  · refine ⟨some ⟨g, 0, none⟩, cap, [(g, .cells cur 5 (0, 0))], rfl, h1, h2, fun e => (by cases e), (Kp.nil w).cons hc, fun w' hk => ?_⟩
    obtain ⟨A, c, he, _, _, _, hR⟩ := h.shape
    injection he with e1 e2 e3
    subst e1
    rcases hR.1 with h0 | ⟨b, off, e, hr⟩
    · exact ⟨.inl h0, h.2⟩
    · injection e with e
      injection e with e1 e2
      subst e1 e2
      have hg := hk (g, .cells cur 5 (0, 0)) List.mem_cons_self
      exact ⟨.inr ⟨g, 0, rfl, (Array.getElem?_eq_some_iff.1 hg).1, fun j hj => by rw [← hr.2.1 j hj, cell_of_row w g _ _ _ _ hc, cell_of_row w' g _ _ _ _ hg], h.2⟩, h.2⟩
/-- the same of a row -/
theorem own8_has {w : World} {g n cap : Nat} {z : Nat → Int} (h : Own8 w g n cap z) : ∃ o : Obj, w.heap[g]? = some o ∧ ∀ w' : World, w'.heap[g]? = some o → Own8 w' g n cap z := by
  obtain ⟨⟨cur, hg, h1⟩, h2⟩ := h
  exact ⟨_, hg, fun w' hk => ⟨⟨cur, hk, h1⟩, h2⟩⟩
theorem out_first {w0 w w' : World} {g n c : Nat} {z : Nat → Int} {l : List (Nat × Obj)} (hk : Kp w l) (hb : Below w0.heap.size w0 w) (hb' : Below w.heap.size w w') (ho : Own8 w' g n c z) (hg : w.heap.size ≤ g) : Out w0 w' (.slice (some ⟨g, 0, none⟩) n c) n z l :=
  ⟨ho.ownB (Nat.le_trans hb.size hg), hb.trans (hb'.mono hb.size), hk.below hb', fun p hp e => by
    have := (Array.getElem?_eq_some_iff.1 (hk p hp)).1
    simp [Value.ownBlock] at e
    omega⟩
theorem Kp.head {w : World} {l : List (Nat × Obj)} {q : Nat × Obj} (h : Kp w (q :: l)) : w.heap[q.1]? = some q.2 := h q List.mem_cons_self
theorem rd_one {w : World} {g : Nat} {a : Int} {C : Array Value} (h : w.heap[g]? = some (.cells C 5 (0, 0))) (hC : C = #[.int .u8 a]) (ha : 0 ≤ a ∧ a ≤ 255) : Rd w (some ⟨g, 0, none⟩) 1 (fun _ => a) := by
  subst hC
  refine ⟨.inr ⟨g, 0, rfl, (Array.getElem?_eq_some_iff.1 h).1, fun j hj => ?_, fun _ => ha⟩, fun _ => ha⟩
  rw [cell_of_row w g _ _ _ _ h]
  obtain rfl : j = 0 := by omega
  rfl
theorem rd_two0 {w : World} {g : Nat} (h : w.heap[g]? = some (.cells #[.int .u8 0, .int .u8 0] 5 (0, 0))) : Rd w (some ⟨g, 0, none⟩) 2 (fun _ => 0) := by
  refine ⟨.inr ⟨g, 0, rfl, (Array.getElem?_eq_some_iff.1 h).1, fun j hj => ?_, fun _ => ⟨Int.le_refl 0, (by omega : (0 : Int) ≤ 255)⟩⟩, fun _ => ⟨Int.le_refl 0, (by omega : (0 : Int) ≤ 255)⟩⟩
  rw [cell_of_row w g _ _ _ _ h]
  rcases (by omega : j = 0 ∨ j = 1) with rfl | rfl <;> rfl
/-- a run of cells is read, in the order of the text -/
theorem wpList_ldr {ops : Array Oper} {Q : Exit → Act → World → Prop} {rest : List Oper} {op : Oper} {a : Act} {w : World} (hw : Region.wanted op (yielded ops a.tmps) = true) (ty : TypeId) (x : Operand) (ho : op.op = .load ty x) (b off : Nat) (hx : a.eval x = .pointer (some ⟨b, off, none⟩)) (cs : Array Value) (d : TypeDesc) (hc : w.rangeAt b off cs.toList) (hu : Try.prog.underlying ty = some d) (hd : d.isRow = true) (hi : (Try.prog.info? ty).map (·.size) = some cs.size)
    (h : wpList Try.prog ops Q rest (a.put op.dst (.agg cs)) w) : wpList Try.prog ops Q (op :: rest) a w :=
  wpList_gv (.agg cs) hw (by have := load_rng op a.eval ty x ho b off hx cs.toList d hc hu hd (by simpa using hi); simpa using this) h
end Go.Proofs.Ytfojfdlapekjoaa

/- What the document's Write is walked with. Each theorem states its conditions. -/
namespace Go.Proofs.Ytfojfdlapekjoaa
open Go.RowKit
set_option linter.unusedVariables false

/-- n new bytes are answered -/
def RwP (w : World) (n : Nat) (z : Nat → Int) (e : Ending) (w' : World) : Prop :=
  ∃ g c, e = .returned (.slice (some ⟨g, 0, none⟩) n c) ∧ w.heap.size ≤ g ∧ Own8 w' g n c z ∧ Below w.heap.size w w'
theorem J_rd {w : World} {A : Option Addr} {m : Nat} {L : Nat → It} (h : RdT w A m L) (hm : ∀ k, k < m → ¬ bad L k) : ∀ j, 0 ≤ J L m j ∧ J L m j ≤ 255 := by
  refine J_bd L m (fun j hj => ?_) (fun j hj => ?_) (fun j hj => ?_)
  · obtain ⟨b, off, rfl, hr⟩ := h.row (by omega)
    exact (hr.2 j hj).2.2.1
  · have := hm j hj
    unfold bad at this
    omega
  · obtain ⟨b, off, rfl, hr⟩ := h.row (by omega)
    exact (hr.2 j hj).2.2.2.1.2
theorem pdZ_bd (p : Pd) (q : Nat) (L : Nat → It) (hq : q ≤ 4) (hp : PdOk p) (hJ : ∀ j, 0 ≤ J L p.m j ∧ J L p.m j ≤ 255) : ∀ j, 0 ≤ pdZ p q L j ∧ pdZ p q L j ≤ 255 := by
  have h := cat_bd (n := hdN q) (accZ_bd p (hdN q + sz L p.m) q hq hp (flC q).length) hJ
  unfold pdZ
  split
  · exact sgZ_bd _ _ h
  · exact h
theorem fit_ho (p : Pd) (q : Nat) (hq : q ≤ 1) (hf : fitP p q = true) : 0 ≤ p.ho ∧ p.ho ≤ 65535 := by
  rcases (by omega : q = 0 ∨ q = 1) with rfl | rfl <;>
  · simp [fitP, fitsTo, flC, fAt, fitB] at hf
    omega
theorem fit_li (p : Pd) (hf : fitP p 2 = true) : 0 ≤ p.li ∧ p.li ≤ 65535 := by
  simp [fitP, fitsTo, flC, fAt, fitB] at hf
  omega
theorem head_at (W : World) (p : Pd) (K : Int) (q H T : Nat) (hk : p.kd = K) (hH : hdN q = H) (hb : 0 ≤ K ∧ K ≤ 255) (hH2 : H ≤ 255) :
    Own8 (W.alloc (.cells #[.int .u8 131, .int .u8 (H : Int), .int .u8 1, .int .u8 0, .int .u8 K, .int .u8 1, .int .u8 0, .int .u8 0] 5)) W.heap.size 8 8 (accZ p (H + T) q 0) := by
  subst hk hH
  exact (head_new W p.kd (hdN q)).2 (headZ_bd p.kd (hdN q) hb hH2)
theorem rd_cutSys {w : World} {A : Option Addr} {z : Nat → Int} (h : Rd w A 6 z) : Rd w A 6 (cutSys z) := by
  refine ⟨?_, cutSys_bd h.2⟩
  rcases h.1 with h0 | ⟨b, off, e, hr⟩
  · exact .inl h0
  · exact .inr ⟨b, off, e, hr.1, fun j hj => by unfold cutSys; rw [if_pos hj]; exact hr.2.1 j hj, cutSys_bd h.2⟩
/-- two check bytes are laid -/
theorem sg_own {w : World} {g n c : Nat} {z : Nat → Int} (h : Own8 w g n c z) (hn : 27 ≤ n) (x y : Int) (hx : chkX (fun i => z (12 + i)) 12 (n - 12) = x) (hy : chkY (fun i => z (12 + i)) 12 (n - 12) = y) (hx1 : 0 ≤ x ∧ x ≤ 255) (hy1 : 0 ≤ y ∧ y ≤ 255) :
    Own8 ((w.setCell ⟨g, 24, none⟩ (.int .u8 x)).setCell ⟨g, 25, none⟩ (.int .u8 y)) g n c (sgZ z n) := by
  have h1 := (h.put 24 (by omega) x hx1).put 25 (by omega) y hy1
  have e : upd (upd z 24 x) 25 y = sgZ z n := by
    funext j
    unfold upd sgZ
    rw [hx, hy]
    by_cases h24 : j = 24
    · subst h24; simp
    · by_cases h25 : j = 25
      · subst h25; simp
      · simp [h24, h25]
  rwa [e] at h1
end Go.Proofs.Ytfojfdlapekjoaa
