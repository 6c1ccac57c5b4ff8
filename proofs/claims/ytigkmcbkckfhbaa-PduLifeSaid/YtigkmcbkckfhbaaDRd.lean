/- pdu.Read reads a packet. Each theorem states its conditions. -/
import Derived.Test.YtigkmcbkckfhbaaDRf2
import Derived.Test.YtigkmcbkckfhbaaDRf3
namespace Go.Proofs.Ytigkmcbkckfhbaa
open Go.RowKit
set_option linter.unusedVariables false

/-- the bytes are of the form of a kind, as far as the TLVs -/
def FormOk (z : Nat → Int) (n : Nat) : Prop := 8 ≤ n ∧ cls (z 4) ≤ 4 ∧ hdN (cls (z 4)) ≤ n ∧ eqB z (headZ (z 4) (hdN (cls (z 4)))) 8 = true ∧ ∀ i, i < (flC (cls (z 4))).length → fAt (cls (z 4)) i = 4 → toldN (cls (z 4)) z i = n
theorem rf_good (b off n c : Nat) (z : Nat → Int) (w : World) (hr : Row8 w b off n z) (hc : n ≤ c) (hcm : c ≤ maxLen) (hn2 : n ≤ 1492) (hf : FormOk z n) (r : Bool) (hft : fitP (rdP (cls (z 4)) z) (cls (z 4)) = r) :
    Calls Try.prog 42 #[.slice (some ⟨b, off, none⟩) n c] w (RfOk w b off n c (cls (z 4)) z r) := by
  obtain ⟨h1, h2, h3, h4, h5⟩ := hf
  exact rf_ok b off n c z w hr hc hcm h1 _ rfl h2 h3 hn2 h4 (flC (cls (z 4))).length ⟨Nat.le_refl _, h5, .inl rfl⟩ rfl r hft
theorem rf_fail (A : Option Addr) (n c : Nat) (z : Nat → Int) (w : World) (hr : Rd w A n z) (hc : n ≤ c) (hcm : c ≤ maxLen) (hn2 : n ≤ 1492) (hf : ¬ FormOk z n) :
    Calls Try.prog 42 #[.slice A n c] w (RfNo w) := by
  by_cases h8 : n < 8
  · exact rf_short A n c w h8
  · obtain ⟨b, off, rfl, hr2⟩ := hr.row (by omega)
    clear hr
    have hk := cls_le (z 4)
    by_cases h5 : cls (z 4) = 5
    · exact rf_kind b off n c z w hr2 hc hcm (by omega) h5
    · by_cases hh : n < hdN (cls (z 4))
      · exact rf_head b off n c z w hr2 hc hcm (by omega) _ rfl (by omega) hh
      · cases hs : eqB z (headZ (z 4) (hdN (cls (z 4)))) 8
        · exact rf_starts b off n c z w hr2 hc hcm (by omega) _ rfl (by omega) (by omega) hs
        · obtain ⟨m, hm⟩ := lendsF (cls (z 4)) z n
          rcases hm.2.2 with h | h
          · exact absurd ⟨by omega, by omega, by omega, hs, fun i hi => hm.2.1 i (by omega)⟩ hf
          · exact rf_bad b off n c z w hr2 hc hcm (by omega) _ rfl (by omega) (by omega) hn2 hs m hm h.1
/-- the TLVs' bytes -/
def tlZ (q : Nat) (z : Nat → Int) : Nat → Int := fun j => z (hdN q + j)
/-- a packet with these TLVs -/
def withT (p : Pd) (A : Option Addr) (m c : Nat) : Pd := ⟨p.kd, p.ci, p.so, p.ho, p.nu, p.pr, p.la, p.li, p.id, p.sq, p.bi, p.st, p.en, A, m, c⟩
theorem OwnT.far {w w' : World} {base m b : Nat} {v : Value} {L : Nat → It} {C : Array Value} {t : TypeId} (h : OwnT w base v m L) (hs : Stored w w' b C t) (hb : b < base) : OwnT w' base v m L := by
  refine ⟨⟨h.1.1, ?_⟩, fun j hj => ?_⟩
  · rcases h.1.2 with h1 | ⟨g, cap, cur, hv, hg, hc, r⟩
    · exact .inl h1
    · exact .inr ⟨g, cap, cur, hv, hg, (hs.2.2 g (by omega)).trans hc, r⟩
  · obtain ⟨h1, h2, g, h3, h4, h5⟩ := h.2 j hj
    exact ⟨h1, h2, g, h3, h4, h5.block (hs.2.2 g (by omega))⟩
theorem results_rd {fn : Func} {q u : Tmp} (h : fn.results = #[.cell q 33, .tmp u]) (tmps : Array Value) (W : World) (g : Nat) (p : Pd) (x : Value)
    (hp : tmps.getD q undef = .pointer (some ⟨g, 0, none⟩)) (hg : PdT 33 W g p) (hx : tmps.getD u undef = x) : (results fn tmps).run Try.prog W = .ok (.tuple #[.agg (pdC p), x]) W := by
  have h1 := run_loadVar_row (P := Try.prog) W g 33 33 (pdC p) (0, 0) _ hg Try.underlying33 rfl info_pdP
  have hp' : (tmps[q]?).getD undef = .pointer (some ⟨g, 0, none⟩) := by simpa using hp
  have hx' : (tmps[u]?).getD undef = x := by simpa using hx
  simp only [results, h]
  simp [hp', hx', asAddr, h1]
theorem isSigned_any (b off n c : Nat) (z : Nat → Int) (w : World) (r : Bool) (hr : Row8 w b off n z) (hn : 27 ≤ n) (hn2 : n ≤ 1492) (hc : n ≤ c) (hcm : c ≤ maxLen) (hq : rightB (fun j => z (12 + j)) 12 (n - 12) = r) :
    Calls Try.prog 44 #[.slice (some ⟨b, off, none⟩) n c] w fun e w' => e = .returned (.bool r) ∧ w = w' := by
  have HR := Lib.hid (right_ok b (off + 12) (n - 12) (c - 12) (fun j => z (12 + j)) 12 w (hr.shift 12 (n - 12) (by omega)) (by omega) (by omega) (by omega))
  rw [show (12 : Int).toNat = 12 from rfl, hq] at HR
  have hne12 : ¬ c = 12 := by omega
  have q1 : ¬ n < 12 := by omega
  obtain ⟨n1, hn1⟩ : ∃ n1, n - 12 = n1 := ⟨_, rfl⟩
  obtain ⟨c1, hc1⟩ : ∃ c1, c - 12 = c1 := ⟨_, rfl⟩
  rw [hn1, hc1] at HR
  unfold maxLen at hcm
  clear hr hq
  go_enter Try.func44, Try.ntmps44
  go_wp2_with fail
  refine HR.out.mono ?_
  rintro e w1 ⟨rfl, rfl⟩
  go_wp2_with fail
  go_ret
  exact ⟨rfl, rfl⟩
/-- what Read leaves where it refuses -/
def RdErr (w : World) (E : Int) (e : Ending) (w' : World) : Prop := e = .returned (.tuple #[.agg (pdC pd0), .int .i64 E]) ∧ Below w.heap.size w w'
/-- what Read leaves where it reads -/
def RdOk (w : World) (q : Nat) (z : Nat → Int) (m : Nat) (e : Ending) (w' : World) : Prop :=
  ∃ A c L, e = .returned (.tuple #[.agg (pdC (withT (rdP q z) A m c)), .int .i64 0]) ∧ OwnT w' w.heap.size (.slice A m c) m L ∧ IsItZ (tlZ q z) L m ∧ (A = none → m = 0 ∧ c = 0) ∧ m ≤ c ∧ c ≤ maxLen ∧ Below w.heap.size w w'
set_option maxHeartbeats 4000000 in
set_option maxRecDepth 100000 in
theorem rd_long (A : Option Addr) (n c : Nat) (w : World) (h : 1492 < n) : Calls Try.prog 16 #[.slice A n c] w (RdErr w 2) := by
  obtain ⟨W1, hW1⟩ : ∃ W1, w.alloc (.cells (pdC pd0) 33) = W1 := ⟨_, rfl⟩
  obtain ⟨g, hg⟩ : ∃ g, w.heap.size = g := ⟨_, rfl⟩
  have HG1 : Hid (PdT 33 W1 g pd0) := Lib.hid (by rw [← hW1, ← hg]; exact heap_alloc_new w _)
  have HB1 : Hid (Below w.heap.size w W1) := Lib.hid (by rw [← hW1]; exact (bself w).alloc (Nat.le_refl _) _)
  have HW1 := Lib.hid hW1
  have HGG := Lib.hid hg
  clear hW1 hg
  go_enter Try.func16, Try.ntmps16
  go_wp2_with (first
    | (refine wpList_v (op := ⟨some 2, _, _, _, _, _⟩) rfl _ (alloc_P' _ _ rfl w W1 g HGG.out HW1.out) ?_)
    | (refine wpList_v rfl _ (build_0 _ _ rfl _) ?_)
    | (refine wpList_st rfl 33 (.tmp 2) (.tmp 12) rfl g 0 rfl (.agg (pdC pd0)) (pdC pd0) rfl rfl info_pdP (pdC_one _) HG1.out (Nat.le_of_ble_eq_true rfl) (pd_all _ _) ?_; intro w9 hst; refine Hid.out ?_))
  refine Lib.hid ?_
  have HG9 : Hid (PdT 33 w9 g pd0) := Lib.hid hst.1
  have HB9 : Hid (Below w.heap.size w w9) := Lib.hid (HB1.out.trans (hst.2.1 _ (by rw [HGG.out]; exact Nat.le_refl _)))
  clear hst
  go_wp2_with fail
  exact bodyPost_ret (results_rd (u := 3) rfl _ w9 g _ (.int .i64 2) rfl HG9.out rfl) rfl ⟨rfl, HB9.out⟩
set_option maxHeartbeats 4000000 in
set_option maxRecDepth 100000 in
theorem rd_formW (A : Option Addr) (n c : Nat) (z : Nat → Int) (w : World) (hr : Rd w A n z) (hn2 : n ≤ 1492) (hf : ∀ W, Below w.heap.size w W → Calls Try.prog 42 #[.slice A n c] W (RfNo W)) : Calls Try.prog 16 #[.slice A n c] w (RdErr w 3) := by
  have HF := Lib.hid hf
  clear hf hr
  obtain ⟨W1, hW1⟩ : ∃ W1, w.alloc (.cells (pdC pd0) 33) = W1 := ⟨_, rfl⟩
  obtain ⟨g, hg⟩ : ∃ g, w.heap.size = g := ⟨_, rfl⟩
  have HG1 : Hid (PdT 33 W1 g pd0) := Lib.hid (by rw [← hW1, ← hg]; exact heap_alloc_new w _)
  have HB1 : Hid (Below w.heap.size w W1) := Lib.hid (by rw [← hW1]; exact (bself w).alloc (Nat.le_refl _) _)
  have HW1 := Lib.hid hW1
  have HGG := Lib.hid hg
  clear hW1 hg
  go_enter Try.func16, Try.ntmps16
  have HRF := Lib.hid (HF.out W1 HB1.out)
  go_wp2_with (refine wpList_v (op := ⟨some 2, _, _, _, _, _⟩) rfl _ (alloc_P' _ _ rfl w W1 g HGG.out HW1.out) ?_)
  refine HRF.out.mono ?_
  rintro e w3 ⟨x, A3, m3, c3, rfl, hb3⟩
  have HG3 := Lib.hid (HG1.out.below hb3 HG1.out.lt)
  have HB3 := Lib.hid (HB1.out.trans (hb3.mono HB1.out.size))
  have hgl : g < w3.heap.size := HG3.out.lt
  obtain ⟨g4, hg4⟩ : ∃ g4, w3.heap.size = g4 := ⟨_, rfl⟩
  obtain ⟨W4, hW4⟩ : ∃ W4, w3.alloc (.cells (pdC pd0) 33) = W4 := ⟨_, rfl⟩
  rw [hg4] at hgl
  have HX4 : Hid (PdT 33 W4 g4 pd0) := Lib.hid (by rw [← hW4, ← hg4]; exact heap_alloc_new w3 _)
  have HG4 : Hid (PdT 33 W4 g pd0) := Lib.hid (by rw [← hW4]; exact (Below.heap_alloc _ _ _ HG3.out.lt).trans HG3.out)
  have HB4 : Hid (Below w.heap.size w W4) := Lib.hid (by rw [← hW4]; exact HB3.out.alloc HB3.out.size _)
  have HG44 := Lib.hid hg4
  have HW44 := Lib.hid hW4
  clear hb3 hg4 hW4
  go_wp2_with (first
    | (refine wpList_v (op := ⟨some 4, _, _, _, _, _⟩) rfl _ (alloc_P' _ _ rfl w3 W4 g4 HG44.out HW44.out) ?_)
    | (refine wpList_st rfl 33 (.tmp 4) (.tmp 16) rfl g4 0 rfl (.agg (pdC x)) (pdC x) rfl rfl info_pdP (pdC_one _) HX4.out (Nat.le_of_ble_eq_true rfl) (pd_all _ _) ?_; intro w5 hst5; refine Hid.out ?_))
  refine Lib.hid ?_
  have HX5 : Hid (PdT 33 w5 g4 x) := Lib.hid hst5.1
  have HG5 : Hid (PdT 33 w5 g pd0) := Lib.hid (HG4.out.far hst5 (by omega))
  have HB5 : Hid (Below w.heap.size w w5) := Lib.hid (HB4.out.trans (hst5.2.1 _ (by rw [HGG.out]; omega)))
  clear hst5 HX4 HG4 HB4
  go_wp2_with (first
    | (refine wpList_v rfl _ (build_0 _ _ rfl _) ?_)
    | (refine wpList_st rfl 33 (.tmp 2) (.tmp 21) rfl g 0 rfl (.agg (pdC pd0)) (pdC pd0) rfl rfl info_pdP (pdC_one _) HG5.out (Nat.le_of_ble_eq_true rfl) (pd_all _ _) ?_; intro w9 hst; refine Hid.out ?_))
  refine Lib.hid ?_
  have HG9 : Hid (PdT 33 w9 g pd0) := Lib.hid hst.1
  have HB9 : Hid (Below w.heap.size w w9) := Lib.hid (HB5.out.trans (hst.2.1 _ (by rw [HGG.out]; exact Nat.le_refl _)))
  clear hst
  go_wp2_with fail
  exact bodyPost_ret (results_rd (u := 3) rfl _ w9 g _ (.int .i64 3) rfl HG9.out rfl) rfl ⟨rfl, HB9.out⟩
theorem getF_kd (p : Pd) (y : Nat → Int) (f : Nat) : (getF p y f).kd = p.kd := by unfold getF; split <;> rfl
theorem rdF_kd (q : Nat) (z : Nat → Int) (i : Nat) : (rdF q z i).kd = z 4 := by
  induction i with
  | zero => rfl
  | succ i ih => exact (getF_kd _ _ _).trans ih
theorem rdP_kd (q : Nat) (z : Nat → Int) : (rdP q z).kd = z 4 := rdF_kd q z _
set_option maxHeartbeats 4000000 in
set_option maxRecDepth 100000 in
theorem rd_split (b off n c : Nat) (z : Nat → Int) (w : World) (hr : Row8 w b off n z) (hc : n ≤ c) (hcm : c ≤ maxLen) (hn2 : n ≤ 1492) (q : Nat) (hq : cls (z 4) = q) (hf : FormOk z n) (hft : fitP (rdP q z) q = true) (m : Nat) (hm : Ends (tlZ q z) (n - hdN q) m) (hne : pos (tlZ q z) m ≠ n - hdN q) : Calls Try.prog 16 #[.slice (some ⟨b, off, none⟩) n c] w (RdErr w 3) := by
  have hbw := hr.1
  have hzz := hr.2.2
  have hHn : hdN q ≤ n := by rw [← hq]; exact hf.2.2.1
  have hq4 : q ≤ 4 := by rw [← hq]; exact hf.2.1
  have h17 := hdN_bd q hq4
  have HR := Lib.hid hr
  have HM := Lib.hid hm
  have HQ := Lib.hid hq
  have HCM := Lib.hid hcm
  obtain ⟨H, hH⟩ : ∃ H, hdN q = H := ⟨_, rfl⟩
  have HHH := Lib.hid hH
  obtain ⟨A', hA'⟩ : ∃ A' : Option Addr, (if c = H then some ⟨b, off, none⟩ else some ⟨b, off + H, none⟩) = A' := ⟨_, rfl⟩
  have HAA := Lib.hid hA'
  have HF : Hid (∀ W, Row8 W b off n z → Calls Try.prog 42 #[.slice (some ⟨b, off, none⟩) n c] W (fun e w' => e = .returned (.tuple #[.agg (pdC (rdP q z)), .slice A' (n - H) (c - H), .bool true]) ∧ Below W.heap.size W w')) := Lib.hid (fun W hW => by
    have := rf_good b off n c z W hW hc hcm hn2 hf true (by rw [hq]; exact hft)
    rw [hq] at this
    unfold RfOk at this
    rw [hH, hA'] at this
    exact this)
  rw [hH] at HM hHn h17
  have HK : Hid ((rdP q z).kd = z 4) := Lib.hid (rdP_kd q z)
  have HNE := Lib.hid hne
  clear hne
  clear hr hm hf hft hq hH hA'
  obtain ⟨W1, hW1⟩ : ∃ W1, w.alloc (.cells (pdC pd0) 33) = W1 := ⟨_, rfl⟩
  obtain ⟨g, hg⟩ : ∃ g, w.heap.size = g := ⟨_, rfl⟩
  have HG1 : Hid (PdT 33 W1 g pd0) := Lib.hid (by rw [← hW1, ← hg]; exact heap_alloc_new w _)
  have HB1 : Hid (Below w.heap.size w W1) := Lib.hid (by rw [← hW1]; exact (bself w).alloc (Nat.le_refl _) _)
  have HW1 := Lib.hid hW1
  have HGG := Lib.hid hg
  clear hW1 hg
  go_enter Try.func16, Try.ntmps16
  have HRF := Lib.hid (HF.out W1 (HR.out.below HB1.out hbw))
  go_wp2_with (refine wpList_v (op := ⟨some 2, _, _, _, _, _⟩) rfl _ (alloc_P' _ _ rfl w W1 g HGG.out HW1.out) ?_)
  refine HRF.out.mono ?_
  rintro e w3 ⟨rfl, hb3⟩
  have HG3 := Lib.hid (HG1.out.below hb3 HG1.out.lt)
  have HB3 := Lib.hid (HB1.out.trans (hb3.mono HB1.out.size))
  have hgl : g < w3.heap.size := HG3.out.lt
  obtain ⟨g4, hg4⟩ : ∃ g4, w3.heap.size = g4 := ⟨_, rfl⟩
  obtain ⟨W4, hW4⟩ : ∃ W4, w3.alloc (.cells (pdC pd0) 33) = W4 := ⟨_, rfl⟩
  rw [hg4] at hgl
  have HX4 : Hid (PdT 33 W4 g4 pd0) := Lib.hid (by rw [← hW4, ← hg4]; exact heap_alloc_new w3 _)
  have HG4 : Hid (PdT 33 W4 g pd0) := Lib.hid (by rw [← hW4]; exact (Below.heap_alloc _ _ _ HG3.out.lt).trans HG3.out)
  have HB4 : Hid (Below w.heap.size w W4) := Lib.hid (by rw [← hW4]; exact HB3.out.alloc HB3.out.size _)
  have HG44 := Lib.hid hg4
  have HW44 := Lib.hid hW4
  clear hb3 hg4 hW4
  go_wp2_with (first
    | (refine wpList_v (op := ⟨some 4, _, _, _, _, _⟩) rfl _ (alloc_P' _ _ rfl w3 W4 g4 HG44.out HW44.out) ?_)
    | (refine wpList_st rfl 33 (.tmp 4) (.tmp 16) rfl g4 0 rfl (.agg (pdC (rdP q z))) (pdC (rdP q z)) rfl rfl info_pdP (pdC_one _) HX4.out (Nat.le_of_ble_eq_true rfl) (pd_all _ _) ?_; intro w5 hst5; refine Hid.out ?_))
  refine Lib.hid ?_
  have HX5 : Hid (PdT 33 w5 g4 (rdP q z)) := Lib.hid hst5.1
  have HG5 : Hid (PdT 33 w5 g pd0) := Lib.hid (HG4.out.far hst5 (by omega))
  have HB5 : Hid (Below w.heap.size w w5) := Lib.hid (HB4.out.trans (hst5.2.1 _ (by rw [HGG.out]; omega)))
  clear hst5 HX4 HG4 HB4
  have hR5 : Row8 w5 b off n z := HR.out.below HB5.out hbw
  have HTl : Hid (Rd w5 A' (n - H) (tlZ q z)) := Lib.hid (by
    rw [← HAA.out]
    have e : tlZ q z = fun j => z (H + j) := by unfold tlZ; rw [HHH.out]
    rw [e]
    by_cases hcH : c = H
    · rw [if_pos hcH]
      exact ⟨.inl (by omega), fun j => hzz _⟩
    · rw [if_neg hcH]
      exact ⟨.inr ⟨b, off + H, rfl, hR5.shift H (n - H) (by omega)⟩, fun j => hzz _⟩)
  have HA0 : Hid (A' = none → n - H = 0 ∧ c - H = 0) := Lib.hid (fun e => by rw [← HAA.out] at e; split at e <;> cases e)
  have HSp := Lib.hid (split_any A' (n - H) (c - H) m (tlZ q z) w5 HTl.out HA0.out (by omega) (by omega) (by have := HCM.out; unfold maxLen at this; omega) HM.out)
  have HR5 := Lib.hid hR5
  have c0 : w5.cell? ⟨g4, 0, none⟩ = some (.int .u8 (z 4)) := (HX5.out.cell 0).trans ((pdC_kd _).trans (by rw [HK.out]))
  have hg45 : g4 < w5.heap.size := HX5.out.lt
  clear hR5
  go_wp2_with fail
  refine HSp.out.mono ?_
  rintro e w6 (⟨h, _⟩ | ⟨_, rfl, hb6⟩)
  · exact absurd h (by have := HNE.out; rw [HHH.out] at this; exact this)
  have HG6 := Lib.hid (HG5.out.below hb6 HG5.out.lt)
  have HB6 := Lib.hid (HB5.out.trans (hb6.mono HB5.out.size))
  clear hb6
  go_wp2_with (first
    | (refine wpList_v rfl _ (build_0 _ _ rfl _) ?_)
    | (refine wpList_st rfl 33 (.tmp 2) (.tmp 29) rfl g 0 rfl (.agg (pdC pd0)) (pdC pd0) rfl rfl info_pdP (pdC_one _) HG6.out (Nat.le_of_ble_eq_true rfl) (pd_all _ _) ?_; intro w9 hst; refine Hid.out ?_))
  refine Lib.hid ?_
  have HG9 : Hid (PdT 33 w9 g pd0) := Lib.hid hst.1
  have HB9 : Hid (Below w.heap.size w w9) := Lib.hid (HB6.out.trans (hst.2.1 _ (by rw [HGG.out]; exact Nat.le_refl _)))
  clear hst
  go_wp2_with fail
  exact bodyPost_ret (results_rd (u := 3) rfl _ w9 g _ (.int .i64 3) rfl HG9.out rfl) rfl ⟨rfl, HB9.out⟩
set_option maxHeartbeats 4000000 in
set_option maxRecDepth 100000 in
theorem rd_sum (b off n c : Nat) (z : Nat → Int) (w : World) (hr : Row8 w b off n z) (hc : n ≤ c) (hcm : c ≤ maxLen) (hn2 : n ≤ 1492) (q : Nat) (hq : cls (z 4) = q) (hf : FormOk z n) (hft : fitP (rdP q z) q = true) (m : Nat) (hm : Ends (tlZ q z) (n - hdN q) m) (hne : pos (tlZ q z) m = n - hdN q) (hq2 : q = 2) (hrb : rightB (fun j => z (12 + j)) 12 (n - 12) = false) : Calls Try.prog 16 #[.slice (some ⟨b, off, none⟩) n c] w (RdErr w 8) := by
  have hbw := hr.1
  have hzz := hr.2.2
  have hHn : hdN q ≤ n := by rw [← hq]; exact hf.2.2.1
  have hq4 : q ≤ 4 := by rw [← hq]; exact hf.2.1
  have h17 := hdN_bd q hq4
  have HR := Lib.hid hr
  have HM := Lib.hid hm
  have HQ := Lib.hid hq
  have HCM := Lib.hid hcm
  obtain ⟨H, hH⟩ : ∃ H, hdN q = H := ⟨_, rfl⟩
  have HHH := Lib.hid hH
  obtain ⟨A', hA'⟩ : ∃ A' : Option Addr, (if c = H then some ⟨b, off, none⟩ else some ⟨b, off + H, none⟩) = A' := ⟨_, rfl⟩
  have HAA := Lib.hid hA'
  have HF : Hid (∀ W, Row8 W b off n z → Calls Try.prog 42 #[.slice (some ⟨b, off, none⟩) n c] W (fun e w' => e = .returned (.tuple #[.agg (pdC (rdP q z)), .slice A' (n - H) (c - H), .bool true]) ∧ Below W.heap.size W w')) := Lib.hid (fun W hW => by
    have := rf_good b off n c z W hW hc hcm hn2 hf true (by rw [hq]; exact hft)
    rw [hq] at this
    unfold RfOk at this
    rw [hH, hA'] at this
    exact this)
  rw [hH] at HM hHn h17
  have HK : Hid ((rdP q z).kd = z 4) := Lib.hid (rdP_kd q z)
  have HNE := Lib.hid hne
  have HRB := Lib.hid hrb
  have HQ2 := Lib.hid hq2
  clear hne hrb hq2
  clear hr hm hf hft hq hH hA'
  obtain ⟨W1, hW1⟩ : ∃ W1, w.alloc (.cells (pdC pd0) 33) = W1 := ⟨_, rfl⟩
  obtain ⟨g, hg⟩ : ∃ g, w.heap.size = g := ⟨_, rfl⟩
  have HG1 : Hid (PdT 33 W1 g pd0) := Lib.hid (by rw [← hW1, ← hg]; exact heap_alloc_new w _)
  have HB1 : Hid (Below w.heap.size w W1) := Lib.hid (by rw [← hW1]; exact (bself w).alloc (Nat.le_refl _) _)
  have HW1 := Lib.hid hW1
  have HGG := Lib.hid hg
  clear hW1 hg
  go_enter Try.func16, Try.ntmps16
  have HRF := Lib.hid (HF.out W1 (HR.out.below HB1.out hbw))
  go_wp2_with (refine wpList_v (op := ⟨some 2, _, _, _, _, _⟩) rfl _ (alloc_P' _ _ rfl w W1 g HGG.out HW1.out) ?_)
  refine HRF.out.mono ?_
  rintro e w3 ⟨rfl, hb3⟩
  have HG3 := Lib.hid (HG1.out.below hb3 HG1.out.lt)
  have HB3 := Lib.hid (HB1.out.trans (hb3.mono HB1.out.size))
  have hgl : g < w3.heap.size := HG3.out.lt
  obtain ⟨g4, hg4⟩ : ∃ g4, w3.heap.size = g4 := ⟨_, rfl⟩
  obtain ⟨W4, hW4⟩ : ∃ W4, w3.alloc (.cells (pdC pd0) 33) = W4 := ⟨_, rfl⟩
  rw [hg4] at hgl
  have HX4 : Hid (PdT 33 W4 g4 pd0) := Lib.hid (by rw [← hW4, ← hg4]; exact heap_alloc_new w3 _)
  have HG4 : Hid (PdT 33 W4 g pd0) := Lib.hid (by rw [← hW4]; exact (Below.heap_alloc _ _ _ HG3.out.lt).trans HG3.out)
  have HB4 : Hid (Below w.heap.size w W4) := Lib.hid (by rw [← hW4]; exact HB3.out.alloc HB3.out.size _)
  have HG44 := Lib.hid hg4
  have HW44 := Lib.hid hW4
  clear hb3 hg4 hW4
  go_wp2_with (first
    | (refine wpList_v (op := ⟨some 4, _, _, _, _, _⟩) rfl _ (alloc_P' _ _ rfl w3 W4 g4 HG44.out HW44.out) ?_)
    | (refine wpList_st rfl 33 (.tmp 4) (.tmp 16) rfl g4 0 rfl (.agg (pdC (rdP q z))) (pdC (rdP q z)) rfl rfl info_pdP (pdC_one _) HX4.out (Nat.le_of_ble_eq_true rfl) (pd_all _ _) ?_; intro w5 hst5; refine Hid.out ?_))
  refine Lib.hid ?_
  have HX5 : Hid (PdT 33 w5 g4 (rdP q z)) := Lib.hid hst5.1
  have HG5 : Hid (PdT 33 w5 g pd0) := Lib.hid (HG4.out.far hst5 (by omega))
  have HB5 : Hid (Below w.heap.size w w5) := Lib.hid (HB4.out.trans (hst5.2.1 _ (by rw [HGG.out]; omega)))
  clear hst5 HX4 HG4 HB4
  have hR5 : Row8 w5 b off n z := HR.out.below HB5.out hbw
  have HTl : Hid (Rd w5 A' (n - H) (tlZ q z)) := Lib.hid (by
    rw [← HAA.out]
    have e : tlZ q z = fun j => z (H + j) := by unfold tlZ; rw [HHH.out]
    rw [e]
    by_cases hcH : c = H
    · rw [if_pos hcH]
      exact ⟨.inl (by omega), fun j => hzz _⟩
    · rw [if_neg hcH]
      exact ⟨.inr ⟨b, off + H, rfl, hR5.shift H (n - H) (by omega)⟩, fun j => hzz _⟩)
  have HA0 : Hid (A' = none → n - H = 0 ∧ c - H = 0) := Lib.hid (fun e => by rw [← HAA.out] at e; split at e <;> cases e)
  have HSp := Lib.hid (split_any A' (n - H) (c - H) m (tlZ q z) w5 HTl.out HA0.out (by omega) (by omega) (by have := HCM.out; unfold maxLen at this; omega) HM.out)
  have HR5 := Lib.hid hR5
  have c0 : w5.cell? ⟨g4, 0, none⟩ = some (.int .u8 (z 4)) := (HX5.out.cell 0).trans ((pdC_kd _).trans (by rw [HK.out]))
  have hg45 : g4 < w5.heap.size := HX5.out.lt
  clear hR5
  go_wp2_with fail
  refine HSp.out.mono ?_
  rintro e w6 (⟨_, v6, L6, rfl, ho6, hi6, hb6⟩ | ⟨h, _⟩)
  rotate_left
  · exact absurd (by have := HNE.out; rw [HHH.out] at this; exact this) h
  obtain ⟨A6, c6, rfl, hmc, hmx, hA6, _⟩ := ho6.shape
  have HO6 := Lib.hid ho6
  have HI6 := Lib.hid hi6
  have HA6 := Lib.hid hA6
  have HMX := Lib.hid hmx
  have HG6 := Lib.hid (HG5.out.below hb6 HG5.out.lt)
  have HX6 := Lib.hid (HX5.out.below hb6 HX5.out.lt)
  have HB6 := Lib.hid (HB5.out.trans (hb6.mono HB5.out.size))
  have HR6 := Lib.hid (HR5.out.below hb6 HR5.out.1)
  have c0' : w6.cell? ⟨g4, 0, none⟩ = some (.int .u8 (z 4)) := (HX6.out.cell 0).trans ((pdC_kd _).trans (by rw [HK.out]))
  have HST := Lib.hid (isState_any (z 4) w6)
  clear ho6 hi6 hb6 hA6 hmx c0
  rw [show decide (cls (z 4) = 2) = true by rw [HQ.out, HQ2.out]; rfl] at HST
  have h27 : 27 ≤ n := by
    have h1 : H = 27 := by rw [← HHH.out, HQ2.out]; rfl
    omega
  have HSG := Lib.hid (isSigned_any b off n c z w6 false HR6.out h27 hn2 hc HCM.out HRB.out)
  go_wp2_with fail
  refine HST.out.mono ?_
  rintro e w7 ⟨rfl, rfl⟩
  go_wp2_with fail
  refine HSG.out.mono ?_
  rintro e w7 ⟨rfl, rfl⟩
  go_wp2_with (first
    | (refine wpList_v rfl _ (build_0 _ _ rfl _) ?_)
    | (refine wpList_st rfl 33 (.tmp 2) (.tmp 39) rfl g 0 rfl (.agg (pdC pd0)) (pdC pd0) rfl rfl info_pdP (pdC_one _) HG6.out (Nat.le_of_ble_eq_true rfl) (pd_all _ _) ?_; intro w9 hst; refine Hid.out ?_))
  refine Lib.hid ?_
  have HG9 : Hid (PdT 33 w9 g pd0) := Lib.hid hst.1
  have HB9 : Hid (Below w.heap.size w w9) := Lib.hid (HB6.out.trans (hst.2.1 _ (by rw [HGG.out]; exact Nat.le_refl _)))
  clear hst
  go_wp2_with fail
  exact bodyPost_ret (results_rd (u := 3) rfl _ w9 g _ (.int .i64 8) rfl HG9.out rfl) rfl ⟨rfl, HB9.out⟩
set_option maxHeartbeats 4000000 in
set_option maxRecDepth 100000 in
theorem rd_state (b off n c : Nat) (z : Nat → Int) (w : World) (hr : Row8 w b off n z) (hc : n ≤ c) (hcm : c ≤ maxLen) (hn2 : n ≤ 1492) (q : Nat) (hq : cls (z 4) = q) (hf : FormOk z n) (hft : fitP (rdP q z) q = true) (m : Nat) (hm : Ends (tlZ q z) (n - hdN q) m) (hne : pos (tlZ q z) m = n - hdN q) (hq2 : q = 2) (hrb : rightB (fun j => z (12 + j)) 12 (n - 12) = true) : Calls Try.prog 16 #[.slice (some ⟨b, off, none⟩) n c] w (RdOk w q z m) := by
  have hbw := hr.1
  have hzz := hr.2.2
  have hHn : hdN q ≤ n := by rw [← hq]; exact hf.2.2.1
  have hq4 : q ≤ 4 := by rw [← hq]; exact hf.2.1
  have h17 := hdN_bd q hq4
  have HR := Lib.hid hr
  have HM := Lib.hid hm
  have HQ := Lib.hid hq
  have HCM := Lib.hid hcm
  obtain ⟨H, hH⟩ : ∃ H, hdN q = H := ⟨_, rfl⟩
  have HHH := Lib.hid hH
  obtain ⟨A', hA'⟩ : ∃ A' : Option Addr, (if c = H then some ⟨b, off, none⟩ else some ⟨b, off + H, none⟩) = A' := ⟨_, rfl⟩
  have HAA := Lib.hid hA'
  have HF : Hid (∀ W, Row8 W b off n z → Calls Try.prog 42 #[.slice (some ⟨b, off, none⟩) n c] W (fun e w' => e = .returned (.tuple #[.agg (pdC (rdP q z)), .slice A' (n - H) (c - H), .bool true]) ∧ Below W.heap.size W w')) := Lib.hid (fun W hW => by
    have := rf_good b off n c z W hW hc hcm hn2 hf true (by rw [hq]; exact hft)
    rw [hq] at this
    unfold RfOk at this
    rw [hH, hA'] at this
    exact this)
  rw [hH] at HM hHn h17
  have HK : Hid ((rdP q z).kd = z 4) := Lib.hid (rdP_kd q z)
  have HNE := Lib.hid hne
  have HRB := Lib.hid hrb
  have HQ2 := Lib.hid hq2
  clear hne hrb hq2
  clear hr hm hf hft hq hH hA'
  obtain ⟨W1, hW1⟩ : ∃ W1, w.alloc (.cells (pdC pd0) 33) = W1 := ⟨_, rfl⟩
  obtain ⟨g, hg⟩ : ∃ g, w.heap.size = g := ⟨_, rfl⟩
  have HG1 : Hid (PdT 33 W1 g pd0) := Lib.hid (by rw [← hW1, ← hg]; exact heap_alloc_new w _)
  have HB1 : Hid (Below w.heap.size w W1) := Lib.hid (by rw [← hW1]; exact (bself w).alloc (Nat.le_refl _) _)
  have HW1 := Lib.hid hW1
  have HGG := Lib.hid hg
  clear hW1 hg
  go_enter Try.func16, Try.ntmps16
  have HRF := Lib.hid (HF.out W1 (HR.out.below HB1.out hbw))
  go_wp2_with (refine wpList_v (op := ⟨some 2, _, _, _, _, _⟩) rfl _ (alloc_P' _ _ rfl w W1 g HGG.out HW1.out) ?_)
  refine HRF.out.mono ?_
  rintro e w3 ⟨rfl, hb3⟩
  have HG3 := Lib.hid (HG1.out.below hb3 HG1.out.lt)
  have HB3 := Lib.hid (HB1.out.trans (hb3.mono HB1.out.size))
  have hgl : g < w3.heap.size := HG3.out.lt
  obtain ⟨g4, hg4⟩ : ∃ g4, w3.heap.size = g4 := ⟨_, rfl⟩
  obtain ⟨W4, hW4⟩ : ∃ W4, w3.alloc (.cells (pdC pd0) 33) = W4 := ⟨_, rfl⟩
  rw [hg4] at hgl
  have HX4 : Hid (PdT 33 W4 g4 pd0) := Lib.hid (by rw [← hW4, ← hg4]; exact heap_alloc_new w3 _)
  have HG4 : Hid (PdT 33 W4 g pd0) := Lib.hid (by rw [← hW4]; exact (Below.heap_alloc _ _ _ HG3.out.lt).trans HG3.out)
  have HB4 : Hid (Below w.heap.size w W4) := Lib.hid (by rw [← hW4]; exact HB3.out.alloc HB3.out.size _)
  have HG44 := Lib.hid hg4
  have HW44 := Lib.hid hW4
  clear hb3 hg4 hW4
  go_wp2_with (first
    | (refine wpList_v (op := ⟨some 4, _, _, _, _, _⟩) rfl _ (alloc_P' _ _ rfl w3 W4 g4 HG44.out HW44.out) ?_)
    | (refine wpList_st rfl 33 (.tmp 4) (.tmp 16) rfl g4 0 rfl (.agg (pdC (rdP q z))) (pdC (rdP q z)) rfl rfl info_pdP (pdC_one _) HX4.out (Nat.le_of_ble_eq_true rfl) (pd_all _ _) ?_; intro w5 hst5; refine Hid.out ?_))
  refine Lib.hid ?_
  have HX5 : Hid (PdT 33 w5 g4 (rdP q z)) := Lib.hid hst5.1
  have HG5 : Hid (PdT 33 w5 g pd0) := Lib.hid (HG4.out.far hst5 (by omega))
  have HB5 : Hid (Below w.heap.size w w5) := Lib.hid (HB4.out.trans (hst5.2.1 _ (by rw [HGG.out]; omega)))
  clear hst5 HX4 HG4 HB4
  have hR5 : Row8 w5 b off n z := HR.out.below HB5.out hbw
  have HTl : Hid (Rd w5 A' (n - H) (tlZ q z)) := Lib.hid (by
    rw [← HAA.out]
    have e : tlZ q z = fun j => z (H + j) := by unfold tlZ; rw [HHH.out]
    rw [e]
    by_cases hcH : c = H
    · rw [if_pos hcH]
      exact ⟨.inl (by omega), fun j => hzz _⟩
    · rw [if_neg hcH]
      exact ⟨.inr ⟨b, off + H, rfl, hR5.shift H (n - H) (by omega)⟩, fun j => hzz _⟩)
  have HA0 : Hid (A' = none → n - H = 0 ∧ c - H = 0) := Lib.hid (fun e => by rw [← HAA.out] at e; split at e <;> cases e)
  have HSp := Lib.hid (split_any A' (n - H) (c - H) m (tlZ q z) w5 HTl.out HA0.out (by omega) (by omega) (by have := HCM.out; unfold maxLen at this; omega) HM.out)
  have HR5 := Lib.hid hR5
  have c0 : w5.cell? ⟨g4, 0, none⟩ = some (.int .u8 (z 4)) := (HX5.out.cell 0).trans ((pdC_kd _).trans (by rw [HK.out]))
  have hg45 : g4 < w5.heap.size := HX5.out.lt
  clear hR5
  go_wp2_with fail
  refine HSp.out.mono ?_
  rintro e w6 (⟨_, v6, L6, rfl, ho6, hi6, hb6⟩ | ⟨h, _⟩)
  rotate_left
  · exact absurd (by have := HNE.out; rw [HHH.out] at this; exact this) h
  obtain ⟨A6, c6, rfl, hmc, hmx, hA6, _⟩ := ho6.shape
  have HO6 := Lib.hid ho6
  have HI6 := Lib.hid hi6
  have HA6 := Lib.hid hA6
  have HMX := Lib.hid hmx
  have HG6 := Lib.hid (HG5.out.below hb6 HG5.out.lt)
  have HX6 := Lib.hid (HX5.out.below hb6 HX5.out.lt)
  have HB6 := Lib.hid (HB5.out.trans (hb6.mono HB5.out.size))
  have HR6 := Lib.hid (HR5.out.below hb6 HR5.out.1)
  have c0' : w6.cell? ⟨g4, 0, none⟩ = some (.int .u8 (z 4)) := (HX6.out.cell 0).trans ((pdC_kd _).trans (by rw [HK.out]))
  have HST := Lib.hid (isState_any (z 4) w6)
  clear ho6 hi6 hb6 hA6 hmx c0
  rw [show decide (cls (z 4) = 2) = true by rw [HQ.out, HQ2.out]; rfl] at HST
  have h27 : 27 ≤ n := by
    have h1 : H = 27 := by rw [← HHH.out, HQ2.out]; rfl
    omega
  have HSG := Lib.hid (isSigned_any b off n c z w6 true HR6.out h27 hn2 hc HCM.out HRB.out)
  go_wp2_with fail
  refine HST.out.mono ?_
  rintro e w7 ⟨rfl, rfl⟩
  go_wp2_with fail
  refine HSG.out.mono ?_
  rintro e w7 ⟨rfl, rfl⟩
  go_wp2_with (first
    | (refine wpList_st rfl 29 (.tmp 41) (.tmp 40) rfl g4 46 rfl (.slice A6 m c6) #[.slice A6 m c6] rfl rfl (by kernel_rfl) (by kernel_rfl) HX6.out (Nat.le_of_ble_eq_true rfl) (C' := pdC (withT (rdP q z) A6 m c6)) (by kernel_rfl) ?_; intro w8 hst8; refine Hid.out ?_))
  refine Lib.hid ?_
  have HX8 : Hid (PdT 33 w8 g4 (withT (rdP q z) A6 m c6)) := Lib.hid hst8.1
  have HG8 : Hid (PdT 33 w8 g pd0) := Lib.hid (HG6.out.far hst8 (by omega))
  have HB8 : Hid (Below w.heap.size w w8) := Lib.hid (HB6.out.trans (hst8.2.1 _ (by rw [HGG.out]; omega)))
  have HO8 := Lib.hid (HO6.out.far hst8 hg45)
  clear hst8 c0'
  go_wp2_with (first
    | (refine wpList_load_mid rfl 33 (.tmp 4) rfl g4 0 rfl (pdC (withT (rdP q z) A6 m c6)).toList _ HX8.out.all Try.underlying33 rfl info_pdP ?_)
    | (refine wpList_st rfl 33 (.tmp 2) (.tmp 42) rfl g 0 rfl (.agg (pdC (withT (rdP q z) A6 m c6))) (pdC (withT (rdP q z) A6 m c6)) rfl rfl info_pdP (pdC_one _) HG8.out (Nat.le_of_ble_eq_true rfl) (pd_all _ _) ?_; intro w9 hst9; refine Hid.out ?_))
  refine Lib.hid ?_
  have HG9 : Hid (PdT 33 w9 g (withT (rdP q z) A6 m c6)) := Lib.hid hst9.1
  have HB9 : Hid (Below w.heap.size w w9) := Lib.hid (HB8.out.trans (hst9.2.1 _ (by rw [HGG.out]; exact Nat.le_refl _)))
  have HO9 := Lib.hid (HO8.out.far hst9 (by omega))
  have HO9' : Hid (OwnT w9 w.heap.size (.slice A6 m c6) m L6) := Lib.hid ⟨ownsRow_mono HO9.out.1 HB5.out.size, fun j hj => (HO9.out.2 j hj).mono HB5.out.size⟩
  clear hst9
  go_wp2_with fail
  exact bodyPost_ret (results_rd (u := 3) rfl _ w9 g _ (.int .i64 0) rfl HG9.out rfl) rfl ⟨A6, c6, L6, rfl, HO9'.out, HI6.out, HA6.out, hmc, HMX.out, HB9.out⟩
set_option maxHeartbeats 4000000 in
set_option maxRecDepth 100000 in
theorem rd_plain (b off n c : Nat) (z : Nat → Int) (w : World) (hr : Row8 w b off n z) (hc : n ≤ c) (hcm : c ≤ maxLen) (hn2 : n ≤ 1492) (q : Nat) (hq : cls (z 4) = q) (hf : FormOk z n) (hft : fitP (rdP q z) q = true) (m : Nat) (hm : Ends (tlZ q z) (n - hdN q) m) (hne : pos (tlZ q z) m = n - hdN q) (hq2 : q ≠ 2) : Calls Try.prog 16 #[.slice (some ⟨b, off, none⟩) n c] w (RdOk w q z m) := by
  have hbw := hr.1
  have hzz := hr.2.2
  have hHn : hdN q ≤ n := by rw [← hq]; exact hf.2.2.1
  have hq4 : q ≤ 4 := by rw [← hq]; exact hf.2.1
  have h17 := hdN_bd q hq4
  have HR := Lib.hid hr
  have HM := Lib.hid hm
  have HQ := Lib.hid hq
  have HCM := Lib.hid hcm
  obtain ⟨H, hH⟩ : ∃ H, hdN q = H := ⟨_, rfl⟩
  have HHH := Lib.hid hH
  obtain ⟨A', hA'⟩ : ∃ A' : Option Addr, (if c = H then some ⟨b, off, none⟩ else some ⟨b, off + H, none⟩) = A' := ⟨_, rfl⟩
  have HAA := Lib.hid hA'
  have HF : Hid (∀ W, Row8 W b off n z → Calls Try.prog 42 #[.slice (some ⟨b, off, none⟩) n c] W (fun e w' => e = .returned (.tuple #[.agg (pdC (rdP q z)), .slice A' (n - H) (c - H), .bool true]) ∧ Below W.heap.size W w')) := Lib.hid (fun W hW => by
    have := rf_good b off n c z W hW hc hcm hn2 hf true (by rw [hq]; exact hft)
    rw [hq] at this
    unfold RfOk at this
    rw [hH, hA'] at this
    exact this)
  rw [hH] at HM hHn h17
  have HK : Hid ((rdP q z).kd = z 4) := Lib.hid (rdP_kd q z)
  have HNE := Lib.hid hne
  have HQ2 := Lib.hid hq2
  clear hne hq2
  clear hr hm hf hft hq hH hA'
  obtain ⟨W1, hW1⟩ : ∃ W1, w.alloc (.cells (pdC pd0) 33) = W1 := ⟨_, rfl⟩
  obtain ⟨g, hg⟩ : ∃ g, w.heap.size = g := ⟨_, rfl⟩
  have HG1 : Hid (PdT 33 W1 g pd0) := Lib.hid (by rw [← hW1, ← hg]; exact heap_alloc_new w _)
  have HB1 : Hid (Below w.heap.size w W1) := Lib.hid (by rw [← hW1]; exact (bself w).alloc (Nat.le_refl _) _)
  have HW1 := Lib.hid hW1
  have HGG := Lib.hid hg
  clear hW1 hg
  go_enter Try.func16, Try.ntmps16
  have HRF := Lib.hid (HF.out W1 (HR.out.below HB1.out hbw))
  go_wp2_with (refine wpList_v (op := ⟨some 2, _, _, _, _, _⟩) rfl _ (alloc_P' _ _ rfl w W1 g HGG.out HW1.out) ?_)
  refine HRF.out.mono ?_
  rintro e w3 ⟨rfl, hb3⟩
  have HG3 := Lib.hid (HG1.out.below hb3 HG1.out.lt)
  have HB3 := Lib.hid (HB1.out.trans (hb3.mono HB1.out.size))
  have hgl : g < w3.heap.size := HG3.out.lt
  obtain ⟨g4, hg4⟩ : ∃ g4, w3.heap.size = g4 := ⟨_, rfl⟩
  obtain ⟨W4, hW4⟩ : ∃ W4, w3.alloc (.cells (pdC pd0) 33) = W4 := ⟨_, rfl⟩
  rw [hg4] at hgl
  have HX4 : Hid (PdT 33 W4 g4 pd0) := Lib.hid (by rw [← hW4, ← hg4]; exact heap_alloc_new w3 _)
  have HG4 : Hid (PdT 33 W4 g pd0) := Lib.hid (by rw [← hW4]; exact (Below.heap_alloc _ _ _ HG3.out.lt).trans HG3.out)
  have HB4 : Hid (Below w.heap.size w W4) := Lib.hid (by rw [← hW4]; exact HB3.out.alloc HB3.out.size _)
  have HG44 := Lib.hid hg4
  have HW44 := Lib.hid hW4
  clear hb3 hg4 hW4
  go_wp2_with (first
    | (refine wpList_v (op := ⟨some 4, _, _, _, _, _⟩) rfl _ (alloc_P' _ _ rfl w3 W4 g4 HG44.out HW44.out) ?_)
    | (refine wpList_st rfl 33 (.tmp 4) (.tmp 16) rfl g4 0 rfl (.agg (pdC (rdP q z))) (pdC (rdP q z)) rfl rfl info_pdP (pdC_one _) HX4.out (Nat.le_of_ble_eq_true rfl) (pd_all _ _) ?_; intro w5 hst5; refine Hid.out ?_))
  refine Lib.hid ?_
  have HX5 : Hid (PdT 33 w5 g4 (rdP q z)) := Lib.hid hst5.1
  have HG5 : Hid (PdT 33 w5 g pd0) := Lib.hid (HG4.out.far hst5 (by omega))
  have HB5 : Hid (Below w.heap.size w w5) := Lib.hid (HB4.out.trans (hst5.2.1 _ (by rw [HGG.out]; omega)))
  clear hst5 HX4 HG4 HB4
  have hR5 : Row8 w5 b off n z := HR.out.below HB5.out hbw
  have HTl : Hid (Rd w5 A' (n - H) (tlZ q z)) := Lib.hid (by
    rw [← HAA.out]
    have e : tlZ q z = fun j => z (H + j) := by unfold tlZ; rw [HHH.out]
    rw [e]
    by_cases hcH : c = H
    · rw [if_pos hcH]
      exact ⟨.inl (by omega), fun j => hzz _⟩
    · rw [if_neg hcH]
      exact ⟨.inr ⟨b, off + H, rfl, hR5.shift H (n - H) (by omega)⟩, fun j => hzz _⟩)
  have HA0 : Hid (A' = none → n - H = 0 ∧ c - H = 0) := Lib.hid (fun e => by rw [← HAA.out] at e; split at e <;> cases e)
  have HSp := Lib.hid (split_any A' (n - H) (c - H) m (tlZ q z) w5 HTl.out HA0.out (by omega) (by omega) (by have := HCM.out; unfold maxLen at this; omega) HM.out)
  have HR5 := Lib.hid hR5
  have c0 : w5.cell? ⟨g4, 0, none⟩ = some (.int .u8 (z 4)) := (HX5.out.cell 0).trans ((pdC_kd _).trans (by rw [HK.out]))
  have hg45 : g4 < w5.heap.size := HX5.out.lt
  clear hR5
  go_wp2_with fail
  refine HSp.out.mono ?_
  rintro e w6 (⟨_, v6, L6, rfl, ho6, hi6, hb6⟩ | ⟨h, _⟩)
  rotate_left
  · exact absurd (by have := HNE.out; rw [HHH.out] at this; exact this) h
  obtain ⟨A6, c6, rfl, hmc, hmx, hA6, _⟩ := ho6.shape
  have HO6 := Lib.hid ho6
  have HI6 := Lib.hid hi6
  have HA6 := Lib.hid hA6
  have HMX := Lib.hid hmx
  have HG6 := Lib.hid (HG5.out.below hb6 HG5.out.lt)
  have HX6 := Lib.hid (HX5.out.below hb6 HX5.out.lt)
  have HB6 := Lib.hid (HB5.out.trans (hb6.mono HB5.out.size))
  have HR6 := Lib.hid (HR5.out.below hb6 HR5.out.1)
  have c0' : w6.cell? ⟨g4, 0, none⟩ = some (.int .u8 (z 4)) := (HX6.out.cell 0).trans ((pdC_kd _).trans (by rw [HK.out]))
  have HST := Lib.hid (isState_any (z 4) w6)
  clear ho6 hi6 hb6 hA6 hmx c0
  rw [show decide (cls (z 4) = 2) = false by rw [HQ.out]; exact decide_eq_false HQ2.out] at HST
  go_wp2_with fail
  refine HST.out.mono ?_
  rintro e w7 ⟨rfl, rfl⟩
  go_wp2_with (first
    | (refine wpList_st rfl 29 (.tmp 41) (.tmp 40) rfl g4 46 rfl (.slice A6 m c6) #[.slice A6 m c6] rfl rfl (by kernel_rfl) (by kernel_rfl) HX6.out (Nat.le_of_ble_eq_true rfl) (C' := pdC (withT (rdP q z) A6 m c6)) (by kernel_rfl) ?_; intro w8 hst8; refine Hid.out ?_))
  refine Lib.hid ?_
  have HX8 : Hid (PdT 33 w8 g4 (withT (rdP q z) A6 m c6)) := Lib.hid hst8.1
  have HG8 : Hid (PdT 33 w8 g pd0) := Lib.hid (HG6.out.far hst8 (by omega))
  have HB8 : Hid (Below w.heap.size w w8) := Lib.hid (HB6.out.trans (hst8.2.1 _ (by rw [HGG.out]; omega)))
  have HO8 := Lib.hid (HO6.out.far hst8 hg45)
  clear hst8 c0'
  go_wp2_with (first
    | (refine wpList_load_mid rfl 33 (.tmp 4) rfl g4 0 rfl (pdC (withT (rdP q z) A6 m c6)).toList _ HX8.out.all Try.underlying33 rfl info_pdP ?_)
    | (refine wpList_st rfl 33 (.tmp 2) (.tmp 42) rfl g 0 rfl (.agg (pdC (withT (rdP q z) A6 m c6))) (pdC (withT (rdP q z) A6 m c6)) rfl rfl info_pdP (pdC_one _) HG8.out (Nat.le_of_ble_eq_true rfl) (pd_all _ _) ?_; intro w9 hst9; refine Hid.out ?_))
  refine Lib.hid ?_
  have HG9 : Hid (PdT 33 w9 g (withT (rdP q z) A6 m c6)) := Lib.hid hst9.1
  have HB9 : Hid (Below w.heap.size w w9) := Lib.hid (HB8.out.trans (hst9.2.1 _ (by rw [HGG.out]; exact Nat.le_refl _)))
  have HO9 := Lib.hid (HO8.out.far hst9 (by omega))
  have HO9' : Hid (OwnT w9 w.heap.size (.slice A6 m c6) m L6) := Lib.hid ⟨ownsRow_mono HO9.out.1 HB5.out.size, fun j hj => (HO9.out.2 j hj).mono HB5.out.size⟩
  clear hst9
  go_wp2_with fail
  exact bodyPost_ret (results_rd (u := 3) rfl _ w9 g _ (.int .i64 0) rfl HG9.out rfl) rfl ⟨A6, c6, L6, rfl, HO9'.out, HI6.out, HA6.out, hmc, HMX.out, HB9.out⟩
end Go.Proofs.Ytigkmcbkckfhbaa
