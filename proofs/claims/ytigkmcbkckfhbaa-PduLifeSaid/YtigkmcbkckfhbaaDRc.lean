/- pdu.Read, all ways. Each theorem states its conditions. -/
import Derived.Test.YtigkmcbkckfhbaaDFm
namespace Go.Proofs.Ytigkmcbkckfhbaa
open Go.RowKit
set_option linter.unusedVariables false

/-- the bytes are a packet of m TLVs -/
def GoodZ (z : Nat → Int) (n m : Nat) : Prop := FormOk z n ∧ fitP (rdP (cls (z 4)) z) (cls (z 4)) = true ∧ Ends (tlZ (cls (z 4)) z) (n - hdN (cls (z 4))) m ∧ pos (tlZ (cls (z 4)) z) m = n - hdN (cls (z 4)) ∧ (cls (z 4) = 2 → rightB (fun j => z (12 + j)) 12 (n - 12) = true)
theorem read_good (A : Option Addr) (n c : Nat) (z : Nat → Int) (w : World) (hr : Rd w A n z) (hc : n ≤ c) (hcm : c ≤ maxLen) (hn2 : n ≤ 1492) (m : Nat) (hg : GoodZ z n m) :
    Calls Try.prog 16 #[.slice A n c] w (RdOk w (cls (z 4)) z m) := by
  obtain ⟨h1, h2, h3, h4, h5⟩ := hg
  obtain ⟨b, off, rfl, hr2⟩ := hr.row (by have := h1.1; omega)
  by_cases e : cls (z 4) = 2
  · exact rd_state b off n c z w hr2 hc hcm hn2 _ rfl h1 h2 m h3 h4 e (h5 e)
  · exact rd_plain b off n c z w hr2 hc hcm hn2 _ rfl h1 h2 m h3 h4 e
/-- what a refusal leaves -/
def RdNot (w : World) (e : Ending) (w' : World) : Prop := ∃ E : Int, (E = 3 ∨ E = 8) ∧ RdErr w E e w'
theorem read_form (A : Option Addr) (n c : Nat) (z : Nat → Int) (w : World) (hr : Rd w A n z) (hc : n ≤ c) (hcm : c ≤ maxLen) (hn2 : n ≤ 1492) (hf : ¬ FormOk z n) :
    Calls Try.prog 16 #[.slice A n c] w (RdErr w 3) := by
  exact rd_formW A n c z w hr hn2 (fun W hbW => rf_fail A n c z W (hr.below hbW rfl) hc hcm hn2 hf)
theorem read_bad (A : Option Addr) (n c : Nat) (z : Nat → Int) (w : World) (hr : Rd w A n z) (hc : n ≤ c) (hcm : c ≤ maxLen) (hn2 : n ≤ 1492) (hg : ∀ m, ¬ GoodZ z n m) :
    Calls Try.prog 16 #[.slice A n c] w (RdNot w) := by
  by_cases hf : FormOk z n
  · obtain ⟨b, off, rfl, hr2⟩ := hr.row (by have := hf.1; omega)
    cases hft : fitP (rdP (cls (z 4)) z) (cls (z 4))
    · refine (rd_formW (some ⟨b, off, none⟩) n c z w hr hn2 fun W hbW => ?_).mono fun e w' h => ⟨3, .inl rfl, h⟩
      refine (rf_good b off n c z W (hr2.below' hbW) hc hcm hn2 hf false hft).mono fun e w' h => ?_
      exact ⟨_, _, _, _, h.1, h.2⟩
    · obtain ⟨m, h1, h2⟩ := pos_cases (tlZ (cls (z 4)) z) (n - hdN (cls (z 4)))
      have hE : Ends (tlZ (cls (z 4)) z) (n - hdN (cls (z 4))) m := ⟨h1, h2⟩
      by_cases hp : pos (tlZ (cls (z 4)) z) m = n - hdN (cls (z 4))
      · by_cases h22 : cls (z 4) = 2
        · cases hrb : rightB (fun j => z (12 + j)) 12 (n - 12)
          · exact (rd_sum b off n c z w hr2 hc hcm hn2 _ rfl hf hft m hE hp h22 hrb).mono fun e w' h => ⟨8, .inr rfl, h⟩
          · exact absurd ⟨hf, hft, hE, hp, fun _ => hrb⟩ (hg m)
        · exact absurd ⟨hf, hft, hE, hp, fun h => absurd h h22⟩ (hg m)
      · exact (rd_split b off n c z w hr2 hc hcm hn2 _ rfl hf hft m hE hp).mono fun e w' h => ⟨3, .inl rfl, h⟩
  · exact (read_form A n c z w hr hc hcm hn2 hf).mono fun e w' h => ⟨3, .inl rfl, h⟩
/-- what was written is a packet -/
theorem good_pd (p : Pd) (L : Nat → It) (hp : PdOk p) (hq : cls p.kd ≤ 4) (hft : fitP p (cls p.kd) = true) (hn : hdN (cls p.kd) + sz L p.m ≤ 1492) (hzb : ∀ j, 0 ≤ pdZ p (cls p.kd) L j ∧ pdZ p (cls p.kd) L j ≤ 255) : GoodZ (pdZ p (cls p.kd) L) (hdN (cls p.kd) + sz L p.m) p.m := by
  have h4 : pdZ p (cls p.kd) L 4 = p.kd := pd_head p _ L hq 4 (by omega)
  have hpos := ends_pd p _ L hq
  refine ⟨form_pd p L hq hn hp.1.1 hzb, ?_, ?_, ?_, ?_⟩
  · rw [h4]; exact fit_rd p L hp _ rfl hq hft
  · rw [h4]; exact ⟨by omega, .inl (by omega)⟩
  · rw [h4, hpos]; omega
  · rw [h4]; exact fun e => right_pd p _ L e
end Go.Proofs.Ytigkmcbkckfhbaa
