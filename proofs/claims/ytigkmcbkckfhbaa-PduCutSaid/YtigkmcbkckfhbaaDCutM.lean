/- What is read of a packet with more behind it. Each theorem states its conditions. -/
import Derived.Test.YtigkmcbkckfhbaaDPro
namespace Go.Proofs.Ytigkmcbkckfhbaa
open Go.RowKit
set_option linter.unusedVariables false

/-- what is said of a packet with l bytes more, N in all -/
def CutE (l N : Nat) (E : Int) : Prop := (l = 0 ∧ E = 0) ∨ (0 < l ∧ E = 3) ∨ (0 < l ∧ 1492 < N ∧ E = 2)
def SomeRd (K : Int → Prop) (w : World) (e : Ending) (w' : World) : Prop := ∃ x E, e = .returned (.tuple #[.agg (pdC x), .int .i64 E]) ∧ K E ∧ Below w.heap.size w w'
theorem cut_more (p : Pd) (L : Nat → It) (hp : PdOk p) (hq : cls p.kd ≤ 4) (hft : fitP p (cls p.kd) = true) (hn : hdN (cls p.kd) + sz L p.m ≤ 1492) (z : Nat → Int) (l : Nat) (A : Option Addr) (c : Nat) (w : World) (N : Nat) (hN : hdN (cls p.kd) + sz L p.m = N)
    (hzb : ∀ j, 0 ≤ pdZ p (cls p.kd) L j ∧ pdZ p (cls p.kd) L j ≤ 255) (hr : Rd w A (N + l) (cat (pdZ p (cls p.kd) L) N z)) (hc : N + l ≤ c) (hcm : c ≤ maxLen) :
    Calls Try.prog 16 #[.slice A (N + l) c] w (SomeRd (CutE l (N + l)) w) := by
  subst hN
  by_cases hl : 1492 < hdN (cls p.kd) + sz L p.m + l
  · exact (rd_long A _ c w hl).mono fun e w' h => ⟨_, _, h.1, .inr (.inr ⟨by omega, hl, rfl⟩), h.2⟩
  · rcases Nat.eq_zero_or_pos l with rfl | h0
    · have hr' : Rd w A (hdN (cls p.kd) + sz L p.m) (pdZ p (cls p.kd) L) := by
        refine ⟨?_, hzb⟩
        rcases hr.1 with h | ⟨b, off, rfl, h⟩
        · exact .inl (by omega)
        · exact .inr ⟨b, off, rfl, h.1, fun j hj => by rw [h.2.1 j (by omega), cat_lo _ _ _ _ hj], hzb⟩
      exact (read_good A _ c _ w hr' (by omega) hcm (by omega) p.m (good_pd p L hp hq hft hn hzb)).mono fun e w' ⟨A', c', L', he, _, _, _, _, _, hb⟩ => ⟨_, _, he, .inl ⟨rfl, rfl⟩, hb⟩
    · refine (read_form A _ c _ w hr hc hcm (by omega) (form_not p L _ _ hq hn (fun j hj _ => cat_lo _ _ _ _ (by omega)) (by omega))).mono fun e w' h => ⟨_, _, h.1, .inr (.inl ⟨h0, rfl⟩), h.2⟩
end Go.Proofs.Ytigkmcbkckfhbaa
