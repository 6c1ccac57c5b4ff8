/- pdu.Write, all ways told as one. Each theorem states its conditions. -/
import Derived.Test.YtigkmcbkckfhbaaDAw
namespace Go.Proofs.Ytigkmcbkckfhbaa
open Go.RowKit
set_option linter.unusedVariables false

/-- n bytes and a number -/
def WrP (w : World) (n : Nat) (X : Int) (z : Nat → Int) (e : Ending) (w' : World) : Prop :=
  ∃ A c, e = .returned (.tuple #[.slice A n c, .int .i64 X]) ∧ Rd w' A n z ∧ n ≤ c ∧ c ≤ maxLen ∧ Below w.heap.size w w' ∧ (X = 0 → ∃ g, A = some ⟨g, 0, none⟩ ∧ w.heap.size ≤ g ∧ Own8 w' g n c z)
/-- what Write says, how many bytes, which -/
def wrX (p : Pd) (L : Nat → It) (m0 : Nat) : Int := if cls p.kd = 5 ∨ fitP p (cls p.kd) = false then 1 else if m0 < p.m ∨ 1492 < hdN (cls p.kd) + sz L p.m then 2 else 0
def wrN (p : Pd) (L : Nat → It) (m0 : Nat) : Nat := if wrX p L m0 = 0 then hdN (cls p.kd) + sz L p.m else 0
def wrZ (p : Pd) (L : Nat → It) (m0 : Nat) : Nat → Int := if wrX p L m0 = 0 then pdZ p (cls p.kd) L else fun _ => 0
theorem cls_le (k : Int) : cls k ≤ 5 := by unfold cls; (repeat' split) <;> omega
theorem wr_none {w w' : World} {X : Int} {e : Ending} (hX : X ≠ 0) (he : e = .returned (.tuple #[.slice none 0 0, .int .i64 X])) (hb : Below w.heap.size w w') : WrP w 0 X (fun _ => 0) e w' :=
  ⟨none, 0, he, ⟨.inl rfl, fun _ => ⟨Int.le_refl 0, (by decide : (0 : Int) ≤ 255)⟩⟩, Nat.le_refl _, by decide, hb, fun h => absurd h hX⟩
theorem wr_1 (p : Pd) (L : Nat → It) (m0 : Nat) (h : cls p.kd = 5 ∨ fitP p (cls p.kd) = false) : wrX p L m0 = 1 ∧ wrN p L m0 = 0 ∧ wrZ p L m0 = fun _ => 0 := by
  have h1 : wrX p L m0 = 1 := if_pos h
  refine ⟨h1, ?_, ?_⟩
  · unfold wrN; rw [h1]; rfl
  · unfold wrZ; rw [h1]; rfl
theorem wr_2 (p : Pd) (L : Nat → It) (m0 : Nat) (h : ¬ (cls p.kd = 5 ∨ fitP p (cls p.kd) = false)) (h2 : m0 < p.m ∨ 1492 < hdN (cls p.kd) + sz L p.m) : wrX p L m0 = 2 ∧ wrN p L m0 = 0 ∧ wrZ p L m0 = fun _ => 0 := by
  have h1 : wrX p L m0 = 2 := by unfold wrX; rw [if_neg h, if_pos h2]
  refine ⟨h1, ?_, ?_⟩
  · unfold wrN; rw [h1]; rfl
  · unfold wrZ; rw [h1]; rfl
theorem wr_0 (p : Pd) (L : Nat → It) (m0 : Nat) (h : ¬ (cls p.kd = 5 ∨ fitP p (cls p.kd) = false)) (h2 : ¬ (m0 < p.m ∨ 1492 < hdN (cls p.kd) + sz L p.m)) : wrX p L m0 = 0 ∧ wrN p L m0 = hdN (cls p.kd) + sz L p.m ∧ wrZ p L m0 = pdZ p (cls p.kd) L := by
  have h1 : wrX p L m0 = 0 := by unfold wrX; rw [if_neg h, if_neg h2]
  refine ⟨h1, ?_, ?_⟩
  · unfold wrN; rw [if_pos h1]
  · unfold wrZ; rw [if_pos h1]
theorem wrN_le (p : Pd) (L : Nat → It) (m0 : Nat) : wrN p L m0 ≤ 1492 := by
  unfold wrN wrX
  by_cases h : cls p.kd = 5 ∨ fitP p (cls p.kd) = false
  · rw [if_pos h]; simp
  · rw [if_neg h]
    by_cases h2 : m0 < p.m ∨ 1492 < hdN (cls p.kd) + sz L p.m
    · rw [if_pos h2]; simp
    · rw [if_neg h2]; simp only [if_true]; omega
theorem wrX_bd (p : Pd) (L : Nat → It) (m0 : Nat) : 0 ≤ wrX p L m0 ∧ wrX p L m0 ≤ 2 := by
  unfold wrX; (repeat' split) <;> omega
theorem write_any (p : Pd) (hp : PdOk p) (L : Nat → It) (m0 : Nat) (hm : JEnds L p.m m0) (w : World) (hin : PdIn w p L) :
    Calls Try.prog 12 #[.agg (pdC p)] w (WrP w (wrN p L m0) (wrX p L m0) (wrZ p L m0)) := by
  have hc := cls_le p.kd
  by_cases h5 : cls p.kd = 5
  · obtain ⟨e1, e2, e3⟩ := wr_1 p L m0 (.inl h5)
    rw [e1, e2, e3]
    exact (write_5 p h5 w).mono fun e w' h => wr_none (by decide) h.1 h.2
  · have hq : cls p.kd ≤ 4 := by omega
    cases hf : fitP p (cls p.kd)
    · obtain ⟨e1, e2, e3⟩ := wr_1 p L m0 (.inr hf)
      rw [e1, e2, e3]
      exact (write_nofit p _ rfl hq hp hf w).mono fun e w' h => wr_none (by decide) h.1 h.2
    · have hn : ¬ (cls p.kd = 5 ∨ fitP p (cls p.kd) = false) := by rw [hf]; simpa using h5
      by_cases hlt : m0 < p.m
      · obtain ⟨e1, e2, e3⟩ := wr_2 p L m0 hn (.inl hlt)
        rw [e1, e2, e3]
        exact (write_join p _ rfl hq hp hf L m0 hm hlt w hin).mono fun e w' h => wr_none (by decide) h.1 h.2
      · obtain rfl : m0 = p.m := by have := hm.1; omega
        by_cases hl : 1492 < hdN (cls p.kd) + sz L p.m
        · obtain ⟨e1, e2, e3⟩ := wr_2 p L p.m hn (.inr hl)
          rw [e1, e2, e3]
          exact (write_long p _ rfl hq hp hf L hm hl w hin).mono fun e w' h => wr_none (by decide) h.1 h.2
        · obtain ⟨e1, e2, e3⟩ := wr_0 p L p.m hn (by omega)
          rw [e1, e2, e3]
          refine (write_ok p _ rfl hq hp hf L hm (by omega) w hin).mono fun e w' h => ?_
          obtain ⟨v, rfl, ho, hb⟩ := h
          have h17 := hdN_bd _ hq
          obtain ⟨g, cap, rfl, hg, hO⟩ := own_ofB ho (by omega)
          exact ⟨_, _, rfl, hO.rd, hO.caps.1, hO.caps.2, hb, fun _ => ⟨g, rfl, hg, hO⟩⟩
/-- packets that have the same in all fields of their kind -/
def PdLike (p p' : Pd) : Prop := p.kd = p'.kd ∧ p.m = p'.m ∧ ∀ i, i < (flC (cls p.kd)).length → fitB p (fAt (cls p.kd) i) = fitB p' (fAt (cls p.kd) i) ∧ ∀ W, fZ p W (fAt (cls p.kd) i) = fZ p' W (fAt (cls p.kd) i)
theorem accZ_congr {p p' : Pd} {q W : Nat} (hk : p.kd = p'.kd) (n : Nat) (h : ∀ i, i < n → fZ p W (fAt q i) = fZ p' W (fAt q i)) : accZ p W q n = accZ p' W q n := by
  induction n with
  | zero => simp only [accZ, hk]
  | succ n ih => simp only [accZ, ih fun i hi => h i (by omega), h n (by omega)]
theorem fitsTo_congr {p p' : Pd} {q : Nat} (n : Nat) (h : ∀ i, i < n → fitB p (fAt q i) = fitB p' (fAt q i)) : fitsTo p q n = fitsTo p' q n := by
  induction n with
  | zero => rfl
  | succ n ih => simp only [fitsTo, ih fun i hi => h i (by omega), h n (by omega)]
theorem pdZ_like {p p' : Pd} (h : PdLike p p') (L : Nat → It) : pdZ p (cls p.kd) L = pdZ p' (cls p'.kd) L := by
  obtain ⟨h1, h2, h3⟩ := h
  have hw : wZ p (cls p.kd) L = wZ p' (cls p.kd) L := by
    unfold wZ
    rw [h2, accZ_congr (p' := p') h1 _ fun i hi => (h3 i hi).2 _]
  unfold pdZ
  rw [← h1, hw, h2]
theorem wr_like {p p' : Pd} (h : PdLike p p') (L : Nat → It) (m0 : Nat) : wrX p L m0 = wrX p' L m0 ∧ wrN p L m0 = wrN p' L m0 ∧ wrZ p L m0 = wrZ p' L m0 := by
  have hz := pdZ_like h L
  obtain ⟨h1, h2, h3⟩ := h
  have hf : fitP p (cls p.kd) = fitP p' (cls p'.kd) := by
    rw [← h1]
    exact fitsTo_congr _ fun i hi => (h3 i hi).1
  have hX : wrX p L m0 = wrX p' L m0 := by
    unfold wrX
    rw [← hf, ← h1, h2]
  refine ⟨hX, ?_, ?_⟩
  · unfold wrN; rw [hX, ← h1, h2]
  · unfold wrZ; rw [hX, hz]
end Go.Proofs.Ytigkmcbkckfhbaa
