/- Members of a LAN: their order, who speaks for all. Plain facts. Each theorem states its conditions. -/
import Derived.Test.YteamnibgeobcbaaPlain
namespace Go.Proofs.Yteamnibgeobcbaa
open Go.RowKit
set_option linter.unusedVariables false

/-- a member -/
structure Mb where
  s : Nat → Int
  k : Nat → Int
  pr : Int
  up : Bool
def byte6 (z : Nat → Int) : Prop := ∀ j, 0 ≤ z j ∧ z j ≤ 255
/-- a member's place in the order -/
def keyM (m : Mb) : Int := m.pr * 281474976710656 + numZ m.k 0 6
theorem num6_bd {z : Nat → Int} (h : byte6 z) : 0 ≤ numZ z 0 6 ∧ numZ z 0 6 < 281474976710656 := by
  have h0 := h 0; have h1 := h 1; have h2 := h 2; have h3 := h 3; have h4 := h 4; have h5 := h 5
  simp only [numZ, Nat.zero_add]
  omega
theorem num6_inj {y z : Nat → Int} (hy : byte6 y) (hz : byte6 z) (h : numZ y 0 6 = numZ z 0 6) : ∀ j, j < 6 → y j = z j := by
  have a0 := hy 0; have a1 := hy 1; have a2 := hy 2; have a3 := hy 3; have a4 := hy 4; have a5 := hy 5
  have b0 := hz 0; have b1 := hz 1; have b2 := hz 2; have b3 := hz 3; have b4 := hz 4; have b5 := hz 5
  simp only [numZ, Nat.zero_add] at h
  intro j hj
  rcases (by omega : j = 0 ∨ j = 1 ∨ j = 2 ∨ j = 3 ∨ j = 4 ∨ j = 5) with rfl | rfl | rfl | rfl | rfl | rfl <;> omega
/-- who speaks among the first n -/
def Best (L : Nat → Mb) (n : Nat) (r : Int) : Prop :=
  (r = -1 ∧ ∀ j, j < n → (L j).up = false) ∨
    ∃ k, k < n ∧ r = (k : Int) ∧ (L k).up = true ∧ ∀ j, j < n → (L j).up = true → keyM (L j) < keyM (L k) ∨ (keyM (L j) = keyM (L k) ∧ k ≤ j)
theorem best_unique {L : Nat → Mb} {n : Nat} {r q : Int} (h : Best L n r) (g : Best L n q) : r = q := by
  rcases h with ⟨rfl, h⟩ | ⟨k, hk, rfl, hu, h⟩ <;> rcases g with ⟨rfl, g⟩ | ⟨i, hi, rfl, gu, g⟩
  · rfl
  · have := h i hi; rw [gu] at this; cases this
  · have := g k hk; rw [hu] at this; cases this
  · have h1 := h i hi gu
    have h2 := g k hk hu
    omega
theorem best_zero (L : Nat → Mb) : Best L 0 (-1) := .inl ⟨rfl, fun j hj => by omega⟩
/-- one member more that is not up -/
theorem best_down {L : Nat → Mb} {n : Nat} {r : Int} (h : Best L n r) (hd : (L n).up = false) : Best L (n + 1) r := by
  rcases h with ⟨rfl, h⟩ | ⟨k, hk, rfl, hu, h⟩
  · refine .inl ⟨rfl, fun j hj => ?_⟩
    by_cases e : j = n
    · subst e; exact hd
    · exact h j (by omega)
  · refine .inr ⟨k, by omega, rfl, hu, fun j hj ju => ?_⟩
    by_cases e : j = n
    · subst e; rw [hd] at ju; cases ju
    · exact h j (by omega) ju
/-- the first that is up -/
theorem best_first {L : Nat → Mb} {n : Nat} (h : Best L n (-1)) (hu : (L n).up = true) : Best L (n + 1) (n : Int) := by
  rcases h with ⟨_, h⟩ | ⟨k, hk, e, _⟩
  · refine .inr ⟨n, by omega, rfl, hu, fun j hj ju => ?_⟩
    by_cases e : j = n
    · subst e; exact .inr ⟨rfl, Nat.le_refl _⟩
    · have := h j (by omega); rw [ju] at this; cases this
  · omega
/-- one that stands ahead of the one so far -/
theorem best_ahead {L : Nat → Mb} {n k : Nat} (h : Best L n (k : Int)) (hu : (L n).up = true) (ha : keyM (L k) < keyM (L n)) : Best L (n + 1) (n : Int) := by
  rcases h with ⟨e, _⟩ | ⟨i, hi, e, ku, h⟩
  · omega
  · obtain rfl : k = i := by omega
    refine .inr ⟨n, by omega, rfl, hu, fun j hj ju => ?_⟩
    by_cases e : j = n
    · subst e; exact .inr ⟨rfl, Nat.le_refl _⟩
    · have := h j (by omega) ju; omega
/-- one that does not -/
theorem best_behind {L : Nat → Mb} {n k : Nat} (h : Best L n (k : Int)) (ha : ¬ keyM (L k) < keyM (L n)) : Best L (n + 1) (k : Int) := by
  rcases h with ⟨e, _⟩ | ⟨i, hi, e, ku, h⟩
  · omega
  · obtain rfl : k = i := by omega
    refine .inr ⟨k, by omega, rfl, ku, fun j hj ju => ?_⟩
    by_cases e : j = n
    · subst e; omega
    · exact h j (by omega) ju
/-- the document's: i is up, and nobody up is better, nor as good and ahead of it -/
def Wins (L : Nat → Mb) (n i : Nat) : Prop := (L i).up = true ∧ ∀ j, j < n → ¬ ((L j).up = true ∧ (keyM (L i) < keyM (L j) ∨ (keyM (L j) = keyM (L i) ∧ j < i)))
theorem wins_best {L : Nat → Mb} {n i : Nat} (hi : i < n) (h : Wins L n i) : Best L n (i : Int) := by
  refine .inr ⟨i, hi, rfl, h.1, fun j hj ju => ?_⟩
  have := h.2 j hj
  have h3 : ¬ (keyM (L i) < keyM (L j) ∨ (keyM (L j) = keyM (L i) ∧ j < i)) := fun x => this ⟨ju, x⟩
  omega
/-- somebody is best -/
theorem best_some (L : Nat → Mb) : ∀ n, ∃ r, Best L n r
  | 0 => ⟨-1, best_zero L⟩
  | n + 1 => by
    obtain ⟨r, h⟩ := best_some L n
    cases hu : (L n).up with
    | false => exact ⟨r, best_down h hu⟩
    | true =>
      have h' := h
      rcases h with ⟨rfl, _⟩ | ⟨k, _, rfl, _, _⟩
      · exact ⟨_, best_first h' hu⟩
      · by_cases ha : keyM (L k) < keyM (L n)
        · exact ⟨_, best_ahead h' hu ha⟩
        · exact ⟨_, best_behind h' ha⟩
theorem best_wins {L : Nat → Mb} {n k : Nat} (h : Best L n (k : Int)) : k < n ∧ Wins L n k := by
  rcases h with ⟨e, _⟩ | ⟨i, hi, e, ku, h⟩
  · omega
  · obtain rfl : k = i := by omega
    refine ⟨hi, ku, fun j hj ⟨ju, x⟩ => ?_⟩
    have := h j hj ju
    omega
/-- nobody wins: nobody is up -/
theorem none_best {L : Nat → Mb} {n : Nat} (h : ∀ i, i < n → ¬ Wins L n i) : Best L n (-1) := by
  obtain ⟨r, hr⟩ := best_some L n
  have hr' := hr
  rcases hr with ⟨rfl, _⟩ | ⟨k, hk, rfl, _, _⟩
  · exact hr'
  · exact (h k hk (best_wins hr').2).elim
/-- the error of a list of members -/
def chkM (L : Nat → Mb) (n : Nat) (e : Int) : Prop :=
  ((∃ j, j < n ∧ 127 < (L j).pr) ∧ e = 1) ∨ ((∀ j, j < n → ¬ 127 < (L j).pr) ∧ ((64 < n ∧ e = 2) ∨ (n ≤ 64 ∧ e = 0)))
theorem chkM_unique {L : Nat → Mb} {n : Nat} {e f : Int} (h : chkM L n e) (g : chkM L n f) : e = f := by
  rcases h with ⟨⟨j, hj, h⟩, rfl⟩ | ⟨h, h2⟩ <;> rcases g with ⟨⟨i, hi, g⟩, rfl⟩ | ⟨g, g2⟩
  · rfl
  · exact (g j hj h).elim
  · exact (h i hi g).elim
  · omega
end Go.Proofs.Yteamnibgeobcbaa
