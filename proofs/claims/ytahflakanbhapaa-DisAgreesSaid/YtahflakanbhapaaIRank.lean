/- Names by their ranks: the document's places are those of the sorted list. Plain facts. Each theorem states its conditions. -/
import Derived.Test.YtahflakanbhapaaITell
namespace Go.Proofs.Ytahflakanbhapaa
open Go.RowKit
set_option linter.unusedVariables false

/-- no two are alike -/
def Pw (l : List By) : Prop := l.Pairwise fun x y => nmB x ≠ nmB y
theorem pw_perm {l t : List By} (h : l.Perm t) : Pw l ↔ Pw t := h.pairwise_iff (fun h => Ne.symm h)
section
variable {L : Nat → Mb} {hOk : ∀ j, MbOk (L j)}
theorem upl_succ (k : Nat) : upl L hOk (k + 1) = if (L k).up then upl L hOk k ++ [nm L hOk k] else upl L hOk k := rfl
/-- i is unlike all others that are up -/
def Lone (L : Nat → Mb) (n i m : Nat) : Prop := ∀ j, j < m → (L j).up = true → j ≠ i → numZ (L j).s 0 6 ≠ numZ (L i).s 0 6
def NoDup (L : Nat → Mb) (n k : Nat) : Prop := ∀ i, i < k → (L i).up = true → Lone L n i n
def Dup (L : Nat → Mb) (n : Nat) : Prop := ∃ i j, i < n ∧ j < n ∧ i ≠ j ∧ (L i).up = true ∧ (L j).up = true ∧ numZ (L i).s 0 6 = numZ (L j).s 0 6
theorem nodup_pw {n : Nat} (h : NoDup L n n) : ∀ k, k ≤ n → Pw (upl L hOk k)
  | 0, _ => List.Pairwise.nil
  | k + 1, hk => by
    rw [upl_succ]
    split
    · rename_i hu
      unfold Pw
      rw [List.pairwise_append]
      refine ⟨nodup_pw h k (by omega), List.pairwise_singleton _ _, fun x hx y hy => ?_⟩
      obtain ⟨i, hi, iu, rfl⟩ := (upl_mem L hOk k x).1 hx
      obtain rfl := List.mem_singleton.1 hy
      exact h k (by omega) hu i (by omega) iu (by omega)
    · exact nodup_pw h k (by omega)
theorem pw_ne {n : Nat} : ∀ k, k ≤ n → Pw (upl L hOk k) → ∀ i j, i < j → j < k → (L i).up = true → (L j).up = true → numZ (L i).s 0 6 ≠ numZ (L j).s 0 6
  | 0, _, _ => fun i j _ hj => by omega
  | k + 1, hk, h => by
    intro i j hij hj iu ju
    rw [upl_succ] at h
    split at h
    · rename_i hu
      unfold Pw at h
      rw [List.pairwise_append] at h
      by_cases e : j = k
      · subst e
        exact h.2.2 (nm L hOk i) ((upl_mem L hOk j _).2 ⟨i, hij, iu, rfl⟩) (nm L hOk j) (List.mem_singleton.2 rfl)
      · exact pw_ne (n := n) k (by omega) h.1 i j hij (by omega) iu ju
    · rename_i hu
      by_cases e : j = k
      · subst e; exact (hu ju).elim
      · exact pw_ne (n := n) k (by omega) h i j hij (by omega) iu ju
theorem dup_pw {n : Nat} (h : Dup L n) : ¬ Pw (upl L hOk n) := by
  intro hp
  obtain ⟨i, j, hi, hj, hne, iu, ju, e⟩ := h
  rcases Nat.lt_or_gt_of_ne hne with hl | hl
  · exact pw_ne n (Nat.le_refl _) hp i j hl hj iu ju e
  · exact pw_ne n (Nat.le_refl _) hp j i hl hi ju iu e.symm
theorem strict_pw {S : List By} (h : Strict S S.length) : Pw S := by
  unfold Pw
  rw [List.pairwise_iff_getElem]
  intro i j hi hj hij e
  have h9 := strict_lt h (j - i - 1) i (by omega)
  rw [show i + (j - i - 1) + 1 = j by omega, List.getElem?_eq_getElem hi, List.getElem?_eq_getElem hj] at h9
  simp only [Option.getD_some] at h9
  omega
theorem twin_pw {S : List By} (h : Twin2 S) : ¬ Pw S := by
  intro hp
  obtain ⟨i, hi, e⟩ := h
  unfold Pw at hp
  rw [List.pairwise_iff_getElem] at hp
  have := hp i (i + 1) (by omega) hi (by omega)
  rw [List.getElem?_eq_getElem (by omega : i < S.length), List.getElem?_eq_getElem hi] at e
  exact this e
/-- how many names are less -/
def rkB (l : List By) (a : Int) : Nat := l.countP fun y => decide (nmB y < a)
theorem rk_at {S : List By} (h : Strict S S.length) (t : Nat) (ht : t < S.length) : rkB S (nmB S[t]) = t := by
  unfold rkB
  have e : S = S.take t ++ S.drop t := (List.take_append_drop t S).symm
  have hlt : ∀ i j (hi : i < S.length) (hj : j < S.length), i < j → nmB S[i] < nmB S[j] := by
    intro i j hi hj hij
    have h9 := strict_lt h (j - i - 1) i (by omega)
    rw [show i + (j - i - 1) + 1 = j by omega, List.getElem?_eq_getElem hi, List.getElem?_eq_getElem hj] at h9
    exact h9
  have h1 : (S.take t).countP (fun y => decide (nmB y < nmB S[t])) = (S.take t).length := by
    rw [List.countP_eq_length]
    intro y hy
    obtain ⟨i, hi, rfl⟩ := List.getElem_of_mem hy
    have hi' : i < t := by rw [List.length_take] at hi; omega
    rw [List.getElem_take]
    exact decide_eq_true (hlt i t (by omega) ht hi')
  have h2 : (S.drop t).countP (fun y => decide (nmB y < nmB S[t])) = 0 := by
    rw [List.countP_eq_zero]
    intro y hy
    obtain ⟨i, hi, rfl⟩ := List.getElem_of_mem hy
    rw [List.getElem_drop]
    rw [List.length_drop] at hi
    rw [decide_eq_true_iff]
    by_cases h0 : i = 0
    · subst h0; simp
    · have := hlt t (t + i) ht (by omega) (by omega)
      omega
  have h3 : S.countP (fun y => decide (nmB y < nmB S[t])) = (S.take t ++ S.drop t).countP (fun y => decide (nmB y < nmB S[t])) := by rw [List.take_append_drop]
  rw [h3, List.countP_append, h1, h2, List.length_take]
  omega
def rkM (L : Nat → Mb) (hOk : ∀ j, MbOk (L j)) (n i : Nat) : Nat := rkB (upl L hOk n) (numZ (L i).s 0 6)
/-- the document's list: each name at its rank -/
def Placed (L : Nat → Mb) (hOk : ∀ j, MbOk (L j)) (n k m : Nat) (E : Nat → Array Value) : Prop :=
  (∀ i, i < k → (L i).up = true → rkM L hOk n i < m ∧ E (rkM L hOk n i) = egC (L i).s) ∧ ∀ t, t < m → ∃ i, i < k ∧ (L i).up = true ∧ t ≤ rkM L hOk n i
theorem placed_all {n m : Nat} {E : Nat → Array Value} {S : List By} (hp : S.Perm (upl L hOk n)) (hs : Strict S S.length) (h : Placed L hOk n n m E) : m = S.length ∧ ∀ t, t < S.length → E t = egA S t := by
  have hr : ∀ a, rkB (upl L hOk n) a = rkB S a := fun a => (hp.countP_eq _).symm
  have hat : ∀ t (ht : t < S.length), ∃ i, i < n ∧ (L i).up = true ∧ nm L hOk i = S[t] ∧ rkM L hOk n i = t := by
    intro t ht
    obtain ⟨i, hi, iu, e⟩ := (upl_mem L hOk n S[t]).1 (hp.mem_iff.1 (List.getElem_mem ht))
    refine ⟨i, hi, iu, e, ?_⟩
    unfold rkM
    rw [hr]
    have : numZ (L i).s 0 6 = nmB S[t] := by rw [← e]; rfl
    rw [this, rk_at hs t ht]
  have hm : m = S.length := by
    rcases Nat.lt_trichotomy m S.length with hl | hl | hl
    · obtain ⟨i, hi, iu, _, e⟩ := hat m hl
      have := (h.1 i hi iu).1
      omega
    · exact hl
    · obtain ⟨i, hi, iu, hle⟩ := h.2 S.length hl
      have hx : nm L hOk i ∈ S := hp.mem_iff.2 ((upl_mem L hOk n _).2 ⟨i, hi, iu, rfl⟩)
      obtain ⟨t, ht, e⟩ := List.getElem_of_mem hx
      have h9 : rkM L hOk n i = t := by
        unfold rkM
        rw [hr]
        have : numZ (L i).s 0 6 = nmB S[t] := by rw [e]; rfl
        rw [this, rk_at hs t ht]
      omega
  refine ⟨hm, fun t ht => ?_⟩
  obtain ⟨i, hi, iu, e1, e2⟩ := hat t ht
  have h9 := (h.1 i hi iu).2
  rw [e2] at h9
  rw [h9, egA_at S t _ (List.getElem?_eq_getElem ht), ← e1]
  rfl
end
end Go.Proofs.Ytahflakanbhapaa
