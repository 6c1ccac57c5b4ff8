/- The document's list of a trie: plain facts. No condition. -/
import Derived.Test.YtjnbemopfhinbaaTrP
namespace Go.Proofs.Ytjnbemopfhinbaa
open Go.RowKit
set_option linter.unusedVariables false
set_option linter.unusedSimpArgs false

abbrev Ky := Bool × List Bool
abbrev It := Ky × Int
/-- the order of keys -/
def ltQ (a b : Ky) : Bool := if a.1 = b.1 then Tr.ltB a.2 b.2 else b.1
theorem ltQ_irr (a : Ky) : ltQ a a = false := by unfold ltQ; rw [if_pos rfl]; exact Tr.lt_irr _
theorem ltQ_asym {a b : Ky} (h : ltQ a b = true) : ltQ b a = false := by
  unfold ltQ at h ⊢
  by_cases e : a.1 = b.1
  · rw [if_pos e] at h; rw [if_pos e.symm]; exact Tr.lt_asym _ _ h
  · rw [if_neg e] at h; rw [if_neg (fun x => e x.symm)]
    cases ha : a.1
    · rfl
    · exact absurd (ha.trans h.symm) e
theorem ltQ_trans {a b c : Ky} (h : ltQ a b = true) (k : ltQ b c = true) : ltQ a c = true := by
  unfold ltQ at h k ⊢
  by_cases e : a.1 = b.1
  · rw [if_pos e] at h
    by_cases f : b.1 = c.1
    · rw [if_pos f] at k; rw [if_pos (e.trans f)]; exact Tr.lt_trans _ _ _ h k
    · rw [if_neg f] at k; rw [if_neg (fun x => f (e.symm.trans x))]; exact k
  · rw [if_neg e] at h
    by_cases f : b.1 = c.1
    · rw [if_neg (fun x => e (x.trans f.symm)), ← f]; exact h
    · rw [if_neg f] at k
      exact absurd (h.trans k.symm) f
theorem ltQ_tri (a b : Ky) : ltQ a b = true ∨ a = b ∨ ltQ b a = true := by
  unfold ltQ
  by_cases e : a.1 = b.1
  · rw [if_pos e, if_pos e.symm]
    rcases Tr.lt_tri a.2 b.2 with h | h | h
    · exact .inl h
    · exact .inr (.inl (Prod.ext e h))
    · exact .inr (.inr h)
  · rw [if_neg e, if_neg (fun x => e x.symm)]
    cases hb : b.1
    · cases ha : a.1
      · exact absurd (ha.trans hb.symm) e
      · exact .inr (.inr rfl)
    · exact .inl rfl
def AscD (D : List It) : Prop := D.Pairwise (fun x y => ltQ x.1 y.1 = true)
theorem asc_eq : ∀ {S T : List It}, AscD S → AscD T → (∀ x, x ∈ S ↔ x ∈ T) → S = T
  | [], [], _, _, _ => rfl
  | [], y :: T, _, _, h => absurd ((h y).2 (List.mem_cons_self ..)) (by simp)
  | x :: S, [], _, _, h => absurd ((h x).1 (List.mem_cons_self ..)) (by simp)
  | x :: S, y :: T, hs, ht, h => by
    obtain ⟨s1, s2⟩ := List.pairwise_cons.1 hs
    obtain ⟨t1, t2⟩ := List.pairwise_cons.1 ht
    have hxy : x = y := by
      rcases List.mem_cons.1 ((h x).1 (List.mem_cons_self ..)) with e | hx
      · exact e
      · rcases List.mem_cons.1 ((h y).2 (List.mem_cons_self ..)) with e | hy
        · exact e.symm
        · have a1 := t1 x hx
          have a2 := ltQ_asym (s1 y hy)
          rw [a1] at a2
          cases a2
    subst hxy
    congr 1
    refine asc_eq s2 t2 fun z => ⟨fun hz => ?_, fun hz => ?_⟩
    · rcases List.mem_cons.1 ((h z).1 (List.mem_cons_of_mem _ hz)) with e | hz'
      · have := s1 z hz
        rw [e, ltQ_irr] at this
        cases this
      · exact hz'
    · rcases List.mem_cons.1 ((h z).2 (List.mem_cons_of_mem _ hz)) with e | hz'
      · have := t1 z hz
        rw [e, ltQ_irr] at this
        cases this
      · exact hz'
/-- all but a key -/
def wo (k : Ky) (D : List It) : List It := D.filter (fun x => decide (x.1 ≠ k))
theorem mem_wo {k : Ky} {D : List It} {x : It} : x ∈ wo k D ↔ x ∈ D ∧ x.1 ≠ k := by unfold wo; rw [List.mem_filter, decide_eq_true_iff]
theorem asc_wo {k : Ky} {D : List It} (h : AscD D) : AscD (wo k D) := List.Pairwise.filter _ h
theorem wo_len (k : Ky) (D : List It) : (wo k D).length ≤ D.length := List.length_filter_le _ _
theorem wo_cons (k : Ky) (x : It) (D : List It) : wo k (x :: D) = if x.1 = k then wo k D else x :: wo k D := by
  unfold wo
  by_cases h : x.1 = k
  · rw [if_pos h, List.filter_cons_of_neg (by simp [h])]
  · rw [if_neg h, List.filter_cons_of_pos (by simp [h])]
/-- one is laid at its place -/
def insL (k : Ky) (v : Int) : List It → List It
  | [] => [(k, v)]
  | x :: r => if ltQ k x.1 = true then (k, v) :: x :: r else x :: insL k v r
theorem mem_insL {k : Ky} {v : Int} {y : It} : ∀ {D : List It}, y ∈ insL k v D ↔ y = (k, v) ∨ y ∈ D
  | [] => by simp [insL]
  | x :: r => by
    unfold insL
    split
    · simp
    · rw [List.mem_cons, List.mem_cons, mem_insL]
      constructor
      · rintro (h | h | h)
        · exact .inr (.inl h)
        · exact .inl h
        · exact .inr (.inr h)
      · rintro (h | h | h)
        · exact .inr (.inl h)
        · exact .inl h
        · exact .inr (.inr h)
theorem asc_insL {k : Ky} {v : Int} : ∀ {D : List It}, AscD D → (∀ x, x ∈ D → x.1 ≠ k) → AscD (insL k v D)
  | [], _, _ => List.pairwise_singleton _ _
  | x :: r, h, hn => by
    obtain ⟨h1, h2⟩ := List.pairwise_cons.1 h
    unfold insL
    split
    · rename_i hl
      refine List.pairwise_cons.2 ⟨fun y hy => ?_, h⟩
      rcases List.mem_cons.1 hy with e | hy
      · rw [e]; exact hl
      · exact ltQ_trans hl (h1 y hy)
    · rename_i hl
      have hx : ltQ x.1 k = true := by
        rcases ltQ_tri x.1 k with e | e | e
        · exact e
        · exact absurd e (hn x (List.mem_cons_self ..))
        · exact absurd e hl
      refine List.pairwise_cons.2 ⟨fun y hy => ?_, asc_insL h2 (fun y hy => hn y (List.mem_cons_of_mem _ hy))⟩
      rcases mem_insL.1 hy with e | hy
      · rw [e]; exact hx
      · exact h1 y hy
/-- what stands under a key -/
def lk (k : Ky) : List It → Option Int
  | [] => none
  | x :: r => if x.1 = k then some x.2 else lk k r
theorem lk_mem {k : Ky} {v : Int} : ∀ {D : List It}, AscD D → (lk k D = some v ↔ (k, v) ∈ D)
  | [], _ => by simp [lk]
  | x :: r, h => by
    obtain ⟨h1, h2⟩ := List.pairwise_cons.1 h
    unfold lk
    rw [List.mem_cons]
    split
    · rename_i e
      constructor
      · intro hv; left; rw [← e, ← Option.some.inj hv]
      · rintro (hv | hv)
        · rw [← hv]
        · have := h1 _ hv
          rw [e, ltQ_irr] at this
          cases this
    · rename_i e
      rw [lk_mem h2]
      constructor
      · exact .inr
      · rintro (hv | hv)
        · exact absurd (by rw [← hv]) e
        · exact hv
def it0 : It := ((false, []), 0)
theorem drop_at {D : List It} {i : Nat} {x : It} (h : D[i]? = some x) : D.drop i = x :: D.drop (i + 1) := by
  obtain ⟨h1, h2⟩ := List.getElem?_eq_some_iff.1 h
  rw [List.drop_eq_getElem_cons h1, h2]
/-- the longest one that is let in -/
def bst (P : Ky → Bool) : Option It → List It → Option It
  | acc, [] => acc
  | acc, x :: r => bst P (if P x.1 = true ∧ (∀ y, acc = some y → y.1.2.length < x.1.2.length) then some x else acc) r
/-- behind i of them -/
def WoP (k : Ky) (D : List It) (i : Nat) (S : List It) : Prop := wo k D = S ++ wo k (D.drop i) ∧ S.length ≤ i
section
variable {k : Ky} {v : Int} {D S : List It} {i : Nat} {x : It} {dn : Bool}
theorem wo_start : WoP k D 0 [] := ⟨rfl, Nat.le_refl _⟩
theorem wo_eq (h : WoP k D i S) (hx : D[i]? = some x) (e : x.1 = k) : WoP k D (i + 1) S := by
  refine ⟨?_, Nat.le_succ_of_le h.2⟩
  rw [h.1, drop_at hx, wo_cons, if_pos e]
theorem wo_ne (h : WoP k D i S) (hx : D[i]? = some x) (e : ¬ x.1 = k) : WoP k D (i + 1) (S ++ [x]) := by
  refine ⟨?_, by rw [List.length_append]; exact Nat.succ_le_succ h.2⟩
  rw [h.1, drop_at hx, wo_cons, if_neg e, List.append_assoc]; rfl
theorem wo_end (h : WoP k D D.length S) : wo k D = S := by
  have := h.1
  rw [List.drop_length] at this
  rw [this]; exact List.append_nil _
def InP (k : Ky) (v : Int) (D : List It) (i : Nat) (dn : Bool) (S : List It) : Prop := insL k v D = S ++ (if dn then D.drop i else insL k v (D.drop i)) ∧ S.length ≤ i + dn.toNat
theorem in_start : InP k v D 0 false [] := ⟨rfl, Nat.zero_le _⟩
theorem in_dn (h : InP k v D i true S) (hx : D[i]? = some x) : InP k v D (i + 1) true (S ++ [x]) := by
  refine ⟨?_, by have h9 : S.length ≤ i + 1 := h.2; show (S ++ [x]).length ≤ i + 1 + 1; rw [List.length_append]; exact Nat.succ_le_succ h9⟩
  have h1 := h.1
  rw [if_pos rfl, drop_at hx] at h1
  rw [h1, if_pos rfl, List.append_assoc]; rfl
theorem in_lt (h : InP k v D i false S) (hx : D[i]? = some x) (hl : ltQ k x.1 = true) : InP k v D (i + 1) true ((S ++ [(k, v)]) ++ [x]) := by
  refine ⟨?_, by have h9 : S.length ≤ i := h.2; show ((S ++ [(k, v)]) ++ [x]).length ≤ i + 1 + 1; simp only [List.length_append, List.length_singleton]; omega⟩
  have h1 := h.1
  rw [if_neg (by decide), drop_at hx, insL, if_pos hl] at h1
  rw [h1, if_pos rfl, List.append_assoc, List.append_assoc]; rfl
theorem in_ge (h : InP k v D i false S) (hx : D[i]? = some x) (hl : ltQ k x.1 = false) : InP k v D (i + 1) false (S ++ [x]) := by
  refine ⟨?_, by have h9 : S.length ≤ i := h.2; show (S ++ [x]).length ≤ i + 1; rw [List.length_append]; exact Nat.succ_le_succ h9⟩
  have h1 := h.1
  rw [if_neg (by decide), drop_at hx, insL, if_neg (by rw [hl]; decide)] at h1
  rw [h1, if_neg (by decide), List.append_assoc]; rfl
theorem in_end_t (h : InP k v D D.length true S) : insL k v D = S := by
  have := h.1
  rw [if_pos rfl, List.drop_length, List.append_nil] at this
  exact this
theorem in_end_f (h : InP k v D D.length false S) : insL k v D = S ++ [(k, v)] := by
  have := h.1
  rw [if_neg (by decide), List.drop_length] at this
  exact this
/-- not found among the first i -/
def LkP (k : Ky) (D : List It) (i : Nat) : Prop := lk k D = lk k (D.drop i)
theorem lk_start : LkP k D 0 := rfl
theorem lk_ne (h : LkP k D i) (hx : D[i]? = some x) (e : ¬ x.1 = k) : LkP k D (i + 1) := by
  unfold LkP at h ⊢
  rw [h, drop_at hx, lk, if_neg e]
theorem lk_eq (h : LkP k D i) (hx : D[i]? = some x) (e : x.1 = k) : lk k D = some x.2 := by
  unfold LkP at h
  rw [h, drop_at hx, lk, if_pos e]
theorem lk_end (h : LkP k D D.length) : lk k D = none := by
  unfold LkP at h
  rw [h, List.drop_length]; rfl
/-- the place of the longest so far -/
def BsP (P : Ky → Bool) (D : List It) (i : Nat) : Option Nat → Prop
  | none => bst P none D = bst P none (D.drop i)
  | some j => ∃ y, D[j]? = some y ∧ bst P none D = bst P (some y) (D.drop i)
variable {P : Ky → Bool}
theorem bs_start : BsP P D 0 none := rfl
theorem bs_no (b : Option Nat) (h : BsP P D i b) (hx : D[i]? = some x) (hp : P x.1 = false) : BsP P D (i + 1) b := by
  cases b with
  | none =>
    show _ = _
    rw [show bst P none D = bst P none (D.drop i) from h, drop_at hx, bst, if_neg (by rw [hp]; simp)]
  | some j =>
    obtain ⟨y, h1, h2⟩ := h
    refine ⟨y, h1, ?_⟩
    rw [h2, drop_at hx, bst, if_neg (by rw [hp]; simp)]
theorem bs_first (h : BsP P D i none) (hx : D[i]? = some x) (hp : P x.1 = true) : BsP P D (i + 1) (some i) := by
  refine ⟨x, hx, ?_⟩
  rw [show bst P none D = bst P none (D.drop i) from h, drop_at hx, bst, if_pos ⟨hp, fun y e => by cases e⟩]
theorem bs_more {j : Nat} {y : It} (h : BsP P D i (some j)) (hy : D[j]? = some y) (hx : D[i]? = some x) (hp : P x.1 = true) (hl : y.1.2.length < x.1.2.length) : BsP P D (i + 1) (some i) := by
  obtain ⟨y', h1, h2⟩ := h
  rw [hy] at h1
  cases h1
  refine ⟨x, hx, ?_⟩
  rw [h2, drop_at hx, bst, if_pos ⟨hp, fun z e => by cases e; exact hl⟩]
theorem bs_less {j : Nat} {y : It} (h : BsP P D i (some j)) (hy : D[j]? = some y) (hx : D[i]? = some x) (hl : ¬ y.1.2.length < x.1.2.length) : BsP P D (i + 1) (some j) := by
  obtain ⟨y', h1, h2⟩ := h
  rw [hy] at h1
  cases h1
  refine ⟨y, hy, ?_⟩
  rw [h2, drop_at hx, bst, if_neg (fun e => hl (e.2 y rfl))]
theorem bs_end_n (h : BsP P D D.length none) : bst P none D = none := by
  rw [show bst P none D = bst P none (D.drop D.length) from h, List.drop_length]; rfl
theorem bs_end_s {j : Nat} (h : BsP P D D.length (some j)) : ∃ y, D[j]? = some y ∧ bst P none D = some y := by
  obtain ⟨y, h1, h2⟩ := h
  refine ⟨y, h1, ?_⟩
  rw [h2, List.drop_length]; rfl
end
/-- what the longest one is -/
theorem bst_spec (P : Ky → Bool) : ∀ (D : List It) (acc : Option It), (bst P acc D = acc ∧ ∀ x, x ∈ D → P x.1 = true → ∃ a, acc = some a ∧ x.1.2.length ≤ a.1.2.length) ∨ ∃ x, x ∈ D ∧ bst P acc D = some x ∧ P x.1 = true ∧ (∀ y, y ∈ D → P y.1 = true → y.1.2.length ≤ x.1.2.length) ∧ ∀ a, acc = some a → a.1.2.length ≤ x.1.2.length
  | [], acc => .inl ⟨rfl, fun x hx => by cases hx⟩
  | x :: r, acc => by
    unfold bst
    by_cases h : P x.1 = true ∧ (∀ y, acc = some y → y.1.2.length < x.1.2.length)
    · rw [if_pos h]
      right
      rcases bst_spec P r (some x) with ⟨h1, h2⟩ | ⟨y, h1, h2, h3, h4, h5⟩
      · refine ⟨x, List.mem_cons_self .., h1, h.1, fun y hy hp => ?_, fun a ha => Nat.le_of_lt (h.2 a ha)⟩
        rcases List.mem_cons.1 hy with e | hy
        · rw [e]; exact Nat.le_refl _
        · obtain ⟨a, e, hl⟩ := h2 y hy hp
          cases e; exact hl
      · have hxy := h5 x rfl
        refine ⟨y, List.mem_cons_of_mem _ h1, h2, h3, fun z hz hp => ?_, fun a ha => Nat.le_trans (Nat.le_of_lt (h.2 a ha)) hxy⟩
        rcases List.mem_cons.1 hz with e | hz
        · rw [e]; exact hxy
        · exact h4 z hz hp
    · rw [if_neg h]
      have hx : P x.1 = true → ∃ a, acc = some a ∧ x.1.2.length ≤ a.1.2.length := fun hp => by
        cases acc with
        | none => exact absurd ⟨hp, fun y e => by cases e⟩ h
        | some a =>
          refine ⟨a, rfl, ?_⟩
          rcases Nat.lt_or_ge a.1.2.length x.1.2.length with h9 | h9
          · exact absurd ⟨hp, fun y e => by cases e; exact h9⟩ h
          · exact h9
      rcases bst_spec P r acc with ⟨h1, h2⟩ | ⟨y, h1, h2, h3, h4, h5⟩
      · left
        refine ⟨h1, fun z hz hp => ?_⟩
        rcases List.mem_cons.1 hz with e | hz
        · rw [e] at hp ⊢; exact hx hp
        · exact h2 z hz hp
      · right
        refine ⟨y, List.mem_cons_of_mem _ h1, h2, h3, fun z hz hp => ?_, h5⟩
        rcases List.mem_cons.1 hz with e | hz
        · rw [e] at hp ⊢
          obtain ⟨a, e1, e2⟩ := hx hp
          exact Nat.le_trans e2 (h5 a e1)
        · exact h4 z hz hp
end Go.Proofs.Ytjnbemopfhinbaa
