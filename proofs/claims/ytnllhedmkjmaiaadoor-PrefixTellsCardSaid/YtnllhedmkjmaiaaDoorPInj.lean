/- Two prefixes in form have one text just if they are one: plain mathematics. Each theorem states its conditions. -/
import Derived.Test.YtnllhedmkjmaiaaDoorPWriteA
namespace Go.Proofs.YtnllhedmkjmaiaaDoor
open Go.RowKit
set_option linter.unusedVariables false

/-- a list is cut at the first sign that is c -/
theorem cut_one_sign {c : UInt8} {a a' b b' : List UInt8} (h : c ∉ a) (h' : c ∉ a') (e : a ++ c :: b = a' ++ c :: b') : a = a' ∧ b = b' := by
  induction a generalizing a' with
  | nil =>
    cases a' with
    | nil => simp at e; exact ⟨rfl, e⟩
    | cons x a' =>
      simp at e h'
      exact absurd e.1 h'.1
  | cons x a ih =>
    cases a' with
    | nil =>
      simp at e h
      exact absurd e.1.symm h.1
    | cons x' a' =>
      simp only [List.cons_append, List.cons.injEq] at e
      simp only [List.mem_cons, not_or] at h h'
      obtain ⟨r1, r2⟩ := ih h.2 h'.2 e.2
      exact ⟨by rw [e.1, r1], r2⟩
theorem join_cons (x y : List UInt8) (l : List (List UInt8)) (c : UInt8) : Lib.join (x :: y :: l) [c] = x ++ c :: Lib.join (y :: l) [c] := by simp [Lib.join]
/-- a list of parts is got again from them joined -/
theorem join_inj {c : UInt8} : ∀ (l l' : List (List UInt8)), (∀ x ∈ l, c ∉ x ∧ x ≠ []) → (∀ x ∈ l', c ∉ x ∧ x ≠ []) → Lib.join l [c] = Lib.join l' [c] → l = l' := by
  intro l
  induction l with
  | nil =>
    intro l' _ h' e
    cases l' with
    | nil => rfl
    | cons y l' =>
      exfalso
      have hy := (h' y (by simp)).2
      cases l' with
      | nil => rw [Lib.join_one] at e; exact hy e.symm
      | cons z l' => rw [join_cons] at e; simp [Lib.join_nil] at e
  | cons x l ih =>
    intro l' h h' e
    have hx := h x (by simp)
    cases l' with
    | nil =>
      exfalso
      cases l with
      | nil => rw [Lib.join_one] at e; exact hx.2 e
      | cons z l => rw [join_cons] at e; simp [Lib.join_nil] at e
    | cons y l' =>
      have hy := h' y (by simp)
      cases l with
      | nil =>
        cases l' with
        | nil => rw [Lib.join_one, Lib.join_one] at e; rw [e]
        | cons z l' =>
          exfalso
          rw [Lib.join_one, join_cons] at e
          exact hx.1 (by rw [e]; simp)
      | cons z l =>
        cases l' with
        | nil =>
          exfalso
          rw [Lib.join_one, join_cons] at e
          exact hy.1 (by rw [← e]; simp)
        | cons z' l' =>
          rw [join_cons, join_cons] at e
          obtain ⟨r1, r2⟩ := cut_one_sign hx.1 hy.1 e
          rw [r1, ih (z' :: l') (fun u hu => h u (by simp at hu ⊢; right; exact hu)) (fun u hu => h' u (by simp at hu ⊢; right; exact hu)) r2]
/-- no two colons side by side -/
def NoCC (l : List UInt8) : Prop := ∀ a b, l ≠ a ++ 58 :: 58 :: b
def NoEnd (l : List UInt8) : Prop := ∀ a, l ≠ a ++ [58]
theorem free_nocc {x : List UInt8} (h : (58 : UInt8) ∉ x) : NoCC x := fun a b e => h (by rw [e]; simp)
theorem free_noend {x : List UInt8} (h : (58 : UInt8) ∉ x) : NoEnd x := fun a e => h (by rw [e]; simp)
theorem join_nocc : ∀ (l : List (List UInt8)), (∀ x ∈ l, (58 : UInt8) ∉ x ∧ x ≠ []) → NoCC (Lib.join l [58]) ∧ NoEnd (Lib.join l [58]) ∧ (∀ b, Lib.join l [58] ≠ 58 :: b) := by
  intro l
  induction l with
  | nil => intro _; rw [Lib.join_nil]; exact ⟨fun a b e => by simp at e, fun a e => by simp at e, fun b e => by cases e⟩
  | cons x l ih =>
    intro h
    have hx := h x (by simp)
    have hst : ∀ r b, x ++ r ≠ (58 : UInt8) :: b := by
      intro r b e
      cases x with
      | nil => exact hx.2 rfl
      | cons u x => simp at e; exact hx.1 (by rw [e.1]; simp)
    cases l with
    | nil => rw [Lib.join_one]; exact ⟨free_nocc hx.1, free_noend hx.1, fun b e => hst [] b (by simpa using e)⟩
    | cons y l =>
      obtain ⟨i1, i2, i3⟩ := ih (fun u hu => h u (by simp at hu ⊢; right; exact hu))
      rw [join_cons]
      refine ⟨fun a b e => ?_, fun a e => ?_, hst _⟩
      · rcases List.append_eq_append_iff.1 e with ⟨t, e1, e2⟩ | ⟨t, e1, e2⟩
        · -- a = x ++ t, 58 :: J = t ++ 58 :: 58 :: b
          cases t with
          | nil => simp at e2; exact i3 b e2
          | cons u t => simp at e2; exact i1 t b e2.2
        · -- x = a ++ t, 58 :: 58 :: b = t ++ 58 :: J
          cases t with
          | nil => simp at e2; exact i3 b e2.symm
          | cons u t => simp at e2; exact hx.1 (by rw [e1, ← e2.1]; simp)
      · rcases List.append_eq_append_iff.1 e with ⟨t, e1, e2⟩ | ⟨t, e1, e2⟩
        · cases t with
          | nil =>
            simp at e2
            have hy := (h y (by simp)).2
            cases l with
            | nil => rw [Lib.join_one] at e2; exact hy e2
            | cons z l => rw [join_cons] at e2; simp at e2
          | cons u t => simp at e2; exact i2 t e2.2
        · cases t with
          | nil =>
            simp at e2
            have hy := (h y (by simp)).2
            cases l with
            | nil => rw [Lib.join_one] at e2; exact hy e2
            | cons z l => rw [join_cons] at e2; simp at e2
          | cons u t => simp at e2
/-- the two colons are found -/
theorem cut_cc {a a' b b' : List UInt8} (h : NoCC a) (h' : NoCC a') (n : NoEnd a) (n' : NoEnd a') (e : a ++ 58 :: 58 :: b = a' ++ 58 :: 58 :: b') : a = a' ∧ b = b' := by
  rcases List.append_eq_append_iff.1 e with ⟨t, e1, e2⟩ | ⟨t, e1, e2⟩
  · match t, e1, e2 with
    | [], e1, e2 => simp at e1 e2; exact ⟨e1.symm, e2⟩
    | [u], e1, e2 => simp at e2; exact absurd (by rw [e1, e2.1]) (n' a)
    | u :: v :: t, e1, e2 => simp at e2; exact absurd (by rw [e1, ← e2.1, ← e2.2.1]) (h' a t)
  · match t, e1, e2 with
    | [], e1, e2 => simp at e1 e2; exact ⟨e1, e2.symm⟩
    | [u], e1, e2 => simp at e2; exact absurd (by rw [e1, e2.1]) (n a')
    | u :: v :: t, e1, e2 => simp at e2; exact absurd (by rw [e1, ← e2.1, ← e2.2.1]) (h a' t)
end Go.Proofs.YtnllhedmkjmaiaaDoor
