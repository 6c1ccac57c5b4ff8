/- A tree of prefixes as plain data: what stands under which bits. No condition. -/
import Derived.Test.YtjnbemopfhinbaaSpare
namespace Go.Proofs.Ytjnbemopfhinbaa
set_option linter.unusedVariables false
set_option linter.unusedSimpArgs false

/-- a tree of nodes: bits, what stands there, nought's side, one's side -/
inductive Tr where
  | nil : Tr
  | nd (p : List Bool) (v : Option Int) (l r : Tr) : Tr
namespace Tr
/-- how many bits both begin with -/
def lcp : List Bool → List Bool → Nat
  | x :: p, y :: q => if x = y then lcp p q + 1 else 0
  | _, _ => 0
theorem lcp_le_left : ∀ p q : List Bool, lcp p q ≤ p.length
  | [], _ => Nat.zero_le _
  | _ :: _, [] => Nat.zero_le _
  | x :: p, y :: q => by
    unfold lcp
    split
    · have := lcp_le_left p q; simp; omega
    · exact Nat.zero_le _
theorem lcp_le_right : ∀ p q : List Bool, lcp p q ≤ q.length
  | [], _ => by unfold lcp; exact Nat.zero_le _
  | _ :: _, [] => Nat.zero_le _
  | x :: p, y :: q => by
    unfold lcp
    split
    · have := lcp_le_right p q; simp; omega
    · exact Nat.zero_le _
theorem lcp_take : ∀ p q : List Bool, p.take (lcp p q) = q.take (lcp p q)
  | [], q => by unfold lcp; simp
  | _ :: _, [] => by unfold lcp; simp
  | x :: p, y :: q => by
    unfold lcp
    split
    · rename_i e
      subst e
      simp [lcp_take p q]
    · simp
/-- all bits of p are q's first just if as many are alike as p has -/
theorem lcp_cov : ∀ p q : List Bool, lcp p q = p.length ↔ p <+: q
  | [], q => by unfold lcp; simp
  | x :: p, [] => by unfold lcp; simp
  | x :: p, y :: q => by
    unfold lcp
    by_cases e : x = y
    · subst e
      rw [if_pos rfl]
      simp only [List.length_cons, List.cons_prefix_cons, true_and]
      rw [← lcp_cov p q]
      omega
    · rw [if_neg e]
      simp only [List.length_cons, List.cons_prefix_cons]
      constructor
      · intro h; omega
      · intro h; exact absurd h.1 e
/-- behind what both begin with they part -/
theorem lcp_part : ∀ p q : List Bool, lcp p q < p.length → lcp p q < q.length → p[lcp p q]? ≠ q[lcp p q]?
  | [], q, h, _ => by simp at h
  | _ :: _, [], _, h => by simp at h
  | x :: p, y :: q, h1, h2 => by
    unfold lcp at h1 h2 ⊢
    by_cases e : x = y
    · rw [if_pos e] at h1 h2 ⊢
      simp only [List.length_cons, Nat.add_lt_add_iff_right] at h1 h2
      rw [List.getElem?_cons_succ, List.getElem?_cons_succ]
      exact lcp_part p q h1 h2
    · rw [if_neg e]
      simp only [List.getElem?_cons_zero]
      exact fun h => e (Option.some.inj h)
/-- the bit of p behind so many; p has more -/
def side (p : List Bool) (n : Nat) : Bool := p[n]?.getD false
theorem pre_snoc {p q : List Bool} (h : p <+: q) (hl : p.length < q.length) : (p ++ [side q p.length]) <+: q := by
  obtain ⟨t, rfl⟩ := h
  cases t with
  | nil => simp at hl
  | cons b t =>
    refine ⟨t, ?_⟩
    unfold side
    simp
theorem pre_len {p q : List Bool} (h : p <+: q) (hne : p ≠ q) : p.length < q.length := by
  rcases Nat.lt_or_eq_of_le h.length_le with h1 | h1
  · exact h1
  · exact absurd (h.eq_of_length h1) hne
/-- all that stands in it begins with these bits, and parts as it should -/
def Ok : List Bool → Tr → Prop
  | _, nil => True
  | c, nd p _ l r => c <+: p ∧ Ok (p ++ [false]) l ∧ Ok (p ++ [true]) r
/-- what stands under just these bits -/
def get : Tr → List Bool → Option Int
  | nil, _ => none
  | nd p v l r, q => if p = q then v else if p <+: q then (if side q p.length then get r q else get l q) else none
theorem get_out {c : List Bool} : ∀ {t : Tr} {q : List Bool}, Ok c t → ¬ c <+: q → get t q = none
  | nil, _, _, _ => rfl
  | nd p v l r, q, h, hq => by
    unfold get
    have h1 : p ≠ q := fun e => hq (by rw [← e]; exact h.1)
    have h2 : ¬ p <+: q := fun e => hq (h.1.trans e)
    rw [if_neg h1, if_neg h2]
/-- v comes to stand under p -/
def leaf (p : List Bool) (v : Int) : Tr := nd p (some v) nil nil
/-- a node above t, which begins with q: for all bits with which both q and p begin -/
def fork (q : List Bool) (t : Tr) (p : List Bool) : Tr :=
  let j := lcp q p
  if side q j then nd (p.take j) none nil t else nd (p.take j) none t nil
def ins (p : List Bool) (v : Int) : Tr → Tr
  | nil => leaf p v
  | nd q h l r =>
    if q = p then nd q (some v) l r
    else if q <+: p then (if side p q.length then nd q h l (ins p v r) else nd q h (ins p v l) r)
    else if lcp q p = p.length then (if side q p.length then nd p (some v) nil (nd q h l r) else nd p (some v) (nd q h l r) nil)
    else if side p (lcp q p) then nd (p.take (lcp q p)) none (nd q h l r) (leaf p v) else nd (p.take (lcp q p)) none (leaf p v) (nd q h l r)
theorem pre_take {p q : List Bool} (h : lcp q p < p.length) (hq : lcp q p < q.length) : p.take (lcp q p) ++ [side p (lcp q p)] <+: p ∧ p.take (lcp q p) ++ [!side p (lcp q p)] <+: q := by
  have ht : p.take (lcp q p) = q.take (lcp q p) := (lcp_take q p).symm
  have hp : p.take (lcp q p) <+: p := List.take_prefix _ _
  have hlp : (p.take (lcp q p)).length = lcp q p := by rw [List.length_take]; omega
  have h1 := pre_snoc hp (by omega)
  rw [hlp] at h1
  refine ⟨h1, ?_⟩
  have hqq : p.take (lcp q p) <+: q := by rw [ht]; exact List.take_prefix _ _
  have h2 := pre_snoc hqq (by omega)
  rw [hlp] at h2
  have h3 : side q (lcp q p) = !side p (lcp q p) := by
    have := lcp_part q p hq h
    unfold side
    rw [List.getElem?_eq_getElem hq, List.getElem?_eq_getElem h] at this ⊢
    simp only [Option.getD_some]
    cases hx : q[lcp q p] <;> cases hy : p[lcp q p] <;> simp_all
  rw [← h3]
  exact h2
theorem ins_ok {p : List Bool} {v : Int} : ∀ {t : Tr} {c : List Bool}, Ok c t → c <+: p → Ok c (ins p v t)
  | nil, c, _, hc => ⟨hc, trivial, trivial⟩
  | nd q h l r, c, ht, hc => by
    unfold ins
    by_cases e1 : q = p
    · rw [if_pos e1]; exact ht
    rw [if_neg e1]
    by_cases e2 : q <+: p
    · rw [if_pos e2]
      have h2 := pre_snoc e2 (pre_len e2 e1)
      by_cases hs : side p q.length = true
      · rw [if_pos hs]
        rw [hs] at h2
        exact ⟨ht.1, ht.2.1, ins_ok ht.2.2 h2⟩
      · rw [if_neg hs]
        rw [Bool.not_eq_true] at hs
        rw [hs] at h2
        exact ⟨ht.1, ins_ok ht.2.1 h2, ht.2.2⟩
    rw [if_neg e2]
    have hql : lcp q p < q.length := by
      rcases Nat.lt_or_eq_of_le (lcp_le_left q p) with h | h
      · exact h
      · exact absurd ((lcp_cov q p).1 h) e2
    by_cases e3 : lcp q p = p.length
    · rw [if_pos e3]
      have hpq : p <+: q := by
        have := lcp_take q p
        rw [e3, List.take_length] at this
        rw [← this]
        exact List.take_prefix _ _
      have h2 := pre_snoc hpq (by omega)
      by_cases hs : side q p.length = true
      · rw [if_pos hs]
        rw [hs] at h2
        exact ⟨hc, trivial, h2, ht.2⟩
      · rw [if_neg hs]
        rw [Bool.not_eq_true] at hs
        rw [hs] at h2
        exact ⟨hc, ⟨h2, ht.2⟩, trivial⟩
    · rw [if_neg e3]
      have hpl : lcp q p < p.length := by have := lcp_le_right q p; omega
      obtain ⟨a1, a2⟩ := pre_take hpl hql
      have hcj : c <+: p.take (lcp q p) := by
        have hcq := ht.1
        have h1 : c.length ≤ lcp q p := by
          rcases Nat.lt_or_ge (lcp q p) c.length with h | h
          · exfalso
            have := lcp_part q p hql hpl
            obtain ⟨x, rfl⟩ := hcq
            obtain ⟨y, hy⟩ := hc
            rw [List.getElem?_append_left h] at this
            rw [← hy] at this
            rw [List.getElem?_append_left (by rw [hy]; exact h)] at this
            rw [hy] at this
            exact this rfl
          · exact h
        rw [List.prefix_iff_eq_take] at hc ⊢
        rw [List.take_take, Nat.min_eq_left h1]
        exact hc
      by_cases hs : side p (lcp q p) = true
      · rw [if_pos hs]
        rw [hs] at a1 a2
        exact ⟨hcj, ⟨a2, ht.2⟩, a1, trivial, trivial⟩
      · rw [if_neg hs]
        rw [Bool.not_eq_true] at hs
        rw [hs] at a1 a2
        exact ⟨hcj, ⟨a1, trivial, trivial⟩, a2, ht.2⟩
theorem side_of {p x : List Bool} {b : Bool} (h : p ++ [b] <+: x) : side x p.length = b := by
  obtain ⟨t, rfl⟩ := h
  unfold side
  simp
theorem tri (p x : List Bool) : x = p ∨ (∃ b, p ++ [b] <+: x) ∨ ¬ p <+: x := by
  by_cases e : x = p
  · exact .inl e
  by_cases h : p <+: x
  · exact .inr (.inl ⟨_, pre_snoc h (pre_len h (fun e9 => e e9.symm))⟩)
  · exact .inr (.inr h)
theorem snoc_ne {p x : List Bool} {b : Bool} (h : p ++ [b] <+: x) : p ≠ x := fun e => by
  have := h.length_le
  rw [← e] at this
  simp at this
  omega
def pick : Bool → Tr → Tr → Tr
  | false, l, _ => l
  | true, _, r => r
section
variable {p x : List Bool} {v : Option Int} {l r : Tr} {b : Bool}
theorem get_self (p : List Bool) (v : Option Int) (l r : Tr) : get (nd p v l r) p = v := by rw [get, if_pos rfl]
theorem get_side (h : p ++ [b] <+: x) : get (nd p v l r) x = get (pick b l r) x := by
  have h1 : p <+: x := (List.prefix_append p _).trans h
  rw [get, if_neg (snoc_ne h), if_pos h1, side_of h]
  cases b
  · rw [if_neg (by decide)]; rfl
  · rw [if_pos rfl]; rfl
theorem get_off (h : ¬ p <+: x) : get (nd p v l r) x = none := by
  rw [get, if_neg (fun e => h (by rw [e]; exact List.prefix_refl _)), if_neg h]
end
theorem get_leaf (p : List Bool) (v : Int) (x : List Bool) : get (leaf p v) x = if x = p then some v else none := by
  unfold leaf
  rcases tri p x with e | ⟨b, h⟩ | h
  · subst e; rw [get_self, if_pos rfl]
  · rw [get_side h, if_neg (fun e => snoc_ne h e.symm)]
    cases b
    · rfl
    · rfl
  · rw [get_off h, if_neg (fun e => h (by rw [e]; exact List.prefix_refl _))]
theorem ok_at {q : List Bool} {h : Option Int} {l r : Tr} {c d : List Bool} (ht : Ok c (nd q h l r)) (hd : d <+: q) : Ok d (nd q h l r) := ⟨hd, ht.2⟩
theorem not_two {p x : List Bool} {b : Bool} (h : p ++ [b] <+: x) (h' : p ++ [!b] <+: x) : False := by
  have h1 := side_of h
  rw [side_of h'] at h1
  cases b <;> cases h1
/-- what stands where behind v came to stand under p -/
theorem get_ins {p : List Bool} {v : Int} : ∀ {t : Tr} {c : List Bool}, Ok c t → c <+: p → ∀ x, get (ins p v t) x = if x = p then some v else get t x
  | nil, c, _, hc, x => get_leaf p v x
  | nd q h l r, c, ht, hc, x => by
    unfold ins
    by_cases e1 : q = p
    · rw [if_pos e1]
      subst e1
      rcases tri q x with e | ⟨b, hb⟩ | hb
      · subst e; rw [get_self, if_pos rfl]
      · rw [get_side hb, get_side hb, if_neg (fun e => snoc_ne hb e.symm)]
      · rw [get_off hb, get_off hb, if_neg (fun e => hb (by rw [e]; exact List.prefix_refl _))]
    rw [if_neg e1]
    by_cases e2 : q <+: p
    · rw [if_pos e2]
      have h2 := pre_snoc e2 (pre_len e2 e1)
      obtain ⟨a, ha⟩ : ∃ a, side p q.length = a := ⟨_, rfl⟩
      rw [ha] at h2 ⊢
      rcases tri q x with e | ⟨b, hb⟩ | hb
      · have hg : get (nd q h l r) x = h := by rw [e]; exact get_self _ _ _ _
        have hne : ¬ x = p := fun e9 => e1 (by rw [← e, e9])
        rw [hg, if_neg hne, e]
        cases a
        · exact get_self _ _ _ _
        · exact get_self _ _ _ _
      · rw [get_side (v := h) hb]
        cases a
        · show get (nd q h (ins p v l) r) x = _
          rw [get_side hb]
          cases b
          · exact get_ins ht.2.1 h2 x
          · show get r x = if x = p then some v else get r x
            rw [if_neg (fun e => not_two (b := true) hb (by rw [e]; exact h2))]
        · show get (nd q h l (ins p v r)) x = _
          rw [get_side hb]
          cases b
          · show get l x = if x = p then some v else get l x
            rw [if_neg (fun e => not_two (b := false) hb (by rw [e]; exact h2))]
          · exact get_ins ht.2.2 h2 x
      · have hv : (if x = p then some v else get (nd q h l r) x) = get (nd q h l r) x := if_neg (fun e => hb (by rw [e]; exact e2))
        rw [hv, get_off hb]
        cases a
        · exact get_off hb
        · exact get_off hb
    rw [if_neg e2]
    have hql : lcp q p < q.length := by
      rcases Nat.lt_or_eq_of_le (lcp_le_left q p) with h | h
      · exact h
      · exact absurd ((lcp_cov q p).1 h) e2
    by_cases e3 : lcp q p = p.length
    · rw [if_pos e3]
      have hpq : p <+: q := by
        have := lcp_take q p
        rw [e3, List.take_length] at this
        rw [← this]
        exact List.take_prefix _ _
      have h2 := pre_snoc hpq (by omega)
      obtain ⟨a, ha⟩ : ∃ a, side q p.length = a := ⟨_, rfl⟩
      rw [ha] at h2 ⊢
      rcases tri p x with e | ⟨b, hb⟩ | hb
      · have hv : (if x = p then some v else get (nd q h l r) x) = some v := if_pos e
        rw [hv, e]
        cases a
        · exact get_self _ _ _ _
        · exact get_self _ _ _ _
      · have hv : (if x = p then some v else get (nd q h l r) x) = get (nd q h l r) x := if_neg (fun e => snoc_ne hb e.symm)
        rw [hv]
        cases a
        · show get (nd p (some v) (nd q h l r) nil) x = _
          rw [get_side hb]
          cases b
          · rfl
          · exact (get_out (ok_at ht h2) (fun e => not_two (b := true) hb e)).symm
        · show get (nd p (some v) nil (nd q h l r)) x = _
          rw [get_side hb]
          cases b
          · exact (get_out (ok_at ht h2) (fun e => not_two (b := false) hb e)).symm
          · rfl
      · have hv : (if x = p then some v else get (nd q h l r) x) = get (nd q h l r) x := if_neg (fun e => hb (by rw [e]; exact List.prefix_refl _))
        rw [hv, get_out (ok_at ht hpq) hb]
        cases a
        · exact get_off hb
        · exact get_off hb
    · rw [if_neg e3]
      have hpl : lcp q p < p.length := by have := lcp_le_right q p; omega
      obtain ⟨a1, a2⟩ := pre_take hpl hql
      obtain ⟨j, hj⟩ : ∃ j, p.take (lcp q p) = j := ⟨_, rfl⟩
      have hjl : j.length = lcp q p := by rw [← hj, List.length_take]; omega
      have hjq : j <+: q := by rw [← hj, (lcp_take q p).symm]; exact List.take_prefix _ _
      rw [hj] at a1 a2
      rw [hj]
      obtain ⟨a, ha⟩ : ∃ a, side p (lcp q p) = a := ⟨_, rfl⟩
      rw [ha] at a1 a2 ⊢
      rcases tri j x with e | ⟨b, hb⟩ | hb
      · have hxp : x ≠ p := fun e9 => by rw [← e, e9] at hjl; omega
        have hv : (if x = p then some v else get (nd q h l r) x) = none := (if_neg hxp).trans (get_out (ok_at ht (List.prefix_refl q)) (fun e9 => by have := e9.length_le; rw [e] at this; omega))
        rw [hv, e]
        cases a
        · exact get_self _ _ _ _
        · exact get_self _ _ _ _
      · cases a
        · show get (nd j none (leaf p v) (nd q h l r)) x = _
          rw [get_side hb]
          cases b
          · show get (leaf p v) x = _
            rw [get_leaf, get_out (ok_at ht a2) (fun e => not_two (b := false) hb e)]
          · show get (nd q h l r) x = _
            rw [if_neg (fun e => not_two (b := true) hb (by rw [e]; exact a1))]
        · show get (nd j none (nd q h l r) (leaf p v)) x = _
          rw [get_side hb]
          cases b
          · show get (nd q h l r) x = _
            rw [if_neg (fun e => not_two (b := false) hb (by rw [e]; exact a1))]
          · show get (leaf p v) x = _
            rw [get_leaf, get_out (ok_at ht a2) (fun e => not_two (b := true) hb e)]
      · have hxp : x ≠ p := fun e => hb (by rw [e]; exact (List.prefix_append j _).trans a1)
        have hv : (if x = p then some v else get (nd q h l r) x) = none := (if_neg hxp).trans (get_out (ok_at ht hjq) hb)
        rw [hv]
        cases a
        · exact get_off hb
        · exact get_off hb
theorem get_cov {q x : List Bool} {h : Option Int} {l r : Tr} (hg : get (nd q h l r) x ≠ none) : q <+: x := by
  by_cases e : q <+: x
  · exact e
  · exact absurd (get_off e) hg
def orF (q : List Bool) : Option Int → Option (List Bool × Int) → Option (List Bool × Int)
  | some v, _ => some (q, v)
  | none, f => f
/-- the longest that p begins with, or f -/
def lng (p : List Bool) : Tr → Option (List Bool × Int) → Option (List Bool × Int)
  | nil, f => f
  | nd q h l r, f =>
    if q <+: p then
      (if q.length = p.length then (orF q h f)
       else if side p q.length = true then lng p r (orF q h f) else lng p l (orF q h f))
    else f
/-- what lng tells -/
def LngP (p : List Bool) (t : Tr) (f g : Option (List Bool × Int)) : Prop :=
  (g = f ∧ ∀ x, get t x ≠ none → ¬ x <+: p) ∨ ∃ x v, g = some (x, v) ∧ get t x = some v ∧ x <+: p ∧ ∀ y, get t y ≠ none → y <+: p → y.length ≤ x.length
theorem lng_spec {p : List Bool} : ∀ {t : Tr} {c : List Bool} (f : Option (List Bool × Int)), Ok c t → LngP p t f (lng p t f)
  | nil, c, f, _ => .inl ⟨rfl, fun x h => absurd rfl h⟩
  | nd q h l r, c, f, ht => by
    by_cases e1 : q <+: p
    · obtain ⟨f', hf'⟩ : ∃ f', orF q h f = f' := ⟨_, rfl⟩
      by_cases e2 : q.length = p.length
      · have hqp : q = p := e1.eq_of_length e2
        have hl : lng p (nd q h l r) f = f' := by unfold lng; rw [if_pos e1, if_pos e2, hf']
        rw [hl]
        cases h with
        | some v =>
          subst hf'
          exact .inr ⟨q, v, rfl, get_self _ _ _ _, e1, fun y _ hy => by have := hy.length_le; omega⟩
        | none =>
          refine .inl ⟨hf'.symm, fun x hx hxp => ?_⟩
          have h1 := get_cov hx
          have h2 : x = q := (h1.eq_of_length (by have := h1.length_le; have := hxp.length_le; omega)).symm
          rw [h2, get_self] at hx
          exact hx rfl
      · have hlt : q.length < p.length := by have := e1.length_le; omega
        have h2 := pre_snoc e1 hlt
        obtain ⟨a, ha⟩ : ∃ a, side p q.length = a := ⟨_, rfl⟩
        rw [ha] at h2
        have hl : lng p (nd q h l r) f = lng p (pick a l r) f' := by
          rw [lng, if_pos e1, if_neg e2, hf', ha]
          cases a
          · rw [if_neg (by decide)]; rfl
          · rw [if_pos rfl]; rfl
        rw [hl]
        have hok : Ok (q ++ [a]) (pick a l r) := by
          cases a
          · exact ht.2.1
          · exact ht.2.2
        have ih : LngP p (pick a l r) f' (lng p (pick a l r) f') := by
          cases a
          · exact lng_spec f' ht.2.1
          · exact lng_spec f' ht.2.2
        have down : ∀ x, get (nd q h l r) x ≠ none → x <+: p → x = q ∨ get (pick a l r) x ≠ none := by
          intro x hx hxp
          rcases tri q x with e | ⟨b, hb⟩ | hb
          · exact .inl e
          · have hba : b = a := by
              have h3 := side_of (hb.trans hxp)
              rw [ha] at h3
              exact h3.symm
            rw [hba] at hb
            rw [get_side hb] at hx
            exact .inr hx
          · exact absurd (get_off hb) hx
        rcases ih with ⟨i1, i2⟩ | ⟨x, v, i1, i2, i3, i4⟩
        · rw [i1]
          cases h with
          | some v =>
            subst hf'
            refine .inr ⟨q, v, rfl, get_self _ _ _ _, e1, fun y hy hyp => ?_⟩
            rcases down y hy hyp with e | h9
            · rw [e]; exact Nat.le_refl _
            · exact absurd hyp (i2 y h9)
          | none =>
            refine .inl ⟨hf'.symm, fun x hx hxp => ?_⟩
            rcases down x hx hxp with e | h9
            · rw [e, get_self] at hx
              exact hx rfl
            · exact i2 x h9 hxp
        · have hxa : q ++ [a] <+: x := by
            by_cases e : q ++ [a] <+: x
            · exact e
            · rw [get_out hok e] at i2; cases i2
          refine .inr ⟨x, v, i1, by rw [get_side hxa]; exact i2, i3, fun y hy hyp => ?_⟩
          rcases down y hy hyp with e | h9
          · have := hxa.length_le
            rw [e]
            simp at this
            omega
          · exact i4 y h9 hyp
    · have hl : lng p (nd q h l r) f = f := by unfold lng; rw [if_neg e1]
      rw [hl]
      exact .inl ⟨rfl, fun x hx hxp => e1 ((get_cov hx).trans hxp)⟩
/-- all under which something stands: the shorter ahead of the longer, nought ahead of one -/
def lst : Tr → List (List Bool)
  | nil => []
  | nd q h l r => (if h.isSome then [q] else []) ++ (lst l ++ lst r)
theorem lst_mem {x : List Bool} : ∀ {t : Tr} {c : List Bool}, Ok c t → (x ∈ lst t ↔ get t x ≠ none)
  | nil, c, _ => by unfold lst; exact ⟨fun h => (nomatch h), fun h => absurd rfl h⟩
  | nd q h l r, c, ht => by
    have il := lst_mem (x := x) ht.2.1
    have ir := lst_mem (x := x) ht.2.2
    have hh : x ∈ (if h.isSome = true then [q] else []) ↔ h.isSome = true ∧ x = q := by
      split
      · rename_i e; simp [e]
      · rename_i e; simp [e]
    unfold lst
    rw [List.mem_append, List.mem_append, hh, il, ir]
    rcases tri q x with e | ⟨b, hb⟩ | hb
    · have h1 : get l x = none := get_out ht.2.1 (fun e9 => snoc_ne e9 e.symm)
      have h2 : get r x = none := get_out ht.2.2 (fun e9 => snoc_ne e9 e.symm)
      rw [h1, h2, e, get_self]
      cases h <;> simp
    · rw [get_side hb]
      have hxq : x ≠ q := fun e => snoc_ne hb e.symm
      cases b
      · have h2 : get r x = none := get_out ht.2.2 (fun e9 => not_two (b := false) hb e9)
        rw [h2]
        show _ ↔ get l x ≠ none
        simp [hxq]
      · have h1 : get l x = none := get_out ht.2.1 (fun e9 => not_two (b := true) hb e9)
        rw [h1]
        show _ ↔ get r x ≠ none
        simp [hxq]
    · have hxq : x ≠ q := fun e => hb (by rw [e]; exact List.prefix_refl _)
      have h1 : get l x = none := get_out ht.2.1 (fun e9 => hb ((List.prefix_append q _).trans e9))
      have h2 : get r x = none := get_out ht.2.2 (fun e9 => hb ((List.prefix_append q _).trans e9))
      rw [get_off hb, h1, h2]
      simp [hxq]
/-- the order of prefixes: the shorter ahead of what it covers, nought ahead of one -/
def ltB : List Bool → List Bool → Bool
  | [], [] => false
  | [], _ :: _ => true
  | _ :: _, [] => false
  | x :: p, y :: q => if x = y then ltB p q else y
theorem lt_trans : ∀ p q r : List Bool, ltB p q = true → ltB q r = true → ltB p r = true
  | [], [], _, h, _ => by cases h
  | [], _ :: _, [], _, h => by cases h
  | [], _ :: _, _ :: _, _, _ => rfl
  | _ :: _, [], _, h, _ => by cases h
  | _ :: _, _ :: _, [], _, h => by cases h
  | x :: p, y :: q, z :: r, h1, h2 => by
    rw [ltB] at h1 h2 ⊢
    by_cases e1 : x = y
    · subst e1
      rw [if_pos rfl] at h1
      by_cases e2 : x = z
      · rw [if_pos e2] at h2 ⊢
        exact lt_trans p q r h1 h2
      · rw [if_neg e2] at h2 ⊢
        exact h2
    · rw [if_neg e1] at h1
      by_cases e2 : y = z
      · subst e2
        rw [if_neg e1]
        exact h1
      · rw [if_neg e2] at h2
        subst h1
        subst h2
        exact absurd rfl e2
end Tr
end Go.Proofs.Ytjnbemopfhinbaa
