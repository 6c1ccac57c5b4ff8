/- Two texts put together; each theorem states its conditions. -/
import Derived.Test.YtjnbemopfhinbaaRbCn
/- Ascending lists with the same routes are one list. Each theorem states its conditions. -/
namespace Go.Proofs.Ytjnbemopfhinbaa
open Go.RowKit
set_option linter.unusedVariables false
set_option linter.unusedSimpArgs false

theorem sorted_uniq {α : Type} (f : α → Int) : ∀ (L M : List α), L.Pairwise (fun a b => f a < f b) → M.Pairwise (fun a b => f a < f b) → (∀ a, a ∈ L ↔ a ∈ M) → L = M
  | [], M, _, _, h => by
    cases M with
    | nil => rfl
    | cons b M => exact absurd ((h b).2 (List.mem_cons_self ..)) (by simp)
  | a :: L, [], _, _, h => absurd ((h a).1 (List.mem_cons_self ..)) (by simp)
  | a :: L, b :: M, h1, h2, h => by
    rw [List.pairwise_cons] at h1 h2
    have hab : a = b := by
      rcases List.mem_cons.1 ((h a).1 (List.mem_cons_self ..)) with e | e
      · exact e
      · rcases List.mem_cons.1 ((h b).2 (List.mem_cons_self ..)) with e' | e'
        · exact e'.symm
        · have := h2.1 a e
          have := h1.1 b e'
          omega
    subst hab
    rw [sorted_uniq f L M h1.2 h2.2 (fun x => ⟨fun hx => ?_, fun hx => ?_⟩)]
    · rcases List.mem_cons.1 ((h x).1 (List.mem_cons_of_mem _ hx)) with e | e
      · subst e
        have := h1.1 x hx
        omega
      · exact e
    · rcases List.mem_cons.1 ((h x).2 (List.mem_cons_of_mem _ hx)) with e | e
      · subst e
        have := h2.1 x hx
        omega
      · exact e
def rKey (r : Rt) : Int := keyP r.p.fam r.p.len r.p.z
/-- ascending and no two of one prefix: strictly ascending -/
theorem asc_strict {S : List Rx} {n : Nat} (hl : S.length = n) (ha : AscX S) (hf : ∀ i, i < n → Form (S.getD i rx0).r.p.fam (S.getD i rx0).r.p.len (S.getD i rx0).r.p.z) (hb : ∀ i, i < n → Bytes (S.getD i rx0).r.p.z) (hd : ∀ i j, i < j → j < n → kyF (S.getD i rx0).r.p ≠ kyF (S.getD j rx0).r.p) : (S.map (fun y => y.r)).Pairwise (fun a b => rKey a < rKey b) := by
  rw [List.pairwise_map, List.pairwise_iff_getElem]
  intro i j hi hj hij
  have g : ∀ q (hq : q < S.length), S.getD q rx0 = S[q] := fun q hq => by rw [List.getD_eq_getElem?_getD, List.getElem?_eq_getElem hq]; rfl
  have h1 := ha i j hij hj
  have h2 := hd i j hij (by omega)
  have hfi := hf i (by omega)
  have hfj := hf j (by omega)
  have hbi := hb i (by omega)
  have hbj := hb j (by omega)
  rw [g i hi] at h1 h2 hfi hbi
  rw [g j hj] at h1 h2 hfj hbj
  rcases Int.lt_or_eq_of_le h1 with h | h
  · exact h
  · exfalso
    obtain ⟨n1, hn1, hn2⟩ := form_nat hfi
    obtain ⟨n3, hn3, hn4⟩ := form_nat hfj
    obtain ⟨e1, e2, e3⟩ := (keyP_eq hbi hbj ⟨by omega, by omega⟩ ⟨by omega, by omega⟩).1 h
    apply h2
    rw [hn1] at hfi
    rw [hn3] at hfj
    obtain ⟨l1, a1, a2⟩ := ky_yes hfi
    obtain ⟨l2, b1, b2⟩ := ky_yes hfj
    have hl12 : l1 = l2 := famB_inj (by rw [← a1, ← b1, e1])
    subst hl12
    have hnn : n1 = n3 := by omega
    subst hnn
    unfold kyF
    rw [hn1, hn3, a2, b2, (btP_eq hbi hbj hfi hfj).2 ⟨rfl, e3⟩]
/-- two tables of the same routes have one list -/
theorem tab_uniq {S M : List Rx} (h1 : (S.map (fun y => y.r)).Pairwise (fun a b => rKey a < rKey b)) (h2 : (M.map (fun y => y.r)).Pairwise (fun a b => rKey a < rKey b)) (h : ∀ r, (∃ y, y ∈ S ∧ y.r = r) ↔ ∃ y, y ∈ M ∧ y.r = r) : S.length = M.length ∧ ∀ j, j < S.length → (S.getD j rx0).r = (M.getD j rx0).r := by
  have e := sorted_uniq rKey _ _ h1 h2 (fun r => by rw [List.mem_map, List.mem_map]; exact h r)
  have hl := congrArg List.length e
  rw [List.length_map, List.length_map] at hl
  refine ⟨hl, fun j hj => ?_⟩
  have h3 := congrArg (fun L : List Rt => L[j]?) e
  simp only [List.getElem?_map] at h3
  rw [List.getElem?_eq_getElem hj, List.getElem?_eq_getElem (by omega : j < M.length)] at h3
  rw [List.getD_eq_getElem?_getD, List.getD_eq_getElem?_getD, List.getElem?_eq_getElem hj, List.getElem?_eq_getElem (by omega : j < M.length)]
  exact Option.some.inj h3
end Go.Proofs.Ytjnbemopfhinbaa
/- Two texts put together; each theorem states its conditions. -/
/- Two texts put together; each theorem states its conditions. -/
/- What is gone taken away and what is new laid over it: the new routes. Each theorem states its conditions. -/
namespace Go.Proofs.Ytjnbemopfhinbaa
open Go.RowKit
set_option linter.unusedVariables false
set_option linter.unusedSimpArgs false

theorem mem_at {S : List Rx} {y : Rx} (h : y ∈ S) : ∃ i, i < S.length ∧ S.getD i rx0 = y := by
  obtain ⟨i, hi, e⟩ := List.getElem_of_mem h
  exact ⟨i, hi, by rw [List.getD_eq_getElem?_getD, List.getElem?_eq_getElem hi]; exact e⟩
end Go.Proofs.Ytjnbemopfhinbaa
/- Two tables of one list: nothing is gone, nothing is new; a list laid over another one; routes appended behind routes. Each theorem states its conditions. -/
namespace Go.Proofs.Ytjnbemopfhinbaa
open Go.RowKit
set_option linter.unusedVariables false
set_option linter.unusedSimpArgs false

section
variable {ops : Array Oper} {Q : Exit → Act → World → Prop} {rest : List Oper} {o : Oper} {a : Act} {w : World}
end
theorem ErrX.form {n : Nat} {X : Nat → Rx} (h : ErrX n X 0) : ∀ i, i < n → Form (X i).r.p.fam (X i).r.p.len (X i).r.p.z := by
  rcases h with ⟨h, _⟩ | ⟨h, _⟩ | ⟨_, h, _⟩
  · omega
  · omega
  · exact h
theorem ErrX.nd {n : Nat} {X : Nat → Rx} (h : ErrX n X 0) : ∀ i j, i < j → j < n → kyF (X i).r.p ≠ kyF (X j).r.p := by
  rcases h with ⟨h, _⟩ | ⟨h, _⟩ | ⟨_, _, h⟩
  · omega
  · omega
  · exact h
theorem ErrX.one {n : Nat} {X : Nat → Rx} {e : Int} (h : ErrX n X e) (h0 : ErrX n X 0) : e = 0 := by
  rcases h with ⟨_, i, hi, hb⟩ | ⟨_, _, i, j, hij, hj, hk⟩ | ⟨h, _⟩
  · exact absurd (h0.form i hi) hb
  · exact absurd hk (h0.nd i j hij hj)
  · exact h
end Go.Proofs.Ytjnbemopfhinbaa
/- A list laid over another one is the new list: each route of it is now's, and each of now's is there. Each theorem states its conditions. -/
namespace Go.Proofs.Ytjnbemopfhinbaa
open Go.RowKit
set_option linter.unusedVariables false
set_option linter.unusedSimpArgs false

/-- one prefix -/
def SameP (p q : Pf) : Prop := p.fam = q.fam ∧ p.len = q.len ∧ Same16 p.z q.z
instance (p q : Pf) : Decidable (SameP p q) := by unfold SameP; infer_instance
theorem can_pf {r q : Rt} (hr : Can r) (hq : Can q) (h : SameP r.p q.p) : r.p = q.p := by
  have e1 : canZ 16 r.p.z = r.p.z := congrArg (fun x : Rt => x.p.z) hr
  have e2 : canZ 16 q.p.z = q.p.z := congrArg (fun x : Rt => x.p.z) hq
  have e3 : r.p.z = q.p.z := by
    rw [← e1, ← e2]
    funext j
    unfold canZ
    split
    · exact h.2.2 j (by omega)
    · rfl
  obtain ⟨⟨f1, l1, z1⟩, _, _, _, _⟩ := r
  obtain ⟨⟨f2, l2, z2⟩, _, _, _, _⟩ := q
  obtain ⟨h1, h2, _⟩ := h
  simp only at h1 h2 e3
  subst h1; subst h2; subst e3
  rfl
end Go.Proofs.Ytjnbemopfhinbaa
