/- Lists of types and values that a call has made: what is known of them, and what becomes of it. Each theorem states its conditions. -/
import Derived.Test.YtigkmcbkckfhbaaTMem
namespace Go.Proofs.Ytigkmcbkckfhbaa
open Go.RowKit
set_option linter.unusedVariables false

/-- the cells of the first m -/
def cellsT (L : Nat → It) : Nat → List Value
  | 0 => []
  | m + 1 => cellsT L m ++ [.int .u8 (L m).ty, .slice (L m).A (L m).n (L m).c]

theorem cellsT_len (L : Nat → It) (m : Nat) : (cellsT L m).length = m * 2 := by
  induction m with
  | zero => rfl
  | succ m ih => simp [cellsT, ih]; omega
theorem cellsT_at (L : Nat → It) (m j : Nat) (h : j < m) : (cellsT L m)[j * 2]? = some (.int .u8 (L j).ty) ∧ (cellsT L m)[j * 2 + 1]? = some (.slice (L j).A (L j).n (L j).c) := by
  induction m with
  | zero => omega
  | succ m ih =>
    have hl := cellsT_len L m
    simp only [cellsT]
    by_cases e : j = m
    · subst e
      rw [List.getElem?_append_right (by omega), List.getElem?_append_right (by omega), hl]
      simp
    · rw [List.getElem?_append_left (by omega), List.getElem?_append_left (by omega)]
      exact ih (by omega)
/-- item k is another one -/
def updT (L : Nat → It) (k : Nat) (t : It) : Nat → It := fun j => if j = k then t else L j
theorem updT_same (L : Nat → It) (k : Nat) (t : It) : updT L k t k = t := by simp [updT]
theorem updT_other (L : Nat → It) (k j : Nat) (t : It) (h : j ≠ k) : updT L k t j = L j := by simp [updT, h]
theorem cellsT_congr (L L' : Nat → It) (m : Nat) (h : ∀ j, j < m → (L j).ty = (L' j).ty ∧ (L j).A = (L' j).A ∧ (L j).n = (L' j).n ∧ (L j).c = (L' j).c) : cellsT L m = cellsT L' m := by
  induction m with
  | zero => rfl
  | succ m ih =>
    obtain ⟨h1, h2, h3, h4⟩ := h m (by omega)
    simp only [cellsT, h1, h2, h3, h4]
    rw [ih (fun j hj => h j (by omega))]
theorem cellsT_push (L : Nat → It) (k : Nat) (t : It) : cellsT (updT L k t) (k + 1) = cellsT L k ++ [.int .u8 t.ty, .slice t.A t.n t.c] := by
  simp only [cellsT, updT_same]
  rw [cellsT_congr (updT L k t) L k (fun j hj => by rw [updT_other _ _ _ _ (by omega)]; exact ⟨rfl, rfl, rfl, rfl⟩)]
theorem cellsT_one (L : Nat → It) (m : Nat) : ∀ u ∈ cellsT L m, u.oneCell' = true := by
  induction m with
  | zero => simp [cellsT]
  | succ m ih =>
    intro u hu
    simp only [cellsT, List.mem_append, List.mem_cons, List.not_mem_nil, or_false] at hu
    rcases hu with h | rfl | rfl
    · exact ih u h
    · rfl
    · rfl

/-- a value of the call's own: its bytes lie in a block of the call's own -/
def OwnV (w : World) (base : Nat) (t : It) : Prop :=
  (0 ≤ t.ty ∧ t.ty ≤ 255) ∧ t.n ≤ 140737488351232 ∧ ∃ g, t.A = some ⟨g, 0, none⟩ ∧ base ≤ g ∧ Own8 w g t.n t.c t.z
/-- a list of the call's own -/
def OwnT (w : World) (base : Nat) (v : Value) (m : Nat) (L : Nat → It) : Prop :=
  w.ownsRow base 53 2 v m (cellsT L m) ∧ ∀ j, j < m → OwnV w base (L j)

section
variable {w w' : World} {base m : Nat} {v : Value} {L : Nat → It} {t : It}

theorem OwnV.below (h : OwnV w base t) (hb : Below w.heap.size w w') : OwnV w' base t := by
  obtain ⟨h1, h2, g, h3, h4, h5⟩ := h
  exact ⟨h1, h2, g, h3, h4, h5.below hb h5.lt⟩
theorem OwnV.ok (h : OwnV w base t) : ItOk w t := by
  obtain ⟨h1, h2, g, h3, h4, h5⟩ := h
  refine ⟨h1, ⟨.inr ⟨g, 0, h3, h5.row⟩, h5.2⟩, fun e => ?_, h2⟩
  rw [h3] at e; cases e
theorem OwnV.mono {b : Nat} (h : OwnV w base t) (hb : b ≤ base) : OwnV w b t := by
  obtain ⟨h1, h2, g, h3, h4, h5⟩ := h
  exact ⟨h1, h2, g, h3, by omega, h5⟩
theorem ownsRow_below {e : TypeId} {s : Nat} {xs : List Value} (h : w.ownsRow base e s v m xs) (hb : Below w.heap.size w w') : w'.ownsRow base e s v m xs := by
  refine ⟨h.1, ?_⟩
  rcases h.2 with h | ⟨g, cap, cur, hv, hg, hc, r⟩
  · exact .inl h
  · exact .inr ⟨g, cap, cur, hv, hg, (hb.block g (Array.getElem?_eq_some_iff.1 hc).1).trans hc, r⟩
theorem OwnT.below (h : OwnT w base v m L) (hb : Below w.heap.size w w') : OwnT w' base v m L :=
  ⟨ownsRow_below h.1 hb, fun j hj => (h.2 j hj).below hb⟩
theorem OwnT.nil (w : World) (base : Nat) (L : Nat → It) : OwnT w base (.slice none 0 0) 0 L := ⟨World.ownsRow_nil _ _ _ _, fun j hj => by omega⟩

theorem ownV_grown {v' : Value} {xs : List Value} {n : Nat} (h : OwnV w base t) (hr : w.ownsRow base 53 2 v n xs) (hg : w.grownBy w' v.ownBlock) : OwnV w' base t := by
  obtain ⟨h1, h2, g, h3, h4, h5⟩ := h
  refine ⟨h1, h2, g, h3, h4, h5.grown hg ?_⟩
  intro e
  obtain ⟨⟨cur, hc, _⟩, _⟩ := h5
  rcases hr.2 with ⟨rfl, _⟩ | ⟨g', cap, cur', rfl, _, hc', _⟩
  · cases e
  · simp [Value.ownBlock] at e
    subst e
    rw [hc] at hc'
    simp at hc'

/-- behind an append of one more -/
theorem OwnT.push {v' : Value} {k : Nat} (h : OwnT w base v k L) (ht : OwnV w base t) (hr : w'.ownsRow base 53 2 v' (k + 1) (cellsT L k ++ [.int .u8 t.ty, .slice t.A t.n t.c])) (hg : w.grownBy w' v.ownBlock) :
    OwnT w' base v' (k + 1) (updT L k t) := by
  refine ⟨by rw [cellsT_push]; exact hr, fun j hj => ?_⟩
  by_cases e : j = k
  · subst e
    rw [updT_same]
    exact ownV_grown (v' := v') ht h.1 hg
  · rw [updT_other _ _ _ _ e]
    exact ownV_grown (v' := v') (h.2 j (by omega)) h.1 hg

theorem OwnT.shape (h : OwnT w base v m L) : ∃ A c, v = .slice A m c ∧ m ≤ c ∧ c ≤ maxLen ∧ (A = none → m = 0 ∧ c = 0) ∧ RdT w A m L := by
  have hi : ∀ j, j < m → ItOk w (L j) := fun j hj => (h.2 j hj).ok
  rcases h.1.2 with ⟨rfl, rfl⟩ | ⟨g, cap, cur, rfl, hb, hc, h1, h2, h3, h4⟩
  · exact ⟨none, 0, rfl, Nat.le_refl _, by decide, fun _ => ⟨rfl, rfl⟩, .inl rfl⟩
  · refine ⟨some ⟨g, 0, none⟩, cap, rfl, h1, h2, fun e => (by cases e), .inr ⟨g, 0, rfl, (Array.getElem?_eq_some_iff.1 hc).1, fun j hj => ?_⟩⟩
    have hx := cellsT_at L m j hj
    rw [← h4] at hx
    rw [List.getElem?_take, if_pos (by omega), List.getElem?_take, if_pos (by omega)] at hx
    refine ⟨?_, ?_, hi j hj⟩
    · rw [Nat.zero_add, cell_of_row w g _ cur _ (0, 0) hc]; simpa using hx.1
    · rw [Nat.zero_add, cell_of_row w g _ cur _ (0, 0) hc]; simpa using hx.2
end

theorem info_tlv : (Try.prog.info? 53).map (fun i => (i.zero, i.size, i.bytes)) = some (some (.agg #[.int .u8 0, .slice none 0 0]), 2, 32) := by kernel_rfl

theorem two_new (w : World) (a b : Value) (t : TypeId) : ∀ j u, [a, b][j]? = some u → (w.alloc (.cells #[a, b] t)).cell? ((⟨w.heap.size, 0, none⟩ : Addr).add j) = some u := by
  intro j u hj
  match j, hj with
  | 0, hj => simp at hj; subst hj; simp [Addr.add]
  | 1, hj => simp at hj; subst hj; simp [Addr.add]
theorem two_one (a : Int) (A : Option Addr) (n c : Nat) : ∀ u ∈ [Value.int .u8 a, Value.slice A n c], u.oneCell' = true := by
  intro u hu; simp only [List.mem_cons, List.not_mem_nil, or_false] at hu; rcases hu with rfl | rfl <;> rfl
end Go.Proofs.Ytigkmcbkckfhbaa
