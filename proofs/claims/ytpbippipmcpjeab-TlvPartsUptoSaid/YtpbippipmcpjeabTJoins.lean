/- Plain facts of the bytes of a list; a list of values while their bytes are turned. Each theorem states its conditions. -/
import Derived.Test.YtpbippipmcpjeabTOf
import Derived.Test.YtpbippipmcpjeabTFlip
namespace Go.Proofs.Ytpbippipmcpjeab
open Go.RowKit
set_option linter.unusedVariables false

theorem sz_congr {L L' : Nat → It} {m : Nat} (h : ∀ j, j < m → (L j).n = (L' j).n) : ∀ k, k ≤ m → sz L k = sz L' k := by
  intro k hk
  induction k with
  | zero => rfl
  | succ k ih => simp only [sz, ih (by omega), h k (by omega)]
theorem bad_congr {L L' : Nat → It} {m : Nat} (h : ∀ j, j < m → (L j).n = (L' j).n) (k : Nat) (hk : k < m) : bad L k ↔ bad L' k := by
  unfold bad; rw [h k hk, sz_congr h (k + 1) (by omega)]
theorem jends_congr {L L' : Nat → It} {m m0 : Nat} (h : ∀ j, j < m → (L j).n = (L' j).n) (hj : JEnds L m m0) : JEnds L' m m0 :=
  ⟨hj.1, fun k hk => fun hb => hj.2.1 k hk ((bad_congr h k (by have := hj.1; omega)).2 hb), hj.2.2.elim .inl (fun hx => .inr ⟨hx.1, (bad_congr h m0 hx.1).1 hx.2⟩)⟩
theorem J_congr {L L' : Nat → It} {m : Nat} (h : ∀ j, j < m → (L j).ty = (L' j).ty ∧ (L j).n = (L' j).n ∧ ∀ i, i < (L j).n → (L j).z i = (L' j).z i) : ∀ k, k ≤ m → ∀ j, j < sz L k → J L k j = J L' k j := by
  intro k hk
  induction k with
  | zero => intro j hj; simp [sz] at hj
  | succ k ih =>
    intro j hj
    have hs := sz_congr (fun j hj => (h j hj).2.1) k (by omega)
    obtain ⟨h1, h2, h3⟩ := h k (by omega)
    simp only [J, ← hs, ← h1, ← h2]
    unfold cat
    split
    · split
      · exact ih (by omega) j (by omega)
      · rfl
    · exact h3 _ (by simp only [sz] at hj; omega)
theorem J_old (L : Nat → It) (k m : Nat) (h : k ≤ m) : ∀ j, j < sz L k → J L m j = J L k j := by
  induction m with
  | zero => obtain rfl : k = 0 := by omega
            intro j _; rfl
  | succ m ih =>
    by_cases e : k = m + 1
    · subst e; intro j _; rfl
    · intro j hj
      have := sz_mono L k m (by omega)
      simp only [J]
      unfold cat
      rw [if_pos (by omega), if_pos (by omega)]
      exact ih (by omega) j hj
theorem J_item (L : Nat → It) (k m : Nat) (h : k < m) : J L m (sz L k) = (L k).ty ∧ J L m (sz L k + 1) = (L k).n ∧ ∀ i, i < (L k).n → J L m (sz L k + 2 + i) = (L k).z i := by
  have hs : sz L (k + 1) = sz L k + (2 + (L k).n) := rfl
  refine ⟨?_, ?_, fun i hi => ?_⟩
  · rw [J_old L (k + 1) m (by omega) _ (by omega)]
    simp [J, cat, two]
  · rw [J_old L (k + 1) m (by omega) _ (by omega)]
    simp [J, cat, two]
    omega
  · rw [J_old L (k + 1) m (by omega) _ (by omega)]
    simp only [J]
    unfold cat
    rw [if_neg (by omega)]
    congr 1; omega
theorem J_pos (L : Nat → It) (m : Nat) : ∀ k, k ≤ m → pos (J L m) k = sz L k := by
  intro k hk
  induction k with
  | zero => rfl
  | succ k ih =>
    obtain ⟨_, h2, _⟩ := J_item L k m (by omega)
    simp only [pos, sz, ih (by omega), h2]
    omega
theorem J_back {L L5 : Nat → It} {m : Nat} (hI : IsItZ (J L m) L5 m) : ∀ j, j < m → (L5 j).ty = (L j).ty ∧ (L5 j).n = (L j).n ∧ ∀ i, i < (L5 j).n → (L5 j).z i = (L j).z i := by
  intro j hj
  obtain ⟨g, cap, e⟩ := hI j hj
  obtain ⟨h1, h2, h3⟩ := J_item L j m hj
  rw [e]
  unfold itZ
  simp only [J_pos L m j (by omega), h1, h2]
  refine ⟨trivial, by omega, fun i hi => h3 i (by omega)⟩
theorem cnt_congr {L L' : Nat → It} {m : Nat} (kind : Int) (h : ∀ j, j < m → (L j).ty = (L' j).ty) : ∀ k, k ≤ m → cnt L kind k = cnt L' kind k := by
  intro k hk
  induction k with
  | zero => rfl
  | succ k ih => simp only [cnt, ih (by omega), h k (by omega)]
theorem sel_congr {L L' : Nat → It} {m : Nat} (kind : Int) (h : ∀ j, j < m → Alike (L j) (L' j)) : ∀ k, k ≤ m → ∀ i, i < cnt L kind k → (Sel L kind k i).n = (Sel L' kind k i).n ∧ (Sel L kind k i).z = (Sel L' kind k i).z := by
  intro k hk
  induction k with
  | zero => intro i hi; simp [cnt] at hi
  | succ k ih =>
    intro i hi
    have hc := cnt_congr kind (fun j hj => (h j hj).1) k (by omega)
    obtain ⟨h1, h2, h3⟩ := h k (by omega)
    simp only [cnt, Sel, ← h1] at hi ⊢
    split at hi
    · rename_i hk'
      rw [if_pos hk', if_pos hk', ← hc]
      by_cases e : i = cnt L kind k
      · subst e; rw [updT_same, updT_same]; exact ⟨h2, h3⟩
      · rw [updT_other _ _ _ _ e, updT_other _ _ _ _ e]; exact ih (by omega) i (by omega)
    · rename_i hk'
      rw [if_neg hk', if_neg hk']; exact ih (by omega) i hi

/-- a list of values of the call's own, which hold whichever bytes -/
def OwnWV (w : World) (base : Nat) (v : Value) (m : Nat) (K : Nat → It) : Prop :=
  w.ownsRow base 25 1 v m (cellsV K m) ∧ ∀ j, j < m → (K j).n = 0 ∨ ∃ g, (K j).A = some ⟨g, 0, none⟩ ∧ base ≤ g ∧ Some8 w g (K j).n (K j).c
theorem OwnWV.drew {w : World} {base m : Nat} {v : Value} {K : Nat → It} (h : OwnWV w base v m K) (r : Nat) : OwnWV (w.drewN r) base v m K := h
theorem OwnWV.put {w : World} {base m : Nat} {v : Value} {K : Nat → It} (h : OwnWV w base v m K) (k : Nat) (hk : k < m) (hn : 0 < (K k).n) (g : Nat) (hg : (K k).A = some ⟨g, 0, none⟩) (i : Nat) (x : Int) (hx : 0 ≤ x ∧ x ≤ 255) :
    OwnWV (w.setCell ⟨g, i, none⟩ (.int .u8 x)) base v m K := by
  refine ⟨⟨h.1.1, ?_⟩, fun j hj => ?_⟩
  · rcases h.1.2 with h0 | ⟨b, cap, cur, hv, hb, hc, r⟩
    · exact .inl h0
    · refine .inr ⟨b, cap, cur, hv, hb, ?_, r⟩
      rcases h.2 k hk with h0 | ⟨g', hg', _, z, ⟨cur', hc', _⟩, _⟩
      · omega
      rw [hg] at hg'
      injection hg' with hg'
      injection hg' with hg'
      subst hg'
      have hne : b ≠ g := by
        intro e; subst e
        rw [hc] at hc'
        simp at hc'
      rw [Below.heap_setCell w _ _ b (by simpa using hne)]
      exact hc
  · rcases h.2 j hj with h0 | ⟨g', h1, h2, h3⟩
    · exact .inl h0
    · exact .inr ⟨g', h1, h2, h3.put g i x hx⟩
theorem OwnWV.at {w : World} {base m : Nat} {v : Value} {K : Nat → It} (h : OwnWV w base v m K) (k : Nat) (hk : k < m) :
    ∃ b c, v = .slice (some ⟨b, 0, none⟩) m c ∧ w.cell? ⟨b, k, none⟩ = some (.slice (K k).A (K k).n (K k).c) ∧
      (0 < (K k).n → ∃ g, (K k).A = some ⟨g, 0, none⟩ ∧ base ≤ g ∧ ∀ i, i < (K k).n → ∃ x, 0 ≤ x ∧ x ≤ 255 ∧ w.cell? ⟨g, i, none⟩ = some (.int .u8 x) ∧ w.frozen? ⟨g, i, none⟩ = false) := by
  rcases h.1.2 with ⟨_, h0⟩ | ⟨b, cap, cur, hv, hbb, hc, h1, h2, h3, h4⟩
  · omega
  · refine ⟨b, cap, hv, ?_, fun hn => ?_⟩
    · have hx := cellsV_at K m k hk
      rw [← h4, List.getElem?_take, if_pos (by omega)] at hx
      rw [cell_of_row w b _ cur _ (0, 0) hc]
      simpa using hx
    · rcases h.2 k hk with h0 | ⟨g, hg, hb, z, ho⟩
      · omega
      · exact ⟨g, hg, hb, fun i hi => ⟨z i, (ho.2 i).1, (ho.2 i).2, own_at ho i hi, ho.free i⟩⟩
end Go.Proofs.Ytpbippipmcpjeab
