/- One list of the call's own behind another. Each theorem states its conditions. -/
import Derived.Test.YtpbippipmcpjeabTJoins
namespace Go.Proofs.Ytpbippipmcpjeab
open Go.RowKit
set_option linter.unusedVariables false

/-- append of a slice that may be nil -/
theorem wpList_append_any {P : Program} {w : World} {ops : Array Oper} {rest : List Oper} {o : Oper} {a : Act} {Q : Exit → Act → World → Prop} (hgd : o.guard = none) (s x : Operand) (t : TypeId)
    (ho : o.op = .call { callee := .builtin .append, args := #[s, x], argTypes := #[t, t] })
    (base : Nat) (e : TypeId) (i : TypeInfo) (z : Value) (size bytes : Nat) (ht : P.underlying t = some (.slice e)) (hi : P.info? e = some i) (hz : i.zero = some z)
    (hsize : i.size = size) (hby : i.bytes = bytes) (hzs : z.cells.size = size) (hsz : 0 < size)
    (v : Value) (n : Nat) (xs : List Value) (hs : a.eval s = v) (hown : w.ownsRow base e size v n xs)
    (ao : Option Addr) (m c : Nat) (news : List Value) (hx : a.eval x = .slice ao m c) (hl : news.length = m * size) (hnone : ao = none → m = 0 ∧ c = 0) (hnews : ∀ ad, ao = some ad → ∀ j u, news[j]? = some u → w.cell? (ad.add j) = some u) (h1 : ∀ u ∈ news, u.oneCell' = true)
    (h63 : n + m ≤ maxLen) (hbytes : (n + m) * bytes ≤ 140737488355328) (hbase : base ≤ w.heap.size)
    (h : ∀ v' w', w'.ownsRow base e size v' (n + m) (xs ++ news) → w.grownBy w' v.ownBlock → wpList P ops Q rest (a.put o.dst v') w') :
    wpList P ops Q (o :: rest) a w := by
  rcases ao with _ | ad
  · obtain ⟨rfl, rfl⟩ := hnone rfl
    have hn : news = [] := List.eq_nil_of_length_eq_zero (by simpa using hl)
    subst hn
    exact wpList_append_own_none hgd s x t ho base e i size ht hi v n xs hs hown hx (h v w (by simpa using hown) (World.grownBy.refl _ _))
  · exact wpList_append_own_at _ hgd s x t ho base e i z size bytes ht hi hz hsize hby hzs hsz v n xs hs hown ad m c news hx hl (hnews ad rfl) h1 h63 hbytes hbase (fun v' w' a b _ _ => h v' w' a b)

/-- m items, and others behind them -/
def catT (L : Nat → It) (m : Nat) (M : Nat → It) : Nat → It := fun j => if j < m then L j else M (j - m)
theorem catT_lo (L : Nat → It) (m j : Nat) (M : Nat → It) (h : j < m) : catT L m M j = L j := by simp [catT, h]
theorem catT_hi (L : Nat → It) (m j : Nat) (M : Nat → It) : catT L m M (m + j) = M j := by
  unfold catT; rw [if_neg (by omega)]; congr 1; omega
theorem cellsT_cat (L M : Nat → It) (m k : Nat) : cellsT L m ++ cellsT M k = cellsT (catT L m M) (m + k) := by
  induction k with
  | zero =>
    simp only [cellsT, List.append_nil, Nat.add_zero]
    exact cellsT_congr _ _ _ (fun j hj => by rw [catT_lo _ _ _ _ hj]; exact ⟨rfl, rfl, rfl, rfl⟩)
  | succ k ih =>
    rw [← Nat.add_assoc]
    simp only [cellsT, ← List.append_assoc, ih, catT_hi]
theorem cellsV_cat (L M : Nat → It) (m k : Nat) : cellsV L m ++ cellsV M k = cellsV (catT L m M) (m + k) := by
  induction k with
  | zero =>
    simp only [cellsV, List.append_nil, Nat.add_zero]
    exact cellsV_congr _ _ _ (fun j hj => by rw [catT_lo _ _ _ _ hj]; exact ⟨rfl, rfl, rfl⟩)
  | succ k ih =>
    rw [← Nat.add_assoc]
    simp only [cellsV, ← List.append_assoc, ih, catT_hi]

/-- the cells of a list that can be read -/
theorem rdT_news {w : World} {A : Option Addr} {m : Nat} {L : Nat → It} (h : RdT w A m L) : ∀ ad, A = some ad → ∀ j u, (cellsT L m)[j]? = some u → w.cell? (ad.add j) = some u := by
  intro ad hA j u hu
  have hl := cellsT_len L m
  have hj : j < m * 2 := by
    rcases Nat.lt_or_ge j (m * 2) with h | h
    · exact h
    · rw [List.getElem?_eq_none (by omega)] at hu; cases hu
  obtain ⟨b, off, e, hr⟩ := h.row (by omega)
  rw [hA] at e
  injection e with e
  subst e
  have hadd : (⟨b, off, none⟩ : Addr).add j = ⟨b, off + j, none⟩ := by unfold Addr.add; split <;> simp_all
  rw [hadd]
  obtain ⟨g0, g1, _⟩ := hr.2 (j / 2) (by omega)
  obtain ⟨x0, x1⟩ := cellsT_at L m (j / 2) (by omega)
  rcases (by omega : j = j / 2 * 2 ∨ j = j / 2 * 2 + 1) with e | e
  · rw [← e] at g0 x0
    rw [hu] at x0
    rw [g0, x0]
  · rw [← e] at x1
    rw [show off + j = off + j / 2 * 2 + 1 by omega, g1]
    rw [hu] at x1
    rw [x1]

/-- behind an append of one list of the call's own to another -/
theorem ownT_cat {w w' : World} {base m k : Nat} {v v' u : Value} {L M : Nat → It} (h : OwnT w base v m L) (hM : ∀ j, j < k → OwnV w base (M j))
    (hr : w'.ownsRow base 27 2 v' (m + k) (cellsT L m ++ cellsT M k)) (hg : w.grownBy w' v.ownBlock) : OwnT w' base v' (m + k) (catT L m M) := by
  refine ⟨by rw [← cellsT_cat]; exact hr, fun j hj => ?_⟩
  by_cases e : j < m
  · rw [catT_lo _ _ _ _ e]
    exact ownV_grown (v' := v') (h.2 j e) h.1 hg
  · obtain ⟨i, rfl⟩ : ∃ i, j = m + i := ⟨j - m, by omega⟩
    rw [catT_hi]
    exact ownV_grown (v' := v') (hM i (by omega)) h.1 hg
theorem ownsRow_le' {w : World} {base base' size n : Nat} {e : TypeId} {v : Value} {xs : List Value} (h : w.ownsRow base e size v n xs) (hb : base' ≤ base) : w.ownsRow base' e size v n xs :=
  ⟨h.1, h.2.elim Or.inl (fun ⟨g, cap, cur, hv, hg, r⟩ => Or.inr ⟨g, cap, cur, hv, Nat.le_trans hb hg, r⟩)⟩
theorem OwnT.le {w : World} {base base' m : Nat} {v : Value} {L : Nat → It} (h : OwnT w base v m L) (hb : base' ≤ base) : OwnT w base' v m L :=
  ⟨ownsRow_le' h.1 hb, fun j hj => (h.2 j hj).mono hb⟩

theorem sz_cat (L M : Nat → It) (m : Nat) : (∀ k, k ≤ m → sz (catT L m M) k = sz L k) ∧ ∀ k, sz (catT L m M) (m + k) = sz L m + sz M k := by
  have h1 : ∀ k, k ≤ m → sz (catT L m M) k = sz L k := sz_congr (fun j hj => by rw [catT_lo _ _ _ _ hj])
  refine ⟨h1, fun k => ?_⟩
  induction k with
  | zero => simpa [sz] using h1 m (Nat.le_refl _)
  | succ k ih =>
    rw [← Nat.add_assoc]
    simp only [sz, ih, catT_hi]
    omega
theorem J_cat (L M : Nat → It) (m : Nat) : ∀ k, ∀ j, j < sz L m + sz M k → J (catT L m M) (m + k) j = cat (J L m) (sz L m) (J M k) j := by
  obtain ⟨h1, h2⟩ := sz_cat L M m
  intro k
  induction k with
  | zero =>
    intro j hj
    simp only [sz, Nat.add_zero] at hj ⊢
    rw [J_congr (L := catT L m M) (L' := L) (m := m) (fun j hj => by rw [catT_lo _ _ _ _ hj]; exact ⟨rfl, rfl, fun _ _ => rfl⟩) m (Nat.le_refl _) j (by rw [h1 m (Nat.le_refl _)]; exact hj)]
    simp [cat, hj]
  | succ k ih =>
    intro j hj
    rw [← Nat.add_assoc]
    simp only [J, h2, catT_hi]
    simp only [sz] at hj
    unfold cat
    by_cases c1 : j < sz L m + sz M k
    · rw [if_pos (by omega), if_pos c1, ih j c1]
      unfold cat
      by_cases c2 : j < sz L m
      · rw [if_pos c2, if_pos c2]
      · rw [if_neg c2, if_neg c2, if_pos (by omega), if_pos (by omega)]
    · by_cases c3 : j < sz L m + sz M k + 2
      · rw [if_pos c3, if_neg c1, if_neg (by omega), if_pos (by omega), if_neg (by omega)]
        congr 1; omega
      · rw [if_neg c3, if_neg (by omega), if_neg (by omega)]
        congr 1; omega
end Go.Proofs.Ytpbippipmcpjeab
