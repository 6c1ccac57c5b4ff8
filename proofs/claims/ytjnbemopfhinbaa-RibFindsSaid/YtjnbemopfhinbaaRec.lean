/- Lists of records, s cells each, that a call reads or makes; bytes that a call appends to. Each theorem states its conditions. -/
import Derived.Test.YtjnbemopfhinbaaSpare
import Derived.Deep.MidRow
import Derived.Deep.AppendLies
import Derived.Lib.SliceRun
namespace Go.Proofs.Ytjnbemopfhinbaa
open Go.RowKit
set_option linter.unusedVariables false

/-- m records of s cells from ⟨b, off⟩ on -/
def RowR (w : World) (b off m s : Nat) (C : Nat → Array Value) : Prop := b < w.heap.size ∧ ∀ j, j < m → w.rangeAt b (off + j * s) (C j).toList
def RdR (w : World) (A : Option Addr) (m s : Nat) (C : Nat → Array Value) : Prop := m = 0 ∨ ∃ b off, A = some ⟨b, off, none⟩ ∧ RowR w b off m s C
/-- the cells of the first m -/
def cellsR (C : Nat → Array Value) : Nat → List Value
  | 0 => []
  | m + 1 => cellsR C m ++ (C m).toList
/-- records of s cells, one value each -/
def Recs (s : Nat) (C : Nat → Array Value) : Prop := ∀ j, (C j).size = s ∧ ∀ u ∈ (C j).toList, u.oneCell' = true

theorem add_none (b off j : Nat) : (⟨b, off, none⟩ : Addr).add j = ⟨b, off + j, none⟩ := by unfold Addr.add; split <;> simp_all
theorem rangeAt_below {w w' : World} {b o B : Nat} {cs : List Value} (h : w.rangeAt b o cs) (hb : Below B w w') (hB : b < B) : w'.rangeAt b o cs :=
  fun j v hv => (hb.cell (p := ⟨b, o + j, none⟩) hB).trans (h j v hv)
theorem RowR.below {w w' : World} {b off m s B : Nat} {C : Nat → Array Value} (h : RowR w b off m s C) (hb : Below B w w') (hB : b < B) : RowR w' b off m s C :=
  ⟨by have := hb.size; have := h.1; omega, fun j hj => rangeAt_below (h.2 j hj) hb hB⟩
theorem RdR.below {w w' : World} {A : Option Addr} {m s B : Nat} {C : Nat → Array Value} (h : RdR w A m s C) (hb : Below B w w') (hB : B = w.heap.size) : RdR w' A m s C := by
  rcases h with h | ⟨b, off, rfl, h⟩
  · exact .inl h
  · exact .inr ⟨b, off, rfl, h.below hb (by have := h.1; omega)⟩
theorem RdR.row {w : World} {A : Option Addr} {m s : Nat} {C : Nat → Array Value} (h : RdR w A m s C) (hm : 0 < m) : ∃ b off, A = some ⟨b, off, none⟩ ∧ RowR w b off m s C := by
  rcases h with h | h
  · omega
  · exact h
theorem RdR.cut {w : World} {A : Option Addr} {m s : Nat} {C : Nat → Array Value} (h : RdR w A m s C) (n : Nat) (hn : n ≤ m) : RdR w A n s C := by
  rcases h with h | ⟨b, off, rfl, h⟩
  · exact .inl (by omega)
  · exact .inr ⟨b, off, rfl, h.1, fun j hj => h.2 j (by omega)⟩
theorem RdR.congr {w : World} {A : Option Addr} {m s : Nat} {C C' : Nat → Array Value} (h : RdR w A m s C) (hc : ∀ j, j < m → C j = C' j) : RdR w A m s C' := by
  rcases h with h | ⟨b, off, rfl, h⟩
  · exact .inl h
  · exact .inr ⟨b, off, rfl, h.1, fun j hj => by rw [← hc j hj]; exact h.2 j hj⟩

theorem cellsR_len {s : Nat} {C : Nat → Array Value} (hC : Recs s C) (m : Nat) : (cellsR C m).length = m * s := by
  induction m with
  | zero => simp [cellsR]
  | succ m ih => simp only [cellsR, List.length_append, ih, Array.length_toList, (hC m).1, Nat.succ_mul]
theorem cellsR_at {s : Nat} {C : Nat → Array Value} (hC : Recs s C) (m j i : Nat) (hj : j < m) (hi : i < s) : (cellsR C m)[j * s + i]? = (C j)[i]? := by
  induction m with
  | zero => omega
  | succ m ih =>
    have hl := cellsR_len hC m
    simp only [cellsR]
    by_cases e : j = m
    · subst e
      rw [List.getElem?_append_right (by omega), hl, Nat.add_sub_cancel_left]
      simp
    · have : j * s + s ≤ m * s := by
        have := Nat.mul_le_mul_right s (show j + 1 ≤ m by omega)
        rwa [Nat.succ_mul] at this
      rw [List.getElem?_append_left (by omega)]
      exact ih (by omega)
theorem cellsR_one {s : Nat} {C : Nat → Array Value} (hC : Recs s C) (m : Nat) : ∀ u ∈ cellsR C m, u.oneCell' = true := by
  induction m with
  | zero => simp [cellsR]
  | succ m ih =>
    intro u hu
    simp only [cellsR, List.mem_append] at hu
    rcases hu with h | h
    · exact ih u h
    · exact (hC m).2 u h
theorem cellsR_congr {C C' : Nat → Array Value} (m : Nat) (h : ∀ j, j < m → C j = C' j) : cellsR C m = cellsR C' m := by
  induction m with
  | zero => rfl
  | succ m ih => simp only [cellsR, h m (by omega)]; rw [ih fun j hj => h j (by omega)]
/-- one list of records behind another -/
def catR (C : Nat → Array Value) (n : Nat) (C' : Nat → Array Value) : Nat → Array Value := fun j => if j < n then C j else C' (j - n)
theorem catR_lo (C C' : Nat → Array Value) (n j : Nat) (h : j < n) : catR C n C' j = C j := by simp [catR, h]
theorem catR_hi (C C' : Nat → Array Value) (n j : Nat) : catR C n C' (n + j) = C' j := by unfold catR; rw [if_neg (by omega), Nat.add_sub_cancel_left]
theorem cellsR_cat (C C' : Nat → Array Value) (n m : Nat) : cellsR C n ++ cellsR C' m = cellsR (catR C n C') (n + m) := by
  induction m with
  | zero => simp only [cellsR, List.append_nil, Nat.add_zero]; exact cellsR_congr n fun j hj => (catR_lo C C' n j hj).symm
  | succ m ih =>
    show cellsR C n ++ (cellsR C' m ++ (C' m).toList) = cellsR (catR C n C') (n + m) ++ (catR C n C' (n + m)).toList
    rw [catR_hi, ← ih, List.append_assoc]
/-- the records as what an append takes -/
theorem recs_news {w : World} {m s : Nat} {C : Nat → Array Value} {ad : Addr} (hC : Recs s C) (hs : 0 < s) (h : RdR w (some ad) m s C) : ∀ j u, (cellsR C m)[j]? = some u → w.cell? (ad.add j) = some u := by
  intro j u hu
  have hj : j < m * s := by
    rcases Nat.lt_or_ge j (m * s) with h | h
    · exact h
    · rw [List.getElem?_eq_none (by rw [cellsR_len hC]; exact h)] at hu; cases hu
  have hm : 0 < m := by
    rcases Nat.eq_zero_or_pos m with h0 | h0
    · subst h0; simp at hj
    · exact h0
  obtain ⟨b, off, e, hr⟩ := h.row hm
  injection e with e
  subst e
  have hq : j / s < m := Nat.div_lt_of_lt_mul (by rwa [Nat.mul_comm] at hj)
  have hi : j % s < s := Nat.mod_lt _ hs
  have hjq : j = j / s * s + j % s := by rw [Nat.mul_comm]; exact (Nat.div_add_mod j s).symm
  rw [hjq, cellsR_at hC m _ _ hq hi] at hu
  have := hr.2 _ hq (j % s) u (by simpa using hu)
  rw [add_none, ← this]
  congr 2
  omega
theorem ownR_shape {w : World} {base s m : Nat} {e : TypeId} {v : Value} {C : Nat → Array Value} (hC : Recs s C) (hs : 0 < s) (h : w.ownsRow base e s v m (cellsR C m)) :
    ∃ A c, v = .slice A m c ∧ m ≤ c ∧ c ≤ maxLen ∧ (A = none → m = 0 ∧ c = 0) ∧ RdR w A m s C := by
  rcases h.2 with ⟨rfl, rfl⟩ | ⟨g, cap, cur, rfl, hb, hc, h1, h2, h3, h4⟩
  · exact ⟨none, 0, rfl, Nat.le_refl _, by decide, fun _ => ⟨rfl, rfl⟩, .inl rfl⟩
  · refine ⟨some ⟨g, 0, none⟩, cap, rfl, h1, h2, fun e => (by cases e), .inr ⟨g, 0, rfl, (Array.getElem?_eq_some_iff.1 hc).1, fun j hj i u hu => ?_⟩⟩
    have hi : i < s := by
      rcases Nat.lt_or_ge i s with h | h
      · exact h
      · rw [List.getElem?_eq_none (by rw [Array.length_toList, (hC j).1]; exact h)] at hu; cases hu
    have hx := cellsR_at hC m j i hj hi
    have hlt : j * s + i < m * s := by
      have := Nat.mul_le_mul_right s (show j + 1 ≤ m by omega)
      rw [Nat.succ_mul] at this; omega
    rw [← h4, List.getElem?_take, if_pos hlt] at hx
    rw [Nat.zero_add, cell_of_row w g _ cur _ (0, 0) hc]
    rw [Array.getElem?_toList] at hx hu
    exact hx.trans hu
theorem ownsRow_below' {w w' : World} {base s m : Nat} {e : TypeId} {v : Value} {xs : List Value} (h : w.ownsRow base e s v m xs) (hb : Below w.heap.size w w') : w'.ownsRow base e s v m xs := by
  refine ⟨h.1, ?_⟩
  rcases h.2 with h | ⟨g, cap, cur, hv, hg, hc, r⟩
  · exact .inl h
  · exact .inr ⟨g, cap, cur, hv, hg, (hb.block g (Array.getElem?_eq_some_iff.1 hc).1).trans hc, r⟩
theorem ownsRow_mono {w : World} {base base' s m : Nat} {e : TypeId} {v : Value} {xs : List Value} (h : w.ownsRow base e s v m xs) (hb : base' ≤ base) : w.ownsRow base' e s v m xs := by
  refine ⟨h.1, ?_⟩
  rcases h.2 with h | ⟨g, cap, cur, hv, hg, r⟩
  · exact .inl h
  · exact .inr ⟨g, cap, cur, hv, by omega, r⟩

/-- bytes of the call's own: none yet, or a row that it made -/
def OwnB (w : World) (base : Nat) (v : Value) (n : Nat) (z : Nat → Int) : Prop := w.ownsRow base 5 1 v n (vals z n) ∧ ∀ j, 0 ≤ z j ∧ z j ≤ 255
theorem OwnB.nil (w : World) (base : Nat) {z : Nat → Int} (hz : ∀ j, 0 ≤ z j ∧ z j ≤ 255) : OwnB w base (.slice none 0 0) 0 z := ⟨World.ownsRow_nil _ _ _ _, hz⟩
theorem OwnB.below {w w' : World} {base n : Nat} {v : Value} {z : Nat → Int} (h : OwnB w base v n z) (hb : Below w.heap.size w w') : OwnB w' base v n z := ⟨ownsRow_below' h.1 hb, h.2⟩
theorem OwnB.shape {w : World} {base n : Nat} {v : Value} {z : Nat → Int} (h : OwnB w base v n z) : ∃ A c, v = .slice A n c ∧ n ≤ c ∧ c ≤ maxLen ∧ (A = none → n = 0 ∧ c = 0) ∧ Rd w A n z := by
  rcases h.1.2 with ⟨rfl, rfl⟩ | ⟨g, cap, cur, rfl, hb, hc, h1, h2, h3, h4⟩
  · exact ⟨none, 0, rfl, Nat.le_refl _, by decide, fun _ => ⟨rfl, rfl⟩, .inl rfl, h.2⟩
  · refine ⟨some ⟨g, 0, none⟩, cap, rfl, h1, h2, fun e => (by cases e), .inr ⟨g, 0, rfl, (Array.getElem?_eq_some_iff.1 hc).1, fun j hj => ?_, h.2⟩, h.2⟩
    have := vals_at z n j hj
    rw [← h4, List.getElem?_take, if_pos (by omega)] at this
    rw [Nat.zero_add, cell_of_row w g j cur _ (0, 0) hc]
    simpa using this
end Go.Proofs.Ytjnbemopfhinbaa
