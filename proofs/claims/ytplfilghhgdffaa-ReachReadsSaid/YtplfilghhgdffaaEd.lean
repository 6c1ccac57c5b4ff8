/- Edges: their cells, their bytes. Each theorem states its conditions. -/
import Derived.Test.YtplfilghhgdffaaRec
import Derived.Test.YtplfilghhgdffaaPutB
namespace Go.Proofs.Ytplfilghhgdffaa
open Go.RowKit
set_option linter.unusedVariables false

/-- an edge: its node's seven bytes, its metric -/
structure Ed where
  s : Nat → Int
  me : Nat

def EdOk (e : Ed) : Prop := (∀ j, 0 ≤ e.s j ∧ e.s j ≤ 255) ∧ e.me ≤ 4294967295
/-- its cells -/
def edC (e : Ed) : Array Value := #[.int .u8 (e.s 0), .int .u8 (e.s 1), .int .u8 (e.s 2), .int .u8 (e.s 3), .int .u8 (e.s 4), .int .u8 (e.s 5), .int .u8 (e.s 6), .int .u32 (e.me : Int)]
def edA (L : Nat → Ed) : Nat → Array Value := fun j => edC (L j)
theorem edC_one (e : Ed) : ∀ u ∈ (edC e).toList, u.oneCell' = true := by
  intro u hu
  simp only [edC, List.mem_cons, List.not_mem_nil, or_false] at hu
  rcases hu with rfl | rfl | rfl | rfl | rfl | rfl | rfl | rfl <;> rfl
theorem recs_ed (L : Nat → Ed) : Recs 8 (edA L) := fun j => ⟨rfl, edC_one (L j)⟩
theorem edC_cells {w : World} {b o : Nat} {e : Ed} (h : w.rangeAt b o (edC e).toList) :
    (w.cell? ⟨b, o, none⟩ = some (.int .u8 (e.s 0)) ∧ w.cell? ⟨b, o + 1, none⟩ = some (.int .u8 (e.s 1)) ∧ w.cell? ⟨b, o + 2, none⟩ = some (.int .u8 (e.s 2)) ∧ w.cell? ⟨b, o + 3, none⟩ = some (.int .u8 (e.s 3))) ∧
    w.cell? ⟨b, o + 4, none⟩ = some (.int .u8 (e.s 4)) ∧ w.cell? ⟨b, o + 5, none⟩ = some (.int .u8 (e.s 5)) ∧ w.cell? ⟨b, o + 6, none⟩ = some (.int .u8 (e.s 6)) ∧ w.cell? ⟨b, o + 7, none⟩ = some (.int .u32 (e.me : Int)) :=
  ⟨⟨h 0 _ rfl, h 1 _ rfl, h 2 _ rfl, h 3 _ rfl⟩, h 4 _ rfl, h 5 _ rfl, h 6 _ rfl, h 7 _ rfl⟩

/-- the bytes of edges, eleven each -/
def edZ (L : Nat → Ed) : Nat → Int := fun j => if j % 11 < 7 then (L (j / 11)).s (j % 11) else if j % 11 < 10 then putZ (L (j / 11)).me 3 (j % 11 - 7) else 0
theorem edZ_at (L : Nat → Ed) (k i : Nat) (h : i < 11) : edZ L (11 * k + i) = if i < 7 then (L k).s i else if i < 10 then putZ (L k).me 3 (i - 7) else 0 := by
  unfold edZ
  rw [show (11 * k + i) % 11 = i by omega, show (11 * k + i) / 11 = k by omega]
theorem edZ_bd (L : Nat → Ed) (hL : ∀ j, EdOk (L j)) : ∀ j, 0 ≤ edZ L j ∧ edZ L j ≤ 255 := by
  intro j
  unfold edZ
  split
  · exact (hL _).1 _
  · split
    · exact putZ_bd _ _ _
    · omega
theorem vals_add (z : Nat → Int) (n m : Nat) : vals z (n + m) = vals z n ++ vals (fun j => z (n + j)) m := by
  unfold vals
  rw [List.range_add, List.map_append, List.map_map]
  rfl
theorem vals_six (z : Nat → Int) : vals z 6 = [.int .u8 (z 0), .int .u8 (z 1), .int .u8 (z 2), .int .u8 (z 3), .int .u8 (z 4), .int .u8 (z 5)] := rfl
theorem edZ_push (L : Nat → Ed) (k : Nat) :
    vals (edZ L) (11 * k) ++ [.int .u8 ((L k).s 0), .int .u8 ((L k).s 1), .int .u8 ((L k).s 2), .int .u8 ((L k).s 3), .int .u8 ((L k).s 4), .int .u8 ((L k).s 5)] ++ [.int .u8 ((L k).s 6)] ++ vals (putZ (L k).me 3) 3 ++ [.int .u8 0] = vals (edZ L) (11 * (k + 1)) := by
  rw [show 11 * (k + 1) = 11 * k + 11 by omega, vals_add]
  simp only [List.append_assoc]
  congr 1
  have h := fun i hi => edZ_at L k i hi
  simp only [vals, List.range_succ, List.range_zero, List.nil_append, List.map_cons, List.map_nil, List.cons_append]
  rw [h 0 (by omega), h 1 (by omega), h 2 (by omega), h 3 (by omega), h 4 (by omega), h 5 (by omega), h 6 (by omega), h 7 (by omega), h 8 (by omega), h 9 (by omega), h 10 (by omega)]
  rfl
theorem edZ_congr (L L' : Nat → Ed) (m : Nat) (h : ∀ j, j < m → L j = L' j) : ∀ j, j < 11 * m → edZ L j = edZ L' j := by
  intro j hj
  unfold edZ
  rw [h (j / 11) (by omega)]
theorem qN3 (N : Nat) : qN N 3 = 0 ↔ N ≤ 16777215 := by
  unfold qN
  constructor
  · intro h
    have h' : N / 16777216 = 0 := h
    omega
  · intro h
    show N / 16777216 = 0
    omega

/-- the first m0 metrics fit; behind them the list ends, or one doesn't fit -/
def EEnds (L : Nat → Ed) (m m0 : Nat) : Prop := m0 ≤ m ∧ (∀ k, k < m0 → (L k).me ≤ 16777215) ∧ (m0 = m ∨ (m0 < m ∧ 16777215 < (L m0).me))
theorem eends (L : Nat → Ed) (m : Nat) : ∃ m0, EEnds L m m0 := by
  induction m with
  | zero => exact ⟨0, by omega, fun k hk => by omega, .inl rfl⟩
  | succ m ih =>
    obtain ⟨m0, h1, h2, h3⟩ := ih
    rcases h3 with rfl | ⟨h3, h4⟩
    · by_cases hb : 16777215 < (L m0).me
      · exact ⟨m0, by omega, h2, .inr ⟨by omega, hb⟩⟩
      · refine ⟨m0 + 1, by omega, fun k hk => ?_, .inl rfl⟩
        by_cases e : k = m0
        · subst e; omega
        · exact h2 k (by omega)
    · exact ⟨m0, by omega, h2, .inr ⟨by omega, h4⟩⟩

/-- six bytes and what stands behind them, in one block -/
theorem six_news {W : World} {B : Nat} {e : Ed} (h : W.heap[B]? = some (.cells (edC e) 30 (0, 0))) :
    ∀ j u, [Value.int .u8 (e.s 0), .int .u8 (e.s 1), .int .u8 (e.s 2), .int .u8 (e.s 3), .int .u8 (e.s 4), .int .u8 (e.s 5)][j]? = some u → W.cell? ((⟨B, 0, none⟩ : Addr).add j) = some u := by
  intro j u hj
  rw [add_none, Nat.zero_add, cell_of_row W B j _ _ _ h]
  match j, hj with
  | 0, hj => simpa [edC] using hj
  | 1, hj => simpa [edC] using hj
  | 2, hj => simpa [edC] using hj
  | 3, hj => simpa [edC] using hj
  | 4, hj => simpa [edC] using hj
  | 5, hj => simpa [edC] using hj
theorem u8_one (x : Int) : ∀ u ∈ [Value.int .u8 x], u.oneCell' = true := by
  intro u hu; simp only [List.mem_cons, List.not_mem_nil, or_false] at hu; subst hu; rfl
theorem u8_six (a b c d e f : Int) : ∀ u ∈ [Value.int .u8 a, .int .u8 b, .int .u8 c, .int .u8 d, .int .u8 e, .int .u8 f], u.oneCell' = true := by
  intro u hu; simp only [List.mem_cons, List.not_mem_nil, or_false] at hu; rcases hu with rfl | rfl | rfl | rfl | rfl | rfl <;> rfl
end Go.Proofs.Ytplfilghhgdffaa
