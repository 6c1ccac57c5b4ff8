/- Texts of this claim put together; each theorem states its conditions. -/
import Derived.WalkKit
import Derived.Laws.BitsAllLaws
import Derived.Laws.BitsLemmas
import Derived.Below
import Derived.Test.YtccoicjmmeoggaaDoorRows
import Derived.WalkLawsBesides
import Derived.WalkSpells
import Derived.IntWalk
import Derived.Outline
import Derived.Lib.Hide
import Derived.Maps.AppendAt
import Derived.Laws.AppendOwnNone
import Derived.OwnWalk
import Derived.LoopN
import Derived.RegionTactic
import Derived.ChangeAlike
import Derived.Deep.MidRow
import Derived.Deep.AppendLies
import Derived.Lib.SliceRun
import Derived.Laws.MakeOwn
import Derived.Laws.Shifts
import Derived.Laws.Tables
import Derived.Laws.Rows
import Derived.Laws.ResultCell
import Derived.Deep.RegionHeld3
import Derived.Stop.BytesEq
import Derived.Laws.IdiomStrings
import Derived.Laws.BytesArg
/- Plain facts about numbers, bytes and check bytes, without any program. Each theorem states its conditions. -/
namespace Go.Proofs.YtccoicjmmeoggaaDoor
open Go.RowKit
set_option linter.unusedVariables false

theorem ret_u32 {a b : Int} (h : a = b) : Ending.returned (.int .u32 a) = .returned (.int .u32 b) := by rw [h]
theorem ret_int {a b : Int} (h : a = b) : Ending.returned (.int .i64 a) = .returned (.int .i64 b) := by rw [h]
theorem ret_bool {a b : Bool} (h : a = b) : Ending.returned (.bool a) = .returned (.bool b) := by rw [h]

/-- the number of the bytes z(s), .., k of them -/
def numZ (z : Nat → Int) (s : Nat) : Nat → Int
  | 0 => 0
  | k + 1 => numZ z s k * 256 + z (s + k)

theorem numZ_lt (z : Nat → Int) (s k : Nat) (hz : ∀ j, 0 ≤ z j ∧ z j ≤ 255) : 0 ≤ numZ z s k ∧ numZ z s k < 256 ^ k := by
  induction k with
  | zero => simp [numZ]
  | succ k ih =>
    have := hz (s + k)
    simp only [numZ, Int.pow_succ]
    omega

theorem numZ_56 (z : Nat → Int) (s k : Nat) (hk : k ≤ 7) (hz : ∀ j, 0 ≤ z j ∧ z j ≤ 255) : 0 ≤ numZ z s k ∧ numZ z s k ≤ 72057594037927935 := by
  have h := numZ_lt z s k hz
  have : (256 : Int) ^ k ≤ 256 ^ 7 := by
    clear h
    rcases (by omega : k = 0 ∨ k = 1 ∨ k = 2 ∨ k = 3 ∨ k = 4 ∨ k = 5 ∨ k = 6 ∨ k = 7) with rfl | rfl | rfl | rfl | rfl | rfl | rfl | rfl <;> decide
  have e : (256 : Int) ^ 7 = 72057594037927936 := by decide
  omega

theorem shl_or (n b : Int) (h0 : 0 ≤ n) (h1 : n ≤ 72057594037927935) (hb : 0 ≤ b ∧ b ≤ 255) : bits .or .u64 (IntKind.u64.wrap (n * 256)) b = n * 256 + b := by
  have e : IntKind.u64.wrap (n * 256) = n * 256 := by rw [IntKind.wrap_u64]; omega
  rw [e, u64_or _ _ (by omega) (by omega) (by omega) (by omega), nat_join 8 _ _ (by omega) (by omega)]
  omega

theorem numZ_step (z : Nat → Int) (s k : Nat) (hk : k ≤ 7) (hz : ∀ j, 0 ≤ z j ∧ z j ≤ 255) :
    bits .or .u64 (IntKind.u64.wrap (numZ z s k * 256)) (z (s + k)) = numZ z s (k + 1) := by
  have h := numZ_56 z s k hk hz
  rw [shl_or _ _ h.1 h.2 (hz _)]; rfl

/-- the sum of the first k bytes, without the two at s and s + 1 -/
def sumA (z : Nat → Int) (s : Nat) : Nat → Int
  | 0 => 0
  | k + 1 => if k = s ∨ k = s + 1 then sumA z s k else sumA z s k + z k

/-- the same, each byte times how many stand from it on, of n -/
def sumB (z : Nat → Int) (s n : Nat) : Nat → Int
  | 0 => 0
  | k + 1 => if k = s ∨ k = s + 1 then sumB z s n k else sumB z s n k + z k * ((n : Int) - k)

theorem sumA_skip (z : Nat → Int) (s k : Nat) (h : k = s ∨ k = s + 1) : sumA z s (k + 1) = sumA z s k := by simp [sumA, h]
theorem sumA_take (z : Nat → Int) (s k : Nat) (h : ¬ (k = s ∨ k = s + 1)) : sumA z s (k + 1) = sumA z s k + z k := by simp [sumA, h]
theorem sumB_skip (z : Nat → Int) (s n k : Nat) (h : k = s ∨ k = s + 1) : sumB z s n (k + 1) = sumB z s n k := by simp [sumB, h]
theorem sumB_take (z : Nat → Int) (s n k : Nat) (h : ¬ (k = s ∨ k = s + 1)) : sumB z s n (k + 1) = sumB z s n k + z k * ((n : Int) - k) := by simp [sumB, h]
theorem sumA_bd (z : Nat → Int) (s k : Nat) (hz : ∀ j, 0 ≤ z j ∧ z j ≤ 255) : 0 ≤ sumA z s k ∧ sumA z s k ≤ 255 * k := by
  induction k with
  | zero => simp [sumA]
  | succ k ih =>
    have := hz k
    simp only [sumA]
    split <;> omega

theorem mul_bd (a b : Int) (c d : Int) (h0 : 0 ≤ a) (h1 : a ≤ c) (h2 : 0 ≤ b) (h3 : b ≤ d) : 0 ≤ a * b ∧ a * b ≤ c * d :=
  ⟨Int.mul_nonneg h0 h2, Int.mul_le_mul h1 h3 h2 (by omega)⟩

theorem sumB_bd (z : Nat → Int) (s n k : Nat) (hz : ∀ j, 0 ≤ z j ∧ z j ≤ 255) (hn : n ≤ 1492) (hk : k ≤ n) : 0 ≤ sumB z s n k ∧ sumB z s n k ≤ 380460 * k := by
  induction k with
  | zero => simp [sumB]
  | succ k ih =>
    have := hz k
    have h1 := mul_bd (z k) ((n : Int) - k) 255 1492 this.1 this.2 (by omega) (by omega)
    have := ih (by omega)
    simp only [sumB]
    split <;> omega

/-- the number from 1 to 255 that is n modulo 255 -/
def cbI (n : Int) : Int := (n - 1) % 255 + 1
theorem cbI_bd (n : Int) : 1 ≤ cbI n ∧ cbI n ≤ 255 := by unfold cbI; omega
theorem tmod_parts (n : Int) : ∃ q, n = 255 * q + n.tmod 255 ∧ -255 < n.tmod 255 ∧ n.tmod 255 < 255 :=
  ⟨n.tdiv 255, (Int.mul_tdiv_add_tmod n 255).symm, Int.lt_tmod_of_pos n (by omega), Int.tmod_lt_of_pos n (by omega)⟩
theorem tmod_bd (n : Int) : -255 < n.tmod 255 ∧ n.tmod 255 < 255 := ⟨Int.lt_tmod_of_pos n (by omega), Int.tmod_lt_of_pos n (by omega)⟩
theorem cbI_tmod_lo (n : Int) (h : n.tmod 255 ≤ 0) : n.tmod 255 + 255 = cbI n := by
  obtain ⟨q, h1, h2, h3⟩ := tmod_parts n
  generalize n.tmod 255 = r at *
  unfold cbI
  omega
theorem cbI_tmod_hi (n : Int) (h : 0 < n.tmod 255) : n.tmod 255 = cbI n := by
  obtain ⟨q, h1, h2, h3⟩ := tmod_parts n
  generalize n.tmod 255 = r at *
  unfold cbI
  omega

theorem u16_join' (x y : Int) (hx : 1 ≤ x ∧ x ≤ 255) (hy : 1 ≤ y ∧ y ≤ 255) : bits .or .u16 (x * 256) y = x * 256 + y := by
  rw [u16_or _ _ (by omega) (by omega) (by omega) (by omega), nat_join 8 _ _ (by omega) (by omega)]
  omega
theorem ret2_eq {a b : Value} (h : a = b) (c : Value) : Ending.returned (.tuple #[a, c]) = .returned (.tuple #[b, c]) := by rw [h]
theorem u16_eq {a b : Int} (h : a = b) : Value.int .u16 a = .int .u16 b := by rw [h]

/-- the two check bytes -/
def chkX (z : Nat → Int) (s n : Nat) : Int := cbI (sumA z s n * ((n : Int) - s - 1) - sumB z s n n)
def chkY (z : Nat → Int) (s n : Nat) : Int := cbI (- sumA z s n - chkX z s n)
def chk (z : Nat → Int) (s n : Nat) : Int := chkX z s n * 256 + chkY z s n

/-- what a walk is told of a slice of integers that came in: nil, or a row of cap cells, the numbers zs (the first len are its elements) -/
def IsRow (k : IntKind) (w : World) (a : Option Addr) (len cap : Nat) (zs : List Int) : Prop :=
  (a = none ∧ len = 0 ∧ cap = 0 ∧ zs = []) ∨
  ∃ x, a = some x ∧ len ≤ cap ∧ cap ≤ maxLen ∧ zs.length = cap ∧ (∀ i, i < zs.length → w.cell? (x.add i) = some (.int k (zs.getD i 0))) ∧ ∀ n ∈ zs, (Lit.int k n).wf = true

theorem wf_u8 {n : Int} (h : (Lit.int .u8 n).wf = true) : 0 ≤ n ∧ n ≤ 255 := by
  simp [Lit.wf, IntKind.min, IntKind.max, IntKind.bits, IntKind.signed] at h; omega
theorem wf_u16 {n : Int} (h : (Lit.int .u16 n).wf = true) : 0 ≤ n ∧ n ≤ 65535 := by
  simp [Lit.wf, IntKind.min, IntKind.max, IntKind.bits, IntKind.signed] at h; omega
theorem balloc {a w : World} (h : Below a.heap.size a w) (o : Obj) : Below a.heap.size a (w.alloc o) := h.alloc h.size o
theorem bself (w : World) : Below w.heap.size w w := Below.refl _ _

/-- a row of n bytes z(0), .. from ⟨b, off⟩ on -/
def Row8 (w : World) (b off n : Nat) (z : Nat → Int) : Prop :=
  b < w.heap.size ∧ (∀ j, j < n → w.cell? ⟨b, off + j, none⟩ = some (.int .u8 (z j))) ∧ ∀ j, 0 ≤ z j ∧ z j ≤ 255

theorem cell_lt {w : World} {p : Addr} {v : Value} (h : w.cell? p = some v) : p.block < w.heap.size := by
  rcases Nat.lt_or_ge p.block w.heap.size with hl | hg
  · exact hl
  · simp [World.cell?, Array.getElem?_eq_none hg] at h

theorem Row8.below {w w' : World} {b off n B : Nat} {z : Nat → Int} (h : Row8 w b off n z) (hb : Below B w w') (hB : b < B) : Row8 w' b off n z := by
  refine ⟨?_, fun j hj => (hb.cell (p := ⟨b, off + j, none⟩) hB).trans (h.2.1 j hj), h.2.2⟩
  have := hb.size
  have := h.1
  omega

theorem isRow_open {w : World} {a : Option Addr} {len cap : Nat} {zs : List Int} (h : IsRow .u8 w a len cap zs) (h0 : 0 < len) :
    ∃ b off, a = some ⟨b, off, none⟩ ∧ len ≤ cap ∧ cap ≤ maxLen ∧ Row8 w b off len (fun j => zs.getD j 0) := by
  rcases h with ⟨_, hl, _⟩ | ⟨x, rfl, hlc, hm, hz, hc, hwf⟩
  · omega
  · obtain ⟨b, off, spot⟩ := x
    have hc0 := hc 0 (by omega)
    have hs : spot = none := by simpa [Addr.add] using World.cell?_spot hc0
    subst hs
    have hadd : ∀ j, (⟨b, off, none⟩ : Addr).add j = ⟨b, off + j, none⟩ := fun j => by unfold Addr.add; split <;> simp_all
    refine ⟨b, off, rfl, hlc, hm, ?_, fun j hj => ?_, fun j => ?_⟩
    · have := cell_lt hc0
      simpa [hadd] using this
    · rw [← hadd]; exact hc j (by omega)
    · rcases Nat.lt_or_ge j zs.length with hj | hj
      · have := hwf zs[j] (by simp)
        have := wf_u8 this
        simpa [List.getD, List.getElem?_eq_getElem hj] using this
      · simp [List.getD, List.getElem?_eq_none hj]

theorem isRow_len {w : World} {k : IntKind} {a : Option Addr} {len cap : Nat} {zs : List Int} (h : IsRow k w a len cap zs) : len ≤ cap ∧ cap ≤ maxLen := by
  rcases h with ⟨_, rfl, rfl, _⟩ | ⟨x, rfl, hlc, hm, hz, hc, hwf⟩
  · simp
  · exact ⟨hlc, hm⟩

end Go.Proofs.YtccoicjmmeoggaaDoor

/- Rows of bytes that a call reads or makes: what is known of them, and what becomes of it. Twin answers a row of its own. Each theorem states its conditions. -/
namespace Go.Proofs.YtccoicjmmeoggaaDoor
open Go.RowKit
set_option linter.unusedVariables false

/-- block g is a row of bytes of the call's own: cap cells, the first n are z(0), .. -/
def Own8 (w : World) (g n cap : Nat) (z : Nat → Int) : Prop :=
  (∃ cur : Array Value, w.heap[g]? = some (.cells cur 5 (0, 0)) ∧ n ≤ cap ∧ cap ≤ maxLen ∧ cur.size = cap ∧ ∀ j, j < n → cur[j]? = some (.int .u8 (z j))) ∧ ∀ j, 0 ≤ z j ∧ z j ≤ 255

/-- bytes that can be read: none, or a row -/
def Rd (w : World) (A : Option Addr) (n : Nat) (z : Nat → Int) : Prop :=
  (n = 0 ∨ ∃ b off, A = some ⟨b, off, none⟩ ∧ Row8 w b off n z) ∧ ∀ j, 0 ≤ z j ∧ z j ≤ 255

section
variable {w w' : World} {g n cap b off : Nat} {z : Nat → Int} {A : Option Addr}

theorem Own8.lt (h : Own8 w g n cap z) : g < w.heap.size := by
  obtain ⟨⟨cur, hg, _⟩, _⟩ := h
  exact (Array.getElem?_eq_some_iff.1 hg).1
theorem Own8.row (h : Own8 w g n cap z) : Row8 w g 0 n z := by
  refine ⟨h.lt, fun j hj => ?_, h.2⟩
  obtain ⟨⟨cur, hg, _, _, _, hc⟩, _⟩ := h
  rw [Nat.zero_add, cell_of_row w g j cur 5 (0, 0) hg]
  exact hc j hj
theorem Own8.caps (h : Own8 w g n cap z) : n ≤ cap ∧ cap ≤ maxLen := by
  obtain ⟨⟨cur, hg, h1, h2, _⟩, _⟩ := h
  exact ⟨h1, h2⟩
theorem Own8.free (h : Own8 w g n cap z) (j : Nat) : w.frozen? ⟨g, j, none⟩ = false := by
  obtain ⟨⟨cur, hg, _⟩, _⟩ := h
  simp [World.frozen?, hg]
theorem Own8.block (h : Own8 w g n cap z) (hb : w'.heap[g]? = w.heap[g]?) : Own8 w' g n cap z := by
  obtain ⟨⟨cur, hg, h1⟩, h2⟩ := h
  exact ⟨⟨cur, hb.trans hg, h1⟩, h2⟩
theorem Own8.below {B : Nat} (h : Own8 w g n cap z) (hb : Below B w w') (hB : g < B) : Own8 w' g n cap z := h.block (hb.block g hB)
theorem Own8.grown {row : Option Nat} (h : Own8 w g n cap z) (hb : w.grownBy w' row) (hne : some g ≠ row) : Own8 w' g n cap z := h.block (hb.block g h.lt hne)
theorem Own8.alloc (h : Own8 w g n cap z) (o : Obj) : Own8 (w.alloc o) g n cap z := h.block (Below.heap_alloc w o g h.lt)
theorem Own8.far (h : Own8 w g n cap z) {p : Addr} (hp : g ≠ p.block) (u : Value) : Own8 (w.setCell p u) g n cap z := h.block (Below.heap_setCell w p u g hp)
/-- a byte is written -/
def upd (z : Nat → Int) (k : Nat) (v : Int) : Nat → Int := fun j => if j = k then v else z j
theorem upd_same (z : Nat → Int) (k : Nat) (v : Int) : upd z k v k = v := by simp [upd]
theorem upd_other (z : Nat → Int) (k j : Nat) (v : Int) (h : j ≠ k) : upd z k v j = z j := by simp [upd, h]
theorem upd_bd (hz : ∀ j, 0 ≤ z j ∧ z j ≤ 255) (k : Nat) (v : Int) (hv : 0 ≤ v ∧ v ≤ 255) : ∀ j, 0 ≤ upd z k v j ∧ upd z k v j ≤ 255 := by
  intro j; unfold upd; split; exact hv; exact hz j
theorem Own8.put (h : Own8 w g n cap z) (k : Nat) (hk : k < n) (v : Int) (hv : 0 ≤ v ∧ v ≤ 255) : Own8 (w.setCell ⟨g, k, none⟩ (.int .u8 v)) g n cap (upd z k v) := by
  obtain ⟨⟨cur, hg, h1, h2, h3, h4⟩, h5⟩ := h
  refine ⟨⟨cur.setIfInBounds k (.int .u8 v), ?_, h1, h2, by simpa using h3, fun j hj => ?_⟩, upd_bd h5 k v hv⟩
  · simp [World.setCell, Array.getElem?_modify, hg]
  · rw [Array.getElem?_setIfInBounds]
    by_cases e : k = j
    · subst e
      rw [if_pos rfl, if_pos (by omega), upd_same]
    · rw [if_neg e, upd_other z k j v (fun x => e x.symm)]
      exact h4 j hj
theorem Own8.cut (h : Own8 w g n cap z) (m : Nat) (hm : m ≤ n) : Own8 w g m cap z := by
  obtain ⟨⟨cur, hg, h1, h2, h3, h4⟩, h5⟩ := h
  exact ⟨⟨cur, hg, by omega, h2, h3, fun j hj => h4 j (by omega)⟩, h5⟩
theorem own_at (h : Own8 w g n cap z) (j : Nat) (hj : j < n) : w.cell? ⟨g, j, none⟩ = some (.int .u8 (z j)) := by
  have := h.row.2.1 j hj
  rwa [Nat.zero_add] at this
theorem Own8.rd (h : Own8 w g n cap z) : Rd w (some ⟨g, 0, none⟩) n z := ⟨.inr ⟨g, 0, rfl, h.row⟩, h.2⟩

theorem Rd.below {B : Nat} (h : Rd w A n z) (hb : Below B w w') (hB : B = w.heap.size) : Rd w' A n z := by
  refine ⟨?_, h.2⟩
  rcases h.1 with h0 | ⟨b, off, rfl, hr⟩
  · exact .inl h0
  · exact .inr ⟨b, off, rfl, hr.below hb (by have := hr.1; omega)⟩
theorem Rd.cut (h : Rd w A n z) (m : Nat) (hm : m ≤ n) : Rd w A m z := by
  refine ⟨?_, h.2⟩
  rcases h.1 with h0 | ⟨b, off, rfl, hr⟩
  · exact .inl (by omega)
  · exact .inr ⟨b, off, rfl, hr.1, fun j hj => hr.2.1 j (by omega), hr.2.2⟩
theorem Rd.row (h : Rd w A n z) (hn : 0 < n) : ∃ b off, A = some ⟨b, off, none⟩ ∧ Row8 w b off n z := by
  rcases h.1 with h0 | h1
  · omega
  · exact h1

theorem isRow_rd {len : Nat} {zs : List Int} (h : IsRow .u8 w A len cap zs) : Rd w A len (fun j => zs.getD j 0) ∧ (A = none → len = 0 ∧ cap = 0) := by
  rcases Nat.eq_zero_or_pos len with h0 | h0
  · refine ⟨⟨.inl h0, fun j => ?_⟩, fun hA => ?_⟩
    · rcases h with ⟨rfl, _, _, rfl⟩ | ⟨x, rfl, hlc, hm, hz, hc, hwf⟩
      · simp
      · rcases Nat.lt_or_ge j zs.length with hj | hj
        · have := wf_u8 (hwf zs[j] (by simp))
          simpa [List.getD, List.getElem?_eq_getElem hj] using this
        · simp [List.getD, List.getElem?_eq_none hj]
    · rcases h with ⟨rfl, h1, h2, rfl⟩ | ⟨x, rfl, _⟩
      · exact ⟨h1, h2⟩
      · cases hA
  · obtain ⟨b, off, rfl, _, _, hr⟩ := isRow_open h h0
    exact ⟨⟨.inr ⟨b, off, rfl, hr⟩, hr.2.2⟩, fun hA => by cases hA⟩
end

/-- the bytes as a list of values -/
def vals (z : Nat → Int) (n : Nat) : List Value := (List.range n).map fun j => .int .u8 (z j)
theorem vals_len (z : Nat → Int) (n : Nat) : (vals z n).length = n := by simp [vals]
theorem vals_at (z : Nat → Int) (n j : Nat) (h : j < n) : (vals z n)[j]? = some (.int .u8 (z j)) := by simp [vals, h]
theorem vals_at' (z : Nat → Int) (n j : Nat) (u : Value) (h : (vals z n)[j]? = some u) : j < n ∧ u = .int .u8 (z j) := by
  have hj : j < n := by
    rcases Nat.lt_or_ge j n with hl | hg
    · exact hl
    · rw [List.getElem?_eq_none (by simpa [vals] using hg)] at h; cases h
  rw [vals_at z n j hj] at h
  exact ⟨hj, by cases h; rfl⟩
theorem vals_one (z : Nat → Int) (n : Nat) : ∀ u ∈ vals z n, u.oneCell' = true := by
  intro u hu
  simp only [vals, List.mem_map] at hu
  obtain ⟨j, _, rfl⟩ := hu
  rfl

theorem own_of {w : World} {base n : Nat} {v : Value} {xs : List Value} {z : Nat → Int} (h : w.ownsRow base 5 1 v n xs) (hxs : xs = vals z n) (hv : v ≠ .slice none 0 0) (hz : ∀ j, 0 ≤ z j ∧ z j ≤ 255) :
    ∃ g cap, v = .slice (some ⟨g, 0, none⟩) n cap ∧ base ≤ g ∧ Own8 w g n cap z := by
  subst hxs
  rcases h.2 with ⟨hv', _⟩ | ⟨g, cap, cur, rfl, hb, hg, h1, h2, h3, h4⟩
  · exact (hv hv').elim
  · refine ⟨g, cap, rfl, hb, ⟨cur, hg, h1, h2, by omega, fun j hj => ?_⟩, hz⟩
    have := vals_at z n j hj
    rw [← h4, List.getElem?_take, if_pos (by omega)] at this
    simpa using this

theorem info_u8 : (Tryd.prog.info? 5).map (fun i => (i.zero, i.size, i.bytes)) = some (some (.int .u8 0), 1, 1) := by kernel_rfl

/-- what Twin leaves -/
def TwinPost (w : World) (n : Nat) (z : Nat → Int) (e : Ending) (w' : World) : Prop :=
  ∃ g cap, e = .returned (.slice (some ⟨g, 0, none⟩) n cap) ∧ w.heap.size ≤ g ∧ Own8 w' g n cap z ∧ Below w.heap.size w w'

theorem rd_news {w : World} {n : Nat} {z : Nat → Int} {ad : Addr} (h : Rd w (some ad) n z) (o : Obj) : ∀ j u, (vals z n)[j]? = some u → (w.alloc o).cell? (ad.add j) = some u := by
  intro j u hu
  obtain ⟨hj, rfl⟩ := vals_at' z n j u hu
  obtain ⟨b, off, e, hr⟩ := h.row (by omega)
  injection e with e
  subst e
  have hadd : (⟨b, off, none⟩ : Addr).add j = ⟨b, off + j, none⟩ := by unfold Addr.add; split <;> simp_all
  rw [hadd, World.cell?_alloc_lt w o _ hr.1]
  exact hr.2.1 j hj

theorem twin_any (A : Option Addr) (n c : Nat) (z : Nat → Int) (w : World) (h : Rd w A n z) (hA : A = none → n = 0 ∧ c = 0) (hn : n ≤ 140737488351232) :
    Calls Tryd.prog 27 #[.slice A n c] w (TwinPost w n z) := by
  obtain ⟨i0, hi, hz0, hz1, hz2⟩ := info_parts info_u8
  have hm : (0 : Nat) ≤ maxLen := by decide
  have hown := World.ownsRow_made (e := 5) (size := 1) (base := w.heap.size) w #[] 0 (Nat.le_refl _) hm rfl
  rcases A with _ | ⟨b, off, spot⟩
  · obtain ⟨rfl, rfl⟩ := hA rfl
    go_enter Tryd.func27, Tryd.ntmps27
    go_wp2_with (at_builtin; refine wpList_append_own_none rfl (.tmp 3) (.tmp 4) 22 rfl w.heap.size 5 i0 1 Tryd.underlying22 hi _ 0 [] rfl hown rfl ?_)
    go_ret
    refine ⟨w.heap.size, 0, rfl, Nat.le_refl _, ⟨⟨#[], heap_alloc_new w _, Nat.le_refl _, hm, rfl, fun j hj => by omega⟩, h.2⟩, (Below.refl _ _).alloc (Nat.le_refl _) _⟩
  · have hnews : ∀ j u, (vals z n)[j]? = some u → (w.alloc (.cells #[] 5)).cell? ((⟨b, off, spot⟩ : Addr).add j) = some u := rd_news h _
    have h1 := vals_one z n
    have hl := vals_len z n
    go_enter Tryd.func27, Tryd.ntmps27
    go_wp2_with (at_builtin; refine wpList_append_own_at _ rfl (.tmp 3) (.tmp 4) 22 rfl w.heap.size 5 i0 (.int .u8 0) 1 1 Tryd.underlying22 hi hz0 hz1 hz2 rfl (by decide) _ 0 [] rfl hown ⟨b, off, spot⟩ n c (vals z n) rfl (by omega) hnews h1 ?c3 ?c4 ?c5 ?_)
    case c3 => unfold maxLen; omega
    case c4 => omega
    case c5 => simp
    intro v' w1 hown1 hgrow hnil hat
    go_wp2
    go_ret
    obtain ⟨g, cap, rfl, hg, ho⟩ := own_of (by simpa using hown1) (by simp) hnil h.2
    have hb : Below w.heap.size w w1 := ((Below.refl _ _).alloc (Nat.le_refl _) _).grown hgrow (by simp) (by simp [Value.ownBlock])
    exact ⟨g, cap, rfl, hg, ho, hb⟩
end Go.Proofs.YtccoicjmmeoggaaDoor

/- Spare answers a copy with marked room behind it; SameBytes and Kept answer true where nothing was turned. Each theorem states its conditions. -/
namespace Go.Proofs.YtccoicjmmeoggaaDoor
open Go.RowKit
set_option linter.unusedVariables false

/-- the bytes with the marks behind them -/
def spZ (z : Nat → Int) (n : Nat) : Nat → Int := fun j => if j < n then z j else if j = n + 1 then 90 else 165
theorem spZ_in (z : Nat → Int) (n j : Nat) (h : j < n) : spZ z n j = z j := by simp [spZ, h]
theorem spZ_bd (z : Nat → Int) (n : Nat) (hz : ∀ j, 0 ≤ z j ∧ z j ≤ 255) : ∀ j, 0 ≤ spZ z n j ∧ spZ z n j ≤ 255 := by
  intro j; unfold spZ; split
  · exact hz j
  · split <;> omega
theorem spZ_vals (z : Nat → Int) (n : Nat) : vals z n ++ [.int .u8 165, .int .u8 90, .int .u8 165] = vals (spZ z n) (n + 3) := by
  apply List.ext_getElem
  · simp [vals]
  · intro i h1 h2
    have hi : i < n + 3 := by simpa [vals] using h2
    by_cases h : i < n
    · simp [vals, h, spZ]
    · rcases (by omega : i = n ∨ i = n + 1 ∨ i = n + 2) with rfl | rfl | rfl <;> simp [vals, spZ] <;> omega

def SparePost (w : World) (n : Nat) (z : Nat → Int) (e : Ending) (w' : World) : Prop :=
  ∃ g cap, e = .returned (.tuple #[.slice (some ⟨g, 0, none⟩) n cap, .slice (some ⟨g, 0, none⟩) (n + 3) cap]) ∧ w.heap.size ≤ g ∧ Own8 w' g (n + 3) cap (spZ z n) ∧ Below w.heap.size w w'

theorem three_new (w : World) (a b c : Value) (t : TypeId) : ∀ j u, [a, b, c][j]? = some u → (w.alloc (.cells #[a, b, c] t)).cell? ((⟨w.heap.size, 0, none⟩ : Addr).add j) = some u := by
  intro j u hj
  match j, hj with
  | 0, hj => simp at hj; subst hj; simp [Addr.add]
  | 1, hj => simp at hj; subst hj; simp [Addr.add]
  | 2, hj => simp at hj; subst hj; simp [Addr.add]

theorem spare_any (A : Option Addr) (n c : Nat) (z : Nat → Int) (w : World) (h : Rd w A n z) (hA : A = none → n = 0 ∧ c = 0) (hn : n ≤ 140737488351232) :
    Calls Tryd.prog 10 #[.slice A n c] w (SparePost w n z) := by
  obtain ⟨i0, hi, hz0, hz1, hz2⟩ := info_parts info_u8
  have hm : (0 : Nat) ≤ maxLen := by decide
  have hown := World.ownsRow_made (e := 5) (size := 1) (base := w.heap.size) w #[] 0 (Nat.le_refl _) hm rfl
  have hn3 : ∀ W : World, ∀ j u, [Value.int .u8 165, Value.int .u8 90, Value.int .u8 165][j]? = some u → (W.alloc (.cells #[.int .u8 165, .int .u8 90, .int .u8 165] 5)).cell? ((⟨W.heap.size, 0, none⟩ : Addr).add j) = some u := fun W => three_new W _ _ _ _
  have ho3 : ∀ u ∈ [Value.int .u8 165, Value.int .u8 90, Value.int .u8 165], u.oneCell' = true := by intro u hu; simp only [List.mem_cons, List.not_mem_nil, or_false] at hu; rcases hu with rfl | rfl | rfl <;> rfl
  have H3 := Lib.hid hn3
  have HO := Lib.hid ho3
  clear hn3 ho3
  have hzz := Lib.hid h.2
  rcases A with _ | ⟨b, off, spot⟩
  · obtain ⟨rfl, rfl⟩ := hA rfl
    clear h hA
    have hown2 : (w.alloc (.cells #[] 5)).ownsRow w.heap.size 5 1 (.slice (some ⟨w.heap.size, 0, none⟩) 0 0) 0 (vals z 0) := hown
    go_enter Tryd.func10, Tryd.ntmps10
    go_wp2_with (first | (at_builtin; refine wpList_append_own_none rfl (.tmp 5) (.tmp 6) 22 rfl w.heap.size 5 i0 1 Tryd.underlying22 hi _ 0 [] rfl hown rfl ?_) | (at_builtin; (refine wpList_append_own_at _ rfl (.tmp 7) (.tmp 8) 22 rfl w.heap.size 5 i0 (.int .u8 0) 1 1 Tryd.underlying22 hi hz0 hz1 hz2 rfl (by decide) (.slice (some ⟨w.heap.size, 0, none⟩) 0 0) 0 (vals z 0) rfl (hown2.alloc _) ⟨w.heap.size + 1, 0, none⟩ 3 3 [Value.int .u8 165, Value.int .u8 90, Value.int .u8 165] rfl rfl ?c2 HO.out ?c3 ?c4 ?c5 ?_)))
    case c2 =>
      have hh := H3.out (w.alloc (.cells #[] 5))
      simp only [World.size_alloc] at hh
      exact hh
    case c3 => decide
    case c4 => decide
    case c5 => simp; omega
    intro v' w1 hown1 hgrow hnil hat
    have hv : v' ≠ .slice none 0 0 := fun e => by simp [e] at hnil
    obtain ⟨g, cap, rfl, hg, ho⟩ := own_of (n := 3) hown1 (spZ_vals z 0) hv (spZ_bd z 0 hzz.out)
    have hcap := ho.caps
    have hb : Below w.heap.size w w1 := (balloc (balloc (bself w) _) _).grown hgrow (by simp; omega) (by simp [Value.ownBlock])
    unfold maxLen at hcap
    clear hown hown2 hown1 hgrow hnil hat hv
    go_wp2
    go_ret2
    exact ⟨g, cap, rfl, hg, ho, hb⟩
  · have hnews : ∀ j u, (vals z n)[j]? = some u → (w.alloc (.cells #[] 5)).cell? ((⟨b, off, spot⟩ : Addr).add j) = some u := rd_news h _
    have h1 := vals_one z n
    have hl' : (vals z n).length = n * 1 := by rw [vals_len]; omega
    have hd3 : 0 + n ≤ maxLen := by unfold maxLen; omega
    have hd4 : (0 + n) * 1 ≤ 140737488355328 := by omega
    have hd5 : w.heap.size ≤ (w.alloc (.cells #[] 5)).heap.size := by simp
    have HL := Lib.hid hl'
    clear h hA hl'
    go_enter Tryd.func10, Tryd.ntmps10
    go_wp2_with (first | (at_builtin; refine wpList_append_own_at _ rfl (.tmp 5) (.tmp 6) 22 rfl w.heap.size 5 i0 (.int .u8 0) 1 1 Tryd.underlying22 hi hz0 hz1 hz2 rfl (by decide) (.slice (some ⟨w.heap.size, 0, none⟩) 0 0) 0 [] rfl hown ⟨b, off, spot⟩ n c (vals z n) rfl HL.out hnews h1 hd3 hd4 hd5 ?_; intro v1 w1 hown1 hgrow1 hnil1 hat1) | (at_builtin; refine wpList_append_own_at _ rfl (.tmp 7) (.tmp 8) 22 rfl w.heap.size 5 i0 (.int .u8 0) 1 1 Tryd.underlying22 hi hz0 hz1 hz2 rfl (by decide) v1 (0 + n) ([] ++ vals z n) rfl (hown1.alloc _) ⟨w1.heap.size, 0, none⟩ 3 3 [Value.int .u8 165, Value.int .u8 90, Value.int .u8 165] rfl rfl ?c2 HO.out ?c3 ?c4 ?c5 ?_))
    case c2 => exact H3.out w1
    case c3 => unfold maxLen; omega
    case c4 => omega
    case c5 => have := hgrow1.size; simp at this ⊢; omega
    have hb1 : Below w.heap.size w w1 := (balloc (bself w) _).grown hgrow1 hd5 (by simp [Value.ownBlock])
    have hv1 : v1.ownBlock = some w.heap.size ∨ v1.ownBlock = some (w.heap.size + 1) := by simpa [Value.ownBlock] using hat1
    intro v' w2 hown2 hgrow2 hnil2 hat2
    have hv : v' ≠ .slice none 0 0 := hnil2
    obtain ⟨g, cap, rfl, hg, ho⟩ := own_of hown2 (spZ_vals z n) hv (spZ_bd z n hzz.out)
    have hcap := ho.caps
    have hb : Below w.heap.size w w2 := (balloc hb1 _).grown hgrow2 (by have := hb1.size; simp; omega) (by rintro k hk; rcases hv1 with e | e <;> rw [e] at hk <;> injection hk with hk <;> omega)
    unfold maxLen at hcap
    clear hown hown1 hown2 hgrow1 hgrow2 hnil1 hnil2 hat1 hat2 hv hv1 hnews h1
    go_wp2
    go_ret2
    exact ⟨g, cap, rfl, hg, ho, hb⟩

theorem same_yes (A B : Option Addr) (n c d : Nat) (z z' : Nat → Int) (w : World) (ha : Rd w A n z) (hb : Rd w B n z') (he : ∀ j, j < n → z j = z' j) (hm : n ≤ 9223372036854775807) :
    Calls Tryd.prog 20 #[.slice A n c, .slice B n d] w fun e w' => e = .returned (.bool true) ∧ ∃ m, w' = w.drewN m := by
  rcases Nat.eq_zero_or_pos n with rfl | hn
  · clear ha hb he
    go_enter Tryd.func20, Tryd.ntmps20
    go_wp2
    refine wp_loop_rounds 1 ?_
    rw [rounds_succ]
    go_wp2
    go_ret
    exact ⟨rfl, 0, rfl⟩
  · obtain ⟨b, off, rfl, hr⟩ := ha.row hn
    obtain ⟨b', off', rfl, hr'⟩ := hb.row hn
    have hc := hr.2.1
    have hc' := hr'.2.1
    have HE := Lib.hid he
    clear ha hb hr hr' he
    go_enter Tryd.func20, Tryd.ntmps20
    go_wp2
    go_loopw [13] (fun t wr => ∃ k m : Nat, k ≤ n ∧ t = .int .i64 k ∧ wr = w.drewN m) (fun t _ => n - (intOf t).toNat)
    case atStart => exact ⟨0, 0, by omega, rfl, rfl⟩
    case round =>
      obtain ⟨k, m, hk, rfl, rfl⟩ := hrel
      by_cases hlt : k < n
      · have g1 := hc k hlt
        have g2 := hc' k hlt
        rw [← HE.out k hlt] at g2
        generalize z k = v at *
        clear hc hc'
        go_wp2
        go_region
        go_wp2
        go_roundw
        case rel => exact ⟨k + 1, m + 1, by omega, by go_num, rfl⟩
        case measure => simp [intOf]; omega
      · obtain rfl : k = n := by omega
        go_wp2
        go_ret
        exact ⟨rfl, m, rfl⟩

theorem kept_yes (g n cap : Nat) (A : Option Addr) (c : Nat) (z : Nat → Int) (w : World) (ho : Own8 w g (n + 3) cap (spZ z n)) (ha : Rd w A n z) (hm : n ≤ 140737488351232) :
    Calls Tryd.prog 14 #[.slice (some ⟨g, 0, none⟩) (n + 3) cap, .slice A n c] w fun e w' => e = .returned (.bool true) ∧ ∃ m, w' = w.drewN m := by
  have HS := Lib.hid (fun d => same_yes (some ⟨g, 0, none⟩) A n d c (spZ z n) z w (ho.rd.cut n (by omega)) ha (fun j hj => spZ_in z n j hj) (by omega))
  have c0 := ho.row.2.1 n (by omega)
  have c1 := ho.row.2.1 (n + 1) (by omega)
  have c2 := ho.row.2.1 (n + 2) (by omega)
  have hcap := ho.caps
  rw [Nat.zero_add, show spZ z n n = 165 by simp [spZ]] at c0
  rw [Nat.zero_add, show spZ z n (n + 1) = 90 by simp [spZ]; omega] at c1
  rw [Nat.zero_add, show spZ z n (n + 2) = 165 by simp [spZ]; omega] at c2
  unfold maxLen at hcap
  clear ho ha
  go_enter Tryd.func14, Tryd.ntmps14
  go_wp2_with fail
  refine (HS.out _).mono ?_
  rintro e w' ⟨rfl, m, rfl⟩
  go_wp2
  go_ret
  exact ⟨rfl, m, rfl⟩
end Go.Proofs.YtccoicjmmeoggaaDoor

/- Lists of records, s cells each, that a call reads or makes; bytes that a call appends to. Each theorem states its conditions. -/
namespace Go.Proofs.YtccoicjmmeoggaaDoor
open Go.RowKit
set_option linter.unusedVariables false

/-- m records of s cells from ⟨b, off⟩ on -/
def RowR (w : World) (b off m s : Nat) (C : Nat → Array Value) : Prop := b < w.heap.size ∧ ∀ j, j < m → w.rangeAt b (off + j * s) (C j).toList
def RdR (w : World) (A : Option Addr) (m s : Nat) (C : Nat → Array Value) : Prop := m = 0 ∨ ∃ b off, A = some ⟨b, off, none⟩ ∧ RowR w b off m s C
/-- the cells of the first m -/
def cellsR (C : Nat → Array Value) : Nat → List Value
  | 0 => []
  | m + 1 => cellsR C m ++ (C m).toList
/-- records of s cells, one value each -/
def Recs (s : Nat) (C : Nat → Array Value) : Prop := ∀ j, (C j).size = s ∧ ∀ u ∈ (C j).toList, u.oneCell' = true

theorem add_none (b off j : Nat) : (⟨b, off, none⟩ : Addr).add j = ⟨b, off + j, none⟩ := by unfold Addr.add; split <;> simp_all
theorem rangeAt_below {w w' : World} {b o B : Nat} {cs : List Value} (h : w.rangeAt b o cs) (hb : Below B w w') (hB : b < B) : w'.rangeAt b o cs :=
  fun j v hv => (hb.cell (p := ⟨b, o + j, none⟩) hB).trans (h j v hv)
theorem RowR.below {w w' : World} {b off m s B : Nat} {C : Nat → Array Value} (h : RowR w b off m s C) (hb : Below B w w') (hB : b < B) : RowR w' b off m s C :=
  ⟨by have := hb.size; have := h.1; omega, fun j hj => rangeAt_below (h.2 j hj) hb hB⟩
theorem RdR.below {w w' : World} {A : Option Addr} {m s B : Nat} {C : Nat → Array Value} (h : RdR w A m s C) (hb : Below B w w') (hB : B = w.heap.size) : RdR w' A m s C := by
  rcases h with h | ⟨b, off, rfl, h⟩
  · exact .inl h
  · exact .inr ⟨b, off, rfl, h.below hb (by have := h.1; omega)⟩
theorem RdR.row {w : World} {A : Option Addr} {m s : Nat} {C : Nat → Array Value} (h : RdR w A m s C) (hm : 0 < m) : ∃ b off, A = some ⟨b, off, none⟩ ∧ RowR w b off m s C := by
  rcases h with h | h
  · omega
  · exact h
theorem RdR.cut {w : World} {A : Option Addr} {m s : Nat} {C : Nat → Array Value} (h : RdR w A m s C) (n : Nat) (hn : n ≤ m) : RdR w A n s C := by
  rcases h with h | ⟨b, off, rfl, h⟩
  · exact .inl (by omega)
  · exact .inr ⟨b, off, rfl, h.1, fun j hj => h.2 j (by omega)⟩
theorem RdR.congr {w : World} {A : Option Addr} {m s : Nat} {C C' : Nat → Array Value} (h : RdR w A m s C) (hc : ∀ j, j < m → C j = C' j) : RdR w A m s C' := by
  rcases h with h | ⟨b, off, rfl, h⟩
  · exact .inl h
  · exact .inr ⟨b, off, rfl, h.1, fun j hj => by rw [← hc j hj]; exact h.2 j hj⟩

theorem cellsR_len {s : Nat} {C : Nat → Array Value} (hC : Recs s C) (m : Nat) : (cellsR C m).length = m * s := by
  induction m with
  | zero => simp [cellsR]
  | succ m ih => simp only [cellsR, List.length_append, ih, Array.length_toList, (hC m).1, Nat.succ_mul]
theorem cellsR_at {s : Nat} {C : Nat → Array Value} (hC : Recs s C) (m j i : Nat) (hj : j < m) (hi : i < s) : (cellsR C m)[j * s + i]? = (C j)[i]? := by
  induction m with
  | zero => omega
  | succ m ih =>
    have hl := cellsR_len hC m
    simp only [cellsR]
    by_cases e : j = m
    · subst e
      rw [List.getElem?_append_right (by omega), hl, Nat.add_sub_cancel_left]
      simp
    · have : j * s + s ≤ m * s := by
        have := Nat.mul_le_mul_right s (show j + 1 ≤ m by omega)
        rwa [Nat.succ_mul] at this
      rw [List.getElem?_append_left (by omega)]
      exact ih (by omega)
theorem cellsR_congr {C C' : Nat → Array Value} (m : Nat) (h : ∀ j, j < m → C j = C' j) : cellsR C m = cellsR C' m := by
  induction m with
  | zero => rfl
  | succ m ih => simp only [cellsR, h m (by omega)]; rw [ih fun j hj => h j (by omega)]
theorem ownR_shape {w : World} {base s m : Nat} {e : TypeId} {v : Value} {C : Nat → Array Value} (hC : Recs s C) (hs : 0 < s) (h : w.ownsRow base e s v m (cellsR C m)) :
    ∃ A c, v = .slice A m c ∧ m ≤ c ∧ c ≤ maxLen ∧ (A = none → m = 0 ∧ c = 0) ∧ RdR w A m s C := by
  rcases h.2 with ⟨rfl, rfl⟩ | ⟨g, cap, cur, rfl, hb, hc, h1, h2, h3, h4⟩
  · exact ⟨none, 0, rfl, Nat.le_refl _, by decide, fun _ => ⟨rfl, rfl⟩, .inl rfl⟩
  · refine ⟨some ⟨g, 0, none⟩, cap, rfl, h1, h2, fun e => (by cases e), .inr ⟨g, 0, rfl, (Array.getElem?_eq_some_iff.1 hc).1, fun j hj i u hu => ?_⟩⟩
    have hi : i < s := by
      rcases Nat.lt_or_ge i s with h | h
      · exact h
      · rw [List.getElem?_eq_none (by rw [Array.length_toList, (hC j).1]; exact h)] at hu; cases hu
    have hx := cellsR_at hC m j i hj hi
    have hlt : j * s + i < m * s := by
      have := Nat.mul_le_mul_right s (show j + 1 ≤ m by omega)
      rw [Nat.succ_mul] at this; omega
    rw [← h4, List.getElem?_take, if_pos hlt] at hx
    rw [Nat.zero_add, cell_of_row w g _ cur _ (0, 0) hc]
    rw [Array.getElem?_toList] at hx hu
    exact hx.trans hu
theorem ownsRow_below' {w w' : World} {base s m : Nat} {e : TypeId} {v : Value} {xs : List Value} (h : w.ownsRow base e s v m xs) (hb : Below w.heap.size w w') : w'.ownsRow base e s v m xs := by
  refine ⟨h.1, ?_⟩
  rcases h.2 with h | ⟨g, cap, cur, hv, hg, hc, r⟩
  · exact .inl h
  · exact .inr ⟨g, cap, cur, hv, hg, (hb.block g (Array.getElem?_eq_some_iff.1 hc).1).trans hc, r⟩
theorem ownsRow_mono {w : World} {base base' s m : Nat} {e : TypeId} {v : Value} {xs : List Value} (h : w.ownsRow base e s v m xs) (hb : base' ≤ base) : w.ownsRow base' e s v m xs := by
  refine ⟨h.1, ?_⟩
  rcases h.2 with h | ⟨g, cap, cur, hv, hg, r⟩
  · exact .inl h
  · exact .inr ⟨g, cap, cur, hv, by omega, r⟩

/-- bytes of the call's own: none yet, or a row that it made -/
def OwnB (w : World) (base : Nat) (v : Value) (n : Nat) (z : Nat → Int) : Prop := w.ownsRow base 5 1 v n (vals z n) ∧ ∀ j, 0 ≤ z j ∧ z j ≤ 255
theorem OwnB.nil (w : World) (base : Nat) {z : Nat → Int} (hz : ∀ j, 0 ≤ z j ∧ z j ≤ 255) : OwnB w base (.slice none 0 0) 0 z := ⟨World.ownsRow_nil _ _ _ _, hz⟩
theorem OwnB.below {w w' : World} {base n : Nat} {v : Value} {z : Nat → Int} (h : OwnB w base v n z) (hb : Below w.heap.size w w') : OwnB w' base v n z := ⟨ownsRow_below' h.1 hb, h.2⟩
theorem OwnB.shape {w : World} {base n : Nat} {v : Value} {z : Nat → Int} (h : OwnB w base v n z) : ∃ A c, v = .slice A n c ∧ n ≤ c ∧ c ≤ maxLen ∧ (A = none → n = 0 ∧ c = 0) ∧ Rd w A n z := by
  rcases h.1.2 with ⟨rfl, rfl⟩ | ⟨g, cap, cur, rfl, hb, hc, h1, h2, h3, h4⟩
  · exact ⟨none, 0, rfl, Nat.le_refl _, by decide, fun _ => ⟨rfl, rfl⟩, .inl rfl, h.2⟩
  · refine ⟨some ⟨g, 0, none⟩, cap, rfl, h1, h2, fun e => (by cases e), .inr ⟨g, 0, rfl, (Array.getElem?_eq_some_iff.1 hc).1, fun j hj => ?_, h.2⟩, h.2⟩
    have := vals_at z n j hj
    rw [← h4, List.getElem?_take, if_pos (by omega)] at this
    rw [Nat.zero_add, cell_of_row w g j cur _ (0, 0) hc]
    simpa using this
theorem Own8.ownB {w : World} {base g n cap : Nat} {z : Nat → Int} (h : Own8 w g n cap z) (hg : base ≤ g) : OwnB w base (.slice (some ⟨g, 0, none⟩) n cap) n z := by
  refine ⟨⟨by simp [vals], .inr ?_⟩, h.2⟩
  obtain ⟨⟨cur, hc, h1, h2, h3, h4⟩, h5⟩ := h
  refine ⟨g, cap, cur, rfl, hg, hc, h1, h2, by omega, ?_⟩
  apply List.ext_getElem?
  intro j
  by_cases hj : j < n
  · rw [List.getElem?_take, if_pos (by omega), vals_at z n j hj]
    simpa using h4 j hj
  · rw [List.getElem?_eq_none (by simp; omega), List.getElem?_eq_none (by rw [vals_len]; omega)]
theorem rd_newsB {w : World} {n : Nat} {z : Nat → Int} {ad : Addr} (h : Rd w (some ad) n z) : ∀ j u, (vals z n)[j]? = some u → w.cell? (ad.add j) = some u := by
  intro j u hu
  obtain ⟨hj, rfl⟩ := vals_at' z n j u hu
  obtain ⟨b, off, e, hr⟩ := h.row (by omega)
  injection e with e
  subst e
  rw [add_none]
  exact hr.2.1 j hj

/-- 'append(p, x...)' of bytes to bytes of the call's own: the goal behind it is told with the bytes as a list -/
theorem app_b {ops : Array Oper} {rest : List Oper} {o : Oper} {a : Act} {w : World} {Q : Exit → Act → World → Prop} (hgd : o.guard = none) (s x : Operand)
    (ho : o.op = .call { callee := .builtin .append, args := #[s, x], argTypes := #[22, 22] })
    (base : Nat) (v : Value) (n : Nat) (xs : List Value) (hs : a.eval s = v) (hown : w.ownsRow base 5 1 v n xs)
    (ad : Addr) (m c : Nat) (news : List Value) (hx : a.eval x = .slice (some ad) m c) (hl : news.length = m) (hnews : ∀ j u, news[j]? = some u → w.cell? (ad.add j) = some u) (h1 : ∀ u ∈ news, u.oneCell' = true)
    (hn : n + m ≤ 140737488355328) (hbase : base ≤ w.heap.size)
    (h : ∀ v' w', w'.ownsRow base 5 1 v' (n + m) (xs ++ news) → w.grownBy w' v.ownBlock → (v' = .slice none 0 0 ↔ v = .slice none 0 0 ∧ m = 0) → (v'.ownBlock = v.ownBlock ∨ v'.ownBlock = some w.heap.size) → wpList Tryd.prog ops Q rest (a.put o.dst v') w') :
    wpList Tryd.prog ops Q (o :: rest) a w := by
  obtain ⟨i0, hi, hz0, hz1, hz2⟩ := info_parts info_u8
  exact wpList_append_own_at w hgd s x 22 ho base 5 i0 (.int .u8 0) 1 1 Tryd.underlying22 hi hz0 hz1 hz2 rfl (by decide) v n xs hs hown ad m c news hx (by omega) hnews h1 (by unfold maxLen; omega) (by omega) hbase h
/-- the same, told with what it leaves alone: an old block that isn't the row's own stays so -/
theorem app_s {ops : Array Oper} {rest : List Oper} {o : Oper} {a : Act} {w : World} {Q : Exit → Act → World → Prop} (hgd : o.guard = none) (s x : Operand)
    (ho : o.op = .call { callee := .builtin .append, args := #[s, x], argTypes := #[22, 22] })
    (w0 : World) (v : Value) (n : Nat) (xs : List Value) (hs : a.eval s = v) (hown : w.ownsRow w0.heap.size 5 1 v n xs) (hb : Below w0.heap.size w0 w)
    (ad : Addr) (m c : Nat) (news : List Value) (hx : a.eval x = .slice (some ad) m c) (hl : news.length = m) (hnews : ∀ j u, news[j]? = some u → w.cell? (ad.add j) = some u) (h1 : ∀ u ∈ news, u.oneCell' = true)
    (hn : n + m ≤ 140737488355328)
    (h : ∀ v' w', w'.ownsRow w0.heap.size 5 1 v' (n + m) (xs ++ news) → Below w0.heap.size w0 w' → w.heap.size ≤ w'.heap.size → (∀ k, k < w.heap.size → v.ownBlock ≠ some k → w'.heap[k]? = w.heap[k]? ∧ v'.ownBlock ≠ some k) → wpList Tryd.prog ops Q rest (a.put o.dst v') w') :
    wpList Tryd.prog ops Q (o :: rest) a w := by
  refine app_b hgd s x ho w0.heap.size v n xs hs hown ad m c news hx hl hnews h1 hn hb.size ?_
  intro v' w' h2 h3 h4 h5
  refine h v' w' h2 (hb.grown h3 hb.size (fun k e => (hown.lt k e).1)) h3.size (fun k hk hne => ⟨h3.block k hk (fun e => hne e.symm), fun e => ?_⟩)
  rcases h5 with h5 | h5
  · rw [h5] at e; exact hne e
  · rw [h5] at e; injection e with e; omega
end Go.Proofs.YtccoicjmmeoggaaDoor

/- octet.Num answers the number of the bytes, where the place and the count lie within. Each theorem states its conditions. -/
namespace Go.Proofs.YtccoicjmmeoggaaDoor
open Go.RowKit
set_option linter.unusedVariables false

theorem num_ok (b off len cap : Nat) (z : Nat → Int) (i k : Int) (w : World)
    (hz : ∀ j, 0 ≤ z j ∧ z j ≤ 255) (hm : cap ≤ maxLen) (hlc : len ≤ cap)
    (hc : ∀ j, j < len → w.cell? ⟨b, off + j, none⟩ = some (.int .u8 (z j)))
    (hk1 : 1 ≤ k) (hk8 : k ≤ 8) (hi0 : 0 ≤ i) (hik : i ≤ len - k) :
    Calls Tryd.prog 73 #[.slice (some ⟨b, off, none⟩) len cap, .int .i64 i, .int .i64 k] w fun e w' => e = .returned (.tuple #[.int .u64 (numZ z i.toNat k.toNat), .int .i64 0]) ∧ w = w' := by
  obtain ⟨n, rfl⟩ := Int.eq_ofNat_of_zero_le hi0
  obtain ⟨m, rfl⟩ := Int.eq_ofNat_of_zero_le (show 0 ≤ k by omega)
  unfold maxLen at hm
  go_enter Tryd.func73, Tryd.ntmps73
  go_wp2
  go_loop [8, 34] (fun v i => ∃ c : Nat, c ≤ m ∧ i = .int .i64 c ∧ v = .int .u64 (numZ z n c)) (fun _ i => m - (intOf i).toNat)
  case atStart => exact ⟨0, Nat.zero_le _, rfl, rfl⟩
  case round =>
    obtain ⟨c, hcm, rfl, rfl⟩ := hrel
    by_cases hlt : c < m
    · have hcell := hc (n + c) (by omega)
      rw [← Nat.add_assoc] at hcell
      have hb := hz (n + c)
      have hs := Lib.hid (numZ_step z n c (by omega) hz)
      go_wp2
      go_round
      case rel => exact ⟨c + 1, by omega, by go_num, by rw [hs.out]⟩
      case measure => simp [intOf]; omega
    · obtain rfl : c = m := by omega
      go_wp2
      go_ret2
      exact ⟨rfl, rfl⟩
end Go.Proofs.YtccoicjmmeoggaaDoor

/- octet.Put and the document's Put, Bytes and Number; octet.Num's errors and the document's Num. Each theorem states its conditions. -/
namespace Go.Proofs.YtccoicjmmeoggaaDoor
open Go.RowKit
set_option linter.unusedVariables false

/-- so many noughts -/
def zer (k : Nat) : Array Value := madeCells (Value.cells (.int .u8 0)) (k * 1)
theorem make8 (k : Nat) (hk : k ≤ 140737488351232) (W : World) :
    (Instr.makeSlice 22 (.int .i64 (k : Int)) (.int .i64 (k : Int))).run Tryd.prog W = .ok (.slice (some ⟨W.heap.size, 0, none⟩) k k) (W.alloc (.cells (zer k) 5)) := by
  obtain ⟨i0, hi, hz0, hz1, hz2⟩ := info_parts info_u8
  have h := run_make (P := Tryd.prog) W 22 5 i0 (.int .u8 0) Tryd.underlying22 hi hz0 .i64 .i64 k k (by omega) (by omega) (by rw [hz2]; omega) (by omega)
  simp only [Int.toNat_natCast, hz1] at h
  exact h
theorem zer_size (k : Nat) : (zer k).size = k := by unfold zer; rw [size_madeCells]; omega
theorem zer_at (k j : Nat) (h : j < k) : (zer k)[j]? = some (.int .u8 0) := by
  simp [zer, madeCells, Value.cells, h, Nat.mod_one]
theorem zer_own (W : World) (k : Nat) (hk : k ≤ maxLen) : Own8 (W.alloc (.cells (zer k) 5)) W.heap.size k k (fun _ => 0) :=
  ⟨⟨zer k, heap_alloc_new W _, Nat.le_refl _, hk, zer_size k, fun j hj => zer_at k j hj⟩, fun _ => ⟨Int.le_refl 0, show (0 : Int) ≤ 255 by decide⟩⟩

/-- what is left behind i bytes -/
def qN (N i : Nat) : Nat := N / 256 ^ i
theorem qN_0 (N : Nat) : qN N 0 = N := by simp [qN]
theorem qN_s (N i : Nat) : qN N (i + 1) = qN N i / 256 := by unfold qN; rw [Nat.pow_succ, Nat.div_div_eq_div_mul]
theorem qN_le (N i : Nat) : qN N i ≤ N := Nat.div_le_self _ _
/-- the bytes of a number -/
def putZ (N k : Nat) : Nat → Int := fun j => ((qN N (k - 1 - j) % 256 : Nat) : Int)
theorem putZ_bd (N k : Nat) : ∀ j, 0 ≤ putZ N k j ∧ putZ N k j ≤ 255 := fun j => by unfold putZ; omega
/-- the last i of them are laid -/
def partZ (N k i : Nat) : Nat → Int := fun j => if k ≤ j + i then putZ N k j else 0
theorem partZ_0 (N k : Nat) (j : Nat) (h : j < k) : partZ N k 0 j = 0 := by unfold partZ; rw [if_neg (by omega)]
theorem partZ_all (N k : Nat) : partZ N k k = putZ N k := by funext j; unfold partZ; rw [if_pos (by omega)]
theorem partZ_s (N k i : Nat) (h : i < k) : upd (partZ N k i) (k - 1 - i) ((qN N i % 256 : Nat) : Int) = partZ N k (i + 1) := by
  funext j
  unfold upd partZ
  by_cases e : j = k - 1 - i
  · rw [if_pos e, if_pos (by omega)]
    unfold putZ
    rw [show k - 1 - j = i by omega]
  · rw [if_neg e]
    by_cases h2 : k ≤ j + i
    · rw [if_pos h2, if_pos (by omega)]
    · rw [if_neg h2, if_neg (by omega)]
theorem num_part (N k m : Nat) (h : m ≤ k) : numZ (putZ N k) 0 m = ((qN N (k - m) % 256 ^ m : Nat) : Int) := by
  induction m with
  | zero => simp [numZ, Nat.mod_one]
  | succ m ih =>
    show numZ (putZ N k) 0 m * 256 + putZ N k (0 + m) = _
    rw [ih (by omega), Nat.zero_add]
    unfold putZ
    rw [show k - m = (k - (m + 1)) + 1 by omega, qN_s, show k - 1 - m = k - (m + 1) by omega, Nat.pow_succ, Nat.mul_comm (256 ^ m) 256, Nat.mod_mul]
    omega
theorem num_put (N k : Nat) : numZ (putZ N k) 0 k = ((N % 256 ^ k : Nat) : Int) := by
  rw [num_part N k k (Nat.le_refl _), Nat.sub_self, qN_0]
def PutPost (w : World) (N k : Nat) (e : Ending) (w' : World) : Prop :=
  (if qN N k = 0 then ∃ g, e = .returned (.tuple #[.slice (some ⟨g, 0, none⟩) k k, .int .i64 0]) ∧ w.heap.size ≤ g ∧ Own8 w' g k k (putZ N k)
    else e = .returned (.tuple #[.slice none 0 0, .int .i64 4])) ∧ Below w.heap.size w w'

theorem own_store {w w0 : World} {g k i : Nat} {z z' : Nat → Int} {v : Int} (h : Own8 w g k k z) (hi : i < k) (hv : 0 ≤ v ∧ v ≤ 255) (hz : upd z i v = z') {B : Nat} (hb : Below B w0 w) (hB : B ≤ g) :
    Own8 (w.setCell ⟨g, i, none⟩ (.int .u8 v)) g k k z' ∧ Below B w0 (w.setCell ⟨g, i, none⟩ (.int .u8 v)) := by
  subst hz
  exact ⟨h.put i hi v hv, hb.setCell hB _⟩

theorem part_start (w : World) (N k : Nat) (hk8 : k ≤ 8) : Own8 (w.alloc (.cells (zer k) 5)) w.heap.size k k (partZ N k 0) := by
  have h := zer_own w k (by simp only [maxLen]; omega)
  refine ⟨?_, fun j => ?_⟩
  · obtain ⟨⟨cur, h1, h2, h3, h4, h5⟩, _⟩ := h
    exact ⟨cur, h1, h2, h3, h4, fun j hj => by rw [partZ_0 N k j hj]; exact h5 j hj⟩
  · unfold partZ; split
    · exact putZ_bd N k j
    · exact ⟨Int.le_refl 0, by decide⟩

theorem put_any (N k : Nat) (w : World) (hN : N ≤ 18446744073709551615) (hk1 : 1 ≤ k) (hk8 : k ≤ 8) :
    Calls Tryd.prog 62 #[.int .u64 N, .int .i64 k] w (PutPost w N k) := by
  have hmk := make8 k (by omega)
  have hk9 : ¬ (8 : Int) < k := by omega
  have hk0 : ¬ (k : Int) < 1 := by omega
  go_enter Tryd.func62, Tryd.ntmps62
  go_wp2
  go_loopw [0, 17] (fun q t wr => ∃ i : Nat, i ≤ k ∧ t = .int .i64 i ∧ q = .int .u64 (qN N i : Nat) ∧ Own8 wr w.heap.size k k (partZ N k i) ∧ Below w.heap.size w wr) (fun _ t _ => k - (intOf t).toNat)
  case atStart => exact ⟨0, Nat.zero_le _, rfl, by rw [qN_0], part_start w N k hk8, (bself w).alloc (Nat.le_refl _) _⟩
  case round =>
    obtain ⟨i, hi, rfl, rfl, ho, hb⟩ := hrel
    by_cases hlt : i < k
    · obtain ⟨j, hj1, hj2⟩ : ∃ j : Nat, (k : Int) - 1 - i = j ∧ j = k - 1 - i := ⟨k - 1 - i, by omega, rfl⟩
      have cj := own_at ho j (by omega)
      have fj := ho.free j
      have hs := Lib.hid (qN_s N i)
      have hq := qN_le N i
      have hp := Lib.hid (partZ_s N k i hlt)
      have HJ := Lib.hid hj2
      have HO := Lib.hid ho
      have hj3 : j < k := by omega
      clear hj2 ho
      generalize qN N i = q at *
      have hq256 : ((q % 256 : Nat) : Int) = (q : Int) % 256 := by omega
      have hst := Lib.hid (own_store (v := (q : Int) % 256) (z' := partZ N k (i + 1)) HO.out hj3 (by omega) (by rw [HJ.out, ← hq256]; exact hp.out) hb (Nat.le_refl _))
      clear hq256
      go_wp2
      go_roundw
      case rel => exact ⟨i + 1, by omega, by go_num, by rw [hs.out]; go_num, hst.out.1, hst.out.2⟩
      case measure => simp [intOf]; omega
    · obtain rfl : i = k := by omega
      rw [partZ_all] at ho
      by_cases h0 : qN N i = 0
      · have t0 : (((qN N i : Nat) : Int) != 0) = false := by simp [h0]
        have H0 := Lib.hid h0
        clear h0
        go_wp2
        go_ret2
        exact ⟨by rw [if_pos H0.out]; exact ⟨_, rfl, Nat.le_refl _, ho⟩, hb⟩
      · have t0 : (((qN N i : Nat) : Int) != 0) = true := by simp; omega
        have H0 := Lib.hid h0
        clear h0
        go_wp2
        go_ret2
        exact ⟨by rw [if_neg H0.out]; rfl, hb⟩

def BytesPost (w : World) (N k : Nat) (e : Ending) (w' : World) : Prop :=
  ∃ g, e = .returned (.slice (some ⟨g, 0, none⟩) k k) ∧ w.heap.size ≤ g ∧ Own8 w' g k k (putZ N k) ∧ Below w.heap.size w w'

theorem bytes_any (N k : Nat) (w : World) (hN : N ≤ 18446744073709551615) (hk1 : 1 ≤ k) (hk8 : k ≤ 8) :
    Calls Tryd.prog 94 #[.int .u64 N, .int .i64 k] w (BytesPost w N k) := by
  have hmk := make8 k (by omega)
  go_enter Tryd.func94, Tryd.ntmps94
  go_wp2
  go_loopw [0, 11] (fun q t wr => ∃ i : Nat, i ≤ k ∧ t = .int .i64 i ∧ q = .int .u64 (qN N i : Nat) ∧ Own8 wr w.heap.size k k (partZ N k i) ∧ Below w.heap.size w wr) (fun _ t _ => k - (intOf t).toNat)
  case atStart => exact ⟨0, Nat.zero_le _, rfl, by rw [qN_0], part_start w N k hk8, (bself w).alloc (Nat.le_refl _) _⟩
  case round =>
    obtain ⟨i, hi, rfl, rfl, ho, hb⟩ := hrel
    by_cases hlt : i < k
    · obtain ⟨j, hj1, hj2⟩ : ∃ j : Nat, (k : Int) - 1 - i = j ∧ j = k - 1 - i := ⟨k - 1 - i, by omega, rfl⟩
      have cj := own_at ho j (by omega)
      have fj := ho.free j
      have hs := Lib.hid (qN_s N i)
      have hq := qN_le N i
      have hp := Lib.hid (partZ_s N k i hlt)
      have HJ := Lib.hid hj2
      have HO := Lib.hid ho
      have hj3 : j < k := by omega
      clear hj2 ho
      generalize qN N i = q at *
      have hq256 : ((q % 256 : Nat) : Int) = (q : Int) % 256 := by omega
      have hst := Lib.hid (own_store (v := (q : Int) % 256) (z' := partZ N k (i + 1)) HO.out hj3 (by omega) (by rw [HJ.out, ← hq256]; exact hp.out) hb (Nat.le_refl _))
      clear hq256
      go_wp2
      go_roundw
      case rel => exact ⟨i + 1, by omega, by go_num, by rw [hs.out]; go_num, hst.out.1, hst.out.2⟩
      case measure => simp [intOf]; omega
    · obtain rfl : i = k := by omega
      rw [partZ_all] at ho
      go_wp2
      go_ret
      exact ⟨_, rfl, Nat.le_refl _, ho, hb⟩

theorem number_any (b off n c : Nat) (z : Nat → Int) (w : World) (hr : Row8 w b off n z) (hn : n ≤ 8) :
    Calls Tryd.prog 80 #[.slice (some ⟨b, off, none⟩) n c] w fun e w' => e = .returned (.int .u64 (numZ z 0 n)) ∧ w = w' := by
  have hz := hr.2.2
  have hc := hr.2.1
  clear hr
  go_enter Tryd.func80, Tryd.ntmps80
  go_wp2
  go_loop [3, 4] (fun v t => ∃ i : Nat, i ≤ n ∧ t = .int .i64 i ∧ v = .int .u64 (numZ z 0 i)) (fun _ t => n - (intOf t).toNat)
  case atStart => exact ⟨0, Nat.zero_le _, rfl, rfl⟩
  case round =>
    obtain ⟨i, hi, rfl, rfl⟩ := hrel
    by_cases hlt : i < n
    · have ci := hc i hlt
      have hb := hz i
      have h56 := numZ_56 z 0 i (by omega) hz
      have hs : Hid (numZ z 0 (i + 1) = numZ z 0 i * 256 + z i) := Lib.hid (by show numZ z 0 i * 256 + z (0 + i) = _; rw [Nat.zero_add])
      go_wp2
      go_round
      case rel => exact ⟨i + 1, by omega, by go_num, by rw [hs.out]⟩
      case measure => simp [intOf]; omega
    · obtain rfl : i = n := by omega
      go_wp2
      go_ret
      exact ⟨rfl, rfl⟩

end Go.Proofs.YtccoicjmmeoggaaDoor

/- SHA-256 and HMAC as plain functions of numbers, without any program. Each theorem states its conditions. -/
namespace Go.Proofs.YtccoicjmmeoggaaDoor
open Go.RowKit
set_option linter.unusedVariables false

/-- turned right by n bits -/
def rotN (x n : Nat) : Nat := x / 2 ^ n + x * 2 ^ (32 - n) % 4294967296
def sgA (x : Nat) : Nat := rotN x 2 ^^^ rotN x 13 ^^^ rotN x 22
def sgE (x : Nat) : Nat := rotN x 6 ^^^ rotN x 11 ^^^ rotN x 25
def s0N (x : Nat) : Nat := rotN x 7 ^^^ rotN x 18 ^^^ (x / 8)
def s1N (x : Nat) : Nat := rotN x 17 ^^^ rotN x 19 ^^^ (x / 1024)
def chN (e f g : Nat) : Nat := (e &&& f) ^^^ ((4294967295 - e) &&& g)
def mjN (a b c : Nat) : Nat := (a &&& b) ^^^ (a &&& c) ^^^ (b &&& c)
def W32 (x : Nat) : Prop := x < 4294967296
theorem rot_lt {x n : Nat} (h : W32 x) (h1 : 1 ≤ n) (h2 : n ≤ 31) : W32 (rotN x n) := by
  unfold W32 rotN at *
  have e : (4294967296 : Nat) = 2 ^ n * 2 ^ (32 - n) := by rw [← Nat.pow_add, show n + (32 - n) = 32 from by omega]
  have h3 : x * 2 ^ (32 - n) % (2 ^ n * 2 ^ (32 - n)) = x % 2 ^ n * 2 ^ (32 - n) := Nat.mul_mod_mul_right _ _ _
  rw [e, h3]
  have h4 : x / 2 ^ n < 2 ^ (32 - n) := by rw [Nat.div_lt_iff_lt_mul (Nat.two_pow_pos n), Nat.mul_comm, ← e]; exact h
  have h5 : x % 2 ^ n < 2 ^ n := Nat.mod_lt _ (Nat.two_pow_pos n)
  have h6 : (x % 2 ^ n + 1) * 2 ^ (32 - n) ≤ 2 ^ n * 2 ^ (32 - n) := Nat.mul_le_mul_right _ h5
  rw [Nat.add_mul, Nat.one_mul] at h6
  omega
theorem rot_or {x n : Nat} (h : W32 x) (h1 : 1 ≤ n) (h2 : n ≤ 31) : (x * 2 ^ (32 - n) % 4294967296) ||| (x / 2 ^ n) = rotN x n := by
  unfold W32 rotN at *
  have e : (4294967296 : Nat) = 2 ^ n * 2 ^ (32 - n) := by rw [← Nat.pow_add, show n + (32 - n) = 32 from by omega]
  have h3 : x * 2 ^ (32 - n) % (2 ^ n * 2 ^ (32 - n)) = x % 2 ^ n * 2 ^ (32 - n) := Nat.mul_mod_mul_right _ _ _
  have h4 : x / 2 ^ n < 2 ^ (32 - n) := by rw [Nat.div_lt_iff_lt_mul (Nat.two_pow_pos n), Nat.mul_comm, ← e]; exact h
  rw [show x * 2 ^ (32 - n) % 4294967296 = x % 2 ^ n * 2 ^ (32 - n) from by rw [show x * 2 ^ (32 - n) % 4294967296 = x * 2 ^ (32 - n) % (2 ^ n * 2 ^ (32 - n)) from by rw [← e]]; exact h3]
  rw [Nat.mul_comm (x % 2 ^ n), ← Nat.two_pow_add_eq_or_of_lt h4, Nat.add_comm]
theorem xor32 {a b : Nat} (h : W32 a) (k : W32 b) : W32 (a ^^^ b) := Nat.xor_lt_two_pow (n := 32) h k
theorem and32 {a : Nat} (b : Nat) (h : W32 a) : W32 (a &&& b) := Nat.lt_of_le_of_lt Nat.and_le_left h
theorem mod32 (a : Nat) : W32 (a % 4294967296) := Nat.mod_lt _ (by decide)
theorem not32 (a : Nat) : W32 (4294967295 - a) := by unfold W32; omega
theorem div32 {a : Nat} (k : Nat) (h : W32 a) : W32 (a / k) := Nat.lt_of_le_of_lt (Nat.div_le_self _ _) h

structure H8 where
  (a b c d e f g h : Nat)
def H8.ok (s : H8) : Prop := (W32 s.a ∧ W32 s.b ∧ W32 s.c ∧ W32 s.d) ∧ W32 s.e ∧ W32 s.f ∧ W32 s.g ∧ W32 s.h
def t1N (s : H8) (k w : Nat) : Nat := (s.h + sgE s.e + chN s.e s.f s.g + k + w) % 4294967296
def t2N (s : H8) : Nat := (sgA s.a + mjN s.a s.b s.c) % 4294967296
def stp (s : H8) (k w : Nat) : H8 := ⟨(t1N s k w + t2N s) % 4294967296, s.a, s.b, s.c, (s.d + t1N s k w) % 4294967296, s.e, s.f, s.g⟩
theorem stp_ok {s : H8} (h : s.ok) (k w : Nat) : (stp s k w).ok := ⟨⟨mod32 _, h.1.1, h.1.2.1, h.1.2.2.1⟩, mod32 _, h.2.1, h.2.2.1, h.2.2.2.1⟩
def rdN (K W : Nat → Nat) (s : H8) : Nat → H8
  | 0 => s
  | i + 1 => stp (rdN K W s i) (K i) (W i)
theorem rd_ok (K W : Nat → Nat) {s : H8} (h : s.ok) (i : Nat) : (rdN K W s i).ok := by
  induction i with
  | zero => exact h
  | succ i ih => exact stp_ok ih _ _
def addH (s t : H8) : H8 := ⟨(s.a + t.a) % 4294967296, (s.b + t.b) % 4294967296, (s.c + t.c) % 4294967296, (s.d + t.d) % 4294967296, (s.e + t.e) % 4294967296, (s.f + t.f) % 4294967296, (s.g + t.g) % 4294967296, (s.h + t.h) % 4294967296⟩
theorem add_ok (s t : H8) : (addH s t).ok := ⟨⟨mod32 _, mod32 _, mod32 _, mod32 _⟩, mod32 _, mod32 _, mod32 _, mod32 _⟩
/-- the next word of a block, those ahead of it from the last one on -/
def nxt (l : List Nat) : Nat := (l.getD 15 0 + s0N (l.getD 14 0) + l.getD 6 0 + s1N (l.getD 1 0)) % 4294967296
def sc (B : Nat → Nat) : Nat → List Nat
  | 0 => [B 15, B 14, B 13, B 12, B 11, B 10, B 9, B 8, B 7, B 6, B 5, B 4, B 3, B 2, B 1, B 0]
  | s + 1 => nxt (sc B s) :: sc B s
theorem sc_len (B : Nat → Nat) (s : Nat) : (sc B s).length = 16 + s := by
  induction s with
  | zero => rfl
  | succ s ih => simp [sc, ih]; omega
/-- the words of a block -/
def wdN (B : Nat → Nat) (i : Nat) : Nat := (sc B 48).getD (63 - i) 0
theorem sc_up (B : Nat → Nat) (s d j : Nat) : (sc B (s + d)).getD (d + j) 0 = (sc B s).getD j 0 := by
  induction d with
  | zero => simp
  | succ d ih =>
    rw [show s + (d + 1) = s + d + 1 from rfl, show d + 1 + j = d + j + 1 from by omega]
    show (nxt _ :: sc B (s + d)).getD (d + j + 1) 0 = _
    rw [List.getD_cons_succ, ih]
theorem wd_at (B : Nat → Nat) (s i : Nat) (hs : s ≤ 48) (hi : i ≤ 15 + s) : wdN B i = (sc B s).getD (15 + s - i) 0 := by
  unfold wdN
  rw [← sc_up B s (48 - s) (15 + s - i), show s + (48 - s) = 48 from by omega, show 48 - s + (15 + s - i) = 63 - i from by omega]
theorem wd_low (B : Nat → Nat) (i : Nat) (hi : i < 16) : wdN B i = B i := by
  rw [wd_at B 0 i (by omega) (by omega)]
  rcases (by omega : i = 0 ∨ i = 1 ∨ i = 2 ∨ i = 3 ∨ i = 4 ∨ i = 5 ∨ i = 6 ∨ i = 7 ∨ i = 8 ∨ i = 9 ∨ i = 10 ∨ i = 11 ∨ i = 12 ∨ i = 13 ∨ i = 14 ∨ i = 15) with rfl | rfl | rfl | rfl | rfl | rfl | rfl | rfl | rfl | rfl | rfl | rfl | rfl | rfl | rfl | rfl <;> rfl
theorem wd_next (B : Nat → Nat) (i : Nat) (h1 : 16 ≤ i) (h2 : i < 64) : wdN B i = (wdN B (i - 16) + s0N (wdN B (i - 15)) + wdN B (i - 7) + s1N (wdN B (i - 2))) % 4294967296 := by
  obtain ⟨s, rfl⟩ : ∃ s, i = 16 + s := ⟨i - 16, by omega⟩
  rw [wd_at B (s + 1) (16 + s) (by omega) (by omega), wd_at B s (16 + s - 16) (by omega) (by omega), wd_at B s (16 + s - 15) (by omega) (by omega), wd_at B s (16 + s - 7) (by omega) (by omega), wd_at B s (16 + s - 2) (by omega) (by omega)]
  rw [show 15 + (s + 1) - (16 + s) = 0 from by omega, show 15 + s - (16 + s - 16) = 15 from by omega, show 15 + s - (16 + s - 15) = 14 from by omega, show 15 + s - (16 + s - 7) = 6 from by omega, show 15 + s - (16 + s - 2) = 1 from by omega]
  simp only [sc, List.getD_cons_zero, nxt]
theorem wd_32 (B : Nat → Nat) (hB : ∀ i, W32 (B i)) (i : Nat) (hi : i < 64) : W32 (wdN B i) := by
  by_cases h : i < 16
  · rw [wd_low B i h]; exact hB i
  · rw [wd_next B i (by omega) hi]; exact mod32 _
def rootL : List Nat := [
  0x428a2f98, 0x71374491, 0xb5c0fbcf, 0xe9b5dba5, 0x3956c25b, 0x59f111f1, 0x923f82a4, 0xab1c5ed5,
  0xd807aa98, 0x12835b01, 0x243185be, 0x550c7dc3, 0x72be5d74, 0x80deb1fe, 0x9bdc06a7, 0xc19bf174,
  0xe49b69c1, 0xefbe4786, 0x0fc19dc6, 0x240ca1cc, 0x2de92c6f, 0x4a7484aa, 0x5cb0a9dc, 0x76f988da,
  0x983e5152, 0xa831c66d, 0xb00327c8, 0xbf597fc7, 0xc6e00bf3, 0xd5a79147, 0x06ca6351, 0x14292967,
  0x27b70a85, 0x2e1b2138, 0x4d2c6dfc, 0x53380d13, 0x650a7354, 0x766a0abb, 0x81c2c92e, 0x92722c85,
  0xa2bfe8a1, 0xa81a664b, 0xc24b8b70, 0xc76c51a3, 0xd192e819, 0xd6990624, 0xf40e3585, 0x106aa070,
  0x19a4c116, 0x1e376c08, 0x2748774c, 0x34b0bcb5, 0x391c0cb3, 0x4ed8aa4a, 0x5b9cca4f, 0x682e6ff3,
  0x748f82ee, 0x78a5636f, 0x84c87814, 0x8cc70208, 0x90befffa, 0xa4506ceb, 0xbef9a3f7, 0xc67178f2]
def rootN (i : Nat) : Nat := rootL.getD i 0
theorem root_32 (i : Nat) : W32 (rootN i) := by
  by_cases h : i < 64
  · have : ∀ j : Fin 64, rootN j.val < 4294967296 := by decide
    exact this ⟨i, h⟩
  · unfold rootN
    rw [List.getD_eq_getElem?_getD, List.getElem?_eq_none (by show 64 ≤ i; omega)]
    show (0 : Nat) < 4294967296
    decide
def mixN (s : H8) (B : Nat → Nat) : H8 := addH s (rdN rootN (wdN B) s 64)
def h0N : H8 := ⟨0x6a09e667, 0xbb67ae85, 0x3c6ef372, 0xa54ff53a, 0x510e527f, 0x9b05688c, 0x1f83d9ab, 0x5be0cd19⟩
theorem h0_ok : h0N.ok := by unfold H8.ok W32; decide
/-- the words of the bytes from a place on -/
def blkN (z : Nat → Int) (at' : Nat) : Nat → Nat := fun i => (numZ z (at' + 4 * i) 4).toNat
theorem blk_32 {z : Nat → Int} (hz : ∀ j, 0 ≤ z j ∧ z j ≤ 255) (a i : Nat) : W32 (blkN z a i) := by
  have := numZ_lt z (a + 4 * i) 4 hz
  unfold blkN W32
  omega
theorem blk_int {z : Nat → Int} (hz : ∀ j, 0 ≤ z j ∧ z j ≤ 255) (a i : Nat) : ((blkN z a i : Nat) : Int) = numZ z (a + 4 * i) 4 := by
  have := numZ_lt z (a + 4 * i) 4 hz
  unfold blkN
  omega
def foldN (z : Nat → Int) : Nat → H8
  | 0 => h0N
  | k + 1 => mixN (foldN z k) (blkN z (64 * k))
theorem fold_ok (z : Nat → Int) (k : Nat) : (foldN z k).ok := by
  cases k with
  | zero => exact h0_ok
  | succ k => exact add_ok _ _
theorem numZ_congr {z z' : Nat → Int} (s k : Nat) (h : ∀ j, s ≤ j → j < s + k → z j = z' j) : numZ z s k = numZ z' s k := by
  induction k with
  | zero => rfl
  | succ k ih => simp only [numZ]; rw [ih (fun j h1 h2 => h j h1 (by omega)), h (s + k) (by omega) (by omega)]
theorem sc_congr {B B' : Nat → Nat} (h : ∀ i, i < 16 → B i = B' i) (s : Nat) : sc B s = sc B' s := by
  induction s with
  | zero => simp [sc, h]
  | succ s ih => simp only [sc, ih]
theorem mix_congr (s : H8) {B B' : Nat → Nat} (h : ∀ i, i < 16 → B i = B' i) : mixN s B = mixN s B' := by
  unfold mixN
  rw [show wdN B = wdN B' from by funext i; unfold wdN; rw [sc_congr h]]
/-- the bytes that are summed up: those of a text, and what stands behind them -/
def totN (n : Nat) : Nat := (n + 72) / 64
def padZ (z : Nat → Int) (n : Nat) : Nat → Int := fun j =>
  if j < n then z j else if j = n then 128 else if j < 64 * totN n - 8 then 0 else putZ (8 * n) 8 (j - (64 * totN n - 8))
theorem pad_bd {z : Nat → Int} (hz : ∀ j, 0 ≤ z j ∧ z j ≤ 255) (n : Nat) : ∀ j, 0 ≤ padZ z n j ∧ padZ z n j ≤ 255 := by
  intro j
  unfold padZ
  split
  · exact hz j
  split
  · omega
  split
  · omega
  · exact putZ_bd _ _ _
def shaH (z : Nat → Int) (n : Nat) : H8 := foldN (padZ z n) (totN n)
def H8.at (s : H8) : Nat → Nat
  | 0 => s.a | 1 => s.b | 2 => s.c | 3 => s.d | 4 => s.e | 5 => s.f | 6 => s.g | _ => s.h
theorem H8.at_32 {s : H8} (h : s.ok) (i : Nat) : W32 (s.at i) := by
  obtain ⟨⟨h0, h1, h2, h3⟩, h4, h5, h6, h7⟩ := h
  rcases (by omega : i = 0 ∨ i = 1 ∨ i = 2 ∨ i = 3 ∨ i = 4 ∨ i = 5 ∨ i = 6 ∨ 7 ≤ i) with rfl | rfl | rfl | rfl | rfl | rfl | rfl | h
  all_goals first | assumption | skip
  obtain ⟨k, rfl⟩ : ∃ k, i = k + 7 := ⟨i - 7, by omega⟩
  exact h7
/-- the bytes of a state -/
def dgZ (s : H8) : Nat → Int := fun j => putZ (s.at (j / 4)) 4 (j % 4)
theorem dg_bd (s : H8) : ∀ j, 0 ≤ dgZ s j ∧ dgZ s j ≤ 255 := fun j => putZ_bd _ _ _
def shaZ (z : Nat → Int) (n : Nat) : Nat → Int := dgZ (shaH z n)
theorem fold_congr {z z' : Nat → Int} (k : Nat) (h : ∀ j, j < 64 * k → z j = z' j) : foldN z k = foldN z' k := by
  induction k with
  | zero => rfl
  | succ k ih =>
    simp only [foldN]
    rw [ih (fun j hj => h j (by omega))]
    refine mix_congr _ fun i hi => ?_
    unfold blkN
    rw [numZ_congr _ _ fun j h1 h2 => h j (by omega)]
theorem sha_congr {z z' : Nat → Int} (n : Nat) (h : ∀ j, j < n → z j = z' j) : shaZ z n = shaZ z' n := by
  unfold shaZ shaH
  rw [fold_congr]
  intro j _
  unfold padZ
  split
  · exact h j (by assumption)
  · rfl
/-- a key made as long as a block, each byte turned -/
def keyZ (z : Nat → Int) (n : Nat) : Nat → Int := fun j => if j < n then z j else 0
def xorZ (z : Nat → Int) (p : Nat) : Nat → Int := fun j => (((z j).toNat ^^^ p : Nat) : Int)
def catZ (z : Nat → Int) (n : Nat) (y : Nat → Int) : Nat → Int := fun j => if j < n then z j else y (j - n)
def hmacZ (k : Nat → Int) (m : Nat) (z : Nat → Int) (n : Nat) : Nat → Int :=
  shaZ (catZ (xorZ (keyZ k m) 0x5c) 64 (shaZ (catZ (xorZ (keyZ k m) 0x36) 64 z) (64 + n))) 96
theorem hxor_bd {z : Nat → Int} (hz : ∀ j, 0 ≤ z j ∧ z j ≤ 255) (p : Nat) (hp : p < 256) : ∀ j, 0 ≤ xorZ z p j ∧ xorZ z p j ≤ 255 := by
  intro j
  have h := hz j
  have : (z j).toNat ^^^ p < 2 ^ 8 := Nat.xor_lt_two_pow (by omega) hp
  unfold xorZ
  omega
theorem hcat_bd {z y : Nat → Int} (hz : ∀ j, 0 ≤ z j ∧ z j ≤ 255) (hy : ∀ j, 0 ≤ y j ∧ y j ≤ 255) (n : Nat) : ∀ j, 0 ≤ catZ z n y j ∧ catZ z n y j ≤ 255 := by
  intro j; unfold catZ; split
  · exact hz j
  · exact hy _
theorem hkey_bd {z : Nat → Int} (hz : ∀ j, 0 ≤ z j ∧ z j ≤ 255) (n : Nat) : ∀ j, 0 ≤ keyZ z n j ∧ keyZ z n j ≤ 255 := by
  intro j; unfold keyZ; split
  · exact hz j
  · omega
end Go.Proofs.YtccoicjmmeoggaaDoor

/- The two examples of mac, evaluated. No condition. -/
namespace Go.Proofs.YtccoicjmmeoggaaDoor
open Go.RowKit
set_option linter.unusedVariables false

/-- n is made a number before f is asked -/
def force {α : Type} (n : Nat) (f : Nat → α) : α := Nat.rec (motive := fun _ => α) (f 0) (fun m _ => f (m + 1)) n
theorem force_eq {α : Type} (n : Nat) (f : Nat → α) : force n f = f n := by cases n <;> rfl
def scE : Nat → List Nat → List Nat
  | 0, l => l
  | n + 1, l => force (nxt l) fun x => scE n (x :: l)
theorem scE_s (B : Nat → Nat) (n s : Nat) : scE n (sc B s) = sc B (s + n) := by
  induction n generalizing s with
  | zero => rfl
  | succ n ih =>
    simp only [scE, force_eq]
    rw [show nxt (sc B s) :: sc B s = sc B (s + 1) from rfl, ih (s + 1), show s + 1 + n = s + (n + 1) from by omega]
def rdE : List Nat → List Nat → H8 → H8
  | k :: ks, w :: ws, s => force (t1N s k w) fun t1 => force ((t1 + t2N s) % 4294967296) fun x => force ((s.d + t1) % 4294967296) fun y => rdE ks ws ⟨x, s.a, s.b, s.c, y, s.e, s.f, s.g⟩
  | _, _, s => s
theorem rd_front (K W : Nat → Nat) (s : H8) (n : Nat) : rdN K W s (n + 1) = rdN (fun i => K (i + 1)) (fun i => W (i + 1)) (stp s (K 0) (W 0)) n := by
  induction n with
  | zero => rfl
  | succ n ih => rw [rdN, ih]; rfl
theorem rdE_s (ks ws : List Nat) (h : ks.length = ws.length) (s : H8) : rdE ks ws s = rdN (fun i => ks.getD i 0) (fun i => ws.getD i 0) s ks.length := by
  induction ks generalizing ws s with
  | nil => cases ws <;> rfl
  | cons k ks ih =>
    cases ws with
    | nil => cases h
    | cons w ws =>
      simp only [rdE, force_eq, List.length_cons]
      rw [rd_front, ih ws (by simpa using h)]
      simp only [List.getD_cons_succ, List.getD_cons_zero]
      rfl
theorem rd_congr {K K' W W' : Nat → Nat} (s : H8) (n : Nat) (h : ∀ i, i < n → K i = K' i ∧ W i = W' i) : rdN K W s n = rdN K' W' s n := by
  induction n with
  | zero => rfl
  | succ n ih =>
    simp only [rdN]
    rw [ih (fun i hi => h i (by omega)), (h n (by omega)).1, (h n (by omega)).2]
theorem root_len : rootL.length = 64 := rfl
theorem mix_eval (s : H8) (B : Nat → Nat) : mixN s B = addH s (rdE rootL ((scE 48 (sc B 0)).reverse) s) := by
  have h1 : scE 48 (sc B 0) = sc B 48 := by rw [scE_s, Nat.zero_add]
  have hl : (sc B 48).length = 64 := by rw [sc_len]
  rw [h1, rdE_s _ _ (by rw [List.length_reverse, hl, root_len]), root_len]
  unfold mixN
  rw [rd_congr s 64 (K' := fun i => rootL.getD i 0) (W' := fun i => (sc B 48).reverse.getD i 0)]
  intro i hi
  refine ⟨rfl, ?_⟩
  show (sc B 48).getD (63 - i) 0 = (sc B 48).reverse.getD i 0
  rw [List.getD_eq_getElem?_getD, List.getD_eq_getElem?_getD, List.getElem?_reverse (by rw [hl]; omega), hl, show 64 - 1 - i = 63 - i from by omega]
def litB (l : List Nat) : Nat → Nat := fun i => l.getD i 0
theorem ev1_0 : mixN ⟨1779033703, 3144134277, 1013904242, 2773480762, 1359893119, 2600822924, 528734635, 1541459225⟩ (litB [1633837952, 0, 0, 0, 0, 0, 0, 0, 0, 0, 0, 0, 0, 0, 0, 24]) = ⟨3128432319, 2399260650, 1094795486, 1571693091, 2953011619, 2518121116, 3021012833, 4060091821⟩ := by
  rw [mix_eval]
  kernel_rfl
theorem ev2_0 : mixN ⟨1779033703, 3144134277, 1013904242, 2773480762, 1359893119, 2600822924, 528734635, 1541459225⟩ (litB [1027423549, 1027423549, 1027423549, 1027423549, 1027423549, 909522486, 909522486, 909522486, 909522486, 909522486, 909522486, 909522486, 909522486, 909522486, 909522486, 909522486]) = ⟨733091844, 599350265, 3035112844, 4206224980, 301109790, 1340831982, 2559632894, 1689747510⟩ := by
  rw [mix_eval]
  kernel_rfl
theorem ev2_1 : mixN ⟨733091844, 599350265, 3035112844, 4206224980, 301109790, 1340831982, 2559632894, 1689747510⟩ (litB [1214849108, 1751478885, 2147483648, 0, 0, 0, 0, 0, 0, 0, 0, 0, 0, 0, 0, 576]) = ⟨2460700058, 523985234, 3165248926, 1773093876, 3466191919, 3571650553, 1925480485, 3120156655⟩ := by
  rw [mix_eval]
  kernel_rfl
theorem ev3_0 : mixN ⟨1779033703, 3144134277, 1013904242, 2773480762, 1359893119, 2600822924, 528734635, 1541459225⟩ (litB [1465341783, 1465341783, 1465341783, 1465341783, 1465341783, 1549556828, 1549556828, 1549556828, 1549556828, 1549556828, 1549556828, 1549556828, 1549556828, 1549556828, 1549556828, 1549556828]) = ⟨669479839, 3646301571, 1456891618, 1602293224, 3965603722, 1430081464, 1023353018, 270748480⟩ := by
  rw [mix_eval]
  kernel_rfl
theorem ev3_1 : mixN ⟨669479839, 3646301571, 1456891618, 1602293224, 3965603722, 1430081464, 1023353018, 270748480⟩ (litB [2460700058, 523985234, 3165248926, 1773093876, 3466191919, 3571650553, 1925480485, 3120156655, 2147483648, 0, 0, 0, 0, 0, 0, 768]) = ⟨2956217441, 3638245459, 1554558926, 2936795435, 2283651584, 3380821415, 652818284, 775081975⟩ := by
  rw [mix_eval]
  kernel_rfl
theorem sixteen {P : Nat → Prop} (h : ∀ i : Fin 16, P i.val) (i : Nat) (hi : i < 16) : P i := h ⟨i, hi⟩
def abcZ : Nat → Int := fun j => [97, 98, 99].getD j 0
def keyE : Nat → Int := fun j => [11, 11, 11, 11, 11, 11, 11, 11, 11, 11, 11, 11, 11, 11, 11, 11, 11, 11, 11, 11].getD j 0
def msgE : Nat → Int := fun j => [72, 105, 32, 84, 104, 101, 114, 101].getD j 0
def innE : Nat → Int := fun j => [146, 171, 77, 154, 31, 59, 97, 82, 188, 169, 221, 158, 105, 175, 67, 244, 206, 153, 228, 47, 212, 227, 15, 249, 114, 196, 128, 37, 185, 249, 207, 239].getD j 0
theorem sha_abc : shaH abcZ 3 = ⟨3128432319, 2399260650, 1094795486, 1571693091, 2953011619, 2518121116, 3021012833, 4060091821⟩ := by
  unfold shaH
  show mixN h0N (blkN (padZ abcZ 3) (64 * 0)) = _
  rw [mix_congr h0N (B' := litB [1633837952, 0, 0, 0, 0, 0, 0, 0, 0, 0, 0, 0, 0, 0, 0, 24]) (sixteen (by decide +kernel))]
  exact ev1_0
theorem ex_abc : shaZ abcZ 3 0 = 186 ∧ shaZ abcZ 3 31 = 173 := by
  unfold shaZ
  rw [sha_abc]
  decide +kernel
theorem sha_inn : shaH (catZ (xorZ (keyZ keyE 20) 0x36) 64 msgE) 72 = ⟨2460700058, 523985234, 3165248926, 1773093876, 3466191919, 3571650553, 1925480485, 3120156655⟩ := by
  unfold shaH
  show mixN (mixN h0N (blkN (padZ (catZ (xorZ (keyZ keyE 20) 0x36) 64 msgE) 72) (64 * 0))) (blkN (padZ (catZ (xorZ (keyZ keyE 20) 0x36) 64 msgE) 72) (64 * 1)) = _
  rw [mix_congr h0N (B' := litB [1027423549, 1027423549, 1027423549, 1027423549, 1027423549, 909522486, 909522486, 909522486, 909522486, 909522486, 909522486, 909522486, 909522486, 909522486, 909522486, 909522486]) (sixteen (by decide +kernel))]
  rw [show mixN h0N (litB [1027423549, 1027423549, 1027423549, 1027423549, 1027423549, 909522486, 909522486, 909522486, 909522486, 909522486, 909522486, 909522486, 909522486, 909522486, 909522486, 909522486]) = _ from ev2_0]
  rw [mix_congr _ (B' := litB [1214849108, 1751478885, 2147483648, 0, 0, 0, 0, 0, 0, 0, 0, 0, 0, 0, 0, 576]) (sixteen (by decide +kernel))]
  exact ev2_1
theorem ex_inn (j : Nat) (hj : j < 32) : shaZ (catZ (xorZ (keyZ keyE 20) 0x36) 64 msgE) 72 j = innE j := by
  unfold shaZ
  rw [sha_inn]
  exact (by decide +kernel : ∀ j : Fin 32, dgZ ⟨2460700058, 523985234, 3165248926, 1773093876, 3466191919, 3571650553, 1925480485, 3120156655⟩ j.val = innE j.val) ⟨j, hj⟩
theorem sha_out : shaH (catZ (xorZ (keyZ keyE 20) 0x5c) 64 innE) 96 = ⟨2956217441, 3638245459, 1554558926, 2936795435, 2283651584, 3380821415, 652818284, 775081975⟩ := by
  unfold shaH
  show mixN (mixN h0N (blkN (padZ (catZ (xorZ (keyZ keyE 20) 0x5c) 64 innE) 96) (64 * 0))) (blkN (padZ (catZ (xorZ (keyZ keyE 20) 0x5c) 64 innE) 96) (64 * 1)) = _
  rw [mix_congr h0N (B' := litB [1465341783, 1465341783, 1465341783, 1465341783, 1465341783, 1549556828, 1549556828, 1549556828, 1549556828, 1549556828, 1549556828, 1549556828, 1549556828, 1549556828, 1549556828, 1549556828]) (sixteen (by decide +kernel))]
  rw [show mixN h0N (litB [1465341783, 1465341783, 1465341783, 1465341783, 1465341783, 1549556828, 1549556828, 1549556828, 1549556828, 1549556828, 1549556828, 1549556828, 1549556828, 1549556828, 1549556828, 1549556828]) = _ from ev3_0]
  rw [mix_congr _ (B' := litB [2460700058, 523985234, 3165248926, 1773093876, 3466191919, 3571650553, 1925480485, 3120156655, 2147483648, 0, 0, 0, 0, 0, 0, 768]) (sixteen (by decide +kernel))]
  exact ev3_1
theorem ex_mac : hmacZ keyE 20 msgE 8 0 = 176 ∧ hmacZ keyE 20 msgE 8 31 = 247 := by
  have e : hmacZ keyE 20 msgE 8 = shaZ (catZ (xorZ (keyZ keyE 20) 0x5c) 64 innE) 96 := by
    unfold hmacZ
    refine sha_congr 96 fun j hj => ?_
    unfold catZ
    split
    · rfl
    · exact ex_inn (j - 64) (by omega)
  rw [e]
  unfold shaZ
  rw [sha_out]
  decide +kernel
end Go.Proofs.YtccoicjmmeoggaaDoor

/- mac.turn: a word turned right. Each theorem states its conditions. -/
namespace Go.Proofs.YtccoicjmmeoggaaDoor
open Go.RowKit
set_option linter.unusedVariables false

theorem rotI {x n : Nat} (hx : W32 x) (h1 : 1 ≤ n) (h2 : n ≤ 31) : bits .or .u32 (IntKind.u32.wrap ((x : Int) * ((2 ^ (32 - n) : Nat) : Int))) ((x : Int) / ((2 ^ n : Nat) : Int)) = ((rotN x n : Nat) : Int) := by
  have e1 : IntKind.u32.wrap ((x : Int) * ((2 ^ (32 - n) : Nat) : Int)) = ((x * 2 ^ (32 - n) % 4294967296 : Nat) : Int) := by
    rw [IntKind.wrap_u32', ← Int.natCast_mul]; rfl
  have e2 : (x : Int) / ((2 ^ n : Nat) : Int) = ((x / 2 ^ n : Nat) : Int) := rfl
  rw [e1, e2, u32_or_nat _ _ (mod32 _) (div32 _ hx), rot_or hx h1 h2]
theorem turn2 (x : Nat) (hx : W32 x) (w : World) :
    Calls Tryd.prog 60 #[.int .u32 x, .int .i64 2] w fun e w' => e = .returned (.int .u32 (rotN x 2 : Nat)) ∧ w = w' := by
  have hq : bits .and .u64 (IntKind.u64.wrap (-2)) 31 = 30 := by decide +kernel
  have HR : Hid (bits .or .u32 (IntKind.u32.wrap ((x : Int) * 1073741824)) ((x : Int) / 4) = ((rotN x 2 : Nat) : Int)) := Lib.hid (rotI hx (n := 2) (by omega) (by omega))
  go_enter Tryd.func60, Tryd.ntmps60
  go_wp2
  go_ret
  exact ⟨ret_u32 HR.out, rfl⟩
theorem turn6 (x : Nat) (hx : W32 x) (w : World) :
    Calls Tryd.prog 60 #[.int .u32 x, .int .i64 6] w fun e w' => e = .returned (.int .u32 (rotN x 6 : Nat)) ∧ w = w' := by
  have hq : bits .and .u64 (IntKind.u64.wrap (-6)) 31 = 26 := by decide +kernel
  have HR : Hid (bits .or .u32 (IntKind.u32.wrap ((x : Int) * 67108864)) ((x : Int) / 64) = ((rotN x 6 : Nat) : Int)) := Lib.hid (rotI hx (n := 6) (by omega) (by omega))
  go_enter Tryd.func60, Tryd.ntmps60
  go_wp2
  go_ret
  exact ⟨ret_u32 HR.out, rfl⟩
theorem turn7 (x : Nat) (hx : W32 x) (w : World) :
    Calls Tryd.prog 60 #[.int .u32 x, .int .i64 7] w fun e w' => e = .returned (.int .u32 (rotN x 7 : Nat)) ∧ w = w' := by
  have hq : bits .and .u64 (IntKind.u64.wrap (-7)) 31 = 25 := by decide +kernel
  have HR : Hid (bits .or .u32 (IntKind.u32.wrap ((x : Int) * 33554432)) ((x : Int) / 128) = ((rotN x 7 : Nat) : Int)) := Lib.hid (rotI hx (n := 7) (by omega) (by omega))
  go_enter Tryd.func60, Tryd.ntmps60
  go_wp2
  go_ret
  exact ⟨ret_u32 HR.out, rfl⟩
theorem turn11 (x : Nat) (hx : W32 x) (w : World) :
    Calls Tryd.prog 60 #[.int .u32 x, .int .i64 11] w fun e w' => e = .returned (.int .u32 (rotN x 11 : Nat)) ∧ w = w' := by
  have hq : bits .and .u64 (IntKind.u64.wrap (-11)) 31 = 21 := by decide +kernel
  have HR : Hid (bits .or .u32 (IntKind.u32.wrap ((x : Int) * 2097152)) ((x : Int) / 2048) = ((rotN x 11 : Nat) : Int)) := Lib.hid (rotI hx (n := 11) (by omega) (by omega))
  go_enter Tryd.func60, Tryd.ntmps60
  go_wp2
  go_ret
  exact ⟨ret_u32 HR.out, rfl⟩
theorem turn13 (x : Nat) (hx : W32 x) (w : World) :
    Calls Tryd.prog 60 #[.int .u32 x, .int .i64 13] w fun e w' => e = .returned (.int .u32 (rotN x 13 : Nat)) ∧ w = w' := by
  have hq : bits .and .u64 (IntKind.u64.wrap (-13)) 31 = 19 := by decide +kernel
  have HR : Hid (bits .or .u32 (IntKind.u32.wrap ((x : Int) * 524288)) ((x : Int) / 8192) = ((rotN x 13 : Nat) : Int)) := Lib.hid (rotI hx (n := 13) (by omega) (by omega))
  go_enter Tryd.func60, Tryd.ntmps60
  go_wp2
  go_ret
  exact ⟨ret_u32 HR.out, rfl⟩
theorem turn17 (x : Nat) (hx : W32 x) (w : World) :
    Calls Tryd.prog 60 #[.int .u32 x, .int .i64 17] w fun e w' => e = .returned (.int .u32 (rotN x 17 : Nat)) ∧ w = w' := by
  have hq : bits .and .u64 (IntKind.u64.wrap (-17)) 31 = 15 := by decide +kernel
  have HR : Hid (bits .or .u32 (IntKind.u32.wrap ((x : Int) * 32768)) ((x : Int) / 131072) = ((rotN x 17 : Nat) : Int)) := Lib.hid (rotI hx (n := 17) (by omega) (by omega))
  go_enter Tryd.func60, Tryd.ntmps60
  go_wp2
  go_ret
  exact ⟨ret_u32 HR.out, rfl⟩
theorem turn18 (x : Nat) (hx : W32 x) (w : World) :
    Calls Tryd.prog 60 #[.int .u32 x, .int .i64 18] w fun e w' => e = .returned (.int .u32 (rotN x 18 : Nat)) ∧ w = w' := by
  have hq : bits .and .u64 (IntKind.u64.wrap (-18)) 31 = 14 := by decide +kernel
  have HR : Hid (bits .or .u32 (IntKind.u32.wrap ((x : Int) * 16384)) ((x : Int) / 262144) = ((rotN x 18 : Nat) : Int)) := Lib.hid (rotI hx (n := 18) (by omega) (by omega))
  go_enter Tryd.func60, Tryd.ntmps60
  go_wp2
  go_ret
  exact ⟨ret_u32 HR.out, rfl⟩
theorem turn19 (x : Nat) (hx : W32 x) (w : World) :
    Calls Tryd.prog 60 #[.int .u32 x, .int .i64 19] w fun e w' => e = .returned (.int .u32 (rotN x 19 : Nat)) ∧ w = w' := by
  have hq : bits .and .u64 (IntKind.u64.wrap (-19)) 31 = 13 := by decide +kernel
  have HR : Hid (bits .or .u32 (IntKind.u32.wrap ((x : Int) * 8192)) ((x : Int) / 524288) = ((rotN x 19 : Nat) : Int)) := Lib.hid (rotI hx (n := 19) (by omega) (by omega))
  go_enter Tryd.func60, Tryd.ntmps60
  go_wp2
  go_ret
  exact ⟨ret_u32 HR.out, rfl⟩
theorem turn22 (x : Nat) (hx : W32 x) (w : World) :
    Calls Tryd.prog 60 #[.int .u32 x, .int .i64 22] w fun e w' => e = .returned (.int .u32 (rotN x 22 : Nat)) ∧ w = w' := by
  have hq : bits .and .u64 (IntKind.u64.wrap (-22)) 31 = 10 := by decide +kernel
  have HR : Hid (bits .or .u32 (IntKind.u32.wrap ((x : Int) * 1024)) ((x : Int) / 4194304) = ((rotN x 22 : Nat) : Int)) := Lib.hid (rotI hx (n := 22) (by omega) (by omega))
  go_enter Tryd.func60, Tryd.ntmps60
  go_wp2
  go_ret
  exact ⟨ret_u32 HR.out, rfl⟩
theorem turn25 (x : Nat) (hx : W32 x) (w : World) :
    Calls Tryd.prog 60 #[.int .u32 x, .int .i64 25] w fun e w' => e = .returned (.int .u32 (rotN x 25 : Nat)) ∧ w = w' := by
  have hq : bits .and .u64 (IntKind.u64.wrap (-25)) 31 = 7 := by decide +kernel
  have HR : Hid (bits .or .u32 (IntKind.u32.wrap ((x : Int) * 128)) ((x : Int) / 33554432) = ((rotN x 25 : Nat) : Int)) := Lib.hid (rotI hx (n := 25) (by omega) (by omega))
  go_enter Tryd.func60, Tryd.ntmps60
  go_wp2
  go_ret
  exact ⟨ret_u32 HR.out, rfl⟩
end Go.Proofs.YtccoicjmmeoggaaDoor

/- The steps of a region whose order is drawn, taken by hand: the place that is written is named. Each theorem states its conditions. -/
namespace Go.Proofs.YtccoicjmmeoggaaDoor
open Go.RowKit
set_option linter.unusedVariables false

section
variable {P : Program} {ops : Array Oper} {Q : Exit → Act → World → Prop} {md : Region.Mode} {S : World → Prop}
/-- what may come up, is wanted and yields v is taken first -/
theorem takeY {i : Nat} {oi : Oper} (d : Option Tmp) {v : Value} {fuel : Nat} {listed : Array Bool} {a : Act} {w : World} (hi : ops[i]? = some oi) (hd : oi.dst = d)
    (hs : Region.noSelect ops = true) (hf : Region.free md ops listed i = true) (hr : (Region.ready md ops listed).contains i = true)
    (hQ : ∀ c a w, Q (.panic c) (a.put d v) w → Q (.panic c) a w) (hw : Region.wanted oi (yielded ops a.tmps) = true) (hy : ∀ w, S w → (execOp a.eval oi).run P w = .ok (.value v) w) (hS : S w)
    (h : wpAnyH P md ops Q S fuel (listed.setIfInBounds i true) (a.put d v) w) : wpAnyH P md ops Q S (fuel + 1) listed a w := by
  subst hd
  exact wpAnyH_take hi hs hf hr hQ (.inl ⟨hw, hy⟩) hS h
/-- what may come up and is not wanted -/
theorem takeN {i : Nat} {oi : Oper} (d : Option Tmp) {fuel : Nat} {listed : Array Bool} {a : Act} {w : World} (hi : ops[i]? = some oi) (hd : oi.dst = d)
    (hs : Region.noSelect ops = true) (hf : Region.free md ops listed i = true) (hr : (Region.ready md ops listed).contains i = true)
    (hQ : ∀ c a w, Q (.panic c) (a.put d undef) w → Q (.panic c) a w) (hw : Region.wanted oi (yielded ops a.tmps) = false) (hS : S w)
    (h : wpAnyH P md ops Q S fuel (listed.setIfInBounds i true) (a.put d undef) w) : wpAnyH P md ops Q S (fuel + 1) listed a w := by
  subst hd
  exact wpAnyH_take hi hs hf hr hQ (.inr ⟨hw, rfl⟩) hS h
/-- a row of cells is read -/
theorem takeL {i : Nat} {oi : Oper} (d : Option Tmp) {fuel : Nat} {listed : Array Bool} {a : Act} {w : World} (ty : TypeId) (x : Operand) (b o : Nat) (cs : Array Value) (dd : TypeDesc) (hi : ops[i]? = some oi) (hd : oi.dst = d)
    (hs : Region.noSelect ops = true) (hf : Region.free md ops listed i = true) (hr : (Region.ready md ops listed).contains i = true)
    (hQ : ∀ c a w, Q (.panic c) (a.put d (.agg cs)) w → Q (.panic c) a w) (hw : Region.wanted oi (yielded ops a.tmps) = true) (ho : oi.op = .load ty x)
    (hx : a.eval x = .pointer (some ⟨b, o, none⟩)) (hr2 : ∀ w, S w → w.rangeAt b o cs.toList) (hu : P.underlying ty = some dd) (hdd : dd.isRow = true) (hz : (P.info? ty).map (·.size) = some cs.toList.length) (hS : S w)
    (h : wpAnyH P md ops Q S fuel (listed.setIfInBounds i true) (a.put d (.agg cs)) w) : wpAnyH P md ops Q S (fuel + 1) listed a w := by
  subst hd
  exact wpAnyH_take hi hs hf hr (by simpa using hQ) (by simpa using yieldsIf_load_mid (P := P) hw ty x ho b o hx cs.toList dd hr2 hu hdd hz) hS h
/-- one alone may come up: it is run -/
theorem only {i : Nat} {oi : Oper} (d : Option Tmp) (op : Op) {fuel : Nat} {listed : Array Bool} {a : Act} {w : World} (hi : ops[i]? = some oi) (hd : oi.dst = d) (ho : oi.op = op)
    (hr : Region.ready md ops listed = [i]) (hw : Region.wanted oi (yielded ops a.tmps) = true)
    (h : ∀ K' : Act → World → Prop, Shut (∀ a w, S w → (S w → wpAnyH P md ops Q S fuel (listed.setIfInBounds i true) a w) → K' a w) → Oper.wp P { oi with dst := d, op := op } a w K' Q) :
    wpAnyH P md ops Q S (fuel + 1) listed a w := by
  subst hd ho
  refine wpAnyH_ready hr (by simp) (AllReadyH.cons hi (fun K hK => ?_) AllReadyH.nil)
  rw [if_pos hw]
  exact h K hK
/-- a call alone may come up -/
theorem takeC {i : Nat} {oi : Oper} (d : Option Tmp) (f : FuncId) (args : Array Value) (v : Value) {R : World → Prop} {fuel : Nat} {listed : Array Bool} {a : Act} {w : World} (hi : ops[i]? = some oi) (hd : oi.dst = d)
    (hr : Region.ready md ops listed = [i]) (hw : Region.wanted oi (yielded ops a.tmps) = true) (hx : (execOp a.eval oi).run P w = .ok (.enter f args) w)
    (hc : Calls P f args w fun e w' => e = .returned v ∧ R w') (hS : ∀ w', R w' → S w')
    (h : ∀ w', R w' → S w' → wpAnyH P md ops Q S fuel (listed.setIfInBounds i true) (a.put d v) w') : wpAnyH P md ops Q S (fuel + 1) listed a w := by
  subst hd
  refine wpAnyH_ready hr (by simp) (AllReadyH.cons hi (fun K hK => ?_) AllReadyH.nil)
  rw [if_pos hw]
  unfold Oper.wp
  rw [hx, Oper.upon_enter]
  refine hc.mono ?_
  rintro e w' ⟨rfl, hR⟩
  exact hK.out _ _ (hS w' hR) (h w' hR)
/-- a variable of the call's own is written whole -/
theorem takeS {i : Nat} {oi : Oper} {ty : TypeId} {cells old : Array Value} {b : Nat} {fuel : Nat} {listed : Array Bool} {a : Act} {w : World} (x y : Operand) (hi : ops[i]? = some oi) (hd : oi.dst = none) (ho : oi.op = .store ty x y)
    (hr : Region.ready md ops listed = [i]) (hw : Region.wanted oi (yielded ops a.tmps) = true) (hx : a.eval x = .pointer (some ⟨b, 0, none⟩)) (hy : a.eval y = .agg cells)
    (hg : w.heap[b]? = some (.cells old ty (0, 0))) (hz : (P.info? ty).map (·.size) = some cells.size) (hs : old.size = cells.size) (h1 : cells.all (·.oneCell') = true)
    (hS : ∀ w', w'.heap[b]? = some (.cells cells ty (0, 0)) → (∀ B, B ≤ b → Below B w w') → (∀ k, k ≠ b → w'.heap[k]? = w.heap[k]?) → S w')
    (h : ∀ w', w'.heap[b]? = some (.cells cells ty (0, 0)) → (∀ B, B ≤ b → Below B w w') → (∀ k, k ≠ b → w'.heap[k]? = w.heap[k]?) → S w' → wpAnyH P md ops Q S fuel (listed.setIfInBounds i true) (a.put none undef) w') :
    wpAnyH P md ops Q S (fuel + 1) listed a w := by
  refine wpAnyH_ready hr (by simp) (AllReadyH.cons hi (fun K hK => ?_) AllReadyH.nil)
  rw [if_pos hw]
  have hrun := run_storeVar_row (P := P) w b ty ty old cells hg hz hs h1
  have e1 := setRow_heap w b old cells ty (0, 0) hg
  have e2 : ∀ B, B ≤ b → Below B w (w.setRow b cells) := fun B hB => ⟨rfl, rfl, rfl, by simp [World.setRow], fun k hk => setRow_other w b k cells (by omega)⟩
  have e3 : ∀ k, k ≠ b → (w.setRow b cells).heap[k]? = w.heap[k]? := fun k hk => setRow_other w b k cells hk
  unfold Oper.wp execOp
  simp only [ho, hx, hy, Instr.storeAt, Instr.sureAddr, Sem.run_bind, Sem.run_pure, Result.andThen_ok, hrun]
  have := hK.out (a.put none undef) _ (hS _ e1 e2 e3) (h _ e1 e2 e3)
  rw [← hd] at this
  exact this
/-- one cell is written -/
theorem takeW {i : Nat} {oi : Oper} {w' : World} {fuel : Nat} {listed : Array Bool} {a : Act} {w : World} (hi : ops[i]? = some oi) (hd : oi.dst = none)
    (hr : Region.ready md ops listed = [i]) (hw : Region.wanted oi (yielded ops a.tmps) = true) (hx : (execOp a.eval oi).run P w = .ok .skip w')
    (hS : S w') (h : wpAnyH P md ops Q S fuel (listed.setIfInBounds i true) (a.put none undef) w') : wpAnyH P md ops Q S (fuel + 1) listed a w := by
  refine wpAnyH_ready hr (by simp) (AllReadyH.cons hi (fun K hK => ?_) AllReadyH.nil)
  rw [if_pos hw]
  unfold Oper.wp
  rw [hx, Oper.upon_skip, hd]
  exact hK.out _ _ hS (fun _ => h)
end
end Go.Proofs.YtccoicjmmeoggaaDoor

/- More steps by hand: calls told with what they answer, stores into a block, loads of runs of cells; a value is equal to itself. Each theorem states its conditions. -/
namespace Go.Proofs.YtccoicjmmeoggaaDoor
open Go.RowKit
open Go.Extern.Stop (cell)
set_option linter.unusedVariables false

section
variable {P : Program} {ops : Array Oper} {Q : Exit → Act → World → Prop} {md : Region.Mode} {S : World → Prop}
/-- one alone may come up: it yields v and turns the world -/
theorem takeV {i : Nat} {oi : Oper} (d : Option Tmp) {v : Value} {w' : World} {fuel : Nat} {listed : Array Bool} {a : Act} {w : World} (hi : ops[i]? = some oi) (hd : oi.dst = d)
    (hr : Region.ready md ops listed = [i]) (hw : Region.wanted oi (yielded ops a.tmps) = true) (hx : (execOp a.eval oi).run P w = .ok (.value v) w')
    (hS : S w') (h : wpAnyH P md ops Q S fuel (listed.setIfInBounds i true) (a.put d v) w') : wpAnyH P md ops Q S (fuel + 1) listed a w := by
  subst hd
  refine wpAnyH_ready hr (by simp) (AllReadyH.cons hi (fun K hK => ?_) AllReadyH.nil)
  rw [if_pos hw]
  unfold Oper.wp
  rw [hx, Oper.upon_value]
  exact hK.out _ _ hS (fun _ => h)
/-- of several that may come up: one that yields v and turns the world -/
theorem consVW {i : Nat} {oi : Oper} (d : Option Tmp) {v : Value} {w' : World} {rs : List Nat} {fuel : Nat} {listed : Array Bool} {a : Act} {w : World} (hi : ops[i]? = some oi) (hd : oi.dst = d)
    (hw : Region.wanted oi (yielded ops a.tmps) = true) (hx : (execOp a.eval oi).run P w = .ok (.value v) w') (hS : S w')
    (h : wpAnyH P md ops Q S fuel (listed.setIfInBounds i true) (a.put d v) w') (hs : AllReadyH P md ops Q S fuel listed a w rs) : AllReadyH P md ops Q S fuel listed a w (i :: rs) := by
  subst hd
  refine AllReadyH.cons hi (fun K hK => ?_) hs
  rw [if_pos hw]
  unfold Oper.wp
  rw [hx, Oper.upon_value]
  exact hK.out _ _ hS (fun _ => h)
/-- a call alone may come up, told with what it answers -/
theorem takeCE {i : Nat} {oi : Oper} (d : Option Tmp) (f : FuncId) (args : Array Value) {R : Value → World → Prop} {fuel : Nat} {listed : Array Bool} {a : Act} {w : World} (hi : ops[i]? = some oi) (hd : oi.dst = d)
    (hr : Region.ready md ops listed = [i]) (hw : Region.wanted oi (yielded ops a.tmps) = true) (hx : (execOp a.eval oi).run P w = .ok (.enter f args) w)
    (hc : Calls P f args w fun e w' => ∃ v, e = .returned v ∧ R v w') (hS : ∀ v w', R v w' → S w')
    (h : ∀ v w', R v w' → S w' → wpAnyH P md ops Q S fuel (listed.setIfInBounds i true) (a.put d v) w') : wpAnyH P md ops Q S (fuel + 1) listed a w := by
  subst hd
  refine wpAnyH_ready hr (by simp) (AllReadyH.cons hi (fun K hK => ?_) AllReadyH.nil)
  rw [if_pos hw]
  unfold Oper.wp
  rw [hx, Oper.upon_enter]
  refine hc.mono ?_
  rintro e w' ⟨v, rfl, hR⟩
  exact hK.out _ _ (hS v w' hR) (h v w' hR)
/-- of several that may come up: a call, told with what it answers -/
theorem consCE {i : Nat} {oi : Oper} (d : Option Tmp) (f : FuncId) (args : Array Value) {R : Value → World → Prop} {rs : List Nat} {fuel : Nat} {listed : Array Bool} {a : Act} {w : World} (hi : ops[i]? = some oi) (hd : oi.dst = d)
    (hw : Region.wanted oi (yielded ops a.tmps) = true) (hx : (execOp a.eval oi).run P w = .ok (.enter f args) w)
    (hc : Calls P f args w fun e w' => ∃ v, e = .returned v ∧ R v w') (hS : ∀ v w', R v w' → S w')
    (h : ∀ v w', R v w' → S w' → wpAnyH P md ops Q S fuel (listed.setIfInBounds i true) (a.put d v) w') (hs : AllReadyH P md ops Q S fuel listed a w rs) : AllReadyH P md ops Q S fuel listed a w (i :: rs) := by
  subst hd
  refine AllReadyH.cons hi (fun K hK => ?_) hs
  rw [if_pos hw]
  unfold Oper.wp
  rw [hx, Oper.upon_enter]
  refine hc.mono ?_
  rintro e w' ⟨v, rfl, hR⟩
  exact hK.out _ _ (hS v w' hR) (h v w' hR)
end
def putMany (cur : Array Value) : Nat → List Value → Array Value
  | _, [] => cur
  | o, v :: r => putMany (cur.setIfInBounds o v) (o + 1) r
theorem heap_setMany (b : Nat) (t : TypeId) : ∀ (vs : List Value) (o : Nat) (w : World) (cur : Array Value), w.heap[b]? = some (.cells cur t (0, 0)) → (w.setCells b o vs).heap[b]? = some (.cells (putMany cur o vs) t (0, 0)) := by
  intro vs
  induction vs with
  | nil => intro o w cur h; exact h
  | cons v r ih =>
    intro o w cur h
    refine ih (o + 1) _ _ ?_
    simp [World.setCell, Array.getElem?_modify, h]
theorem below_setMany (b : Nat) : ∀ (vs : List Value) (o : Nat) (w : World) (B : Nat), B ≤ b → Below B w (w.setCells b o vs) := by
  intro vs
  induction vs with
  | nil => intro o w B _; exact Below.refl _ _
  | cons v r ih =>
    intro o w B hB
    exact ((Below.refl B w).setCell (p := ⟨b, o, none⟩) hB v).trans (ih (o + 1) _ B hB)
theorem other_setMany (b k : Nat) (hk : k ≠ b) : ∀ (vs : List Value) (o : Nat) (w : World), (w.setCells b o vs).heap[k]? = w.heap[k]? := by
  intro vs
  induction vs with
  | nil => intro o w; rfl
  | cons v r ih =>
    intro o w
    exact (ih (o + 1) _).trans (Below.heap_setCell w ⟨b, o, none⟩ v k hk)
/-- what a store into block b leaves -/
def Stored (w w' : World) (b : Nat) (C : Array Value) (t : TypeId) : Prop := w'.heap[b]? = some (.cells C t (0, 0)) ∧ (∀ B, B ≤ b → Below B w w') ∧ ∀ k, k ≠ b → w'.heap[k]? = w.heap[k]?
theorem run_store_blk (o : Oper) (e : Operand → Value) {w : World} (ty : TypeId) (x y : Operand) (ho : o.op = .store ty x y) (b off : Nat) (hx : e x = .pointer (some ⟨b, off, none⟩)) (v : Value) (cells : Array Value) (hy : e y = v) (hv : v.cells = cells)
    (hi : (Tryd.prog.info? ty).map (·.size) = some cells.size) (h1 : cells.all (·.oneCell') = true) {C C' : Array Value} {t : TypeId} (hg : w.heap[b]? = some (.cells C t (0, 0))) (hfit : off + cells.size ≤ C.size) (hC : putMany C off cells.toList = C') :
    ∃ w', (execOp e o).run Tryd.prog w = .ok .skip w' ∧ Stored w w' b C' t := by
  subst hC
  have hthere : ∀ j, j < cells.size → (w.cell? ⟨b, off + j, none⟩).isSome = true ∧ w.frozen? ⟨b, off + j, none⟩ = false := fun j hj => by
    refine ⟨?_, by simp [World.frozen?, hg]⟩
    rw [cell_of_row w b (off + j) _ _ _ hg, Array.getElem?_eq_getElem (by omega)]
    rfl
  have hrun : (storeVar ty ⟨b, off, none⟩ v).run Tryd.prog w = .ok () (w.setCells b off cells.toList) := by
    have := run_storeCells_cells (P := Tryd.prog) b off cells.toList 0 w (fun j hj => by simpa using (hthere j (by simpa using hj)).1) (fun j hj => by simpa using (hthere j (by simpa using hj)).2)
      (fun v hv => (Array.all_eq_true_iff_forall_mem.1 h1) v (by simpa using hv))
    cases hq : Tryd.prog.info? ty with
    | none => simp [hq] at hi
    | some i =>
      have hs : cells.size = i.size := by simp [hq] at hi; omega
      simp only [Nat.add_zero] at this
      simp [storeVar, sizeOf, typeInfo, hq, hv, hs, this]
  refine ⟨_, ?_, heap_setMany b t cells.toList off w C hg, fun B hB => below_setMany b _ off w B hB, fun k hk => other_setMany b k hk _ off w⟩
  unfold execOp
  simp only [ho, hx, hy, Instr.storeAt, Instr.sureAddr, Sem.run_bind, Sem.run_pure, Result.andThen_ok, hrun]
section
variable {ops : Array Oper} {Q : Exit → Act → World → Prop}
/-- a store, in the order of the text -/
theorem wpList_st {rest : List Oper} {op : Oper} {a : Act} {w : World} (hgd : op.guard = none) (ty : TypeId) (x y : Operand) (ho : op.op = .store ty x y) (b off : Nat) (hx : a.eval x = .pointer (some ⟨b, off, none⟩)) (v : Value) (cells : Array Value) (hy : a.eval y = v) (hv : v.cells = cells)
    (hi : (Tryd.prog.info? ty).map (·.size) = some cells.size) (h1 : cells.all (·.oneCell') = true) {C C' : Array Value} {t : TypeId} (hg : w.heap[b]? = some (.cells C t (0, 0))) (hfit : off + cells.size ≤ C.size) (hC : putMany C off cells.toList = C')
    (h : ∀ w', Stored w w' b C' t → wpList Tryd.prog ops Q rest (a.put op.dst undef) w') : wpList Tryd.prog ops Q (op :: rest) a w := by
  obtain ⟨w', hr, hs⟩ := run_store_blk op a.eval ty x y ho b off hx v cells hy hv hi h1 hg hfit hC
  refine wpList_plain hgd fun K hK => ?_
  unfold Oper.wp
  rw [hr, Oper.upon_skip]
  exact hK _ _ (h w' hs)
variable {md : Region.Mode} {S : World → Prop}
/-- a store, where it alone may come up -/
theorem takeSt {i : Nat} {oi : Oper} {fuel : Nat} {listed : Array Bool} {a : Act} {w : World} (ty : TypeId) (x y : Operand) (b off : Nat) (v : Value) (cells : Array Value) {C : Array Value} (C' : Array Value) {t : TypeId} (hi : ops[i]? = some oi) (hd : oi.dst = none)
    (hr : Region.ready md ops listed = [i]) (hw : Region.wanted oi (yielded ops a.tmps) = true) (ho : oi.op = .store ty x y) (hx : a.eval x = .pointer (some ⟨b, off, none⟩)) (hy : a.eval y = v) (hv : v.cells = cells)
    (hz : (Tryd.prog.info? ty).map (·.size) = some cells.size) (h1 : cells.all (·.oneCell') = true) (hg : w.heap[b]? = some (.cells C t (0, 0))) (hfit : off + cells.size ≤ C.size) (hC : putMany C off cells.toList = C')
    (h : ∀ w', Stored w w' b C' t → S w' ∧ wpAnyH Tryd.prog md ops Q S fuel (listed.setIfInBounds i true) (a.put none undef) w') : wpAnyH Tryd.prog md ops Q S (fuel + 1) listed a w := by
  obtain ⟨w', hx', hs⟩ := run_store_blk oi a.eval ty x y ho b off hx v cells hy hv hz h1 hg hfit hC
  exact takeW hi hd hr hw hx' (h w' hs).1 (h w' hs).2
end
section
variable {ops : Array Oper} {Q : Exit → Act → World → Prop}
/-- an operation that yields v -/
theorem wpList_v {rest : List Oper} {op : Oper} {a : Act} {w w' : World} (hgd : op.guard = none) (v : Value) (hx : (execOp a.eval op).run Tryd.prog w = .ok (.value v) w') (h : wpList Tryd.prog ops Q rest (a.put op.dst v) w') : wpList Tryd.prog ops Q (op :: rest) a w := by
  refine wpList_plain hgd fun K hK => ?_
  unfold Oper.wp
  rw [hx, Oper.upon_value]
  exact hK _ _ h
end
theorem load_rng (o : Oper) (e : Operand → Value) (ty : TypeId) (x : Operand) (ho : o.op = .load ty x) (b off : Nat) (hx : e x = .pointer (some ⟨b, off, none⟩)) (cs : List Value) (d : TypeDesc) {w : World} (hc : w.rangeAt b off cs) (hu : Tryd.prog.underlying ty = some d) (hd : d.isRow = true) (hi : (Tryd.prog.info? ty).map (·.size) = some cs.length) :
    (execOp e o).run Tryd.prog w = .ok (.value (.agg cs.toArray)) w := by
  unfold execOp
  simp only [ho, hx, Instr.loadAt, Instr.sureAddr, Sem.run_bind, Sem.run_pure, Result.andThen_ok, run_loadVar_mid w b off ty cs d hc hu hd hi]
/-- an operation that is wanted and yields v -/
theorem wpList_gv {ops : Array Oper} {Q : Exit → Act → World → Prop} {rest : List Oper} {op : Oper} {a : Act} {w w' : World} (v : Value) (hw : Region.wanted op (yielded ops a.tmps) = true) (hx : (execOp a.eval op).run Tryd.prog w = .ok (.value v) w') (h : wpList Tryd.prog ops Q rest (a.put op.dst v) w') : wpList Tryd.prog ops Q (op :: rest) a w := by
  refine wpList_step fun K hK => ?_
  rw [if_pos hw]
  unfold Oper.wp
  rw [hx, Oper.upon_value]
  exact hK _ _ h
/-- v is equal to itself -/
def SelfEq (d : Nat) (t : TypeId) (v : Value) : Prop := ∀ w, (Op.equalIn d t v v).run Tryd.prog w = .ok true w
theorem eqFields_self (d : Nat) (xs : Array Value) : ∀ fs : List Field, (∀ f ∈ fs, ∃ u, (∀ w, (part f.type xs f.offset).run Tryd.prog w = .ok u w) ∧ SelfEq d f.type u) → ∀ w, (Op.eqFields d xs xs fs).run Tryd.prog w = .ok true w := by
  intro fs
  induction fs with
  | nil => intro _ w; rfl
  | cons f fs ih =>
    intro h w
    obtain ⟨u, h1, h2⟩ := h f (List.mem_cons_self ..)
    have h3 := ih (fun g hg => h g (List.mem_cons_of_mem _ hg))
    unfold Op.eqFields
    by_cases hn : f.name ≠ "_"
    · rw [if_pos hn]
      simp only [Sem.run_bind, h1, Result.andThen_ok, h2 w]
      simpa using h3 w
    · rw [if_neg hn]
      exact h3 w
theorem self_struct (d : Nat) (t : TypeId) (xs : Array Value) (l : List (TypeId × Nat)) (ht : Tryd.prog.underlying t = some (.struct (Tryd.prog.fieldsOf t))) (hp : Tryd.prog.stoodInHeld t = false) (hl : (Tryd.prog.fieldsOf t).toList.map (fun f => (f.type, f.offset)) = l)
    (h : ∀ p ∈ l, ∃ u, (∀ w, (part p.1 xs p.2).run Tryd.prog w = .ok u w) ∧ SelfEq d p.1 u) : SelfEq (d + 1) t (.agg xs) := by
  intro w
  rw [run_equalIn_struct w d t xs xs ht hp]
  refine eqFields_self d xs _ (fun f hf => ?_) w
  exact h (f.type, f.offset) (by rw [← hl]; exact List.mem_map.2 ⟨f, hf, rfl⟩)
theorem self_int (d : Nat) (t : TypeId) (k : IntKind) (n : Int) (h : Tryd.prog.underlying t = some (.int k)) : SelfEq (d + 1) t (.int k n) := fun w => by rw [run_equalIn_int w d t k k n n h]; simp
theorem size_u8 : ∀ w, (sizeOf 5).run Tryd.prog w = .ok 1 w := by
  obtain ⟨i, hi, _, hz1, _⟩ := info_parts info_u8
  intro w
  simp [sizeOf, typeInfo, hi, hz1]
theorem vals_cells (z : Nat → Int) (n : Nat) (hz : ∀ j, 0 ≤ z j ∧ z j ≤ 255) : vals z n = (((List.range n).map fun j => UInt8.ofNat (z j).toNat).map cell) := by
  unfold vals
  rw [List.map_map]
  apply List.map_congr_left
  intro j _
  have := hz j
  simp [cell]
  omega
theorem self_bytes (d n : Nat) (t : TypeId) (z : Nat → Int) (hz : ∀ j, 0 ≤ z j ∧ z j ≤ 255) (h : Tryd.prog.underlying t = some (.array n 5)) : SelfEq (d + 2) t (.agg (vals z n).toArray) := by
  intro w
  rw [vals_cells z n hz]
  rw [run_equalIn_bytes w d t 5 n h Tryd.underlying5 size_u8 _ _ (by simp) (by simp)]
  simp

/-- != of a value with itself, as an operation -/
theorem neq_self (o : Oper) (e : Operand → Value) (x y : Operand) (t t' : TypeId) (ho : o.op = .binOp .neq t x y t') (htt : t = t') (hg : Tryd.prog.eqGuardType Tryd.prog.depth t = false) (xs : Array Value) (hs : SelfEq 10000 t (.agg xs)) (h0 : e x = .agg xs) (h1 : e y = .agg xs) (W : World) :
    (execOp e o).run Tryd.prog W = .ok (.value (.bool false)) W := by
  subst htt
  unfold execOp
  simp only [ho, h0, h1]
  simp [Sem.run_bind, run_eqGuard_agg _ _ _ _ _ _ _ hg, run_neq_struct, hs W]
theorem eql_self (o : Oper) (e : Operand → Value) (x y : Operand) (t t' : TypeId) (ho : o.op = .binOp .eql t x y t') (htt : t = t') (hg : Tryd.prog.eqGuardType Tryd.prog.depth t = false) (xs : Array Value) (hs : SelfEq 10000 t (.agg xs)) (h0 : e x = .agg xs) (h1 : e y = .agg xs) (W : World) :
    (execOp e o).run Tryd.prog W = .ok (.value (.bool true)) W := by
  subst htt
  unfold execOp
  simp only [ho, h0, h1]
  simp [Sem.run_bind, run_eqGuard_agg _ _ _ _ _ _ _ hg, run_eql_struct, hs W]
end Go.Proofs.YtccoicjmmeoggaaDoor

/- What lies in a block; steps that make or read a block; in the order of the text, and by hand. Each theorem states its conditions. -/
namespace Go.Proofs.YtccoicjmmeoggaaDoor
open Go.RowKit
set_option linter.unusedVariables false

/-- block g is of type t and has these cells -/
def Blk (t : TypeId) (w : World) (g : Nat) (C : Array Value) : Prop := w.heap[g]? = some (.cells C t (0, 0))
section
variable {t : TypeId} {w w' : World} {g : Nat} {C : Array Value}
theorem Blk.lt (h : Blk t w g C) : g < w.heap.size := (Array.getElem?_eq_some_iff.1 h).1
theorem Blk.below {B : Nat} (h : Blk t w g C) (hb : Below B w w') (hB : g < B) : Blk t w' g C := (hb.block g hB).trans h
theorem Blk.cell (h : Blk t w g C) (i : Nat) : w.cell? ⟨g, i, none⟩ = C[i]? := cell_of_row w g i _ _ _ h
theorem Blk.range (h : Blk t w g C) {o : Nat} {cs : List Value} (hs : ∀ j, j < cs.length → C[o + j]? = cs[j]?) : w.rangeAt g o cs := by
  intro j u hj
  rw [cell_of_row w g (o + j) _ _ _ h, hs j ?_]
  · exact hj
  · rcases Nat.lt_or_ge j cs.length with h1 | h1
    · exact h1
    · rw [List.getElem?_eq_none h1] at hj; cases hj
theorem Blk.all (h : Blk t w g C) : w.rangeAt g 0 C.toList := h.range fun j hj => by rw [Nat.zero_add, Array.getElem?_toList]
theorem Blk.far {b : Nat} {C' : Array Value} {u : TypeId} (h : Blk t w g C) (hs : Stored w w' b C' u) (hk : g ≠ b) : Blk t w' g C := (hs.2.2 g hk).trans h
theorem six {P : Nat → Prop} (h : P 0 ∧ P 1 ∧ P 2 ∧ P 3 ∧ P 4 ∧ P 5) (j : Nat) (hj : j < 6) : P j := by
  rcases (by omega : j = 0 ∨ j = 1 ∨ j = 2 ∨ j = 3 ∨ j = 4 ∨ j = 5) with rfl | rfl | rfl | rfl | rfl | rfl <;> simp_all
end
/-- a value is put into a new block -/
theorem box_run (o : Oper) (e : Operand → Value) (t : TypeId) (x : Operand) (ho : o.op = .box t x) (C : Array Value) (hx : e x = .agg C) (W : World) :
    (execOp e o).run Tryd.prog W = .ok (.value (.pointer (some ⟨W.heap.size, 0, none⟩))) (W.alloc (.cells C t)) := by
  unfold execOp
  simp only [ho, hx]
  rfl
theorem alloc_run (o : Oper) (e : Operand → Value) (t : TypeId) (ho : o.op = .alloc t) (C : Array Value) (hz : (Tryd.prog.info? t).map (·.zero) = some (some (.agg C))) (W : World) :
    (execOp e o).run Tryd.prog W = .ok (.value (.pointer (some ⟨W.heap.size, 0, none⟩))) (W.alloc (.cells C t)) := by
  unfold execOp
  simp only [ho]
  cases hq : Tryd.prog.info? t with
  | none => rw [hq] at hz; cases hz
  | some i =>
    rw [hq] at hz
    have hz' : i.zero = some (.agg C) := by simpa using hz
    simp [Instr.alloc, zeroValue, typeInfo, hq, hz', go_sem]
section
variable {ops : Array Oper} {Q : Exit → Act → World → Prop}
/-- a new block, in the order of the text -/
theorem wpList_mk {rest : List Oper} {op : Oper} {a : Act} {w : World} (hgd : op.guard = none) (t : TypeId) (C : Array Value) (hx : (execOp a.eval op).run Tryd.prog w = .ok (.value (.pointer (some ⟨w.heap.size, 0, none⟩))) (w.alloc (.cells C t)))
    (N : Nat) (hN : w.heap.size = N) (h : ∀ w', Blk t w' N C → Below w.heap.size w w' → N + 1 ≤ w'.heap.size → wpList Tryd.prog ops Q rest (a.put op.dst (.pointer (some ⟨N, 0, none⟩))) w') : wpList Tryd.prog ops Q (op :: rest) a w := by
  subst hN
  refine wpList_plain hgd fun K hK => ?_
  unfold Oper.wp
  rw [hx, Oper.upon_value]
  exact hK _ _ (h _ (heap_alloc_new w _) ((Below.refl _ _).alloc (Nat.le_refl _) _) (by simp))
theorem wpList_box {rest : List Oper} {op : Oper} {a : Act} {w : World} (hgd : op.guard = none) (t : TypeId) (x : Operand) (ho : op.op = .box t x) (C : Array Value) (hx : a.eval x = .agg C)
    (N : Nat) (hN : w.heap.size = N) (h : ∀ w', Blk t w' N C → Below w.heap.size w w' → N + 1 ≤ w'.heap.size → wpList Tryd.prog ops Q rest (a.put op.dst (.pointer (some ⟨N, 0, none⟩))) w') : wpList Tryd.prog ops Q (op :: rest) a w :=
  wpList_mk hgd t C (box_run op a.eval t x ho C hx w) N hN h
theorem wpList_new {rest : List Oper} {op : Oper} {a : Act} {w : World} (hgd : op.guard = none) (t : TypeId) (ho : op.op = .alloc t) (C : Array Value) (hz : (Tryd.prog.info? t).map (·.zero) = some (some (.agg C)))
    (N : Nat) (hN : w.heap.size = N) (h : ∀ w', Blk t w' N C → Below w.heap.size w w' → N + 1 ≤ w'.heap.size → wpList Tryd.prog ops Q rest (a.put op.dst (.pointer (some ⟨N, 0, none⟩))) w') : wpList Tryd.prog ops Q (op :: rest) a w :=
  wpList_mk hgd t C (alloc_run op a.eval t ho C hz w) N hN h
/-- a run of cells is read, in the order of the text -/
theorem wpList_ld {rest : List Oper} {op : Oper} {a : Act} {w : World} (hw : Region.wanted op (yielded ops a.tmps) = true) (ty : TypeId) (x : Operand) (ho : op.op = .load ty x) (b off : Nat) (hx : a.eval x = .pointer (some ⟨b, off, none⟩)) (cs : Array Value) (d : TypeDesc) (hc : w.rangeAt b off cs.toList) (hu : Tryd.prog.underlying ty = some d) (hd : d.isRow = true) (hi : (Tryd.prog.info? ty).map (·.size) = some cs.toList.length)
    (h : wpList Tryd.prog ops Q rest (a.put op.dst (.agg cs)) w) : wpList Tryd.prog ops Q (op :: rest) a w :=
  wpList_gv (.agg cs) hw (by have := load_rng op a.eval ty x ho b off hx cs.toList d hc hu hd hi; simpa using this) h
end
/-- a new block, where it alone may come up -/
theorem takeMk {ops : Array Oper} {Q : Exit → Act → World → Prop} {md : Region.Mode} {S : World → Prop} {i : Nat} {oi : Oper} (d : Option Tmp) {fuel : Nat} {listed : Array Bool} {a : Act} {w : World} (t : TypeId) (C : Array Value) (hi : ops[i]? = some oi) (hd : oi.dst = d)
    (hr : Region.ready md ops listed = [i]) (hw : Region.wanted oi (yielded ops a.tmps) = true) (ho : oi.op = .alloc t) (hz : (Tryd.prog.info? t).map (·.zero) = some (some (.agg C))) (N : Nat) (hN : w.heap.size = N)
    (h : ∀ w', Blk t w' N C → Below w.heap.size w w' → N + 1 ≤ w'.heap.size → S w' ∧ wpAnyH Tryd.prog md ops Q S fuel (listed.setIfInBounds i true) (a.put d (.pointer (some ⟨N, 0, none⟩))) w') : wpAnyH Tryd.prog md ops Q S (fuel + 1) listed a w := by
  subst hN
  obtain ⟨h1, h2⟩ := h _ (heap_alloc_new w _) ((Below.refl _ _).alloc (Nat.le_refl _) _) (by simp)
  exact takeV d hi hd hr hw (alloc_run oi a.eval t ho C hz w) h1 h2
/-- of several that may come up: a new block -/
theorem consMk {ops : Array Oper} {Q : Exit → Act → World → Prop} {md : Region.Mode} {S : World → Prop} {i : Nat} {oi : Oper} (d : Option Tmp) {rs : List Nat} {fuel : Nat} {listed : Array Bool} {a : Act} {w : World} (t : TypeId) (C : Array Value) (hi : ops[i]? = some oi) (hd : oi.dst = d)
    (hw : Region.wanted oi (yielded ops a.tmps) = true) (ho : oi.op = .alloc t) (hz : (Tryd.prog.info? t).map (·.zero) = some (some (.agg C))) (N : Nat) (hN : w.heap.size = N)
    (h : ∀ w', Blk t w' N C → Below w.heap.size w w' → N + 1 ≤ w'.heap.size → S w' ∧ wpAnyH Tryd.prog md ops Q S fuel (listed.setIfInBounds i true) (a.put d (.pointer (some ⟨N, 0, none⟩))) w') (hs : AllReadyH Tryd.prog md ops Q S fuel listed a w rs) : AllReadyH Tryd.prog md ops Q S fuel listed a w (i :: rs) := by
  subst hN
  obtain ⟨h1, h2⟩ := h _ (heap_alloc_new w _) ((Below.refl _ _).alloc (Nat.le_refl _) _) (by simp)
  exact consVW d hi hd hw (alloc_run oi a.eval t ho C hz w) h1 h2 hs
/-- a result that lies in a block -/
theorem results_1 {fn : Func} {q : Tmp} {t : TypeId} (h : fn.results = #[.cell q t]) (tmps : Array Value) (W : World) (g : Nat) (C : Array Value) {d : TypeDesc} (hu : Tryd.prog.underlying t = some d) (hd : d.isRow = true) (hi : (Tryd.prog.info? t).map (·.size) = some C.size)
    (hp : tmps.getD q undef = .pointer (some ⟨g, 0, none⟩)) (hg : Blk t W g C) : (results fn tmps).run Tryd.prog W = .ok (.agg C) W := by
  have h1 := run_loadVar_mid (P := Tryd.prog) W g 0 t C.toList _ hg.all hu hd (by simpa using hi)
  have hp' : (tmps[q]?).getD undef = .pointer (some ⟨g, 0, none⟩) := by simpa using hp
  simp only [results, h]
  simp [hp', asAddr, h1]
theorem results_2 {fn : Func} {q r : Tmp} {t : TypeId} (h : fn.results = #[.cell q t, .tmp r]) (tmps : Array Value) (W : World) (g : Nat) (C : Array Value) (v : Value) {d : TypeDesc} (hu : Tryd.prog.underlying t = some d) (hd : d.isRow = true) (hi : (Tryd.prog.info? t).map (·.size) = some C.size)
    (hp : tmps.getD q undef = .pointer (some ⟨g, 0, none⟩)) (hr : tmps.getD r undef = v) (hg : Blk t W g C) : (results fn tmps).run Tryd.prog W = .ok (.tuple #[.agg C, v]) W := by
  have h1 := run_loadVar_mid (P := Tryd.prog) W g 0 t C.toList _ hg.all hu hd (by simpa using hi)
  have hp' : (tmps[q]?).getD undef = .pointer (some ⟨g, 0, none⟩) := by simpa using hp
  have hr' : (tmps[r]?).getD undef = v := by simpa using hr
  simp only [results, h]
  simp [hp', hr', asAddr, h1]
end Go.Proofs.YtccoicjmmeoggaaDoor

/- Operations on words of 32 bits, told in natural numbers; a table of 64 words. Each theorem states its conditions. -/
namespace Go.Proofs.YtccoicjmmeoggaaDoor
open Go.RowKit
set_option linter.unusedVariables false

section
variable (o : Oper) (e : Operand → Value) (x y : Operand) (t u : TypeId)
theorem run_xor32 (ho : o.op = .binOp .xor t x y u) (a b : Nat) (h0 : e x = .int .u32 a) (h1 : e y = .int .u32 b) (ha : W32 a) (hb : W32 b) (W : World) : (execOp e o).run Tryd.prog W = .ok (.value (.int .u32 ((a ^^^ b : Nat) : Int))) W := by
  unfold execOp
  simp only [ho, h0, h1]
  simp [go_sem, u32_xor_nat a b ha hb]
theorem run_and32 (ho : o.op = .binOp .and t x y u) (a b : Nat) (h0 : e x = .int .u32 a) (h1 : e y = .int .u32 b) (ha : W32 a) (hb : W32 b) (W : World) : (execOp e o).run Tryd.prog W = .ok (.value (.int .u32 ((a &&& b : Nat) : Int))) W := by
  unfold execOp
  simp only [ho, h0, h1]
  simp [go_sem, u32_and_nat a b ha hb]
theorem run_add32 (ho : o.op = .binOp .add t x y u) (a b c : Nat) (h0 : e x = .int .u32 a) (h1 : e y = .int .u32 b) (hc : (a + b) % 4294967296 = c) (W : World) : (execOp e o).run Tryd.prog W = .ok (.value (.int .u32 ((c : Nat) : Int))) W := by
  subst hc
  unfold execOp
  simp only [ho, h0, h1]
  simp [go_sem, IntKind.wrap_u32']
theorem run_shr32 (k : Int) (ho : o.op = .binOp .shr t x (.const (.int .u64 k)) u) (n : Nat) (hk : k = (n : Int)) (hn : n ≤ 32) (a : Nat) (h0 : e x = .int .u32 a) (hc : ∀ v, e (.const v) = v) (W : World) : (execOp e o).run Tryd.prog W = .ok (.value (.int .u32 ((a / 2 ^ n : Nat) : Int))) W := by
  subst hk
  unfold execOp
  simp only [ho, h0, hc]
  simp [go_sem]
theorem run_sub64 (ho : o.op = .binOp .sub t x y u) (a b c : Int) (h0 : e x = .int .i64 a) (h1 : e y = .int .i64 b) (hc : a - b = c) (hr : -9223372036854775808 ≤ c ∧ c ≤ 9223372036854775807) (W : World) : (execOp e o).run Tryd.prog W = .ok (.value (.int .i64 c)) W := by
  subst hc
  unfold execOp
  simp only [ho, h0, h1]
  simp [go_sem, IntKind.wrap_i64]
  omega
theorem not32_bits (a : Nat) (ha : W32 a) : bits .xor .u32 (if IntKind.u32.signed = true then -1 else IntKind.u32.max) (a : Int) = ((4294967295 - a : Nat) : Int) := by
  unfold W32 at ha
  have hx : (4294967295 : Nat) ^^^ a = 4294967295 - a := by
    apply Nat.eq_of_testBit_eq
    intro i
    rw [show 4294967295 - a = 2 ^ 32 - (a + 1) from by omega, Nat.testBit_two_pow_sub_succ (by omega), Nat.testBit_xor]
    rw [show (4294967295 : Nat) = 2 ^ 32 - 1 from by decide, Nat.testBit_two_pow_sub_one]
    by_cases hi : i < 32
    · simp [hi]
    · have h9 : (2 : Nat) ^ 32 ≤ 2 ^ i := Nat.pow_le_pow_right (by decide) (by omega)
      have : a.testBit i = false := Nat.testBit_lt_two_pow (by omega)
      simp [hi, this]
  rw [show (if IntKind.u32.signed = true then (-1 : Int) else IntKind.u32.max) = ((4294967295 : Nat) : Int) from by decide +kernel, u32_xor_nat _ _ (by omega) ha, hx]
theorem run_not32 (ho : o.op = .unOp .xor t x) (a : Nat) (h0 : e x = .int .u32 a) (ha : W32 a) (W : World) : (execOp e o).run Tryd.prog W = .ok (.value (.int .u32 ((4294967295 - a : Nat) : Int))) W := by
  unfold execOp
  simp only [ho, h0]
  simp [go_sem, not32_bits a ha]
end
theorem Blk.drew {t : TypeId} {w : World} {g : Nat} {C : Array Value} (h : Blk t w g C) : Blk t w.drew g C := h
/-- one cell is written -/
theorem set_stored {w : World} {b : Nat} {C : Array Value} {t : TypeId} (h : Blk t w b C) (o : Nat) (v : Value) (C' : Array Value) (hC : C.setIfInBounds o v = C') : Stored w (w.setCell ⟨b, o, none⟩ v) b C' t := by
  subst hC
  exact ⟨heap_setMany b t [v] o w C h, fun B hB => below_setMany b [v] o w B hB, fun k hk => other_setMany b k hk [v] o w⟩
theorem Blk.free {t : TypeId} {w : World} {g : Nat} {C : Array Value} (h : Blk t w g C) (o : Nat) : w.frozen? ⟨g, o, none⟩ = false := by simp [World.frozen?, show w.heap[g]? = _ from h]
/-- the table of roots lies at g -/
def Rts (w : World) (g : Nat) : Prop := (∀ i, i < 64 → w.cell? ⟨g, i, none⟩ = some (.int .u32 ((rootN i : Nat) : Int))) ∧ g < w.heap.size
theorem Rts.lt {w : World} {g : Nat} (h : Rts w g) : g < w.heap.size := h.2
theorem Rts.of {w w' : World} {g : Nat} (h : Rts w g) (hb : w'.heap[g]? = w.heap[g]?) : Rts w' g := by
  refine ⟨fun i hi => (World.cell?_of_block hb).trans (h.1 i hi), ?_⟩
  rw [Array.getElem?_eq_getElem h.2] at hb
  exact (Array.getElem?_eq_some_iff.1 hb).1
theorem Rts.below {w w' : World} {g B : Nat} (h : Rts w g) (hb : Below B w w') (hB : g < B) : Rts w' g := h.of (hb.block g hB)
theorem Rts.far {w w' : World} {g b : Nat} {C' : Array Value} {u : TypeId} (h : Rts w g) (hs : Stored w w' b C' u) (hk : g ≠ b) : Rts w' g := h.of (hs.2.2 g hk)
theorem Rts.drew {w : World} {g : Nat} (h : Rts w g) : Rts w.drew g := h
/-- a table of 64 words -/
def tabC (T : Nat → Nat) : Array Value := ((List.range 64).map fun i => Value.int .u32 ((T i : Nat) : Int)).toArray
theorem tab_size (T : Nat → Nat) : (tabC T).size = 64 := by simp [tabC]
theorem tab_at (T : Nat → Nat) {i : Nat} (h : i < 64) : (tabC T)[i]? = some (.int .u32 ((T i : Nat) : Int)) := by simp [tabC, h]
theorem tab_put (T T' : Nat → Nat) {i : Nat} (h : i < 64) (v : Nat) (h1 : T' i = v) (h2 : ∀ j, j < 64 → j ≠ i → T' j = T j) : putMany (tabC T) i (#[.int .u32 ((v : Nat) : Int)] : Array Value).toList = tabC T' := by
  subst h1
  show (tabC T).setIfInBounds i _ = _
  apply Array.ext
  · simp [tabC]
  · intro j hj hk
    simp only [tabC, Array.size_setIfInBounds, List.size_toArray, List.length_map, List.length_range] at hj hk
    rw [Array.getElem_setIfInBounds (by simp [tabC]; omega)]
    by_cases e : i = j
    · subst e
      simp [tabC]
    · simp only [e, if_false, tabC, List.getElem_toArray, List.getElem_map, List.getElem_range]
      rw [h2 j (by omega) (fun h => e h.symm)]
theorem tab_congr {T T' : Nat → Nat} (h : ∀ j, j < 64 → T j = T' j) : tabC T = tabC T' := by
  unfold tabC
  congr 1
  exact List.map_congr_left fun j hj => by rw [h j (List.mem_range.1 hj)]
theorem tab_one (T : Nat → Nat) : (tabC T).all (·.oneCell') = true := by
  rw [Array.all_eq_true_iff_forall_mem]
  intro v hv
  simp only [tabC, List.mem_toArray, List.mem_map] at hv
  obtain ⟨j, _, rfl⟩ := hv
  rfl
theorem putMany_all : ∀ (l r : List Value) (p : List Value), r.length = l.length → (putMany (p ++ r).toArray p.length l) = (p ++ l).toArray := by
  intro l
  induction l with
  | nil => intro r p h; cases r <;> simp_all [putMany]
  | cons v l ih =>
    intro r p h
    cases r with
    | nil => cases h
    | cons u r =>
      simp only [putMany]
      have e : (p ++ u :: r).toArray.setIfInBounds p.length v = ((p ++ [v]) ++ r).toArray := by simp
      rw [e]
      have := ih r (p ++ [v]) (by simpa using h)
      simpa using this
theorem tab_all (T T' : Nat → Nat) : putMany (tabC T) 0 (tabC T').toList = tabC T' := by
  have := putMany_all ((List.range 64).map fun i => Value.int .u32 ((T' i : Nat) : Int)) ((List.range 64).map fun i => Value.int .u32 ((T i : Nat) : Int)) [] (by simp)
  simpa [tabC] using this
theorem tab_fit (T T' : Nat → Nat) : 0 + (tabC T').size ≤ (tabC T).size := by
  have h1 := tab_size T
  have h2 := tab_size T'
  omega
theorem zero_tab : (Tryd.prog.info? 76).map (·.zero) = some (some (.agg (tabC fun _ => 0))) := by kernel_rfl
theorem info_tab : (Tryd.prog.info? 76).map (·.size) = some 64 := by kernel_rfl
theorem info_tabT (T : Nat → Nat) : (Tryd.prog.info? 76).map (·.size) = some (tabC T).size := by rw [tab_size]; exact info_tab
theorem info_tabL (T : Nat → Nat) : (Tryd.prog.info? 76).map (·.size) = some (tabC T).toList.length := by rw [Array.length_toList]; exact info_tabT T
theorem info_u32 : (Tryd.prog.info? 39).map (·.size) = some 1 := by kernel_rfl
theorem one_int (k : IntKind) (n : Int) : (#[Value.int k n] : Array Value).all (·.oneCell') = true := by kernel_rfl
/-- a state of eight words -/
def stC (s : H8) : Array Value := #[.int .u32 (s.a : Nat), .int .u32 (s.b : Nat), .int .u32 (s.c : Nat), .int .u32 (s.d : Nat), .int .u32 (s.e : Nat), .int .u32 (s.f : Nat), .int .u32 (s.g : Nat), .int .u32 (s.h : Nat)]
theorem st_one (s : H8) : (stC s).all (·.oneCell') = true := by kernel_rfl
theorem zero_st : (Tryd.prog.info? 72).map (·.zero) = some (some (.agg (stC ⟨0, 0, 0, 0, 0, 0, 0, 0⟩))) := by kernel_rfl
theorem info_st : (Tryd.prog.info? 72).map (·.size) = some 8 := by kernel_rfl
theorem st_put (a b : H8) : putMany (stC a) 0 (stC b).toList = stC b := by kernel_rfl
end Go.Proofs.YtccoicjmmeoggaaDoor

/- mac.drawOut: the words of a block. Each theorem states its conditions. -/
namespace Go.Proofs.YtccoicjmmeoggaaDoor
open Go.RowKit
set_option linter.unusedVariables false

theorem num_w (b off n c : Nat) (z : Nat → Int) (a i : Nat) (w : World) (hr : Row8 w b off n z) (hc : n ≤ c ∧ c ≤ maxLen) (h : 4 * i + 4 ≤ n) :
    Calls Tryd.prog 73 #[.slice (some ⟨b, off, none⟩) n c, .int .i64 ((i : Int) * 4), .int .i64 4] w fun e w' => e = .returned (.tuple #[.int .u64 ((blkN z 0 i : Nat) : Int), .int .i64 0]) ∧ w = w' := by
  refine (num_ok b off n c z ((i : Int) * 4) 4 w hr.2.2 hc.2 hc.1 hr.2.1 (by omega) (by omega) (by omega) (by omega)).mono ?_
  rintro e w' ⟨rfl, rfl⟩
  refine ⟨?_, rfl⟩
  rw [blk_int hr.2.2, show ((i : Int) * 4).toNat = 0 + 4 * i from by omega, show (4 : Int).toNat = 4 from rfl]
/-- the first i words of a block -/
def fsN (B : Nat → Nat) (i : Nat) : Nat → Nat := fun j => if j < i then B j else 0
theorem fs_put (B : Nat → Nat) {i : Nat} (h : i < 64) : putMany (tabC (fsN B i)) i (#[.int .u32 ((B i : Nat) : Int)] : Array Value).toList = tabC (fsN B (i + 1)) := by
  refine tab_put _ _ h _ (by simp [fsN]) fun j hj hne => ?_
  unfold fsN
  by_cases h1 : j < i
  · rw [if_pos h1, if_pos (by omega)]
  · rw [if_neg h1, if_neg (by omega)]
theorem fs_16 (B : Nat → Nat) : tabC (fsN B 16) = tabC (fsN (wdN B) 16) := by
  refine tab_congr fun j _ => ?_
  unfold fsN
  by_cases h : j < 16
  · rw [if_pos h, if_pos h, wd_low _ _ h]
  · rw [if_neg h, if_neg h]
theorem fs_lt (B : Nat → Nat) {i j : Nat} (h : j < i) : fsN B i j = B j := if_pos h
set_option maxHeartbeats 4000000 in
set_option maxRecDepth 100000 in
theorem draw_any (b off n c : Nat) (z : Nat → Int) (w : World) (hr : Row8 w b off n z) (hc : n ≤ c ∧ c ≤ maxLen) (h64 : 64 ≤ n) :
    Calls Tryd.prog 59 #[.slice (some ⟨b, off, none⟩) n c] w fun e w' => e = .returned (.agg (tabC (wdN (blkN z 0)))) ∧ Below w.heap.size w w' := by
  have HR := Lib.hid hr
  have HC := Lib.hid hc
  have hb9 := hr.1
  clear hr hc
  go_enter Tryd.func59, Tryd.ntmps59
  have HB := Lib.hid (Below.refl w.heap.size w)
  obtain ⟨N1, hN1⟩ : ∃ N, w.heap.size = N := ⟨_, rfl⟩
  have HN1 := Lib.hid hN1
  clear hN1
  go_wp2_with (refine wpList_new (op := ⟨some 2, _, _, _, _, _⟩) rfl 76 rfl (tabC fun _ => 0) zero_tab N1 HN1.out ?_; intro w1 k1 b1 s1; refine Hid.out ?_)
  refine Lib.hid ?_
  have KR := Lib.hid k1
  clear k1
  have le_HB_N1 : w.heap.size ≤ N1 := by rw [← HN1.out]; exact HB.out.size
  have HBn := Lib.hid (HB.out.trans (b1.mono HB.out.size))
  clear HB
  have HB := HBn
  clear HBn
  clear b1 HN1
  obtain ⟨N2, hN2⟩ : ∃ N, w1.heap.size = N := ⟨_, rfl⟩
  have HN2 := Lib.hid hN2
  clear hN2
  go_wp2_with (refine wpList_new (op := ⟨some 3, _, _, _, _, _⟩) rfl 76 rfl (tabC fun _ => 0) zero_tab N2 HN2.out ?_; intro w2 k1 b1 s1; refine Hid.out ?_)
  refine Lib.hid ?_
  have KW := Lib.hid k1
  clear k1
  have lt_N1_N2 : N1 < N2 := by rw [← HN2.out]; exact KR.out.lt
  have le_HB_N2 : w.heap.size ≤ N2 := by rw [← HN2.out]; exact HB.out.size
  have KRn := Lib.hid (KR.out.below b1 KR.out.lt)
  clear KR
  have KR := KRn
  clear KRn
  have HBn := Lib.hid (HB.out.trans (b1.mono HB.out.size))
  clear HB
  have HB := HBn
  clear HBn
  clear b1 HN2
  have hNW : N1 < N2 := lt_N1_N2
  have hNR : w.heap.size ≤ N1 := le_HB_N1
  go_wp2_with fail
  go_loopw [10] (fun t wr => ∃ i : Nat, i ≤ 16 ∧ t = .int .i64 (i : Int) ∧ Hid (Blk 76 wr N1 (tabC fun _ => 0)) ∧ Hid (Blk 76 wr N2 (tabC (fsN (blkN z 0) i))) ∧ Hid (Below w.heap.size w wr)) (fun t _ => 16 - (intOf t).toNat)
  case atStart => exact ⟨0, by omega, rfl, KR, Lib.hid (by rw [show fsN (blkN z 0) 0 = fun _ => 0 from by funext j; simp [fsN]]; exact KW.out), HB⟩
  case round =>
    clear KR KW HB
    obtain ⟨i, hi, rfl, KR, KW, HB⟩ := hrel
    by_cases hlt : i < 16
    · skip
      obtain ⟨v, hv⟩ : ∃ v, blkN z 0 i = v := ⟨_, rfl⟩
      have hv32 : v < 4294967296 := by rw [← hv]; exact blk_32 HR.out.2.2 0 i
      have HV := Lib.hid hv
      clear hv
      have HR2 : Hid (Row8 wr b off n z) := Lib.hid (HR.out.below HB.out hb9)
      go_wp2_with fail
      refine (num_w b off n c z 0 i wr HR2.out HC.out (by omega)).mono ?_
      rintro e w5 ⟨rfl, rfl⟩
      rw [HV.out]
      go_wp2_with (refine wpList_st rfl 39 (.tmp 23) (.tmp 22) rfl N2 i rfl (.int .u32 ((v : Nat) : Int)) #[.int .u32 ((v : Nat) : Int)] rfl rfl info_u32 (one_int _ _) KW.out (by rw [tab_size]; show i + 1 ≤ 64; omega) (C' := tabC (fsN (blkN z 0) (i + 1))) (by rw [← HV.out]; exact fs_put _ (by omega)) ?_; intro w6 q1; refine Hid.out ?_)
      refine Lib.hid ?_
      have KRn := Lib.hid (KR.out.far q1 (by omega))
      clear KR
      have KR := KRn
      clear KRn
      have HBn := Lib.hid (HB.out.trans (q1.2.1 _ (by omega)))
      clear HB
      have HB := HBn
      clear HBn
      have KWn : Hid (Blk 76 w6 N2 (tabC (fsN (blkN z 0) (i + 1)))) := Lib.hid q1.1
      clear KW
      have KW := KWn
      clear KWn q1
      go_wp2_with fail
      go_roundw
      case rel => exact ⟨i + 1, by omega, by go_num, KR, KW, HB⟩
      case measure => simp only [intOf]; omega
    obtain rfl : i = 16 := by omega
    go_wp2_with fail
    have KW2 : Hid (Blk 76 wr N2 (tabC (fsN (wdN (blkN z 0)) 16))) := Lib.hid (by rw [← fs_16]; exact KW.out)
    clear KW
    go_loopw [7] (fun t wx => ∃ i : Nat, 16 ≤ i ∧ i ≤ 64 ∧ t = .int .i64 (i : Int) ∧ Hid (Blk 76 wx N1 (tabC fun _ => 0)) ∧ Hid (Blk 76 wx N2 (tabC (fsN (wdN (blkN z 0)) i))) ∧ Hid (Below w.heap.size w wx)) (fun t _ => 64 - (intOf t).toNat)
    case atStart => exact ⟨16, by omega, by omega, rfl, KR, KW2, HB⟩
    case round =>
      clear KR KW2 HB
      obtain ⟨i, h16, hi, rfl, KR, KW, HB⟩ := hrel
      by_cases hlt : i < 64
      · skip
        obtain ⟨v16, hv16⟩ : ∃ v, wdN (blkN z 0) (i - 16) = v := ⟨_, rfl⟩
        have H16 := Lib.hid (show W32 v16 from by rw [← hv16]; exact wd_32 _ (blk_32 HR.out.2.2 0) _ (by omega))
        have e16 : (tabC (fsN (wdN (blkN z 0)) i))[i - 16]? = some (.int .u32 ((v16 : Nat) : Int)) := by rw [tab_at _ (by omega), fs_lt _ (by omega), hv16]
        have E16 := Lib.hid e16
        obtain ⟨j16, hj16⟩ : ∃ j, i - 16 = j := ⟨_, rfl⟩
        have J16 : (i : Int) - 16 = (j16 : Int) := by omega
        have L16 : j16 < 64 := by omega
        have E16n : Hid ((tabC (fsN (wdN (blkN z 0)) i))[j16]? = some (.int .u32 ((v16 : Nat) : Int))) := Lib.hid (by rw [← hj16]; exact E16.out)
        clear E16 e16
        have E16 := E16n
        clear E16n
        obtain ⟨v15, hv15⟩ : ∃ v, wdN (blkN z 0) (i - 15) = v := ⟨_, rfl⟩
        have H15 := Lib.hid (show W32 v15 from by rw [← hv15]; exact wd_32 _ (blk_32 HR.out.2.2 0) _ (by omega))
        have e15 : (tabC (fsN (wdN (blkN z 0)) i))[i - 15]? = some (.int .u32 ((v15 : Nat) : Int)) := by rw [tab_at _ (by omega), fs_lt _ (by omega), hv15]
        have E15 := Lib.hid e15
        obtain ⟨j15, hj15⟩ : ∃ j, i - 15 = j := ⟨_, rfl⟩
        have J15 : (i : Int) - 15 = (j15 : Int) := by omega
        have L15 : j15 < 64 := by omega
        have E15n : Hid ((tabC (fsN (wdN (blkN z 0)) i))[j15]? = some (.int .u32 ((v15 : Nat) : Int))) := Lib.hid (by rw [← hj15]; exact E15.out)
        clear E15 e15
        have E15 := E15n
        clear E15n
        obtain ⟨v7, hv7⟩ : ∃ v, wdN (blkN z 0) (i - 7) = v := ⟨_, rfl⟩
        have H7 := Lib.hid (show W32 v7 from by rw [← hv7]; exact wd_32 _ (blk_32 HR.out.2.2 0) _ (by omega))
        have e7 : (tabC (fsN (wdN (blkN z 0)) i))[i - 7]? = some (.int .u32 ((v7 : Nat) : Int)) := by rw [tab_at _ (by omega), fs_lt _ (by omega), hv7]
        have E7 := Lib.hid e7
        obtain ⟨j7, hj7⟩ : ∃ j, i - 7 = j := ⟨_, rfl⟩
        have J7 : (i : Int) - 7 = (j7 : Int) := by omega
        have L7 : j7 < 64 := by omega
        have E7n : Hid ((tabC (fsN (wdN (blkN z 0)) i))[j7]? = some (.int .u32 ((v7 : Nat) : Int))) := Lib.hid (by rw [← hj7]; exact E7.out)
        clear E7 e7
        have E7 := E7n
        clear E7n
        obtain ⟨v2, hv2⟩ : ∃ v, wdN (blkN z 0) (i - 2) = v := ⟨_, rfl⟩
        have H2 := Lib.hid (show W32 v2 from by rw [← hv2]; exact wd_32 _ (blk_32 HR.out.2.2 0) _ (by omega))
        have e2 : (tabC (fsN (wdN (blkN z 0)) i))[i - 2]? = some (.int .u32 ((v2 : Nat) : Int)) := by rw [tab_at _ (by omega), fs_lt _ (by omega), hv2]
        have E2 := Lib.hid e2
        obtain ⟨j2, hj2⟩ : ∃ j, i - 2 = j := ⟨_, rfl⟩
        have J2 : (i : Int) - 2 = (j2 : Int) := by omega
        have L2 : j2 < 64 := by omega
        have E2n : Hid ((tabC (fsN (wdN (blkN z 0)) i))[j2]? = some (.int .u32 ((v2 : Nat) : Int))) := Lib.hid (by rw [← hj2]; exact E2.out)
        clear E2 e2
        have E2 := E2n
        clear E2n
        have HN := Lib.hid (show wdN (blkN z 0) i = _ from wd_next (blkN z 0) i h16 hlt)
        rw [hv16, hv15, hv7, hv2] at HN
        have HJ := Lib.hid (And.intro J16 (And.intro J15 (And.intro J7 J2)))
        clear hv16 hj16 J16 hv15 hj15 J15 hv7 hj7 J7 hv2 hj2 J2
        go_wp2_with fail
        refine wp_region_held_drew (S := fun w' => Blk 76 w' N1 (tabC fun _ => 0) ∧ Blk 76 w' N2 (tabC (fsN (wdN (blkN z 0)) i)) ∧ Below w.heap.size w w') (by kernel_rfl) ⟨KR.out, KW.out, HB.out.drew⟩ (fun hS => ?_)
        generalize hW3 : wr.drew = W3 at hS ⊢
        clear hW3
        clear KR
        clear KW
        clear HB
        have KR := Lib.hid hS.1
        have KW := Lib.hid hS.2.1
        have HB := Lib.hid hS.2.2
        refine takeY (i := 0) (some 29) (v := .int .i64 (i : Int)) rfl rfl (by kernel_rfl) (by kernel_rfl) (by kernel_rfl) (fun _ _ _ h => h) (by rfl) (fun w' hS => by go_simp) hS ?_
        simp only [Act.put, List.setIfInBounds_toArray, List.set_cons_zero, List.set_cons_succ]
        refine takeY (i := 1) (some 30) (v := .int .i64 (j15 : Int)) rfl rfl (by kernel_rfl) (by kernel_rfl) (by kernel_rfl) (fun _ _ _ h => h) (by rfl) (fun w' hS => by exact run_sub64 _ _ _ _ _ _ rfl _ _ _ rfl rfl HJ.out.2.1 (by omega) _) hS ?_
        simp only [Act.put, List.setIfInBounds_toArray, List.set_cons_zero, List.set_cons_succ]
        refine takeY (i := 2) (some 31) (v := .pointer (some ⟨N2, j15, none⟩)) rfl rfl (by kernel_rfl) (by kernel_rfl) (by kernel_rfl) (fun _ _ _ h => h) (by rfl) (fun w' hS => by (have l9 : (j15 : Int) < 64 := (by omega); go_simp)) hS ?_
        simp only [Act.put, List.setIfInBounds_toArray, List.set_cons_zero, List.set_cons_succ]
        refine takeY (i := 3) (some 32) (v := .int .u32 ((v15 : Nat) : Int)) rfl rfl (by kernel_rfl) (by kernel_rfl) (by kernel_rfl) (fun _ _ _ h => h) (by rfl) (fun w' hS => by (have c9 : w'.cell? ⟨N2, j15, none⟩ = some (.int .u32 ((v15 : Nat) : Int)) := (hS.2.1.cell j15).trans E15.out; clear hS; go_simp)) hS ?_
        simp only [Act.put, List.setIfInBounds_toArray, List.set_cons_zero, List.set_cons_succ]
        refine takeY (i := 5) (some 34) (v := .int .i64 (i : Int)) rfl rfl (by kernel_rfl) (by kernel_rfl) (by kernel_rfl) (fun _ _ _ h => h) (by rfl) (fun w' hS => by go_simp) hS ?_
        simp only [Act.put, List.setIfInBounds_toArray, List.set_cons_zero, List.set_cons_succ]
        refine takeY (i := 6) (some 35) (v := .int .i64 (j15 : Int)) rfl rfl (by kernel_rfl) (by kernel_rfl) (by kernel_rfl) (fun _ _ _ h => h) (by rfl) (fun w' hS => by exact run_sub64 _ _ _ _ _ _ rfl _ _ _ rfl rfl HJ.out.2.1 (by omega) _) hS ?_
        simp only [Act.put, List.setIfInBounds_toArray, List.set_cons_zero, List.set_cons_succ]
        refine takeY (i := 7) (some 36) (v := .pointer (some ⟨N2, j15, none⟩)) rfl rfl (by kernel_rfl) (by kernel_rfl) (by kernel_rfl) (fun _ _ _ h => h) (by rfl) (fun w' hS => by (have l9 : (j15 : Int) < 64 := (by omega); go_simp)) hS ?_
        simp only [Act.put, List.setIfInBounds_toArray, List.set_cons_zero, List.set_cons_succ]
        refine takeY (i := 8) (some 37) (v := .int .u32 ((v15 : Nat) : Int)) rfl rfl (by kernel_rfl) (by kernel_rfl) (by kernel_rfl) (fun _ _ _ h => h) (by rfl) (fun w' hS => by (have c9 : w'.cell? ⟨N2, j15, none⟩ = some (.int .u32 ((v15 : Nat) : Int)) := (hS.2.1.cell j15).trans E15.out; clear hS; go_simp)) hS ?_
        simp only [Act.put, List.setIfInBounds_toArray, List.set_cons_zero, List.set_cons_succ]
        refine takeY (i := 11) (some 40) (v := .int .i64 (i : Int)) rfl rfl (by kernel_rfl) (by kernel_rfl) (by kernel_rfl) (fun _ _ _ h => h) (by rfl) (fun w' hS => by go_simp) hS ?_
        simp only [Act.put, List.setIfInBounds_toArray, List.set_cons_zero, List.set_cons_succ]
        refine takeY (i := 12) (some 41) (v := .int .i64 (j15 : Int)) rfl rfl (by kernel_rfl) (by kernel_rfl) (by kernel_rfl) (fun _ _ _ h => h) (by rfl) (fun w' hS => by exact run_sub64 _ _ _ _ _ _ rfl _ _ _ rfl rfl HJ.out.2.1 (by omega) _) hS ?_
        simp only [Act.put, List.setIfInBounds_toArray, List.set_cons_zero, List.set_cons_succ]
        refine takeY (i := 13) (some 42) (v := .pointer (some ⟨N2, j15, none⟩)) rfl rfl (by kernel_rfl) (by kernel_rfl) (by kernel_rfl) (fun _ _ _ h => h) (by rfl) (fun w' hS => by (have l9 : (j15 : Int) < 64 := (by omega); go_simp)) hS ?_
        simp only [Act.put, List.setIfInBounds_toArray, List.set_cons_zero, List.set_cons_succ]
        refine takeY (i := 14) (some 43) (v := .int .u32 ((v15 : Nat) : Int)) rfl rfl (by kernel_rfl) (by kernel_rfl) (by kernel_rfl) (fun _ _ _ h => h) (by rfl) (fun w' hS => by (have c9 : w'.cell? ⟨N2, j15, none⟩ = some (.int .u32 ((v15 : Nat) : Int)) := (hS.2.1.cell j15).trans E15.out; clear hS; go_simp)) hS ?_
        simp only [Act.put, List.setIfInBounds_toArray, List.set_cons_zero, List.set_cons_succ]
        refine takeY (i := 15) (some 44) (v := .int .u32 ((v15 / 2 ^ 3 : Nat) : Int)) rfl rfl (by kernel_rfl) (by kernel_rfl) (by kernel_rfl) (fun _ _ _ h => h) (by rfl) (fun w' hS => by exact run_shr32 _ _ _ _ _ 3 rfl 3 rfl (by omega) _ rfl (fun _ => rfl) _) hS ?_
        simp only [Act.put, List.setIfInBounds_toArray, List.set_cons_zero, List.set_cons_succ]
        refine takeC (i := 4) (some 33) 60 #[.int .u32 ((v15 : Nat) : Int), .int .i64 7] (.int .u32 ((rotN v15 7 : Nat) : Int)) (R := fun w' => W3 = w') rfl rfl (by kernel_rfl) (by rfl) (by go_simp) (turn7 v15 H15.out _) (fun w' hb => hb ▸ hS) (fun W4 hb1 hS2 => ?_)
        subst hb1
        clear hS2
        simp only [Act.put, List.setIfInBounds_toArray, List.set_cons_zero, List.set_cons_succ]
        refine takeC (i := 9) (some 38) 60 #[.int .u32 ((v15 : Nat) : Int), .int .i64 18] (.int .u32 ((rotN v15 18 : Nat) : Int)) (R := fun w' => W3 = w') rfl rfl (by kernel_rfl) (by rfl) (by go_simp) (turn18 v15 H15.out _) (fun w' hb => hb ▸ hS) (fun W5 hb1 hS2 => ?_)
        subst hb1
        clear hS2
        simp only [Act.put, List.setIfInBounds_toArray, List.set_cons_zero, List.set_cons_succ]
        refine takeY (i := 10) (some 39) (v := .int .u32 ((rotN v15 7 ^^^ rotN v15 18 : Nat) : Int)) rfl rfl (by kernel_rfl) (by kernel_rfl) (by kernel_rfl) (fun _ _ _ h => h) (by rfl) (fun w' hS => by exact run_xor32 _ _ _ _ _ _ rfl _ _ rfl rfl (rot_lt H15.out (by omega) (by omega)) (rot_lt H15.out (by omega) (by omega)) _) hS ?_
        simp only [Act.put, List.setIfInBounds_toArray, List.set_cons_zero, List.set_cons_succ]
        refine takeY (i := 16) (some 45) (v := .int .u32 ((s0N v15 : Nat) : Int)) rfl rfl (by kernel_rfl) (by kernel_rfl) (by kernel_rfl) (fun _ _ _ h => h) (by rfl) (fun w' hS => by exact run_xor32 _ _ _ _ _ _ rfl _ _ rfl rfl (xor32 (rot_lt H15.out (by omega) (by omega)) (rot_lt H15.out (by omega) (by omega))) (div32 _ H15.out) _) hS ?_
        simp only [Act.put, List.setIfInBounds_toArray, List.set_cons_zero, List.set_cons_succ]
        refine takeY (i := 17) (some 8) (v := .int .u32 ((s0N v15 : Nat) : Int)) rfl rfl (by kernel_rfl) (by kernel_rfl) (by kernel_rfl) (fun _ _ _ h => h) (by rfl) (fun w' hS => by go_simp) hS ?_
        simp only [Act.put, List.setIfInBounds_toArray, List.set_cons_zero, List.set_cons_succ]
        clear hS
        refine wpAnyH_done (by kernel_rfl) ?_ _
        go_wp2_with fail
        refine wp_region_held_drew (S := fun w' => Blk 76 w' N1 (tabC fun _ => 0) ∧ Blk 76 w' N2 (tabC (fsN (wdN (blkN z 0)) i)) ∧ Below w.heap.size w w') (by kernel_rfl) ⟨KR.out, KW.out, HB.out.drew⟩ (fun hS => ?_)
        generalize hW6 : W3.drew = W6 at hS ⊢
        clear hW6
        clear KR
        clear KW
        clear HB
        have KR := Lib.hid hS.1
        have KW := Lib.hid hS.2.1
        have HB := Lib.hid hS.2.2
        refine takeY (i := 0) (some 46) (v := .int .i64 (i : Int)) rfl rfl (by kernel_rfl) (by kernel_rfl) (by kernel_rfl) (fun _ _ _ h => h) (by rfl) (fun w' hS => by go_simp) hS ?_
        simp only [Act.put, List.setIfInBounds_toArray, List.set_cons_zero, List.set_cons_succ]
        refine takeY (i := 1) (some 47) (v := .int .i64 (j2 : Int)) rfl rfl (by kernel_rfl) (by kernel_rfl) (by kernel_rfl) (fun _ _ _ h => h) (by rfl) (fun w' hS => by exact run_sub64 _ _ _ _ _ _ rfl _ _ _ rfl rfl HJ.out.2.2.2 (by omega) _) hS ?_
        simp only [Act.put, List.setIfInBounds_toArray, List.set_cons_zero, List.set_cons_succ]
        refine takeY (i := 2) (some 48) (v := .pointer (some ⟨N2, j2, none⟩)) rfl rfl (by kernel_rfl) (by kernel_rfl) (by kernel_rfl) (fun _ _ _ h => h) (by rfl) (fun w' hS => by (have l9 : (j2 : Int) < 64 := (by omega); go_simp)) hS ?_
        simp only [Act.put, List.setIfInBounds_toArray, List.set_cons_zero, List.set_cons_succ]
        refine takeY (i := 3) (some 49) (v := .int .u32 ((v2 : Nat) : Int)) rfl rfl (by kernel_rfl) (by kernel_rfl) (by kernel_rfl) (fun _ _ _ h => h) (by rfl) (fun w' hS => by (have c9 : w'.cell? ⟨N2, j2, none⟩ = some (.int .u32 ((v2 : Nat) : Int)) := (hS.2.1.cell j2).trans E2.out; clear hS; go_simp)) hS ?_
        simp only [Act.put, List.setIfInBounds_toArray, List.set_cons_zero, List.set_cons_succ]
        refine takeY (i := 5) (some 51) (v := .int .i64 (i : Int)) rfl rfl (by kernel_rfl) (by kernel_rfl) (by kernel_rfl) (fun _ _ _ h => h) (by rfl) (fun w' hS => by go_simp) hS ?_
        simp only [Act.put, List.setIfInBounds_toArray, List.set_cons_zero, List.set_cons_succ]
        refine takeY (i := 6) (some 52) (v := .int .i64 (j2 : Int)) rfl rfl (by kernel_rfl) (by kernel_rfl) (by kernel_rfl) (fun _ _ _ h => h) (by rfl) (fun w' hS => by exact run_sub64 _ _ _ _ _ _ rfl _ _ _ rfl rfl HJ.out.2.2.2 (by omega) _) hS ?_
        simp only [Act.put, List.setIfInBounds_toArray, List.set_cons_zero, List.set_cons_succ]
        refine takeY (i := 7) (some 53) (v := .pointer (some ⟨N2, j2, none⟩)) rfl rfl (by kernel_rfl) (by kernel_rfl) (by kernel_rfl) (fun _ _ _ h => h) (by rfl) (fun w' hS => by (have l9 : (j2 : Int) < 64 := (by omega); go_simp)) hS ?_
        simp only [Act.put, List.setIfInBounds_toArray, List.set_cons_zero, List.set_cons_succ]
        refine takeY (i := 8) (some 54) (v := .int .u32 ((v2 : Nat) : Int)) rfl rfl (by kernel_rfl) (by kernel_rfl) (by kernel_rfl) (fun _ _ _ h => h) (by rfl) (fun w' hS => by (have c9 : w'.cell? ⟨N2, j2, none⟩ = some (.int .u32 ((v2 : Nat) : Int)) := (hS.2.1.cell j2).trans E2.out; clear hS; go_simp)) hS ?_
        simp only [Act.put, List.setIfInBounds_toArray, List.set_cons_zero, List.set_cons_succ]
        refine takeY (i := 11) (some 57) (v := .int .i64 (i : Int)) rfl rfl (by kernel_rfl) (by kernel_rfl) (by kernel_rfl) (fun _ _ _ h => h) (by rfl) (fun w' hS => by go_simp) hS ?_
        simp only [Act.put, List.setIfInBounds_toArray, List.set_cons_zero, List.set_cons_succ]
        refine takeY (i := 12) (some 58) (v := .int .i64 (j2 : Int)) rfl rfl (by kernel_rfl) (by kernel_rfl) (by kernel_rfl) (fun _ _ _ h => h) (by rfl) (fun w' hS => by exact run_sub64 _ _ _ _ _ _ rfl _ _ _ rfl rfl HJ.out.2.2.2 (by omega) _) hS ?_
        simp only [Act.put, List.setIfInBounds_toArray, List.set_cons_zero, List.set_cons_succ]
        refine takeY (i := 13) (some 59) (v := .pointer (some ⟨N2, j2, none⟩)) rfl rfl (by kernel_rfl) (by kernel_rfl) (by kernel_rfl) (fun _ _ _ h => h) (by rfl) (fun w' hS => by (have l9 : (j2 : Int) < 64 := (by omega); go_simp)) hS ?_
        simp only [Act.put, List.setIfInBounds_toArray, List.set_cons_zero, List.set_cons_succ]
        refine takeY (i := 14) (some 60) (v := .int .u32 ((v2 : Nat) : Int)) rfl rfl (by kernel_rfl) (by kernel_rfl) (by kernel_rfl) (fun _ _ _ h => h) (by rfl) (fun w' hS => by (have c9 : w'.cell? ⟨N2, j2, none⟩ = some (.int .u32 ((v2 : Nat) : Int)) := (hS.2.1.cell j2).trans E2.out; clear hS; go_simp)) hS ?_
        simp only [Act.put, List.setIfInBounds_toArray, List.set_cons_zero, List.set_cons_succ]
        refine takeY (i := 15) (some 61) (v := .int .u32 ((v2 / 2 ^ 10 : Nat) : Int)) rfl rfl (by kernel_rfl) (by kernel_rfl) (by kernel_rfl) (fun _ _ _ h => h) (by rfl) (fun w' hS => by exact run_shr32 _ _ _ _ _ 10 rfl 10 rfl (by omega) _ rfl (fun _ => rfl) _) hS ?_
        simp only [Act.put, List.setIfInBounds_toArray, List.set_cons_zero, List.set_cons_succ]
        refine takeC (i := 4) (some 50) 60 #[.int .u32 ((v2 : Nat) : Int), .int .i64 17] (.int .u32 ((rotN v2 17 : Nat) : Int)) (R := fun w' => W6 = w') rfl rfl (by kernel_rfl) (by rfl) (by go_simp) (turn17 v2 H2.out _) (fun w' hb => hb ▸ hS) (fun W7 hb1 hS2 => ?_)
        subst hb1
        clear hS2
        simp only [Act.put, List.setIfInBounds_toArray, List.set_cons_zero, List.set_cons_succ]
        refine takeC (i := 9) (some 55) 60 #[.int .u32 ((v2 : Nat) : Int), .int .i64 19] (.int .u32 ((rotN v2 19 : Nat) : Int)) (R := fun w' => W6 = w') rfl rfl (by kernel_rfl) (by rfl) (by go_simp) (turn19 v2 H2.out _) (fun w' hb => hb ▸ hS) (fun W8 hb1 hS2 => ?_)
        subst hb1
        clear hS2
        simp only [Act.put, List.setIfInBounds_toArray, List.set_cons_zero, List.set_cons_succ]
        refine takeY (i := 10) (some 56) (v := .int .u32 ((rotN v2 17 ^^^ rotN v2 19 : Nat) : Int)) rfl rfl (by kernel_rfl) (by kernel_rfl) (by kernel_rfl) (fun _ _ _ h => h) (by rfl) (fun w' hS => by exact run_xor32 _ _ _ _ _ _ rfl _ _ rfl rfl (rot_lt H2.out (by omega) (by omega)) (rot_lt H2.out (by omega) (by omega)) _) hS ?_
        simp only [Act.put, List.setIfInBounds_toArray, List.set_cons_zero, List.set_cons_succ]
        refine takeY (i := 16) (some 62) (v := .int .u32 ((s1N v2 : Nat) : Int)) rfl rfl (by kernel_rfl) (by kernel_rfl) (by kernel_rfl) (fun _ _ _ h => h) (by rfl) (fun w' hS => by exact run_xor32 _ _ _ _ _ _ rfl _ _ rfl rfl (xor32 (rot_lt H2.out (by omega) (by omega)) (rot_lt H2.out (by omega) (by omega))) (div32 _ H2.out) _) hS ?_
        simp only [Act.put, List.setIfInBounds_toArray, List.set_cons_zero, List.set_cons_succ]
        refine takeY (i := 17) (some 9) (v := .int .u32 ((s1N v2 : Nat) : Int)) rfl rfl (by kernel_rfl) (by kernel_rfl) (by kernel_rfl) (fun _ _ _ h => h) (by rfl) (fun w' hS => by go_simp) hS ?_
        simp only [Act.put, List.setIfInBounds_toArray, List.set_cons_zero, List.set_cons_succ]
        clear hS
        refine wpAnyH_done (by kernel_rfl) ?_ _
        go_wp2_with fail
        have c16 : W6.cell? ⟨N2, j16, none⟩ = some (.int .u32 ((v16 : Nat) : Int)) := (KW.out.cell j16).trans E16.out
        have c7 : W6.cell? ⟨N2, j7, none⟩ = some (.int .u32 ((v7 : Nat) : Int)) := (KW.out.cell j7).trans E7.out
        have fz := KW.out.free i
        have ci : W6.cell? ⟨N2, i, none⟩ = some (.int .u32 ((0 : Nat) : Int)) := (KW.out.cell i).trans (by rw [tab_at _ hlt]; simp [fsN])
        have J16 := HJ.out.1
        have J7 := HJ.out.2.2.1
        have l16 : (j16 : Int) < 64 := by omega
        have l7 : (j7 : Int) < 64 := by omega
        have li : (i : Int) < 64 := by omega
        go_region
        go_wp2_with fail
        have e9 : (((v16 : Int) + (s0N v15 : Int) + (v7 : Int) + (s1N v2 : Int)) % 4294967296 : Int) = ((wdN (blkN z 0) i : Nat) : Int) := by rw [HN.out]; omega
        rw [e9]
        have q := set_stored KW.out i (.int .u32 ((wdN (blkN z 0) i : Nat) : Int)) (tabC (fsN (wdN (blkN z 0)) (i + 1))) (fs_put _ hlt)
        exact ⟨⟨i + 1, by omega, by omega, by simp, Lib.hid ((KR.out.far q (by omega)).drew), Lib.hid (Blk.drew q.1), Lib.hid ((HB.out.trans (q.2.1 _ (by omega))).drew)⟩, by simp [intOf]; omega⟩
      obtain rfl : i = 64 := by omega
      have KWn : Hid (Blk 76 wr N2 (tabC (wdN (blkN z 0)))) := Lib.hid (by rw [← tab_congr (T := fsN (wdN (blkN z 0)) 64) (fun j hj => fs_lt _ hj)]; exact KW.out)
      clear KW
      have KW := KWn
      clear KWn
      go_wp2_with (refine wpList_ld (op := ⟨some 78, _, _, _, _, _⟩) (by rfl) 76 (.tmp 3) rfl N2 0 rfl (tabC (wdN (blkN z 0))) _ KW.out.all Tryd.underlying76 rfl (info_tabL _) ?_; refine Hid.out ?_)
      refine Lib.hid ?_
      go_wp2_with (refine wpList_st rfl 76 (.tmp 2) (.tmp 78) rfl N1 0 rfl (.agg (tabC (wdN (blkN z 0)))) (tabC (wdN (blkN z 0))) rfl rfl (info_tabT _) (tab_one _) KR.out (tab_fit _ _) (C' := tabC (wdN (blkN z 0))) (tab_all _ _) ?_; intro w21 q1; refine Hid.out ?_)
      refine Lib.hid ?_
      have KWn := Lib.hid (KW.out.far q1 (by omega))
      clear KW
      have KW := KWn
      clear KWn
      have HBn := Lib.hid (HB.out.trans (q1.2.1 _ (by omega)))
      clear HB
      have HB := HBn
      clear HBn
      have KRn : Hid (Blk 76 w21 N1 (tabC (wdN (blkN z 0)))) := Lib.hid q1.1
      clear KR
      have KR := KRn
      clear KRn q1
      go_wp2_with fail
      exact bodyPost_ret (results_1 rfl _ _ N1 (tabC (wdN (blkN z 0))) Tryd.underlying76 rfl (info_tabT _) rfl KR.out) rfl ⟨rfl, HB.out⟩
end Go.Proofs.YtccoicjmmeoggaaDoor
