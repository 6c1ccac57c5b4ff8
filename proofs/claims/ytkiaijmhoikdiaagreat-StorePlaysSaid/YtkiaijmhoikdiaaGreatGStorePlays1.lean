/- Texts of this claim put together; each theorem states its conditions. -/
import Derived.WalkKit
import Derived.Laws.BitsAllLaws
import Derived.Laws.BitsLemmas
import Derived.Below
import Derived.Test.YtkiaijmhoikdiaaGreatRows
import Derived.WalkLawsBesides
import Derived.WalkSpells
import Derived.IntWalk
import Derived.Outline
import Derived.Lib.Hide
import Derived.Maps.AppendAt
import Derived.Laws.AppendOwnNone
import Derived.OwnWalk
import Derived.Deep.MidRow
import Derived.Laws.Tables
import Derived.Laws.Rows
import Derived.Laws.ResultCell
import Derived.Deep.RegionHeld3
import Derived.Stop.BytesEq
import Derived.Laws.IdiomStrings
import Derived.Laws.BytesArg
import Derived.LoopN
import Derived.RegionTactic
import Derived.ChangeAlike
import Derived.Deep.AppendLies
import Derived.Lib.SliceRun
import Derived.Maps.RangeRun
import Derived.Maps.Keyed
import Derived.Maps.OwnSet
import Derived.DeepKeys4
import Derived.Laws.MakeOwn
import Derived.Deep.DeepMust
import Derived.Laws.CopyOwn
import Derived.Deep.QuietTactic
import Derived.Deep.RegionWith
import Derived.BigQuiet
/- Plain facts about numbers, bytes and check bytes, without any program. Each theorem states its conditions. -/
namespace Go.Proofs.YtkiaijmhoikdiaaGreat
open Go.RowKit
set_option linter.unusedVariables false

theorem ret_int {a b : Int} (h : a = b) : Ending.returned (.int .i64 a) = .returned (.int .i64 b) := by rw [h]
theorem ret_bool {a b : Bool} (h : a = b) : Ending.returned (.bool a) = .returned (.bool b) := by rw [h]

def numZ (z : Nat → Int) (s : Nat) : Nat → Int
  | 0 => 0
  | k + 1 => numZ z s k * 256 + z (s + k)

theorem numZ_lt (z : Nat → Int) (s k : Nat) (hz : ∀ j, 0 ≤ z j ∧ z j ≤ 255) : 0 ≤ numZ z s k ∧ numZ z s k < 256 ^ k := by
  induction k with
  | zero => simp [numZ]
  | succ k ih =>
    have := hz (s + k)
    simp only [numZ, Int.pow_succ]
    omega

theorem numZ_56 (z : Nat → Int) (s k : Nat) (hk : k ≤ 7) (hz : ∀ j, 0 ≤ z j ∧ z j ≤ 255) : 0 ≤ numZ z s k ∧ numZ z s k ≤ 72057594037927935 := by
  have h := numZ_lt z s k hz
  have : (256 : Int) ^ k ≤ 256 ^ 7 := by
    clear h
    rcases (by omega : k = 0 ∨ k = 1 ∨ k = 2 ∨ k = 3 ∨ k = 4 ∨ k = 5 ∨ k = 6 ∨ k = 7) with rfl | rfl | rfl | rfl | rfl | rfl | rfl | rfl <;> decide
  have e : (256 : Int) ^ 7 = 72057594037927936 := by decide
  omega

theorem shl_or (n b : Int) (h0 : 0 ≤ n) (h1 : n ≤ 72057594037927935) (hb : 0 ≤ b ∧ b ≤ 255) : bits .or .u64 (IntKind.u64.wrap (n * 256)) b = n * 256 + b := by
  have e : IntKind.u64.wrap (n * 256) = n * 256 := by rw [IntKind.wrap_u64]; omega
  rw [e, u64_or _ _ (by omega) (by omega) (by omega) (by omega), nat_join 8 _ _ (by omega) (by omega)]
  omega

theorem numZ_step (z : Nat → Int) (s k : Nat) (hk : k ≤ 7) (hz : ∀ j, 0 ≤ z j ∧ z j ≤ 255) :
    bits .or .u64 (IntKind.u64.wrap (numZ z s k * 256)) (z (s + k)) = numZ z s (k + 1) := by
  have h := numZ_56 z s k hk hz
  rw [shl_or _ _ h.1 h.2 (hz _)]; rfl

def sumA (z : Nat → Int) (s : Nat) : Nat → Int
  | 0 => 0
  | k + 1 => if k = s ∨ k = s + 1 then sumA z s k else sumA z s k + z k

def sumB (z : Nat → Int) (s n : Nat) : Nat → Int
  | 0 => 0
  | k + 1 => if k = s ∨ k = s + 1 then sumB z s n k else sumB z s n k + z k * ((n : Int) - k)

theorem sumA_skip (z : Nat → Int) (s k : Nat) (h : k = s ∨ k = s + 1) : sumA z s (k + 1) = sumA z s k := by simp [sumA, h]
theorem sumA_take (z : Nat → Int) (s k : Nat) (h : ¬ (k = s ∨ k = s + 1)) : sumA z s (k + 1) = sumA z s k + z k := by simp [sumA, h]
theorem sumB_skip (z : Nat → Int) (s n k : Nat) (h : k = s ∨ k = s + 1) : sumB z s n (k + 1) = sumB z s n k := by simp [sumB, h]
theorem sumB_take (z : Nat → Int) (s n k : Nat) (h : ¬ (k = s ∨ k = s + 1)) : sumB z s n (k + 1) = sumB z s n k + z k * ((n : Int) - k) := by simp [sumB, h]
theorem sumA_bd (z : Nat → Int) (s k : Nat) (hz : ∀ j, 0 ≤ z j ∧ z j ≤ 255) : 0 ≤ sumA z s k ∧ sumA z s k ≤ 255 * k := by
  induction k with
  | zero => simp [sumA]
  | succ k ih =>
    have := hz k
    simp only [sumA]
    split <;> omega

theorem mul_bd (a b : Int) (c d : Int) (h0 : 0 ≤ a) (h1 : a ≤ c) (h2 : 0 ≤ b) (h3 : b ≤ d) : 0 ≤ a * b ∧ a * b ≤ c * d :=
  ⟨Int.mul_nonneg h0 h2, Int.mul_le_mul h1 h3 h2 (by omega)⟩

theorem sumB_bd (z : Nat → Int) (s n k : Nat) (hz : ∀ j, 0 ≤ z j ∧ z j ≤ 255) (hn : n ≤ 1492) (hk : k ≤ n) : 0 ≤ sumB z s n k ∧ sumB z s n k ≤ 380460 * k := by
  induction k with
  | zero => simp [sumB]
  | succ k ih =>
    have := hz k
    have h1 := mul_bd (z k) ((n : Int) - k) 255 1492 this.1 this.2 (by omega) (by omega)
    have := ih (by omega)
    simp only [sumB]
    split <;> omega

def cbI (n : Int) : Int := (n - 1) % 255 + 1
theorem cbI_bd (n : Int) : 1 ≤ cbI n ∧ cbI n ≤ 255 := by unfold cbI; omega
theorem tmod_parts (n : Int) : ∃ q, n = 255 * q + n.tmod 255 ∧ -255 < n.tmod 255 ∧ n.tmod 255 < 255 :=
  ⟨n.tdiv 255, (Int.mul_tdiv_add_tmod n 255).symm, Int.lt_tmod_of_pos n (by omega), Int.tmod_lt_of_pos n (by omega)⟩
theorem tmod_bd (n : Int) : -255 < n.tmod 255 ∧ n.tmod 255 < 255 := ⟨Int.lt_tmod_of_pos n (by omega), Int.tmod_lt_of_pos n (by omega)⟩
theorem cbI_tmod_lo (n : Int) (h : n.tmod 255 ≤ 0) : n.tmod 255 + 255 = cbI n := by
  obtain ⟨q, h1, h2, h3⟩ := tmod_parts n
  generalize n.tmod 255 = r at *
  unfold cbI
  omega
theorem cbI_tmod_hi (n : Int) (h : 0 < n.tmod 255) : n.tmod 255 = cbI n := by
  obtain ⟨q, h1, h2, h3⟩ := tmod_parts n
  generalize n.tmod 255 = r at *
  unfold cbI
  omega

theorem u16_join' (x y : Int) (hx : 1 ≤ x ∧ x ≤ 255) (hy : 1 ≤ y ∧ y ≤ 255) : bits .or .u16 (x * 256) y = x * 256 + y := by
  rw [u16_or _ _ (by omega) (by omega) (by omega) (by omega), nat_join 8 _ _ (by omega) (by omega)]
  omega
theorem ret2_eq {a b : Value} (h : a = b) (c : Value) : Ending.returned (.tuple #[a, c]) = .returned (.tuple #[b, c]) := by rw [h]
theorem u16_eq {a b : Int} (h : a = b) : Value.int .u16 a = .int .u16 b := by rw [h]

def chkX (z : Nat → Int) (s n : Nat) : Int := cbI (sumA z s n * ((n : Int) - s - 1) - sumB z s n n)
def chkY (z : Nat → Int) (s n : Nat) : Int := cbI (- sumA z s n - chkX z s n)
def chk (z : Nat → Int) (s n : Nat) : Int := chkX z s n * 256 + chkY z s n

def IsRow (k : IntKind) (w : World) (a : Option Addr) (len cap : Nat) (zs : List Int) : Prop :=
  (a = none ∧ len = 0 ∧ cap = 0 ∧ zs = []) ∨
  ∃ x, a = some x ∧ len ≤ cap ∧ cap ≤ maxLen ∧ zs.length = cap ∧ (∀ i, i < zs.length → w.cell? (x.add i) = some (.int k (zs.getD i 0))) ∧ ∀ n ∈ zs, (Lit.int k n).wf = true

theorem wf_u8 {n : Int} (h : (Lit.int .u8 n).wf = true) : 0 ≤ n ∧ n ≤ 255 := by
  simp [Lit.wf, IntKind.min, IntKind.max, IntKind.bits, IntKind.signed] at h; omega
theorem wf_u32 {n : Int} (h : (Lit.int .u32 n).wf = true) : 0 ≤ n ∧ n ≤ 4294967295 := by
  simp [Lit.wf, IntKind.min, IntKind.max, IntKind.bits, IntKind.signed] at h; omega
theorem wf_i64 {n : Int} (h : (Lit.int .i64 n).wf = true) : -9223372036854775808 ≤ n ∧ n ≤ 9223372036854775807 := by
  simp [Lit.wf, IntKind.min, IntKind.max, IntKind.bits, IntKind.signed] at h; omega

theorem balloc {a w : World} (h : Below a.heap.size a w) (o : Obj) : Below a.heap.size a (w.alloc o) := h.alloc h.size o
theorem bself (w : World) : Below w.heap.size w w := Below.refl _ _

def Row8 (w : World) (b off n : Nat) (z : Nat → Int) : Prop :=
  b < w.heap.size ∧ (∀ j, j < n → w.cell? ⟨b, off + j, none⟩ = some (.int .u8 (z j))) ∧ ∀ j, 0 ≤ z j ∧ z j ≤ 255

theorem cell_lt {w : World} {p : Addr} {v : Value} (h : w.cell? p = some v) : p.block < w.heap.size := by
  rcases Nat.lt_or_ge p.block w.heap.size with hl | hg
  · exact hl
  · simp [World.cell?, Array.getElem?_eq_none hg] at h

theorem Row8.below {w w' : World} {b off n B : Nat} {z : Nat → Int} (h : Row8 w b off n z) (hb : Below B w w') (hB : b < B) : Row8 w' b off n z := by
  refine ⟨?_, fun j hj => (hb.cell (p := ⟨b, off + j, none⟩) hB).trans (h.2.1 j hj), h.2.2⟩
  have := hb.size
  have := h.1
  omega

theorem isRow_open {w : World} {a : Option Addr} {len cap : Nat} {zs : List Int} (h : IsRow .u8 w a len cap zs) (h0 : 0 < len) :
    ∃ b off, a = some ⟨b, off, none⟩ ∧ len ≤ cap ∧ cap ≤ maxLen ∧ Row8 w b off len (fun j => zs.getD j 0) := by
  rcases h with ⟨_, hl, _⟩ | ⟨x, rfl, hlc, hm, hz, hc, hwf⟩
  · omega
  · obtain ⟨b, off, spot⟩ := x
    have hc0 := hc 0 (by omega)
    have hs : spot = none := by simpa [Addr.add] using World.cell?_spot hc0
    subst hs
    have hadd : ∀ j, (⟨b, off, none⟩ : Addr).add j = ⟨b, off + j, none⟩ := fun j => by unfold Addr.add; split <;> simp_all
    refine ⟨b, off, rfl, hlc, hm, ?_, fun j hj => ?_, fun j => ?_⟩
    · have := cell_lt hc0
      simpa [hadd] using this
    · rw [← hadd]; exact hc j (by omega)
    · rcases Nat.lt_or_ge j zs.length with hj | hj
      · have := hwf zs[j] (by simp)
        have := wf_u8 this
        simpa [List.getD, List.getElem?_eq_getElem hj] using this
      · simp [List.getD, List.getElem?_eq_none hj]

end Go.Proofs.YtkiaijmhoikdiaaGreat

/- Rows of bytes that a call reads or makes: what is known of them, and what becomes of it. Twin answers a row of its own. Each theorem states its conditions. -/
namespace Go.Proofs.YtkiaijmhoikdiaaGreat
open Go.RowKit
set_option linter.unusedVariables false

def Own8 (w : World) (g n cap : Nat) (z : Nat → Int) : Prop :=
  (∃ cur : Array Value, w.heap[g]? = some (.cells cur 5 (0, 0)) ∧ n ≤ cap ∧ cap ≤ maxLen ∧ cur.size = cap ∧ ∀ j, j < n → cur[j]? = some (.int .u8 (z j))) ∧ ∀ j, 0 ≤ z j ∧ z j ≤ 255

def Rd (w : World) (A : Option Addr) (n : Nat) (z : Nat → Int) : Prop :=
  (n = 0 ∨ ∃ b off, A = some ⟨b, off, none⟩ ∧ Row8 w b off n z) ∧ ∀ j, 0 ≤ z j ∧ z j ≤ 255

section
variable {w w' : World} {g n cap b off : Nat} {z : Nat → Int} {A : Option Addr}

theorem Own8.lt (h : Own8 w g n cap z) : g < w.heap.size := by
  obtain ⟨⟨cur, hg, _⟩, _⟩ := h
  exact (Array.getElem?_eq_some_iff.1 hg).1
theorem Own8.row (h : Own8 w g n cap z) : Row8 w g 0 n z := by
  refine ⟨h.lt, fun j hj => ?_, h.2⟩
  obtain ⟨⟨cur, hg, _, _, _, hc⟩, _⟩ := h
  rw [Nat.zero_add, cell_of_row w g j cur 5 (0, 0) hg]
  exact hc j hj
theorem Own8.caps (h : Own8 w g n cap z) : n ≤ cap ∧ cap ≤ maxLen := by
  obtain ⟨⟨cur, hg, h1, h2, _⟩, _⟩ := h
  exact ⟨h1, h2⟩
theorem Own8.free (h : Own8 w g n cap z) (j : Nat) : w.frozen? ⟨g, j, none⟩ = false := by
  obtain ⟨⟨cur, hg, _⟩, _⟩ := h
  simp [World.frozen?, hg]
theorem Own8.block (h : Own8 w g n cap z) (hb : w'.heap[g]? = w.heap[g]?) : Own8 w' g n cap z := by
  obtain ⟨⟨cur, hg, h1⟩, h2⟩ := h
  exact ⟨⟨cur, hb.trans hg, h1⟩, h2⟩
theorem Own8.below {B : Nat} (h : Own8 w g n cap z) (hb : Below B w w') (hB : g < B) : Own8 w' g n cap z := h.block (hb.block g hB)
theorem Own8.grown {row : Option Nat} (h : Own8 w g n cap z) (hb : w.grownBy w' row) (hne : some g ≠ row) : Own8 w' g n cap z := h.block (hb.block g h.lt hne)
theorem Own8.alloc (h : Own8 w g n cap z) (o : Obj) : Own8 (w.alloc o) g n cap z := h.block (Below.heap_alloc w o g h.lt)
theorem Own8.far (h : Own8 w g n cap z) {p : Addr} (hp : g ≠ p.block) (u : Value) : Own8 (w.setCell p u) g n cap z := h.block (Below.heap_setCell w p u g hp)
def upd (z : Nat → Int) (k : Nat) (v : Int) : Nat → Int := fun j => if j = k then v else z j
theorem upd_same (z : Nat → Int) (k : Nat) (v : Int) : upd z k v k = v := by simp [upd]
theorem upd_other (z : Nat → Int) (k j : Nat) (v : Int) (h : j ≠ k) : upd z k v j = z j := by simp [upd, h]
theorem upd_bd (hz : ∀ j, 0 ≤ z j ∧ z j ≤ 255) (k : Nat) (v : Int) (hv : 0 ≤ v ∧ v ≤ 255) : ∀ j, 0 ≤ upd z k v j ∧ upd z k v j ≤ 255 := by
  intro j; unfold upd; split; exact hv; exact hz j
theorem Own8.put (h : Own8 w g n cap z) (k : Nat) (hk : k < n) (v : Int) (hv : 0 ≤ v ∧ v ≤ 255) : Own8 (w.setCell ⟨g, k, none⟩ (.int .u8 v)) g n cap (upd z k v) := by
  obtain ⟨⟨cur, hg, h1, h2, h3, h4⟩, h5⟩ := h
  refine ⟨⟨cur.setIfInBounds k (.int .u8 v), ?_, h1, h2, by simpa using h3, fun j hj => ?_⟩, upd_bd h5 k v hv⟩
  · simp [World.setCell, Array.getElem?_modify, hg]
  · rw [Array.getElem?_setIfInBounds]
    by_cases e : k = j
    · subst e
      rw [if_pos rfl, if_pos (by omega), upd_same]
    · rw [if_neg e, upd_other z k j v (fun x => e x.symm)]
      exact h4 j hj
theorem Own8.cut (h : Own8 w g n cap z) (m : Nat) (hm : m ≤ n) : Own8 w g m cap z := by
  obtain ⟨⟨cur, hg, h1, h2, h3, h4⟩, h5⟩ := h
  exact ⟨⟨cur, hg, by omega, h2, h3, fun j hj => h4 j (by omega)⟩, h5⟩
theorem own_at (h : Own8 w g n cap z) (j : Nat) (hj : j < n) : w.cell? ⟨g, j, none⟩ = some (.int .u8 (z j)) := by
  have := h.row.2.1 j hj
  rwa [Nat.zero_add] at this
theorem Own8.rd (h : Own8 w g n cap z) : Rd w (some ⟨g, 0, none⟩) n z := ⟨.inr ⟨g, 0, rfl, h.row⟩, h.2⟩

theorem Rd.below {B : Nat} (h : Rd w A n z) (hb : Below B w w') (hB : B = w.heap.size) : Rd w' A n z := by
  refine ⟨?_, h.2⟩
  rcases h.1 with h0 | ⟨b, off, rfl, hr⟩
  · exact .inl h0
  · exact .inr ⟨b, off, rfl, hr.below hb (by have := hr.1; omega)⟩
theorem Rd.cut (h : Rd w A n z) (m : Nat) (hm : m ≤ n) : Rd w A m z := by
  refine ⟨?_, h.2⟩
  rcases h.1 with h0 | ⟨b, off, rfl, hr⟩
  · exact .inl (by omega)
  · exact .inr ⟨b, off, rfl, hr.1, fun j hj => hr.2.1 j (by omega), hr.2.2⟩
theorem Rd.row (h : Rd w A n z) (hn : 0 < n) : ∃ b off, A = some ⟨b, off, none⟩ ∧ Row8 w b off n z := by
  rcases h.1 with h0 | h1
  · omega
  · exact h1

theorem isRow_rd {len : Nat} {zs : List Int} (h : IsRow .u8 w A len cap zs) : Rd w A len (fun j => zs.getD j 0) ∧ (A = none → len = 0 ∧ cap = 0) := by
  rcases Nat.eq_zero_or_pos len with h0 | h0
  · refine ⟨⟨.inl h0, fun j => ?_⟩, fun hA => ?_⟩
    · rcases h with ⟨rfl, _, _, rfl⟩ | ⟨x, rfl, hlc, hm, hz, hc, hwf⟩
      · simp
      · rcases Nat.lt_or_ge j zs.length with hj | hj
        · have := wf_u8 (hwf zs[j] (by simp))
          simpa [List.getD, List.getElem?_eq_getElem hj] using this
        · simp [List.getD, List.getElem?_eq_none hj]
    · rcases h with ⟨rfl, h1, h2, rfl⟩ | ⟨x, rfl, _⟩
      · exact ⟨h1, h2⟩
      · cases hA
  · obtain ⟨b, off, rfl, _, _, hr⟩ := isRow_open h h0
    exact ⟨⟨.inr ⟨b, off, rfl, hr⟩, hr.2.2⟩, fun hA => by cases hA⟩
end

def vals (z : Nat → Int) (n : Nat) : List Value := (List.range n).map fun j => .int .u8 (z j)
theorem vals_len (z : Nat → Int) (n : Nat) : (vals z n).length = n := by simp [vals]
theorem vals_at (z : Nat → Int) (n j : Nat) (h : j < n) : (vals z n)[j]? = some (.int .u8 (z j)) := by simp [vals, h]
theorem vals_at' (z : Nat → Int) (n j : Nat) (u : Value) (h : (vals z n)[j]? = some u) : j < n ∧ u = .int .u8 (z j) := by
  have hj : j < n := by
    rcases Nat.lt_or_ge j n with hl | hg
    · exact hl
    · rw [List.getElem?_eq_none (by simpa [vals] using hg)] at h; cases h
  rw [vals_at z n j hj] at h
  exact ⟨hj, by cases h; rfl⟩
theorem vals_one (z : Nat → Int) (n : Nat) : ∀ u ∈ vals z n, u.oneCell' = true := by
  intro u hu
  simp only [vals, List.mem_map] at hu
  obtain ⟨j, _, rfl⟩ := hu
  rfl

theorem own_of {w : World} {base n : Nat} {v : Value} {xs : List Value} {z : Nat → Int} (h : w.ownsRow base 5 1 v n xs) (hxs : xs = vals z n) (hv : v ≠ .slice none 0 0) (hz : ∀ j, 0 ≤ z j ∧ z j ≤ 255) :
    ∃ g cap, v = .slice (some ⟨g, 0, none⟩) n cap ∧ base ≤ g ∧ Own8 w g n cap z := by
  subst hxs
  rcases h.2 with ⟨hv', _⟩ | ⟨g, cap, cur, rfl, hb, hg, h1, h2, h3, h4⟩
  · exact (hv hv').elim
  · refine ⟨g, cap, rfl, hb, ⟨cur, hg, h1, h2, by omega, fun j hj => ?_⟩, hz⟩
    have := vals_at z n j hj
    rw [← h4, List.getElem?_take, if_pos (by omega)] at this
    simpa using this

theorem info_u8 : (Tryz.prog.info? 5).map (fun i => (i.zero, i.size, i.bytes)) = some (some (.int .u8 0), 1, 1) := by kernel_rfl

def TwinPost (w : World) (n : Nat) (z : Nat → Int) (e : Ending) (w' : World) : Prop :=
  ∃ g cap, e = .returned (.slice (some ⟨g, 0, none⟩) n cap) ∧ w.heap.size ≤ g ∧ Own8 w' g n cap z ∧ Below w.heap.size w w'

theorem rd_news {w : World} {n : Nat} {z : Nat → Int} {ad : Addr} (h : Rd w (some ad) n z) (o : Obj) : ∀ j u, (vals z n)[j]? = some u → (w.alloc o).cell? (ad.add j) = some u := by
  intro j u hu
  obtain ⟨hj, rfl⟩ := vals_at' z n j u hu
  obtain ⟨b, off, e, hr⟩ := h.row (by omega)
  injection e with e
  subst e
  have hadd : (⟨b, off, none⟩ : Addr).add j = ⟨b, off + j, none⟩ := by unfold Addr.add; split <;> simp_all
  rw [hadd, World.cell?_alloc_lt w o _ hr.1]
  exact hr.2.1 j hj

theorem twin_any (A : Option Addr) (n c : Nat) (z : Nat → Int) (w : World) (h : Rd w A n z) (hA : A = none → n = 0 ∧ c = 0) (hn : n ≤ 140737488351232) :
    Calls Tryz.prog 15 #[.slice A n c] w (TwinPost w n z) := by
  obtain ⟨i0, hi, hz0, hz1, hz2⟩ := info_parts info_u8
  have hm : (0 : Nat) ≤ maxLen := by decide
  have hown := World.ownsRow_made (e := 5) (size := 1) (base := w.heap.size) w #[] 0 (Nat.le_refl _) hm rfl
  rcases A with _ | ⟨b, off, spot⟩
  · obtain ⟨rfl, rfl⟩ := hA rfl
    go_enter Tryz.func15, Tryz.ntmps15
    go_wp2_with (at_builtin; refine wpList_append_own_none rfl (.tmp 3) (.tmp 4) 40 rfl w.heap.size 5 i0 1 Tryz.underlying40 hi _ 0 [] rfl hown rfl ?_)
    go_ret
    refine ⟨w.heap.size, 0, rfl, Nat.le_refl _, ⟨⟨#[], heap_alloc_new w _, Nat.le_refl _, hm, rfl, fun j hj => by omega⟩, h.2⟩, (Below.refl _ _).alloc (Nat.le_refl _) _⟩
  · have hnews : ∀ j u, (vals z n)[j]? = some u → (w.alloc (.cells #[] 5)).cell? ((⟨b, off, spot⟩ : Addr).add j) = some u := rd_news h _
    have h1 := vals_one z n
    have hl := vals_len z n
    go_enter Tryz.func15, Tryz.ntmps15
    go_wp2_with (at_builtin; refine wpList_append_own_at _ rfl (.tmp 3) (.tmp 4) 40 rfl w.heap.size 5 i0 (.int .u8 0) 1 1 Tryz.underlying40 hi hz0 hz1 hz2 rfl (by decide) _ 0 [] rfl hown ⟨b, off, spot⟩ n c (vals z n) rfl (by omega) hnews h1 ?c3 ?c4 ?c5 ?_)
    case c3 => unfold maxLen; omega
    case c4 => omega
    case c5 => simp
    intro v' w1 hown1 hgrow hnil hat
    go_wp2
    go_ret
    obtain ⟨g, cap, rfl, hg, ho⟩ := own_of (by simpa using hown1) (by simp) hnil h.2
    have hb : Below w.heap.size w w1 := ((Below.refl _ _).alloc (Nat.le_refl _) _).grown hgrow (by simp) (by simp [Value.ownBlock])
    exact ⟨g, cap, rfl, hg, ho, hb⟩
end Go.Proofs.YtkiaijmhoikdiaaGreat

/- The steps of a region whose order is drawn, taken by hand: the place that is written is named. Each theorem states its conditions. -/
namespace Go.Proofs.YtkiaijmhoikdiaaGreat
open Go.RowKit
set_option linter.unusedVariables false

section
variable {P : Program} {ops : Array Oper} {Q : Exit → Act → World → Prop} {md : Region.Mode} {S : World → Prop}
theorem takeY {i : Nat} {oi : Oper} (d : Option Tmp) {v : Value} {fuel : Nat} {listed : Array Bool} {a : Act} {w : World} (hi : ops[i]? = some oi) (hd : oi.dst = d)
    (hs : Region.noSelect ops = true) (hf : Region.free md ops listed i = true) (hr : (Region.ready md ops listed).contains i = true)
    (hQ : ∀ c a w, Q (.panic c) (a.put d v) w → Q (.panic c) a w) (hw : Region.wanted oi (yielded ops a.tmps) = true) (hy : ∀ w, S w → (execOp a.eval oi).run P w = .ok (.value v) w) (hS : S w)
    (h : wpAnyH P md ops Q S fuel (listed.setIfInBounds i true) (a.put d v) w) : wpAnyH P md ops Q S (fuel + 1) listed a w := by
  subst hd
  exact wpAnyH_take hi hs hf hr hQ (.inl ⟨hw, hy⟩) hS h
theorem takeN {i : Nat} {oi : Oper} (d : Option Tmp) {fuel : Nat} {listed : Array Bool} {a : Act} {w : World} (hi : ops[i]? = some oi) (hd : oi.dst = d)
    (hs : Region.noSelect ops = true) (hf : Region.free md ops listed i = true) (hr : (Region.ready md ops listed).contains i = true)
    (hQ : ∀ c a w, Q (.panic c) (a.put d undef) w → Q (.panic c) a w) (hw : Region.wanted oi (yielded ops a.tmps) = false) (hS : S w)
    (h : wpAnyH P md ops Q S fuel (listed.setIfInBounds i true) (a.put d undef) w) : wpAnyH P md ops Q S (fuel + 1) listed a w := by
  subst hd
  exact wpAnyH_take hi hs hf hr hQ (.inr ⟨hw, rfl⟩) hS h
theorem takeL {i : Nat} {oi : Oper} (d : Option Tmp) {fuel : Nat} {listed : Array Bool} {a : Act} {w : World} (ty : TypeId) (x : Operand) (b o : Nat) (cs : Array Value) (dd : TypeDesc) (hi : ops[i]? = some oi) (hd : oi.dst = d)
    (hs : Region.noSelect ops = true) (hf : Region.free md ops listed i = true) (hr : (Region.ready md ops listed).contains i = true)
    (hQ : ∀ c a w, Q (.panic c) (a.put d (.agg cs)) w → Q (.panic c) a w) (hw : Region.wanted oi (yielded ops a.tmps) = true) (ho : oi.op = .load ty x)
    (hx : a.eval x = .pointer (some ⟨b, o, none⟩)) (hr2 : ∀ w, S w → w.rangeAt b o cs.toList) (hu : P.underlying ty = some dd) (hdd : dd.isRow = true) (hz : (P.info? ty).map (·.size) = some cs.toList.length) (hS : S w)
    (h : wpAnyH P md ops Q S fuel (listed.setIfInBounds i true) (a.put d (.agg cs)) w) : wpAnyH P md ops Q S (fuel + 1) listed a w := by
  subst hd
  exact wpAnyH_take hi hs hf hr (by simpa using hQ) (by simpa using yieldsIf_load_mid (P := P) hw ty x ho b o hx cs.toList dd hr2 hu hdd hz) hS h
theorem tY {i : Nat} {oi : Oper} (d : Option Tmp) {v : Value} {fuel : Nat} {listed : Array Bool} {a : Act} {w : World} (hi : ops[i]? = some oi) (hd : oi.dst = d)
    (hy : ∀ w, S w → (execOp a.eval oi).run P w = .ok (.value v) w) (hS : S w) (h : wpAnyH P md ops Q S fuel (listed.setIfInBounds i true) (a.put d v) w)
    (hs : Region.noSelect ops = true := by kernel_rfl) (hf : Region.free md ops listed i = true := by kernel_rfl) (hr : (Region.ready md ops listed).contains i = true := by kernel_rfl)
    (hQ : ∀ c a w, Q (.panic c) (a.put d v) w → Q (.panic c) a w := by exact fun _ _ _ h => h) (hw : Region.wanted oi (yielded ops a.tmps) = true := by rfl) : wpAnyH P md ops Q S (fuel + 1) listed a w :=
  takeY d hi hd hs hf hr hQ hw hy hS h
theorem tN {i : Nat} {oi : Oper} (d : Option Tmp) {fuel : Nat} {listed : Array Bool} {a : Act} {w : World} (hi : ops[i]? = some oi) (hd : oi.dst = d)
    (hS : S w) (h : wpAnyH P md ops Q S fuel (listed.setIfInBounds i true) (a.put d undef) w)
    (hs : Region.noSelect ops = true := by kernel_rfl) (hf : Region.free md ops listed i = true := by kernel_rfl) (hr : (Region.ready md ops listed).contains i = true := by kernel_rfl)
    (hQ : ∀ c a w, Q (.panic c) (a.put d undef) w → Q (.panic c) a w := by exact fun _ _ _ h => h) (hw : Region.wanted oi (yielded ops a.tmps) = false := by rfl) : wpAnyH P md ops Q S (fuel + 1) listed a w :=
  takeN d hi hd hs hf hr hQ hw hS h
theorem tL {i : Nat} {oi : Oper} (d : Option Tmp) {fuel : Nat} {listed : Array Bool} {a : Act} {w : World} (ty : TypeId) (x : Operand) (b o : Nat) (cs : Array Value) (dd : TypeDesc) (hi : ops[i]? = some oi) (hd : oi.dst = d)
    (ho : oi.op = .load ty x) (hx : a.eval x = .pointer (some ⟨b, o, none⟩)) (hr2 : ∀ w, S w → w.rangeAt b o cs.toList) (hu : P.underlying ty = some dd) (hdd : dd.isRow = true) (hz : (P.info? ty).map (·.size) = some cs.toList.length) (hS : S w)
    (h : wpAnyH P md ops Q S fuel (listed.setIfInBounds i true) (a.put d (.agg cs)) w)
    (hs : Region.noSelect ops = true := by kernel_rfl) (hf : Region.free md ops listed i = true := by kernel_rfl) (hr : (Region.ready md ops listed).contains i = true := by kernel_rfl)
    (hQ : ∀ c a w, Q (.panic c) (a.put d (.agg cs)) w → Q (.panic c) a w := by exact fun _ _ _ h => h) (hw : Region.wanted oi (yielded ops a.tmps) = true := by rfl) : wpAnyH P md ops Q S (fuel + 1) listed a w :=
  takeL d ty x b o cs dd hi hd hs hf hr hQ hw ho hx hr2 hu hdd hz hS h
theorem pA {α : Type} (l : List α) (i : Nat) (a : α) : l.toArray.setIfInBounds i a = (l.set i a).toArray := by simp
theorem pB {α : Type} (a b : α) (l : List α) : (a :: l).set 0 b = b :: l := rfl
theorem pC {α : Type} (a b : α) (l : List α) (i : Nat) : (a :: l).set (i + 1) b = a :: l.set i b := rfl
theorem only {i : Nat} {oi : Oper} (d : Option Tmp) (op : Op) {fuel : Nat} {listed : Array Bool} {a : Act} {w : World} (hi : ops[i]? = some oi) (hd : oi.dst = d) (ho : oi.op = op)
    (hr : Region.ready md ops listed = [i]) (hw : Region.wanted oi (yielded ops a.tmps) = true)
    (h : ∀ K' : Act → World → Prop, Shut (∀ a w, S w → (S w → wpAnyH P md ops Q S fuel (listed.setIfInBounds i true) a w) → K' a w) → Oper.wp P { oi with dst := d, op := op } a w K' Q) :
    wpAnyH P md ops Q S (fuel + 1) listed a w := by
  subst hd ho
  refine wpAnyH_ready hr (by simp) (AllReadyH.cons hi (fun K hK => ?_) AllReadyH.nil)
  rw [if_pos hw]
  exact h K hK
theorem takeC {i : Nat} {oi : Oper} (d : Option Tmp) (f : FuncId) (args : Array Value) (v : Value) {R : World → Prop} {fuel : Nat} {listed : Array Bool} {a : Act} {w : World} (hi : ops[i]? = some oi) (hd : oi.dst = d)
    (hr : Region.ready md ops listed = [i]) (hw : Region.wanted oi (yielded ops a.tmps) = true) (hx : (execOp a.eval oi).run P w = .ok (.enter f args) w)
    (hc : Calls P f args w fun e w' => e = .returned v ∧ R w') (hS : ∀ w', R w' → S w')
    (h : ∀ w', R w' → S w' → wpAnyH P md ops Q S fuel (listed.setIfInBounds i true) (a.put d v) w') : wpAnyH P md ops Q S (fuel + 1) listed a w := by
  subst hd
  refine wpAnyH_ready hr (by simp) (AllReadyH.cons hi (fun K hK => ?_) AllReadyH.nil)
  rw [if_pos hw]
  unfold Oper.wp
  rw [hx, Oper.upon_enter]
  refine hc.mono ?_
  rintro e w' ⟨rfl, hR⟩
  exact hK.out _ _ (hS w' hR) (h w' hR)
theorem takeS {i : Nat} {oi : Oper} {ty : TypeId} {cells old : Array Value} {b : Nat} {fuel : Nat} {listed : Array Bool} {a : Act} {w : World} (x y : Operand) (hi : ops[i]? = some oi) (hd : oi.dst = none) (ho : oi.op = .store ty x y)
    (hr : Region.ready md ops listed = [i]) (hw : Region.wanted oi (yielded ops a.tmps) = true) (hx : a.eval x = .pointer (some ⟨b, 0, none⟩)) (hy : a.eval y = .agg cells)
    (hg : w.heap[b]? = some (.cells old ty (0, 0))) (hz : (P.info? ty).map (·.size) = some cells.size) (hs : old.size = cells.size) (h1 : cells.all (·.oneCell') = true)
    (hS : ∀ w', w'.heap[b]? = some (.cells cells ty (0, 0)) → (∀ B, B ≤ b → Below B w w') → (∀ k, k ≠ b → w'.heap[k]? = w.heap[k]?) → S w')
    (h : ∀ w', w'.heap[b]? = some (.cells cells ty (0, 0)) → (∀ B, B ≤ b → Below B w w') → (∀ k, k ≠ b → w'.heap[k]? = w.heap[k]?) → S w' → wpAnyH P md ops Q S fuel (listed.setIfInBounds i true) (a.put none undef) w') :
    wpAnyH P md ops Q S (fuel + 1) listed a w := by
  refine wpAnyH_ready hr (by simp) (AllReadyH.cons hi (fun K hK => ?_) AllReadyH.nil)
  rw [if_pos hw]
  have hrun := run_storeVar_row (P := P) w b ty ty old cells hg hz hs h1
  have e1 := setRow_heap w b old cells ty (0, 0) hg
  have e2 : ∀ B, B ≤ b → Below B w (w.setRow b cells) := fun B hB => ⟨rfl, rfl, rfl, by simp [World.setRow], fun k hk => setRow_other w b k cells (by omega)⟩
  have e3 : ∀ k, k ≠ b → (w.setRow b cells).heap[k]? = w.heap[k]? := fun k hk => setRow_other w b k cells hk
  unfold Oper.wp execOp
  simp only [ho, hx, hy, Instr.storeAt, Instr.sureAddr, Sem.run_bind, Sem.run_pure, Result.andThen_ok, hrun]
  have := hK.out (a.put none undef) _ (hS _ e1 e2 e3) (h _ e1 e2 e3)
  rw [← hd] at this
  exact this
theorem consC {i : Nat} {oi : Oper} (d : Option Tmp) (f : FuncId) (args : Array Value) (v : Value) {R : World → Prop} {rs : List Nat} {fuel : Nat} {listed : Array Bool} {a : Act} {w : World} (hi : ops[i]? = some oi) (hd : oi.dst = d)
    (hw : Region.wanted oi (yielded ops a.tmps) = true) (hx : (execOp a.eval oi).run P w = .ok (.enter f args) w)
    (hc : Calls P f args w fun e w' => e = .returned v ∧ R w') (hS : ∀ w', R w' → S w')
    (h : ∀ w', R w' → S w' → wpAnyH P md ops Q S fuel (listed.setIfInBounds i true) (a.put d v) w') (hs : AllReadyH P md ops Q S fuel listed a w rs) : AllReadyH P md ops Q S fuel listed a w (i :: rs) := by
  subst hd
  refine AllReadyH.cons hi (fun K hK => ?_) hs
  rw [if_pos hw]
  unfold Oper.wp
  rw [hx, Oper.upon_enter]
  refine hc.mono ?_
  rintro e w' ⟨rfl, hR⟩
  exact hK.out _ _ (hS w' hR) (h w' hR)
theorem takeW {i : Nat} {oi : Oper} {w' : World} {fuel : Nat} {listed : Array Bool} {a : Act} {w : World} (hi : ops[i]? = some oi) (hd : oi.dst = none)
    (hr : Region.ready md ops listed = [i]) (hw : Region.wanted oi (yielded ops a.tmps) = true) (hx : (execOp a.eval oi).run P w = .ok .skip w')
    (hS : S w') (h : wpAnyH P md ops Q S fuel (listed.setIfInBounds i true) (a.put none undef) w') : wpAnyH P md ops Q S (fuel + 1) listed a w := by
  refine wpAnyH_ready hr (by simp) (AllReadyH.cons hi (fun K hK => ?_) AllReadyH.nil)
  rw [if_pos hw]
  unfold Oper.wp
  rw [hx, Oper.upon_skip, hd]
  exact hK.out _ _ hS (fun _ => h)
end
end Go.Proofs.YtkiaijmhoikdiaaGreat

/- More steps by hand: calls told with what they answer, stores into a block, loads of runs of cells; a value is equal to itself. Each theorem states its conditions. -/
namespace Go.Proofs.YtkiaijmhoikdiaaGreat
open Go.RowKit
open Go.Extern.Stop (cell)
set_option linter.unusedVariables false

section
variable {P : Program} {ops : Array Oper} {Q : Exit → Act → World → Prop} {md : Region.Mode} {S : World → Prop}
theorem takeV {i : Nat} {oi : Oper} (d : Option Tmp) {v : Value} {w' : World} {fuel : Nat} {listed : Array Bool} {a : Act} {w : World} (hi : ops[i]? = some oi) (hd : oi.dst = d)
    (hr : Region.ready md ops listed = [i]) (hw : Region.wanted oi (yielded ops a.tmps) = true) (hx : (execOp a.eval oi).run P w = .ok (.value v) w')
    (hS : S w') (h : wpAnyH P md ops Q S fuel (listed.setIfInBounds i true) (a.put d v) w') : wpAnyH P md ops Q S (fuel + 1) listed a w := by
  subst hd
  refine wpAnyH_ready hr (by simp) (AllReadyH.cons hi (fun K hK => ?_) AllReadyH.nil)
  rw [if_pos hw]
  unfold Oper.wp
  rw [hx, Oper.upon_value]
  exact hK.out _ _ hS (fun _ => h)
theorem consVW {i : Nat} {oi : Oper} (d : Option Tmp) {v : Value} {w' : World} {rs : List Nat} {fuel : Nat} {listed : Array Bool} {a : Act} {w : World} (hi : ops[i]? = some oi) (hd : oi.dst = d)
    (hw : Region.wanted oi (yielded ops a.tmps) = true) (hx : (execOp a.eval oi).run P w = .ok (.value v) w') (hS : S w')
    (h : wpAnyH P md ops Q S fuel (listed.setIfInBounds i true) (a.put d v) w') (hs : AllReadyH P md ops Q S fuel listed a w rs) : AllReadyH P md ops Q S fuel listed a w (i :: rs) := by
  subst hd
  refine AllReadyH.cons hi (fun K hK => ?_) hs
  rw [if_pos hw]
  unfold Oper.wp
  rw [hx, Oper.upon_value]
  exact hK.out _ _ hS (fun _ => h)
theorem takeCE {i : Nat} {oi : Oper} (d : Option Tmp) (f : FuncId) (args : Array Value) {R : Value → World → Prop} {fuel : Nat} {listed : Array Bool} {a : Act} {w : World} (hi : ops[i]? = some oi) (hd : oi.dst = d)
    (hr : Region.ready md ops listed = [i]) (hw : Region.wanted oi (yielded ops a.tmps) = true) (hx : (execOp a.eval oi).run P w = .ok (.enter f args) w)
    (hc : Calls P f args w fun e w' => ∃ v, e = .returned v ∧ R v w') (hS : ∀ v w', R v w' → S w')
    (h : ∀ v w', R v w' → S w' → wpAnyH P md ops Q S fuel (listed.setIfInBounds i true) (a.put d v) w') : wpAnyH P md ops Q S (fuel + 1) listed a w := by
  subst hd
  refine wpAnyH_ready hr (by simp) (AllReadyH.cons hi (fun K hK => ?_) AllReadyH.nil)
  rw [if_pos hw]
  unfold Oper.wp
  rw [hx, Oper.upon_enter]
  refine hc.mono ?_
  rintro e w' ⟨v, rfl, hR⟩
  exact hK.out _ _ (hS v w' hR) (h v w' hR)
theorem consCE {i : Nat} {oi : Oper} (d : Option Tmp) (f : FuncId) (args : Array Value) {R : Value → World → Prop} {rs : List Nat} {fuel : Nat} {listed : Array Bool} {a : Act} {w : World} (hi : ops[i]? = some oi) (hd : oi.dst = d)
    (hw : Region.wanted oi (yielded ops a.tmps) = true) (hx : (execOp a.eval oi).run P w = .ok (.enter f args) w)
    (hc : Calls P f args w fun e w' => ∃ v, e = .returned v ∧ R v w') (hS : ∀ v w', R v w' → S w')
    (h : ∀ v w', R v w' → S w' → wpAnyH P md ops Q S fuel (listed.setIfInBounds i true) (a.put d v) w') (hs : AllReadyH P md ops Q S fuel listed a w rs) : AllReadyH P md ops Q S fuel listed a w (i :: rs) := by
  subst hd
  refine AllReadyH.cons hi (fun K hK => ?_) hs
  rw [if_pos hw]
  unfold Oper.wp
  rw [hx, Oper.upon_enter]
  refine hc.mono ?_
  rintro e w' ⟨v, rfl, hR⟩
  exact hK.out _ _ (hS v w' hR) (h v w' hR)
end
def putMany (cur : Array Value) : Nat → List Value → Array Value
  | _, [] => cur
  | o, v :: r => putMany (cur.setIfInBounds o v) (o + 1) r
theorem heap_setMany (b : Nat) (t : TypeId) : ∀ (vs : List Value) (o : Nat) (w : World) (cur : Array Value), w.heap[b]? = some (.cells cur t (0, 0)) → (w.setCells b o vs).heap[b]? = some (.cells (putMany cur o vs) t (0, 0)) := by
  intro vs
  induction vs with
  | nil => intro o w cur h; exact h
  | cons v r ih =>
    intro o w cur h
    refine ih (o + 1) _ _ ?_
    simp [World.setCell, Array.getElem?_modify, h]
theorem below_setMany (b : Nat) : ∀ (vs : List Value) (o : Nat) (w : World) (B : Nat), B ≤ b → Below B w (w.setCells b o vs) := by
  intro vs
  induction vs with
  | nil => intro o w B _; exact Below.refl _ _
  | cons v r ih =>
    intro o w B hB
    exact ((Below.refl B w).setCell (p := ⟨b, o, none⟩) hB v).trans (ih (o + 1) _ B hB)
theorem other_setMany (b k : Nat) (hk : k ≠ b) : ∀ (vs : List Value) (o : Nat) (w : World), (w.setCells b o vs).heap[k]? = w.heap[k]? := by
  intro vs
  induction vs with
  | nil => intro o w; rfl
  | cons v r ih =>
    intro o w
    exact (ih (o + 1) _).trans (Below.heap_setCell w ⟨b, o, none⟩ v k hk)
def Stored (w w' : World) (b : Nat) (C : Array Value) (t : TypeId) : Prop := w'.heap[b]? = some (.cells C t (0, 0)) ∧ (∀ B, B ≤ b → Below B w w') ∧ ∀ k, k ≠ b → w'.heap[k]? = w.heap[k]?
theorem run_store_blk (o : Oper) (e : Operand → Value) {w : World} (ty : TypeId) (x y : Operand) (ho : o.op = .store ty x y) (b off : Nat) (hx : e x = .pointer (some ⟨b, off, none⟩)) (v : Value) (cells : Array Value) (hy : e y = v) (hv : v.cells = cells)
    (hi : (Tryz.prog.info? ty).map (·.size) = some cells.size) (h1 : cells.all (·.oneCell') = true) {C C' : Array Value} {t : TypeId} (hg : w.heap[b]? = some (.cells C t (0, 0))) (hfit : off + cells.size ≤ C.size) (hC : putMany C off cells.toList = C') :
    ∃ w', (execOp e o).run Tryz.prog w = .ok .skip w' ∧ Stored w w' b C' t := by
  subst hC
  have hthere : ∀ j, j < cells.size → (w.cell? ⟨b, off + j, none⟩).isSome = true ∧ w.frozen? ⟨b, off + j, none⟩ = false := fun j hj => by
    refine ⟨?_, by simp [World.frozen?, hg]⟩
    rw [cell_of_row w b (off + j) _ _ _ hg, Array.getElem?_eq_getElem (by omega)]
    rfl
  have hrun : (storeVar ty ⟨b, off, none⟩ v).run Tryz.prog w = .ok () (w.setCells b off cells.toList) := by
    have := run_storeCells_cells (P := Tryz.prog) b off cells.toList 0 w (fun j hj => by simpa using (hthere j (by simpa using hj)).1) (fun j hj => by simpa using (hthere j (by simpa using hj)).2)
      (fun v hv => (Array.all_eq_true_iff_forall_mem.1 h1) v (by simpa using hv))
    cases hq : Tryz.prog.info? ty with
    | none => simp [hq] at hi
    | some i =>
      have hs : cells.size = i.size := by simp [hq] at hi; omega
      simp only [Nat.add_zero] at this
      simp [storeVar, sizeOf, typeInfo, hq, hv, hs, this]
  refine ⟨_, ?_, heap_setMany b t cells.toList off w C hg, fun B hB => below_setMany b _ off w B hB, fun k hk => other_setMany b k hk _ off w⟩
  unfold execOp
  simp only [ho, hx, hy, Instr.storeAt, Instr.sureAddr, Sem.run_bind, Sem.run_pure, Result.andThen_ok, hrun]
section
variable {ops : Array Oper} {Q : Exit → Act → World → Prop}
theorem wpList_st {rest : List Oper} {op : Oper} {a : Act} {w : World} (hgd : op.guard = none) (ty : TypeId) (x y : Operand) (ho : op.op = .store ty x y) (b off : Nat) (hx : a.eval x = .pointer (some ⟨b, off, none⟩)) (v : Value) (cells : Array Value) (hy : a.eval y = v) (hv : v.cells = cells)
    (hi : (Tryz.prog.info? ty).map (·.size) = some cells.size) (h1 : cells.all (·.oneCell') = true) {C C' : Array Value} {t : TypeId} (hg : w.heap[b]? = some (.cells C t (0, 0))) (hfit : off + cells.size ≤ C.size) (hC : putMany C off cells.toList = C')
    (h : ∀ w', Stored w w' b C' t → wpList Tryz.prog ops Q rest (a.put op.dst undef) w') : wpList Tryz.prog ops Q (op :: rest) a w := by
  obtain ⟨w', hr, hs⟩ := run_store_blk op a.eval ty x y ho b off hx v cells hy hv hi h1 hg hfit hC
  refine wpList_plain hgd fun K hK => ?_
  unfold Oper.wp
  rw [hr, Oper.upon_skip]
  exact hK _ _ (h w' hs)
variable {md : Region.Mode} {S : World → Prop}
theorem takeSt {i : Nat} {oi : Oper} {fuel : Nat} {listed : Array Bool} {a : Act} {w : World} (ty : TypeId) (x y : Operand) (b off : Nat) (v : Value) (cells : Array Value) {C : Array Value} (C' : Array Value) {t : TypeId} (hi : ops[i]? = some oi) (hd : oi.dst = none)
    (hr : Region.ready md ops listed = [i]) (hw : Region.wanted oi (yielded ops a.tmps) = true) (ho : oi.op = .store ty x y) (hx : a.eval x = .pointer (some ⟨b, off, none⟩)) (hy : a.eval y = v) (hv : v.cells = cells)
    (hz : (Tryz.prog.info? ty).map (·.size) = some cells.size) (h1 : cells.all (·.oneCell') = true) (hg : w.heap[b]? = some (.cells C t (0, 0))) (hfit : off + cells.size ≤ C.size) (hC : putMany C off cells.toList = C')
    (h : ∀ w', Stored w w' b C' t → S w' ∧ wpAnyH Tryz.prog md ops Q S fuel (listed.setIfInBounds i true) (a.put none undef) w') : wpAnyH Tryz.prog md ops Q S (fuel + 1) listed a w := by
  obtain ⟨w', hx', hs⟩ := run_store_blk oi a.eval ty x y ho b off hx v cells hy hv hz h1 hg hfit hC
  exact takeW hi hd hr hw hx' (h w' hs).1 (h w' hs).2
end
section
variable {ops : Array Oper} {Q : Exit → Act → World → Prop}
theorem wpList_v {rest : List Oper} {op : Oper} {a : Act} {w w' : World} (hgd : op.guard = none) (v : Value) (hx : (execOp a.eval op).run Tryz.prog w = .ok (.value v) w') (h : wpList Tryz.prog ops Q rest (a.put op.dst v) w') : wpList Tryz.prog ops Q (op :: rest) a w := by
  refine wpList_plain hgd fun K hK => ?_
  unfold Oper.wp
  rw [hx, Oper.upon_value]
  exact hK _ _ h
end
theorem load_rng (o : Oper) (e : Operand → Value) (ty : TypeId) (x : Operand) (ho : o.op = .load ty x) (b off : Nat) (hx : e x = .pointer (some ⟨b, off, none⟩)) (cs : List Value) (d : TypeDesc) {w : World} (hc : w.rangeAt b off cs) (hu : Tryz.prog.underlying ty = some d) (hd : d.isRow = true) (hi : (Tryz.prog.info? ty).map (·.size) = some cs.length) :
    (execOp e o).run Tryz.prog w = .ok (.value (.agg cs.toArray)) w := by
  unfold execOp
  simp only [ho, hx, Instr.loadAt, Instr.sureAddr, Sem.run_bind, Sem.run_pure, Result.andThen_ok, run_loadVar_mid w b off ty cs d hc hu hd hi]
theorem wpList_gv {ops : Array Oper} {Q : Exit → Act → World → Prop} {rest : List Oper} {op : Oper} {a : Act} {w w' : World} (v : Value) (hw : Region.wanted op (yielded ops a.tmps) = true) (hx : (execOp a.eval op).run Tryz.prog w = .ok (.value v) w') (h : wpList Tryz.prog ops Q rest (a.put op.dst v) w') : wpList Tryz.prog ops Q (op :: rest) a w := by
  refine wpList_step fun K hK => ?_
  rw [if_pos hw]
  unfold Oper.wp
  rw [hx, Oper.upon_value]
  exact hK _ _ h
def SelfEq (d : Nat) (t : TypeId) (v : Value) : Prop := ∀ w, (Op.equalIn d t v v).run Tryz.prog w = .ok true w
theorem eqFields_self (d : Nat) (xs : Array Value) : ∀ fs : List Field, (∀ f ∈ fs, ∃ u, (∀ w, (part f.type xs f.offset).run Tryz.prog w = .ok u w) ∧ SelfEq d f.type u) → ∀ w, (Op.eqFields d xs xs fs).run Tryz.prog w = .ok true w := by
  intro fs
  induction fs with
  | nil => intro _ w; rfl
  | cons f fs ih =>
    intro h w
    obtain ⟨u, h1, h2⟩ := h f (List.mem_cons_self ..)
    have h3 := ih (fun g hg => h g (List.mem_cons_of_mem _ hg))
    unfold Op.eqFields
    by_cases hn : f.name ≠ "_"
    · rw [if_pos hn]
      simp only [Sem.run_bind, h1, Result.andThen_ok, h2 w]
      simpa using h3 w
    · rw [if_neg hn]
      exact h3 w
theorem self_struct (d : Nat) (t : TypeId) (xs : Array Value) (l : List (TypeId × Nat)) (ht : Tryz.prog.underlying t = some (.struct (Tryz.prog.fieldsOf t))) (hp : Tryz.prog.stoodInHeld t = false) (hl : (Tryz.prog.fieldsOf t).toList.map (fun f => (f.type, f.offset)) = l)
    (h : ∀ p ∈ l, ∃ u, (∀ w, (part p.1 xs p.2).run Tryz.prog w = .ok u w) ∧ SelfEq d p.1 u) : SelfEq (d + 1) t (.agg xs) := by
  intro w
  rw [run_equalIn_struct w d t xs xs ht hp]
  refine eqFields_self d xs _ (fun f hf => ?_) w
  exact h (f.type, f.offset) (by rw [← hl]; exact List.mem_map.2 ⟨f, hf, rfl⟩)
theorem self_int (d : Nat) (t : TypeId) (k : IntKind) (n : Int) (h : Tryz.prog.underlying t = some (.int k)) : SelfEq (d + 1) t (.int k n) := fun w => by rw [run_equalIn_int w d t k k n n h]; simp
theorem size_u8 : ∀ w, (sizeOf 5).run Tryz.prog w = .ok 1 w := by
  obtain ⟨i, hi, _, hz1, _⟩ := info_parts info_u8
  intro w
  simp [sizeOf, typeInfo, hi, hz1]
theorem vals_cells (z : Nat → Int) (n : Nat) (hz : ∀ j, 0 ≤ z j ∧ z j ≤ 255) : vals z n = (((List.range n).map fun j => UInt8.ofNat (z j).toNat).map cell) := by
  unfold vals
  rw [List.map_map]
  apply List.map_congr_left
  intro j _
  have := hz j
  simp [cell]
  omega
theorem self_bytes (d n : Nat) (t : TypeId) (z : Nat → Int) (hz : ∀ j, 0 ≤ z j ∧ z j ≤ 255) (h : Tryz.prog.underlying t = some (.array n 5)) : SelfEq (d + 2) t (.agg (vals z n).toArray) := by
  intro w
  rw [vals_cells z n hz]
  rw [run_equalIn_bytes w d t 5 n h Tryz.underlying5 size_u8 _ _ (by simp) (by simp)]
  simp

theorem neq_self (o : Oper) (e : Operand → Value) (x y : Operand) (t t' : TypeId) (ho : o.op = .binOp .neq t x y t') (htt : t = t') (hg : Tryz.prog.eqGuardType Tryz.prog.depth t = false) (xs : Array Value) (hs : SelfEq 10000 t (.agg xs)) (h0 : e x = .agg xs) (h1 : e y = .agg xs) (W : World) :
    (execOp e o).run Tryz.prog W = .ok (.value (.bool false)) W := by
  subst htt
  unfold execOp
  simp only [ho, h0, h1]
  simp [Sem.run_bind, run_eqGuard_agg _ _ _ _ _ _ _ hg, run_neq_struct, hs W]
end Go.Proofs.YtkiaijmhoikdiaaGreat

/- What lies in a block; steps that make or read a block; in the order of the text, and by hand. Each theorem states its conditions. -/
namespace Go.Proofs.YtkiaijmhoikdiaaGreat
open Go.RowKit
set_option linter.unusedVariables false

def Blk (t : TypeId) (w : World) (g : Nat) (C : Array Value) : Prop := w.heap[g]? = some (.cells C t (0, 0))
section
variable {t : TypeId} {w w' : World} {g : Nat} {C : Array Value}
theorem Blk.lt (h : Blk t w g C) : g < w.heap.size := (Array.getElem?_eq_some_iff.1 h).1
theorem Blk.below {B : Nat} (h : Blk t w g C) (hb : Below B w w') (hB : g < B) : Blk t w' g C := (hb.block g hB).trans h
theorem Blk.cell (h : Blk t w g C) (i : Nat) : w.cell? ⟨g, i, none⟩ = C[i]? := cell_of_row w g i _ _ _ h
theorem Blk.range (h : Blk t w g C) {o : Nat} {cs : List Value} (hs : ∀ j, j < cs.length → C[o + j]? = cs[j]?) : w.rangeAt g o cs := by
  intro j u hj
  rw [cell_of_row w g (o + j) _ _ _ h, hs j ?_]
  · exact hj
  · rcases Nat.lt_or_ge j cs.length with h1 | h1
    · exact h1
    · rw [List.getElem?_eq_none h1] at hj; cases hj
theorem Blk.all (h : Blk t w g C) : w.rangeAt g 0 C.toList := h.range fun j hj => by rw [Nat.zero_add, Array.getElem?_toList]
theorem Blk.far {b : Nat} {C' : Array Value} {u : TypeId} (h : Blk t w g C) (hs : Stored w w' b C' u) (hk : g ≠ b) : Blk t w' g C := (hs.2.2 g hk).trans h
theorem six {P : Nat → Prop} (h : P 0 ∧ P 1 ∧ P 2 ∧ P 3 ∧ P 4 ∧ P 5) (j : Nat) (hj : j < 6) : P j := by
  rcases (by omega : j = 0 ∨ j = 1 ∨ j = 2 ∨ j = 3 ∨ j = 4 ∨ j = 5) with rfl | rfl | rfl | rfl | rfl | rfl <;> simp_all
end
theorem box_run (o : Oper) (e : Operand → Value) (t : TypeId) (x : Operand) (ho : o.op = .box t x) (C : Array Value) (hx : e x = .agg C) (W : World) :
    (execOp e o).run Tryz.prog W = .ok (.value (.pointer (some ⟨W.heap.size, 0, none⟩))) (W.alloc (.cells C t)) := by
  unfold execOp
  simp only [ho, hx]
  rfl
theorem alloc_run (o : Oper) (e : Operand → Value) (t : TypeId) (ho : o.op = .alloc t) (C : Array Value) (hz : (Tryz.prog.info? t).map (·.zero) = some (some (.agg C))) (W : World) :
    (execOp e o).run Tryz.prog W = .ok (.value (.pointer (some ⟨W.heap.size, 0, none⟩))) (W.alloc (.cells C t)) := by
  unfold execOp
  simp only [ho]
  cases hq : Tryz.prog.info? t with
  | none => rw [hq] at hz; cases hz
  | some i =>
    rw [hq] at hz
    have hz' : i.zero = some (.agg C) := by simpa using hz
    simp [Instr.alloc, zeroValue, typeInfo, hq, hz', go_sem]
section
variable {ops : Array Oper} {Q : Exit → Act → World → Prop}
theorem wpList_mk {rest : List Oper} {op : Oper} {a : Act} {w : World} (hgd : op.guard = none) (t : TypeId) (C : Array Value) (hx : (execOp a.eval op).run Tryz.prog w = .ok (.value (.pointer (some ⟨w.heap.size, 0, none⟩))) (w.alloc (.cells C t)))
    (N : Nat) (hN : w.heap.size = N) (h : ∀ w', Blk t w' N C → Below w.heap.size w w' → N + 1 ≤ w'.heap.size → wpList Tryz.prog ops Q rest (a.put op.dst (.pointer (some ⟨N, 0, none⟩))) w') : wpList Tryz.prog ops Q (op :: rest) a w := by
  subst hN
  refine wpList_plain hgd fun K hK => ?_
  unfold Oper.wp
  rw [hx, Oper.upon_value]
  exact hK _ _ (h _ (heap_alloc_new w _) ((Below.refl _ _).alloc (Nat.le_refl _) _) (by simp))
theorem wpList_box {rest : List Oper} {op : Oper} {a : Act} {w : World} (hgd : op.guard = none) (t : TypeId) (x : Operand) (ho : op.op = .box t x) (C : Array Value) (hx : a.eval x = .agg C)
    (N : Nat) (hN : w.heap.size = N) (h : ∀ w', Blk t w' N C → Below w.heap.size w w' → N + 1 ≤ w'.heap.size → wpList Tryz.prog ops Q rest (a.put op.dst (.pointer (some ⟨N, 0, none⟩))) w') : wpList Tryz.prog ops Q (op :: rest) a w :=
  wpList_mk hgd t C (box_run op a.eval t x ho C hx w) N hN h
theorem wpList_new {rest : List Oper} {op : Oper} {a : Act} {w : World} (hgd : op.guard = none) (t : TypeId) (ho : op.op = .alloc t) (C : Array Value) (hz : (Tryz.prog.info? t).map (·.zero) = some (some (.agg C)))
    (N : Nat) (hN : w.heap.size = N) (h : ∀ w', Blk t w' N C → Below w.heap.size w w' → N + 1 ≤ w'.heap.size → wpList Tryz.prog ops Q rest (a.put op.dst (.pointer (some ⟨N, 0, none⟩))) w') : wpList Tryz.prog ops Q (op :: rest) a w :=
  wpList_mk hgd t C (alloc_run op a.eval t ho C hz w) N hN h
theorem wpList_ld {rest : List Oper} {op : Oper} {a : Act} {w : World} (hw : Region.wanted op (yielded ops a.tmps) = true) (ty : TypeId) (x : Operand) (ho : op.op = .load ty x) (b off : Nat) (hx : a.eval x = .pointer (some ⟨b, off, none⟩)) (cs : Array Value) (d : TypeDesc) (hc : w.rangeAt b off cs.toList) (hu : Tryz.prog.underlying ty = some d) (hd : d.isRow = true) (hi : (Tryz.prog.info? ty).map (·.size) = some cs.toList.length)
    (h : wpList Tryz.prog ops Q rest (a.put op.dst (.agg cs)) w) : wpList Tryz.prog ops Q (op :: rest) a w :=
  wpList_gv (.agg cs) hw (by have := load_rng op a.eval ty x ho b off hx cs.toList d hc hu hd hi; simpa using this) h
end
theorem takeMk {ops : Array Oper} {Q : Exit → Act → World → Prop} {md : Region.Mode} {S : World → Prop} {i : Nat} {oi : Oper} (d : Option Tmp) {fuel : Nat} {listed : Array Bool} {a : Act} {w : World} (t : TypeId) (C : Array Value) (hi : ops[i]? = some oi) (hd : oi.dst = d)
    (hr : Region.ready md ops listed = [i]) (hw : Region.wanted oi (yielded ops a.tmps) = true) (ho : oi.op = .alloc t) (hz : (Tryz.prog.info? t).map (·.zero) = some (some (.agg C))) (N : Nat) (hN : w.heap.size = N)
    (h : ∀ w', Blk t w' N C → Below w.heap.size w w' → N + 1 ≤ w'.heap.size → S w' ∧ wpAnyH Tryz.prog md ops Q S fuel (listed.setIfInBounds i true) (a.put d (.pointer (some ⟨N, 0, none⟩))) w') : wpAnyH Tryz.prog md ops Q S (fuel + 1) listed a w := by
  subst hN
  obtain ⟨h1, h2⟩ := h _ (heap_alloc_new w _) ((Below.refl _ _).alloc (Nat.le_refl _) _) (by simp)
  exact takeV d hi hd hr hw (alloc_run oi a.eval t ho C hz w) h1 h2
theorem consMk {ops : Array Oper} {Q : Exit → Act → World → Prop} {md : Region.Mode} {S : World → Prop} {i : Nat} {oi : Oper} (d : Option Tmp) {rs : List Nat} {fuel : Nat} {listed : Array Bool} {a : Act} {w : World} (t : TypeId) (C : Array Value) (hi : ops[i]? = some oi) (hd : oi.dst = d)
    (hw : Region.wanted oi (yielded ops a.tmps) = true) (ho : oi.op = .alloc t) (hz : (Tryz.prog.info? t).map (·.zero) = some (some (.agg C))) (N : Nat) (hN : w.heap.size = N)
    (h : ∀ w', Blk t w' N C → Below w.heap.size w w' → N + 1 ≤ w'.heap.size → S w' ∧ wpAnyH Tryz.prog md ops Q S fuel (listed.setIfInBounds i true) (a.put d (.pointer (some ⟨N, 0, none⟩))) w') (hs : AllReadyH Tryz.prog md ops Q S fuel listed a w rs) : AllReadyH Tryz.prog md ops Q S fuel listed a w (i :: rs) := by
  subst hN
  obtain ⟨h1, h2⟩ := h _ (heap_alloc_new w _) ((Below.refl _ _).alloc (Nat.le_refl _) _) (by simp)
  exact consVW d hi hd hw (alloc_run oi a.eval t ho C hz w) h1 h2 hs
theorem results_1 {fn : Func} {q : Tmp} {t : TypeId} (h : fn.results = #[.cell q t]) (tmps : Array Value) (W : World) (g : Nat) (C : Array Value) {d : TypeDesc} (hu : Tryz.prog.underlying t = some d) (hd : d.isRow = true) (hi : (Tryz.prog.info? t).map (·.size) = some C.size)
    (hp : tmps.getD q undef = .pointer (some ⟨g, 0, none⟩)) (hg : Blk t W g C) : (results fn tmps).run Tryz.prog W = .ok (.agg C) W := by
  have h1 := run_loadVar_mid (P := Tryz.prog) W g 0 t C.toList _ hg.all hu hd (by simpa using hi)
  have hp' : (tmps[q]?).getD undef = .pointer (some ⟨g, 0, none⟩) := by simpa using hp
  simp only [results, h]
  simp [hp', asAddr, h1]
end Go.Proofs.YtkiaijmhoikdiaaGreat

/- Spare answers a copy with marked room behind it; SameBytes and Kept answer true where nothing was turned. Each theorem states its conditions. -/
namespace Go.Proofs.YtkiaijmhoikdiaaGreat
open Go.RowKit
set_option linter.unusedVariables false

def spZ (z : Nat → Int) (n : Nat) : Nat → Int := fun j => if j < n then z j else if j = n + 1 then 90 else 165
theorem spZ_in (z : Nat → Int) (n j : Nat) (h : j < n) : spZ z n j = z j := by simp [spZ, h]
theorem spZ_bd (z : Nat → Int) (n : Nat) (hz : ∀ j, 0 ≤ z j ∧ z j ≤ 255) : ∀ j, 0 ≤ spZ z n j ∧ spZ z n j ≤ 255 := by
  intro j; unfold spZ; split
  · exact hz j
  · split <;> omega
theorem spZ_vals (z : Nat → Int) (n : Nat) : vals z n ++ [.int .u8 165, .int .u8 90, .int .u8 165] = vals (spZ z n) (n + 3) := by
  apply List.ext_getElem
  · simp [vals]
  · intro i h1 h2
    have hi : i < n + 3 := by simpa [vals] using h2
    by_cases h : i < n
    · simp [vals, h, spZ]
    · rcases (by omega : i = n ∨ i = n + 1 ∨ i = n + 2) with rfl | rfl | rfl <;> simp [vals, spZ] <;> omega

def SparePost (w : World) (n : Nat) (z : Nat → Int) (e : Ending) (w' : World) : Prop :=
  ∃ g cap, e = .returned (.tuple #[.slice (some ⟨g, 0, none⟩) n cap, .slice (some ⟨g, 0, none⟩) (n + 3) cap]) ∧ w.heap.size ≤ g ∧ Own8 w' g (n + 3) cap (spZ z n) ∧ Below w.heap.size w w'

theorem three_new (w : World) (a b c : Value) (t : TypeId) : ∀ j u, [a, b, c][j]? = some u → (w.alloc (.cells #[a, b, c] t)).cell? ((⟨w.heap.size, 0, none⟩ : Addr).add j) = some u := by
  intro j u hj
  match j, hj with
  | 0, hj => simp at hj; subst hj; simp [Addr.add]
  | 1, hj => simp at hj; subst hj; simp [Addr.add]
  | 2, hj => simp at hj; subst hj; simp [Addr.add]

theorem spare_any (A : Option Addr) (n c : Nat) (z : Nat → Int) (w : World) (h : Rd w A n z) (hA : A = none → n = 0 ∧ c = 0) (hn : n ≤ 140737488351232) :
    Calls Tryz.prog 28 #[.slice A n c] w (SparePost w n z) := by
  obtain ⟨i0, hi, hz0, hz1, hz2⟩ := info_parts info_u8
  have hm : (0 : Nat) ≤ maxLen := by decide
  have hown := World.ownsRow_made (e := 5) (size := 1) (base := w.heap.size) w #[] 0 (Nat.le_refl _) hm rfl
  have hn3 : ∀ W : World, ∀ j u, [Value.int .u8 165, Value.int .u8 90, Value.int .u8 165][j]? = some u → (W.alloc (.cells #[.int .u8 165, .int .u8 90, .int .u8 165] 5)).cell? ((⟨W.heap.size, 0, none⟩ : Addr).add j) = some u := fun W => three_new W _ _ _ _
  have ho3 : ∀ u ∈ [Value.int .u8 165, Value.int .u8 90, Value.int .u8 165], u.oneCell' = true := by intro u hu; simp only [List.mem_cons, List.not_mem_nil, or_false] at hu; rcases hu with rfl | rfl | rfl <;> rfl
  have H3 := Lib.hid hn3
  have HO := Lib.hid ho3
  clear hn3 ho3
  have hzz := Lib.hid h.2
  rcases A with _ | ⟨b, off, spot⟩
  · obtain ⟨rfl, rfl⟩ := hA rfl
    clear h hA
    have hown2 : (w.alloc (.cells #[] 5)).ownsRow w.heap.size 5 1 (.slice (some ⟨w.heap.size, 0, none⟩) 0 0) 0 (vals z 0) := hown
    go_enter Tryz.func28, Tryz.ntmps28
    go_wp2_with (first | (at_builtin; refine wpList_append_own_none rfl (.tmp 5) (.tmp 6) 40 rfl w.heap.size 5 i0 1 Tryz.underlying40 hi _ 0 [] rfl hown rfl ?_) | (at_builtin; (refine wpList_append_own_at _ rfl (.tmp 7) (.tmp 8) 40 rfl w.heap.size 5 i0 (.int .u8 0) 1 1 Tryz.underlying40 hi hz0 hz1 hz2 rfl (by decide) (.slice (some ⟨w.heap.size, 0, none⟩) 0 0) 0 (vals z 0) rfl (hown2.alloc _) ⟨w.heap.size + 1, 0, none⟩ 3 3 [Value.int .u8 165, Value.int .u8 90, Value.int .u8 165] rfl rfl ?c2 HO.out ?c3 ?c4 ?c5 ?_)))
    case c2 =>
      have hh := H3.out (w.alloc (.cells #[] 5))
      simp only [World.size_alloc] at hh
      exact hh
    case c3 => decide
    case c4 => decide
    case c5 => simp; omega
    intro v' w1 hown1 hgrow hnil hat
    have hv : v' ≠ .slice none 0 0 := fun e => by simp [e] at hnil
    obtain ⟨g, cap, rfl, hg, ho⟩ := own_of (n := 3) hown1 (spZ_vals z 0) hv (spZ_bd z 0 hzz.out)
    have hcap := ho.caps
    have hb : Below w.heap.size w w1 := (balloc (balloc (bself w) _) _).grown hgrow (by simp; omega) (by simp [Value.ownBlock])
    unfold maxLen at hcap
    clear hown hown2 hown1 hgrow hnil hat hv
    go_wp2
    go_ret2
    exact ⟨g, cap, rfl, hg, ho, hb⟩
  · have hnews : ∀ j u, (vals z n)[j]? = some u → (w.alloc (.cells #[] 5)).cell? ((⟨b, off, spot⟩ : Addr).add j) = some u := rd_news h _
    have h1 := vals_one z n
    have hl' : (vals z n).length = n * 1 := by rw [vals_len]; omega
    have hd3 : 0 + n ≤ maxLen := by unfold maxLen; omega
    have hd4 : (0 + n) * 1 ≤ 140737488355328 := by omega
    have hd5 : w.heap.size ≤ (w.alloc (.cells #[] 5)).heap.size := by simp
    have HL := Lib.hid hl'
    clear h hA hl'
    go_enter Tryz.func28, Tryz.ntmps28
    go_wp2_with (first | (at_builtin; refine wpList_append_own_at _ rfl (.tmp 5) (.tmp 6) 40 rfl w.heap.size 5 i0 (.int .u8 0) 1 1 Tryz.underlying40 hi hz0 hz1 hz2 rfl (by decide) (.slice (some ⟨w.heap.size, 0, none⟩) 0 0) 0 [] rfl hown ⟨b, off, spot⟩ n c (vals z n) rfl HL.out hnews h1 hd3 hd4 hd5 ?_; intro v1 w1 hown1 hgrow1 hnil1 hat1) | (at_builtin; refine wpList_append_own_at _ rfl (.tmp 7) (.tmp 8) 40 rfl w.heap.size 5 i0 (.int .u8 0) 1 1 Tryz.underlying40 hi hz0 hz1 hz2 rfl (by decide) v1 (0 + n) ([] ++ vals z n) rfl (hown1.alloc _) ⟨w1.heap.size, 0, none⟩ 3 3 [Value.int .u8 165, Value.int .u8 90, Value.int .u8 165] rfl rfl ?c2 HO.out ?c3 ?c4 ?c5 ?_))
    case c2 => exact H3.out w1
    case c3 => unfold maxLen; omega
    case c4 => omega
    case c5 => have := hgrow1.size; simp at this ⊢; omega
    have hb1 : Below w.heap.size w w1 := (balloc (bself w) _).grown hgrow1 hd5 (by simp [Value.ownBlock])
    have hv1 : v1.ownBlock = some w.heap.size ∨ v1.ownBlock = some (w.heap.size + 1) := by simpa [Value.ownBlock] using hat1
    intro v' w2 hown2 hgrow2 hnil2 hat2
    have hv : v' ≠ .slice none 0 0 := hnil2
    obtain ⟨g, cap, rfl, hg, ho⟩ := own_of hown2 (spZ_vals z n) hv (spZ_bd z n hzz.out)
    have hcap := ho.caps
    have hb : Below w.heap.size w w2 := (balloc hb1 _).grown hgrow2 (by have := hb1.size; simp; omega) (by rintro k hk; rcases hv1 with e | e <;> rw [e] at hk <;> injection hk with hk <;> omega)
    unfold maxLen at hcap
    clear hown hown1 hown2 hgrow1 hgrow2 hnil1 hnil2 hat1 hat2 hv hv1 hnews h1
    go_wp2
    go_ret2
    exact ⟨g, cap, rfl, hg, ho, hb⟩

theorem same_yes (A B : Option Addr) (n c d : Nat) (z z' : Nat → Int) (w : World) (ha : Rd w A n z) (hb : Rd w B n z') (he : ∀ j, j < n → z j = z' j) (hm : n ≤ 9223372036854775807) :
    Calls Tryz.prog 37 #[.slice A n c, .slice B n d] w fun e w' => e = .returned (.bool true) ∧ ∃ m, w' = w.drewN m := by
  rcases Nat.eq_zero_or_pos n with rfl | hn
  · clear ha hb he
    go_enter Tryz.func37, Tryz.ntmps37
    go_wp2
    refine wp_loop_rounds 1 ?_
    rw [rounds_succ]
    go_wp2
    go_ret
    exact ⟨rfl, 0, rfl⟩
  · obtain ⟨b, off, rfl, hr⟩ := ha.row hn
    obtain ⟨b', off', rfl, hr'⟩ := hb.row hn
    have hc := hr.2.1
    have hc' := hr'.2.1
    have HE := Lib.hid he
    clear ha hb hr hr' he
    go_enter Tryz.func37, Tryz.ntmps37
    go_wp2
    go_loopw [13] (fun t wr => ∃ k m : Nat, k ≤ n ∧ t = .int .i64 k ∧ wr = w.drewN m) (fun t _ => n - (intOf t).toNat)
    case atStart => exact ⟨0, 0, by omega, rfl, rfl⟩
    case round =>
      obtain ⟨k, m, hk, rfl, rfl⟩ := hrel
      by_cases hlt : k < n
      · have g1 := hc k hlt
        have g2 := hc' k hlt
        rw [← HE.out k hlt] at g2
        generalize z k = v at *
        clear hc hc'
        go_wp2
        go_region
        go_wp2
        go_roundw
        case rel => exact ⟨k + 1, m + 1, by omega, by go_num, rfl⟩
        case measure => simp [intOf]; omega
      · obtain rfl : k = n := by omega
        go_wp2
        go_ret
        exact ⟨rfl, m, rfl⟩

theorem kept_yes (g n cap : Nat) (A : Option Addr) (c : Nat) (z : Nat → Int) (w : World) (ho : Own8 w g (n + 3) cap (spZ z n)) (ha : Rd w A n z) (hm : n ≤ 140737488351232) :
    Calls Tryz.prog 29 #[.slice (some ⟨g, 0, none⟩) (n + 3) cap, .slice A n c] w fun e w' => e = .returned (.bool true) ∧ ∃ m, w' = w.drewN m := by
  have HS := Lib.hid (fun d => same_yes (some ⟨g, 0, none⟩) A n d c (spZ z n) z w (ho.rd.cut n (by omega)) ha (fun j hj => spZ_in z n j hj) (by omega))
  have c0 := ho.row.2.1 n (by omega)
  have c1 := ho.row.2.1 (n + 1) (by omega)
  have c2 := ho.row.2.1 (n + 2) (by omega)
  have hcap := ho.caps
  rw [Nat.zero_add, show spZ z n n = 165 by simp [spZ]] at c0
  rw [Nat.zero_add, show spZ z n (n + 1) = 90 by simp [spZ]; omega] at c1
  rw [Nat.zero_add, show spZ z n (n + 2) = 165 by simp [spZ]; omega] at c2
  unfold maxLen at hcap
  clear ho ha
  go_enter Tryz.func29, Tryz.ntmps29
  go_wp2_with fail
  refine (HS.out _).mono ?_
  rintro e w' ⟨rfl, m, rfl⟩
  go_wp2
  go_ret
  exact ⟨rfl, m, rfl⟩
end Go.Proofs.YtkiaijmhoikdiaaGreat

/- Lists of records, s cells each, that a call reads or makes; bytes that a call appends to. Each theorem states its conditions. -/
namespace Go.Proofs.YtkiaijmhoikdiaaGreat
open Go.RowKit
set_option linter.unusedVariables false

def RowR (w : World) (b off m s : Nat) (C : Nat → Array Value) : Prop := b < w.heap.size ∧ ∀ j, j < m → w.rangeAt b (off + j * s) (C j).toList
def RdR (w : World) (A : Option Addr) (m s : Nat) (C : Nat → Array Value) : Prop := m = 0 ∨ ∃ b off, A = some ⟨b, off, none⟩ ∧ RowR w b off m s C
def cellsR (C : Nat → Array Value) : Nat → List Value
  | 0 => []
  | m + 1 => cellsR C m ++ (C m).toList
def Recs (s : Nat) (C : Nat → Array Value) : Prop := ∀ j, (C j).size = s ∧ ∀ u ∈ (C j).toList, u.oneCell' = true

theorem add_none (b off j : Nat) : (⟨b, off, none⟩ : Addr).add j = ⟨b, off + j, none⟩ := by unfold Addr.add; split <;> simp_all
theorem rangeAt_below {w w' : World} {b o B : Nat} {cs : List Value} (h : w.rangeAt b o cs) (hb : Below B w w') (hB : b < B) : w'.rangeAt b o cs :=
  fun j v hv => (hb.cell (p := ⟨b, o + j, none⟩) hB).trans (h j v hv)
theorem RowR.below {w w' : World} {b off m s B : Nat} {C : Nat → Array Value} (h : RowR w b off m s C) (hb : Below B w w') (hB : b < B) : RowR w' b off m s C :=
  ⟨by have := hb.size; have := h.1; omega, fun j hj => rangeAt_below (h.2 j hj) hb hB⟩
theorem RdR.below {w w' : World} {A : Option Addr} {m s B : Nat} {C : Nat → Array Value} (h : RdR w A m s C) (hb : Below B w w') (hB : B = w.heap.size) : RdR w' A m s C := by
  rcases h with h | ⟨b, off, rfl, h⟩
  · exact .inl h
  · exact .inr ⟨b, off, rfl, h.below hb (by have := h.1; omega)⟩
theorem RdR.row {w : World} {A : Option Addr} {m s : Nat} {C : Nat → Array Value} (h : RdR w A m s C) (hm : 0 < m) : ∃ b off, A = some ⟨b, off, none⟩ ∧ RowR w b off m s C := by
  rcases h with h | h
  · omega
  · exact h
theorem RdR.cut {w : World} {A : Option Addr} {m s : Nat} {C : Nat → Array Value} (h : RdR w A m s C) (n : Nat) (hn : n ≤ m) : RdR w A n s C := by
  rcases h with h | ⟨b, off, rfl, h⟩
  · exact .inl (by omega)
  · exact .inr ⟨b, off, rfl, h.1, fun j hj => h.2 j (by omega)⟩
theorem RdR.congr {w : World} {A : Option Addr} {m s : Nat} {C C' : Nat → Array Value} (h : RdR w A m s C) (hc : ∀ j, j < m → C j = C' j) : RdR w A m s C' := by
  rcases h with h | ⟨b, off, rfl, h⟩
  · exact .inl h
  · exact .inr ⟨b, off, rfl, h.1, fun j hj => by rw [← hc j hj]; exact h.2 j hj⟩

theorem cellsR_len {s : Nat} {C : Nat → Array Value} (hC : Recs s C) (m : Nat) : (cellsR C m).length = m * s := by
  induction m with
  | zero => simp [cellsR]
  | succ m ih => simp only [cellsR, List.length_append, ih, Array.length_toList, (hC m).1, Nat.succ_mul]
theorem cellsR_at {s : Nat} {C : Nat → Array Value} (hC : Recs s C) (m j i : Nat) (hj : j < m) (hi : i < s) : (cellsR C m)[j * s + i]? = (C j)[i]? := by
  induction m with
  | zero => omega
  | succ m ih =>
    have hl := cellsR_len hC m
    simp only [cellsR]
    by_cases e : j = m
    · subst e
      rw [List.getElem?_append_right (by omega), hl, Nat.add_sub_cancel_left]
      simp
    · have : j * s + s ≤ m * s := by
        have := Nat.mul_le_mul_right s (show j + 1 ≤ m by omega)
        rwa [Nat.succ_mul] at this
      rw [List.getElem?_append_left (by omega)]
      exact ih (by omega)
theorem cellsR_one {s : Nat} {C : Nat → Array Value} (hC : Recs s C) (m : Nat) : ∀ u ∈ cellsR C m, u.oneCell' = true := by
  induction m with
  | zero => simp [cellsR]
  | succ m ih =>
    intro u hu
    simp only [cellsR, List.mem_append] at hu
    rcases hu with h | h
    · exact ih u h
    · exact (hC m).2 u h
theorem cellsR_congr {C C' : Nat → Array Value} (m : Nat) (h : ∀ j, j < m → C j = C' j) : cellsR C m = cellsR C' m := by
  induction m with
  | zero => rfl
  | succ m ih => simp only [cellsR, h m (by omega)]; rw [ih fun j hj => h j (by omega)]
def catR (C : Nat → Array Value) (n : Nat) (C' : Nat → Array Value) : Nat → Array Value := fun j => if j < n then C j else C' (j - n)
theorem catR_lo (C C' : Nat → Array Value) (n j : Nat) (h : j < n) : catR C n C' j = C j := by simp [catR, h]
theorem catR_hi (C C' : Nat → Array Value) (n j : Nat) : catR C n C' (n + j) = C' j := by unfold catR; rw [if_neg (by omega), Nat.add_sub_cancel_left]
theorem cellsR_cat (C C' : Nat → Array Value) (n m : Nat) : cellsR C n ++ cellsR C' m = cellsR (catR C n C') (n + m) := by
  induction m with
  | zero => simp only [cellsR, List.append_nil, Nat.add_zero]; exact cellsR_congr n fun j hj => (catR_lo C C' n j hj).symm
  | succ m ih =>
    show cellsR C n ++ (cellsR C' m ++ (C' m).toList) = cellsR (catR C n C') (n + m) ++ (catR C n C' (n + m)).toList
    rw [catR_hi, ← ih, List.append_assoc]
theorem recs_news {w : World} {m s : Nat} {C : Nat → Array Value} {ad : Addr} (hC : Recs s C) (hs : 0 < s) (h : RdR w (some ad) m s C) : ∀ j u, (cellsR C m)[j]? = some u → w.cell? (ad.add j) = some u := by
  intro j u hu
  have hj : j < m * s := by
    rcases Nat.lt_or_ge j (m * s) with h | h
    · exact h
    · rw [List.getElem?_eq_none (by rw [cellsR_len hC]; exact h)] at hu; cases hu
  have hm : 0 < m := by
    rcases Nat.eq_zero_or_pos m with h0 | h0
    · subst h0; simp at hj
    · exact h0
  obtain ⟨b, off, e, hr⟩ := h.row hm
  injection e with e
  subst e
  have hq : j / s < m := Nat.div_lt_of_lt_mul (by rwa [Nat.mul_comm] at hj)
  have hi : j % s < s := Nat.mod_lt _ hs
  have hjq : j = j / s * s + j % s := by rw [Nat.mul_comm]; exact (Nat.div_add_mod j s).symm
  rw [hjq, cellsR_at hC m _ _ hq hi] at hu
  have := hr.2 _ hq (j % s) u (by simpa using hu)
  rw [add_none, ← this]
  congr 2
  omega
theorem ownR_shape {w : World} {base s m : Nat} {e : TypeId} {v : Value} {C : Nat → Array Value} (hC : Recs s C) (hs : 0 < s) (h : w.ownsRow base e s v m (cellsR C m)) :
    ∃ A c, v = .slice A m c ∧ m ≤ c ∧ c ≤ maxLen ∧ (A = none → m = 0 ∧ c = 0) ∧ RdR w A m s C := by
  rcases h.2 with ⟨rfl, rfl⟩ | ⟨g, cap, cur, rfl, hb, hc, h1, h2, h3, h4⟩
  · exact ⟨none, 0, rfl, Nat.le_refl _, by decide, fun _ => ⟨rfl, rfl⟩, .inl rfl⟩
  · refine ⟨some ⟨g, 0, none⟩, cap, rfl, h1, h2, fun e => (by cases e), .inr ⟨g, 0, rfl, (Array.getElem?_eq_some_iff.1 hc).1, fun j hj i u hu => ?_⟩⟩
    have hi : i < s := by
      rcases Nat.lt_or_ge i s with h | h
      · exact h
      · rw [List.getElem?_eq_none (by rw [Array.length_toList, (hC j).1]; exact h)] at hu; cases hu
    have hx := cellsR_at hC m j i hj hi
    have hlt : j * s + i < m * s := by
      have := Nat.mul_le_mul_right s (show j + 1 ≤ m by omega)
      rw [Nat.succ_mul] at this; omega
    rw [← h4, List.getElem?_take, if_pos hlt] at hx
    rw [Nat.zero_add, cell_of_row w g _ cur _ (0, 0) hc]
    rw [Array.getElem?_toList] at hx hu
    exact hx.trans hu
theorem ownsRow_below' {w w' : World} {base s m : Nat} {e : TypeId} {v : Value} {xs : List Value} (h : w.ownsRow base e s v m xs) (hb : Below w.heap.size w w') : w'.ownsRow base e s v m xs := by
  refine ⟨h.1, ?_⟩
  rcases h.2 with h | ⟨g, cap, cur, hv, hg, hc, r⟩
  · exact .inl h
  · exact .inr ⟨g, cap, cur, hv, hg, (hb.block g (Array.getElem?_eq_some_iff.1 hc).1).trans hc, r⟩
theorem ownsRow_mono {w : World} {base base' s m : Nat} {e : TypeId} {v : Value} {xs : List Value} (h : w.ownsRow base e s v m xs) (hb : base' ≤ base) : w.ownsRow base' e s v m xs := by
  refine ⟨h.1, ?_⟩
  rcases h.2 with h | ⟨g, cap, cur, hv, hg, r⟩
  · exact .inl h
  · exact .inr ⟨g, cap, cur, hv, by omega, r⟩

def OwnB (w : World) (base : Nat) (v : Value) (n : Nat) (z : Nat → Int) : Prop := w.ownsRow base 5 1 v n (vals z n) ∧ ∀ j, 0 ≤ z j ∧ z j ≤ 255
theorem OwnB.nil (w : World) (base : Nat) {z : Nat → Int} (hz : ∀ j, 0 ≤ z j ∧ z j ≤ 255) : OwnB w base (.slice none 0 0) 0 z := ⟨World.ownsRow_nil _ _ _ _, hz⟩
theorem OwnB.below {w w' : World} {base n : Nat} {v : Value} {z : Nat → Int} (h : OwnB w base v n z) (hb : Below w.heap.size w w') : OwnB w' base v n z := ⟨ownsRow_below' h.1 hb, h.2⟩
theorem OwnB.shape {w : World} {base n : Nat} {v : Value} {z : Nat → Int} (h : OwnB w base v n z) : ∃ A c, v = .slice A n c ∧ n ≤ c ∧ c ≤ maxLen ∧ (A = none → n = 0 ∧ c = 0) ∧ Rd w A n z := by
  rcases h.1.2 with ⟨rfl, rfl⟩ | ⟨g, cap, cur, rfl, hb, hc, h1, h2, h3, h4⟩
  · exact ⟨none, 0, rfl, Nat.le_refl _, by decide, fun _ => ⟨rfl, rfl⟩, .inl rfl, h.2⟩
  · refine ⟨some ⟨g, 0, none⟩, cap, rfl, h1, h2, fun e => (by cases e), .inr ⟨g, 0, rfl, (Array.getElem?_eq_some_iff.1 hc).1, fun j hj => ?_, h.2⟩, h.2⟩
    have := vals_at z n j hj
    rw [← h4, List.getElem?_take, if_pos (by omega)] at this
    rw [Nat.zero_add, cell_of_row w g j cur _ (0, 0) hc]
    simpa using this
theorem Own8.ownB {w : World} {base g n cap : Nat} {z : Nat → Int} (h : Own8 w g n cap z) (hg : base ≤ g) : OwnB w base (.slice (some ⟨g, 0, none⟩) n cap) n z := by
  refine ⟨⟨by simp [vals], .inr ?_⟩, h.2⟩
  obtain ⟨⟨cur, hc, h1, h2, h3, h4⟩, h5⟩ := h
  refine ⟨g, cap, cur, rfl, hg, hc, h1, h2, by omega, ?_⟩
  apply List.ext_getElem?
  intro j
  by_cases hj : j < n
  · rw [List.getElem?_take, if_pos (by omega), vals_at z n j hj]
    simpa using h4 j hj
  · rw [List.getElem?_eq_none (by simp; omega), List.getElem?_eq_none (by rw [vals_len]; omega)]
theorem rd_newsB {w : World} {n : Nat} {z : Nat → Int} {ad : Addr} (h : Rd w (some ad) n z) : ∀ j u, (vals z n)[j]? = some u → w.cell? (ad.add j) = some u := by
  intro j u hu
  obtain ⟨hj, rfl⟩ := vals_at' z n j u hu
  obtain ⟨b, off, e, hr⟩ := h.row (by omega)
  injection e with e
  subst e
  rw [add_none]
  exact hr.2.1 j hj

theorem app_b {ops : Array Oper} {rest : List Oper} {o : Oper} {a : Act} {w : World} {Q : Exit → Act → World → Prop} (hgd : o.guard = none) (s x : Operand)
    (ho : o.op = .call { callee := .builtin .append, args := #[s, x], argTypes := #[40, 40] })
    (base : Nat) (v : Value) (n : Nat) (xs : List Value) (hs : a.eval s = v) (hown : w.ownsRow base 5 1 v n xs)
    (ad : Addr) (m c : Nat) (news : List Value) (hx : a.eval x = .slice (some ad) m c) (hl : news.length = m) (hnews : ∀ j u, news[j]? = some u → w.cell? (ad.add j) = some u) (h1 : ∀ u ∈ news, u.oneCell' = true)
    (hn : n + m ≤ 140737488355328) (hbase : base ≤ w.heap.size)
    (h : ∀ v' w', w'.ownsRow base 5 1 v' (n + m) (xs ++ news) → w.grownBy w' v.ownBlock → (v' = .slice none 0 0 ↔ v = .slice none 0 0 ∧ m = 0) → (v'.ownBlock = v.ownBlock ∨ v'.ownBlock = some w.heap.size) → wpList Tryz.prog ops Q rest (a.put o.dst v') w') :
    wpList Tryz.prog ops Q (o :: rest) a w := by
  obtain ⟨i0, hi, hz0, hz1, hz2⟩ := info_parts info_u8
  exact wpList_append_own_at w hgd s x 40 ho base 5 i0 (.int .u8 0) 1 1 Tryz.underlying40 hi hz0 hz1 hz2 rfl (by decide) v n xs hs hown ad m c news hx (by omega) hnews h1 (by unfold maxLen; omega) (by omega) hbase h
theorem app_s {ops : Array Oper} {rest : List Oper} {o : Oper} {a : Act} {w : World} {Q : Exit → Act → World → Prop} (hgd : o.guard = none) (s x : Operand)
    (ho : o.op = .call { callee := .builtin .append, args := #[s, x], argTypes := #[40, 40] })
    (w0 : World) (v : Value) (n : Nat) (xs : List Value) (hs : a.eval s = v) (hown : w.ownsRow w0.heap.size 5 1 v n xs) (hb : Below w0.heap.size w0 w)
    (ad : Addr) (m c : Nat) (news : List Value) (hx : a.eval x = .slice (some ad) m c) (hl : news.length = m) (hnews : ∀ j u, news[j]? = some u → w.cell? (ad.add j) = some u) (h1 : ∀ u ∈ news, u.oneCell' = true)
    (hn : n + m ≤ 140737488355328)
    (h : ∀ v' w', w'.ownsRow w0.heap.size 5 1 v' (n + m) (xs ++ news) → Below w0.heap.size w0 w' → w.heap.size ≤ w'.heap.size → (∀ k, k < w.heap.size → v.ownBlock ≠ some k → w'.heap[k]? = w.heap[k]? ∧ v'.ownBlock ≠ some k) → wpList Tryz.prog ops Q rest (a.put o.dst v') w') :
    wpList Tryz.prog ops Q (o :: rest) a w := by
  refine app_b hgd s x ho w0.heap.size v n xs hs hown ad m c news hx hl hnews h1 hn hb.size ?_
  intro v' w' h2 h3 h4 h5
  refine h v' w' h2 (hb.grown h3 hb.size (fun k e => (hown.lt k e).1)) h3.size (fun k hk hne => ⟨h3.block k hk (fun e => hne e.symm), fun e => ?_⟩)
  rcases h5 with h5 | h5
  · rw [h5] at e; exact hne e
  · rw [h5] at e; injection e with e; omega
end Go.Proofs.YtkiaijmhoikdiaaGreat

/- IDs as numbers and as keys of maps. Each theorem states its conditions. -/
namespace Go.Proofs.YtkiaijmhoikdiaaGreat
open Go.RowKit Go.MapKept
open Go.ChangeMaps (setBlock)
set_option linter.unusedVariables false

def pw : Nat → Nat
  | 0 => 72057594037927936
  | 1 => 281474976710656
  | 2 => 1099511627776
  | 3 => 4294967296
  | 4 => 16777216
  | 5 => 65536
  | 6 => 256
  | _ => 1
def dg (n i : Nat) : Int := ((n / pw i % 256 : Nat) : Int)
def iC (n : Nat) : Array Value := #[.int .u8 (dg n 0), .int .u8 (dg n 1), .int .u8 (dg n 2), .int .u8 (dg n 3), .int .u8 (dg n 4), .int .u8 (dg n 5), .int .u8 (dg n 6), .int .u8 (dg n 7)]
def IdOk (n : Nat) : Prop := n < 18446744073709551616
theorem dg_bd (n i : Nat) : 0 ≤ dg n i ∧ dg n i ≤ 255 := by unfold dg; omega
theorem idC_inj {m n : Nat} (hm : IdOk m) (hn : IdOk n) (h : iC m = iC n) : m = n := by
  simp only [iC, dg, pw, Array.mk.injEq, List.cons.injEq, Value.int.injEq, true_and, and_true] at h
  unfold IdOk at hm hn
  omega
theorem id_of (z : Nat → Int) (hz : ∀ i, 0 ≤ z i ∧ z i ≤ 255) : ∃ n, IdOk n ∧ ∀ i, i < 8 → dg n i = z i := by
  obtain ⟨f, hf⟩ : ∃ f : Nat → Nat, ∀ i, z i = (f i : Int) ∧ f i ≤ 255 := ⟨fun i => (z i).toNat, fun i => by have := hz i; show z i = ((z i).toNat : Int) ∧ (z i).toNat ≤ 255; omega⟩
  have a0 := hf 0; have a1 := hf 1; have a2 := hf 2; have a3 := hf 3; have a4 := hf 4; have a5 := hf 5; have a6 := hf 6; have a7 := hf 7
  refine ⟨f 0 * 72057594037927936 + f 1 * 281474976710656 + f 2 * 1099511627776 + f 3 * 4294967296 + f 4 * 16777216 + f 5 * 65536 + f 6 * 256 + f 7, ?_, fun i hi => ?_⟩
  · unfold IdOk; omega
  · rcases (by omega : i = 0 ∨ i = 1 ∨ i = 2 ∨ i = 3 ∨ i = 4 ∨ i = 5 ∨ i = 6 ∨ i = 7) with rfl | rfl | rfl | rfl | rfl | rfl | rfl | rfl <;> simp only [dg, pw] <;> omega
theorem idC_one (n : Nat) : (iC n).all (·.oneCell') = true := by kernel_rfl
theorem info_iC : (Tryz.prog.info? 35).map (·.size) = some 8 := by kernel_rfl
theorem zero_id : (Tryz.prog.info? 35).map (·.zero) = some (some (.agg (iC 0))) := by kernel_rfl

theorem laidOut : laidOutB Tryz.prog = true := by kernel_rfl
theorem idLaw : WideMaps.KeyLaw Tryz.prog 35 := deep_law_laid laidOut (m := 4) (by omega) (of_decide_eq_true (by kernel_rfl)) (by kernel_rfl) (by rw [Tryz.underlying35])
theorem idKeyed : Maps.Keyed Tryz.prog 35 := Maps.Keyed.of_law idLaw
theorem wf_dg (n i : Nat) : (Lit.int .u8 (dg n i)).wf = true := by
  have := dg_bd n i
  simp [Lit.wf, IntKind.min, IntKind.max, IntKind.bits, IntKind.signed]
  omega
theorem lits_u8 (m : Nat) (a : Int) (ha : (Lit.int .u8 a).wf = true) : Tryz.prog.keyLits (m + 1) 5 [.int .u8 a] = some [.int .u8 a] := by
  simp only [Program.keyLits, Tryz.underlying5, ha, and_self, if_true]
theorem cells_u8 : Tryz.prog.cellsOf 5 = 1 := by kernel_rfl
theorem cells_sys : Tryz.prog.cellsOf 31 = 6 := by kernel_rfl
theorem cells_node : Tryz.prog.cellsOf 33 = 7 := by kernel_rfl
theorem cells_id : Tryz.prog.cellsOf 35 = 8 := by kernel_rfl
theorem lits_sys (m : Nat) (a0 a1 a2 a3 a4 a5 : Int) (h0 : (Lit.int .u8 a0).wf = true) (h1 : (Lit.int .u8 a1).wf = true) (h2 : (Lit.int .u8 a2).wf = true) (h3 : (Lit.int .u8 a3).wf = true) (h4 : (Lit.int .u8 a4).wf = true) (h5 : (Lit.int .u8 a5).wf = true) :
    Tryz.prog.keyLits (m + 2) 31 [.int .u8 a0, .int .u8 a1, .int .u8 a2, .int .u8 a3, .int .u8 a4, .int .u8 a5] = some [.int .u8 a0, .int .u8 a1, .int .u8 a2, .int .u8 a3, .int .u8 a4, .int .u8 a5] := by
  unfold Program.keyLits
  simp only [Tryz.underlying31, cells_sys, cells_u8]
  simp [List.range_succ, lits_u8, h0, h1, h2, h3, h4, h5]
theorem lits_node (m : Nat) (a0 a1 a2 a3 a4 a5 a6 : Int) (h0 : (Lit.int .u8 a0).wf = true) (h1 : (Lit.int .u8 a1).wf = true) (h2 : (Lit.int .u8 a2).wf = true) (h3 : (Lit.int .u8 a3).wf = true) (h4 : (Lit.int .u8 a4).wf = true) (h5 : (Lit.int .u8 a5).wf = true) (h6 : (Lit.int .u8 a6).wf = true) :
    Tryz.prog.keyLits (m + 3) 33 [.int .u8 a0, .int .u8 a1, .int .u8 a2, .int .u8 a3, .int .u8 a4, .int .u8 a5, .int .u8 a6] = some [.int .u8 a0, .int .u8 a1, .int .u8 a2, .int .u8 a3, .int .u8 a4, .int .u8 a5, .int .u8 a6] := by
  unfold Program.keyLits
  simp only [Tryz.underlying33, cells_node]
  simp [cells_sys, cells_u8, lits_u8, lits_sys, h0, h1, h2, h3, h4, h5, h6]
theorem lits_id (m : Nat) (a0 a1 a2 a3 a4 a5 a6 a7 : Int) (h0 : (Lit.int .u8 a0).wf = true) (h1 : (Lit.int .u8 a1).wf = true) (h2 : (Lit.int .u8 a2).wf = true) (h3 : (Lit.int .u8 a3).wf = true) (h4 : (Lit.int .u8 a4).wf = true) (h5 : (Lit.int .u8 a5).wf = true) (h6 : (Lit.int .u8 a6).wf = true) (h7 : (Lit.int .u8 a7).wf = true) :
    Tryz.prog.keyLits (m + 4) 35 [.int .u8 a0, .int .u8 a1, .int .u8 a2, .int .u8 a3, .int .u8 a4, .int .u8 a5, .int .u8 a6, .int .u8 a7] = some [.int .u8 a0, .int .u8 a1, .int .u8 a2, .int .u8 a3, .int .u8 a4, .int .u8 a5, .int .u8 a6, .int .u8 a7] := by
  unfold Program.keyLits
  simp only [Tryz.underlying35, cells_id]
  simp [cells_node, cells_u8, lits_u8, lits_node, h0, h1, h2, h3, h4, h5, h6, h7]
theorem key_id : Tryz.prog.keyType 35 = true := by kernel_rfl
theorem id_key (n : Nat) : ∃ l, keyOf Tryz.prog 35 (.agg (iC n)) = some l := by
  obtain ⟨m, hm⟩ : ∃ m, Tryz.prog.types.size + 1 = m + 4 := ⟨Tryz.prog.types.size - 3, by have : 4 ≤ Tryz.prog.types.size := of_decide_eq_true (by kernel_rfl); omega⟩
  have hf : (Value.agg (iC n)).formed Tryz.prog 35 = true := by simp [Value.formed, Tryz.underlying35, cells_id, iC]
  have hl := lits_id m _ _ _ _ _ _ _ _ (wf_dg n 0) (wf_dg n 1) (wf_dg n 2) (wf_dg n 3) (wf_dg n 4) (wf_dg n 5) (wf_dg n 6) (wf_dg n 7)
  unfold keyOf
  simp only [Tryz.underlying35, key_id, hf, Bool.and_self, if_true, hm]
  exact ⟨_, by rw [show (Value.agg (iC n)).cells.toList = [.int .u8 (dg n 0), .int .u8 (dg n 1), .int .u8 (dg n 2), .int .u8 (dg n 3), .int .u8 (dg n 4), .int .u8 (dg n 5), .int .u8 (dg n 6), .int .u8 (dg n 7)] from rfl, hl]; rfl⟩
end Go.Proofs.YtkiaijmhoikdiaaGreat

/- A map from IDs to pointers: made, looked up, written, dropped from, counted. Each theorem states its conditions. -/
namespace Go.Proofs.YtkiaijmhoikdiaaGreat
open Go.RowKit Go.MapKept
open Go.ChangeMaps (setBlock)
set_option linter.unusedVariables false

def ptrV : Option Nat → Value
  | none => .pointer none
  | some g => .pointer (some ⟨g, 0, none⟩)
theorem zero_heldp : (Tryz.prog.info? 84).map (·.zero) = some (some (.pointer none)) := by kernel_rfl
def MapAt (w : World) (b : Nat) (M : Nat → Option Nat) (k : Nat) : Prop :=
  ∃ es clock, w.heap[b]? = some (.map es clock) ∧ Stamped es clock ∧ es.size = k ∧ (∀ e ∈ es.toList, ∃ n g, IdOk n ∧ e.key = .agg (iC n) ∧ e.val = ptrV (some g) ∧ M n = some g) ∧ (∀ n g, M n = some g → IdOk n ∧ ∃ e ∈ es.toList, e.key = .agg (iC n) ∧ e.val = ptrV (some g))
def Turn (w w' : World) (b : Nat) : Prop := ∃ es clock es' clock', w.heap[b]? = some (.map es clock) ∧ w' = setBlock w b (.map es' clock')
def putM (M : Nat → Option Nat) (n : Nat) (g : Option Nat) : Nat → Option Nat := fun y => if y = n then g else M y
section
variable {w w' : World} {b k : Nat} {M : Nat → Option Nat}
theorem MapAt.lt (h : MapAt w b M k) : b < w.heap.size := by obtain ⟨_, _, h, _⟩ := h; exact (Array.getElem?_eq_some_iff.1 h).1
theorem MapAt.at (h : MapAt w b M k) (h1 : w'.heap[b]? = w.heap[b]?) : MapAt w' b M k := by
  obtain ⟨es, c, h0, r⟩ := h
  exact ⟨es, c, h1.trans h0, r⟩
theorem MapAt.congr (h : MapAt w b M k) {M' : Nat → Option Nat} (e : ∀ n, M n = M' n) : MapAt w b M' k := by rw [← (funext e : M = M')]; exact h
theorem MapAt.ok (h : MapAt w b M k) {n g : Nat} (hn : M n = some g) : IdOk n := by obtain ⟨_, _, _, _, _, _, r⟩ := h; exact (r n g hn).1
theorem MapAt.new (w : World) : MapAt (w.alloc (.map #[] 0)) w.heap.size (fun _ => none) 0 := ⟨#[], 0, (heap_alloc w _).1, stamped_empty 0, rfl, by simp, by simp⟩
theorem Turn.block (h : Turn w w' b) {i : Nat} (hi : i ≠ b) : w'.heap[i]? = w.heap[i]? := by
  obtain ⟨_, _, _, _, _, rfl⟩ := h
  exact ChangeMaps.heap_setBlock_other (by assumption) _ hi
theorem Turn.size (h : Turn w w' b) : w'.heap.size = w.heap.size := by obtain ⟨_, _, _, _, _, rfl⟩ := h; simp [setBlock]
theorem Turn.below {B : Nat} (h : Turn w w' b) (hB : B ≤ b) (hs : B ≤ w.heap.size) : Below B w w' := by
  have hg : w.grownBy w' (some b) := World.mapTurned.grown h
  exact (Below.refl B w).grown hg hs (fun k e => by cases e; exact hB)
theorem Turn.grown (h : Turn w w' b) : w.grownBy w' (some b) := World.mapTurned.grown h
theorem MapAt.below {B : Nat} (h : MapAt w b M k) (hb : Below B w w') (hB : b < B) : MapAt w' b M k := h.at (hb.block b hB)
theorem mkeys_of {es : Array MapEntry} (h : ∀ e ∈ es.toList, ∃ n g, IdOk n ∧ e.key = .agg (iC n) ∧ e.val = ptrV (some g) ∧ M n = some g) : ∀ e ∈ es.toList, ∃ l, keyOf Tryz.prog 35 e.key = some l := by
  intro e he
  obtain ⟨n, _, _, hk, _⟩ := h e he
  rw [hk]; exact id_key n
theorem map_look (h : MapAt w b M k) {n : Nat} (hn : IdOk n) : (Instr.lookup 74 (.map (some b)) (.agg (iC n)) true).run Tryz.prog w = .ok (.tuple #[ptrV (M n), .bool (M n).isSome]) w := by
  obtain ⟨es, clock, hb, hst, hsz, h1, h2⟩ := h
  obtain ⟨l, hl⟩ := id_key n
  rcases idKeyed.find w hl es.toList (mkeys_of h1) with ⟨f1, f2⟩ | ⟨j, e0, f1, f2, f3⟩
  · have hN : M n = none := by
      cases e : M n with
      | none => rfl
      | some g => obtain ⟨_, x, hx, hk, _⟩ := h2 n g e; exact absurd hk (f2 x hx)
    have hz : (zeroValue 84).run Tryz.prog w = .ok (.pointer none) w := by
      have hi := zero_heldp
      cases hq : Tryz.prog.info? 84 with
      | none => rw [hq] at hi; cases hi
      | some i =>
        rw [hq] at hi
        have hz' : i.zero = some (.pointer none) := by simpa using hi
        simp [zeroValue, typeInfo, hq, hz', go_sem]
    rw [hN]
    simp [Instr.lookup, run_underlying Tryz.underlying74, MapKept.run_getObj_map hb, idKeyed.check w _ hl, f1, hz, Result.andThen, ptrV]
  · have hm0 : e0 ∈ es.toList := List.mem_of_getElem? f2
    obtain ⟨m, g, m1, m2, m3, m4⟩ := h1 e0 hm0
    have hmn : m = n := idC_inj m1 hn ((Value.agg.inj (f3.symm.trans m2)).symm)
    subst hmn
    rw [m4]
    simp [Instr.lookup, run_underlying Tryz.underlying74, MapKept.run_getObj_map hb, idKeyed.check w _ hl, f1, m3, Result.andThen]
theorem map_put (h : MapAt w b M k) {n : Nat} (hn : IdOk n) (g : Nat) : ∃ w', (Instr.mapUpdate 74 (.map (some b)) (.agg (iC n)) (ptrV (some g))).run Tryz.prog w = .ok () w' ∧ MapAt w' b (putM M n (some g)) (if (M n).isSome then k else k + 1) ∧ Turn w w' b := by
  obtain ⟨es, clock, hb, hst, hsz, h1, h2⟩ := h
  obtain ⟨l, hl⟩ := id_key n
  rcases idKeyed.find w hl es.toList (mkeys_of h1) with ⟨f1, f2⟩ | ⟨j, e0, f1, f2, f3⟩
  · have hN : M n = none := by
      cases e : M n with
      | none => rfl
      | some g => obtain ⟨_, x, hx, hk, _⟩ := h2 n g e; exact absurd hk (f2 x hx)
    refine ⟨setBlock w b (.map (es.push ⟨.agg (iC n), ptrV (some g), clock⟩) (clock + 1)), ?_, ⟨_, _, ChangeMaps.heap_setBlock_same hb _, stamped_push hst f2, by rw [hN]; simp; omega, ?_, ?_⟩, ⟨_, _, _, _, hb, rfl⟩⟩
    · simp [Instr.mapUpdate, run_underlying Tryz.underlying74, MapKept.run_getObj_map hb, idKeyed.check w false hl, f1, MapKept.run_setObj_map _ hb, Result.andThen, setBlock]
    · intro e he
      simp only [Array.toList_push, List.mem_append, List.mem_singleton] at he
      rcases he with he | rfl
      · obtain ⟨m, g', m1, m2, m3, m4⟩ := h1 e he
        refine ⟨m, g', m1, m2, m3, ?_⟩
        unfold putM
        rw [if_neg (fun e => by subst e; rw [hN] at m4; cases m4)]; exact m4
      · exact ⟨n, g, hn, rfl, rfl, by simp [putM]⟩
    · intro y g' hy
      unfold putM at hy
      by_cases e : y = n
      · subst e
        rw [if_pos rfl] at hy
        cases hy
        exact ⟨hn, ⟨.agg (iC y), ptrV (some g), clock⟩, by simp, rfl, rfl⟩
      · rw [if_neg e] at hy
        obtain ⟨a, x, hx, hk⟩ := h2 y g' hy
        exact ⟨a, x, by simp [Array.toList_push, hx], hk⟩
  · have hm0 : e0 ∈ es.toList := List.mem_of_getElem? f2
    obtain ⟨m, g0, m1, m2, m3, m4⟩ := h1 e0 hm0
    have hmn : m = n := idC_inj m1 hn ((Value.agg.inj (f3.symm.trans m2)).symm)
    subst hmn
    have hj : es[j]? = some e0 := by simpa using f2
    obtain ⟨f, hf⟩ : ∃ f : MapEntry → MapEntry, f = fun e' => { e' with key := .agg (iC m), val := ptrV (some g) } := ⟨_, rfl⟩
    have hmod : (es.modify j f).toList = es.toList.set j ⟨.agg (iC m), ptrV (some g), e0.born⟩ := by
      rw [Array.toList_modify, ChangeMaps.modify_eq_set _ _ _ _ f2, hf]
    have hap : es.toList.Pairwise (fun x y => x.key ≠ y.key) := ((stamped_iff es clock).1 hst).2.2
    obtain ⟨hjl, hje⟩ := List.getElem?_eq_some_iff.1 f2
    have hset : ∀ e, e ∈ es.toList.set j ⟨.agg (iC m), ptrV (some g), e0.born⟩ → e = ⟨.agg (iC m), ptrV (some g), e0.born⟩ ∨ (e ∈ es.toList ∧ e.key ≠ .agg (iC m)) := by
      intro e he
      obtain ⟨i, hi⟩ := List.getElem?_of_mem he
      rw [List.getElem?_set] at hi
      by_cases e1 : j = i
      · subst e1
        rw [if_pos rfl, if_pos hjl] at hi
        exact .inl (by cases hi; rfl)
      · rw [if_neg e1] at hi
        refine .inr ⟨List.mem_of_getElem? hi, fun hk => ?_⟩
        obtain ⟨hil, hie⟩ := List.getElem?_eq_some_iff.1 hi
        rcases Nat.lt_or_gt_of_ne e1 with hlt | hlt
        · exact List.pairwise_iff_getElem.1 hap j i hjl hil hlt (by rw [hie, hje, hk, f3])
        · exact List.pairwise_iff_getElem.1 hap i j hil hjl hlt (by rw [hie, hje, hk, f3])
    have hst' : Stamped (es.modify j f) clock := by
      rw [hf]
      exact stamped_modify hst j _ (fun _ _ => rfl) (fun e _ hi => by rw [hj] at hi; cases hi; exact f3.symm)
    refine ⟨setBlock w b (.map (es.modify j f) clock), ?_, ⟨_, _, ChangeMaps.heap_setBlock_same hb _, hst', by rw [m4]; simp; omega, ?_, ?_⟩, ⟨_, _, _, _, hb, rfl⟩⟩
    · rw [hf]
      simp [Instr.mapUpdate, run_underlying Tryz.underlying74, MapKept.run_getObj_map hb, idKeyed.check w false hl, f1, hj, f3, idKeyed.stays w hl, MapKept.run_setObj_map _ hb, Result.andThen, setBlock]
    · intro e he
      rw [hmod] at he
      rcases hset e he with rfl | ⟨he, hk⟩
      · exact ⟨m, g, m1, rfl, rfl, by simp [putM]⟩
      · obtain ⟨y, g', y1, y2, y3, y4⟩ := h1 e he
        refine ⟨y, g', y1, y2, y3, ?_⟩
        unfold putM
        rw [if_neg (fun e1 => by subst e1; exact hk y2)]; exact y4
    · intro y g' hy
      unfold putM at hy
      by_cases e : y = m
      · subst e
        rw [if_pos rfl] at hy
        cases hy
        refine ⟨m1, ⟨.agg (iC y), ptrV (some g), e0.born⟩, ?_, rfl, rfl⟩
        rw [hmod]
        exact List.mem_of_getElem? (i := j) (by rw [List.getElem?_set, if_pos rfl, if_pos hjl])
      · rw [if_neg e] at hy
        obtain ⟨a, x, hx, hk, hv⟩ := h2 y g' hy
        refine ⟨a, x, ?_, hk, hv⟩
        rw [hmod]
        obtain ⟨i, hi⟩ := List.getElem?_of_mem hx
        refine List.mem_of_getElem? (i := i) ?_
        rw [List.getElem?_set, if_neg (fun e1 => ?_)]
        · exact hi
        · subst e1
          rw [f2] at hi
          cases hi
          rw [f3] at hk
          exact e (idC_inj m1 a (Value.agg.inj hk)).symm
theorem map_len (h : MapAt w b M k) (ty : TypeId) : (Builtin.len_ #[74] ty #[.map (some b)]).run Tryz.prog w = .ok (.int .i64 (k : Int)) w := by
  obtain ⟨es, clock, hb, hst, hsz, h1, h2⟩ := h
  rw [← hsz]
  simp [Builtin.len_, run_underlying Tryz.underlying74, MapKept.run_getObj_map hb, goInt, Result.andThen]
theorem map_drop (h : MapAt w b M k) {n : Nat} (hn : IdOk n) (ty : TypeId) : ∃ w', (Builtin.delete_ #[74, 35] ty #[.map (some b), .agg (iC n)]).run Tryz.prog w = .ok (.tuple #[]) w' ∧ MapAt w' b (putM M n none) (if (M n).isSome then k - 1 else k) ∧ Turn w w' b := by
  obtain ⟨es, clock, hb, hst, hsz, h1, h2⟩ := h
  obtain ⟨l, hl⟩ := id_key n
  rcases idKeyed.find w hl es.toList (mkeys_of h1) with ⟨f1, f2⟩ | ⟨j, e0, f1, f2, f3⟩
  · have hN : M n = none := by
      cases e : M n with
      | none => rfl
      | some g => obtain ⟨_, x, hx, hk, _⟩ := h2 n g e; exact absurd hk (f2 x hx)
    refine ⟨setBlock w b (.map es clock), ?_, ⟨es, clock, ChangeMaps.heap_setBlock_same hb _, hst, by rw [hN]; exact hsz, ?_, ?_⟩, ⟨_, _, _, _, hb, rfl⟩⟩
    · simp [Builtin.delete_, run_underlying Tryz.underlying74, MapKept.run_getObj_map hb, idKeyed.check w _ hl, f1, MapKept.run_setObj_map _ hb, Result.andThen, setBlock]
    · intro e he
      obtain ⟨y, g, y1, y2, y3, y4⟩ := h1 e he
      refine ⟨y, g, y1, y2, y3, ?_⟩
      unfold putM
      rw [if_neg (fun e1 => by subst e1; exact f2 e he y2)]; exact y4
    · intro y g hy
      unfold putM at hy
      by_cases e : y = n
      · rw [if_pos e] at hy; cases hy
      · rw [if_neg e] at hy; exact h2 y g hy
  · have hm0 : e0 ∈ es.toList := List.mem_of_getElem? f2
    obtain ⟨m, g0, m1, m2, m3, m4⟩ := h1 e0 hm0
    have hmn : m = n := idC_inj m1 hn ((Value.agg.inj (f3.symm.trans m2)).symm)
    subst hmn
    have hjl : j < es.toList.length := (List.getElem?_eq_some_iff.1 f2).1
    have hjs : j < es.size := by simpa using hjl
    have hsub : (es.eraseIdxIfInBounds j).toList = es.toList.eraseIdx j := by
      unfold Array.eraseIdxIfInBounds
      rw [dif_pos hjs]
      simp
    have hsz' : (es.eraseIdxIfInBounds j).size = k - 1 := by
      rw [← Array.length_toList, hsub, List.length_eraseIdx_of_lt hjl, Array.length_toList, hsz]
    have hap : es.toList.Pairwise (fun x y => x.key ≠ y.key) := ((stamped_iff es clock).1 hst).2.2
    refine ⟨setBlock w b (.map (es.eraseIdxIfInBounds j) clock), ?_, ⟨_, clock, ChangeMaps.heap_setBlock_same hb _, stamped_erase hst j, by rw [m4]; exact hsz', ?_, ?_⟩, ⟨_, _, _, _, hb, rfl⟩⟩
    · simp [Builtin.delete_, run_underlying Tryz.underlying74, MapKept.run_getObj_map hb, idKeyed.check w _ hl, f1, MapKept.run_setObj_map _ hb, Result.andThen, setBlock]
    · intro e he
      rw [hsub] at he
      obtain ⟨i, hne, hi⟩ := List.mem_eraseIdx_iff_getElem?.1 he
      obtain ⟨y, g, y1, y2, y3, y4⟩ := h1 e (List.mem_of_getElem? hi)
      refine ⟨y, g, y1, y2, y3, ?_⟩
      unfold putM
      rw [if_neg ?_]
      · exact y4
      rintro rfl
      obtain ⟨hil, hie⟩ := List.getElem?_eq_some_iff.1 hi
      obtain ⟨hjl', hje⟩ := List.getElem?_eq_some_iff.1 f2
      rcases Nat.lt_or_gt_of_ne hne with hlt | hlt
      · exact List.pairwise_iff_getElem.1 hap i j hil hjl hlt (by rw [hie, hje, y2, f3])
      · exact List.pairwise_iff_getElem.1 hap j i hjl hil hlt (by rw [hie, hje, y2, f3])
    · intro y g hy
      unfold putM at hy
      by_cases e : y = m
      · rw [if_pos e] at hy; cases hy
      rw [if_neg e] at hy
      obtain ⟨a, x, hx, hk, hv⟩ := h2 y g hy
      refine ⟨a, x, ?_, hk, hv⟩
      rw [hsub]
      obtain ⟨i, hi⟩ := List.getElem?_of_mem hx
      refine List.mem_eraseIdx_iff_getElem?.2 ⟨i, fun e1 => e ?_, hi⟩
      subst e1
      rw [f2] at hi
      cases hi
      rw [f3] at hk
      exact (idC_inj m1 a (Value.agg.inj hk)).symm
end
end Go.Proofs.YtkiaijmhoikdiaaGreat

/- octet.Num answers the number of the bytes, where the place and the count lie within. Each theorem states its conditions. -/
namespace Go.Proofs.YtkiaijmhoikdiaaGreat
open Go.RowKit
set_option linter.unusedVariables false

theorem num_ok (b off len cap : Nat) (z : Nat → Int) (i k : Int) (w : World)
    (hz : ∀ j, 0 ≤ z j ∧ z j ≤ 255) (hm : cap ≤ maxLen) (hlc : len ≤ cap)
    (hc : ∀ j, j < len → w.cell? ⟨b, off + j, none⟩ = some (.int .u8 (z j)))
    (hk1 : 1 ≤ k) (hk8 : k ≤ 8) (hi0 : 0 ≤ i) (hik : i ≤ len - k) :
    Calls Tryz.prog 125 #[.slice (some ⟨b, off, none⟩) len cap, .int .i64 i, .int .i64 k] w fun e w' => e = .returned (.tuple #[.int .u64 (numZ z i.toNat k.toNat), .int .i64 0]) ∧ w = w' := by
  obtain ⟨n, rfl⟩ := Int.eq_ofNat_of_zero_le hi0
  obtain ⟨m, rfl⟩ := Int.eq_ofNat_of_zero_le (show 0 ≤ k by omega)
  unfold maxLen at hm
  go_enter Tryz.func125, Tryz.ntmps125
  go_wp2
  go_loop [8, 34] (fun v i => ∃ c : Nat, c ≤ m ∧ i = .int .i64 c ∧ v = .int .u64 (numZ z n c)) (fun _ i => m - (intOf i).toNat)
  case atStart => exact ⟨0, Nat.zero_le _, rfl, rfl⟩
  case round =>
    obtain ⟨c, hcm, rfl, rfl⟩ := hrel
    by_cases hlt : c < m
    · have hcell := hc (n + c) (by omega)
      rw [← Nat.add_assoc] at hcell
      have hb := hz (n + c)
      have hs := Lib.hid (numZ_step z n c (by omega) hz)
      go_wp2
      go_round
      case rel => exact ⟨c + 1, by omega, by go_num, by rw [hs.out]⟩
      case measure => simp [intOf]; omega
    · obtain rfl : c = m := by omega
      go_wp2
      go_ret2
      exact ⟨rfl, rfl⟩
end Go.Proofs.YtkiaijmhoikdiaaGreat

/- octet.Put and the document's Put, Bytes and Number; octet.Num's errors and the document's Num. Each theorem states its conditions. -/
namespace Go.Proofs.YtkiaijmhoikdiaaGreat
open Go.RowKit
set_option linter.unusedVariables false

def zer (k : Nat) : Array Value := madeCells (Value.cells (.int .u8 0)) (k * 1)
theorem make8 (k : Nat) (hk : k ≤ 140737488351232) (W : World) :
    (Instr.makeSlice 40 (.int .i64 (k : Int)) (.int .i64 (k : Int))).run Tryz.prog W = .ok (.slice (some ⟨W.heap.size, 0, none⟩) k k) (W.alloc (.cells (zer k) 5)) := by
  obtain ⟨i0, hi, hz0, hz1, hz2⟩ := info_parts info_u8
  have h := run_make (P := Tryz.prog) W 40 5 i0 (.int .u8 0) Tryz.underlying40 hi hz0 .i64 .i64 k k (by omega) (by omega) (by rw [hz2]; omega) (by omega)
  simp only [Int.toNat_natCast, hz1] at h
  exact h
theorem zer_size (k : Nat) : (zer k).size = k := by unfold zer; rw [size_madeCells]; omega
theorem zer_at (k j : Nat) (h : j < k) : (zer k)[j]? = some (.int .u8 0) := by
  simp [zer, madeCells, Value.cells, h, Nat.mod_one]
theorem zer_own (W : World) (k : Nat) (hk : k ≤ maxLen) : Own8 (W.alloc (.cells (zer k) 5)) W.heap.size k k (fun _ => 0) :=
  ⟨⟨zer k, heap_alloc_new W _, Nat.le_refl _, hk, zer_size k, fun j hj => zer_at k j hj⟩, fun _ => ⟨Int.le_refl 0, show (0 : Int) ≤ 255 by decide⟩⟩

def qN (N i : Nat) : Nat := N / 256 ^ i
theorem qN_0 (N : Nat) : qN N 0 = N := by simp [qN]
theorem qN_s (N i : Nat) : qN N (i + 1) = qN N i / 256 := by unfold qN; rw [Nat.pow_succ, Nat.div_div_eq_div_mul]
theorem qN_le (N i : Nat) : qN N i ≤ N := Nat.div_le_self _ _
def putZ (N k : Nat) : Nat → Int := fun j => ((qN N (k - 1 - j) % 256 : Nat) : Int)
theorem putZ_bd (N k : Nat) : ∀ j, 0 ≤ putZ N k j ∧ putZ N k j ≤ 255 := fun j => by unfold putZ; omega
def partZ (N k i : Nat) : Nat → Int := fun j => if k ≤ j + i then putZ N k j else 0
theorem partZ_0 (N k : Nat) (j : Nat) (h : j < k) : partZ N k 0 j = 0 := by unfold partZ; rw [if_neg (by omega)]
theorem partZ_all (N k : Nat) : partZ N k k = putZ N k := by funext j; unfold partZ; rw [if_pos (by omega)]
theorem partZ_s (N k i : Nat) (h : i < k) : upd (partZ N k i) (k - 1 - i) ((qN N i % 256 : Nat) : Int) = partZ N k (i + 1) := by
  funext j
  unfold upd partZ
  by_cases e : j = k - 1 - i
  · rw [if_pos e, if_pos (by omega)]
    unfold putZ
    rw [show k - 1 - j = i by omega]
  · rw [if_neg e]
    by_cases h2 : k ≤ j + i
    · rw [if_pos h2, if_pos (by omega)]
    · rw [if_neg h2, if_neg (by omega)]
theorem num_part (N k m : Nat) (h : m ≤ k) : numZ (putZ N k) 0 m = ((qN N (k - m) % 256 ^ m : Nat) : Int) := by
  induction m with
  | zero => simp [numZ, Nat.mod_one]
  | succ m ih =>
    show numZ (putZ N k) 0 m * 256 + putZ N k (0 + m) = _
    rw [ih (by omega), Nat.zero_add]
    unfold putZ
    rw [show k - m = (k - (m + 1)) + 1 by omega, qN_s, show k - 1 - m = k - (m + 1) by omega, Nat.pow_succ, Nat.mul_comm (256 ^ m) 256, Nat.mod_mul]
    omega
theorem num_put (N k : Nat) : numZ (putZ N k) 0 k = ((N % 256 ^ k : Nat) : Int) := by
  rw [num_part N k k (Nat.le_refl _), Nat.sub_self, qN_0]
theorem own_store {w w0 : World} {g k i : Nat} {z z' : Nat → Int} {v : Int} (h : Own8 w g k k z) (hi : i < k) (hv : 0 ≤ v ∧ v ≤ 255) (hz : upd z i v = z') {B : Nat} (hb : Below B w0 w) (hB : B ≤ g) :
    Own8 (w.setCell ⟨g, i, none⟩ (.int .u8 v)) g k k z' ∧ Below B w0 (w.setCell ⟨g, i, none⟩ (.int .u8 v)) := by
  subst hz
  exact ⟨h.put i hi v hv, hb.setCell hB _⟩

theorem part_start (w : World) (N k : Nat) (hk8 : k ≤ 8) : Own8 (w.alloc (.cells (zer k) 5)) w.heap.size k k (partZ N k 0) := by
  have h := zer_own w k (by simp only [maxLen]; omega)
  refine ⟨?_, fun j => ?_⟩
  · obtain ⟨⟨cur, h1, h2, h3, h4, h5⟩, _⟩ := h
    exact ⟨cur, h1, h2, h3, h4, fun j hj => by rw [partZ_0 N k j hj]; exact h5 j hj⟩
  · unfold partZ; split
    · exact putZ_bd N k j
    · exact ⟨Int.le_refl 0, by decide⟩

def BytesPost (w : World) (N k : Nat) (e : Ending) (w' : World) : Prop :=
  ∃ g, e = .returned (.slice (some ⟨g, 0, none⟩) k k) ∧ w.heap.size ≤ g ∧ Own8 w' g k k (putZ N k) ∧ Below w.heap.size w w'

theorem bytes_any (N k : Nat) (w : World) (hN : N ≤ 18446744073709551615) (hk1 : 1 ≤ k) (hk8 : k ≤ 8) :
    Calls Tryz.prog 60 #[.int .u64 N, .int .i64 k] w (BytesPost w N k) := by
  have hmk := make8 k (by omega)
  go_enter Tryz.func60, Tryz.ntmps60
  go_wp2
  go_loopw [0, 11] (fun q t wr => ∃ i : Nat, i ≤ k ∧ t = .int .i64 i ∧ q = .int .u64 (qN N i : Nat) ∧ Own8 wr w.heap.size k k (partZ N k i) ∧ Below w.heap.size w wr) (fun _ t _ => k - (intOf t).toNat)
  case atStart => exact ⟨0, Nat.zero_le _, rfl, by rw [qN_0], part_start w N k hk8, (bself w).alloc (Nat.le_refl _) _⟩
  case round =>
    obtain ⟨i, hi, rfl, rfl, ho, hb⟩ := hrel
    by_cases hlt : i < k
    · obtain ⟨j, hj1, hj2⟩ : ∃ j : Nat, (k : Int) - 1 - i = j ∧ j = k - 1 - i := ⟨k - 1 - i, by omega, rfl⟩
      have cj := own_at ho j (by omega)
      have fj := ho.free j
      have hs := Lib.hid (qN_s N i)
      have hq := qN_le N i
      have hp := Lib.hid (partZ_s N k i hlt)
      have HJ := Lib.hid hj2
      have HO := Lib.hid ho
      have hj3 : j < k := by omega
      clear hj2 ho
      generalize qN N i = q at *
      have hq256 : ((q % 256 : Nat) : Int) = (q : Int) % 256 := by omega
      have hst := Lib.hid (own_store (v := (q : Int) % 256) (z' := partZ N k (i + 1)) HO.out hj3 (by omega) (by rw [HJ.out, ← hq256]; exact hp.out) hb (Nat.le_refl _))
      clear hq256
      go_wp2
      go_roundw
      case rel => exact ⟨i + 1, by omega, by go_num, by rw [hs.out]; go_num, hst.out.1, hst.out.2⟩
      case measure => simp [intOf]; omega
    · obtain rfl : i = k := by omega
      rw [partZ_all] at ho
      go_wp2
      go_ret
      exact ⟨_, rfl, Nat.le_refl _, ho, hb⟩

theorem number_any (b off n c : Nat) (z : Nat → Int) (w : World) (hr : Row8 w b off n z) (hn : n ≤ 8) :
    Calls Tryz.prog 49 #[.slice (some ⟨b, off, none⟩) n c] w fun e w' => e = .returned (.int .u64 (numZ z 0 n)) ∧ w = w' := by
  have hz := hr.2.2
  have hc := hr.2.1
  clear hr
  go_enter Tryz.func49, Tryz.ntmps49
  go_wp2
  go_loop [3, 4] (fun v t => ∃ i : Nat, i ≤ n ∧ t = .int .i64 i ∧ v = .int .u64 (numZ z 0 i)) (fun _ t => n - (intOf t).toNat)
  case atStart => exact ⟨0, Nat.zero_le _, rfl, rfl⟩
  case round =>
    obtain ⟨i, hi, rfl, rfl⟩ := hrel
    by_cases hlt : i < n
    · have ci := hc i hlt
      have hb := hz i
      have h56 := numZ_56 z 0 i (by omega) hz
      have hs : Hid (numZ z 0 (i + 1) = numZ z 0 i * 256 + z i) := Lib.hid (by show numZ z 0 i * 256 + z (0 + i) = _; rw [Nat.zero_add])
      go_wp2
      go_round
      case rel => exact ⟨i + 1, by omega, by go_num, by rw [hs.out]⟩
      case measure => simp [intOf]; omega
    · obtain rfl : i = n := by omega
      go_wp2
      go_ret
      exact ⟨rfl, rfl⟩

end Go.Proofs.YtkiaijmhoikdiaaGreat

/- Entries: their cells, their bytes; small functions of pdu. Each theorem states its conditions. -/
namespace Go.Proofs.YtkiaijmhoikdiaaGreat
open Go.RowKit
set_option linter.unusedVariables false

theorem vals_add (z : Nat → Int) (n m : Nat) : vals z (n + m) = vals z n ++ vals (fun j => z (n + j)) m := by
  unfold vals
  rw [List.range_add, List.map_append, List.map_map]
  rfl
theorem vals_snoc (z : Nat → Int) (n : Nat) : vals z n ++ [.int .u8 (z n)] = vals z (n + 1) := by
  rw [vals_add]
  rfl
theorem u8_one (x : Int) : ∀ u ∈ [Value.int .u8 x], u.oneCell' = true := by
  intro u hu; simp only [List.mem_cons, List.not_mem_nil, or_false] at hu; subst hu; rfl
structure En where
  s : Nat → Int
  sq : Nat
  li : Int
  su : Nat
def enC (e : En) : Array Value := #[.int .u8 (e.s 0), .int .u8 (e.s 1), .int .u8 (e.s 2), .int .u8 (e.s 3), .int .u8 (e.s 4), .int .u8 (e.s 5), .int .u8 (e.s 6), .int .u8 (e.s 7), .int .u32 (e.sq : Int), .int .i64 e.li, .int .u16 (e.su : Int)]
theorem isTime_yes (n : Int) (w : World) (h1 : 0 ≤ n) (h2 : n ≤ 65535) : Calls Tryz.prog 131 #[.int .i64 n] w fun e w' => e = .returned (.bool true) ∧ w' = w := by
  go_enter Tryz.func131, Tryz.ntmps131
  go_wp2
  go_ret
  exact ⟨rfl, rfl⟩
theorem isTime_no (n : Int) (w : World) (h : n < 0 ∨ 65535 < n) : Calls Tryz.prog 131 #[.int .i64 n] w fun e w' => e = .returned (.bool false) ∧ w' = w := by
  by_cases a : n < 0
  · clear h
    go_enter Tryz.func131, Tryz.ntmps131
    go_wp2
    go_ret
    exact ⟨rfl, rfl⟩
  · have a' : 0 ≤ n := by omega
    have b : ¬ n ≤ 65535 := by omega
    clear h a
    go_enter Tryz.func131, Tryz.ntmps131
    go_wp2
    go_ret
    exact ⟨rfl, rfl⟩
theorem made_b (w0 w : World) (hb : Below w0.heap.size w0 w) : (w.alloc (.cells #[] 5)).ownsRow w0.heap.size 5 1 (.slice (some ⟨w.heap.size, 0, none⟩) 0 0) 0 [] :=
  World.ownsRow_made w #[] 0 hb.size (by decide) rfl
end Go.Proofs.YtkiaijmhoikdiaaGreat

/- More steps of a region whose order is drawn: memory that is made, calls told with what they answer, appends. Each theorem states its conditions. -/
namespace Go.Proofs.YtkiaijmhoikdiaaGreat
open Go.RowKit
set_option linter.unusedVariables false

section
variable {P : Program} {ops : Array Oper} {Q : Exit → Act → World → Prop} {md : Region.Mode} {S : World → Prop}
end
theorem app_run {o : Oper} {a : Act} {w : World} (s x : Operand)
    (ho : o.op = .call { callee := .builtin .append, args := #[s, x], argTypes := #[40, 40] })
    (w0 : World) (v : Value) (n : Nat) (xs : List Value) (hs : a.eval s = v) (hown : w.ownsRow w0.heap.size 5 1 v n xs) (hb : Below w0.heap.size w0 w)
    (ad : Addr) (m c : Nat) (news : List Value) (hx : a.eval x = .slice (some ad) m c) (hl : news.length = m) (hnews : ∀ j u, news[j]? = some u → w.cell? (ad.add j) = some u) (h1 : ∀ u ∈ news, u.oneCell' = true)
    (hn : n + m ≤ 140737488355328) :
    ∃ v' w', (execOp a.eval o).run Tryz.prog w = .ok (.value v') w' ∧ w'.ownsRow w0.heap.size 5 1 v' (n + m) (xs ++ news) ∧ Below w0.heap.size w0 w' ∧ w.heap.size ≤ w'.heap.size ∧ (∀ k, k < w.heap.size → v.ownBlock ≠ some k → w'.heap[k]? = w.heap[k]? ∧ v'.ownBlock ≠ some k) := by
  obtain ⟨i0, hi, hz0, hz1, hz2⟩ := info_parts info_u8
  obtain ⟨v', w', hr, h2, h3, h4, h5⟩ := run_append_own_at (P := Tryz.prog) w w0.heap.size 40 o.type 5 i0 (.int .u8 0) 1 1 Tryz.underlying40 hi hz0 hz1 hz2 rfl (by decide) v n xs hown ad m c news (by omega) hnews h1 (by unfold maxLen; omega) (by omega) hb.size
  refine ⟨v', w', ?_, h2, hb.grown h3 hb.size (fun k e => (hown.lt k e).1), h3.size, fun k hk hne => ⟨h3.block k hk (fun e => hne e.symm), fun e => ?_⟩⟩
  · unfold execOp
    simp only [ho, resolve, invoke, builtin, Sem.run_bind, Sem.run_pure, Result.andThen_ok, List.map_toArray, List.map_cons, List.map_nil, hs, hx, hr]
  · rcases h5 with h5 | h5
    · rw [h5] at e; exact hne e
    · rw [h5] at e; injection e with e; omega
theorem takeA {ops : Array Oper} {Q : Exit → Act → World → Prop} {md : Region.Mode} {S : World → Prop} {i : Nat} {oi : Oper} (d : Option Tmp) {fuel : Nat} {listed : Array Bool} {a : Act} {w : World} (s x : Operand) (hi : ops[i]? = some oi) (hd : oi.dst = d)
    (hr : Region.ready md ops listed = [i]) (hw : Region.wanted oi (yielded ops a.tmps) = true)
    (ho : oi.op = .call { callee := .builtin .append, args := #[s, x], argTypes := #[40, 40] })
    (w0 : World) (v : Value) (n : Nat) (xs : List Value) (hs : a.eval s = v) (hown : w.ownsRow w0.heap.size 5 1 v n xs) (hb : Below w0.heap.size w0 w)
    (ad : Addr) (m c : Nat) (news : List Value) (hx : a.eval x = .slice (some ad) m c) (hl : news.length = m) (hnews : ∀ j u, news[j]? = some u → w.cell? (ad.add j) = some u) (h1 : ∀ u ∈ news, u.oneCell' = true)
    (hn : n + m ≤ 140737488355328)
    (h : ∀ v' w', w'.ownsRow w0.heap.size 5 1 v' (n + m) (xs ++ news) → Below w0.heap.size w0 w' → w.heap.size ≤ w'.heap.size → (∀ k, k < w.heap.size → v.ownBlock ≠ some k → w'.heap[k]? = w.heap[k]? ∧ v'.ownBlock ≠ some k) → S w' ∧ wpAnyH Tryz.prog md ops Q S fuel (listed.setIfInBounds i true) (a.put d v') w') :
    wpAnyH Tryz.prog md ops Q S (fuel + 1) listed a w := by
  obtain ⟨v', w', h2, h3, h4, h5, h6⟩ := app_run s x ho w0 v n xs hs hown hb ad m c news hx hl hnews h1 hn
  obtain ⟨h7, h8⟩ := h v' w' h3 h4 h5 h6
  exact takeV d hi hd hr hw h2 h7 h8
def ndC (z : Nat → Int) : Array Value := #[.int .u8 (z 0), .int .u8 (z 1), .int .u8 (z 2), .int .u8 (z 3), .int .u8 (z 4), .int .u8 (z 5), .int .u8 (z 6)]
end Go.Proofs.YtkiaijmhoikdiaaGreat

/- pdu.putID writes an ID. Each theorem states its conditions. -/
namespace Go.Proofs.YtkiaijmhoikdiaaGreat
open Go.RowKit
set_option linter.unusedVariables false
def idC (z : Nat → Int) : Array Value := #[.int .u8 (z 0), .int .u8 (z 1), .int .u8 (z 2), .int .u8 (z 3), .int .u8 (z 4), .int .u8 (z 5), .int .u8 (z 6), .int .u8 (z 7)]
theorem hi_nd {z : Nat → Int} : (Tryz.prog.info? 33).map (·.size) = some (ndC z).toList.length := by kernel_rfl
theorem id_range {w : World} {X : Nat} {z : Nat → Int} (h : w.heap[X]? = some (.cells (idC z) 35 (0, 0))) : w.rangeAt X 0 (ndC z).toList := by
  intro j u hj
  rw [Nat.zero_add, cell_of_row w X j _ _ _ h]
  rw [Array.getElem?_toList] at hj
  have h7 : j < 7 := by
    rcases Nat.lt_or_ge j 7 with h | h
    · exact h
    · rw [Array.getElem?_eq_none (by show 7 ≤ j; exact h)] at hj; cases hj
  rw [← hj]
  rcases (by omega : j = 0 ∨ j = 1 ∨ j = 2 ∨ j = 3 ∨ j = 4 ∨ j = 5 ∨ j = 6) with rfl | rfl | rfl | rfl | rfl | rfl | rfl <;> rfl
end Go.Proofs.YtkiaijmhoikdiaaGreat

/- pdu.getNumber, getNode, getID. Each theorem states its conditions. -/
namespace Go.Proofs.YtkiaijmhoikdiaaGreat
open Go.RowKit
set_option linter.unusedVariables false

theorem Row8.shift {w : World} {b off n : Nat} {z : Nat → Int} (h : Row8 w b off n z) (k m : Nat) (hk : k + m ≤ n) : Row8 w b (off + k) m (fun j => z (k + j)) :=
  ⟨h.1, fun j hj => by have := h.2.1 (k + j) (by omega); rwa [← Nat.add_assoc] at this, fun j => h.2.2 _⟩
theorem getNumber_any (b off n c : Nat) (z : Nat → Int) (w : World) (hr : Row8 w b off n z) (h1 : 1 ≤ n) (h8 : n ≤ 8) (hc : n ≤ c) (hcm : c ≤ maxLen) :
    Calls Tryz.prog 116 #[.slice (some ⟨b, off, none⟩) n c] w fun e w' => e = .returned (.int .u64 (((numZ z 0 n).toNat : Nat) : Int)) ∧ w' = w := by
  have HN := Lib.hid (num_ok b off n c z 0 n w hr.2.2 hcm hc (fun j hj => hr.2.1 j hj) (by omega) (by omega) (Int.le_refl 0) (by omega))
  have hb := numZ_lt z 0 n (fun j => hr.2.2 _)
  obtain ⟨M, hM⟩ : ∃ M, (numZ z 0 n).toNat = M := ⟨_, rfl⟩
  have HB : Hid (numZ z (0 : Int).toNat (n : Int).toNat = (M : Int)) := Lib.hid (by rw [← hM, Int.toNat_natCast, Int.toNat_of_nonneg hb.1]; rfl)
  rw [hM]
  clear hM
  unfold maxLen at hcm
  clear hr hb
  go_enter Tryz.func116, Tryz.ntmps116
  go_wp2_with fail
  refine HN.out.mono ?_
  rintro e w1 ⟨rfl, rfl⟩
  rw [HB.out]
  go_wp2_with fail
  go_ret
  exact ⟨rfl, rfl⟩
theorem six_src {W : World} {b off n : Nat} {z : Nat → Int} (h : Row8 W b off n z) (hp : 6 ≤ n) : ∀ j v, (vals z 6)[j]? = some v → W.cell? ((⟨b, off, none⟩ : Addr).add j) = some v := by
  intro j v hj
  have hj6 : j < 6 := by
    rcases Nat.lt_or_ge j 6 with h | h
    · exact h
    · rw [List.getElem?_eq_none (by rw [vals_len]; omega)] at hj; cases hj
  rw [vals_at _ _ _ hj6] at hj
  injection hj with hj
  subst hj
  rw [add_none]
  exact h.2.1 j (by omega)
theorem info_u8s' : (Tryz.prog.info? 5).map (·.size) = some 1 := by kernel_rfl
theorem info_nd : (Tryz.prog.info? 33).map (·.size) = some 7 := by kernel_rfl
theorem hi_nd' (z : Nat → Int) : (Tryz.prog.info? 33).map (·.size) = some (ndC z).size := by kernel_rfl
def nd0 : Array Value := #[.int .u8 0, .int .u8 0, .int .u8 0, .int .u8 0, .int .u8 0, .int .u8 0, .int .u8 0]
theorem nd_splice (z : Nat → Int) : (splice nd0.toList 0 (vals z 6)).toArray = ndC (fun j => if j < 6 then z j else 0) := by kernel_rfl
theorem nd_put (z : Nat → Int) : (ndC (fun j => if j < 6 then z j else 0)).setIfInBounds 6 (.int .u8 (z 6)) = ndC z := by kernel_rfl
theorem nd_all (z : Nat → Int) : (ndC z).all (·.oneCell') = true := by kernel_rfl
section
variable {ops : Array Oper} {rest : List Oper} {op : Oper} {a : Act} {w : World} {Q : Exit → Act → World → Prop} {b : Nat}
theorem store_blk {ty : TypeId} {cells old : Array Value} (hgd : op.guard = none) (x y : Operand) (ho : op.op = .store ty x y) (hx : a.eval x = .pointer (some ⟨b, 0, none⟩)) (hy : a.eval y = .agg cells)
    (hg : w.heap[b]? = some (.cells old ty (0, 0))) (hi : (Tryz.prog.info? ty).map (·.size) = some cells.size) (hs : old.size = cells.size) (h1 : cells.all (·.oneCell') = true)
    (h : ∀ w', w'.heap[b]? = some (.cells cells ty (0, 0)) → (∀ B, B ≤ b → Below B w w') → (∀ k, k ≠ b → w'.heap[k]? = w.heap[k]?) → wpList Tryz.prog ops Q rest (a.put op.dst undef) w') : wpList Tryz.prog ops Q (op :: rest) a w := by
  refine wpList_plain hgd fun K hK => ?_
  have hrun := run_storeVar_row (P := Tryz.prog) w b ty ty old cells hg hi hs h1
  unfold Oper.wp execOp
  simp only [ho, hx, hy, Instr.storeAt, Instr.sureAddr, Sem.run_bind, Sem.run_pure, Result.andThen_ok, hrun]
  exact hK _ _ (h _ (setRow_heap w b old cells ty (0, 0) hg) (fun B hB => ⟨rfl, rfl, rfl, by simp [World.setRow], fun k hk => setRow_other w b k cells (by omega)⟩) (fun k hk => setRow_other w b k cells hk))
end
theorem results_nd {fn : Func} {p : Tmp} (h : fn.results = #[.cell p 33]) (tmps : Array Value) (W : World) (g : Nat) (z : Nat → Int)
    (hp : tmps.getD p undef = .pointer (some ⟨g, 0, none⟩)) (hg : W.heap[g]? = some (.cells (ndC z) 33 (0, 0))) : (results fn tmps).run Tryz.prog W = .ok (.agg (ndC z)) W := by
  have h1 := run_loadVar_row (P := Tryz.prog) W g 33 33 (ndC z) (0, 0) _ hg Tryz.underlying33 rfl (hi_nd' z)
  have hp' : (tmps[p]?).getD undef = .pointer (some ⟨g, 0, none⟩) := by simpa using hp
  simp only [results, h]
  simp [hp', asAddr, h1]
theorem nd_range {w : World} {X : Nat} {C : Array Value} {t : TypeId} (h : w.heap[X]? = some (.cells C t (0, 0))) : w.rangeAt X 0 C.toList := by
  intro j u hj
  rw [Nat.zero_add, cell_of_row w X j _ _ _ h]
  simpa using hj
theorem row_put {W : World} {X i : Nat} {C C' : Array Value} {t : TypeId} {v : Value} (h : W.heap[X]? = some (.cells C t (0, 0))) (hC : C.setIfInBounds i v = C') : (W.setCell ⟨X, i, none⟩ v).heap[X]? = some (.cells C' t (0, 0)) := by
  subst hC
  simp [World.setCell, Array.getElem?_modify, h]
set_option maxHeartbeats 2000000 in
set_option maxRecDepth 100000 in
theorem getNode_any (b off n c : Nat) (z : Nat → Int) (w : World) (hr : Row8 w b off n z) (h1 : 7 ≤ n) (hc : n ≤ c) (hcm : c ≤ maxLen) :
    Calls Tryz.prog 126 #[.slice (some ⟨b, off, none⟩) n c] w fun e w' => e = .returned (.agg (ndC z)) ∧ Below w.heap.size w w' := by
  obtain ⟨W2, hW2⟩ : ∃ W2, (w.alloc (.cells nd0 33)).alloc (.cells nd0 33) = W2 := ⟨_, rfl⟩
  have hB2 : Below w.heap.size w W2 := by rw [← hW2]; exact ((bself w).alloc (Nat.le_refl _) _).alloc (by simp) _
  have hX1 : W2.heap[w.heap.size + 1]? = some (.cells nd0 33 (0, 0)) := by
    have := heap_alloc_new (w.alloc (.cells nd0 33)) (.cells nd0 33)
    rw [World.size_alloc, hW2] at this
    exact this
  have hX0 : W2.heap[w.heap.size]? = some (.cells nd0 33 (0, 0)) := by
    rw [← hW2]
    exact (Below.heap_alloc _ _ _ (by simp)).trans (heap_alloc_new w _)
  have hR2 := hr.below hB2 hr.1
  have HS := Lib.hid (six_src hR2 (by omega))
  have HB2 := Lib.hid hB2
  have HX1 := Lib.hid hX1
  have HX0 := Lib.hid hX0
  have HR2 := Lib.hid hR2
  have hbw := hr.1
  have HW2 := Lib.hid hW2
  have HML : Hid ((vals z 6).length = Nat.min n 6) := Lib.hid (by rw [vals_len]; exact (Nat.min_eq_right (by omega)).symm)
  unfold maxLen at hcm
  clear hr hB2 hX1 hX0 hR2 hW2
  unfold nd0 at HW2
  go_enter Tryz.func126, Tryz.ntmps126
  go_wp2_with (first
    | (rw [HW2.out]; refine wpList_step fun K hK => ?_; refine step_copy_splice rfl (.tmp 6) (.tmp 7) 40 40 rfl 5 Tryz.underlying40 info_u8s' (some ⟨w.heap.size + 1, 0, none⟩) (some ⟨b, off, none⟩) 6 6 n c rfl rfl (w.heap.size + 1) 0 nd0.toList 33 (by simpa using HX1.out) (vals z 6) HML.out (fun _ => ⟨rfl, _, rfl, HS.out⟩) (show 0 + (vals z 6).length ≤ 7 by rw [vals_len]; decide) (vals_one _ _) (w.heap.size + 1) W2 (Below.refl _ _) (Nat.le_refl _) ?_; intro w3 hc3 hb3; refine hK _ _ ?_; rw [vals_len];
        have hE3 : w3.heap[w.heap.size + 1]? = some (.cells (ndC (fun j => if j < 6 then z j else 0)) 33 (0, 0)) := (by have := hc3.out; rw [nd_splice] at this; exact this);
        have c6 : w3.cell? ⟨b, off + 6, none⟩ = some (.int .u8 (z 6)) := (by rw [hb3.cell (by show b < _; omega)]; exact HR2.out.2.1 6 (by omega));
        have d6 : w3.cell? ⟨w.heap.size + 1, 6, none⟩ = some (.int .u8 0) := (cell_of_row w3 _ 6 _ _ _ hE3).trans rfl;
        have f6 : w3.frozen? ⟨w.heap.size + 1, 6, none⟩ = false := (by simp [World.frozen?, hE3]);
        have hE4 := Lib.hid (row_put (i := 6) (v := .int .u8 (z 6)) hE3 (nd_put z));
        have hB4 := Lib.hid (hb3.setCell (p := ⟨w.heap.size + 1, 6, none⟩) (Nat.le_refl _) (.int .u8 (z 6)));
        clear hE3)
    | (refine wpList_load_mid rfl 33 (.tmp 3) rfl (w.heap.size + 1) 0 rfl _ _ (nd_range hE4.out) Tryz.underlying33 rfl info_nd ?_)
    | (refine store_blk rfl (.tmp 2) (.tmp 14) (cells := ndC z) rfl rfl rfl ((hB4.out.block w.heap.size (by omega)).trans HX0.out) info_nd rfl (nd_all z) ?_; intro w5 hg5 hb5 ho5; refine Hid.out ?_))
  refine Lib.hid ?_
  have HQ := Lib.hid hg5
  have HB5 := Lib.hid (HB2.out.trans ((hB4.out.mono (by omega)).trans (hb5 w.heap.size (Nat.le_refl _))))
  clear hg5 hb5 ho5
  go_wp2_with fail
  refine bodyPost_ret (results_nd rfl _ w5 w.heap.size z rfl HQ.out) rfl ⟨rfl, HB5.out⟩
end Go.Proofs.YtkiaijmhoikdiaaGreat

/- pdu.getID reads an ID. Each theorem states its conditions. -/
namespace Go.Proofs.YtkiaijmhoikdiaaGreat
open Go.RowKit
set_option linter.unusedVariables false

def id0 : Array Value := #[.int .u8 0, .int .u8 0, .int .u8 0, .int .u8 0, .int .u8 0, .int .u8 0, .int .u8 0, .int .u8 0]
theorem info_id : (Tryz.prog.info? 35).map (·.size) = some 8 := by kernel_rfl
theorem hi_id (z : Nat → Int) : (Tryz.prog.info? 35).map (·.size) = some (idC z).size := by kernel_rfl
theorem id_all (z : Nat → Int) : (idC z).all (·.oneCell') = true := by kernel_rfl
theorem results_id {fn : Func} {p : Tmp} (h : fn.results = #[.cell p 35]) (tmps : Array Value) (W : World) (g : Nat) (z : Nat → Int)
    (hp : tmps.getD p undef = .pointer (some ⟨g, 0, none⟩)) (hg : W.heap[g]? = some (.cells (idC z) 35 (0, 0))) : (results fn tmps).run Tryz.prog W = .ok (.agg (idC z)) W := by
  have h1 := run_loadVar_row (P := Tryz.prog) W g 35 35 (idC z) (0, 0) _ hg Tryz.underlying35 rfl (hi_id z)
  have hp' : (tmps[p]?).getD undef = .pointer (some ⟨g, 0, none⟩) := by simpa using hp
  simp only [results, h]
  simp [hp', asAddr, h1]
theorem build_id (o : Oper) (e : Operand → Value) (x0 x1 : Operand) (ho : o.op = .build 35 #[(0, x0), (1, x1)]) (z : Nat → Int) (h0 : e x0 = .agg (ndC z)) (h1 : e x1 = .int .u8 (z 7)) (W : World) :
    (execOp e o).run Tryz.prog W = .ok (.value (.agg (idC z))) W := by
  unfold execOp
  simp only [ho]
  simp only [List.map_toArray, List.map_cons, List.map_nil, h0, h1]
  kernel_rfl
set_option maxHeartbeats 2000000 in
set_option maxRecDepth 100000 in
theorem getID_any (b off c : Nat) (z : Nat → Int) (w : World) (hr : Row8 w b off 8 z) (hc : 8 ≤ c) (hcm : c ≤ maxLen) :
    Calls Tryz.prog 127 #[.slice (some ⟨b, off, none⟩) 8 c] w fun e w' => e = .returned (.agg (idC z)) ∧ Below w.heap.size w w' := by
  have hbw := hr.1
  have HB1 := Lib.hid ((bself w).alloc (Nat.le_refl _) (.cells id0 35))
  have HX1 := Lib.hid (heap_alloc_new w (.cells id0 35))
  have hs1 : (w.alloc (.cells id0 35)).heap.size = w.heap.size + 1 := by simp
  have HR1 := Lib.hid (hr.below HB1.out hbw)
  obtain ⟨W1, hW1⟩ : ∃ W1, w.alloc (.cells id0 35) = W1 := ⟨_, rfl⟩
  rw [hW1] at HB1 HX1 hs1 HR1
  have HW1 := Lib.hid hW1
  have hcm' := Lib.hid hcm
  unfold maxLen at hcm
  clear hr hW1
  unfold id0 at HW1
  go_enter Tryz.func127, Tryz.ntmps127
  go_wp2_with fail
  rw [HW1.out]
  refine wp_region_held_drew (S := fun w' => w'.cell? ⟨b, off + 7, none⟩ = some (.int .u8 (z 7))) (by kernel_rfl) (HR1.out.2.1 7 (by omega)) (fun hS0 => ?_)
  refine tY (i := 0) (some 3) (v := .slice (some ⟨b, off, none⟩) 8 c) rfl rfl (fun w' hS => by go_simp) hS0 ?_
  simp only [Act.put, pA, pB, pC]
  refine tY (i := 2) (some 5) (v := .slice (some ⟨b, off, none⟩) 8 c) rfl rfl (fun w' hS => by go_simp) hS0 ?_
  simp only [Act.put, pA, pB, pC]
  refine tY (i := 3) (some 6) (v := .slice (some ⟨b, off, none⟩) 8 c) rfl rfl (fun w' hS => by go_simp) hS0 ?_
  simp only [Act.put, pA, pB, pC]
  refine tY (i := 4) (some 7) (v := .int .i64 8) rfl rfl (fun w' hS => by go_simp) hS0 ?_
  simp only [Act.put, pA, pB, pC]
  refine tY (i := 5) (some 8) (v := .int .i64 7) rfl rfl (fun w' hS => by go_simp; rfl) hS0 ?_
  simp only [Act.put, pA, pB, pC]
  refine tY (i := 6) (some 9) (v := .pointer (some ⟨b, off + 7, none⟩)) rfl rfl (fun w' hS => by go_simp) hS0 ?_
  simp only [Act.put, pA, pB, pC]
  refine tY (i := 7) (some 10) (v := .int .u8 (z 7)) rfl rfl (fun w' hS => by go_simp) hS0 ?_
  simp only [Act.put, pA, pB, pC]
  refine takeC (i := 1) (some 4) 126 #[.slice (some ⟨b, off, none⟩) 8 c] (.agg (ndC z)) (R := fun w' => Below W1.heap.size W1 w') rfl rfl (by kernel_rfl) (by rfl) (by go_simp) ((getNode_any b off 8 c z W1.drew HR1.out (by omega) hc hcm'.out).mono fun e w' h => ⟨h.1, (bself W1).drew.trans h.2⟩) (fun w' h => by rw [h.cell (show b < W1.heap.size by omega)]; exact HR1.out.2.1 7 (by omega)) (fun w2 h2 hS0 => ?_)
  simp only [Act.put, pA, pB, pC]
  refine tY (i := 8) (some 11) (v := .agg (idC z)) rfl rfl (fun w' hS => build_id _ _ _ _ rfl z rfl rfl w') hS0 ?_
  simp only [Act.put, pA, pB, pC]
  have hX2 := (h2.block w.heap.size (by omega)).trans HX1.out
  refine takeS (i := 9) (.tmp 2) (.tmp 11) rfl rfl rfl (by kernel_rfl) (by rfl) rfl rfl hX2 (hi_id z) rfl (id_all z) (fun w' _ hb _ => by rw [(hb w.heap.size (Nat.le_refl _)).cell hbw]; exact hS0) (fun w3 hg3 hb3 _ hS3 => ?_)
  simp only [Act.put]
  refine wpAnyH_done (by kernel_rfl) ?_ _
  have HQ := Lib.hid hg3
  have HB3 := Lib.hid (HB1.out.trans ((h2.mono (by omega)).trans (hb3 w.heap.size (Nat.le_refl _))))
  clear hg3 hb3 h2 hX2 hS3 hS0
  go_wp2_with fail
  refine bodyPost_ret (results_id rfl _ w3 w.heap.size z rfl HQ.out) rfl ⟨rfl, HB3.out⟩
end Go.Proofs.YtkiaijmhoikdiaaGreat

/- Lists of types and values that a call reads: what is known of them. Each theorem states its conditions. -/
namespace Go.Proofs.YtkiaijmhoikdiaaGreat
open Go.RowKit
set_option linter.unusedVariables false

structure It where
  ty : Int
  A : Option Addr
  n : Nat
  c : Nat
  z : Nat → Int

def ItOk (w : World) (t : It) : Prop := (0 ≤ t.ty ∧ t.ty ≤ 255) ∧ Rd w t.A t.n t.z ∧ (t.A = none → t.n = 0 ∧ t.c = 0) ∧ t.n ≤ 140737488351232

def RowT (w : World) (b off m : Nat) (L : Nat → It) : Prop :=
  b < w.heap.size ∧ ∀ j, j < m → w.cell? ⟨b, off + j * 2, none⟩ = some (.int .u8 (L j).ty) ∧ w.cell? ⟨b, off + j * 2 + 1, none⟩ = some (.slice (L j).A (L j).n (L j).c) ∧ ItOk w (L j)

def RdT (w : World) (A : Option Addr) (m : Nat) (L : Nat → It) : Prop := m = 0 ∨ ∃ b off, A = some ⟨b, off, none⟩ ∧ RowT w b off m L

theorem ItOk.below {w w' : World} {t : It} (h : ItOk w t) (hb : Below w.heap.size w w') : ItOk w' t := ⟨h.1, h.2.1.below hb rfl, h.2.2⟩
theorem RowT.below {w w' : World} {b off m : Nat} {L : Nat → It} (h : RowT w b off m L) (hb : Below w.heap.size w w') : RowT w' b off m L := by
  refine ⟨?_, fun j hj => ?_⟩
  · have := hb.size; have := h.1; omega
  · obtain ⟨h1, h2, h3⟩ := h.2 j hj
    exact ⟨(hb.cell (p := ⟨b, off + j * 2, none⟩) h.1).trans h1, (hb.cell (p := ⟨b, off + j * 2 + 1, none⟩) h.1).trans h2, h3.below hb⟩
theorem RdT.below {w w' : World} {A : Option Addr} {m : Nat} {L : Nat → It} (h : RdT w A m L) (hb : Below w.heap.size w w') : RdT w' A m L := by
  rcases h with h | ⟨b, off, rfl, h⟩
  · exact .inl h
  · exact .inr ⟨b, off, rfl, h.below hb⟩
theorem RdT.row {w : World} {A : Option Addr} {m : Nat} {L : Nat → It} (h : RdT w A m L) (hm : 0 < m) : ∃ b off, A = some ⟨b, off, none⟩ ∧ RowT w b off m L := by
  rcases h with h | h
  · omega
  · exact h
end Go.Proofs.YtkiaijmhoikdiaaGreat

/- Lists of types and values that a call has made: what is known of them, and what becomes of it. Each theorem states its conditions. -/
namespace Go.Proofs.YtkiaijmhoikdiaaGreat
open Go.RowKit
set_option linter.unusedVariables false

def cellsT (L : Nat → It) : Nat → List Value
  | 0 => []
  | m + 1 => cellsT L m ++ [.int .u8 (L m).ty, .slice (L m).A (L m).n (L m).c]

theorem cellsT_len (L : Nat → It) (m : Nat) : (cellsT L m).length = m * 2 := by
  induction m with
  | zero => rfl
  | succ m ih => simp [cellsT, ih]; omega
theorem cellsT_at (L : Nat → It) (m j : Nat) (h : j < m) : (cellsT L m)[j * 2]? = some (.int .u8 (L j).ty) ∧ (cellsT L m)[j * 2 + 1]? = some (.slice (L j).A (L j).n (L j).c) := by
  induction m with
  | zero => omega
  | succ m ih =>
    have hl := cellsT_len L m
    simp only [cellsT]
    by_cases e : j = m
    · subst e
      rw [List.getElem?_append_right (by omega), List.getElem?_append_right (by omega), hl]
      simp
    · rw [List.getElem?_append_left (by omega), List.getElem?_append_left (by omega)]
      exact ih (by omega)
def updT (L : Nat → It) (k : Nat) (t : It) : Nat → It := fun j => if j = k then t else L j
theorem updT_same (L : Nat → It) (k : Nat) (t : It) : updT L k t k = t := by simp [updT]
theorem updT_other (L : Nat → It) (k j : Nat) (t : It) (h : j ≠ k) : updT L k t j = L j := by simp [updT, h]
theorem cellsT_congr (L L' : Nat → It) (m : Nat) (h : ∀ j, j < m → (L j).ty = (L' j).ty ∧ (L j).A = (L' j).A ∧ (L j).n = (L' j).n ∧ (L j).c = (L' j).c) : cellsT L m = cellsT L' m := by
  induction m with
  | zero => rfl
  | succ m ih =>
    obtain ⟨h1, h2, h3, h4⟩ := h m (by omega)
    simp only [cellsT, h1, h2, h3, h4]
    rw [ih (fun j hj => h j (by omega))]
theorem cellsT_push (L : Nat → It) (k : Nat) (t : It) : cellsT (updT L k t) (k + 1) = cellsT L k ++ [.int .u8 t.ty, .slice t.A t.n t.c] := by
  simp only [cellsT, updT_same]
  rw [cellsT_congr (updT L k t) L k (fun j hj => by rw [updT_other _ _ _ _ (by omega)]; exact ⟨rfl, rfl, rfl, rfl⟩)]
def OwnV (w : World) (base : Nat) (t : It) : Prop :=
  (0 ≤ t.ty ∧ t.ty ≤ 255) ∧ t.n ≤ 140737488351232 ∧ ∃ g, t.A = some ⟨g, 0, none⟩ ∧ base ≤ g ∧ Own8 w g t.n t.c t.z
def OwnT (w : World) (base : Nat) (v : Value) (m : Nat) (L : Nat → It) : Prop :=
  w.ownsRow base 114 2 v m (cellsT L m) ∧ ∀ j, j < m → OwnV w base (L j)

section
variable {w w' : World} {base m : Nat} {v : Value} {L : Nat → It} {t : It}

theorem OwnV.below (h : OwnV w base t) (hb : Below w.heap.size w w') : OwnV w' base t := by
  obtain ⟨h1, h2, g, h3, h4, h5⟩ := h
  exact ⟨h1, h2, g, h3, h4, h5.below hb h5.lt⟩
theorem OwnV.ok (h : OwnV w base t) : ItOk w t := by
  obtain ⟨h1, h2, g, h3, h4, h5⟩ := h
  refine ⟨h1, ⟨.inr ⟨g, 0, h3, h5.row⟩, h5.2⟩, fun e => ?_, h2⟩
  rw [h3] at e; cases e
theorem OwnV.mono {b : Nat} (h : OwnV w base t) (hb : b ≤ base) : OwnV w b t := by
  obtain ⟨h1, h2, g, h3, h4, h5⟩ := h
  exact ⟨h1, h2, g, h3, by omega, h5⟩
theorem ownsRow_below {e : TypeId} {s : Nat} {xs : List Value} (h : w.ownsRow base e s v m xs) (hb : Below w.heap.size w w') : w'.ownsRow base e s v m xs := by
  refine ⟨h.1, ?_⟩
  rcases h.2 with h | ⟨g, cap, cur, hv, hg, hc, r⟩
  · exact .inl h
  · exact .inr ⟨g, cap, cur, hv, hg, (hb.block g (Array.getElem?_eq_some_iff.1 hc).1).trans hc, r⟩
theorem OwnT.below (h : OwnT w base v m L) (hb : Below w.heap.size w w') : OwnT w' base v m L :=
  ⟨ownsRow_below h.1 hb, fun j hj => (h.2 j hj).below hb⟩
theorem OwnT.nil (w : World) (base : Nat) (L : Nat → It) : OwnT w base (.slice none 0 0) 0 L := ⟨World.ownsRow_nil _ _ _ _, fun j hj => by omega⟩

theorem ownV_grown {v' : Value} {xs : List Value} {n : Nat} (h : OwnV w base t) (hr : w.ownsRow base 114 2 v n xs) (hg : w.grownBy w' v.ownBlock) : OwnV w' base t := by
  obtain ⟨h1, h2, g, h3, h4, h5⟩ := h
  refine ⟨h1, h2, g, h3, h4, h5.grown hg ?_⟩
  intro e
  obtain ⟨⟨cur, hc, _⟩, _⟩ := h5
  rcases hr.2 with ⟨rfl, _⟩ | ⟨g', cap, cur', rfl, _, hc', _⟩
  · cases e
  · simp [Value.ownBlock] at e
    subst e
    rw [hc] at hc'
    simp at hc'

theorem OwnT.push {v' : Value} {k : Nat} (h : OwnT w base v k L) (ht : OwnV w base t) (hr : w'.ownsRow base 114 2 v' (k + 1) (cellsT L k ++ [.int .u8 t.ty, .slice t.A t.n t.c])) (hg : w.grownBy w' v.ownBlock) :
    OwnT w' base v' (k + 1) (updT L k t) := by
  refine ⟨by rw [cellsT_push]; exact hr, fun j hj => ?_⟩
  by_cases e : j = k
  · subst e
    rw [updT_same]
    exact ownV_grown (v' := v') ht h.1 hg
  · rw [updT_other _ _ _ _ e]
    exact ownV_grown (v' := v') (h.2 j (by omega)) h.1 hg

theorem OwnT.shape (h : OwnT w base v m L) : ∃ A c, v = .slice A m c ∧ m ≤ c ∧ c ≤ maxLen ∧ (A = none → m = 0 ∧ c = 0) ∧ RdT w A m L := by
  have hi : ∀ j, j < m → ItOk w (L j) := fun j hj => (h.2 j hj).ok
  rcases h.1.2 with ⟨rfl, rfl⟩ | ⟨g, cap, cur, rfl, hb, hc, h1, h2, h3, h4⟩
  · exact ⟨none, 0, rfl, Nat.le_refl _, by decide, fun _ => ⟨rfl, rfl⟩, .inl rfl⟩
  · refine ⟨some ⟨g, 0, none⟩, cap, rfl, h1, h2, fun e => (by cases e), .inr ⟨g, 0, rfl, (Array.getElem?_eq_some_iff.1 hc).1, fun j hj => ?_⟩⟩
    have hx := cellsT_at L m j hj
    rw [← h4] at hx
    rw [List.getElem?_take, if_pos (by omega), List.getElem?_take, if_pos (by omega)] at hx
    refine ⟨?_, ?_, hi j hj⟩
    · rw [Nat.zero_add, cell_of_row w g _ cur _ (0, 0) hc]; simpa using hx.1
    · rw [Nat.zero_add, cell_of_row w g _ cur _ (0, 0) hc]; simpa using hx.2
end

theorem info_tlv : (Tryz.prog.info? 114).map (fun i => (i.zero, i.size, i.bytes)) = some (some (.agg #[.int .u8 0, .slice none 0 0]), 2, 32) := by kernel_rfl

theorem two_one (a : Int) (A : Option Addr) (n c : Nat) : ∀ u ∈ [Value.int .u8 a, Value.slice A n c], u.oneCell' = true := by
  intro u hu; simp only [List.mem_cons, List.not_mem_nil, or_false] at hu; rcases hu with rfl | rfl <;> rfl
end Go.Proofs.YtkiaijmhoikdiaaGreat

/- Split reads a list out of bytes. Each theorem states its conditions. -/
namespace Go.Proofs.YtkiaijmhoikdiaaGreat
open Go.RowKit
set_option linter.unusedVariables false

theorem clone_any (ad : Addr) (n c : Nat) (z : Nat → Int) (w : World) (h : Rd w (some ad) n z) (hn : n ≤ 140737488351232) :
    Calls Tryz.prog 46 #[.slice (some ad) n c] w (TwinPost w n z) := by
  obtain ⟨i0, hi, hz0, hz1, hz2⟩ := info_parts info_u8
  have hm : (0 : Nat) ≤ maxLen := by decide
  have hown := World.ownsRow_made (e := 5) (size := 1) (base := w.heap.size) w #[] 0 (Nat.le_refl _) hm rfl
  have hnews : ∀ j u, (vals z n)[j]? = some u → (w.alloc (.cells #[] 5)).cell? (ad.add j) = some u := rd_news h _
  have h1 := vals_one z n
  have hl := vals_len z n
  have hne := fun (W : World) => Lib.run_eql_slice_nil (P := Tryz.prog) W 40 5 (some ad) n c 0 0 Tryz.underlying40
  go_enter Tryz.func46, Tryz.ntmps46
  go_wp2_with (at_builtin; refine wpList_append_own_at _ rfl (.tmp 5) (.tmp 6) 40 rfl w.heap.size 5 i0 (.int .u8 0) 1 1 Tryz.underlying40 hi hz0 hz1 hz2 rfl (by decide) _ 0 [] rfl hown ad n c (vals z n) rfl (by omega) hnews h1 (by unfold maxLen; omega) (by omega) (by simp) ?_)
  intro v' w1 hown1 hgrow hnil hat
  go_wp2
  go_ret
  obtain ⟨g, cap, rfl, hg, ho⟩ := own_of (by simpa using hown1) (by simp) hnil h.2
  have hb : Below w.heap.size w w1 := ((Below.refl _ _).alloc (Nat.le_refl _) _).grown hgrow (by simp) (by simp [Value.ownBlock])
  exact ⟨g, cap, rfl, hg, ho, hb⟩

def pos (z : Nat → Int) : Nat → Nat
  | 0 => 0
  | k + 1 => pos z k + 2 + (z (pos z k + 1)).toNat
def itZ (z : Nat → Int) (k : Nat) (g cap : Nat) : It := ⟨z (pos z k), some ⟨g, 0, none⟩, (z (pos z k + 1)).toNat, cap, fun j => z (pos z k + 2 + j)⟩
theorem pos_lt (z : Nat → Int) (k : Nat) : pos z k + 2 ≤ pos z (k + 1) := by simp only [pos]; omega
theorem pos_mono (z : Nat → Int) (k m : Nat) (h : k ≤ m) : pos z k + 2 * (m - k) ≤ pos z m := by
  induction m with
  | zero => obtain rfl : k = 0 := by omega
            simp [pos]
  | succ m ih =>
    by_cases e : k = m + 1
    · subst e; simp
    · have := ih (by omega); have := pos_lt z m; omega
theorem pos_cases (z : Nat → Int) (n : Nat) : ∃ m, pos z m ≤ n ∧ (pos z m = n ∨ (pos z m < n ∧ (n < pos z m + 2 ∨ n < pos z (m + 1)))) := by
  have key : ∀ d k, pos z k ≤ n → n - pos z k ≤ d → ∃ m, pos z m ≤ n ∧ (pos z m = n ∨ (pos z m < n ∧ (n < pos z m + 2 ∨ n < pos z (m + 1)))) := by
    intro d
    induction d with
    | zero => intro k h1 h2; exact ⟨k, h1, .inl (by omega)⟩
    | succ d ih =>
      intro k h1 h2
      by_cases e : pos z k = n
      · exact ⟨k, h1, .inl e⟩
      · by_cases e2 : n < pos z (k + 1)
        · exact ⟨k, h1, .inr ⟨by omega, .inr e2⟩⟩
        · have := pos_lt z k
          exact ih (k + 1) (by omega) (by omega)
  exact key n 0 (by simp [pos]) (by simp [pos])

theorem addr_eq {b m n : Nat} (h : m = n) : (some ⟨b, m, none⟩ : Option Addr) = some ⟨b, n, none⟩ := by rw [h]
theorem slice_eq {A B : Option Addr} {n m c d : Nat} (h : A = B) (h1 : n = m) (h2 : c = d) : Value.slice A n c = .slice B m d := by rw [h, h1, h2]

def IsItZ (z : Nat → Int) (L : Nat → It) (k : Nat) : Prop := ∀ j, j < k → ∃ g cap, L j = itZ z j g cap

def Ends (z : Nat → Int) (n m : Nat) : Prop := pos z m ≤ n ∧ (pos z m = n ∨ (pos z m < n ∧ (n < pos z m + 2 ∨ n < pos z (m + 1))))
def SplitPost (w : World) (z : Nat → Int) (n m : Nat) (e : Ending) (w' : World) : Prop :=
  (pos z m = n ∧ ∃ v L, e = .returned (.tuple #[v, .int .i64 0]) ∧ OwnT w' w.heap.size v m L ∧ IsItZ z L m ∧ Below w.heap.size w w') ∨
  (pos z m ≠ n ∧ e = .returned (.tuple #[.slice none 0 0, .int .i64 3]) ∧ Below w.heap.size w w')

set_option maxHeartbeats 4000000 in
set_option maxRecDepth 100000 in
theorem split_any (A : Option Addr) (n c m : Nat) (z : Nat → Int) (w : World) (h : Rd w A n z) (hA : A = none → n = 0 ∧ c = 0) (hn : n ≤ 1492) (hc : n ≤ c) (hcm : c ≤ 9223372036854775807) (hm : Ends z n m) :
    Calls Tryz.prog 92 #[.slice A n c] w (SplitPost w z n m) := by
  obtain ⟨i0, hi, hz0, hz1, hz2⟩ := info_parts info_tlv
  have hz := h.2
  have HM := Lib.hid hm
  have HR := Lib.hid h
  clear h hm
  go_enter Tryz.func92, Tryz.ntmps92
  go_wp2_with fail
  go_loopw [0, 4] (fun p v wr => ∃ (k : Nat) (A' : Option Addr) (L : Nat → It), pos z k ≤ n ∧ k ≤ m ∧ p = .slice A' (n - pos z k : Nat) (c - pos z k : Nat) ∧ Hid (pos z k < n → ∃ b off, A' = some ⟨b, off + pos z k, none⟩ ∧ Row8 w b off n z) ∧ OwnT wr w.heap.size v k L ∧ Hid (IsItZ z L k) ∧ Below w.heap.size w wr)
    (fun p _ _ => match p with | .slice _ l _ => l | _ => 0)
  case atStart => exact ⟨0, A, fun _ => ⟨0, none, 0, 0, z⟩, by simp [pos], by omega, slice_eq rfl (by simp [pos]) (by simp [pos]), Lib.hid (fun h => by
    obtain ⟨b, off, e, hr⟩ := HR.out.row (by simpa [pos] using h)
    exact ⟨b, off, by simpa [pos] using e, hr⟩), OwnT.nil _ _ _, Lib.hid (fun j hj => by omega), bself w⟩
  case round =>
    obtain ⟨k, A', L, hk, hkm, rfl, hA', hown, hL, hb⟩ := hrel
    by_cases hkm1 : k < m
    · have hlt : pos z k < n := by
        have := HM.out.1; have := pos_mono z k m (by omega); omega
      obtain ⟨b, off, rfl, hr⟩ := hA'.out hlt
      have hn1 : pos z (k + 1) ≤ n := by
        have := HM.out.1; have := pos_mono z (k + 1) m (by omega); omega
      have c0 : wr.cell? ⟨b, off + pos z k, none⟩ = some (.int .u8 (z (pos z k))) := (hb.cell (p := ⟨b, off + pos z k, none⟩) hr.1).trans (hr.2.1 _ hlt)
      have hp := pos_lt z k
      have c1 : wr.cell? ⟨b, off + pos z k + 1, none⟩ = some (.int .u8 (z (pos z k + 1))) := (hb.cell (p := ⟨b, off + pos z k + 1, none⟩) hr.1).trans (hr.2.1 (pos z k + 1) (by omega))
      have z0 := hz (pos z k)
      have z1 := hz (pos z k + 1)
      obtain ⟨v1, hv1⟩ := Int.eq_ofNat_of_zero_le z1.1
      have hv1n : (z (pos z k + 1)).toNat = v1 := by omega
      have hpk : pos z (k + 1) = pos z k + 2 + v1 := by simp only [pos]; omega
      have H := Lib.hid (fun (W : World) (hW : Row8 W b off n z) (ad : Addr) (cc : Nat) (had : v1 = 0 ∨ ad = ⟨b, off + pos z k + 2, none⟩) => clone_any ad v1 cc (fun j => z (pos z k + 2 + j)) W ⟨by
        rcases Nat.eq_zero_or_pos v1 with h0 | h0
        · exact .inl h0
        · rcases had with had | rfl
          · omega
          · exact .inr ⟨b, off + pos z k + 2, rfl, hW.1, fun j hj => by
              have := hW.2.1 (pos z k + 2 + j) (by omega)
              rw [← this]; congr 2; omega, fun j => hz _⟩, fun j => hz _⟩ (by omega))
      have hrr := Lib.hid (hr.below hb hr.1)
      have hlb : b < wr.heap.size := by have := hr.1; have := hb.size; omega
      have hbs := hb.size
      have ho := Lib.hid hown
      have hE := Lib.hid hv1
      have hEn := Lib.hid hv1n
      rw [hv1] at c1 z1
      have HN1 := Lib.hid hn1
      rw [hpk] at hn1
      obtain ⟨q, hq⟩ : ∃ q, n - pos z k = q := ⟨_, rfl⟩
      obtain ⟨qc, hqc⟩ : ∃ q, c - pos z k = q := ⟨_, rfl⟩
      rw [hq, hqc]
      have q1 : 2 + (v1 : Int) ≤ (q : Int) := by omega
      have q2 : (q : Int) ≤ (qc : Int) := by omega
      have q3 : (2 : Int) ≤ (q : Int) := by omega
      have q4 : (1 : Int) < (q : Int) := by omega
      have q5 : (0 : Int) < (q : Int) := by omega
      have q6 : (2 : Int) ≤ 2 + (v1 : Int) := by omega
      have q7 : 2 + (v1 : Int) ≤ (qc : Int) := by omega
      have q8 : (0 : Int) ≤ 2 + (v1 : Int) := by omega
      have HQ := Lib.hid hq
      have HQC := Lib.hid hqc
      have HPK := Lib.hid hpk
      have hk31 : (k + 1) * 32 ≤ 140737488355328 := by have := pos_mono z 0 k (by omega); simp only [pos] at this; omega
      have hk63 : k + 1 ≤ maxLen := by unfold maxLen; omega
      have hbase : ∀ g1 cap1 (W : World), wr.heap.size ≤ W.heap.size → w.heap.size ≤ (W.alloc (.cells #[.int .u8 (z (pos z k)), .slice (some ⟨g1, 0, none⟩) v1 cap1] 114)).heap.size := fun g1 cap1 W h => by simp; omega
      have HB := Lib.hid hbase
      have hlen2 : (2 + (v1 : Int)).toNat - 2 = v1 := by omega
      have hr1 := hr.1
      have HRW := Lib.hid hr
      have hfar : u4.ownBlock ≠ some b := fun e => by have := (hown.1.lt b e).1; omega
      have hb1' : b < wr.heap.size + 1 := by omega
      clear hv1 hv1n hpk hn1 hp hq hqc hA' hr hlt hk hown hbase
      generalize hz0' : z (pos z k) = v0 at *
      have HZ0 := Lib.hid hz0'
      clear hz0'
      have hn0 := HR.out.1
      by_cases hcap : qc = 2
      · have HV0 := Lib.hid (show v1 = 0 by omega)
        obtain rfl : q = 2 := by omega
        subst hcap
        go_wp2_with fail
        go_region_held3 (fun w' => w'.cell? ⟨b, off + pos z k, none⟩ = some (.int .u8 v0))
          (first | go_keep | (exact (hb1.cell (by exact hlb)).trans c0) | (rw [hgrow.cell_far _ (by have := hbx.size; simp; omega) (Ne.symm hfar)]; assumption))
          (first | (go_at_call 46; refine (H.out _ (by exact hrr.out) _ _ (.inl HV0.out)).mono ?_; (rintro e w1 ⟨g1, cap1, rfl, hg1, ho1, hb1⟩; have hbx : Below wr.heap.size wr w1 := (Below.refl _ wr).drew.trans hb1; have hbz := HB.out g1 cap1 w1 hbx.size)) | (refine step_append_lies _ (by rfl) _ _ _ (by rfl) w.heap.size 114 i0 _ 2 32 Tryz.underlying37 hi hz0 hz1 hz2 rfl (by omega) u4 k (cellsT L k) (by rfl) ((ownsRow_below ho.out.1 hbx).alloc _) ⟨w1.heap.size, 0, none⟩ 1 1 [.int .u8 v0, .slice (some ⟨g1, 0, none⟩) v1 cap1] (by rfl) (by rfl) (World.news_of_block (heap_alloc_new w1 _)) (two_one _ _ _ _) (by omega) hk63 hk31 hbz (w1.heap.size + 1) (by simp) ?_; intro gg cap w2 hown2 hgrow hat hlt2))
        have hz0' := HZ0.out
        have hit : OwnV (w1.alloc (.cells #[.int .u8 v0, .slice (some ⟨g1, 0, none⟩) v1 cap1] 114)) w.heap.size ⟨v0, some ⟨g1, 0, none⟩, v1, cap1, fun j => z (pos z k + 2 + j)⟩ := ⟨z0, by show v1 ≤ _; omega, g1, rfl, by have := hb.size; simp at hg1; omega, ho1.alloc _⟩
        have R := Lib.hid (OwnT.push ((ho.out.below hbx).below ((bself w1).alloc (Nat.le_refl _) (.cells #[.int .u8 v0, .slice (some ⟨g1, 0, none⟩) v1 cap1] 114))) hit hown2 hgrow)
        have hI : IsItZ z (updT L k ⟨v0, some ⟨g1, 0, none⟩, v1, cap1, fun j => z (pos z k + 2 + j)⟩) (k + 1) := by
          intro j hj
          by_cases e : j = k
          · subst e; rw [updT_same]; exact ⟨g1, cap1, by unfold itZ; rw [hz0', hEn.out]⟩
          · rw [updT_other _ _ _ _ e]; exact hL.out j (by omega)
        have hB2 : Below w.heap.size w w2 := ((hb.trans (hbx.mono hbs)).alloc (by have := hbx.size; omega) _).grown hgrow (by have := hbx.size; simp; omega) (fun x e => (ho.out.1.lt x e).1)
        have HI := Lib.hid hI
        have HB2 := Lib.hid hB2
        clear hI hB2 hit hown2 hgrow ho1 hb1 hbx hbz hz0' hat hlt2 c0 c1 q6 q8 hg1
        go_wp2
        go_roundw
        case rel => exact ⟨k + 1, _, _, HN1.out, hkm1, slice_eq rfl (by have := HPK.out; have := HQ.out; omega) (by have := HPK.out; have := HQC.out; omega), Lib.hid (fun h => by have := HPK.out; have := HQ.out; have := HN1.out; omega), R.out, HI, HB2.out⟩
        case measure => simp <;> omega
      · have q9 : ¬ (qc : Int) = 2 := by omega
        by_cases hend : qc = 2 + v1
        · have HQ10 := Lib.hid hend
          clear hend
          go_wp2_with fail
          go_region_held3 (fun w' => w'.cell? ⟨b, off + pos z k, none⟩ = some (.int .u8 v0))
            (first | go_keep | (exact (hb1.cell (by exact hlb)).trans c0) | (rw [hgrow.cell_far _ (by have := hbx.size; simp; omega) (Ne.symm hfar)]; assumption))
            (first | (go_at_call 46; refine (H.out _ (by exact hrr.out) _ _ (.inr rfl)).mono ?_; (rintro e w1 ⟨g1, cap1, rfl, hg1, ho1, hb1⟩; have hbx : Below wr.heap.size wr w1 := (Below.refl _ wr).drew.trans hb1; have hbz := HB.out g1 cap1 w1 hbx.size)) | (refine step_append_lies _ (by rfl) _ _ _ (by rfl) w.heap.size 114 i0 _ 2 32 Tryz.underlying37 hi hz0 hz1 hz2 rfl (by omega) u4 k (cellsT L k) (by rfl) ((ownsRow_below ho.out.1 hbx).alloc _) ⟨w1.heap.size, 0, none⟩ 1 1 [.int .u8 v0, .slice (some ⟨g1, 0, none⟩) v1 cap1] (by rfl) (by rfl) (World.news_of_block (heap_alloc_new w1 _)) (two_one _ _ _ _) (by omega) hk63 hk31 hbz (w1.heap.size + 1) (by simp) ?_; intro gg cap w2 hown2 hgrow hat hlt2))
          have hz0' := HZ0.out
          have hit : OwnV (w1.alloc (.cells #[.int .u8 v0, .slice (some ⟨g1, 0, none⟩) v1 cap1] 114)) w.heap.size ⟨v0, some ⟨g1, 0, none⟩, v1, cap1, fun j => z (pos z k + 2 + j)⟩ := ⟨z0, by show v1 ≤ _; omega, g1, rfl, by have := hb.size; simp at hg1; omega, ho1.alloc _⟩
          have R := Lib.hid (OwnT.push ((ho.out.below hbx).below ((bself w1).alloc (Nat.le_refl _) (.cells #[.int .u8 v0, .slice (some ⟨g1, 0, none⟩) v1 cap1] 114))) hit hown2 hgrow)
          have hI : IsItZ z (updT L k ⟨v0, some ⟨g1, 0, none⟩, v1, cap1, fun j => z (pos z k + 2 + j)⟩) (k + 1) := by
            intro j hj
            by_cases e : j = k
            · subst e; rw [updT_same]; exact ⟨g1, cap1, by unfold itZ; rw [hz0', hEn.out]⟩
            · rw [updT_other _ _ _ _ e]; exact hL.out j (by omega)
          have hB2 : Below w.heap.size w w2 := ((hb.trans (hbx.mono hbs)).alloc (by have := hbx.size; omega) _).grown hgrow (by have := hbx.size; simp; omega) (fun x e => (ho.out.1.lt x e).1)
          have HI := Lib.hid hI
          have HB2 := Lib.hid hB2
          clear hI hB2 hit hown2 hgrow ho1 hb1 hbx hbz hz0' hat hlt2 c0 c1 q6 q8 hg1
          have q10 : (qc : Int) = 2 + (v1 : Int) := by have := HQ10.out; omega
          go_wp2
          go_roundw
          case rel => exact ⟨k + 1, _, _, HN1.out, hkm1, slice_eq rfl (by have := HPK.out; have := HQ.out; omega) (by have := HPK.out; have := HQC.out; omega), Lib.hid (fun h => by have := HPK.out; have := HQ.out; have := HQC.out; have := HN1.out; omega), R.out, HI, HB2.out⟩
          case measure => simp <;> omega
        · have q10 : ¬ (qc : Int) = 2 + (v1 : Int) := by omega
          go_wp2_with fail
          go_region_held3 (fun w' => w'.cell? ⟨b, off + pos z k, none⟩ = some (.int .u8 v0))
            (first | go_keep | (exact (hb1.cell (by exact hlb)).trans c0) | (rw [hgrow.cell_far _ (by have := hbx.size; simp; omega) (Ne.symm hfar)]; assumption))
            (first | (go_at_call 46; refine (H.out _ (by exact hrr.out) _ _ (.inr rfl)).mono ?_; (rintro e w1 ⟨g1, cap1, rfl, hg1, ho1, hb1⟩; have hbx : Below wr.heap.size wr w1 := (Below.refl _ wr).drew.trans hb1; have hbz := HB.out g1 cap1 w1 hbx.size)) | (refine step_append_lies _ (by rfl) _ _ _ (by rfl) w.heap.size 114 i0 _ 2 32 Tryz.underlying37 hi hz0 hz1 hz2 rfl (by omega) u4 k (cellsT L k) (by rfl) ((ownsRow_below ho.out.1 hbx).alloc _) ⟨w1.heap.size, 0, none⟩ 1 1 [.int .u8 v0, .slice (some ⟨g1, 0, none⟩) v1 cap1] (by rfl) (by rfl) (World.news_of_block (heap_alloc_new w1 _)) (two_one _ _ _ _) (by omega) hk63 hk31 hbz (w1.heap.size + 1) (by simp) ?_; intro gg cap w2 hown2 hgrow hat hlt2))
          have hz0' := HZ0.out
          have hit : OwnV (w1.alloc (.cells #[.int .u8 v0, .slice (some ⟨g1, 0, none⟩) v1 cap1] 114)) w.heap.size ⟨v0, some ⟨g1, 0, none⟩, v1, cap1, fun j => z (pos z k + 2 + j)⟩ := ⟨z0, by show v1 ≤ _; omega, g1, rfl, by have := hb.size; simp at hg1; omega, ho1.alloc _⟩
          have R := Lib.hid (OwnT.push ((ho.out.below hbx).below ((bself w1).alloc (Nat.le_refl _) (.cells #[.int .u8 v0, .slice (some ⟨g1, 0, none⟩) v1 cap1] 114))) hit hown2 hgrow)
          have hI : IsItZ z (updT L k ⟨v0, some ⟨g1, 0, none⟩, v1, cap1, fun j => z (pos z k + 2 + j)⟩) (k + 1) := by
            intro j hj
            by_cases e : j = k
            · subst e; rw [updT_same]; exact ⟨g1, cap1, by unfold itZ; rw [hz0', hEn.out]⟩
            · rw [updT_other _ _ _ _ e]; exact hL.out j (by omega)
          have hB2 : Below w.heap.size w w2 := ((hb.trans (hbx.mono hbs)).alloc (by have := hbx.size; omega) _).grown hgrow (by have := hbx.size; simp; omega) (fun x e => (ho.out.1.lt x e).1)
          have HI := Lib.hid hI
          have HB2 := Lib.hid hB2
          clear hI hB2 hit hown2 hgrow ho1 hb1 hbx hbz hz0' hat hlt2 c0 c1 q6 q8 hg1
          go_wp2
          go_roundw
          case rel => exact ⟨k + 1, _, _, HN1.out, hkm1, slice_eq rfl (by have := HPK.out; have := HQ.out; omega) (by have := HPK.out; have := HQC.out; omega), Lib.hid (fun h => ⟨b, off, addr_eq (by have := HPK.out; omega), HRW.out⟩), R.out, HI, HB2.out⟩
          case measure => simp <;> omega
    · have hkm2 : k = m := by omega
      subst hkm2
      have ho := Lib.hid hown
      by_cases hend : pos z k = n
      · have h0 : n - pos z k = 0 := by omega
        have he := Lib.hid hend
        rw [h0]
        clear hown hA' hk hend h0 hkm1
        go_wp2
        go_ret2
        exact .inl ⟨he.out, _, L, rfl, ho.out, hL.out, hb⟩
      · have hq0 : 0 < n - pos z k := by omega
        have HE := Lib.hid hend
        have hM := HM.out.2
        by_cases h2 : n < pos z k + 2
        · have q1 : n - pos z k = 1 := by omega
          rw [q1]
          clear hown hA' hk hkm1 hM h2 hq0 q1
          go_wp2
          go_ret2
          exact .inr ⟨HE.out, rfl, hb⟩
        · obtain ⟨b, off, rfl, hr⟩ := hA'.out (by omega)
          have c1 : wr.cell? ⟨b, off + pos z k + 1, none⟩ = some (.int .u8 (z (pos z k + 1))) := (hb.cell (p := ⟨b, off + pos z k + 1, none⟩) hr.1).trans (hr.2.1 (pos z k + 1) (by omega))
          have z1 := hz (pos z k + 1)
          obtain ⟨v1, hv1⟩ := Int.eq_ofNat_of_zero_le z1.1
          have hpk : pos z (k + 1) = pos z k + 2 + v1 := by simp only [pos]; omega
          rw [hv1] at c1 z1
          obtain ⟨q, hq⟩ : ∃ q, n - pos z k = q := ⟨_, rfl⟩
          rw [hq]
          have q1 : (q : Int) < 2 + (v1 : Int) := by omega
          have q3 : (2 : Int) ≤ (q : Int) := by omega
          have q4 : (1 : Int) < (q : Int) := by omega
          have q5 : (0 : Int) < (q : Int) := by omega
          clear hown hA' hk hkm1 hM h2 hq0 hr hv1 hpk hq
          go_wp2
          go_ret2
          exact .inr ⟨HE.out, rfl, hb⟩
end Go.Proofs.YtkiaijmhoikdiaaGreat
