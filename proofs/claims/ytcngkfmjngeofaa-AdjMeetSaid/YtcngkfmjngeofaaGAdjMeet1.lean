/- Texts of this claim put together; each theorem states its conditions. -/
import Derived.WalkKit
import Derived.Laws.BitsAllLaws
import Derived.Laws.BitsLemmas
import Derived.Below
import Derived.Test.YtcngkfmjngeofaaRows
import Derived.WalkLawsBesides
import Derived.WalkSpells
import Derived.IntWalk
import Derived.Outline
import Derived.Lib.Hide
import Derived.Maps.AppendAt
import Derived.Laws.AppendOwnNone
import Derived.OwnWalk
import Derived.Deep.MidRow
import Derived.Laws.Tables
import Derived.Laws.Rows
import Derived.Laws.ResultCell
import Derived.Deep.RegionHeld3
import Derived.Stop.BytesEq
import Derived.LoopN
import Derived.RegionTactic
import Derived.ChangeAlike
import Derived.Deep.QuietTactic
import Derived.Deep.RegionWith
import Derived.BigQuiet
import Derived.Laws.IdiomStrings
import Derived.Laws.BytesArg
/- Plain facts about numbers, bytes and check bytes, without any program. Each theorem states its conditions. -/
namespace Go.Proofs.Ytcngkfmjngeofaa
open Go.RowKit
set_option linter.unusedVariables false

theorem ret_u32 {a b : Int} (h : a = b) : Ending.returned (.int .u32 a) = .returned (.int .u32 b) := by rw [h]
theorem ret_int {a b : Int} (h : a = b) : Ending.returned (.int .i64 a) = .returned (.int .i64 b) := by rw [h]
theorem ret_bool {a b : Bool} (h : a = b) : Ending.returned (.bool a) = .returned (.bool b) := by rw [h]

/-- the number of the bytes z(s), .., k of them -/
def numZ (z : Nat → Int) (s : Nat) : Nat → Int
  | 0 => 0
  | k + 1 => numZ z s k * 256 + z (s + k)

theorem numZ_lt (z : Nat → Int) (s k : Nat) (hz : ∀ j, 0 ≤ z j ∧ z j ≤ 255) : 0 ≤ numZ z s k ∧ numZ z s k < 256 ^ k := by
  induction k with
  | zero => simp [numZ]
  | succ k ih =>
    have := hz (s + k)
    simp only [numZ, Int.pow_succ]
    omega

theorem numZ_56 (z : Nat → Int) (s k : Nat) (hk : k ≤ 7) (hz : ∀ j, 0 ≤ z j ∧ z j ≤ 255) : 0 ≤ numZ z s k ∧ numZ z s k ≤ 72057594037927935 := by
  have h := numZ_lt z s k hz
  have : (256 : Int) ^ k ≤ 256 ^ 7 := by
    clear h
    rcases (by omega : k = 0 ∨ k = 1 ∨ k = 2 ∨ k = 3 ∨ k = 4 ∨ k = 5 ∨ k = 6 ∨ k = 7) with rfl | rfl | rfl | rfl | rfl | rfl | rfl | rfl <;> decide
  have e : (256 : Int) ^ 7 = 72057594037927936 := by decide
  omega

theorem numZ_64 (z : Nat → Int) (s k : Nat) (hk : k ≤ 8) (hz : ∀ j, 0 ≤ z j ∧ z j ≤ 255) : 0 ≤ numZ z s k ∧ numZ z s k ≤ 18446744073709551615 := by
  have h := numZ_lt z s k hz
  have : (256 : Int) ^ k ≤ 256 ^ 8 := by
    clear h
    rcases (by omega : k = 0 ∨ k = 1 ∨ k = 2 ∨ k = 3 ∨ k = 4 ∨ k = 5 ∨ k = 6 ∨ k = 7 ∨ k = 8) with rfl | rfl | rfl | rfl | rfl | rfl | rfl | rfl | rfl <;> decide
  have e : (256 : Int) ^ 8 = 18446744073709551616 := by decide
  omega

theorem shl_or (n b : Int) (h0 : 0 ≤ n) (h1 : n ≤ 72057594037927935) (hb : 0 ≤ b ∧ b ≤ 255) : bits .or .u64 (IntKind.u64.wrap (n * 256)) b = n * 256 + b := by
  have e : IntKind.u64.wrap (n * 256) = n * 256 := by rw [IntKind.wrap_u64]; omega
  rw [e, u64_or _ _ (by omega) (by omega) (by omega) (by omega), nat_join 8 _ _ (by omega) (by omega)]
  omega

theorem numZ_step (z : Nat → Int) (s k : Nat) (hk : k ≤ 7) (hz : ∀ j, 0 ≤ z j ∧ z j ≤ 255) :
    bits .or .u64 (IntKind.u64.wrap (numZ z s k * 256)) (z (s + k)) = numZ z s (k + 1) := by
  have h := numZ_56 z s k hk hz
  rw [shl_or _ _ h.1 h.2 (hz _)]; rfl

/-- the sum of the first k bytes, without the two at s and s + 1 -/
def sumA (z : Nat → Int) (s : Nat) : Nat → Int
  | 0 => 0
  | k + 1 => if k = s ∨ k = s + 1 then sumA z s k else sumA z s k + z k

/-- the same, each byte times how many stand from it on, of n -/
def sumB (z : Nat → Int) (s n : Nat) : Nat → Int
  | 0 => 0
  | k + 1 => if k = s ∨ k = s + 1 then sumB z s n k else sumB z s n k + z k * ((n : Int) - k)

theorem sumA_skip (z : Nat → Int) (s k : Nat) (h : k = s ∨ k = s + 1) : sumA z s (k + 1) = sumA z s k := by simp [sumA, h]
theorem sumA_take (z : Nat → Int) (s k : Nat) (h : ¬ (k = s ∨ k = s + 1)) : sumA z s (k + 1) = sumA z s k + z k := by simp [sumA, h]
theorem sumB_skip (z : Nat → Int) (s n k : Nat) (h : k = s ∨ k = s + 1) : sumB z s n (k + 1) = sumB z s n k := by simp [sumB, h]
theorem sumB_take (z : Nat → Int) (s n k : Nat) (h : ¬ (k = s ∨ k = s + 1)) : sumB z s n (k + 1) = sumB z s n k + z k * ((n : Int) - k) := by simp [sumB, h]
theorem sumA_bd (z : Nat → Int) (s k : Nat) (hz : ∀ j, 0 ≤ z j ∧ z j ≤ 255) : 0 ≤ sumA z s k ∧ sumA z s k ≤ 255 * k := by
  induction k with
  | zero => simp [sumA]
  | succ k ih =>
    have := hz k
    simp only [sumA]
    split <;> omega

theorem mul_bd (a b : Int) (c d : Int) (h0 : 0 ≤ a) (h1 : a ≤ c) (h2 : 0 ≤ b) (h3 : b ≤ d) : 0 ≤ a * b ∧ a * b ≤ c * d :=
  ⟨Int.mul_nonneg h0 h2, Int.mul_le_mul h1 h3 h2 (by omega)⟩

theorem sumB_bd (z : Nat → Int) (s n k : Nat) (hz : ∀ j, 0 ≤ z j ∧ z j ≤ 255) (hn : n ≤ 1492) (hk : k ≤ n) : 0 ≤ sumB z s n k ∧ sumB z s n k ≤ 380460 * k := by
  induction k with
  | zero => simp [sumB]
  | succ k ih =>
    have := hz k
    have h1 := mul_bd (z k) ((n : Int) - k) 255 1492 this.1 this.2 (by omega) (by omega)
    have := ih (by omega)
    simp only [sumB]
    split <;> omega

/-- the number from 1 to 255 that is n modulo 255 -/
def cbI (n : Int) : Int := (n - 1) % 255 + 1
theorem cbI_bd (n : Int) : 1 ≤ cbI n ∧ cbI n ≤ 255 := by unfold cbI; omega
theorem cbI_of {n r : Int} (h : (r - n) % 255 = 0) (h1 : 1 ≤ r) (h2 : r ≤ 255) : cbI n = r := by unfold cbI; omega
theorem tmod_parts (n : Int) : ∃ q, n = 255 * q + n.tmod 255 ∧ -255 < n.tmod 255 ∧ n.tmod 255 < 255 :=
  ⟨n.tdiv 255, (Int.mul_tdiv_add_tmod n 255).symm, Int.lt_tmod_of_pos n (by omega), Int.tmod_lt_of_pos n (by omega)⟩
theorem tmod_bd (n : Int) : -255 < n.tmod 255 ∧ n.tmod 255 < 255 := ⟨Int.lt_tmod_of_pos n (by omega), Int.tmod_lt_of_pos n (by omega)⟩
theorem cbI_tmod_lo (n : Int) (h : n.tmod 255 ≤ 0) : n.tmod 255 + 255 = cbI n := by
  obtain ⟨q, h1, h2, h3⟩ := tmod_parts n
  generalize n.tmod 255 = r at *
  unfold cbI
  omega
theorem cbI_tmod_hi (n : Int) (h : 0 < n.tmod 255) : n.tmod 255 = cbI n := by
  obtain ⟨q, h1, h2, h3⟩ := tmod_parts n
  generalize n.tmod 255 = r at *
  unfold cbI
  omega

theorem u16_join (x y : Int) (hx : 1 ≤ x ∧ x ≤ 255) (hy : 1 ≤ y ∧ y ≤ 255) : bits .or .u16 (IntKind.u16.wrap (x * 256)) y = x * 256 + y := by
  have e : IntKind.u16.wrap (x * 256) = x * 256 := by rw [IntKind.wrap_u16]; omega
  rw [e, u16_or _ _ (by omega) (by omega) (by omega) (by omega), nat_join 8 _ _ (by omega) (by omega)]
  omega

theorem u16_join' (x y : Int) (hx : 1 ≤ x ∧ x ≤ 255) (hy : 1 ≤ y ∧ y ≤ 255) : bits .or .u16 (x * 256) y = x * 256 + y := by
  rw [u16_or _ _ (by omega) (by omega) (by omega) (by omega), nat_join 8 _ _ (by omega) (by omega)]
  omega
theorem ret2_eq {a b : Value} (h : a = b) (c : Value) : Ending.returned (.tuple #[a, c]) = .returned (.tuple #[b, c]) := by rw [h]
theorem u16_eq {a b : Int} (h : a = b) : Value.int .u16 a = .int .u16 b := by rw [h]

/-- the two check bytes -/
def chkX (z : Nat → Int) (s n : Nat) : Int := cbI (sumA z s n * ((n : Int) - s - 1) - sumB z s n n)
def chkY (z : Nat → Int) (s n : Nat) : Int := cbI (- sumA z s n - chkX z s n)
def chk (z : Nat → Int) (s n : Nat) : Int := chkX z s n * 256 + chkY z s n

/-- the letter of a digit to the base 16 -/
def hxI (k : Int) : Int := if k < 10 then 48 + k else 87 + k
theorem hx_at (k : Int) (h0 : 0 ≤ k) (h1 : k < 16) (h : k.toNat < (ByteArray.mk #[48, 49, 50, 51, 52, 53, 54, 55, 56, 57, 97, 98, 99, 100, 101, 102]).size) :
    (((ByteArray.mk #[48, 49, 50, 51, 52, 53, 54, 55, 56, 57, 97, 98, 99, 100, 101, 102])[k.toNat]'h).toNat : Int) = hxI k := by
  rcases (by omega : k = 0 ∨ k = 1 ∨ k = 2 ∨ k = 3 ∨ k = 4 ∨ k = 5 ∨ k = 6 ∨ k = 7 ∨ k = 8 ∨ k = 9 ∨ k = 10 ∨ k = 11 ∨ k = 12 ∨ k = 13 ∨ k = 14 ∨ k = 15) with rfl | rfl | rfl | rfl | rfl | rfl | rfl | rfl | rfl | rfl | rfl | rfl | rfl | rfl | rfl | rfl <;> rfl
/-- the text of a name -/
def nameI (b0 b1 b2 b3 b4 b5 : Int) : List Int :=
  [hxI (b0 / 16), hxI (b0 % 16), hxI (b1 / 16), hxI (b1 % 16), 46, hxI (b2 / 16), hxI (b2 % 16), hxI (b3 / 16), hxI (b3 % 16), 46, hxI (b4 / 16), hxI (b4 % 16), hxI (b5 / 16), hxI (b5 % 16)]

/-- what a walk is told of a slice of integers that came in: nil, or a row of cap cells, the numbers zs (the first len are its elements) -/
def IsRow (k : IntKind) (w : World) (a : Option Addr) (len cap : Nat) (zs : List Int) : Prop :=
  (a = none ∧ len = 0 ∧ cap = 0 ∧ zs = []) ∨
  ∃ x, a = some x ∧ len ≤ cap ∧ cap ≤ maxLen ∧ zs.length = cap ∧ (∀ i, i < zs.length → w.cell? (x.add i) = some (.int k (zs.getD i 0))) ∧ ∀ n ∈ zs, (Lit.int k n).wf = true

theorem wf_u8 {n : Int} (h : (Lit.int .u8 n).wf = true) : 0 ≤ n ∧ n ≤ 255 := by
  simp [Lit.wf, IntKind.min, IntKind.max, IntKind.bits, IntKind.signed] at h; omega
theorem wf_u16 {n : Int} (h : (Lit.int .u16 n).wf = true) : 0 ≤ n ∧ n ≤ 65535 := by
  simp [Lit.wf, IntKind.min, IntKind.max, IntKind.bits, IntKind.signed] at h; omega
theorem wf_u32 {n : Int} (h : (Lit.int .u32 n).wf = true) : 0 ≤ n ∧ n ≤ 4294967295 := by
  simp [Lit.wf, IntKind.min, IntKind.max, IntKind.bits, IntKind.signed] at h; omega
theorem wf_u64 {n : Int} (h : (Lit.int .u64 n).wf = true) : 0 ≤ n ∧ n ≤ 18446744073709551615 := by
  simp [Lit.wf, IntKind.min, IntKind.max, IntKind.bits, IntKind.signed] at h; omega
theorem wf_i64 {n : Int} (h : (Lit.int .i64 n).wf = true) : -9223372036854775808 ≤ n ∧ n ≤ 9223372036854775807 := by
  simp [Lit.wf, IntKind.min, IntKind.max, IntKind.bits, IntKind.signed] at h; omega

theorem bnext {a w w' : World} (h : Below a.heap.size a w) (hb : Below w.heap.size w w') : Below a.heap.size a w' := h.trans (hb.mono h.size)
theorem balloc {a w : World} (h : Below a.heap.size a w) (o : Obj) : Below a.heap.size a (w.alloc o) := h.alloc h.size o
theorem bself (w : World) : Below w.heap.size w w := Below.refl _ _

/-- a row of n bytes z(0), .. from ⟨b, off⟩ on -/
def Row8 (w : World) (b off n : Nat) (z : Nat → Int) : Prop :=
  b < w.heap.size ∧ (∀ j, j < n → w.cell? ⟨b, off + j, none⟩ = some (.int .u8 (z j))) ∧ ∀ j, 0 ≤ z j ∧ z j ≤ 255

theorem cell_lt {w : World} {p : Addr} {v : Value} (h : w.cell? p = some v) : p.block < w.heap.size := by
  rcases Nat.lt_or_ge p.block w.heap.size with hl | hg
  · exact hl
  · simp [World.cell?, Array.getElem?_eq_none hg] at h

theorem Row8.below {w w' : World} {b off n B : Nat} {z : Nat → Int} (h : Row8 w b off n z) (hb : Below B w w') (hB : b < B) : Row8 w' b off n z := by
  refine ⟨?_, fun j hj => (hb.cell (p := ⟨b, off + j, none⟩) hB).trans (h.2.1 j hj), h.2.2⟩
  have := hb.size
  have := h.1
  omega

theorem isRow_open {w : World} {a : Option Addr} {len cap : Nat} {zs : List Int} (h : IsRow .u8 w a len cap zs) (h0 : 0 < len) :
    ∃ b off, a = some ⟨b, off, none⟩ ∧ len ≤ cap ∧ cap ≤ maxLen ∧ Row8 w b off len (fun j => zs.getD j 0) := by
  rcases h with ⟨_, hl, _⟩ | ⟨x, rfl, hlc, hm, hz, hc, hwf⟩
  · omega
  · obtain ⟨b, off, spot⟩ := x
    have hc0 := hc 0 (by omega)
    have hs : spot = none := by simpa [Addr.add] using World.cell?_spot hc0
    subst hs
    have hadd : ∀ j, (⟨b, off, none⟩ : Addr).add j = ⟨b, off + j, none⟩ := fun j => by unfold Addr.add; split <;> simp_all
    refine ⟨b, off, rfl, hlc, hm, ?_, fun j hj => ?_, fun j => ?_⟩
    · have := cell_lt hc0
      simpa [hadd] using this
    · rw [← hadd]; exact hc j (by omega)
    · rcases Nat.lt_or_ge j zs.length with hj | hj
      · have := hwf zs[j] (by simp)
        have := wf_u8 this
        simpa [List.getD, List.getElem?_eq_getElem hj] using this
      · simp [List.getD, List.getElem?_eq_none hj]

theorem isRow_len {w : World} {k : IntKind} {a : Option Addr} {len cap : Nat} {zs : List Int} (h : IsRow k w a len cap zs) : len ≤ cap ∧ cap ≤ maxLen := by
  rcases h with ⟨_, rfl, rfl, _⟩ | ⟨x, rfl, hlc, hm, hz, hc, hwf⟩
  · simp
  · exact ⟨hlc, hm⟩

theorem numZ_add (z : Nat → Int) (s x y : Nat) : numZ z s (x + y) = numZ z s x * 256 ^ y + numZ z (s + x) y := by
  induction y with
  | zero => simp [numZ]
  | succ y ih =>
    show numZ z s (x + y) * 256 + z (s + (x + y)) = _
    rw [ih]
    simp only [numZ, Int.pow_succ, Nat.add_assoc]
    rw [Int.add_mul, Int.mul_assoc, Int.add_assoc]

theorem or_join (h l P : Int) (i : Nat) (hP : P = 2 ^ i) (h0 : 0 ≤ h) (h1 : h * P ≤ 18446744073709551615) (l0 : 0 ≤ l) (l1 : l < P) (hi : P ≤ 18446744073709551615) :
    bits .or .u64 (h * P) l = h * P + l := by
  have hm : 0 ≤ h * P := Int.mul_nonneg h0 (by omega)
  obtain ⟨n, rfl⟩ := Int.eq_ofNat_of_zero_le h0
  obtain ⟨m, rfl⟩ := Int.eq_ofNat_of_zero_le l0
  have hP' : P = ((2 ^ i : Nat) : Int) := by rw [hP]; simp
  subst hP'
  have e : ((n : Int) * ((2 ^ i : Nat) : Int)) = ((n * 2 ^ i : Nat) : Int) := by simp
  rw [e] at h1 hm ⊢
  rw [u64_or _ _ hm (by omega) (by omega) (by omega)]
  simp only [Int.toNat_natCast]
  rw [nat_join i _ _ (Nat.mul_mod_left _ _) (by omega)]
  simp
end Go.Proofs.Ytcngkfmjngeofaa

/- Rows of bytes that a call reads or makes: what is known of them, and what becomes of it. Twin answers a row of its own. Each theorem states its conditions. -/
namespace Go.Proofs.Ytcngkfmjngeofaa
open Go.RowKit
set_option linter.unusedVariables false

/-- block g is a row of bytes of the call's own: cap cells, the first n are z(0), .. -/
def Own8 (w : World) (g n cap : Nat) (z : Nat → Int) : Prop :=
  (∃ cur : Array Value, w.heap[g]? = some (.cells cur 5 (0, 0)) ∧ n ≤ cap ∧ cap ≤ maxLen ∧ cur.size = cap ∧ ∀ j, j < n → cur[j]? = some (.int .u8 (z j))) ∧ ∀ j, 0 ≤ z j ∧ z j ≤ 255

/-- bytes that can be read: none, or a row -/
def Rd (w : World) (A : Option Addr) (n : Nat) (z : Nat → Int) : Prop :=
  (n = 0 ∨ ∃ b off, A = some ⟨b, off, none⟩ ∧ Row8 w b off n z) ∧ ∀ j, 0 ≤ z j ∧ z j ≤ 255

section
variable {w w' : World} {g n cap b off : Nat} {z : Nat → Int} {A : Option Addr}

theorem Own8.lt (h : Own8 w g n cap z) : g < w.heap.size := by
  obtain ⟨⟨cur, hg, _⟩, _⟩ := h
  exact (Array.getElem?_eq_some_iff.1 hg).1
theorem Own8.row (h : Own8 w g n cap z) : Row8 w g 0 n z := by
  refine ⟨h.lt, fun j hj => ?_, h.2⟩
  obtain ⟨⟨cur, hg, _, _, _, hc⟩, _⟩ := h
  rw [Nat.zero_add, cell_of_row w g j cur 5 (0, 0) hg]
  exact hc j hj
theorem Own8.caps (h : Own8 w g n cap z) : n ≤ cap ∧ cap ≤ maxLen := by
  obtain ⟨⟨cur, hg, h1, h2, _⟩, _⟩ := h
  exact ⟨h1, h2⟩
theorem Own8.free (h : Own8 w g n cap z) (j : Nat) : w.frozen? ⟨g, j, none⟩ = false := by
  obtain ⟨⟨cur, hg, _⟩, _⟩ := h
  simp [World.frozen?, hg]
theorem Own8.block (h : Own8 w g n cap z) (hb : w'.heap[g]? = w.heap[g]?) : Own8 w' g n cap z := by
  obtain ⟨⟨cur, hg, h1⟩, h2⟩ := h
  exact ⟨⟨cur, hb.trans hg, h1⟩, h2⟩
theorem Own8.below {B : Nat} (h : Own8 w g n cap z) (hb : Below B w w') (hB : g < B) : Own8 w' g n cap z := h.block (hb.block g hB)
theorem Own8.grown {row : Option Nat} (h : Own8 w g n cap z) (hb : w.grownBy w' row) (hne : some g ≠ row) : Own8 w' g n cap z := h.block (hb.block g h.lt hne)
theorem Own8.alloc (h : Own8 w g n cap z) (o : Obj) : Own8 (w.alloc o) g n cap z := h.block (Below.heap_alloc w o g h.lt)
theorem Own8.far (h : Own8 w g n cap z) {p : Addr} (hp : g ≠ p.block) (u : Value) : Own8 (w.setCell p u) g n cap z := h.block (Below.heap_setCell w p u g hp)
/-- a byte is written -/
def upd (z : Nat → Int) (k : Nat) (v : Int) : Nat → Int := fun j => if j = k then v else z j
theorem upd_same (z : Nat → Int) (k : Nat) (v : Int) : upd z k v k = v := by simp [upd]
theorem upd_other (z : Nat → Int) (k j : Nat) (v : Int) (h : j ≠ k) : upd z k v j = z j := by simp [upd, h]
theorem upd_bd (hz : ∀ j, 0 ≤ z j ∧ z j ≤ 255) (k : Nat) (v : Int) (hv : 0 ≤ v ∧ v ≤ 255) : ∀ j, 0 ≤ upd z k v j ∧ upd z k v j ≤ 255 := by
  intro j; unfold upd; split; exact hv; exact hz j
theorem Own8.put (h : Own8 w g n cap z) (k : Nat) (hk : k < n) (v : Int) (hv : 0 ≤ v ∧ v ≤ 255) : Own8 (w.setCell ⟨g, k, none⟩ (.int .u8 v)) g n cap (upd z k v) := by
  obtain ⟨⟨cur, hg, h1, h2, h3, h4⟩, h5⟩ := h
  refine ⟨⟨cur.setIfInBounds k (.int .u8 v), ?_, h1, h2, by simpa using h3, fun j hj => ?_⟩, upd_bd h5 k v hv⟩
  · simp [World.setCell, Array.getElem?_modify, hg]
  · rw [Array.getElem?_setIfInBounds]
    by_cases e : k = j
    · subst e
      rw [if_pos rfl, if_pos (by omega), upd_same]
    · rw [if_neg e, upd_other z k j v (fun x => e x.symm)]
      exact h4 j hj
theorem Own8.cut (h : Own8 w g n cap z) (m : Nat) (hm : m ≤ n) : Own8 w g m cap z := by
  obtain ⟨⟨cur, hg, h1, h2, h3, h4⟩, h5⟩ := h
  exact ⟨⟨cur, hg, by omega, h2, h3, fun j hj => h4 j (by omega)⟩, h5⟩
theorem own_at (h : Own8 w g n cap z) (j : Nat) (hj : j < n) : w.cell? ⟨g, j, none⟩ = some (.int .u8 (z j)) := by
  have := h.row.2.1 j hj
  rwa [Nat.zero_add] at this
theorem Own8.rd (h : Own8 w g n cap z) : Rd w (some ⟨g, 0, none⟩) n z := ⟨.inr ⟨g, 0, rfl, h.row⟩, h.2⟩

theorem Rd.below {B : Nat} (h : Rd w A n z) (hb : Below B w w') (hB : B = w.heap.size) : Rd w' A n z := by
  refine ⟨?_, h.2⟩
  rcases h.1 with h0 | ⟨b, off, rfl, hr⟩
  · exact .inl h0
  · exact .inr ⟨b, off, rfl, hr.below hb (by have := hr.1; omega)⟩
theorem Rd.cut (h : Rd w A n z) (m : Nat) (hm : m ≤ n) : Rd w A m z := by
  refine ⟨?_, h.2⟩
  rcases h.1 with h0 | ⟨b, off, rfl, hr⟩
  · exact .inl (by omega)
  · exact .inr ⟨b, off, rfl, hr.1, fun j hj => hr.2.1 j (by omega), hr.2.2⟩
theorem Rd.row (h : Rd w A n z) (hn : 0 < n) : ∃ b off, A = some ⟨b, off, none⟩ ∧ Row8 w b off n z := by
  rcases h.1 with h0 | h1
  · omega
  · exact h1

theorem isRow_rd {len : Nat} {zs : List Int} (h : IsRow .u8 w A len cap zs) : Rd w A len (fun j => zs.getD j 0) ∧ (A = none → len = 0 ∧ cap = 0) := by
  rcases Nat.eq_zero_or_pos len with h0 | h0
  · refine ⟨⟨.inl h0, fun j => ?_⟩, fun hA => ?_⟩
    · rcases h with ⟨rfl, _, _, rfl⟩ | ⟨x, rfl, hlc, hm, hz, hc, hwf⟩
      · simp
      · rcases Nat.lt_or_ge j zs.length with hj | hj
        · have := wf_u8 (hwf zs[j] (by simp))
          simpa [List.getD, List.getElem?_eq_getElem hj] using this
        · simp [List.getD, List.getElem?_eq_none hj]
    · rcases h with ⟨rfl, h1, h2, rfl⟩ | ⟨x, rfl, _⟩
      · exact ⟨h1, h2⟩
      · cases hA
  · obtain ⟨b, off, rfl, _, _, hr⟩ := isRow_open h h0
    exact ⟨⟨.inr ⟨b, off, rfl, hr⟩, hr.2.2⟩, fun hA => by cases hA⟩
end

/-- the bytes as a list of values -/
def vals (z : Nat → Int) (n : Nat) : List Value := (List.range n).map fun j => .int .u8 (z j)
theorem vals_len (z : Nat → Int) (n : Nat) : (vals z n).length = n := by simp [vals]
theorem vals_at (z : Nat → Int) (n j : Nat) (h : j < n) : (vals z n)[j]? = some (.int .u8 (z j)) := by simp [vals, h]
theorem vals_at' (z : Nat → Int) (n j : Nat) (u : Value) (h : (vals z n)[j]? = some u) : j < n ∧ u = .int .u8 (z j) := by
  have hj : j < n := by
    rcases Nat.lt_or_ge j n with hl | hg
    · exact hl
    · rw [List.getElem?_eq_none (by simpa [vals] using hg)] at h; cases h
  rw [vals_at z n j hj] at h
  exact ⟨hj, by cases h; rfl⟩
theorem vals_one (z : Nat → Int) (n : Nat) : ∀ u ∈ vals z n, u.oneCell' = true := by
  intro u hu
  simp only [vals, List.mem_map] at hu
  obtain ⟨j, _, rfl⟩ := hu
  rfl

theorem own_of {w : World} {base n : Nat} {v : Value} {xs : List Value} {z : Nat → Int} (h : w.ownsRow base 5 1 v n xs) (hxs : xs = vals z n) (hv : v ≠ .slice none 0 0) (hz : ∀ j, 0 ≤ z j ∧ z j ≤ 255) :
    ∃ g cap, v = .slice (some ⟨g, 0, none⟩) n cap ∧ base ≤ g ∧ Own8 w g n cap z := by
  subst hxs
  rcases h.2 with ⟨hv', _⟩ | ⟨g, cap, cur, rfl, hb, hg, h1, h2, h3, h4⟩
  · exact (hv hv').elim
  · refine ⟨g, cap, rfl, hb, ⟨cur, hg, h1, h2, by omega, fun j hj => ?_⟩, hz⟩
    have := vals_at z n j hj
    rw [← h4, List.getElem?_take, if_pos (by omega)] at this
    simpa using this

theorem info_u8 : (Try.prog.info? 5).map (fun i => (i.zero, i.size, i.bytes)) = some (some (.int .u8 0), 1, 1) := by kernel_rfl

/-- what Twin leaves -/
def TwinPost (w : World) (n : Nat) (z : Nat → Int) (e : Ending) (w' : World) : Prop :=
  ∃ g cap, e = .returned (.slice (some ⟨g, 0, none⟩) n cap) ∧ w.heap.size ≤ g ∧ Own8 w' g n cap z ∧ Below w.heap.size w w'

theorem rd_news {w : World} {n : Nat} {z : Nat → Int} {ad : Addr} (h : Rd w (some ad) n z) (o : Obj) : ∀ j u, (vals z n)[j]? = some u → (w.alloc o).cell? (ad.add j) = some u := by
  intro j u hu
  obtain ⟨hj, rfl⟩ := vals_at' z n j u hu
  obtain ⟨b, off, e, hr⟩ := h.row (by omega)
  injection e with e
  subst e
  have hadd : (⟨b, off, none⟩ : Addr).add j = ⟨b, off + j, none⟩ := by unfold Addr.add; split <;> simp_all
  rw [hadd, World.cell?_alloc_lt w o _ hr.1]
  exact hr.2.1 j hj

theorem twin_any (A : Option Addr) (n c : Nat) (z : Nat → Int) (w : World) (h : Rd w A n z) (hA : A = none → n = 0 ∧ c = 0) (hn : n ≤ 140737488351232) :
    Calls Try.prog 38 #[.slice A n c] w (TwinPost w n z) := by
  obtain ⟨i0, hi, hz0, hz1, hz2⟩ := info_parts info_u8
  have hm : (0 : Nat) ≤ maxLen := by decide
  have hown := World.ownsRow_made (e := 5) (size := 1) (base := w.heap.size) w #[] 0 (Nat.le_refl _) hm rfl
  rcases A with _ | ⟨b, off, spot⟩
  · obtain ⟨rfl, rfl⟩ := hA rfl
    go_enter Try.func38, Try.ntmps38
    go_wp2_with (at_builtin; refine wpList_append_own_none rfl (.tmp 3) (.tmp 4) 49 rfl w.heap.size 5 i0 1 Try.underlying49 hi _ 0 [] rfl hown rfl ?_)
    go_ret
    refine ⟨w.heap.size, 0, rfl, Nat.le_refl _, ⟨⟨#[], heap_alloc_new w _, Nat.le_refl _, hm, rfl, fun j hj => by omega⟩, h.2⟩, (Below.refl _ _).alloc (Nat.le_refl _) _⟩
  · have hnews : ∀ j u, (vals z n)[j]? = some u → (w.alloc (.cells #[] 5)).cell? ((⟨b, off, spot⟩ : Addr).add j) = some u := rd_news h _
    have h1 := vals_one z n
    have hl := vals_len z n
    go_enter Try.func38, Try.ntmps38
    go_wp2_with (at_builtin; refine wpList_append_own_at _ rfl (.tmp 3) (.tmp 4) 49 rfl w.heap.size 5 i0 (.int .u8 0) 1 1 Try.underlying49 hi hz0 hz1 hz2 rfl (by decide) _ 0 [] rfl hown ⟨b, off, spot⟩ n c (vals z n) rfl (by omega) hnews h1 ?c3 ?c4 ?c5 ?_)
    case c3 => unfold maxLen; omega
    case c4 => omega
    case c5 => simp
    intro v' w1 hown1 hgrow hnil hat
    go_wp2
    go_ret
    obtain ⟨g, cap, rfl, hg, ho⟩ := own_of (by simpa using hown1) (by simp) hnil h.2
    have hb : Below w.heap.size w w1 := ((Below.refl _ _).alloc (Nat.le_refl _) _).grown hgrow (by simp) (by simp [Value.ownBlock])
    exact ⟨g, cap, rfl, hg, ho, hb⟩
end Go.Proofs.Ytcngkfmjngeofaa

/- The steps of a region whose order is drawn, taken by hand: the place that is written is named. Each theorem states its conditions. -/
namespace Go.Proofs.Ytcngkfmjngeofaa
open Go.RowKit
set_option linter.unusedVariables false

section
variable {P : Program} {ops : Array Oper} {Q : Exit → Act → World → Prop} {md : Region.Mode} {S : World → Prop}
/-- what may come up, is wanted and yields v is taken first -/
theorem takeY {i : Nat} {oi : Oper} (d : Option Tmp) {v : Value} {fuel : Nat} {listed : Array Bool} {a : Act} {w : World} (hi : ops[i]? = some oi) (hd : oi.dst = d)
    (hs : Region.noSelect ops = true) (hf : Region.free md ops listed i = true) (hr : (Region.ready md ops listed).contains i = true)
    (hQ : ∀ c a w, Q (.panic c) (a.put d v) w → Q (.panic c) a w) (hw : Region.wanted oi (yielded ops a.tmps) = true) (hy : ∀ w, S w → (execOp a.eval oi).run P w = .ok (.value v) w) (hS : S w)
    (h : wpAnyH P md ops Q S fuel (listed.setIfInBounds i true) (a.put d v) w) : wpAnyH P md ops Q S (fuel + 1) listed a w := by
  subst hd
  exact wpAnyH_take hi hs hf hr hQ (.inl ⟨hw, hy⟩) hS h
/-- what may come up and is not wanted -/
theorem takeN {i : Nat} {oi : Oper} (d : Option Tmp) {fuel : Nat} {listed : Array Bool} {a : Act} {w : World} (hi : ops[i]? = some oi) (hd : oi.dst = d)
    (hs : Region.noSelect ops = true) (hf : Region.free md ops listed i = true) (hr : (Region.ready md ops listed).contains i = true)
    (hQ : ∀ c a w, Q (.panic c) (a.put d undef) w → Q (.panic c) a w) (hw : Region.wanted oi (yielded ops a.tmps) = false) (hS : S w)
    (h : wpAnyH P md ops Q S fuel (listed.setIfInBounds i true) (a.put d undef) w) : wpAnyH P md ops Q S (fuel + 1) listed a w := by
  subst hd
  exact wpAnyH_take hi hs hf hr hQ (.inr ⟨hw, rfl⟩) hS h
/-- a row of cells is read -/
theorem takeL {i : Nat} {oi : Oper} (d : Option Tmp) {fuel : Nat} {listed : Array Bool} {a : Act} {w : World} (ty : TypeId) (x : Operand) (b o : Nat) (cs : Array Value) (dd : TypeDesc) (hi : ops[i]? = some oi) (hd : oi.dst = d)
    (hs : Region.noSelect ops = true) (hf : Region.free md ops listed i = true) (hr : (Region.ready md ops listed).contains i = true)
    (hQ : ∀ c a w, Q (.panic c) (a.put d (.agg cs)) w → Q (.panic c) a w) (hw : Region.wanted oi (yielded ops a.tmps) = true) (ho : oi.op = .load ty x)
    (hx : a.eval x = .pointer (some ⟨b, o, none⟩)) (hr2 : ∀ w, S w → w.rangeAt b o cs.toList) (hu : P.underlying ty = some dd) (hdd : dd.isRow = true) (hz : (P.info? ty).map (·.size) = some cs.toList.length) (hS : S w)
    (h : wpAnyH P md ops Q S fuel (listed.setIfInBounds i true) (a.put d (.agg cs)) w) : wpAnyH P md ops Q S (fuel + 1) listed a w := by
  subst hd
  exact wpAnyH_take hi hs hf hr (by simpa using hQ) (by simpa using yieldsIf_load_mid (P := P) hw ty x ho b o hx cs.toList dd hr2 hu hdd hz) hS h
/-- one alone may come up: it is run -/
theorem only {i : Nat} {oi : Oper} (d : Option Tmp) (op : Op) {fuel : Nat} {listed : Array Bool} {a : Act} {w : World} (hi : ops[i]? = some oi) (hd : oi.dst = d) (ho : oi.op = op)
    (hr : Region.ready md ops listed = [i]) (hw : Region.wanted oi (yielded ops a.tmps) = true)
    (h : ∀ K' : Act → World → Prop, Shut (∀ a w, S w → (S w → wpAnyH P md ops Q S fuel (listed.setIfInBounds i true) a w) → K' a w) → Oper.wp P { oi with dst := d, op := op } a w K' Q) :
    wpAnyH P md ops Q S (fuel + 1) listed a w := by
  subst hd ho
  refine wpAnyH_ready hr (by simp) (AllReadyH.cons hi (fun K hK => ?_) AllReadyH.nil)
  rw [if_pos hw]
  exact h K hK
/-- a call alone may come up -/
theorem takeC {i : Nat} {oi : Oper} (d : Option Tmp) (f : FuncId) (args : Array Value) (v : Value) {R : World → Prop} {fuel : Nat} {listed : Array Bool} {a : Act} {w : World} (hi : ops[i]? = some oi) (hd : oi.dst = d)
    (hr : Region.ready md ops listed = [i]) (hw : Region.wanted oi (yielded ops a.tmps) = true) (hx : (execOp a.eval oi).run P w = .ok (.enter f args) w)
    (hc : Calls P f args w fun e w' => e = .returned v ∧ R w') (hS : ∀ w', R w' → S w')
    (h : ∀ w', R w' → S w' → wpAnyH P md ops Q S fuel (listed.setIfInBounds i true) (a.put d v) w') : wpAnyH P md ops Q S (fuel + 1) listed a w := by
  subst hd
  refine wpAnyH_ready hr (by simp) (AllReadyH.cons hi (fun K hK => ?_) AllReadyH.nil)
  rw [if_pos hw]
  unfold Oper.wp
  rw [hx, Oper.upon_enter]
  refine hc.mono ?_
  rintro e w' ⟨rfl, hR⟩
  exact hK.out _ _ (hS w' hR) (h w' hR)
/-- a variable of the call's own is written whole -/
theorem takeS {i : Nat} {oi : Oper} {ty : TypeId} {cells old : Array Value} {b : Nat} {fuel : Nat} {listed : Array Bool} {a : Act} {w : World} (x y : Operand) (hi : ops[i]? = some oi) (hd : oi.dst = none) (ho : oi.op = .store ty x y)
    (hr : Region.ready md ops listed = [i]) (hw : Region.wanted oi (yielded ops a.tmps) = true) (hx : a.eval x = .pointer (some ⟨b, 0, none⟩)) (hy : a.eval y = .agg cells)
    (hg : w.heap[b]? = some (.cells old ty (0, 0))) (hz : (P.info? ty).map (·.size) = some cells.size) (hs : old.size = cells.size) (h1 : cells.all (·.oneCell') = true)
    (hS : ∀ w', w'.heap[b]? = some (.cells cells ty (0, 0)) → (∀ B, B ≤ b → Below B w w') → (∀ k, k ≠ b → w'.heap[k]? = w.heap[k]?) → S w')
    (h : ∀ w', w'.heap[b]? = some (.cells cells ty (0, 0)) → (∀ B, B ≤ b → Below B w w') → (∀ k, k ≠ b → w'.heap[k]? = w.heap[k]?) → S w' → wpAnyH P md ops Q S fuel (listed.setIfInBounds i true) (a.put none undef) w') :
    wpAnyH P md ops Q S (fuel + 1) listed a w := by
  refine wpAnyH_ready hr (by simp) (AllReadyH.cons hi (fun K hK => ?_) AllReadyH.nil)
  rw [if_pos hw]
  have hrun := run_storeVar_row (P := P) w b ty ty old cells hg hz hs h1
  have e1 := setRow_heap w b old cells ty (0, 0) hg
  have e2 : ∀ B, B ≤ b → Below B w (w.setRow b cells) := fun B hB => ⟨rfl, rfl, rfl, by simp [World.setRow], fun k hk => setRow_other w b k cells (by omega)⟩
  have e3 : ∀ k, k ≠ b → (w.setRow b cells).heap[k]? = w.heap[k]? := fun k hk => setRow_other w b k cells hk
  unfold Oper.wp execOp
  simp only [ho, hx, hy, Instr.storeAt, Instr.sureAddr, Sem.run_bind, Sem.run_pure, Result.andThen_ok, hrun]
  have := hK.out (a.put none undef) _ (hS _ e1 e2 e3) (h _ e1 e2 e3)
  rw [← hd] at this
  exact this
/-- of several that may come up: one that yields v at the world at hand -/
theorem consV {i : Nat} {oi : Oper} (d : Option Tmp) {v : Value} {rs : List Nat} {fuel : Nat} {listed : Array Bool} {a : Act} {w : World} (hi : ops[i]? = some oi) (hd : oi.dst = d)
    (hw : Region.wanted oi (yielded ops a.tmps) = true) (hx : (execOp a.eval oi).run P w = .ok (.value v) w) (hS : S w)
    (h : wpAnyH P md ops Q S fuel (listed.setIfInBounds i true) (a.put d v) w) (hs : AllReadyH P md ops Q S fuel listed a w rs) : AllReadyH P md ops Q S fuel listed a w (i :: rs) := by
  subst hd
  refine AllReadyH.cons hi (fun K hK => ?_) hs
  rw [if_pos hw]
  unfold Oper.wp
  rw [hx, Oper.upon_value]
  exact hK.out _ _ hS (fun _ => h)
/-- of several that may come up: a call -/
theorem consC {i : Nat} {oi : Oper} (d : Option Tmp) (f : FuncId) (args : Array Value) (v : Value) {R : World → Prop} {rs : List Nat} {fuel : Nat} {listed : Array Bool} {a : Act} {w : World} (hi : ops[i]? = some oi) (hd : oi.dst = d)
    (hw : Region.wanted oi (yielded ops a.tmps) = true) (hx : (execOp a.eval oi).run P w = .ok (.enter f args) w)
    (hc : Calls P f args w fun e w' => e = .returned v ∧ R w') (hS : ∀ w', R w' → S w')
    (h : ∀ w', R w' → S w' → wpAnyH P md ops Q S fuel (listed.setIfInBounds i true) (a.put d v) w') (hs : AllReadyH P md ops Q S fuel listed a w rs) : AllReadyH P md ops Q S fuel listed a w (i :: rs) := by
  subst hd
  refine AllReadyH.cons hi (fun K hK => ?_) hs
  rw [if_pos hw]
  unfold Oper.wp
  rw [hx, Oper.upon_enter]
  refine hc.mono ?_
  rintro e w' ⟨rfl, hR⟩
  exact hK.out _ _ (hS w' hR) (h w' hR)
/-- one cell is written -/
theorem takeW {i : Nat} {oi : Oper} {w' : World} {fuel : Nat} {listed : Array Bool} {a : Act} {w : World} (hi : ops[i]? = some oi) (hd : oi.dst = none)
    (hr : Region.ready md ops listed = [i]) (hw : Region.wanted oi (yielded ops a.tmps) = true) (hx : (execOp a.eval oi).run P w = .ok .skip w')
    (hS : S w') (h : wpAnyH P md ops Q S fuel (listed.setIfInBounds i true) (a.put none undef) w') : wpAnyH P md ops Q S (fuel + 1) listed a w := by
  refine wpAnyH_ready hr (by simp) (AllReadyH.cons hi (fun K hK => ?_) AllReadyH.nil)
  rw [if_pos hw]
  unfold Oper.wp
  rw [hx, Oper.upon_skip, hd]
  exact hK.out _ _ hS (fun _ => h)
end
end Go.Proofs.Ytcngkfmjngeofaa

/- More steps by hand: calls told with what they answer, stores into a block, loads of runs of cells; a value is equal to itself. Each theorem states its conditions. -/
namespace Go.Proofs.Ytcngkfmjngeofaa
open Go.RowKit
open Go.Extern.Stop (cell)
set_option linter.unusedVariables false

section
variable {P : Program} {ops : Array Oper} {Q : Exit → Act → World → Prop} {md : Region.Mode} {S : World → Prop}
/-- one alone may come up: it yields v and turns the world -/
theorem takeV {i : Nat} {oi : Oper} (d : Option Tmp) {v : Value} {w' : World} {fuel : Nat} {listed : Array Bool} {a : Act} {w : World} (hi : ops[i]? = some oi) (hd : oi.dst = d)
    (hr : Region.ready md ops listed = [i]) (hw : Region.wanted oi (yielded ops a.tmps) = true) (hx : (execOp a.eval oi).run P w = .ok (.value v) w')
    (hS : S w') (h : wpAnyH P md ops Q S fuel (listed.setIfInBounds i true) (a.put d v) w') : wpAnyH P md ops Q S (fuel + 1) listed a w := by
  subst hd
  refine wpAnyH_ready hr (by simp) (AllReadyH.cons hi (fun K hK => ?_) AllReadyH.nil)
  rw [if_pos hw]
  unfold Oper.wp
  rw [hx, Oper.upon_value]
  exact hK.out _ _ hS (fun _ => h)
/-- of several that may come up: one that yields v and turns the world -/
theorem consVW {i : Nat} {oi : Oper} (d : Option Tmp) {v : Value} {w' : World} {rs : List Nat} {fuel : Nat} {listed : Array Bool} {a : Act} {w : World} (hi : ops[i]? = some oi) (hd : oi.dst = d)
    (hw : Region.wanted oi (yielded ops a.tmps) = true) (hx : (execOp a.eval oi).run P w = .ok (.value v) w') (hS : S w')
    (h : wpAnyH P md ops Q S fuel (listed.setIfInBounds i true) (a.put d v) w') (hs : AllReadyH P md ops Q S fuel listed a w rs) : AllReadyH P md ops Q S fuel listed a w (i :: rs) := by
  subst hd
  refine AllReadyH.cons hi (fun K hK => ?_) hs
  rw [if_pos hw]
  unfold Oper.wp
  rw [hx, Oper.upon_value]
  exact hK.out _ _ hS (fun _ => h)
/-- a call alone may come up, told with what it answers -/
theorem takeCE {i : Nat} {oi : Oper} (d : Option Tmp) (f : FuncId) (args : Array Value) {R : Value → World → Prop} {fuel : Nat} {listed : Array Bool} {a : Act} {w : World} (hi : ops[i]? = some oi) (hd : oi.dst = d)
    (hr : Region.ready md ops listed = [i]) (hw : Region.wanted oi (yielded ops a.tmps) = true) (hx : (execOp a.eval oi).run P w = .ok (.enter f args) w)
    (hc : Calls P f args w fun e w' => ∃ v, e = .returned v ∧ R v w') (hS : ∀ v w', R v w' → S w')
    (h : ∀ v w', R v w' → S w' → wpAnyH P md ops Q S fuel (listed.setIfInBounds i true) (a.put d v) w') : wpAnyH P md ops Q S (fuel + 1) listed a w := by
  subst hd
  refine wpAnyH_ready hr (by simp) (AllReadyH.cons hi (fun K hK => ?_) AllReadyH.nil)
  rw [if_pos hw]
  unfold Oper.wp
  rw [hx, Oper.upon_enter]
  refine hc.mono ?_
  rintro e w' ⟨v, rfl, hR⟩
  exact hK.out _ _ (hS v w' hR) (h v w' hR)
/-- of several that may come up: a call, told with what it answers -/
theorem consCE {i : Nat} {oi : Oper} (d : Option Tmp) (f : FuncId) (args : Array Value) {R : Value → World → Prop} {rs : List Nat} {fuel : Nat} {listed : Array Bool} {a : Act} {w : World} (hi : ops[i]? = some oi) (hd : oi.dst = d)
    (hw : Region.wanted oi (yielded ops a.tmps) = true) (hx : (execOp a.eval oi).run P w = .ok (.enter f args) w)
    (hc : Calls P f args w fun e w' => ∃ v, e = .returned v ∧ R v w') (hS : ∀ v w', R v w' → S w')
    (h : ∀ v w', R v w' → S w' → wpAnyH P md ops Q S fuel (listed.setIfInBounds i true) (a.put d v) w') (hs : AllReadyH P md ops Q S fuel listed a w rs) : AllReadyH P md ops Q S fuel listed a w (i :: rs) := by
  subst hd
  refine AllReadyH.cons hi (fun K hK => ?_) hs
  rw [if_pos hw]
  unfold Oper.wp
  rw [hx, Oper.upon_enter]
  refine hc.mono ?_
  rintro e w' ⟨v, rfl, hR⟩
  exact hK.out _ _ (hS v w' hR) (h v w' hR)
end
def putMany (cur : Array Value) : Nat → List Value → Array Value
  | _, [] => cur
  | o, v :: r => putMany (cur.setIfInBounds o v) (o + 1) r
theorem heap_setMany (b : Nat) (t : TypeId) : ∀ (vs : List Value) (o : Nat) (w : World) (cur : Array Value), w.heap[b]? = some (.cells cur t (0, 0)) → (w.setCells b o vs).heap[b]? = some (.cells (putMany cur o vs) t (0, 0)) := by
  intro vs
  induction vs with
  | nil => intro o w cur h; exact h
  | cons v r ih =>
    intro o w cur h
    refine ih (o + 1) _ _ ?_
    simp [World.setCell, Array.getElem?_modify, h]
theorem below_setMany (b : Nat) : ∀ (vs : List Value) (o : Nat) (w : World) (B : Nat), B ≤ b → Below B w (w.setCells b o vs) := by
  intro vs
  induction vs with
  | nil => intro o w B _; exact Below.refl _ _
  | cons v r ih =>
    intro o w B hB
    exact ((Below.refl B w).setCell (p := ⟨b, o, none⟩) hB v).trans (ih (o + 1) _ B hB)
theorem other_setMany (b k : Nat) (hk : k ≠ b) : ∀ (vs : List Value) (o : Nat) (w : World), (w.setCells b o vs).heap[k]? = w.heap[k]? := by
  intro vs
  induction vs with
  | nil => intro o w; rfl
  | cons v r ih =>
    intro o w
    exact (ih (o + 1) _).trans (Below.heap_setCell w ⟨b, o, none⟩ v k hk)
/-- what a store into block b leaves -/
def Stored (w w' : World) (b : Nat) (C : Array Value) (t : TypeId) : Prop := w'.heap[b]? = some (.cells C t (0, 0)) ∧ (∀ B, B ≤ b → Below B w w') ∧ ∀ k, k ≠ b → w'.heap[k]? = w.heap[k]?
theorem run_store_blk (o : Oper) (e : Operand → Value) {w : World} (ty : TypeId) (x y : Operand) (ho : o.op = .store ty x y) (b off : Nat) (hx : e x = .pointer (some ⟨b, off, none⟩)) (v : Value) (cells : Array Value) (hy : e y = v) (hv : v.cells = cells)
    (hi : (Try.prog.info? ty).map (·.size) = some cells.size) (h1 : cells.all (·.oneCell') = true) {C C' : Array Value} {t : TypeId} (hg : w.heap[b]? = some (.cells C t (0, 0))) (hfit : off + cells.size ≤ C.size) (hC : putMany C off cells.toList = C') :
    ∃ w', (execOp e o).run Try.prog w = .ok .skip w' ∧ Stored w w' b C' t := by
  subst hC
  have hthere : ∀ j, j < cells.size → (w.cell? ⟨b, off + j, none⟩).isSome = true ∧ w.frozen? ⟨b, off + j, none⟩ = false := fun j hj => by
    refine ⟨?_, by simp [World.frozen?, hg]⟩
    rw [cell_of_row w b (off + j) _ _ _ hg, Array.getElem?_eq_getElem (by omega)]
    rfl
  have hrun : (storeVar ty ⟨b, off, none⟩ v).run Try.prog w = .ok () (w.setCells b off cells.toList) := by
    have := run_storeCells_cells (P := Try.prog) b off cells.toList 0 w (fun j hj => by simpa using (hthere j (by simpa using hj)).1) (fun j hj => by simpa using (hthere j (by simpa using hj)).2)
      (fun v hv => (Array.all_eq_true_iff_forall_mem.1 h1) v (by simpa using hv))
    cases hq : Try.prog.info? ty with
    | none => simp [hq] at hi
    | some i =>
      have hs : cells.size = i.size := by simp [hq] at hi; omega
      simp only [Nat.add_zero] at this
      simp [storeVar, sizeOf, typeInfo, hq, hv, hs, this]
  refine ⟨_, ?_, heap_setMany b t cells.toList off w C hg, fun B hB => below_setMany b _ off w B hB, fun k hk => other_setMany b k hk _ off w⟩
  unfold execOp
  simp only [ho, hx, hy, Instr.storeAt, Instr.sureAddr, Sem.run_bind, Sem.run_pure, Result.andThen_ok, hrun]
section
variable {ops : Array Oper} {Q : Exit → Act → World → Prop}
/-- a store, in the order of the text -/
theorem wpList_st {rest : List Oper} {op : Oper} {a : Act} {w : World} (hgd : op.guard = none) (ty : TypeId) (x y : Operand) (ho : op.op = .store ty x y) (b off : Nat) (hx : a.eval x = .pointer (some ⟨b, off, none⟩)) (v : Value) (cells : Array Value) (hy : a.eval y = v) (hv : v.cells = cells)
    (hi : (Try.prog.info? ty).map (·.size) = some cells.size) (h1 : cells.all (·.oneCell') = true) {C C' : Array Value} {t : TypeId} (hg : w.heap[b]? = some (.cells C t (0, 0))) (hfit : off + cells.size ≤ C.size) (hC : putMany C off cells.toList = C')
    (h : ∀ w', Stored w w' b C' t → wpList Try.prog ops Q rest (a.put op.dst undef) w') : wpList Try.prog ops Q (op :: rest) a w := by
  obtain ⟨w', hr, hs⟩ := run_store_blk op a.eval ty x y ho b off hx v cells hy hv hi h1 hg hfit hC
  refine wpList_plain hgd fun K hK => ?_
  unfold Oper.wp
  rw [hr, Oper.upon_skip]
  exact hK _ _ (h w' hs)
variable {md : Region.Mode} {S : World → Prop}
/-- a store, where it alone may come up -/
theorem takeSt {i : Nat} {oi : Oper} {fuel : Nat} {listed : Array Bool} {a : Act} {w : World} (ty : TypeId) (x y : Operand) (b off : Nat) (v : Value) (cells : Array Value) {C : Array Value} (C' : Array Value) {t : TypeId} (hi : ops[i]? = some oi) (hd : oi.dst = none)
    (hr : Region.ready md ops listed = [i]) (hw : Region.wanted oi (yielded ops a.tmps) = true) (ho : oi.op = .store ty x y) (hx : a.eval x = .pointer (some ⟨b, off, none⟩)) (hy : a.eval y = v) (hv : v.cells = cells)
    (hz : (Try.prog.info? ty).map (·.size) = some cells.size) (h1 : cells.all (·.oneCell') = true) (hg : w.heap[b]? = some (.cells C t (0, 0))) (hfit : off + cells.size ≤ C.size) (hC : putMany C off cells.toList = C')
    (h : ∀ w', Stored w w' b C' t → S w' ∧ wpAnyH Try.prog md ops Q S fuel (listed.setIfInBounds i true) (a.put none undef) w') : wpAnyH Try.prog md ops Q S (fuel + 1) listed a w := by
  obtain ⟨w', hx', hs⟩ := run_store_blk oi a.eval ty x y ho b off hx v cells hy hv hz h1 hg hfit hC
  exact takeW hi hd hr hw hx' (h w' hs).1 (h w' hs).2
end
section
variable {ops : Array Oper} {Q : Exit → Act → World → Prop}
/-- an operation that yields v -/
theorem wpList_v {rest : List Oper} {op : Oper} {a : Act} {w w' : World} (hgd : op.guard = none) (v : Value) (hx : (execOp a.eval op).run Try.prog w = .ok (.value v) w') (h : wpList Try.prog ops Q rest (a.put op.dst v) w') : wpList Try.prog ops Q (op :: rest) a w := by
  refine wpList_plain hgd fun K hK => ?_
  unfold Oper.wp
  rw [hx, Oper.upon_value]
  exact hK _ _ h
end
theorem load_rng (o : Oper) (e : Operand → Value) (ty : TypeId) (x : Operand) (ho : o.op = .load ty x) (b off : Nat) (hx : e x = .pointer (some ⟨b, off, none⟩)) (cs : List Value) (d : TypeDesc) {w : World} (hc : w.rangeAt b off cs) (hu : Try.prog.underlying ty = some d) (hd : d.isRow = true) (hi : (Try.prog.info? ty).map (·.size) = some cs.length) :
    (execOp e o).run Try.prog w = .ok (.value (.agg cs.toArray)) w := by
  unfold execOp
  simp only [ho, hx, Instr.loadAt, Instr.sureAddr, Sem.run_bind, Sem.run_pure, Result.andThen_ok, run_loadVar_mid w b off ty cs d hc hu hd hi]
/-- an operation that is wanted and yields v -/
theorem wpList_gv {ops : Array Oper} {Q : Exit → Act → World → Prop} {rest : List Oper} {op : Oper} {a : Act} {w w' : World} (v : Value) (hw : Region.wanted op (yielded ops a.tmps) = true) (hx : (execOp a.eval op).run Try.prog w = .ok (.value v) w') (h : wpList Try.prog ops Q rest (a.put op.dst v) w') : wpList Try.prog ops Q (op :: rest) a w := by
  refine wpList_step fun K hK => ?_
  rw [if_pos hw]
  unfold Oper.wp
  rw [hx, Oper.upon_value]
  exact hK _ _ h
/-- v is equal to itself -/
def SelfEq (d : Nat) (t : TypeId) (v : Value) : Prop := ∀ w, (Op.equalIn d t v v).run Try.prog w = .ok true w
theorem eqFields_self (d : Nat) (xs : Array Value) : ∀ fs : List Field, (∀ f ∈ fs, ∃ u, (∀ w, (part f.type xs f.offset).run Try.prog w = .ok u w) ∧ SelfEq d f.type u) → ∀ w, (Op.eqFields d xs xs fs).run Try.prog w = .ok true w := by
  intro fs
  induction fs with
  | nil => intro _ w; rfl
  | cons f fs ih =>
    intro h w
    obtain ⟨u, h1, h2⟩ := h f (List.mem_cons_self ..)
    have h3 := ih (fun g hg => h g (List.mem_cons_of_mem _ hg))
    unfold Op.eqFields
    by_cases hn : f.name ≠ "_"
    · rw [if_pos hn]
      simp only [Sem.run_bind, h1, Result.andThen_ok, h2 w]
      simpa using h3 w
    · rw [if_neg hn]
      exact h3 w
theorem self_struct (d : Nat) (t : TypeId) (xs : Array Value) (l : List (TypeId × Nat)) (ht : Try.prog.underlying t = some (.struct (Try.prog.fieldsOf t))) (hp : Try.prog.stoodInHeld t = false) (hl : (Try.prog.fieldsOf t).toList.map (fun f => (f.type, f.offset)) = l)
    (h : ∀ p ∈ l, ∃ u, (∀ w, (part p.1 xs p.2).run Try.prog w = .ok u w) ∧ SelfEq d p.1 u) : SelfEq (d + 1) t (.agg xs) := by
  intro w
  rw [run_equalIn_struct w d t xs xs ht hp]
  refine eqFields_self d xs _ (fun f hf => ?_) w
  exact h (f.type, f.offset) (by rw [← hl]; exact List.mem_map.2 ⟨f, hf, rfl⟩)
theorem self_int (d : Nat) (t : TypeId) (k : IntKind) (n : Int) (h : Try.prog.underlying t = some (.int k)) : SelfEq (d + 1) t (.int k n) := fun w => by rw [run_equalIn_int w d t k k n n h]; simp
theorem self_bool (d : Nat) (t : TypeId) (b : Bool) (h : Try.prog.underlying t = some .bool) : SelfEq (d + 1) t (.bool b) := fun w => by rw [run_equalIn_bool w d t b b h]; simp
theorem size_u8 : ∀ w, (sizeOf 5).run Try.prog w = .ok 1 w := by
  obtain ⟨i, hi, _, hz1, _⟩ := info_parts info_u8
  intro w
  simp [sizeOf, typeInfo, hi, hz1]
theorem vals_cells (z : Nat → Int) (n : Nat) (hz : ∀ j, 0 ≤ z j ∧ z j ≤ 255) : vals z n = (((List.range n).map fun j => UInt8.ofNat (z j).toNat).map cell) := by
  unfold vals
  rw [List.map_map]
  apply List.map_congr_left
  intro j _
  have := hz j
  simp [cell]
  omega
theorem self_bytes (d n : Nat) (t : TypeId) (z : Nat → Int) (hz : ∀ j, 0 ≤ z j ∧ z j ≤ 255) (h : Try.prog.underlying t = some (.array n 5)) : SelfEq (d + 2) t (.agg (vals z n).toArray) := by
  intro w
  rw [vals_cells z n hz]
  rw [run_equalIn_bytes w d t 5 n h Try.underlying5 size_u8 _ _ (by simp) (by simp)]
  simp

/-- != of a value with itself, as an operation -/
theorem neq_self (o : Oper) (e : Operand → Value) (x y : Operand) (t t' : TypeId) (ho : o.op = .binOp .neq t x y t') (htt : t = t') (hg : Try.prog.eqGuardType Try.prog.depth t = false) (xs : Array Value) (hs : SelfEq 10000 t (.agg xs)) (h0 : e x = .agg xs) (h1 : e y = .agg xs) (W : World) :
    (execOp e o).run Try.prog W = .ok (.value (.bool false)) W := by
  subst htt
  unfold execOp
  simp only [ho, h0, h1]
  simp [Sem.run_bind, run_eqGuard_agg _ _ _ _ _ _ _ hg, run_neq_struct, hs W]
theorem eql_self (o : Oper) (e : Operand → Value) (x y : Operand) (t t' : TypeId) (ho : o.op = .binOp .eql t x y t') (htt : t = t') (hg : Try.prog.eqGuardType Try.prog.depth t = false) (xs : Array Value) (hs : SelfEq 10000 t (.agg xs)) (h0 : e x = .agg xs) (h1 : e y = .agg xs) (W : World) :
    (execOp e o).run Try.prog W = .ok (.value (.bool true)) W := by
  subst htt
  unfold execOp
  simp only [ho, h0, h1]
  simp [Sem.run_bind, run_eqGuard_agg _ _ _ _ _ _ _ hg, run_eql_struct, hs W]
end Go.Proofs.Ytcngkfmjngeofaa

/- SameBytes answers true where nothing was turned. Each theorem states its conditions. -/
namespace Go.Proofs.Ytcngkfmjngeofaa
open Go.RowKit
set_option linter.unusedVariables false

theorem same_yes (A B : Option Addr) (n c d : Nat) (z z' : Nat → Int) (w : World) (ha : Rd w A n z) (hb : Rd w B n z') (he : ∀ j, j < n → z j = z' j) (hm : n ≤ 9223372036854775807) :
    Calls Try.prog 22 #[.slice A n c, .slice B n d] w fun e w' => e = .returned (.bool true) ∧ ∃ m, w' = w.drewN m := by
  rcases Nat.eq_zero_or_pos n with rfl | hn
  · clear ha hb he
    go_enter Try.func22, Try.ntmps22
    go_wp2
    refine wp_loop_rounds 1 ?_
    rw [rounds_succ]
    go_wp2
    go_ret
    exact ⟨rfl, 0, rfl⟩
  · obtain ⟨b, off, rfl, hr⟩ := ha.row hn
    obtain ⟨b', off', rfl, hr'⟩ := hb.row hn
    have hc := hr.2.1
    have hc' := hr'.2.1
    have HE := Lib.hid he
    clear ha hb hr hr' he
    go_enter Try.func22, Try.ntmps22
    go_wp2
    go_loopw [13] (fun t wr => ∃ k m : Nat, k ≤ n ∧ t = .int .i64 k ∧ wr = w.drewN m) (fun t _ => n - (intOf t).toNat)
    case atStart => exact ⟨0, 0, by omega, rfl, rfl⟩
    case round =>
      obtain ⟨k, m, hk, rfl, rfl⟩ := hrel
      by_cases hlt : k < n
      · have g1 := hc k hlt
        have g2 := hc' k hlt
        rw [← HE.out k hlt] at g2
        generalize z k = v at *
        clear hc hc'
        go_wp2
        go_region
        go_wp2
        go_roundw
        case rel => exact ⟨k + 1, m + 1, by omega, by go_num, rfl⟩
        case measure => simp [intOf]; omega
      · obtain rfl : k = n := by omega
        go_wp2
        go_ret
        exact ⟨rfl, m, rfl⟩

end Go.Proofs.Ytcngkfmjngeofaa

/- Lists of rows of bytes that a call reads or makes: what is known of them. Each theorem states its conditions. -/
namespace Go.Proofs.Ytcngkfmjngeofaa
open Go.RowKit
set_option linter.unusedVariables false

/-- one of a list: where it lies, how many bytes, the room, the bytes -/
structure Sl where
  A : Option Addr
  n : Nat
  c : Nat
  z : Nat → Int
def SlOk (w : World) (t : Sl) : Prop := Rd w t.A t.n t.z ∧ (t.A = none → t.n = 0 ∧ t.c = 0) ∧ t.n ≤ 140737488351232
/-- m of them, from ⟨b, off⟩ on -/
def RowS (w : World) (b off m : Nat) (L : Nat → Sl) : Prop :=
  b < w.heap.size ∧ ∀ j, j < m → w.cell? ⟨b, off + j, none⟩ = some (.slice (L j).A (L j).n (L j).c) ∧ SlOk w (L j)
/-- a list that can be read -/
def RdS (w : World) (A : Option Addr) (m : Nat) (L : Nat → Sl) : Prop := m = 0 ∨ ∃ b off, A = some ⟨b, off, none⟩ ∧ RowS w b off m L
theorem SlOk.below {w w' : World} {t : Sl} (h : SlOk w t) (hb : Below w.heap.size w w') : SlOk w' t := ⟨h.1.below hb rfl, h.2⟩
theorem RowS.below {w w' : World} {b off m : Nat} {L : Nat → Sl} (h : RowS w b off m L) (hb : Below w.heap.size w w') : RowS w' b off m L := by
  refine ⟨?_, fun j hj => ?_⟩
  · have := hb.size; have := h.1; omega
  · obtain ⟨h1, h3⟩ := h.2 j hj
    exact ⟨(hb.cell (p := ⟨b, off + j, none⟩) h.1).trans h1, h3.below hb⟩
theorem RdS.below {w w' : World} {A : Option Addr} {m : Nat} {L : Nat → Sl} (h : RdS w A m L) (hb : Below w.heap.size w w') : RdS w' A m L := by
  rcases h with h | ⟨b, off, rfl, h⟩
  · exact .inl h
  · exact .inr ⟨b, off, rfl, h.below hb⟩
theorem RdS.row {w : World} {A : Option Addr} {m : Nat} {L : Nat → Sl} (h : RdS w A m L) (hm : 0 < m) : ∃ b off, A = some ⟨b, off, none⟩ ∧ RowS w b off m L := by
  rcases h with h | h
  · omega
  · exact h
theorem RdS.cut {w : World} {A : Option Addr} {m k : Nat} {L : Nat → Sl} (h : RdS w A m L) (hk : k ≤ m) : RdS w A k L := by
  rcases h with h | ⟨b, off, rfl, h⟩
  · exact .inl (by omega)
  · exact .inr ⟨b, off, rfl, h.1, fun j hj => h.2 j (by omega)⟩
theorem Rd.draws {w : World} {A : Option Addr} {n : Nat} {z : Nat → Int} (h : Rd w A n z) (k : Nat) : Rd (w.drewN k) A n z := h

/-- alike bytes -/
def sameS (a b : Sl) : Prop := a.n = b.n ∧ ∀ i, i < a.n → a.z i = b.z i
theorem sameS.symm {a b : Sl} (h : sameS a b) : sameS b a := ⟨h.1.symm, fun i hi => (h.2 i (by have := h.1; omega)).symm⟩
theorem sameS.trans {a b c : Sl} (h : sameS a b) (h' : sameS b c) : sameS a c := ⟨h.1.trans h'.1, fun i hi => (h.2 i hi).trans (h'.2 i (by have := h.1; omega))⟩

set_option maxHeartbeats 1000000 in
theorem sameAreas_yes (A B : Option Addr) (m c d : Nat) (L L' : Nat → Sl) (w : World) (ha : RdS w A m L) (hb : RdS w B m L')
    (he : ∀ j, j < m → sameS (L j) (L' j)) (hm : m ≤ 9223372036854775807) :
    Calls Try.prog 15 #[.slice A m c, .slice B m d] w fun e w' => e = .returned (.bool true) ∧ ∃ k, w' = w.drewN k := by
  rcases Nat.eq_zero_or_pos m with rfl | hn
  · clear ha hb he
    go_enter Try.func15, Try.ntmps15
    go_wp2
    refine wp_loop_rounds 1 ?_
    rw [rounds_succ]
    go_wp2
    go_ret
    exact ⟨rfl, 0, rfl⟩
  · obtain ⟨b, off, rfl, hr⟩ := ha.row hn
    obtain ⟨b', off', rfl, hr'⟩ := hb.row hn
    have HR := Lib.hid hr
    have HR' := Lib.hid hr'
    have HE := Lib.hid he
    clear ha hb hr hr' he
    go_enter Try.func15, Try.ntmps15
    go_wp2
    go_loopw [13] (fun t wr => ∃ k r : Nat, k ≤ m ∧ t = .int .i64 k ∧ Hid (wr = w.drewN r)) (fun t _ => m - (intOf t).toNat)
    case atStart => exact ⟨0, 0, by omega, rfl, Lib.hid rfl⟩
    case round =>
      obtain ⟨k, r, hk, rfl, hw⟩ := hrel
      by_cases hlt : k < m
      · have h1 : RowS wr b off m L := by rw [hw.out]; exact HR.out
        have h2 : RowS wr b' off' m L' := by rw [hw.out]; exact HR'.out
        obtain ⟨g1, g3⟩ := h1.2 k hlt
        obtain ⟨g1', g3'⟩ := h2.2 k hlt
        obtain ⟨e2, e3⟩ := HE.out k hlt
        have H := Lib.hid (fun (q : Nat) c d => same_yes (L k).A (L' k).A (L k).n c d (L k).z (L' k).z (wr.drewN q) (Rd.draws g3.1 q) (Rd.draws (by rw [e2]; exact g3'.1) q) e3 (by have := g3.2.2; omega))
        rw [← e2] at g1'
        clear h1 h2 e2 e3 g3 g3'
        go_wp2_with fail
        go_quiet (first | (go_at_call 22; exact Calls.quiet_of (H.out _ _ _)))
        go_wp2
        go_roundw
        case rel => exact ⟨k + 1, r + nq, by omega, by go_num, Lib.hid (by rw [hw.out, World.drewN_drewN])⟩
        case measure => simp [intOf]; omega
      · obtain rfl : k = m := by omega
        go_wp2
        go_ret
        exact ⟨rfl, r, hw.out⟩

/-- the cells of the first m -/
def cellsS (L : Nat → Sl) : Nat → List Value
  | 0 => []
  | m + 1 => cellsS L m ++ [.slice (L m).A (L m).n (L m).c]
theorem cellsS_len (L : Nat → Sl) (m : Nat) : (cellsS L m).length = m := by
  induction m with
  | zero => rfl
  | succ m ih => simp [cellsS, ih]
theorem cellsS_at (L : Nat → Sl) (m j : Nat) (h : j < m) : (cellsS L m)[j]? = some (.slice (L j).A (L j).n (L j).c) := by
  induction m with
  | zero => omega
  | succ m ih =>
    have hl := cellsS_len L m
    simp only [cellsS]
    by_cases e : j = m
    · subst e
      rw [List.getElem?_append_right (by omega), hl]
      simp
    · rw [List.getElem?_append_left (by omega)]
      exact ih (by omega)
/-- item k is another one -/
def updS (L : Nat → Sl) (k : Nat) (t : Sl) : Nat → Sl := fun j => if j = k then t else L j
theorem updS_same (L : Nat → Sl) (k : Nat) (t : Sl) : updS L k t k = t := by simp [updS]
theorem updS_other (L : Nat → Sl) (k j : Nat) (t : Sl) (h : j ≠ k) : updS L k t j = L j := by simp [updS, h]
theorem cellsS_congr (L L' : Nat → Sl) (m : Nat) (h : ∀ j, j < m → (L j).A = (L' j).A ∧ (L j).n = (L' j).n ∧ (L j).c = (L' j).c) : cellsS L m = cellsS L' m := by
  induction m with
  | zero => rfl
  | succ m ih =>
    obtain ⟨h2, h3, h4⟩ := h m (by omega)
    simp only [cellsS, h2, h3, h4]
    rw [ih (fun j hj => h j (by omega))]
theorem cellsS_push (L : Nat → Sl) (k : Nat) (t : Sl) : cellsS (updS L k t) (k + 1) = cellsS L k ++ [.slice t.A t.n t.c] := by
  simp only [cellsS, updS_same]
  rw [cellsS_congr (updS L k t) L k (fun j hj => by rw [updS_other _ _ _ _ (by omega)]; exact ⟨rfl, rfl, rfl⟩)]
/-- a value of the call's own: none, or its bytes lie in a block of the call's own -/
def OwnV (w : World) (base : Nat) (t : Sl) : Prop :=
  t.n ≤ 140737488351232 ∧ ((t.A = none ∧ t.n = 0 ∧ t.c = 0 ∧ ∀ j, 0 ≤ t.z j ∧ t.z j ≤ 255) ∨ ∃ g, t.A = some ⟨g, 0, none⟩ ∧ base ≤ g ∧ Own8 w g t.n t.c t.z)
/-- a list of the call's own -/
def OwnS (w : World) (base : Nat) (v : Value) (m : Nat) (L : Nat → Sl) : Prop :=
  w.ownsRow base 49 1 v m (cellsS L m) ∧ ∀ j, j < m → OwnV w base (L j)
section
variable {w w' : World} {base m : Nat} {v : Value} {L : Nat → Sl} {t : Sl}
theorem OwnV.below (h : OwnV w base t) (hb : Below w.heap.size w w') : OwnV w' base t := by
  obtain ⟨h2, h | ⟨g, h3, h4, h5⟩⟩ := h
  · exact ⟨h2, .inl h⟩
  · exact ⟨h2, .inr ⟨g, h3, h4, h5.below hb h5.lt⟩⟩
theorem OwnV.ok (h : OwnV w base t) : SlOk w t := by
  obtain ⟨h2, ⟨h, h1, h3, h4⟩ | ⟨g, h3, h4, h5⟩⟩ := h
  · exact ⟨⟨.inl h1, h4⟩, fun _ => ⟨h1, h3⟩, h2⟩
  · refine ⟨⟨.inr ⟨g, 0, h3, h5.row⟩, h5.2⟩, fun e => ?_, h2⟩
    rw [h3] at e; cases e
theorem ownsRow_below {e : TypeId} {s : Nat} {xs : List Value} (h : w.ownsRow base e s v m xs) (hb : Below w.heap.size w w') : w'.ownsRow base e s v m xs := by
  refine ⟨h.1, ?_⟩
  rcases h.2 with h | ⟨g, cap, cur, hv, hg, hc, r⟩
  · exact .inl h
  · exact .inr ⟨g, cap, cur, hv, hg, (hb.block g (Array.getElem?_eq_some_iff.1 hc).1).trans hc, r⟩
theorem OwnS.below (h : OwnS w base v m L) (hb : Below w.heap.size w w') : OwnS w' base v m L :=
  ⟨ownsRow_below h.1 hb, fun j hj => (h.2 j hj).below hb⟩
theorem OwnS.nil (w : World) (base : Nat) (L : Nat → Sl) : OwnS w base (.slice none 0 0) 0 L := ⟨World.ownsRow_nil _ _ _ _, fun j hj => by omega⟩
theorem ownV_grown {v' : Value} {xs : List Value} {n : Nat} (h : OwnV w base t) (hr : w.ownsRow base 49 1 v n xs) (hg : w.grownBy w' v.ownBlock) : OwnV w' base t := by
  obtain ⟨h2, h | ⟨g, h3, h4, h5⟩⟩ := h
  · exact ⟨h2, .inl h⟩
  refine ⟨h2, .inr ⟨g, h3, h4, h5.grown hg ?_⟩⟩
  intro e
  obtain ⟨⟨cur, hc, _⟩, _⟩ := h5
  rcases hr.2 with ⟨rfl, _⟩ | ⟨g', cap, cur', rfl, _, hc', _⟩
  · cases e
  · simp [Value.ownBlock] at e
    subst e
    rw [hc] at hc'
    simp at hc'
/-- behind an append of one more -/
theorem OwnS.push {v' : Value} {k : Nat} (h : OwnS w base v k L) (ht : OwnV w base t) (hr : w'.ownsRow base 49 1 v' (k + 1) (cellsS L k ++ [.slice t.A t.n t.c])) (hg : w.grownBy w' v.ownBlock) :
    OwnS w' base v' (k + 1) (updS L k t) := by
  refine ⟨by rw [cellsS_push]; exact hr, fun j hj => ?_⟩
  by_cases e : j = k
  · subst e
    rw [updS_same]
    exact ownV_grown (v' := v') ht h.1 hg
  · rw [updS_other _ _ _ _ e]
    exact ownV_grown (v' := v') (h.2 j (by omega)) h.1 hg
theorem OwnS.shape (h : OwnS w base v m L) : ∃ A c, v = .slice A m c ∧ m ≤ c ∧ c ≤ maxLen ∧ (A = none → m = 0 ∧ c = 0) ∧ RdS w A m L := by
  have hi : ∀ j, j < m → SlOk w (L j) := fun j hj => (h.2 j hj).ok
  rcases h.1.2 with ⟨rfl, rfl⟩ | ⟨g, cap, cur, rfl, hb, hc, h1, h2, h3, h4⟩
  · exact ⟨none, 0, rfl, Nat.le_refl _, by decide, fun _ => ⟨rfl, rfl⟩, .inl rfl⟩
  · refine ⟨some ⟨g, 0, none⟩, cap, rfl, h1, h2, fun e => (by cases e), .inr ⟨g, 0, rfl, (Array.getElem?_eq_some_iff.1 hc).1, fun j hj => ⟨?_, hi j hj⟩⟩⟩
    have hx := cellsS_at L m j hj
    rw [← h4] at hx
    rw [List.getElem?_take, if_pos (by omega)] at hx
    rw [Nat.zero_add, cell_of_row w g _ cur _ (0, 0) hc]; simpa using hx
end
theorem info_sl : (Try.prog.info? 49).map (fun i => (i.zero, i.size, i.bytes)) = some (some (.slice none 0 0), 1, 24) := by kernel_rfl
end Go.Proofs.Ytcngkfmjngeofaa

/- The sides, hellos and adjacencies as cells; what lies in a block; steps in the order of the text that make or read a block. Each theorem states its conditions. -/
namespace Go.Proofs.Ytcngkfmjngeofaa
open Go.RowKit
set_option linter.unusedVariables false

/-- six bytes -/
def syC (z : Nat → Int) : Array Value := #[.int .u8 (z 0), .int .u8 (z 1), .int .u8 (z 2), .int .u8 (z 3), .int .u8 (z 4), .int .u8 (z 5)]
/-- a side: its name, number, level, areas -/
structure Lo where
  s : Nat → Int
  nu : Int
  lv : Int
  A : Option Addr
  m : Nat
  c : Nat
/-- an adjacency -/
structure Aj where
  st : Int
  p : Nat → Int
  nu : Int
  lv : Int
  un : Int
/-- a hello -/
structure He where
  s : Nat → Int
  nu : Int
  lv : Int
  ho : Int
  A : Option Addr
  m : Nat
  c : Nat
  st : Int
  nm : Bool
  th : Nat → Int
  tn : Int
def loC (l : Lo) : Array Value := #[.int .u8 (l.s 0), .int .u8 (l.s 1), .int .u8 (l.s 2), .int .u8 (l.s 3), .int .u8 (l.s 4), .int .u8 (l.s 5), .int .u8 l.nu, .int .i64 l.lv, .slice l.A l.m l.c]
def ajC (a : Aj) : Array Value := #[.int .i64 a.st, .int .u8 (a.p 0), .int .u8 (a.p 1), .int .u8 (a.p 2), .int .u8 (a.p 3), .int .u8 (a.p 4), .int .u8 (a.p 5), .int .u8 a.nu, .int .i64 a.lv, .int .i64 a.un]
def heC (h : He) : Array Value := #[.int .u8 (h.s 0), .int .u8 (h.s 1), .int .u8 (h.s 2), .int .u8 (h.s 3), .int .u8 (h.s 4), .int .u8 (h.s 5), .int .u8 h.nu, .int .i64 h.lv, .int .i64 h.ho, .slice h.A h.m h.c, .int .i64 h.st, .bool h.nm,
  .int .u8 (h.th 0), .int .u8 (h.th 1), .int .u8 (h.th 2), .int .u8 (h.th 3), .int .u8 (h.th 4), .int .u8 (h.th 5), .int .u8 h.tn]
def z0 : Nat → Int := fun _ => 0
def lo0 : Lo := ⟨z0, 0, 0, none, 0, 0⟩
def aj0 : Aj := ⟨0, z0, 0, 0, 0⟩
def ajD : Aj := ⟨2, z0, 0, 0, 0⟩
def he0 : He := ⟨z0, 0, 0, 0, none, 0, 0, 0, false, z0, 0⟩
theorem loC_one (l : Lo) : (loC l).all (·.oneCell') = true := by kernel_rfl
theorem ajC_one (l : Aj) : (ajC l).all (·.oneCell') = true := by kernel_rfl
theorem heC_one (l : He) : (heC l).all (·.oneCell') = true := by kernel_rfl
theorem syC_one (z : Nat → Int) : (syC z).all (·.oneCell') = true := by kernel_rfl
theorem info_sys : (Try.prog.info? 23).map (·.size) = some 6 := by kernel_rfl
theorem info_loP : (Try.prog.info? 32).map (·.size) = some 9 := by kernel_rfl
theorem info_loR : (Try.prog.info? 26).map (·.size) = some 9 := by kernel_rfl
theorem info_ajP : (Try.prog.info? 36).map (·.size) = some 10 := by kernel_rfl
theorem info_ajR : (Try.prog.info? 28).map (·.size) = some 10 := by kernel_rfl
theorem info_heP : (Try.prog.info? 34).map (·.size) = some 19 := by kernel_rfl
theorem info_heR : (Try.prog.info? 30).map (·.size) = some 19 := by kernel_rfl

/-- block g is of type t and has these cells -/
def Blk (t : TypeId) (w : World) (g : Nat) (C : Array Value) : Prop := w.heap[g]? = some (.cells C t (0, 0))
section
variable {t : TypeId} {w w' : World} {g : Nat} {C : Array Value}
theorem Blk.lt (h : Blk t w g C) : g < w.heap.size := (Array.getElem?_eq_some_iff.1 h).1
theorem Blk.below {B : Nat} (h : Blk t w g C) (hb : Below B w w') (hB : g < B) : Blk t w' g C := (hb.block g hB).trans h
theorem Blk.cell (h : Blk t w g C) (i : Nat) : w.cell? ⟨g, i, none⟩ = C[i]? := cell_of_row w g i _ _ _ h
theorem Blk.range (h : Blk t w g C) {o : Nat} {cs : List Value} (hs : ∀ j, j < cs.length → C[o + j]? = cs[j]?) : w.rangeAt g o cs := by
  intro j u hj
  rw [cell_of_row w g (o + j) _ _ _ h, hs j ?_]
  · exact hj
  · rcases Nat.lt_or_ge j cs.length with h1 | h1
    · exact h1
    · rw [List.getElem?_eq_none h1] at hj; cases hj
theorem Blk.all (h : Blk t w g C) : w.rangeAt g 0 C.toList := h.range fun j hj => by rw [Nat.zero_add, Array.getElem?_toList]
theorem Blk.far {b : Nat} {C' : Array Value} {u : TypeId} (h : Blk t w g C) (hs : Stored w w' b C' u) (hk : g ≠ b) : Blk t w' g C := (hs.2.2 g hk).trans h
theorem six {P : Nat → Prop} (h : P 0 ∧ P 1 ∧ P 2 ∧ P 3 ∧ P 4 ∧ P 5) (j : Nat) (hj : j < 6) : P j := by
  rcases (by omega : j = 0 ∨ j = 1 ∨ j = 2 ∨ j = 3 ∨ j = 4 ∨ j = 5) with rfl | rfl | rfl | rfl | rfl | rfl <;> simp_all
theorem Blk.los {l : Lo} (h : Blk t w g (loC l)) : w.rangeAt g 0 (syC l.s).toList := h.range (six ⟨rfl, rfl, rfl, rfl, rfl, rfl⟩)
theorem Blk.ajp {l : Aj} (h : Blk t w g (ajC l)) : w.rangeAt g 1 (syC l.p).toList := h.range (six ⟨rfl, rfl, rfl, rfl, rfl, rfl⟩)
theorem Blk.hes {l : He} (h : Blk t w g (heC l)) : w.rangeAt g 0 (syC l.s).toList := h.range (six ⟨rfl, rfl, rfl, rfl, rfl, rfl⟩)
theorem Blk.het {l : He} (h : Blk t w g (heC l)) : w.rangeAt g 12 (syC l.th).toList := h.range (six ⟨rfl, rfl, rfl, rfl, rfl, rfl⟩)
end
/-- a value is put into a new block -/
theorem box_run (o : Oper) (e : Operand → Value) (t : TypeId) (x : Operand) (ho : o.op = .box t x) (C : Array Value) (hx : e x = .agg C) (W : World) :
    (execOp e o).run Try.prog W = .ok (.value (.pointer (some ⟨W.heap.size, 0, none⟩))) (W.alloc (.cells C t)) := by
  unfold execOp
  simp only [ho, hx]
  rfl
theorem alloc_run (o : Oper) (e : Operand → Value) (t : TypeId) (ho : o.op = .alloc t) (C : Array Value) (hz : (Try.prog.info? t).map (·.zero) = some (some (.agg C))) (W : World) :
    (execOp e o).run Try.prog W = .ok (.value (.pointer (some ⟨W.heap.size, 0, none⟩))) (W.alloc (.cells C t)) := by
  unfold execOp
  simp only [ho]
  cases hq : Try.prog.info? t with
  | none => rw [hq] at hz; cases hz
  | some i =>
    rw [hq] at hz
    have hz' : i.zero = some (.agg C) := by simpa using hz
    simp [Instr.alloc, zeroValue, typeInfo, hq, hz', go_sem]
section
variable {ops : Array Oper} {Q : Exit → Act → World → Prop}
/-- a new block, in the order of the text -/
theorem wpList_mk {rest : List Oper} {op : Oper} {a : Act} {w : World} (hgd : op.guard = none) (t : TypeId) (C : Array Value) (hx : (execOp a.eval op).run Try.prog w = .ok (.value (.pointer (some ⟨w.heap.size, 0, none⟩))) (w.alloc (.cells C t)))
    (N : Nat) (hN : w.heap.size = N) (h : ∀ w', Blk t w' N C → Below w.heap.size w w' → N + 1 ≤ w'.heap.size → wpList Try.prog ops Q rest (a.put op.dst (.pointer (some ⟨N, 0, none⟩))) w') : wpList Try.prog ops Q (op :: rest) a w := by
  subst hN
  refine wpList_plain hgd fun K hK => ?_
  unfold Oper.wp
  rw [hx, Oper.upon_value]
  exact hK _ _ (h _ (heap_alloc_new w _) ((Below.refl _ _).alloc (Nat.le_refl _) _) (by simp))
theorem wpList_box {rest : List Oper} {op : Oper} {a : Act} {w : World} (hgd : op.guard = none) (t : TypeId) (x : Operand) (ho : op.op = .box t x) (C : Array Value) (hx : a.eval x = .agg C)
    (N : Nat) (hN : w.heap.size = N) (h : ∀ w', Blk t w' N C → Below w.heap.size w w' → N + 1 ≤ w'.heap.size → wpList Try.prog ops Q rest (a.put op.dst (.pointer (some ⟨N, 0, none⟩))) w') : wpList Try.prog ops Q (op :: rest) a w :=
  wpList_mk hgd t C (box_run op a.eval t x ho C hx w) N hN h
theorem wpList_new {rest : List Oper} {op : Oper} {a : Act} {w : World} (hgd : op.guard = none) (t : TypeId) (ho : op.op = .alloc t) (C : Array Value) (hz : (Try.prog.info? t).map (·.zero) = some (some (.agg C)))
    (N : Nat) (hN : w.heap.size = N) (h : ∀ w', Blk t w' N C → Below w.heap.size w w' → N + 1 ≤ w'.heap.size → wpList Try.prog ops Q rest (a.put op.dst (.pointer (some ⟨N, 0, none⟩))) w') : wpList Try.prog ops Q (op :: rest) a w :=
  wpList_mk hgd t C (alloc_run op a.eval t ho C hz w) N hN h
/-- a run of cells is read, in the order of the text -/
theorem wpList_ld {rest : List Oper} {op : Oper} {a : Act} {w : World} (hw : Region.wanted op (yielded ops a.tmps) = true) (ty : TypeId) (x : Operand) (ho : op.op = .load ty x) (b off : Nat) (hx : a.eval x = .pointer (some ⟨b, off, none⟩)) (cs : Array Value) (d : TypeDesc) (hc : w.rangeAt b off cs.toList) (hu : Try.prog.underlying ty = some d) (hd : d.isRow = true) (hi : (Try.prog.info? ty).map (·.size) = some cs.toList.length)
    (h : wpList Try.prog ops Q rest (a.put op.dst (.agg cs)) w) : wpList Try.prog ops Q (op :: rest) a w :=
  wpList_gv (.agg cs) hw (by have := load_rng op a.eval ty x ho b off hx cs.toList d hc hu hd hi; simpa using this) h
end
/-- a new block, where it alone may come up -/
theorem takeMk {ops : Array Oper} {Q : Exit → Act → World → Prop} {md : Region.Mode} {S : World → Prop} {i : Nat} {oi : Oper} (d : Option Tmp) {fuel : Nat} {listed : Array Bool} {a : Act} {w : World} (t : TypeId) (C : Array Value) (hi : ops[i]? = some oi) (hd : oi.dst = d)
    (hr : Region.ready md ops listed = [i]) (hw : Region.wanted oi (yielded ops a.tmps) = true) (ho : oi.op = .alloc t) (hz : (Try.prog.info? t).map (·.zero) = some (some (.agg C))) (N : Nat) (hN : w.heap.size = N)
    (h : ∀ w', Blk t w' N C → Below w.heap.size w w' → N + 1 ≤ w'.heap.size → S w' ∧ wpAnyH Try.prog md ops Q S fuel (listed.setIfInBounds i true) (a.put d (.pointer (some ⟨N, 0, none⟩))) w') : wpAnyH Try.prog md ops Q S (fuel + 1) listed a w := by
  subst hN
  obtain ⟨h1, h2⟩ := h _ (heap_alloc_new w _) ((Below.refl _ _).alloc (Nat.le_refl _) _) (by simp)
  exact takeV d hi hd hr hw (alloc_run oi a.eval t ho C hz w) h1 h2
/-- of several that may come up: a new block -/
theorem consMk {ops : Array Oper} {Q : Exit → Act → World → Prop} {md : Region.Mode} {S : World → Prop} {i : Nat} {oi : Oper} (d : Option Tmp) {rs : List Nat} {fuel : Nat} {listed : Array Bool} {a : Act} {w : World} (t : TypeId) (C : Array Value) (hi : ops[i]? = some oi) (hd : oi.dst = d)
    (hw : Region.wanted oi (yielded ops a.tmps) = true) (ho : oi.op = .alloc t) (hz : (Try.prog.info? t).map (·.zero) = some (some (.agg C))) (N : Nat) (hN : w.heap.size = N)
    (h : ∀ w', Blk t w' N C → Below w.heap.size w w' → N + 1 ≤ w'.heap.size → S w' ∧ wpAnyH Try.prog md ops Q S fuel (listed.setIfInBounds i true) (a.put d (.pointer (some ⟨N, 0, none⟩))) w') (hs : AllReadyH Try.prog md ops Q S fuel listed a w rs) : AllReadyH Try.prog md ops Q S fuel listed a w (i :: rs) := by
  subst hN
  obtain ⟨h1, h2⟩ := h _ (heap_alloc_new w _) ((Below.refl _ _).alloc (Nat.le_refl _) _) (by simp)
  exact consVW d hi hd hw (alloc_run oi a.eval t ho C hz w) h1 h2 hs
theorem zero_ajP : (Try.prog.info? 36).map (·.zero) = some (some (.agg (ajC aj0))) := by kernel_rfl
theorem zero_ajR : (Try.prog.info? 28).map (·.zero) = some (some (.agg (ajC aj0))) := by kernel_rfl
theorem zero_loP : (Try.prog.info? 32).map (·.zero) = some (some (.agg (loC lo0))) := by kernel_rfl
theorem zero_heP : (Try.prog.info? 34).map (·.zero) = some (some (.agg (heC he0))) := by kernel_rfl
theorem zero_heR : (Try.prog.info? 30).map (·.zero) = some (some (.agg (heC he0))) := by kernel_rfl
/-- a result that lies in a block -/
theorem results_1 {fn : Func} {q : Tmp} {t : TypeId} (h : fn.results = #[.cell q t]) (tmps : Array Value) (W : World) (g : Nat) (C : Array Value) {d : TypeDesc} (hu : Try.prog.underlying t = some d) (hd : d.isRow = true) (hi : (Try.prog.info? t).map (·.size) = some C.size)
    (hp : tmps.getD q undef = .pointer (some ⟨g, 0, none⟩)) (hg : Blk t W g C) : (results fn tmps).run Try.prog W = .ok (.agg C) W := by
  have h1 := run_loadVar_mid (P := Try.prog) W g 0 t C.toList _ hg.all hu hd (by simpa using hi)
  have hp' : (tmps[q]?).getD undef = .pointer (some ⟨g, 0, none⟩) := by simpa using hp
  simp only [results, h]
  simp [hp', asAddr, h1]
theorem results_2 {fn : Func} {q r : Tmp} {t : TypeId} (h : fn.results = #[.cell q t, .tmp r]) (tmps : Array Value) (W : World) (g : Nat) (C : Array Value) (v : Value) {d : TypeDesc} (hu : Try.prog.underlying t = some d) (hd : d.isRow = true) (hi : (Try.prog.info? t).map (·.size) = some C.size)
    (hp : tmps.getD q undef = .pointer (some ⟨g, 0, none⟩)) (hr : tmps.getD r undef = v) (hg : Blk t W g C) : (results fn tmps).run Try.prog W = .ok (.tuple #[.agg C, v]) W := by
  have h1 := run_loadVar_mid (P := Try.prog) W g 0 t C.toList _ hg.all hu hd (by simpa using hi)
  have hp' : (tmps[q]?).getD undef = .pointer (some ⟨g, 0, none⟩) := by simpa using hp
  have hr' : (tmps[r]?).getD undef = v := by simpa using hr
  simp only [results, h]
  simp [hp', hr', asAddr, h1]
theorem OwnS.base {w : World} {base b m : Nat} {v : Value} {L : Nat → Sl} (h : OwnS w base v m L) (hb : b ≤ base) : OwnS w b v m L := by
  refine ⟨⟨h.1.1, ?_⟩, fun j hj => ?_⟩
  · rcases h.1.2 with h | ⟨g, cap, cur, hv, hg, r⟩
    · exact .inl h
    · exact .inr ⟨g, cap, cur, hv, by omega, r⟩
  · obtain ⟨h2, h3 | ⟨g, h3, h4, h5⟩⟩ := h.2 j hj
    · exact ⟨h2, .inl h3⟩
    · exact ⟨h2, .inr ⟨g, h3, by omega, h5⟩⟩
/-- a store into a block of another type -/
theorem OwnS.farT {w w' : World} {base b m : Nat} {v : Value} {L : Nat → Sl} {C C' : Array Value} {t u : TypeId} (h : OwnS w base v m L) (hk : Blk t w b C) (h1 : t ≠ 49) (h2 : t ≠ 5) (hs : Stored w w' b C' u) : OwnS w' base v m L := by
  have ne : ∀ g cur e, w.heap[g]? = some (.cells cur e (0, 0)) → t ≠ e → g ≠ b := by
    intro g cur e hg hte heq
    subst heq
    unfold Blk at hk
    rw [hk] at hg
    simp only [Option.some.injEq, Obj.cells.injEq] at hg
    exact hte hg.2.1
  refine ⟨⟨h.1.1, ?_⟩, fun j hj => ?_⟩
  · rcases h.1.2 with h | ⟨g, cap, cur, hv, hg, hc, r⟩
    · exact .inl h
    · exact .inr ⟨g, cap, cur, hv, hg, (hs.2.2 g (ne g cur _ hc h1)).trans hc, r⟩
  · obtain ⟨k2, h3 | ⟨g, h3, h4, h5⟩⟩ := h.2 j hj
    · exact ⟨k2, .inl h3⟩
    · obtain ⟨cur, hc, _⟩ := h5.1
      exact ⟨k2, .inr ⟨g, h3, h4, h5.block (hs.2.2 g (ne g cur _ hc h2))⟩⟩
theorem OwnS.far {w w' : World} {base b m : Nat} {v : Value} {L : Nat → Sl} {C : Array Value} {u : TypeId} (h : OwnS w base v m L) (hs : Stored w w' b C u) (hb : b < base) : OwnS w' base v m L := by
  refine ⟨⟨h.1.1, ?_⟩, fun j hj => ?_⟩
  · rcases h.1.2 with h | ⟨g, cap, cur, hv, hg, hc, r⟩
    · exact .inl h
    · exact .inr ⟨g, cap, cur, hv, hg, (hs.2.2 g (by omega)).trans hc, r⟩
  · obtain ⟨h2, h3 | ⟨g, h3, h4, h5⟩⟩ := h.2 j hj
    · exact ⟨h2, .inl h3⟩
    · exact ⟨h2, .inr ⟨g, h3, h4, h5.block (hs.2.2 g (by omega))⟩⟩
end Go.Proofs.Ytcngkfmjngeofaa

/- bytes.Equal; whether two sides share an area, by the program and by the document. Each theorem states its conditions. -/
namespace Go.Proofs.Ytcngkfmjngeofaa
open Go.RowKit
set_option linter.unusedVariables false

def bsL (z : Nat → Int) (n : Nat) : List UInt8 := (List.range n).map fun j => UInt8.ofNat (z j).toNat
def bsS (z : Nat → Int) (n : Nat) : ByteArray := ⟨(bsL z n).toArray⟩
theorem bsL_len (z : Nat → Int) (n : Nat) : (bsL z n).length = n := by simp [bsL]
theorem bsL_at (z : Nat → Int) (hz : ∀ j, 0 ≤ z j ∧ z j ≤ 255) (n j : Nat) (h : j < (bsL z n).length) : (((bsL z n)[j]).toNat : Int) = z j := by
  have := hz j
  simp [bsL]
  omega
theorem conv_sl {w : World} {t : Sl} (h : SlOk w t) : (convert 49 9 (.slice t.A t.n t.c)).run Try.prog w = .ok (.string (bsS t.z t.n)) w := by
  obtain ⟨A, n, c, z⟩ := t
  obtain ⟨h1, h2, h3⟩ := h
  rcases A with _ | ⟨b, off, sp⟩
  · obtain ⟨h4, h5⟩ := h2 rfl
    simp only at h4 h5
    subst h4 h5
    have := run_convert_bytes_nil (P := Try.prog) (w := w) (dst := 9) 49 5 Try.underlying49 Try.underlying5 0 0
    first | exact this | exact this Try.underlying9 | simpa using this
  · have := run_convert_bytes_back (P := Try.prog) w 49 9 5 ⟨b, off, sp⟩ c (bsL z n) Try.underlying49 Try.underlying5 Try.underlying9 (fun j hj => by
      have hn : 0 < n := by rw [bsL_len] at hj; omega
      obtain ⟨b', off', e, hr⟩ := h1.row hn
      injection e with e
      injection e with e1 e2 e3
      subst e1 e2 e3
      have hadd : (⟨b, off, none⟩ : Addr).add j = ⟨b, off + j, none⟩ := by unfold Addr.add; split <;> simp_all
      rw [hadd, bsL_at z h1.2 n j hj]
      exact hr.2.1 j (by rwa [bsL_len] at hj))
    rw [bsL_len] at this
    exact this
/-- the same bytes? -/
def sB (a b : Sl) : Bool := bsL a.z a.n == bsL b.z b.n
theorem sB_iff {a b : Sl} (ha : ∀ j, 0 ≤ a.z j ∧ a.z j ≤ 255) (hb : ∀ j, 0 ≤ b.z j ∧ b.z j ≤ 255) : sB a b = true ↔ sameS a b := by
  unfold sB sameS
  rw [beq_iff_eq]
  constructor
  · intro e
    have hl : a.n = b.n := by rw [← bsL_len a.z a.n, e, bsL_len]
    refine ⟨hl, fun i hi => ?_⟩
    have h1 := bsL_at a.z ha a.n i (by rw [bsL_len]; exact hi)
    have h2 := bsL_at b.z hb b.n i (by rw [bsL_len]; omega)
    rw [← h1, ← h2]
    simp only [e]
  · rintro ⟨hl, h⟩
    unfold bsL
    rw [← hl]
    apply List.map_congr_left
    intro j hj
    rw [h j (by simpa using hj)]
theorem sB_list (a b : Sl) : ((bsS a.z a.n).toList == (bsS b.z b.n).toList) = sB a b := by
  rw [ByteArray.toList_eq, ByteArray.toList_eq]
  rfl
theorem equalS_any (a b : Sl) (r : Bool) (w : World) (h : SlOk w a) (h' : SlOk w b) (hr : sB a b = r) :
    Calls Try.prog 41 #[.slice a.A a.n a.c, .slice b.A b.n b.c] w fun e w' => e = .returned (.bool r) ∧ w = w' := by
  have h1 := conv_sl h
  have h2 := conv_sl h'
  rw [← sB_list] at hr
  obtain ⟨s, hs⟩ : ∃ s, bsS a.z a.n = s := ⟨_, rfl⟩
  obtain ⟨t, ht⟩ : ∃ t, bsS b.z b.n = t := ⟨_, rfl⟩
  rw [hs] at h1 hr
  rw [ht] at h2 hr
  have HR := Lib.hid hr
  clear h h' hs ht hr
  obtain ⟨q, hq⟩ : ∃ q, (s.toList == t.toList) = q := ⟨_, rfl⟩
  have HQ : Hid (q = r) := Lib.hid (by rw [← hq]; exact HR.out)
  clear HR
  go_enter Try.func41, Try.ntmps41
  go_wp2_with fail
  go_ret
  exact ⟨by rw [← HQ.out]; rfl, rfl⟩
/-- some of the one is some of the other -/
def Shr (L : Nat → Sl) (m : Nat) (H : Nat → Sl) (k : Nat) : Prop := ∃ i, i < m ∧ ∃ j, j < k ∧ sameS (L i) (H j)
noncomputable def shB (L : Nat → Sl) (m : Nat) (H : Nat → Sl) (k : Nat) : Bool := @decide (Shr L m H k) (Classical.propDecidable _)
theorem shB_yes {L : Nat → Sl} {m : Nat} {H : Nat → Sl} {k : Nat} (h : Shr L m H k) : shB L m H k = true := by unfold shB; exact @decide_eq_true _ (Classical.propDecidable _) h
theorem shB_no {L : Nat → Sl} {m : Nat} {H : Nat → Sl} {k : Nat} (h : ¬ Shr L m H k) : shB L m H k = false := by unfold shB; exact @decide_eq_false _ (Classical.propDecidable _) h
theorem shB_alike {L L' : Nat → Sl} {m : Nat} {H H' : Nat → Sl} {k : Nat} (h : ∀ i, i < m → sameS (L i) (L' i)) (h' : ∀ i, i < k → sameS (H i) (H' i)) : shB L m H k = shB L' m H' k := by
  by_cases hs : Shr L m H k
  · rw [shB_yes hs]
    obtain ⟨i, hi, j, hj, e⟩ := hs
    exact (shB_yes ⟨i, hi, j, hj, ((h i hi).symm.trans e).trans (h' j hj)⟩).symm
  · rw [shB_no hs, shB_no]
    rintro ⟨i, hi, j, hj, e⟩
    exact hs ⟨i, hi, j, hj, ((h i hi).trans e).trans (h' j hj).symm⟩
theorem RdS.ok {w : World} {A : Option Addr} {m : Nat} {L : Nat → Sl} (h : RdS w A m L) {j : Nat} (hj : j < m) : SlOk w (L j) := by
  obtain ⟨b, off, _, hr⟩ := h.row (by omega)
  exact (hr.2 j hj).2

set_option maxHeartbeats 4000000 in
set_option maxRecDepth 100000 in
theorem share_any (A B : Option Addr) (m c k d : Nat) (L H : Nat → Sl) (w : World) (ha : RdS w A m L) (hb : RdS w B k H) (hm : m ≤ 9223372036854775807) (hk : k ≤ 9223372036854775807) :
    Calls Try.prog 39 #[.slice A m c, .slice B k d] w fun e w' => e = .returned (.bool (shB L m H k)) ∧ w = w' := by
  have HA := Lib.hid ha
  have HB := Lib.hid hb
  clear ha hb
  go_enter Try.func39, Try.ntmps39
  go_wp2_with fail
  go_loop [11] (fun t => ∃ i : Nat, i ≤ m ∧ t = .int .i64 i ∧ Hid (∀ i', i' < i → ∀ j, j < k → ¬ sameS (L i') (H j))) (fun t => m - (intOf t).toNat)
  case atStart => exact ⟨0, by omega, rfl, Lib.hid (fun _ h => by omega)⟩
  case round =>
    obtain ⟨i, hi, rfl, hno⟩ := hrel
    by_cases hlt : i < m
    · obtain ⟨b, off, rfl, hr⟩ := HA.out.row (by omega)
      obtain ⟨c0, o0⟩ := hr.2 i hlt
      have HO0 := Lib.hid o0
      clear hr o0
      go_wp2_with fail
      go_loop [17] (fun t => ∃ j : Nat, j ≤ k ∧ t = .int .i64 j ∧ Hid (∀ j', j' < j → ¬ sameS (L i) (H j'))) (fun t => k - (intOf t).toNat)
      case atStart => exact ⟨0, by omega, rfl, Lib.hid (fun _ h => by omega)⟩
      case round =>
        obtain ⟨j, hj, rfl, hnj⟩ := hrel
        by_cases hlj : j < k
        · obtain ⟨b', off', rfl, hr'⟩ := HB.out.row (by omega)
          obtain ⟨c1, o1⟩ := hr'.2 j hlj
          have HIF := Lib.hid (sB_iff HO0.out.1.2 o1.1.2)
          have HE := Lib.hid (fun r hr => equalS_any (L i) (H j) r w HO0.out o1 hr)
          clear hr' o1
          cases hq : sB (L i) (H j)
          · have hf : ¬ sameS (L i) (H j) := fun h => by rw [HIF.out.2 h] at hq; cases hq
            have HE2 := Lib.hid (HE.out _ hq)
            have hnj2 : Hid (∀ j', j' < j + 1 → ¬ sameS (L i) (H j')) := Lib.hid (fun j' h => by
              by_cases e : j' = j
              · subst e; exact hf
              · exact hnj.out j' (by omega))
            clear hq hf HE HIF
            go_wp2_with fail
            refine HE2.out.mono ?_
            rintro e w1 ⟨rfl, rfl⟩
            go_wp2_with fail
            go_round
            case rel => exact ⟨j + 1, by omega, by go_num, hnj2⟩
            case measure => simp [intOf]; omega
          · have hs := HIF.out.1 hq
            have HE2 := Lib.hid (HE.out _ hq)
            have HS : Hid (shB L m H k = true) := Lib.hid (shB_yes ⟨i, hlt, j, hlj, hs⟩)
            clear hq hs HE HIF
            go_wp2_with fail
            refine HE2.out.mono ?_
            rintro e w1 ⟨rfl, rfl⟩
            go_wp2_with fail
            go_ret
            exact ⟨by rw [HS.out]; rfl, rfl⟩
        · obtain rfl : j = k := by omega
          have hno2 : Hid (∀ i', i' < i + 1 → ∀ j', j' < j → ¬ sameS (L i') (H j')) := Lib.hid (fun i' h => by
            by_cases e : i' = i
            · subst e; exact hnj.out
            · exact hno.out i' (by omega))
          go_wp2_with fail
          go_round
          case rel => exact ⟨i + 1, by omega, by go_num, hno2⟩
          case measure => simp [intOf]; omega
    · obtain rfl : i = m := by omega
      have HS : Hid (shB L i H k = false) := Lib.hid (shB_no (fun ⟨i', h1, j, h2, h3⟩ => hno.out i' h1 j h2 h3))
      go_wp2_with fail
      go_ret
      exact ⟨by rw [HS.out]; rfl, rfl⟩
end Go.Proofs.Ytcngkfmjngeofaa

/- adj's checks and its small functions. Each theorem states its conditions. -/
namespace Go.Proofs.Ytcngkfmjngeofaa
open Go.RowKit
set_option linter.unusedVariables false

/-- two names are alike -/
def eqY (z z' : Nat → Int) : Bool := bsL z 6 == bsL z' 6
theorem eqY_iff {z z' : Nat → Int} (hz : ∀ j, 0 ≤ z j ∧ z j ≤ 255) (hz' : ∀ j, 0 ≤ z' j ∧ z' j ≤ 255) : eqY z z' = true ↔ ∀ j, j < 6 → z j = z' j := by
  have := sB_iff (a := ⟨none, 6, 0, z⟩) (b := ⟨none, 6, 0, z'⟩) hz hz'
  unfold sB sameS at this
  unfold eqY
  rw [this]
  simp
theorem syC_vals (z : Nat → Int) : syC z = (vals z 6).toArray := rfl
theorem guard_sys : Try.prog.eqGuardType Try.prog.depth 23 = false := by kernel_rfl
theorem equal_sys (z z' : Nat → Int) (hz : ∀ j, 0 ≤ z j ∧ z j ≤ 255) (hz' : ∀ j, 0 ≤ z' j ∧ z' j ≤ 255) (W : World) : (Op.equalIn 10000 23 (.agg (syC z)) (.agg (syC z'))).run Try.prog W = .ok (eqY z z') W := by
  rw [syC_vals, syC_vals, vals_cells z 6 hz, vals_cells z' 6 hz']
  rw [run_equalIn_bytes W 9998 23 5 6 Try.underlying23 Try.underlying5 size_u8 _ _ (by simp) (by simp)]
  rfl
theorem sys_eql (o : Oper) (e : Operand → Value) (x y : Operand) (t' : TypeId) (ho : o.op = .binOp .eql 23 x y t') (htt : 23 = t') (z z' : Nat → Int) (hz : ∀ j, 0 ≤ z j ∧ z j ≤ 255) (hz' : ∀ j, 0 ≤ z' j ∧ z' j ≤ 255) (h0 : e x = .agg (syC z)) (h1 : e y = .agg (syC z')) (r : Bool) (hr : eqY z z' = r) (W : World) :
    (execOp e o).run Try.prog W = .ok (.value (.bool r)) W := by
  subst hr htt
  unfold execOp
  simp only [ho, h0, h1]
  simp [Sem.run_bind, run_eqGuard_agg _ _ _ _ _ _ _ guard_sys, run_eql_struct, equal_sys z z' hz hz' W]
theorem sys_neq (o : Oper) (e : Operand → Value) (x y : Operand) (t' : TypeId) (ho : o.op = .binOp .neq 23 x y t') (htt : 23 = t') (z z' : Nat → Int) (hz : ∀ j, 0 ≤ z j ∧ z j ≤ 255) (hz' : ∀ j, 0 ≤ z' j ∧ z' j ≤ 255) (h0 : e x = .agg (syC z)) (h1 : e y = .agg (syC z')) (r : Bool) (hr : eqY z z' = r) (W : World) :
    (execOp e o).run Try.prog W = .ok (.value (.bool (!r))) W := by
  subst hr htt
  unfold execOp
  simp only [ho, h0, h1]
  simp [Sem.run_bind, run_eqGuard_agg _ _ _ _ _ _ _ guard_sys, run_neq_struct, equal_sys z z' hz hz' W]
def byB (z : Nat → Int) : Prop := ∀ j, 0 ≤ z j ∧ z j ≤ 255
def lvBad (n : Int) : Bool := decide (n < 1 ∨ 3 < n)
def stBad (n : Int) : Bool := decide (n < 0 ∨ 2 < n)
def hoBad (n : Int) : Bool := decide (n < 1 ∨ 65535 < n)
theorem isNoLevel_any (n : Int) (b : Bool) (hb : lvBad n = b) (w : World) : Calls Try.prog 33 #[.int .i64 n] w fun e w' => e = .returned (.bool b) ∧ w = w' := by
  unfold lvBad at hb
  subst hb
  by_cases h1 : n < 1
  · rw [show decide (n < 1 ∨ 3 < n) = true from decide_eq_true (.inl h1)]
    go_enter Try.func33, Try.ntmps33
    go_wp2
    go_ret
    exact ⟨rfl, rfl⟩
  · by_cases h2 : 3 < n
    · rw [show decide (n < 1 ∨ 3 < n) = true from decide_eq_true (.inr h2)]
      go_enter Try.func33, Try.ntmps33
      go_wp2
      go_ret
      exact ⟨rfl, rfl⟩
    · rw [show decide (n < 1 ∨ 3 < n) = false from decide_eq_false (by omega)]
      go_enter Try.func33, Try.ntmps33
      go_wp2
      go_ret
      exact ⟨rfl, rfl⟩
theorem isNoState_any (n : Int) (b : Bool) (hb : stBad n = b) (w : World) : Calls Try.prog 34 #[.int .i64 n] w fun e w' => e = .returned (.bool b) ∧ w = w' := by
  unfold stBad at hb
  subst hb
  by_cases h1 : n < 0
  · rw [show decide (n < 0 ∨ 2 < n) = true from decide_eq_true (.inl h1)]
    go_enter Try.func34, Try.ntmps34
    go_wp2
    go_ret
    exact ⟨rfl, rfl⟩
  · by_cases h2 : 2 < n
    · rw [show decide (n < 0 ∨ 2 < n) = true from decide_eq_true (.inr h2)]
      go_enter Try.func34, Try.ntmps34
      go_wp2
      go_ret
      exact ⟨rfl, rfl⟩
    · rw [show decide (n < 0 ∨ 2 < n) = false from decide_eq_false (by omega)]
      go_enter Try.func34, Try.ntmps34
      go_wp2
      go_ret
      exact ⟨rfl, rfl⟩
theorem isNoHold_any (n : Int) (b : Bool) (hb : hoBad n = b) (w : World) : Calls Try.prog 35 #[.int .i64 n] w fun e w' => e = .returned (.bool b) ∧ w = w' := by
  unfold hoBad at hb
  subst hb
  by_cases h1 : n < 1
  · rw [show decide (n < 1 ∨ 65535 < n) = true from decide_eq_true (.inl h1)]
    go_enter Try.func35, Try.ntmps35
    go_wp2
    go_ret
    exact ⟨rfl, rfl⟩
  · by_cases h2 : 65535 < n
    · rw [show decide (n < 1 ∨ 65535 < n) = true from decide_eq_true (.inr h2)]
      go_enter Try.func35, Try.ntmps35
      go_wp2
      go_ret
      exact ⟨rfl, rfl⟩
    · rw [show decide (n < 1 ∨ 65535 < n) = false from decide_eq_false (by omega)]
      go_enter Try.func35, Try.ntmps35
      go_wp2
      go_ret
      exact ⟨rfl, rfl⟩
def chkF (b1 b2 b3 b4 b5 b6 b7 b8 b9 b10 : Bool) : Int := if b1 || b2 || b3 || b4 || b5 || b6 || b7 then 1 else if b8 || b9 then 2 else if b10 then 7 else 0
def chkS (l : Lo) (a : Aj) (h : He) (now : Int) : Int :=
  chkF (lvBad l.lv) (lvBad h.lv) (stBad a.st) (stBad h.st) (hoBad h.ho) (decide (now < 0)) (decide (4611686018427387904 < now)) (decide (3 < l.m)) (decide (3 < h.m)) (eqY h.s l.s)
set_option maxHeartbeats 8000000 in
set_option maxRecDepth 100000 in
theorem checkStep_any (l : Lo) (a : Aj) (h : He) (now : Int) (w : World) (hl : byB l.s) (hh : byB h.s) (hlm : l.m ≤ 9223372036854775807) (hhm : h.m ≤ 9223372036854775807) :
    Calls Try.prog 24 #[.agg (loC l), .agg (ajC a), .agg (heC h), .int .i64 now] w fun e w' => e = .returned (.int .i64 (chkS l a h now)) ∧ Below w.heap.size w w' := by
  have HE : Hid (chkS l a h now = chkF (lvBad l.lv) (lvBad h.lv) (stBad a.st) (stBad h.st) (hoBad h.ho) (decide (now < 0)) (decide (4611686018427387904 < now)) (decide (3 < l.m)) (decide (3 < h.m)) (eqY h.s l.s)) := Lib.hid rfl
  have HL := Lib.hid hl
  have HH := Lib.hid hh
  obtain ⟨E, hE⟩ : ∃ E, chkS l a h now = E := ⟨_, rfl⟩
  rw [hE] at HE ⊢
  clear hE hl hh
  obtain ⟨b1, hb1⟩ : ∃ b, lvBad l.lv = b := ⟨_, rfl⟩
  have D1 := Lib.hid (fun w => isNoLevel_any _ _ hb1 w)
  rw [hb1] at HE
  clear hb1
  obtain ⟨b2, hb2⟩ : ∃ b, lvBad h.lv = b := ⟨_, rfl⟩
  have D2 := Lib.hid (fun w => isNoLevel_any _ _ hb2 w)
  rw [hb2] at HE
  clear hb2
  obtain ⟨b3, hb3⟩ : ∃ b, stBad a.st = b := ⟨_, rfl⟩
  have D3 := Lib.hid (fun w => isNoState_any _ _ hb3 w)
  rw [hb3] at HE
  clear hb3
  obtain ⟨b4, hb4⟩ : ∃ b, stBad h.st = b := ⟨_, rfl⟩
  have D4 := Lib.hid (fun w => isNoState_any _ _ hb4 w)
  rw [hb4] at HE
  clear hb4
  obtain ⟨b5, hb5⟩ : ∃ b, hoBad h.ho = b := ⟨_, rfl⟩
  have D5 := Lib.hid (fun w => isNoHold_any _ _ hb5 w)
  rw [hb5] at HE
  clear hb5
  obtain ⟨bq, hbq⟩ : ∃ b, eqY h.s l.s = b := ⟨_, rfl⟩
  have HQ := Lib.hid hbq
  rw [hbq] at HE
  clear hbq
  go_enter Try.func24, Try.ntmps24
  have HB := Lib.hid (Below.refl w.heap.size w)
  obtain ⟨N1, hN1⟩ : ∃ N, w.heap.size = N := ⟨_, rfl⟩
  have HN1 := Lib.hid hN1
  clear hN1
  go_wp2_with (refine wpList_box (op := ⟨some 4, _, _, _, _, _⟩) rfl 32 (.tmp 0) rfl (loC l) rfl N1 HN1.out ?_; intro w1 k1 b1 s1; refine Hid.out ?_)
  refine Lib.hid ?_
  have K1 := Lib.hid k1
  clear k1
  have le_HB_N1 : w.heap.size ≤ N1 := by rw [← HN1.out]; exact HB.out.size
  have HBn := Lib.hid (HB.out.trans (b1.mono HB.out.size))
  clear HB
  have HB := HBn
  clear HBn
  clear b1 HN1
  obtain ⟨N2, hN2⟩ : ∃ N, w1.heap.size = N := ⟨_, rfl⟩
  have HN2 := Lib.hid hN2
  clear hN2
  go_wp2_with (refine wpList_box (op := ⟨some 5, _, _, _, _, _⟩) rfl 36 (.tmp 1) rfl (ajC a) rfl N2 HN2.out ?_; intro w2 k1 b1 s1; refine Hid.out ?_)
  refine Lib.hid ?_
  have K2 := Lib.hid k1
  clear k1
  have lt_N1_N2 : N1 < N2 := by rw [← HN2.out]; exact K1.out.lt
  have le_HB_N2 : w.heap.size ≤ N2 := by rw [← HN2.out]; exact HB.out.size
  have K1n := Lib.hid (K1.out.below b1 K1.out.lt)
  clear K1
  have K1 := K1n
  clear K1n
  have HBn := Lib.hid (HB.out.trans (b1.mono HB.out.size))
  clear HB
  have HB := HBn
  clear HBn
  clear b1 HN2
  obtain ⟨N3, hN3⟩ : ∃ N, w2.heap.size = N := ⟨_, rfl⟩
  have HN3 := Lib.hid hN3
  clear hN3
  go_wp2_with (refine wpList_box (op := ⟨some 6, _, _, _, _, _⟩) rfl 34 (.tmp 2) rfl (heC h) rfl N3 HN3.out ?_; intro w3 k1 b1 s1; refine Hid.out ?_)
  refine Lib.hid ?_
  have K3 := Lib.hid k1
  clear k1
  have lt_N1_N3 : N1 < N3 := by rw [← HN3.out]; exact K1.out.lt
  have lt_N2_N3 : N2 < N3 := by rw [← HN3.out]; exact K2.out.lt
  have le_HB_N3 : w.heap.size ≤ N3 := by rw [← HN3.out]; exact HB.out.size
  have K1n := Lib.hid (K1.out.below b1 K1.out.lt)
  clear K1
  have K1 := K1n
  clear K1n
  have K2n := Lib.hid (K2.out.below b1 K2.out.lt)
  clear K2
  have K2 := K2n
  clear K2n
  have HBn := Lib.hid (HB.out.trans (b1.mono HB.out.size))
  clear HB
  have HB := HBn
  clear HBn
  clear b1 HN3
  have cK1_7 : w3.cell? ⟨N1, 7, none⟩ = some (.int .i64 l.lv) := (K1.out.cell 7).trans rfl
  have cK1_8 : w3.cell? ⟨N1, 8, none⟩ = some (.slice l.A l.m l.c) := (K1.out.cell 8).trans rfl
  have cK2_0 : w3.cell? ⟨N2, 0, none⟩ = some (.int .i64 a.st) := (K2.out.cell 0).trans rfl
  have cK3_7 : w3.cell? ⟨N3, 7, none⟩ = some (.int .i64 h.lv) := (K3.out.cell 7).trans rfl
  have cK3_8 : w3.cell? ⟨N3, 8, none⟩ = some (.int .i64 h.ho) := (K3.out.cell 8).trans rfl
  have cK3_9 : w3.cell? ⟨N3, 9, none⟩ = some (.slice h.A h.m h.c) := (K3.out.cell 9).trans rfl
  have cK3_10 : w3.cell? ⟨N3, 10, none⟩ = some (.int .i64 h.st) := (K3.out.cell 10).trans rfl
  cases b1
  rotate_left
  · skip
    have HX : Hid (E = 1) := Lib.hid (by rw [HE.out]; first | rfl | simp [chkF] | (simp [chkF]; omega))
    clear HE
    go_wp2_with (first | ((with_reducible refine (D1.out _).mono ?_); (rintro e wx ⟨rfl, rfl⟩)) | ((with_reducible refine (D2.out _).mono ?_); (rintro e wx ⟨rfl, rfl⟩)) | ((with_reducible refine (D3.out _).mono ?_); (rintro e wx ⟨rfl, rfl⟩)) | ((with_reducible refine (D4.out _).mono ?_); (rintro e wx ⟨rfl, rfl⟩)) | ((with_reducible refine (D5.out _).mono ?_); (rintro e wx ⟨rfl, rfl⟩)))
    go_ret
    exact ⟨by rw [HX.out]; rfl, HB.out⟩
  cases b2
  rotate_left
  · skip
    have HX : Hid (E = 1) := Lib.hid (by rw [HE.out]; first | rfl | simp [chkF] | (simp [chkF]; omega))
    clear HE
    go_wp2_with (first | ((with_reducible refine (D1.out _).mono ?_); (rintro e wx ⟨rfl, rfl⟩)) | ((with_reducible refine (D2.out _).mono ?_); (rintro e wx ⟨rfl, rfl⟩)) | ((with_reducible refine (D3.out _).mono ?_); (rintro e wx ⟨rfl, rfl⟩)) | ((with_reducible refine (D4.out _).mono ?_); (rintro e wx ⟨rfl, rfl⟩)) | ((with_reducible refine (D5.out _).mono ?_); (rintro e wx ⟨rfl, rfl⟩)))
    go_ret
    exact ⟨by rw [HX.out]; rfl, HB.out⟩
  cases b3
  rotate_left
  · skip
    have HX : Hid (E = 1) := Lib.hid (by rw [HE.out]; first | rfl | simp [chkF] | (simp [chkF]; omega))
    clear HE
    go_wp2_with (first | ((with_reducible refine (D1.out _).mono ?_); (rintro e wx ⟨rfl, rfl⟩)) | ((with_reducible refine (D2.out _).mono ?_); (rintro e wx ⟨rfl, rfl⟩)) | ((with_reducible refine (D3.out _).mono ?_); (rintro e wx ⟨rfl, rfl⟩)) | ((with_reducible refine (D4.out _).mono ?_); (rintro e wx ⟨rfl, rfl⟩)) | ((with_reducible refine (D5.out _).mono ?_); (rintro e wx ⟨rfl, rfl⟩)))
    go_ret
    exact ⟨by rw [HX.out]; rfl, HB.out⟩
  cases b4
  rotate_left
  · skip
    have HX : Hid (E = 1) := Lib.hid (by rw [HE.out]; first | rfl | simp [chkF] | (simp [chkF]; omega))
    clear HE
    go_wp2_with (first | ((with_reducible refine (D1.out _).mono ?_); (rintro e wx ⟨rfl, rfl⟩)) | ((with_reducible refine (D2.out _).mono ?_); (rintro e wx ⟨rfl, rfl⟩)) | ((with_reducible refine (D3.out _).mono ?_); (rintro e wx ⟨rfl, rfl⟩)) | ((with_reducible refine (D4.out _).mono ?_); (rintro e wx ⟨rfl, rfl⟩)) | ((with_reducible refine (D5.out _).mono ?_); (rintro e wx ⟨rfl, rfl⟩)))
    go_ret
    exact ⟨by rw [HX.out]; rfl, HB.out⟩
  cases b5
  rotate_left
  · skip
    have HX : Hid (E = 1) := Lib.hid (by rw [HE.out]; first | rfl | simp [chkF] | (simp [chkF]; omega))
    clear HE
    go_wp2_with (first | ((with_reducible refine (D1.out _).mono ?_); (rintro e wx ⟨rfl, rfl⟩)) | ((with_reducible refine (D2.out _).mono ?_); (rintro e wx ⟨rfl, rfl⟩)) | ((with_reducible refine (D3.out _).mono ?_); (rintro e wx ⟨rfl, rfl⟩)) | ((with_reducible refine (D4.out _).mono ?_); (rintro e wx ⟨rfl, rfl⟩)) | ((with_reducible refine (D5.out _).mono ?_); (rintro e wx ⟨rfl, rfl⟩)))
    go_ret
    exact ⟨by rw [HX.out]; rfl, HB.out⟩
  by_cases n1 : now < 0
  · rw [decide_eq_true n1] at HE
    have HX : Hid (E = 1) := Lib.hid (by rw [HE.out]; first | rfl | simp [chkF] | (simp [chkF]; omega))
    clear HE
    go_wp2_with (first | ((with_reducible refine (D1.out _).mono ?_); (rintro e wx ⟨rfl, rfl⟩)) | ((with_reducible refine (D2.out _).mono ?_); (rintro e wx ⟨rfl, rfl⟩)) | ((with_reducible refine (D3.out _).mono ?_); (rintro e wx ⟨rfl, rfl⟩)) | ((with_reducible refine (D4.out _).mono ?_); (rintro e wx ⟨rfl, rfl⟩)) | ((with_reducible refine (D5.out _).mono ?_); (rintro e wx ⟨rfl, rfl⟩)))
    go_ret
    exact ⟨by rw [HX.out]; rfl, HB.out⟩
  rw [decide_eq_false n1] at HE
  by_cases n2 : 4611686018427387904 < now
  · rw [decide_eq_true n2] at HE
    have HX : Hid (E = 1) := Lib.hid (by rw [HE.out]; first | rfl | simp [chkF] | (simp [chkF]; omega))
    clear HE
    go_wp2_with (first | ((with_reducible refine (D1.out _).mono ?_); (rintro e wx ⟨rfl, rfl⟩)) | ((with_reducible refine (D2.out _).mono ?_); (rintro e wx ⟨rfl, rfl⟩)) | ((with_reducible refine (D3.out _).mono ?_); (rintro e wx ⟨rfl, rfl⟩)) | ((with_reducible refine (D4.out _).mono ?_); (rintro e wx ⟨rfl, rfl⟩)) | ((with_reducible refine (D5.out _).mono ?_); (rintro e wx ⟨rfl, rfl⟩)))
    go_ret
    exact ⟨by rw [HX.out]; rfl, HB.out⟩
  rw [decide_eq_false n2] at HE
  by_cases n3 : 3 < l.m
  · rw [decide_eq_true n3] at HE
    have n3i : (3 : Int) < ((l.m : Nat) : Int) := by omega
    have HX : Hid (E = 2) := Lib.hid (by rw [HE.out]; first | rfl | simp [chkF] | (simp [chkF]; omega))
    clear HE
    go_wp2_with (first | ((with_reducible refine (D1.out _).mono ?_); (rintro e wx ⟨rfl, rfl⟩)) | ((with_reducible refine (D2.out _).mono ?_); (rintro e wx ⟨rfl, rfl⟩)) | ((with_reducible refine (D3.out _).mono ?_); (rintro e wx ⟨rfl, rfl⟩)) | ((with_reducible refine (D4.out _).mono ?_); (rintro e wx ⟨rfl, rfl⟩)) | ((with_reducible refine (D5.out _).mono ?_); (rintro e wx ⟨rfl, rfl⟩)))
    go_ret
    exact ⟨by rw [HX.out]; rfl, HB.out⟩
  rw [decide_eq_false n3] at HE
  have n3i : ¬ (3 : Int) < ((l.m : Nat) : Int) := by omega
  by_cases n4 : 3 < h.m
  · rw [decide_eq_true n4] at HE
    have n4i : (3 : Int) < ((h.m : Nat) : Int) := by omega
    have HX : Hid (E = 2) := Lib.hid (by rw [HE.out]; first | rfl | simp [chkF] | (simp [chkF]; omega))
    clear HE
    go_wp2_with (first | ((with_reducible refine (D1.out _).mono ?_); (rintro e wx ⟨rfl, rfl⟩)) | ((with_reducible refine (D2.out _).mono ?_); (rintro e wx ⟨rfl, rfl⟩)) | ((with_reducible refine (D3.out _).mono ?_); (rintro e wx ⟨rfl, rfl⟩)) | ((with_reducible refine (D4.out _).mono ?_); (rintro e wx ⟨rfl, rfl⟩)) | ((with_reducible refine (D5.out _).mono ?_); (rintro e wx ⟨rfl, rfl⟩)))
    go_ret
    exact ⟨by rw [HX.out]; rfl, HB.out⟩
  rw [decide_eq_false n4] at HE
  have n4i : ¬ (3 : Int) < ((h.m : Nat) : Int) := by omega
  go_wp2_with (first | ((with_reducible refine (D1.out _).mono ?_); (rintro e wx ⟨rfl, rfl⟩)) | ((with_reducible refine (D2.out _).mono ?_); (rintro e wx ⟨rfl, rfl⟩)) | ((with_reducible refine (D3.out _).mono ?_); (rintro e wx ⟨rfl, rfl⟩)) | ((with_reducible refine (D4.out _).mono ?_); (rintro e wx ⟨rfl, rfl⟩)) | ((with_reducible refine (D5.out _).mono ?_); (rintro e wx ⟨rfl, rfl⟩)) | (refine wpList_ld (op := ⟨some 53, _, _, _, _, _⟩) (by rfl) 23 (.tmp 52) rfl N3 0 rfl (syC h.s) _ K3.out.hes Try.underlying23 rfl info_sys ?_; refine Hid.out ?_))
  refine Lib.hid ?_
  go_wp2_with (refine wpList_ld (op := ⟨some 55, _, _, _, _, _⟩) (by rfl) 23 (.tmp 54) rfl N1 0 rfl (syC l.s) _ K1.out.los Try.underlying23 rfl info_sys ?_; refine Hid.out ?_)
  refine Lib.hid ?_
  go_wp2_with (refine wpList_gv (op := ⟨some 56, _, _, _, _, _⟩) _ (by rfl) (sys_eql _ _ _ _ _ rfl rfl h.s l.s HH.out HL.out rfl rfl _ HQ.out _) ?_; refine Hid.out ?_)
  refine Lib.hid ?_
  cases bq
  · have HX : Hid (E = 0) := Lib.hid (by rw [HE.out]; rfl)
    clear HE
    go_wp2_with fail
    go_ret
    exact ⟨by rw [HX.out]; rfl, HB.out⟩
  · have HX : Hid (E = 7) := Lib.hid (by rw [HE.out]; rfl)
    clear HE
    go_wp2_with fail
    go_ret
    exact ⟨by rw [HX.out]; rfl, HB.out⟩
end Go.Proofs.Ytcngkfmjngeofaa

/- adj's small functions: the levels in common, the state that a side is in. Each theorem states its conditions. -/
namespace Go.Proofs.Ytcngkfmjngeofaa
open Go.RowKit
set_option linter.unusedVariables false

theorem zero_ajP' : (Try.prog.info? 36).map (·.zero) = some (some (.agg (ajC aj0))) := zero_ajP
/-- the levels that both have -/
def comI (a b : Int) (s : Bool) : Int := if s then (if a = 3 then b else if b = 3 then a else if a = b then a else 0) else if a = 1 ∨ b = 1 then 0 else 2
def thB (n : Int) : Bool := n == 1 || n == 0
def toS (a : Aj) (h : He) (v : Int) : Int := if thB a.st && (!eqY a.p h.s || (a.nu != h.nu || a.lv != v)) then 2 else a.st
def ofS (h : He) : Int := if h.nm then h.st else 2
def behS (s t : Int) : Int := if t == 2 then 1 else if t == 0 && s == 2 then 2 else 0
set_option maxHeartbeats 8000000 in
set_option maxRecDepth 100000 in
theorem inCommon_any (l : Lo) (h : He) (L H : Nat → Sl) (w : World) (hL : RdS w l.A l.m L) (hH : RdS w h.A h.m H) (hlm : l.m ≤ 9223372036854775807) (hhm : h.m ≤ 9223372036854775807) (hl : l.lv = 1 ∨ l.lv = 2 ∨ l.lv = 3) (hh : h.lv = 1 ∨ h.lv = 2 ∨ h.lv = 3) :
    Calls Try.prog 25 #[.agg (loC l), .agg (heC h)] w fun e w' => e = .returned (.int .i64 (comI l.lv h.lv (shB L l.m H h.m))) ∧ Below w.heap.size w w' := by
  have HL := Lib.hid hL
  have HH := Lib.hid hH
  have HV := Lib.hid hl
  have HU := Lib.hid hh
  clear hL hH hl hh
  have HT : Hid (comI l.lv h.lv (shB L l.m H h.m) = comI l.lv h.lv (shB L l.m H h.m)) := Lib.hid rfl
  obtain ⟨E, hE⟩ : ∃ E, comI l.lv h.lv (shB L l.m H h.m) = E := ⟨_, rfl⟩
  have HE : Hid (E = comI l.lv h.lv (shB L l.m H h.m)) := Lib.hid hE.symm
  rw [hE]
  clear hE HT
  go_enter Try.func25, Try.ntmps25
  have HB := Lib.hid (Below.refl w.heap.size w)
  obtain ⟨N1, hN1⟩ : ∃ N, w.heap.size = N := ⟨_, rfl⟩
  have HN1 := Lib.hid hN1
  clear hN1
  go_wp2_with (refine wpList_box (op := ⟨some 2, _, _, _, _, _⟩) rfl 32 (.tmp 0) rfl (loC l) rfl N1 HN1.out ?_; intro w1 k1 b1 s1; refine Hid.out ?_)
  refine Lib.hid ?_
  have K1 := Lib.hid k1
  clear k1
  have le_HB_N1 : w.heap.size ≤ N1 := by rw [← HN1.out]; exact HB.out.size
  have HBn := Lib.hid (HB.out.trans (b1.mono HB.out.size))
  clear HB
  have HB := HBn
  clear HBn
  clear b1 HN1
  obtain ⟨N2, hN2⟩ : ∃ N, w1.heap.size = N := ⟨_, rfl⟩
  have HN2 := Lib.hid hN2
  clear hN2
  go_wp2_with (refine wpList_box (op := ⟨some 3, _, _, _, _, _⟩) rfl 34 (.tmp 1) rfl (heC h) rfl N2 HN2.out ?_; intro w2 k1 b1 s1; refine Hid.out ?_)
  refine Lib.hid ?_
  have K2 := Lib.hid k1
  clear k1
  have lt_N1_N2 : N1 < N2 := by rw [← HN2.out]; exact K1.out.lt
  have le_HB_N2 : w.heap.size ≤ N2 := by rw [← HN2.out]; exact HB.out.size
  have K1n := Lib.hid (K1.out.below b1 K1.out.lt)
  clear K1
  have K1 := K1n
  clear K1n
  have HBn := Lib.hid (HB.out.trans (b1.mono HB.out.size))
  clear HB
  have HB := HBn
  clear HBn
  clear b1 HN2
  have cK1_7 : w2.cell? ⟨N1, 7, none⟩ = some (.int .i64 l.lv) := (K1.out.cell 7).trans rfl
  have cK1_8 : w2.cell? ⟨N1, 8, none⟩ = some (.slice l.A l.m l.c) := (K1.out.cell 8).trans rfl
  have cK2_7 : w2.cell? ⟨N2, 7, none⟩ = some (.int .i64 h.lv) := (K2.out.cell 7).trans rfl
  have cK2_9 : w2.cell? ⟨N2, 9, none⟩ = some (.slice h.A h.m h.c) := (K2.out.cell 9).trans rfl
  have HS := Lib.hid (share_any l.A h.A l.m l.c h.m h.c L H w2 (HL.out.below HB.out) (HH.out.below HB.out) hlm hhm)
  obtain ⟨s, hs⟩ : ∃ s, shB L l.m H h.m = s := ⟨_, rfl⟩
  rw [hs] at HS HE
  clear hs
  obtain ⟨x, hx⟩ : ∃ x, l.lv = x := ⟨_, rfl⟩
  obtain ⟨y, hy⟩ : ∃ y, h.lv = y := ⟨_, rfl⟩
  have hv := HV.out
  have hu := HU.out
  rw [hx] at cK1_7 hv HE
  rw [hy] at cK2_7 hu HE
  clear hx hy HV HU
  rcases hv with rfl | rfl | rfl <;> rcases hu with rfl | rfl | rfl <;> cases s <;>
  · go_wp2_with ((with_reducible refine HS.out.mono ?_); (rintro e wx ⟨rfl, rfl⟩))
    go_ret
    exact ⟨by rw [HE.out]; rfl, HB.out⟩
set_option maxRecDepth 100000 in
theorem isThere_one (a : Aj) (w : World) (h0 : (a.st == 1) = true) : Calls Try.prog 37 #[.agg (ajC a)] w fun e w' => e = .returned (.bool true) ∧ Below w.heap.size w w' := by
  go_enter Try.func37, Try.ntmps37
  have HB := Lib.hid (Below.refl w.heap.size w)
  obtain ⟨N1, hN1⟩ : ∃ N, w.heap.size = N := ⟨_, rfl⟩
  have HN1 := Lib.hid hN1
  clear hN1
  go_wp2_with (refine wpList_box (op := ⟨some 1, _, _, _, _, _⟩) rfl 36 (.tmp 0) rfl (ajC a) rfl N1 HN1.out ?_; intro w1 k1 b1 s1; refine Hid.out ?_)
  refine Lib.hid ?_
  have K1 := Lib.hid k1
  clear k1
  have le_HB_N1 : w.heap.size ≤ N1 := by rw [← HN1.out]; exact HB.out.size
  have HBn := Lib.hid (HB.out.trans (b1.mono HB.out.size))
  clear HB
  have HB := HBn
  clear HBn
  clear b1 HN1
  have c0 : w1.cell? ⟨N1, 0, none⟩ = some (.int .i64 a.st) := (K1.out.cell 0).trans rfl
  go_wp2_with fail
  go_ret
  exact ⟨rfl, HB.out⟩
set_option maxRecDepth 100000 in
theorem isThere_two (a : Aj) (w : World) (h0 : (a.st == 1) = false) (h1 : (a.st == 0) = true) : Calls Try.prog 37 #[.agg (ajC a)] w fun e w' => e = .returned (.bool true) ∧ Below w.heap.size w w' := by
  go_enter Try.func37, Try.ntmps37
  have HB := Lib.hid (Below.refl w.heap.size w)
  obtain ⟨N1, hN1⟩ : ∃ N, w.heap.size = N := ⟨_, rfl⟩
  have HN1 := Lib.hid hN1
  clear hN1
  go_wp2_with (refine wpList_box (op := ⟨some 1, _, _, _, _, _⟩) rfl 36 (.tmp 0) rfl (ajC a) rfl N1 HN1.out ?_; intro w1 k1 b1 s1; refine Hid.out ?_)
  refine Lib.hid ?_
  have K1 := Lib.hid k1
  clear k1
  have le_HB_N1 : w.heap.size ≤ N1 := by rw [← HN1.out]; exact HB.out.size
  have HBn := Lib.hid (HB.out.trans (b1.mono HB.out.size))
  clear HB
  have HB := HBn
  clear HBn
  clear b1 HN1
  have c0 : w1.cell? ⟨N1, 0, none⟩ = some (.int .i64 a.st) := (K1.out.cell 0).trans rfl
  go_wp2_with fail
  go_ret
  exact ⟨rfl, HB.out⟩
set_option maxRecDepth 100000 in
theorem isThere_no (a : Aj) (w : World) (h0 : (a.st == 1) = false) (h1 : (a.st == 0) = false) : Calls Try.prog 37 #[.agg (ajC a)] w fun e w' => e = .returned (.bool false) ∧ Below w.heap.size w w' := by
  go_enter Try.func37, Try.ntmps37
  have HB := Lib.hid (Below.refl w.heap.size w)
  obtain ⟨N1, hN1⟩ : ∃ N, w.heap.size = N := ⟨_, rfl⟩
  have HN1 := Lib.hid hN1
  clear hN1
  go_wp2_with (refine wpList_box (op := ⟨some 1, _, _, _, _, _⟩) rfl 36 (.tmp 0) rfl (ajC a) rfl N1 HN1.out ?_; intro w1 k1 b1 s1; refine Hid.out ?_)
  refine Lib.hid ?_
  have K1 := Lib.hid k1
  clear k1
  have le_HB_N1 : w.heap.size ≤ N1 := by rw [← HN1.out]; exact HB.out.size
  have HBn := Lib.hid (HB.out.trans (b1.mono HB.out.size))
  clear HB
  have HB := HBn
  clear HBn
  clear b1 HN1
  have c0 : w1.cell? ⟨N1, 0, none⟩ = some (.int .i64 a.st) := (K1.out.cell 0).trans rfl
  go_wp2_with fail
  go_ret
  exact ⟨rfl, HB.out⟩
theorem isThere_any (a : Aj) (b : Bool) (hb : thB a.st = b) (w : World) : Calls Try.prog 37 #[.agg (ajC a)] w fun e w' => e = .returned (.bool b) ∧ Below w.heap.size w w' := by
  subst hb
  unfold thB
  cases h1 : a.st == 1
  · cases h2 : a.st == 0
    · exact isThere_no a w h1 h2
    · exact isThere_two a w h1 h2
  · exact isThere_one a w h1
set_option maxHeartbeats 8000000 in
set_option maxRecDepth 100000 in
theorem stateTo_any (a : Aj) (h : He) (v : Int) (w : World) (hp : byB a.p) (hs : byB h.s) : Calls Try.prog 28 #[.agg (ajC a), .agg (heC h), .int .i64 v] w fun e w' => e = .returned (.int .i64 (toS a h v)) ∧ Below w.heap.size w w' := by
  have HT : Hid (toS a h v = if thB a.st && (!eqY a.p h.s || (a.nu != h.nu || a.lv != v)) then 2 else a.st) := Lib.hid rfl
  obtain ⟨E, hE⟩ : ∃ E, toS a h v = E := ⟨_, rfl⟩
  rw [hE] at HT ⊢
  clear hE
  have HP := Lib.hid hp
  have HS := Lib.hid hs
  obtain ⟨b, hb⟩ : ∃ b, thB a.st = b := ⟨_, rfl⟩
  have D := Lib.hid (fun w => isThere_any a _ hb w)
  rw [hb] at HT
  clear hb hp hs
  obtain ⟨q, hq⟩ : ∃ q, eqY a.p h.s = q := ⟨_, rfl⟩
  have HQ := Lib.hid hq
  rw [hq] at HT
  clear hq
  go_enter Try.func28, Try.ntmps28
  have HB := Lib.hid (Below.refl w.heap.size w)
  obtain ⟨N1, hN1⟩ : ∃ N, w.heap.size = N := ⟨_, rfl⟩
  have HN1 := Lib.hid hN1
  clear hN1
  go_wp2_with (refine wpList_box (op := ⟨some 3, _, _, _, _, _⟩) rfl 36 (.tmp 0) rfl (ajC a) rfl N1 HN1.out ?_; intro w1 k1 b1 s1; refine Hid.out ?_)
  refine Lib.hid ?_
  have K1 := Lib.hid k1
  clear k1
  have le_HB_N1 : w.heap.size ≤ N1 := by rw [← HN1.out]; exact HB.out.size
  have HBn := Lib.hid (HB.out.trans (b1.mono HB.out.size))
  clear HB
  have HB := HBn
  clear HBn
  clear b1 HN1
  obtain ⟨N2, hN2⟩ : ∃ N, w1.heap.size = N := ⟨_, rfl⟩
  have HN2 := Lib.hid hN2
  clear hN2
  go_wp2_with (refine wpList_box (op := ⟨some 4, _, _, _, _, _⟩) rfl 34 (.tmp 1) rfl (heC h) rfl N2 HN2.out ?_; intro w2 k1 b1 s1; refine Hid.out ?_)
  refine Lib.hid ?_
  have K2 := Lib.hid k1
  clear k1
  have lt_N1_N2 : N1 < N2 := by rw [← HN2.out]; exact K1.out.lt
  have le_HB_N2 : w.heap.size ≤ N2 := by rw [← HN2.out]; exact HB.out.size
  have K1n := Lib.hid (K1.out.below b1 K1.out.lt)
  clear K1
  have K1 := K1n
  clear K1n
  have HBn := Lib.hid (HB.out.trans (b1.mono HB.out.size))
  clear HB
  have HB := HBn
  clear HBn
  clear b1 HN2
  go_wp2_with (refine wpList_ld (op := ⟨some 7, _, _, _, _, _⟩) (by rfl) 36 (.tmp 3) rfl N1 0 rfl (ajC a) _ K1.out.all Try.underlying36 rfl info_ajP ?_; refine Hid.out ?_)
  refine Lib.hid ?_
  go_wp2_with fail
  refine (D.out _).mono ?_
  rintro e w3 ⟨rfl, b1⟩
  have K1n := Lib.hid (K1.out.below b1 K1.out.lt)
  clear K1
  have K1 := K1n
  clear K1n
  have K2n := Lib.hid (K2.out.below b1 K2.out.lt)
  clear K2
  have K2 := K2n
  clear K2n
  have HBn := Lib.hid (HB.out.trans (b1.mono HB.out.size))
  clear HB
  have HB := HBn
  clear HBn
  have cK1_0 : w3.cell? ⟨N1, 0, none⟩ = some (.int .i64 a.st) := (K1.out.cell 0).trans rfl
  have cK1_7 : w3.cell? ⟨N1, 7, none⟩ = some (.int .u8 a.nu) := (K1.out.cell 7).trans rfl
  have cK1_8 : w3.cell? ⟨N1, 8, none⟩ = some (.int .i64 a.lv) := (K1.out.cell 8).trans rfl
  have cK2_6 : w3.cell? ⟨N2, 6, none⟩ = some (.int .u8 h.nu) := (K2.out.cell 6).trans rfl
  clear b1
  cases b
  · have HX : Hid (E = a.st) := Lib.hid (by rw [HT.out]; rfl)
    clear HT
    go_wp2_with fail
    go_ret
    exact ⟨by rw [HX.out]; rfl, HB.out⟩
  go_wp2_with (refine wpList_ld (op := ⟨some 11, _, _, _, _, _⟩) (by rfl) 23 (.tmp 10) rfl N1 1 rfl (syC a.p) _ K1.out.ajp Try.underlying23 rfl info_sys ?_; refine Hid.out ?_)
  refine Lib.hid ?_
  go_wp2_with (refine wpList_ld (op := ⟨some 13, _, _, _, _, _⟩) (by rfl) 23 (.tmp 12) rfl N2 0 rfl (syC h.s) _ K2.out.hes Try.underlying23 rfl info_sys ?_; refine Hid.out ?_)
  refine Lib.hid ?_
  go_wp2_with (refine wpList_gv (op := ⟨some 14, _, _, _, _, _⟩) _ (by rfl) (sys_neq _ _ _ _ _ rfl rfl a.p h.s HP.out HS.out rfl rfl _ HQ.out _) ?_; refine Hid.out ?_)
  refine Lib.hid ?_
  cases q
  · have HX : Hid (E = 2) := Lib.hid (by rw [HT.out]; rfl)
    clear HT
    go_wp2_with fail
    go_ret
    exact ⟨by rw [HX.out]; rfl, HB.out⟩
  cases g1 : a.nu != h.nu
  rotate_left
  · have HX : Hid (E = 2) := Lib.hid (by rw [HT.out, g1]; rfl)
    clear HT
    go_wp2_with fail
    go_ret
    exact ⟨by rw [HX.out]; rfl, HB.out⟩
  cases g2 : a.lv != v
  rotate_left
  · have HX : Hid (E = 2) := Lib.hid (by rw [HT.out, g1, g2]; rfl)
    clear HT
    go_wp2_with fail
    go_ret
    exact ⟨by rw [HX.out]; rfl, HB.out⟩
  have HX : Hid (E = a.st) := Lib.hid (by rw [HT.out, g1, g2]; rfl)
  clear HT
  go_wp2_with fail
  go_ret
  exact ⟨by rw [HX.out]; rfl, HB.out⟩
set_option maxRecDepth 100000 in
theorem stateOf_any (h : He) (w : World) : Calls Try.prog 29 #[.agg (heC h)] w fun e w' => e = .returned (.int .i64 (ofS h)) ∧ Below w.heap.size w w' := by
  have HT : Hid (ofS h = if h.nm then h.st else 2) := Lib.hid rfl
  obtain ⟨E, hE⟩ : ∃ E, ofS h = E := ⟨_, rfl⟩
  rw [hE] at HT ⊢
  clear hE
  go_enter Try.func29, Try.ntmps29
  have HB := Lib.hid (Below.refl w.heap.size w)
  obtain ⟨N1, hN1⟩ : ∃ N, w.heap.size = N := ⟨_, rfl⟩
  have HN1 := Lib.hid hN1
  clear hN1
  go_wp2_with (refine wpList_box (op := ⟨some 1, _, _, _, _, _⟩) rfl 34 (.tmp 0) rfl (heC h) rfl N1 HN1.out ?_; intro w1 k1 b1 s1; refine Hid.out ?_)
  refine Lib.hid ?_
  have K1 := Lib.hid k1
  clear k1
  have le_HB_N1 : w.heap.size ≤ N1 := by rw [← HN1.out]; exact HB.out.size
  have HBn := Lib.hid (HB.out.trans (b1.mono HB.out.size))
  clear HB
  have HB := HBn
  clear HBn
  clear b1 HN1
  have cK1_11 : w1.cell? ⟨N1, 11, none⟩ = some (.bool h.nm) := (K1.out.cell 11).trans rfl
  have cK1_10 : w1.cell? ⟨N1, 10, none⟩ = some (.int .i64 h.st) := (K1.out.cell 10).trans rfl
  obtain ⟨b, hb⟩ : ∃ b, h.nm = b := ⟨_, rfl⟩
  rw [hb] at cK1_11 HT
  clear hb
  cases b
  · have HX : Hid (E = 2) := Lib.hid (by rw [HT.out]; rfl)
    clear HT
    go_wp2_with fail
    go_ret
    exact ⟨by rw [HX.out]; rfl, HB.out⟩
  · have HX : Hid (E = h.st) := Lib.hid (by rw [HT.out]; rfl)
    clear HT
    go_wp2_with fail
    go_ret
    exact ⟨by rw [HX.out]; rfl, HB.out⟩
theorem behind_any (s t : Int) (w : World) : Calls Try.prog 27 #[.int .i64 s, .int .i64 t] w fun e w' => e = .returned (.int .i64 (behS s t)) ∧ w = w' := by
  have HT : Hid (behS s t = if t == 2 then 1 else if t == 0 && s == 2 then 2 else 0) := Lib.hid rfl
  obtain ⟨E, hE⟩ : ∃ E, behS s t = E := ⟨_, rfl⟩
  rw [hE] at HT ⊢
  clear hE
  cases h1 : t == 2
  · cases h2 : t == 0
    · have HX : Hid (E = 0) := Lib.hid (by rw [HT.out, h1, h2]; rfl)
      clear HT
      go_enter Try.func27, Try.ntmps27
      go_wp2
      go_ret
      exact ⟨by rw [HX.out]; rfl, rfl⟩
    · cases h3 : s == 2
      · have HX : Hid (E = 0) := Lib.hid (by rw [HT.out, h1, h2, h3]; rfl)
        clear HT
        go_enter Try.func27, Try.ntmps27
        go_wp2
        go_ret
        exact ⟨by rw [HX.out]; rfl, rfl⟩
      · have HX : Hid (E = 2) := Lib.hid (by rw [HT.out, h1, h2, h3]; rfl)
        clear HT
        go_enter Try.func27, Try.ntmps27
        go_wp2
        go_ret
        exact ⟨by rw [HX.out]; rfl, rfl⟩
  · have HX : Hid (E = 1) := Lib.hid (by rw [HT.out, h1]; rfl)
    clear HT
    go_enter Try.func27, Try.ntmps27
    go_wp2
    go_ret
    exact ⟨by rw [HX.out]; rfl, rfl⟩
theorem build_down (o : Oper) (e : Operand → Value) (t : TypeId) (x : Operand) (ho : o.op = .build 36 #[(0, x)]) (h0 : e x = .int .i64 2) (W : World) : (execOp e o).run Try.prog W = .ok (.value (.agg (ajC ajD))) W := by
  unfold execOp
  simp only [ho]
  simp only [List.map_toArray, List.map_cons, List.map_nil, h0]
  kernel_rfl
set_option maxRecDepth 100000 in
theorem down_any (w : World) : Calls Try.prog 26 #[] w fun e w' => e = .returned (.agg (ajC ajD)) ∧ Below w.heap.size w w' := by
  go_enter Try.func26, Try.ntmps26
  have HB := Lib.hid (Below.refl w.heap.size w)
  obtain ⟨N1, hN1⟩ : ∃ N, w.heap.size = N := ⟨_, rfl⟩
  have HN1 := Lib.hid hN1
  clear hN1
  go_wp2_with (refine wpList_new (op := ⟨some 0, _, _, _, _, _⟩) rfl 36 rfl (ajC aj0) zero_ajP N1 HN1.out ?_; intro w1 k1 b1 s1; refine Hid.out ?_)
  refine Lib.hid ?_
  have K1 := Lib.hid k1
  clear k1
  have le_HB_N1 : w.heap.size ≤ N1 := by rw [← HN1.out]; exact HB.out.size
  have HBn := Lib.hid (HB.out.trans (b1.mono HB.out.size))
  clear HB
  have HB := HBn
  clear HBn
  clear b1 HN1
  go_wp2_with (refine wpList_v (op := ⟨some 1, _, _, _, _, _⟩) rfl _ (build_down _ _ 0 _ rfl rfl _) ?_; refine Hid.out ?_)
  refine Lib.hid ?_
  go_wp2_with (refine wpList_st rfl 36 (.tmp 0) (.tmp 1) rfl N1 0 rfl (.agg (ajC ajD)) (ajC ajD) rfl rfl info_ajP (ajC_one _) K1.out (Nat.le_of_ble_eq_true rfl) (C' := ajC ajD) (by kernel_rfl) ?_; intro w2 q1; refine Hid.out ?_)
  refine Lib.hid ?_
  have HBn := Lib.hid (HB.out.trans (q1.2.1 _ (by omega)))
  clear HB
  have HB := HBn
  clear HBn
  have K1n : Hid (Blk 36 w2 N1 (ajC ajD)) := Lib.hid q1.1
  clear K1
  have K1 := K1n
  clear K1n q1
  go_wp2_with fail
  exact bodyPost_ret (results_1 rfl _ w2 N1 (ajC ajD) Try.underlying36 rfl info_ajP rfl K1.out) rfl ⟨rfl, HB.out⟩
end Go.Proofs.Ytcngkfmjngeofaa
