/- Texts of this claim put together; each theorem states its conditions. -/
import Derived.WalkKit
import Derived.Laws.BitsAllLaws
import Derived.Laws.BitsLemmas
import Derived.Below
import Derived.Test.YtfojfdlapekjoaaRows
import Derived.WalkLawsBesides
import Derived.WalkSpells
import Derived.IntWalk
import Derived.Outline
import Derived.Lib.Hide
import Derived.Maps.AppendAt
import Derived.Laws.AppendOwnNone
import Derived.OwnWalk
import Derived.LoopN
import Derived.RegionTactic
import Derived.ChangeAlike
import Derived.Deep.MidRow
import Derived.Deep.AppendLies
import Derived.Lib.SliceRun
import Derived.Laws.MakeOwn
import Derived.Deep.QuietTactic
import Derived.Deep.RegionWith
import Derived.BigQuiet
import Derived.Deep.RegionHeld3
/- Plain facts about numbers, bytes and check bytes, without any program. Each theorem states its conditions. -/
namespace Go.Proofs.Ytfojfdlapekjoaa
open Go.RowKit
set_option linter.unusedVariables false

theorem ret_u32 {a b : Int} (h : a = b) : Ending.returned (.int .u32 a) = .returned (.int .u32 b) := by rw [h]
theorem ret_int {a b : Int} (h : a = b) : Ending.returned (.int .i64 a) = .returned (.int .i64 b) := by rw [h]
theorem ret_bool {a b : Bool} (h : a = b) : Ending.returned (.bool a) = .returned (.bool b) := by rw [h]

/-- the number of the bytes z(s), .., k of them -/
def numZ (z : Nat → Int) (s : Nat) : Nat → Int
  | 0 => 0
  | k + 1 => numZ z s k * 256 + z (s + k)

theorem numZ_lt (z : Nat → Int) (s k : Nat) (hz : ∀ j, 0 ≤ z j ∧ z j ≤ 255) : 0 ≤ numZ z s k ∧ numZ z s k < 256 ^ k := by
  induction k with
  | zero => simp [numZ]
  | succ k ih =>
    have := hz (s + k)
    simp only [numZ, Int.pow_succ]
    omega

theorem numZ_56 (z : Nat → Int) (s k : Nat) (hk : k ≤ 7) (hz : ∀ j, 0 ≤ z j ∧ z j ≤ 255) : 0 ≤ numZ z s k ∧ numZ z s k ≤ 72057594037927935 := by
  have h := numZ_lt z s k hz
  have : (256 : Int) ^ k ≤ 256 ^ 7 := by
    clear h
    rcases (by omega : k = 0 ∨ k = 1 ∨ k = 2 ∨ k = 3 ∨ k = 4 ∨ k = 5 ∨ k = 6 ∨ k = 7) with rfl | rfl | rfl | rfl | rfl | rfl | rfl | rfl <;> decide
  have e : (256 : Int) ^ 7 = 72057594037927936 := by decide
  omega

theorem numZ_64 (z : Nat → Int) (s k : Nat) (hk : k ≤ 8) (hz : ∀ j, 0 ≤ z j ∧ z j ≤ 255) : 0 ≤ numZ z s k ∧ numZ z s k ≤ 18446744073709551615 := by
  have h := numZ_lt z s k hz
  have : (256 : Int) ^ k ≤ 256 ^ 8 := by
    clear h
    rcases (by omega : k = 0 ∨ k = 1 ∨ k = 2 ∨ k = 3 ∨ k = 4 ∨ k = 5 ∨ k = 6 ∨ k = 7 ∨ k = 8) with rfl | rfl | rfl | rfl | rfl | rfl | rfl | rfl | rfl <;> decide
  have e : (256 : Int) ^ 8 = 18446744073709551616 := by decide
  omega

theorem shl_or (n b : Int) (h0 : 0 ≤ n) (h1 : n ≤ 72057594037927935) (hb : 0 ≤ b ∧ b ≤ 255) : bits .or .u64 (IntKind.u64.wrap (n * 256)) b = n * 256 + b := by
  have e : IntKind.u64.wrap (n * 256) = n * 256 := by rw [IntKind.wrap_u64]; omega
  rw [e, u64_or _ _ (by omega) (by omega) (by omega) (by omega), nat_join 8 _ _ (by omega) (by omega)]
  omega

theorem numZ_step (z : Nat → Int) (s k : Nat) (hk : k ≤ 7) (hz : ∀ j, 0 ≤ z j ∧ z j ≤ 255) :
    bits .or .u64 (IntKind.u64.wrap (numZ z s k * 256)) (z (s + k)) = numZ z s (k + 1) := by
  have h := numZ_56 z s k hk hz
  rw [shl_or _ _ h.1 h.2 (hz _)]; rfl

/-- the sum of the first k bytes, without the two at s and s + 1 -/
def sumA (z : Nat → Int) (s : Nat) : Nat → Int
  | 0 => 0
  | k + 1 => if k = s ∨ k = s + 1 then sumA z s k else sumA z s k + z k

/-- the same, each byte times how many stand from it on, of n -/
def sumB (z : Nat → Int) (s n : Nat) : Nat → Int
  | 0 => 0
  | k + 1 => if k = s ∨ k = s + 1 then sumB z s n k else sumB z s n k + z k * ((n : Int) - k)

theorem sumA_skip (z : Nat → Int) (s k : Nat) (h : k = s ∨ k = s + 1) : sumA z s (k + 1) = sumA z s k := by simp [sumA, h]
theorem sumA_take (z : Nat → Int) (s k : Nat) (h : ¬ (k = s ∨ k = s + 1)) : sumA z s (k + 1) = sumA z s k + z k := by simp [sumA, h]
theorem sumB_skip (z : Nat → Int) (s n k : Nat) (h : k = s ∨ k = s + 1) : sumB z s n (k + 1) = sumB z s n k := by simp [sumB, h]
theorem sumB_take (z : Nat → Int) (s n k : Nat) (h : ¬ (k = s ∨ k = s + 1)) : sumB z s n (k + 1) = sumB z s n k + z k * ((n : Int) - k) := by simp [sumB, h]
theorem sumA_bd (z : Nat → Int) (s k : Nat) (hz : ∀ j, 0 ≤ z j ∧ z j ≤ 255) : 0 ≤ sumA z s k ∧ sumA z s k ≤ 255 * k := by
  induction k with
  | zero => simp [sumA]
  | succ k ih =>
    have := hz k
    simp only [sumA]
    split <;> omega

theorem mul_bd (a b : Int) (c d : Int) (h0 : 0 ≤ a) (h1 : a ≤ c) (h2 : 0 ≤ b) (h3 : b ≤ d) : 0 ≤ a * b ∧ a * b ≤ c * d :=
  ⟨Int.mul_nonneg h0 h2, Int.mul_le_mul h1 h3 h2 (by omega)⟩

theorem sumB_bd (z : Nat → Int) (s n k : Nat) (hz : ∀ j, 0 ≤ z j ∧ z j ≤ 255) (hn : n ≤ 1492) (hk : k ≤ n) : 0 ≤ sumB z s n k ∧ sumB z s n k ≤ 380460 * k := by
  induction k with
  | zero => simp [sumB]
  | succ k ih =>
    have := hz k
    have h1 := mul_bd (z k) ((n : Int) - k) 255 1492 this.1 this.2 (by omega) (by omega)
    have := ih (by omega)
    simp only [sumB]
    split <;> omega

/-- the number from 1 to 255 that is n modulo 255 -/
def cbI (n : Int) : Int := (n - 1) % 255 + 1
theorem cbI_bd (n : Int) : 1 ≤ cbI n ∧ cbI n ≤ 255 := by unfold cbI; omega
theorem cbI_of {n r : Int} (h : (r - n) % 255 = 0) (h1 : 1 ≤ r) (h2 : r ≤ 255) : cbI n = r := by unfold cbI; omega
theorem tmod_parts (n : Int) : ∃ q, n = 255 * q + n.tmod 255 ∧ -255 < n.tmod 255 ∧ n.tmod 255 < 255 :=
  ⟨n.tdiv 255, (Int.mul_tdiv_add_tmod n 255).symm, Int.lt_tmod_of_pos n (by omega), Int.tmod_lt_of_pos n (by omega)⟩
theorem tmod_bd (n : Int) : -255 < n.tmod 255 ∧ n.tmod 255 < 255 := ⟨Int.lt_tmod_of_pos n (by omega), Int.tmod_lt_of_pos n (by omega)⟩
theorem cbI_tmod_lo (n : Int) (h : n.tmod 255 ≤ 0) : n.tmod 255 + 255 = cbI n := by
  obtain ⟨q, h1, h2, h3⟩ := tmod_parts n
  generalize n.tmod 255 = r at *
  unfold cbI
  omega
theorem cbI_tmod_hi (n : Int) (h : 0 < n.tmod 255) : n.tmod 255 = cbI n := by
  obtain ⟨q, h1, h2, h3⟩ := tmod_parts n
  generalize n.tmod 255 = r at *
  unfold cbI
  omega

theorem u16_join (x y : Int) (hx : 1 ≤ x ∧ x ≤ 255) (hy : 1 ≤ y ∧ y ≤ 255) : bits .or .u16 (IntKind.u16.wrap (x * 256)) y = x * 256 + y := by
  have e : IntKind.u16.wrap (x * 256) = x * 256 := by rw [IntKind.wrap_u16]; omega
  rw [e, u16_or _ _ (by omega) (by omega) (by omega) (by omega), nat_join 8 _ _ (by omega) (by omega)]
  omega

theorem u16_join' (x y : Int) (hx : 1 ≤ x ∧ x ≤ 255) (hy : 1 ≤ y ∧ y ≤ 255) : bits .or .u16 (x * 256) y = x * 256 + y := by
  rw [u16_or _ _ (by omega) (by omega) (by omega) (by omega), nat_join 8 _ _ (by omega) (by omega)]
  omega
theorem ret2_eq {a b : Value} (h : a = b) (c : Value) : Ending.returned (.tuple #[a, c]) = .returned (.tuple #[b, c]) := by rw [h]
theorem u16_eq {a b : Int} (h : a = b) : Value.int .u16 a = .int .u16 b := by rw [h]

/-- the two check bytes -/
def chkX (z : Nat → Int) (s n : Nat) : Int := cbI (sumA z s n * ((n : Int) - s - 1) - sumB z s n n)
def chkY (z : Nat → Int) (s n : Nat) : Int := cbI (- sumA z s n - chkX z s n)
def chk (z : Nat → Int) (s n : Nat) : Int := chkX z s n * 256 + chkY z s n

/-- the letter of a digit to the base 16 -/
def hxI (k : Int) : Int := if k < 10 then 48 + k else 87 + k
theorem hx_at (k : Int) (h0 : 0 ≤ k) (h1 : k < 16) (h : k.toNat < (ByteArray.mk #[48, 49, 50, 51, 52, 53, 54, 55, 56, 57, 97, 98, 99, 100, 101, 102]).size) :
    (((ByteArray.mk #[48, 49, 50, 51, 52, 53, 54, 55, 56, 57, 97, 98, 99, 100, 101, 102])[k.toNat]'h).toNat : Int) = hxI k := by
  rcases (by omega : k = 0 ∨ k = 1 ∨ k = 2 ∨ k = 3 ∨ k = 4 ∨ k = 5 ∨ k = 6 ∨ k = 7 ∨ k = 8 ∨ k = 9 ∨ k = 10 ∨ k = 11 ∨ k = 12 ∨ k = 13 ∨ k = 14 ∨ k = 15) with rfl | rfl | rfl | rfl | rfl | rfl | rfl | rfl | rfl | rfl | rfl | rfl | rfl | rfl | rfl | rfl <;> rfl
/-- the text of a name -/
def nameI (b0 b1 b2 b3 b4 b5 : Int) : List Int :=
  [hxI (b0 / 16), hxI (b0 % 16), hxI (b1 / 16), hxI (b1 % 16), 46, hxI (b2 / 16), hxI (b2 % 16), hxI (b3 / 16), hxI (b3 % 16), 46, hxI (b4 / 16), hxI (b4 % 16), hxI (b5 / 16), hxI (b5 % 16)]

/-- what a walk is told of a slice of integers that came in: nil, or a row of cap cells, the numbers zs (the first len are its elements) -/
def IsRow (k : IntKind) (w : World) (a : Option Addr) (len cap : Nat) (zs : List Int) : Prop :=
  (a = none ∧ len = 0 ∧ cap = 0 ∧ zs = []) ∨
  ∃ x, a = some x ∧ len ≤ cap ∧ cap ≤ maxLen ∧ zs.length = cap ∧ (∀ i, i < zs.length → w.cell? (x.add i) = some (.int k (zs.getD i 0))) ∧ ∀ n ∈ zs, (Lit.int k n).wf = true

theorem wf_u8 {n : Int} (h : (Lit.int .u8 n).wf = true) : 0 ≤ n ∧ n ≤ 255 := by
  simp [Lit.wf, IntKind.min, IntKind.max, IntKind.bits, IntKind.signed] at h; omega
theorem wf_u16 {n : Int} (h : (Lit.int .u16 n).wf = true) : 0 ≤ n ∧ n ≤ 65535 := by
  simp [Lit.wf, IntKind.min, IntKind.max, IntKind.bits, IntKind.signed] at h; omega
theorem wf_u32 {n : Int} (h : (Lit.int .u32 n).wf = true) : 0 ≤ n ∧ n ≤ 4294967295 := by
  simp [Lit.wf, IntKind.min, IntKind.max, IntKind.bits, IntKind.signed] at h; omega
theorem wf_u64 {n : Int} (h : (Lit.int .u64 n).wf = true) : 0 ≤ n ∧ n ≤ 18446744073709551615 := by
  simp [Lit.wf, IntKind.min, IntKind.max, IntKind.bits, IntKind.signed] at h; omega
theorem wf_i64 {n : Int} (h : (Lit.int .i64 n).wf = true) : -9223372036854775808 ≤ n ∧ n ≤ 9223372036854775807 := by
  simp [Lit.wf, IntKind.min, IntKind.max, IntKind.bits, IntKind.signed] at h; omega

theorem bnext {a w w' : World} (h : Below a.heap.size a w) (hb : Below w.heap.size w w') : Below a.heap.size a w' := h.trans (hb.mono h.size)
theorem balloc {a w : World} (h : Below a.heap.size a w) (o : Obj) : Below a.heap.size a (w.alloc o) := h.alloc h.size o
theorem bself (w : World) : Below w.heap.size w w := Below.refl _ _

/-- a row of n bytes z(0), .. from ⟨b, off⟩ on -/
def Row8 (w : World) (b off n : Nat) (z : Nat → Int) : Prop :=
  b < w.heap.size ∧ (∀ j, j < n → w.cell? ⟨b, off + j, none⟩ = some (.int .u8 (z j))) ∧ ∀ j, 0 ≤ z j ∧ z j ≤ 255

theorem cell_lt {w : World} {p : Addr} {v : Value} (h : w.cell? p = some v) : p.block < w.heap.size := by
  rcases Nat.lt_or_ge p.block w.heap.size with hl | hg
  · exact hl
  · simp [World.cell?, Array.getElem?_eq_none hg] at h

theorem Row8.below {w w' : World} {b off n B : Nat} {z : Nat → Int} (h : Row8 w b off n z) (hb : Below B w w') (hB : b < B) : Row8 w' b off n z := by
  refine ⟨?_, fun j hj => (hb.cell (p := ⟨b, off + j, none⟩) hB).trans (h.2.1 j hj), h.2.2⟩
  have := hb.size
  have := h.1
  omega

theorem isRow_open {w : World} {a : Option Addr} {len cap : Nat} {zs : List Int} (h : IsRow .u8 w a len cap zs) (h0 : 0 < len) :
    ∃ b off, a = some ⟨b, off, none⟩ ∧ len ≤ cap ∧ cap ≤ maxLen ∧ Row8 w b off len (fun j => zs.getD j 0) := by
  rcases h with ⟨_, hl, _⟩ | ⟨x, rfl, hlc, hm, hz, hc, hwf⟩
  · omega
  · obtain ⟨b, off, spot⟩ := x
    have hc0 := hc 0 (by omega)
    have hs : spot = none := by simpa [Addr.add] using World.cell?_spot hc0
    subst hs
    have hadd : ∀ j, (⟨b, off, none⟩ : Addr).add j = ⟨b, off + j, none⟩ := fun j => by unfold Addr.add; split <;> simp_all
    refine ⟨b, off, rfl, hlc, hm, ?_, fun j hj => ?_, fun j => ?_⟩
    · have := cell_lt hc0
      simpa [hadd] using this
    · rw [← hadd]; exact hc j (by omega)
    · rcases Nat.lt_or_ge j zs.length with hj | hj
      · have := hwf zs[j] (by simp)
        have := wf_u8 this
        simpa [List.getD, List.getElem?_eq_getElem hj] using this
      · simp [List.getD, List.getElem?_eq_none hj]

theorem isRow_len {w : World} {k : IntKind} {a : Option Addr} {len cap : Nat} {zs : List Int} (h : IsRow k w a len cap zs) : len ≤ cap ∧ cap ≤ maxLen := by
  rcases h with ⟨_, rfl, rfl, _⟩ | ⟨x, rfl, hlc, hm, hz, hc, hwf⟩
  · simp
  · exact ⟨hlc, hm⟩

theorem numZ_add (z : Nat → Int) (s x y : Nat) : numZ z s (x + y) = numZ z s x * 256 ^ y + numZ z (s + x) y := by
  induction y with
  | zero => simp [numZ]
  | succ y ih =>
    show numZ z s (x + y) * 256 + z (s + (x + y)) = _
    rw [ih]
    simp only [numZ, Int.pow_succ, Nat.add_assoc]
    rw [Int.add_mul, Int.mul_assoc, Int.add_assoc]

theorem or_join (h l P : Int) (i : Nat) (hP : P = 2 ^ i) (h0 : 0 ≤ h) (h1 : h * P ≤ 18446744073709551615) (l0 : 0 ≤ l) (l1 : l < P) (hi : P ≤ 18446744073709551615) :
    bits .or .u64 (h * P) l = h * P + l := by
  have hm : 0 ≤ h * P := Int.mul_nonneg h0 (by omega)
  obtain ⟨n, rfl⟩ := Int.eq_ofNat_of_zero_le h0
  obtain ⟨m, rfl⟩ := Int.eq_ofNat_of_zero_le l0
  have hP' : P = ((2 ^ i : Nat) : Int) := by rw [hP]; simp
  subst hP'
  have e : ((n : Int) * ((2 ^ i : Nat) : Int)) = ((n * 2 ^ i : Nat) : Int) := by simp
  rw [e] at h1 hm ⊢
  rw [u64_or _ _ hm (by omega) (by omega) (by omega)]
  simp only [Int.toNat_natCast]
  rw [nat_join i _ _ (Nat.mul_mod_left _ _) (by omega)]
  simp
end Go.Proofs.Ytfojfdlapekjoaa

/- octet.Num answers the number of the bytes, where the place and the count lie within. Each theorem states its conditions. -/
namespace Go.Proofs.Ytfojfdlapekjoaa
open Go.RowKit
set_option linter.unusedVariables false

theorem num_ok (b off len cap : Nat) (z : Nat → Int) (i k : Int) (w : World)
    (hz : ∀ j, 0 ≤ z j ∧ z j ≤ 255) (hm : cap ≤ maxLen) (hlc : len ≤ cap)
    (hc : ∀ j, j < len → w.cell? ⟨b, off + j, none⟩ = some (.int .u8 (z j)))
    (hk1 : 1 ≤ k) (hk8 : k ≤ 8) (hi0 : 0 ≤ i) (hik : i ≤ len - k) :
    Calls Try.prog 71 #[.slice (some ⟨b, off, none⟩) len cap, .int .i64 i, .int .i64 k] w fun e w' => e = .returned (.tuple #[.int .u64 (numZ z i.toNat k.toNat), .int .i64 0]) ∧ w = w' := by
  obtain ⟨n, rfl⟩ := Int.eq_ofNat_of_zero_le hi0
  obtain ⟨m, rfl⟩ := Int.eq_ofNat_of_zero_le (show 0 ≤ k by omega)
  unfold maxLen at hm
  go_enter Try.func71, Try.ntmps71
  go_wp2
  go_loop [8, 34] (fun v i => ∃ c : Nat, c ≤ m ∧ i = .int .i64 c ∧ v = .int .u64 (numZ z n c)) (fun _ i => m - (intOf i).toNat)
  case atStart => exact ⟨0, Nat.zero_le _, rfl, rfl⟩
  case round =>
    obtain ⟨c, hcm, rfl, rfl⟩ := hrel
    by_cases hlt : c < m
    · have hcell := hc (n + c) (by omega)
      rw [← Nat.add_assoc] at hcell
      have hb := hz (n + c)
      have hs := Lib.hid (numZ_step z n c (by omega) hz)
      go_wp2
      go_round
      case rel => exact ⟨c + 1, by omega, by go_num, by rw [hs.out]⟩
      case measure => simp [intOf]; omega
    · obtain rfl : c = m := by omega
      go_wp2
      go_ret2
      exact ⟨rfl, rfl⟩
end Go.Proofs.Ytfojfdlapekjoaa

/- Rows of bytes that a call reads or makes: what is known of them, and what becomes of it. Twin answers a row of its own. Each theorem states its conditions. -/
namespace Go.Proofs.Ytfojfdlapekjoaa
open Go.RowKit
set_option linter.unusedVariables false

/-- block g is a row of bytes of the call's own: cap cells, the first n are z(0), .. -/
def Own8 (w : World) (g n cap : Nat) (z : Nat → Int) : Prop :=
  (∃ cur : Array Value, w.heap[g]? = some (.cells cur 5 (0, 0)) ∧ n ≤ cap ∧ cap ≤ maxLen ∧ cur.size = cap ∧ ∀ j, j < n → cur[j]? = some (.int .u8 (z j))) ∧ ∀ j, 0 ≤ z j ∧ z j ≤ 255

/-- bytes that can be read: none, or a row -/
def Rd (w : World) (A : Option Addr) (n : Nat) (z : Nat → Int) : Prop :=
  (n = 0 ∨ ∃ b off, A = some ⟨b, off, none⟩ ∧ Row8 w b off n z) ∧ ∀ j, 0 ≤ z j ∧ z j ≤ 255

section
variable {w w' : World} {g n cap b off : Nat} {z : Nat → Int} {A : Option Addr}

theorem Own8.lt (h : Own8 w g n cap z) : g < w.heap.size := by
  obtain ⟨⟨cur, hg, _⟩, _⟩ := h
  exact (Array.getElem?_eq_some_iff.1 hg).1
theorem Own8.row (h : Own8 w g n cap z) : Row8 w g 0 n z := by
  refine ⟨h.lt, fun j hj => ?_, h.2⟩
  obtain ⟨⟨cur, hg, _, _, _, hc⟩, _⟩ := h
  rw [Nat.zero_add, cell_of_row w g j cur 5 (0, 0) hg]
  exact hc j hj
theorem Own8.caps (h : Own8 w g n cap z) : n ≤ cap ∧ cap ≤ maxLen := by
  obtain ⟨⟨cur, hg, h1, h2, _⟩, _⟩ := h
  exact ⟨h1, h2⟩
theorem Own8.free (h : Own8 w g n cap z) (j : Nat) : w.frozen? ⟨g, j, none⟩ = false := by
  obtain ⟨⟨cur, hg, _⟩, _⟩ := h
  simp [World.frozen?, hg]
theorem Own8.block (h : Own8 w g n cap z) (hb : w'.heap[g]? = w.heap[g]?) : Own8 w' g n cap z := by
  obtain ⟨⟨cur, hg, h1⟩, h2⟩ := h
  exact ⟨⟨cur, hb.trans hg, h1⟩, h2⟩
theorem Own8.below {B : Nat} (h : Own8 w g n cap z) (hb : Below B w w') (hB : g < B) : Own8 w' g n cap z := h.block (hb.block g hB)
theorem Own8.grown {row : Option Nat} (h : Own8 w g n cap z) (hb : w.grownBy w' row) (hne : some g ≠ row) : Own8 w' g n cap z := h.block (hb.block g h.lt hne)
theorem Own8.alloc (h : Own8 w g n cap z) (o : Obj) : Own8 (w.alloc o) g n cap z := h.block (Below.heap_alloc w o g h.lt)
theorem Own8.far (h : Own8 w g n cap z) {p : Addr} (hp : g ≠ p.block) (u : Value) : Own8 (w.setCell p u) g n cap z := h.block (Below.heap_setCell w p u g hp)
/-- a byte is written -/
def upd (z : Nat → Int) (k : Nat) (v : Int) : Nat → Int := fun j => if j = k then v else z j
theorem upd_same (z : Nat → Int) (k : Nat) (v : Int) : upd z k v k = v := by simp [upd]
theorem upd_other (z : Nat → Int) (k j : Nat) (v : Int) (h : j ≠ k) : upd z k v j = z j := by simp [upd, h]
theorem upd_bd (hz : ∀ j, 0 ≤ z j ∧ z j ≤ 255) (k : Nat) (v : Int) (hv : 0 ≤ v ∧ v ≤ 255) : ∀ j, 0 ≤ upd z k v j ∧ upd z k v j ≤ 255 := by
  intro j; unfold upd; split; exact hv; exact hz j
theorem Own8.put (h : Own8 w g n cap z) (k : Nat) (hk : k < n) (v : Int) (hv : 0 ≤ v ∧ v ≤ 255) : Own8 (w.setCell ⟨g, k, none⟩ (.int .u8 v)) g n cap (upd z k v) := by
  obtain ⟨⟨cur, hg, h1, h2, h3, h4⟩, h5⟩ := h
  refine ⟨⟨cur.setIfInBounds k (.int .u8 v), ?_, h1, h2, by simpa using h3, fun j hj => ?_⟩, upd_bd h5 k v hv⟩
  · simp [World.setCell, Array.getElem?_modify, hg]
  · rw [Array.getElem?_setIfInBounds]
    by_cases e : k = j
    · subst e
      rw [if_pos rfl, if_pos (by omega), upd_same]
    · rw [if_neg e, upd_other z k j v (fun x => e x.symm)]
      exact h4 j hj
theorem Own8.cut (h : Own8 w g n cap z) (m : Nat) (hm : m ≤ n) : Own8 w g m cap z := by
  obtain ⟨⟨cur, hg, h1, h2, h3, h4⟩, h5⟩ := h
  exact ⟨⟨cur, hg, by omega, h2, h3, fun j hj => h4 j (by omega)⟩, h5⟩
theorem own_at (h : Own8 w g n cap z) (j : Nat) (hj : j < n) : w.cell? ⟨g, j, none⟩ = some (.int .u8 (z j)) := by
  have := h.row.2.1 j hj
  rwa [Nat.zero_add] at this
theorem Own8.rd (h : Own8 w g n cap z) : Rd w (some ⟨g, 0, none⟩) n z := ⟨.inr ⟨g, 0, rfl, h.row⟩, h.2⟩

theorem Rd.below {B : Nat} (h : Rd w A n z) (hb : Below B w w') (hB : B = w.heap.size) : Rd w' A n z := by
  refine ⟨?_, h.2⟩
  rcases h.1 with h0 | ⟨b, off, rfl, hr⟩
  · exact .inl h0
  · exact .inr ⟨b, off, rfl, hr.below hb (by have := hr.1; omega)⟩
theorem Rd.cut (h : Rd w A n z) (m : Nat) (hm : m ≤ n) : Rd w A m z := by
  refine ⟨?_, h.2⟩
  rcases h.1 with h0 | ⟨b, off, rfl, hr⟩
  · exact .inl (by omega)
  · exact .inr ⟨b, off, rfl, hr.1, fun j hj => hr.2.1 j (by omega), hr.2.2⟩
theorem Rd.row (h : Rd w A n z) (hn : 0 < n) : ∃ b off, A = some ⟨b, off, none⟩ ∧ Row8 w b off n z := by
  rcases h.1 with h0 | h1
  · omega
  · exact h1

theorem isRow_rd {len : Nat} {zs : List Int} (h : IsRow .u8 w A len cap zs) : Rd w A len (fun j => zs.getD j 0) ∧ (A = none → len = 0 ∧ cap = 0) := by
  rcases Nat.eq_zero_or_pos len with h0 | h0
  · refine ⟨⟨.inl h0, fun j => ?_⟩, fun hA => ?_⟩
    · rcases h with ⟨rfl, _, _, rfl⟩ | ⟨x, rfl, hlc, hm, hz, hc, hwf⟩
      · simp
      · rcases Nat.lt_or_ge j zs.length with hj | hj
        · have := wf_u8 (hwf zs[j] (by simp))
          simpa [List.getD, List.getElem?_eq_getElem hj] using this
        · simp [List.getD, List.getElem?_eq_none hj]
    · rcases h with ⟨rfl, h1, h2, rfl⟩ | ⟨x, rfl, _⟩
      · exact ⟨h1, h2⟩
      · cases hA
  · obtain ⟨b, off, rfl, _, _, hr⟩ := isRow_open h h0
    exact ⟨⟨.inr ⟨b, off, rfl, hr⟩, hr.2.2⟩, fun hA => by cases hA⟩
end

/-- the bytes as a list of values -/
def vals (z : Nat → Int) (n : Nat) : List Value := (List.range n).map fun j => .int .u8 (z j)
theorem vals_len (z : Nat → Int) (n : Nat) : (vals z n).length = n := by simp [vals]
theorem vals_at (z : Nat → Int) (n j : Nat) (h : j < n) : (vals z n)[j]? = some (.int .u8 (z j)) := by simp [vals, h]
theorem vals_at' (z : Nat → Int) (n j : Nat) (u : Value) (h : (vals z n)[j]? = some u) : j < n ∧ u = .int .u8 (z j) := by
  have hj : j < n := by
    rcases Nat.lt_or_ge j n with hl | hg
    · exact hl
    · rw [List.getElem?_eq_none (by simpa [vals] using hg)] at h; cases h
  rw [vals_at z n j hj] at h
  exact ⟨hj, by cases h; rfl⟩
theorem vals_one (z : Nat → Int) (n : Nat) : ∀ u ∈ vals z n, u.oneCell' = true := by
  intro u hu
  simp only [vals, List.mem_map] at hu
  obtain ⟨j, _, rfl⟩ := hu
  rfl

theorem own_of {w : World} {base n : Nat} {v : Value} {xs : List Value} {z : Nat → Int} (h : w.ownsRow base 5 1 v n xs) (hxs : xs = vals z n) (hv : v ≠ .slice none 0 0) (hz : ∀ j, 0 ≤ z j ∧ z j ≤ 255) :
    ∃ g cap, v = .slice (some ⟨g, 0, none⟩) n cap ∧ base ≤ g ∧ Own8 w g n cap z := by
  subst hxs
  rcases h.2 with ⟨hv', _⟩ | ⟨g, cap, cur, rfl, hb, hg, h1, h2, h3, h4⟩
  · exact (hv hv').elim
  · refine ⟨g, cap, rfl, hb, ⟨cur, hg, h1, h2, by omega, fun j hj => ?_⟩, hz⟩
    have := vals_at z n j hj
    rw [← h4, List.getElem?_take, if_pos (by omega)] at this
    simpa using this

theorem info_u8 : (Try.prog.info? 5).map (fun i => (i.zero, i.size, i.bytes)) = some (some (.int .u8 0), 1, 1) := by kernel_rfl

/-- what Twin leaves -/
def TwinPost (w : World) (n : Nat) (z : Nat → Int) (e : Ending) (w' : World) : Prop :=
  ∃ g cap, e = .returned (.slice (some ⟨g, 0, none⟩) n cap) ∧ w.heap.size ≤ g ∧ Own8 w' g n cap z ∧ Below w.heap.size w w'

theorem rd_news {w : World} {n : Nat} {z : Nat → Int} {ad : Addr} (h : Rd w (some ad) n z) (o : Obj) : ∀ j u, (vals z n)[j]? = some u → (w.alloc o).cell? (ad.add j) = some u := by
  intro j u hu
  obtain ⟨hj, rfl⟩ := vals_at' z n j u hu
  obtain ⟨b, off, e, hr⟩ := h.row (by omega)
  injection e with e
  subst e
  have hadd : (⟨b, off, none⟩ : Addr).add j = ⟨b, off + j, none⟩ := by unfold Addr.add; split <;> simp_all
  rw [hadd, World.cell?_alloc_lt w o _ hr.1]
  exact hr.2.1 j hj

theorem twin_any (A : Option Addr) (n c : Nat) (z : Nat → Int) (w : World) (h : Rd w A n z) (hA : A = none → n = 0 ∧ c = 0) (hn : n ≤ 140737488351232) :
    Calls Try.prog 25 #[.slice A n c] w (TwinPost w n z) := by
  obtain ⟨i0, hi, hz0, hz1, hz2⟩ := info_parts info_u8
  have hm : (0 : Nat) ≤ maxLen := by decide
  have hown := World.ownsRow_made (e := 5) (size := 1) (base := w.heap.size) w #[] 0 (Nat.le_refl _) hm rfl
  rcases A with _ | ⟨b, off, spot⟩
  · obtain ⟨rfl, rfl⟩ := hA rfl
    go_enter Try.func25, Try.ntmps25
    go_wp2_with (at_builtin; refine wpList_append_own_none rfl (.tmp 3) (.tmp 4) 35 rfl w.heap.size 5 i0 1 Try.underlying35 hi _ 0 [] rfl hown rfl ?_)
    go_ret
    refine ⟨w.heap.size, 0, rfl, Nat.le_refl _, ⟨⟨#[], heap_alloc_new w _, Nat.le_refl _, hm, rfl, fun j hj => by omega⟩, h.2⟩, (Below.refl _ _).alloc (Nat.le_refl _) _⟩
  · have hnews : ∀ j u, (vals z n)[j]? = some u → (w.alloc (.cells #[] 5)).cell? ((⟨b, off, spot⟩ : Addr).add j) = some u := rd_news h _
    have h1 := vals_one z n
    have hl := vals_len z n
    go_enter Try.func25, Try.ntmps25
    go_wp2_with (at_builtin; refine wpList_append_own_at _ rfl (.tmp 3) (.tmp 4) 35 rfl w.heap.size 5 i0 (.int .u8 0) 1 1 Try.underlying35 hi hz0 hz1 hz2 rfl (by decide) _ 0 [] rfl hown ⟨b, off, spot⟩ n c (vals z n) rfl (by omega) hnews h1 ?c3 ?c4 ?c5 ?_)
    case c3 => unfold maxLen; omega
    case c4 => omega
    case c5 => simp
    intro v' w1 hown1 hgrow hnil hat
    go_wp2
    go_ret
    obtain ⟨g, cap, rfl, hg, ho⟩ := own_of (by simpa using hown1) (by simp) hnil h.2
    have hb : Below w.heap.size w w1 := ((Below.refl _ _).alloc (Nat.le_refl _) _).grown hgrow (by simp) (by simp [Value.ownBlock])
    exact ⟨g, cap, rfl, hg, ho, hb⟩
end Go.Proofs.Ytfojfdlapekjoaa

/- Spare answers a copy with marked room behind it; SameBytes and Kept answer true where nothing was turned. Each theorem states its conditions. -/
namespace Go.Proofs.Ytfojfdlapekjoaa
open Go.RowKit
set_option linter.unusedVariables false

/-- the bytes with the marks behind them -/
def spZ (z : Nat → Int) (n : Nat) : Nat → Int := fun j => if j < n then z j else if j = n + 1 then 90 else 165
theorem spZ_in (z : Nat → Int) (n j : Nat) (h : j < n) : spZ z n j = z j := by simp [spZ, h]
theorem spZ_bd (z : Nat → Int) (n : Nat) (hz : ∀ j, 0 ≤ z j ∧ z j ≤ 255) : ∀ j, 0 ≤ spZ z n j ∧ spZ z n j ≤ 255 := by
  intro j; unfold spZ; split
  · exact hz j
  · split <;> omega
theorem spZ_vals (z : Nat → Int) (n : Nat) : vals z n ++ [.int .u8 165, .int .u8 90, .int .u8 165] = vals (spZ z n) (n + 3) := by
  apply List.ext_getElem
  · simp [vals]
  · intro i h1 h2
    have hi : i < n + 3 := by simpa [vals] using h2
    by_cases h : i < n
    · simp [vals, h, spZ]
    · rcases (by omega : i = n ∨ i = n + 1 ∨ i = n + 2) with rfl | rfl | rfl <;> simp [vals, spZ] <;> omega

def SparePost (w : World) (n : Nat) (z : Nat → Int) (e : Ending) (w' : World) : Prop :=
  ∃ g cap, e = .returned (.tuple #[.slice (some ⟨g, 0, none⟩) n cap, .slice (some ⟨g, 0, none⟩) (n + 3) cap]) ∧ w.heap.size ≤ g ∧ Own8 w' g (n + 3) cap (spZ z n) ∧ Below w.heap.size w w'

theorem three_new (w : World) (a b c : Value) (t : TypeId) : ∀ j u, [a, b, c][j]? = some u → (w.alloc (.cells #[a, b, c] t)).cell? ((⟨w.heap.size, 0, none⟩ : Addr).add j) = some u := by
  intro j u hj
  match j, hj with
  | 0, hj => simp at hj; subst hj; simp [Addr.add]
  | 1, hj => simp at hj; subst hj; simp [Addr.add]
  | 2, hj => simp at hj; subst hj; simp [Addr.add]

theorem spare_any (A : Option Addr) (n c : Nat) (z : Nat → Int) (w : World) (h : Rd w A n z) (hA : A = none → n = 0 ∧ c = 0) (hn : n ≤ 140737488351232) :
    Calls Try.prog 19 #[.slice A n c] w (SparePost w n z) := by
  obtain ⟨i0, hi, hz0, hz1, hz2⟩ := info_parts info_u8
  have hm : (0 : Nat) ≤ maxLen := by decide
  have hown := World.ownsRow_made (e := 5) (size := 1) (base := w.heap.size) w #[] 0 (Nat.le_refl _) hm rfl
  have hn3 : ∀ W : World, ∀ j u, [Value.int .u8 165, Value.int .u8 90, Value.int .u8 165][j]? = some u → (W.alloc (.cells #[.int .u8 165, .int .u8 90, .int .u8 165] 5)).cell? ((⟨W.heap.size, 0, none⟩ : Addr).add j) = some u := fun W => three_new W _ _ _ _
  have ho3 : ∀ u ∈ [Value.int .u8 165, Value.int .u8 90, Value.int .u8 165], u.oneCell' = true := by intro u hu; simp only [List.mem_cons, List.not_mem_nil, or_false] at hu; rcases hu with rfl | rfl | rfl <;> rfl
  have H3 := Lib.hid hn3
  have HO := Lib.hid ho3
  clear hn3 ho3
  have hzz := Lib.hid h.2
  rcases A with _ | ⟨b, off, spot⟩
  · obtain ⟨rfl, rfl⟩ := hA rfl
    clear h hA
    have hown2 : (w.alloc (.cells #[] 5)).ownsRow w.heap.size 5 1 (.slice (some ⟨w.heap.size, 0, none⟩) 0 0) 0 (vals z 0) := hown
    go_enter Try.func19, Try.ntmps19
    go_wp2_with (first | (at_builtin; refine wpList_append_own_none rfl (.tmp 5) (.tmp 6) 35 rfl w.heap.size 5 i0 1 Try.underlying35 hi _ 0 [] rfl hown rfl ?_) | (at_builtin; (refine wpList_append_own_at _ rfl (.tmp 7) (.tmp 8) 35 rfl w.heap.size 5 i0 (.int .u8 0) 1 1 Try.underlying35 hi hz0 hz1 hz2 rfl (by decide) (.slice (some ⟨w.heap.size, 0, none⟩) 0 0) 0 (vals z 0) rfl (hown2.alloc _) ⟨w.heap.size + 1, 0, none⟩ 3 3 [Value.int .u8 165, Value.int .u8 90, Value.int .u8 165] rfl rfl ?c2 HO.out ?c3 ?c4 ?c5 ?_)))
    case c2 =>
      have hh := H3.out (w.alloc (.cells #[] 5))
      simp only [World.size_alloc] at hh
      exact hh
    case c3 => decide
    case c4 => decide
    case c5 => simp; omega
    intro v' w1 hown1 hgrow hnil hat
    have hv : v' ≠ .slice none 0 0 := fun e => by simp [e] at hnil
    obtain ⟨g, cap, rfl, hg, ho⟩ := own_of (n := 3) hown1 (spZ_vals z 0) hv (spZ_bd z 0 hzz.out)
    have hcap := ho.caps
    have hb : Below w.heap.size w w1 := (balloc (balloc (bself w) _) _).grown hgrow (by simp; omega) (by simp [Value.ownBlock])
    unfold maxLen at hcap
    clear hown hown2 hown1 hgrow hnil hat hv
    go_wp2
    go_ret2
    exact ⟨g, cap, rfl, hg, ho, hb⟩
  · have hnews : ∀ j u, (vals z n)[j]? = some u → (w.alloc (.cells #[] 5)).cell? ((⟨b, off, spot⟩ : Addr).add j) = some u := rd_news h _
    have h1 := vals_one z n
    have hl' : (vals z n).length = n * 1 := by rw [vals_len]; omega
    have hd3 : 0 + n ≤ maxLen := by unfold maxLen; omega
    have hd4 : (0 + n) * 1 ≤ 140737488355328 := by omega
    have hd5 : w.heap.size ≤ (w.alloc (.cells #[] 5)).heap.size := by simp
    have HL := Lib.hid hl'
    clear h hA hl'
    go_enter Try.func19, Try.ntmps19
    go_wp2_with (first | (at_builtin; refine wpList_append_own_at _ rfl (.tmp 5) (.tmp 6) 35 rfl w.heap.size 5 i0 (.int .u8 0) 1 1 Try.underlying35 hi hz0 hz1 hz2 rfl (by decide) (.slice (some ⟨w.heap.size, 0, none⟩) 0 0) 0 [] rfl hown ⟨b, off, spot⟩ n c (vals z n) rfl HL.out hnews h1 hd3 hd4 hd5 ?_; intro v1 w1 hown1 hgrow1 hnil1 hat1) | (at_builtin; refine wpList_append_own_at _ rfl (.tmp 7) (.tmp 8) 35 rfl w.heap.size 5 i0 (.int .u8 0) 1 1 Try.underlying35 hi hz0 hz1 hz2 rfl (by decide) v1 (0 + n) ([] ++ vals z n) rfl (hown1.alloc _) ⟨w1.heap.size, 0, none⟩ 3 3 [Value.int .u8 165, Value.int .u8 90, Value.int .u8 165] rfl rfl ?c2 HO.out ?c3 ?c4 ?c5 ?_))
    case c2 => exact H3.out w1
    case c3 => unfold maxLen; omega
    case c4 => omega
    case c5 => have := hgrow1.size; simp at this ⊢; omega
    have hb1 : Below w.heap.size w w1 := (balloc (bself w) _).grown hgrow1 hd5 (by simp [Value.ownBlock])
    have hv1 : v1.ownBlock = some w.heap.size ∨ v1.ownBlock = some (w.heap.size + 1) := by simpa [Value.ownBlock] using hat1
    intro v' w2 hown2 hgrow2 hnil2 hat2
    have hv : v' ≠ .slice none 0 0 := hnil2
    obtain ⟨g, cap, rfl, hg, ho⟩ := own_of hown2 (spZ_vals z n) hv (spZ_bd z n hzz.out)
    have hcap := ho.caps
    have hb : Below w.heap.size w w2 := (balloc hb1 _).grown hgrow2 (by have := hb1.size; simp; omega) (by rintro k hk; rcases hv1 with e | e <;> rw [e] at hk <;> injection hk with hk <;> omega)
    unfold maxLen at hcap
    clear hown hown1 hown2 hgrow1 hgrow2 hnil1 hnil2 hat1 hat2 hv hv1 hnews h1
    go_wp2
    go_ret2
    exact ⟨g, cap, rfl, hg, ho, hb⟩

theorem same_yes (A B : Option Addr) (n c d : Nat) (z z' : Nat → Int) (w : World) (ha : Rd w A n z) (hb : Rd w B n z') (he : ∀ j, j < n → z j = z' j) (hm : n ≤ 9223372036854775807) :
    Calls Try.prog 14 #[.slice A n c, .slice B n d] w fun e w' => e = .returned (.bool true) ∧ ∃ m, w' = w.drewN m := by
  rcases Nat.eq_zero_or_pos n with rfl | hn
  · clear ha hb he
    go_enter Try.func14, Try.ntmps14
    go_wp2
    refine wp_loop_rounds 1 ?_
    rw [rounds_succ]
    go_wp2
    go_ret
    exact ⟨rfl, 0, rfl⟩
  · obtain ⟨b, off, rfl, hr⟩ := ha.row hn
    obtain ⟨b', off', rfl, hr'⟩ := hb.row hn
    have hc := hr.2.1
    have hc' := hr'.2.1
    have HE := Lib.hid he
    clear ha hb hr hr' he
    go_enter Try.func14, Try.ntmps14
    go_wp2
    go_loopw [13] (fun t wr => ∃ k m : Nat, k ≤ n ∧ t = .int .i64 k ∧ wr = w.drewN m) (fun t _ => n - (intOf t).toNat)
    case atStart => exact ⟨0, 0, by omega, rfl, rfl⟩
    case round =>
      obtain ⟨k, m, hk, rfl, rfl⟩ := hrel
      by_cases hlt : k < n
      · have g1 := hc k hlt
        have g2 := hc' k hlt
        rw [← HE.out k hlt] at g2
        generalize z k = v at *
        clear hc hc'
        go_wp2
        go_region
        go_wp2
        go_roundw
        case rel => exact ⟨k + 1, m + 1, by omega, by go_num, rfl⟩
        case measure => simp [intOf]; omega
      · obtain rfl : k = n := by omega
        go_wp2
        go_ret
        exact ⟨rfl, m, rfl⟩

theorem kept_yes (g n cap : Nat) (A : Option Addr) (c : Nat) (z : Nat → Int) (w : World) (ho : Own8 w g (n + 3) cap (spZ z n)) (ha : Rd w A n z) (hm : n ≤ 140737488351232) :
    Calls Try.prog 21 #[.slice (some ⟨g, 0, none⟩) (n + 3) cap, .slice A n c] w fun e w' => e = .returned (.bool true) ∧ ∃ m, w' = w.drewN m := by
  have HS := Lib.hid (fun d => same_yes (some ⟨g, 0, none⟩) A n d c (spZ z n) z w (ho.rd.cut n (by omega)) ha (fun j hj => spZ_in z n j hj) (by omega))
  have c0 := ho.row.2.1 n (by omega)
  have c1 := ho.row.2.1 (n + 1) (by omega)
  have c2 := ho.row.2.1 (n + 2) (by omega)
  have hcap := ho.caps
  rw [Nat.zero_add, show spZ z n n = 165 by simp [spZ]] at c0
  rw [Nat.zero_add, show spZ z n (n + 1) = 90 by simp [spZ]; omega] at c1
  rw [Nat.zero_add, show spZ z n (n + 2) = 165 by simp [spZ]; omega] at c2
  unfold maxLen at hcap
  clear ho ha
  go_enter Try.func21, Try.ntmps21
  go_wp2_with fail
  refine (HS.out _).mono ?_
  rintro e w' ⟨rfl, m, rfl⟩
  go_wp2
  go_ret
  exact ⟨rfl, m, rfl⟩
end Go.Proofs.Ytfojfdlapekjoaa

/- Lists of records, s cells each, that a call reads or makes; bytes that a call appends to. Each theorem states its conditions. -/
namespace Go.Proofs.Ytfojfdlapekjoaa
open Go.RowKit
set_option linter.unusedVariables false

/-- m records of s cells from ⟨b, off⟩ on -/
def RowR (w : World) (b off m s : Nat) (C : Nat → Array Value) : Prop := b < w.heap.size ∧ ∀ j, j < m → w.rangeAt b (off + j * s) (C j).toList
def RdR (w : World) (A : Option Addr) (m s : Nat) (C : Nat → Array Value) : Prop := m = 0 ∨ ∃ b off, A = some ⟨b, off, none⟩ ∧ RowR w b off m s C
/-- the cells of the first m -/
def cellsR (C : Nat → Array Value) : Nat → List Value
  | 0 => []
  | m + 1 => cellsR C m ++ (C m).toList
/-- records of s cells, one value each -/
def Recs (s : Nat) (C : Nat → Array Value) : Prop := ∀ j, (C j).size = s ∧ ∀ u ∈ (C j).toList, u.oneCell' = true

theorem add_none (b off j : Nat) : (⟨b, off, none⟩ : Addr).add j = ⟨b, off + j, none⟩ := by unfold Addr.add; split <;> simp_all
theorem rangeAt_below {w w' : World} {b o B : Nat} {cs : List Value} (h : w.rangeAt b o cs) (hb : Below B w w') (hB : b < B) : w'.rangeAt b o cs :=
  fun j v hv => (hb.cell (p := ⟨b, o + j, none⟩) hB).trans (h j v hv)
theorem RowR.below {w w' : World} {b off m s B : Nat} {C : Nat → Array Value} (h : RowR w b off m s C) (hb : Below B w w') (hB : b < B) : RowR w' b off m s C :=
  ⟨by have := hb.size; have := h.1; omega, fun j hj => rangeAt_below (h.2 j hj) hb hB⟩
theorem RdR.below {w w' : World} {A : Option Addr} {m s B : Nat} {C : Nat → Array Value} (h : RdR w A m s C) (hb : Below B w w') (hB : B = w.heap.size) : RdR w' A m s C := by
  rcases h with h | ⟨b, off, rfl, h⟩
  · exact .inl h
  · exact .inr ⟨b, off, rfl, h.below hb (by have := h.1; omega)⟩
theorem RdR.row {w : World} {A : Option Addr} {m s : Nat} {C : Nat → Array Value} (h : RdR w A m s C) (hm : 0 < m) : ∃ b off, A = some ⟨b, off, none⟩ ∧ RowR w b off m s C := by
  rcases h with h | h
  · omega
  · exact h
theorem RdR.cut {w : World} {A : Option Addr} {m s : Nat} {C : Nat → Array Value} (h : RdR w A m s C) (n : Nat) (hn : n ≤ m) : RdR w A n s C := by
  rcases h with h | ⟨b, off, rfl, h⟩
  · exact .inl (by omega)
  · exact .inr ⟨b, off, rfl, h.1, fun j hj => h.2 j (by omega)⟩
theorem RdR.congr {w : World} {A : Option Addr} {m s : Nat} {C C' : Nat → Array Value} (h : RdR w A m s C) (hc : ∀ j, j < m → C j = C' j) : RdR w A m s C' := by
  rcases h with h | ⟨b, off, rfl, h⟩
  · exact .inl h
  · exact .inr ⟨b, off, rfl, h.1, fun j hj => by rw [← hc j hj]; exact h.2 j hj⟩

theorem cellsR_len {s : Nat} {C : Nat → Array Value} (hC : Recs s C) (m : Nat) : (cellsR C m).length = m * s := by
  induction m with
  | zero => simp [cellsR]
  | succ m ih => simp only [cellsR, List.length_append, ih, Array.length_toList, (hC m).1, Nat.succ_mul]
theorem cellsR_at {s : Nat} {C : Nat → Array Value} (hC : Recs s C) (m j i : Nat) (hj : j < m) (hi : i < s) : (cellsR C m)[j * s + i]? = (C j)[i]? := by
  induction m with
  | zero => omega
  | succ m ih =>
    have hl := cellsR_len hC m
    simp only [cellsR]
    by_cases e : j = m
    · subst e
      rw [List.getElem?_append_right (by omega), hl, Nat.add_sub_cancel_left]
      simp
    · have : j * s + s ≤ m * s := by
        have := Nat.mul_le_mul_right s (show j + 1 ≤ m by omega)
        rwa [Nat.succ_mul] at this
      rw [List.getElem?_append_left (by omega)]
      exact ih (by omega)
theorem cellsR_one {s : Nat} {C : Nat → Array Value} (hC : Recs s C) (m : Nat) : ∀ u ∈ cellsR C m, u.oneCell' = true := by
  induction m with
  | zero => simp [cellsR]
  | succ m ih =>
    intro u hu
    simp only [cellsR, List.mem_append] at hu
    rcases hu with h | h
    · exact ih u h
    · exact (hC m).2 u h
theorem cellsR_congr {C C' : Nat → Array Value} (m : Nat) (h : ∀ j, j < m → C j = C' j) : cellsR C m = cellsR C' m := by
  induction m with
  | zero => rfl
  | succ m ih => simp only [cellsR, h m (by omega)]; rw [ih fun j hj => h j (by omega)]
/-- one list of records behind another -/
def catR (C : Nat → Array Value) (n : Nat) (C' : Nat → Array Value) : Nat → Array Value := fun j => if j < n then C j else C' (j - n)
theorem catR_lo (C C' : Nat → Array Value) (n j : Nat) (h : j < n) : catR C n C' j = C j := by simp [catR, h]
theorem catR_hi (C C' : Nat → Array Value) (n j : Nat) : catR C n C' (n + j) = C' j := by unfold catR; rw [if_neg (by omega), Nat.add_sub_cancel_left]
theorem cellsR_cat (C C' : Nat → Array Value) (n m : Nat) : cellsR C n ++ cellsR C' m = cellsR (catR C n C') (n + m) := by
  induction m with
  | zero => simp only [cellsR, List.append_nil, Nat.add_zero]; exact cellsR_congr n fun j hj => (catR_lo C C' n j hj).symm
  | succ m ih =>
    show cellsR C n ++ (cellsR C' m ++ (C' m).toList) = cellsR (catR C n C') (n + m) ++ (catR C n C' (n + m)).toList
    rw [catR_hi, ← ih, List.append_assoc]
theorem recs_cat {s : Nat} {C C' : Nat → Array Value} (h : Recs s C) (h' : Recs s C') (n : Nat) : Recs s (catR C n C') := by
  intro j; unfold catR; split
  · exact h j
  · exact h' _

/-- the records as what an append takes -/
theorem recs_news {w : World} {m s : Nat} {C : Nat → Array Value} {ad : Addr} (hC : Recs s C) (hs : 0 < s) (h : RdR w (some ad) m s C) : ∀ j u, (cellsR C m)[j]? = some u → w.cell? (ad.add j) = some u := by
  intro j u hu
  have hj : j < m * s := by
    rcases Nat.lt_or_ge j (m * s) with h | h
    · exact h
    · rw [List.getElem?_eq_none (by rw [cellsR_len hC]; exact h)] at hu; cases hu
  have hm : 0 < m := by
    rcases Nat.eq_zero_or_pos m with h0 | h0
    · subst h0; simp at hj
    · exact h0
  obtain ⟨b, off, e, hr⟩ := h.row hm
  injection e with e
  subst e
  have hq : j / s < m := Nat.div_lt_of_lt_mul (by rwa [Nat.mul_comm] at hj)
  have hi : j % s < s := Nat.mod_lt _ hs
  have hjq : j = j / s * s + j % s := by rw [Nat.mul_comm]; exact (Nat.div_add_mod j s).symm
  rw [hjq, cellsR_at hC m _ _ hq hi] at hu
  have := hr.2 _ hq (j % s) u (by simpa using hu)
  rw [add_none, ← this]
  congr 2
  omega
theorem ownR_shape {w : World} {base s m : Nat} {e : TypeId} {v : Value} {C : Nat → Array Value} (hC : Recs s C) (hs : 0 < s) (h : w.ownsRow base e s v m (cellsR C m)) :
    ∃ A c, v = .slice A m c ∧ m ≤ c ∧ c ≤ maxLen ∧ (A = none → m = 0 ∧ c = 0) ∧ RdR w A m s C := by
  rcases h.2 with ⟨rfl, rfl⟩ | ⟨g, cap, cur, rfl, hb, hc, h1, h2, h3, h4⟩
  · exact ⟨none, 0, rfl, Nat.le_refl _, by decide, fun _ => ⟨rfl, rfl⟩, .inl rfl⟩
  · refine ⟨some ⟨g, 0, none⟩, cap, rfl, h1, h2, fun e => (by cases e), .inr ⟨g, 0, rfl, (Array.getElem?_eq_some_iff.1 hc).1, fun j hj i u hu => ?_⟩⟩
    have hi : i < s := by
      rcases Nat.lt_or_ge i s with h | h
      · exact h
      · rw [List.getElem?_eq_none (by rw [Array.length_toList, (hC j).1]; exact h)] at hu; cases hu
    have hx := cellsR_at hC m j i hj hi
    have hlt : j * s + i < m * s := by
      have := Nat.mul_le_mul_right s (show j + 1 ≤ m by omega)
      rw [Nat.succ_mul] at this; omega
    rw [← h4, List.getElem?_take, if_pos hlt] at hx
    rw [Nat.zero_add, cell_of_row w g _ cur _ (0, 0) hc]
    rw [Array.getElem?_toList] at hx hu
    exact hx.trans hu
theorem ownsRow_below' {w w' : World} {base s m : Nat} {e : TypeId} {v : Value} {xs : List Value} (h : w.ownsRow base e s v m xs) (hb : Below w.heap.size w w') : w'.ownsRow base e s v m xs := by
  refine ⟨h.1, ?_⟩
  rcases h.2 with h | ⟨g, cap, cur, hv, hg, hc, r⟩
  · exact .inl h
  · exact .inr ⟨g, cap, cur, hv, hg, (hb.block g (Array.getElem?_eq_some_iff.1 hc).1).trans hc, r⟩
theorem ownsRow_mono {w : World} {base base' s m : Nat} {e : TypeId} {v : Value} {xs : List Value} (h : w.ownsRow base e s v m xs) (hb : base' ≤ base) : w.ownsRow base' e s v m xs := by
  refine ⟨h.1, ?_⟩
  rcases h.2 with h | ⟨g, cap, cur, hv, hg, r⟩
  · exact .inl h
  · exact .inr ⟨g, cap, cur, hv, by omega, r⟩

/-- bytes of the call's own: none yet, or a row that it made -/
def OwnB (w : World) (base : Nat) (v : Value) (n : Nat) (z : Nat → Int) : Prop := w.ownsRow base 5 1 v n (vals z n) ∧ ∀ j, 0 ≤ z j ∧ z j ≤ 255
theorem OwnB.nil (w : World) (base : Nat) {z : Nat → Int} (hz : ∀ j, 0 ≤ z j ∧ z j ≤ 255) : OwnB w base (.slice none 0 0) 0 z := ⟨World.ownsRow_nil _ _ _ _, hz⟩
theorem OwnB.below {w w' : World} {base n : Nat} {v : Value} {z : Nat → Int} (h : OwnB w base v n z) (hb : Below w.heap.size w w') : OwnB w' base v n z := ⟨ownsRow_below' h.1 hb, h.2⟩
theorem OwnB.shape {w : World} {base n : Nat} {v : Value} {z : Nat → Int} (h : OwnB w base v n z) : ∃ A c, v = .slice A n c ∧ n ≤ c ∧ c ≤ maxLen ∧ (A = none → n = 0 ∧ c = 0) ∧ Rd w A n z := by
  rcases h.1.2 with ⟨rfl, rfl⟩ | ⟨g, cap, cur, rfl, hb, hc, h1, h2, h3, h4⟩
  · exact ⟨none, 0, rfl, Nat.le_refl _, by decide, fun _ => ⟨rfl, rfl⟩, .inl rfl, h.2⟩
  · refine ⟨some ⟨g, 0, none⟩, cap, rfl, h1, h2, fun e => (by cases e), .inr ⟨g, 0, rfl, (Array.getElem?_eq_some_iff.1 hc).1, fun j hj => ?_, h.2⟩, h.2⟩
    have := vals_at z n j hj
    rw [← h4, List.getElem?_take, if_pos (by omega)] at this
    rw [Nat.zero_add, cell_of_row w g j cur _ (0, 0) hc]
    simpa using this
theorem Own8.ownB {w : World} {base g n cap : Nat} {z : Nat → Int} (h : Own8 w g n cap z) (hg : base ≤ g) : OwnB w base (.slice (some ⟨g, 0, none⟩) n cap) n z := by
  refine ⟨⟨by simp [vals], .inr ?_⟩, h.2⟩
  obtain ⟨⟨cur, hc, h1, h2, h3, h4⟩, h5⟩ := h
  refine ⟨g, cap, cur, rfl, hg, hc, h1, h2, by omega, ?_⟩
  apply List.ext_getElem?
  intro j
  by_cases hj : j < n
  · rw [List.getElem?_take, if_pos (by omega), vals_at z n j hj]
    simpa using h4 j hj
  · rw [List.getElem?_eq_none (by simp; omega), List.getElem?_eq_none (by rw [vals_len]; omega)]
theorem rd_newsB {w : World} {n : Nat} {z : Nat → Int} {ad : Addr} (h : Rd w (some ad) n z) : ∀ j u, (vals z n)[j]? = some u → w.cell? (ad.add j) = some u := by
  intro j u hu
  obtain ⟨hj, rfl⟩ := vals_at' z n j u hu
  obtain ⟨b, off, e, hr⟩ := h.row (by omega)
  injection e with e
  subst e
  rw [add_none]
  exact hr.2.1 j hj

/-- 'append(p, x...)' of bytes to bytes of the call's own: the goal behind it is told with the bytes as a list -/
theorem app_b {ops : Array Oper} {rest : List Oper} {o : Oper} {a : Act} {w : World} {Q : Exit → Act → World → Prop} (hgd : o.guard = none) (s x : Operand)
    (ho : o.op = .call { callee := .builtin .append, args := #[s, x], argTypes := #[35, 35] })
    (base : Nat) (v : Value) (n : Nat) (xs : List Value) (hs : a.eval s = v) (hown : w.ownsRow base 5 1 v n xs)
    (ad : Addr) (m c : Nat) (news : List Value) (hx : a.eval x = .slice (some ad) m c) (hl : news.length = m) (hnews : ∀ j u, news[j]? = some u → w.cell? (ad.add j) = some u) (h1 : ∀ u ∈ news, u.oneCell' = true)
    (hn : n + m ≤ 140737488355328) (hbase : base ≤ w.heap.size)
    (h : ∀ v' w', w'.ownsRow base 5 1 v' (n + m) (xs ++ news) → w.grownBy w' v.ownBlock → (v' = .slice none 0 0 ↔ v = .slice none 0 0 ∧ m = 0) → (v'.ownBlock = v.ownBlock ∨ v'.ownBlock = some w.heap.size) → wpList Try.prog ops Q rest (a.put o.dst v') w') :
    wpList Try.prog ops Q (o :: rest) a w := by
  obtain ⟨i0, hi, hz0, hz1, hz2⟩ := info_parts info_u8
  exact wpList_append_own_at w hgd s x 35 ho base 5 i0 (.int .u8 0) 1 1 Try.underlying35 hi hz0 hz1 hz2 rfl (by decide) v n xs hs hown ad m c news hx (by omega) hnews h1 (by unfold maxLen; omega) (by omega) hbase h
/-- the same, told with what it leaves alone: an old block that isn't the row's own stays so -/
theorem app_s {ops : Array Oper} {rest : List Oper} {o : Oper} {a : Act} {w : World} {Q : Exit → Act → World → Prop} (hgd : o.guard = none) (s x : Operand)
    (ho : o.op = .call { callee := .builtin .append, args := #[s, x], argTypes := #[35, 35] })
    (w0 : World) (v : Value) (n : Nat) (xs : List Value) (hs : a.eval s = v) (hown : w.ownsRow w0.heap.size 5 1 v n xs) (hb : Below w0.heap.size w0 w)
    (ad : Addr) (m c : Nat) (news : List Value) (hx : a.eval x = .slice (some ad) m c) (hl : news.length = m) (hnews : ∀ j u, news[j]? = some u → w.cell? (ad.add j) = some u) (h1 : ∀ u ∈ news, u.oneCell' = true)
    (hn : n + m ≤ 140737488355328)
    (h : ∀ v' w', w'.ownsRow w0.heap.size 5 1 v' (n + m) (xs ++ news) → Below w0.heap.size w0 w' → w.heap.size ≤ w'.heap.size → (∀ k, k < w.heap.size → v.ownBlock ≠ some k → w'.heap[k]? = w.heap[k]? ∧ v'.ownBlock ≠ some k) → wpList Try.prog ops Q rest (a.put o.dst v') w') :
    wpList Try.prog ops Q (o :: rest) a w := by
  refine app_b hgd s x ho w0.heap.size v n xs hs hown ad m c news hx hl hnews h1 hn hb.size ?_
  intro v' w' h2 h3 h4 h5
  refine h v' w' h2 (hb.grown h3 hb.size (fun k e => (hown.lt k e).1)) h3.size (fun k hk hne => ⟨h3.block k hk (fun e => hne e.symm), fun e => ?_⟩)
  rcases h5 with h5 | h5
  · rw [h5] at e; exact hne e
  · rw [h5] at e; injection e with e; omega
end Go.Proofs.Ytfojfdlapekjoaa

/- octet.Put and the document's Put, Bytes and Number; octet.Num's errors and the document's Num. Each theorem states its conditions. -/
namespace Go.Proofs.Ytfojfdlapekjoaa
open Go.RowKit
set_option linter.unusedVariables false

/-- so many noughts -/
def zer (k : Nat) : Array Value := madeCells (Value.cells (.int .u8 0)) (k * 1)
theorem make8 (k : Nat) (hk : k ≤ 140737488351232) (W : World) :
    (Instr.makeSlice 35 (.int .i64 (k : Int)) (.int .i64 (k : Int))).run Try.prog W = .ok (.slice (some ⟨W.heap.size, 0, none⟩) k k) (W.alloc (.cells (zer k) 5)) := by
  obtain ⟨i0, hi, hz0, hz1, hz2⟩ := info_parts info_u8
  have h := run_make (P := Try.prog) W 35 5 i0 (.int .u8 0) Try.underlying35 hi hz0 .i64 .i64 k k (by omega) (by omega) (by rw [hz2]; omega) (by omega)
  simp only [Int.toNat_natCast, hz1] at h
  exact h
theorem zer_size (k : Nat) : (zer k).size = k := by unfold zer; rw [size_madeCells]; omega
theorem zer_at (k j : Nat) (h : j < k) : (zer k)[j]? = some (.int .u8 0) := by
  simp [zer, madeCells, Value.cells, h, Nat.mod_one]
theorem zer_own (W : World) (k : Nat) (hk : k ≤ maxLen) : Own8 (W.alloc (.cells (zer k) 5)) W.heap.size k k (fun _ => 0) :=
  ⟨⟨zer k, heap_alloc_new W _, Nat.le_refl _, hk, zer_size k, fun j hj => zer_at k j hj⟩, fun _ => ⟨Int.le_refl 0, show (0 : Int) ≤ 255 by decide⟩⟩

/-- what is left behind i bytes -/
def qN (N i : Nat) : Nat := N / 256 ^ i
theorem qN_0 (N : Nat) : qN N 0 = N := by simp [qN]
theorem qN_s (N i : Nat) : qN N (i + 1) = qN N i / 256 := by unfold qN; rw [Nat.pow_succ, Nat.div_div_eq_div_mul]
theorem qN_le (N i : Nat) : qN N i ≤ N := Nat.div_le_self _ _
/-- the bytes of a number -/
def putZ (N k : Nat) : Nat → Int := fun j => ((qN N (k - 1 - j) % 256 : Nat) : Int)
theorem putZ_bd (N k : Nat) : ∀ j, 0 ≤ putZ N k j ∧ putZ N k j ≤ 255 := fun j => by unfold putZ; omega
/-- the last i of them are laid -/
def partZ (N k i : Nat) : Nat → Int := fun j => if k ≤ j + i then putZ N k j else 0
theorem partZ_0 (N k : Nat) (j : Nat) (h : j < k) : partZ N k 0 j = 0 := by unfold partZ; rw [if_neg (by omega)]
theorem partZ_all (N k : Nat) : partZ N k k = putZ N k := by funext j; unfold partZ; rw [if_pos (by omega)]
theorem partZ_s (N k i : Nat) (h : i < k) : upd (partZ N k i) (k - 1 - i) ((qN N i % 256 : Nat) : Int) = partZ N k (i + 1) := by
  funext j
  unfold upd partZ
  by_cases e : j = k - 1 - i
  · rw [if_pos e, if_pos (by omega)]
    unfold putZ
    rw [show k - 1 - j = i by omega]
  · rw [if_neg e]
    by_cases h2 : k ≤ j + i
    · rw [if_pos h2, if_pos (by omega)]
    · rw [if_neg h2, if_neg (by omega)]
theorem num_part (N k m : Nat) (h : m ≤ k) : numZ (putZ N k) 0 m = ((qN N (k - m) % 256 ^ m : Nat) : Int) := by
  induction m with
  | zero => simp [numZ, Nat.mod_one]
  | succ m ih =>
    show numZ (putZ N k) 0 m * 256 + putZ N k (0 + m) = _
    rw [ih (by omega), Nat.zero_add]
    unfold putZ
    rw [show k - m = (k - (m + 1)) + 1 by omega, qN_s, show k - 1 - m = k - (m + 1) by omega, Nat.pow_succ, Nat.mul_comm (256 ^ m) 256, Nat.mod_mul]
    omega
theorem num_put (N k : Nat) : numZ (putZ N k) 0 k = ((N % 256 ^ k : Nat) : Int) := by
  rw [num_part N k k (Nat.le_refl _), Nat.sub_self, qN_0]
theorem put_fits (N k : Nat) (h : qN N k = 0) : N % 256 ^ k = N := by
  unfold qN at h
  have hp : 0 < 256 ^ k := Nat.pow_pos (by omega)
  exact Nat.mod_eq_of_lt ((Nat.div_eq_zero_iff_lt hp).1 h)
theorem put_fits' (N k : Nat) (h : qN N k ≠ 0) : N % 256 ^ k ≠ N := by
  unfold qN at h
  intro e
  have hp : 0 < 256 ^ k := Nat.pow_pos (by omega)
  exact h ((Nat.div_eq_zero_iff_lt hp).2 (by rw [← e]; exact Nat.mod_lt _ hp))

def PutPost (w : World) (N k : Nat) (e : Ending) (w' : World) : Prop :=
  (if qN N k = 0 then ∃ g, e = .returned (.tuple #[.slice (some ⟨g, 0, none⟩) k k, .int .i64 0]) ∧ w.heap.size ≤ g ∧ Own8 w' g k k (putZ N k)
    else e = .returned (.tuple #[.slice none 0 0, .int .i64 4])) ∧ Below w.heap.size w w'

theorem own_store {w w0 : World} {g k i : Nat} {z z' : Nat → Int} {v : Int} (h : Own8 w g k k z) (hi : i < k) (hv : 0 ≤ v ∧ v ≤ 255) (hz : upd z i v = z') {B : Nat} (hb : Below B w0 w) (hB : B ≤ g) :
    Own8 (w.setCell ⟨g, i, none⟩ (.int .u8 v)) g k k z' ∧ Below B w0 (w.setCell ⟨g, i, none⟩ (.int .u8 v)) := by
  subst hz
  exact ⟨h.put i hi v hv, hb.setCell hB _⟩

theorem part_start (w : World) (N k : Nat) (hk8 : k ≤ 8) : Own8 (w.alloc (.cells (zer k) 5)) w.heap.size k k (partZ N k 0) := by
  have h := zer_own w k (by simp only [maxLen]; omega)
  refine ⟨?_, fun j => ?_⟩
  · obtain ⟨⟨cur, h1, h2, h3, h4, h5⟩, _⟩ := h
    exact ⟨cur, h1, h2, h3, h4, fun j hj => by rw [partZ_0 N k j hj]; exact h5 j hj⟩
  · unfold partZ; split
    · exact putZ_bd N k j
    · exact ⟨Int.le_refl 0, by decide⟩

theorem put_any (N k : Nat) (w : World) (hN : N ≤ 18446744073709551615) (hk1 : 1 ≤ k) (hk8 : k ≤ 8) :
    Calls Try.prog 70 #[.int .u64 N, .int .i64 k] w (PutPost w N k) := by
  have hmk := make8 k (by omega)
  have hk9 : ¬ (8 : Int) < k := by omega
  have hk0 : ¬ (k : Int) < 1 := by omega
  go_enter Try.func70, Try.ntmps70
  go_wp2
  go_loopw [0, 17] (fun q t wr => ∃ i : Nat, i ≤ k ∧ t = .int .i64 i ∧ q = .int .u64 (qN N i : Nat) ∧ Own8 wr w.heap.size k k (partZ N k i) ∧ Below w.heap.size w wr) (fun _ t _ => k - (intOf t).toNat)
  case atStart => exact ⟨0, Nat.zero_le _, rfl, by rw [qN_0], part_start w N k hk8, (bself w).alloc (Nat.le_refl _) _⟩
  case round =>
    obtain ⟨i, hi, rfl, rfl, ho, hb⟩ := hrel
    by_cases hlt : i < k
    · obtain ⟨j, hj1, hj2⟩ : ∃ j : Nat, (k : Int) - 1 - i = j ∧ j = k - 1 - i := ⟨k - 1 - i, by omega, rfl⟩
      have cj := own_at ho j (by omega)
      have fj := ho.free j
      have hs := Lib.hid (qN_s N i)
      have hq := qN_le N i
      have hp := Lib.hid (partZ_s N k i hlt)
      have HJ := Lib.hid hj2
      have HO := Lib.hid ho
      have hj3 : j < k := by omega
      clear hj2 ho
      generalize qN N i = q at *
      have hq256 : ((q % 256 : Nat) : Int) = (q : Int) % 256 := by omega
      have hst := Lib.hid (own_store (v := (q : Int) % 256) (z' := partZ N k (i + 1)) HO.out hj3 (by omega) (by rw [HJ.out, ← hq256]; exact hp.out) hb (Nat.le_refl _))
      clear hq256
      go_wp2
      go_roundw
      case rel => exact ⟨i + 1, by omega, by go_num, by rw [hs.out]; go_num, hst.out.1, hst.out.2⟩
      case measure => simp [intOf]; omega
    · obtain rfl : i = k := by omega
      rw [partZ_all] at ho
      by_cases h0 : qN N i = 0
      · have t0 : (((qN N i : Nat) : Int) != 0) = false := by simp [h0]
        have H0 := Lib.hid h0
        clear h0
        go_wp2
        go_ret2
        exact ⟨by rw [if_pos H0.out]; exact ⟨_, rfl, Nat.le_refl _, ho⟩, hb⟩
      · have t0 : (((qN N i : Nat) : Int) != 0) = true := by simp; omega
        have H0 := Lib.hid h0
        clear h0
        go_wp2
        go_ret2
        exact ⟨by rw [if_neg H0.out]; rfl, hb⟩

theorem put_arg (n k : Int) (w : World) (h : k < 1 ∨ 8 < k) :
    Calls Try.prog 70 #[.int .u64 n, .int .i64 k] w fun e w' => e = .returned (.tuple #[.slice none 0 0, .int .i64 1]) ∧ w = w' := by
  rcases h with h | h
  · go_enter Try.func70, Try.ntmps70
    go_wp2
    go_ret2
    exact ⟨rfl, rfl⟩
  · have h1 : ¬ k < 1 := by omega
    go_enter Try.func70, Try.ntmps70
    go_wp2
    go_ret2
    exact ⟨rfl, rfl⟩

def BytesPost (w : World) (N k : Nat) (e : Ending) (w' : World) : Prop :=
  ∃ g, e = .returned (.slice (some ⟨g, 0, none⟩) k k) ∧ w.heap.size ≤ g ∧ Own8 w' g k k (putZ N k) ∧ Below w.heap.size w w'

theorem bytes_any (N k : Nat) (w : World) (hN : N ≤ 18446744073709551615) (hk1 : 1 ≤ k) (hk8 : k ≤ 8) :
    Calls Try.prog 64 #[.int .u64 N, .int .i64 k] w (BytesPost w N k) := by
  have hmk := make8 k (by omega)
  go_enter Try.func64, Try.ntmps64
  go_wp2
  go_loopw [0, 11] (fun q t wr => ∃ i : Nat, i ≤ k ∧ t = .int .i64 i ∧ q = .int .u64 (qN N i : Nat) ∧ Own8 wr w.heap.size k k (partZ N k i) ∧ Below w.heap.size w wr) (fun _ t _ => k - (intOf t).toNat)
  case atStart => exact ⟨0, Nat.zero_le _, rfl, by rw [qN_0], part_start w N k hk8, (bself w).alloc (Nat.le_refl _) _⟩
  case round =>
    obtain ⟨i, hi, rfl, rfl, ho, hb⟩ := hrel
    by_cases hlt : i < k
    · obtain ⟨j, hj1, hj2⟩ : ∃ j : Nat, (k : Int) - 1 - i = j ∧ j = k - 1 - i := ⟨k - 1 - i, by omega, rfl⟩
      have cj := own_at ho j (by omega)
      have fj := ho.free j
      have hs := Lib.hid (qN_s N i)
      have hq := qN_le N i
      have hp := Lib.hid (partZ_s N k i hlt)
      have HJ := Lib.hid hj2
      have HO := Lib.hid ho
      have hj3 : j < k := by omega
      clear hj2 ho
      generalize qN N i = q at *
      have hq256 : ((q % 256 : Nat) : Int) = (q : Int) % 256 := by omega
      have hst := Lib.hid (own_store (v := (q : Int) % 256) (z' := partZ N k (i + 1)) HO.out hj3 (by omega) (by rw [HJ.out, ← hq256]; exact hp.out) hb (Nat.le_refl _))
      clear hq256
      go_wp2
      go_roundw
      case rel => exact ⟨i + 1, by omega, by go_num, by rw [hs.out]; go_num, hst.out.1, hst.out.2⟩
      case measure => simp [intOf]; omega
    · obtain rfl : i = k := by omega
      rw [partZ_all] at ho
      go_wp2
      go_ret
      exact ⟨_, rfl, Nat.le_refl _, ho, hb⟩

theorem number_any (b off n c : Nat) (z : Nat → Int) (w : World) (hr : Row8 w b off n z) (hn : n ≤ 8) :
    Calls Try.prog 49 #[.slice (some ⟨b, off, none⟩) n c] w fun e w' => e = .returned (.int .u64 (numZ z 0 n)) ∧ w = w' := by
  have hz := hr.2.2
  have hc := hr.2.1
  clear hr
  go_enter Try.func49, Try.ntmps49
  go_wp2
  go_loop [3, 4] (fun v t => ∃ i : Nat, i ≤ n ∧ t = .int .i64 i ∧ v = .int .u64 (numZ z 0 i)) (fun _ t => n - (intOf t).toNat)
  case atStart => exact ⟨0, Nat.zero_le _, rfl, rfl⟩
  case round =>
    obtain ⟨i, hi, rfl, rfl⟩ := hrel
    by_cases hlt : i < n
    · have ci := hc i hlt
      have hb := hz i
      have h56 := numZ_56 z 0 i (by omega) hz
      have hs : Hid (numZ z 0 (i + 1) = numZ z 0 i * 256 + z i) := Lib.hid (by show numZ z 0 i * 256 + z (0 + i) = _; rw [Nat.zero_add])
      go_wp2
      go_round
      case rel => exact ⟨i + 1, by omega, by go_num, by rw [hs.out]⟩
      case measure => simp [intOf]; omega
    · obtain rfl : i = n := by omega
      go_wp2
      go_ret
      exact ⟨rfl, rfl⟩

theorem num_arg (A : Option Addr) (n c : Nat) (i k : Int) (w : World) (h : k < 1 ∨ 8 < k ∨ i < 0) :
    Calls Try.prog 71 #[.slice A n c, .int .i64 i, .int .i64 k] w fun e w' => e = .returned (.tuple #[.int .u64 0, .int .i64 1]) ∧ w = w' := by
  by_cases h1 : k < 1
  · go_enter Try.func71, Try.ntmps71
    go_wp2
    go_ret2
    exact ⟨rfl, rfl⟩
  · by_cases h2 : 8 < k
    · go_enter Try.func71, Try.ntmps71
      go_wp2
      go_ret2
      exact ⟨rfl, rfl⟩
    · have h3 : i < 0 := by omega
      go_enter Try.func71, Try.ntmps71
      go_wp2
      go_ret2
      exact ⟨rfl, rfl⟩
theorem num_form (A : Option Addr) (n c : Nat) (i k : Int) (w : World) (h1 : 1 ≤ k) (h2 : k ≤ 8) (h3 : 0 ≤ i) (h : (n : Int) - k < i) (hn : n ≤ 140737488351232) :
    Calls Try.prog 71 #[.slice A n c, .int .i64 i, .int .i64 k] w fun e w' => e = .returned (.tuple #[.int .u64 0, .int .i64 3]) ∧ w = w' := by
  go_enter Try.func71, Try.ntmps71
  go_wp2
  go_ret2
  exact ⟨rfl, rfl⟩
theorem numZ_shift (z : Nat → Int) (s k : Nat) : numZ (fun j => z (s + j)) 0 k = numZ z s k := by
  induction k with
  | zero => rfl
  | succ k ih => simp only [numZ, ih, Nat.zero_add]

end Go.Proofs.Ytfojfdlapekjoaa

/- octet.checkByte, checkPlace and Sum answer as the plain functions say. Each theorem states its conditions. -/
namespace Go.Proofs.Ytfojfdlapekjoaa
open Go.RowKit
set_option linter.unusedVariables false

theorem checkByte_any (n : Int) (w : World) (h1 : -1000000000 ≤ n) (h2 : n ≤ 1000000000) :
    Calls Try.prog 74 #[.int .i64 n] w fun e w' => e = .returned (.int .i64 (cbI n)) ∧ w = w' := by
  have h3 := tmod_bd n
  by_cases hc : n.tmod 255 ≤ 0
  · have h := Lib.hid (cbI_tmod_lo n hc)
    go_enter Try.func74, Try.ntmps74
    go_wp2
    go_ret
    exact ⟨ret_int h.out, rfl⟩
  · have h := Lib.hid (cbI_tmod_hi n (by omega))
    go_enter Try.func74, Try.ntmps74
    go_wp2
    go_ret
    exact ⟨ret_int h.out, rfl⟩

theorem checkPlace_ok (A : Option Addr) (len cap : Nat) (s : Int) (w : World) (hn : len ≤ 1492) (h0 : 0 ≤ s) (h1 : s ≤ len - 2) :
    Calls Try.prog 73 #[.slice A len cap, .int .i64 s] w fun e w' => e = .returned (.int .i64 0) ∧ w = w' := by
  go_enter Try.func73, Try.ntmps73
  go_wp2
  go_ret
  exact ⟨rfl, rfl⟩

theorem checkPlace_arg (A : Option Addr) (len cap : Nat) (s : Int) (w : World) (h0 : s < 0) :
    Calls Try.prog 73 #[.slice A len cap, .int .i64 s] w fun e w' => e = .returned (.int .i64 1) ∧ w = w' := by
  go_enter Try.func73, Try.ntmps73
  go_wp2
  go_ret
  exact ⟨rfl, rfl⟩

theorem checkPlace_long (A : Option Addr) (len cap : Nat) (s : Int) (w : World) (h0 : 0 ≤ s) (hn : 1492 < len) :
    Calls Try.prog 73 #[.slice A len cap, .int .i64 s] w fun e w' => e = .returned (.int .i64 2) ∧ w = w' := by
  have h3 : ¬ s < 0 := by omega
  go_enter Try.func73, Try.ntmps73
  go_wp2
  go_ret
  exact ⟨rfl, rfl⟩

theorem checkPlace_form (A : Option Addr) (len cap : Nat) (s : Int) (w : World) (h0 : 0 ≤ s) (hn : len ≤ 1492) (h1 : len - 2 < s) :
    Calls Try.prog 73 #[.slice A len cap, .int .i64 s] w fun e w' => e = .returned (.int .i64 3) ∧ w = w' := by
  go_enter Try.func73, Try.ntmps73
  go_wp2
  go_ret
  exact ⟨rfl, rfl⟩

theorem sum_ok (b off len cap : Nat) (z : Nat → Int) (i : Int) (w : World)
    (hz : ∀ j, 0 ≤ z j ∧ z j ≤ 255) (hn : len ≤ 1492)
    (hc : ∀ j, j < len → w.cell? ⟨b, off + j, none⟩ = some (.int .u8 (z j)))
    (hi0 : 0 ≤ i) (hi : i ≤ len - 2) :
    Calls Try.prog 59 #[.slice (some ⟨b, off, none⟩) len cap, .int .i64 i] w fun e w' => e = .returned (.tuple #[.int .u16 (chk z i.toNat len), .int .i64 0]) ∧ w = w' := by
  obtain ⟨s, rfl⟩ := Int.eq_ofNat_of_zero_le hi0
  rw [Int.toNat_natCast]
  go_enter Try.func59, Try.ntmps59
  go_wp2_with (go_at_call 73; refine (checkPlace_ok _ _ _ _ _ (by omega) (by omega) (by omega)).mono ?_; rintro e w' ⟨rfl, rfl⟩)
  go_loop [7, 8, 21] (fun p q t => ∃ c : Nat, c ≤ len ∧ t = .int .i64 c ∧ p = .int .i64 (sumA z s c) ∧ q = .int .i64 (sumB z s len c)) (fun _ _ t => len - (intOf t).toNat)
  case atStart => exact ⟨0, Nat.zero_le _, rfl, rfl, rfl⟩
  case round =>
    obtain ⟨c, hcm, rfl, rfl, rfl⟩ := hrel
    have hA := sumA_bd z s c hz
    have hB := sumB_bd z s len c hz hn hcm
    by_cases hlt : c < len
    · have hcell := hc c hlt
      have hb := hz c
      have hm := mul_bd (z c) ((len : Int) - c) 255 1492 hb.1 hb.2 (by omega) (by omega)
      by_cases h1 : c = s
      · have hs1 := Lib.hid (sumA_skip z s c (.inl h1))
        have hs2 := Lib.hid (sumB_skip z s len c (.inl h1))
        have h1' : ((c : Int) != s) = false := by simp [h1]
        have H1 := Lib.hid h1; clear h1
        go_wp2
        go_round
        case rel => exact ⟨c + 1, by omega, by go_num, by rw [hs1.out], by rw [hs2.out]⟩
        case measure => simp [intOf]; omega
      · have h1' : ((c : Int) != s) = true := by simp; omega
        by_cases h2 : c = s + 1
        · have hs1 := Lib.hid (sumA_skip z s c (.inr h2))
          have hs2 := Lib.hid (sumB_skip z s len c (.inr h2))
          have h2' : ((c : Int) != (s : Int) + 1) = false := by simp; omega
          have H2 := Lib.hid h2; clear h2
          go_wp2
          go_round
          case rel => exact ⟨c + 1, by omega, by go_num, by rw [hs1.out], by rw [hs2.out]⟩
          case measure => simp [intOf]; omega
        · have hs1 := Lib.hid (sumA_take z s c (by omega))
          have hs2 := Lib.hid (sumB_take z s len c (by omega))
          have h2' : ((c : Int) != (s : Int) + 1) = true := by simp; omega
          go_wp2
          go_round
          case rel => exact ⟨c + 1, by omega, by go_num, by rw [hs1.out], by rw [hs2.out]⟩
          case measure => simp [intOf]; omega
    · obtain rfl : c = len := by omega
      have hm := mul_bd (sumA z s c) ((c : Int) - s - 1) 380460 1492 hA.1 (by omega) (by omega) (by omega)
      have hx := cbI_bd (sumA z s c * ((c : Int) - s - 1) - sumB z s c c)
      have hy := cbI_bd (-sumA z s c - cbI (sumA z s c * ((c : Int) - s - 1) - sumB z s c c))
      have hj := Lib.hid (u16_join' _ _ hx hy)
      go_wp2_with (go_at_call 74; refine (checkByte_any _ _ (by omega) (by omega)).mono ?_; rintro e w' ⟨rfl, rfl⟩)
      go_ret2
      exact ⟨ret2_eq (u16_eq hj.out) _, rfl⟩
end Go.Proofs.Ytfojfdlapekjoaa

/- octet.Right tells whether the bytes have their check bytes; their errors are those of the place. Each theorem states its conditions. -/
namespace Go.Proofs.Ytfojfdlapekjoaa
open Go.RowKit
set_option linter.unusedVariables false

theorem sum_err (A : Option Addr) (len cap : Nat) (i : Int) (w : World) (v : Int) (hv : 1 ≤ v)
    (hp : Calls Try.prog 73 #[.slice A len cap, .int .i64 i] w fun e w' => e = .returned (.int .i64 v) ∧ w = w') :
    Calls Try.prog 59 #[.slice A len cap, .int .i64 i] w fun e w' => e = .returned (.tuple #[.int .u16 0, .int .i64 v]) ∧ w = w' := by
  have H := Lib.hid hp
  clear hp
  go_enter Try.func59, Try.ntmps59
  go_wp2_with fail
  refine (H.out).mono ?_
  rintro e w' ⟨rfl, rfl⟩
  go_wp2
  go_ret2
  exact ⟨rfl, rfl⟩

theorem right_err (A : Option Addr) (len cap : Nat) (i : Int) (w : World) (v : Int) (hv : 1 ≤ v)
    (hp : Calls Try.prog 73 #[.slice A len cap, .int .i64 i] w fun e w' => e = .returned (.int .i64 v) ∧ w = w') :
    Calls Try.prog 69 #[.slice A len cap, .int .i64 i] w fun e w' => e = .returned (.tuple #[.bool false, .int .i64 v]) ∧ w = w' := by
  have H := Lib.hid (sum_err A len cap i w v hv hp)
  clear hp
  go_enter Try.func69, Try.ntmps69
  go_wp2_with fail
  refine (H.out).mono ?_
  rintro e w' ⟨rfl, rfl⟩
  go_wp2
  go_ret2
  exact ⟨rfl, rfl⟩

/-- are the check bytes there? -/
def rightB (z : Nat → Int) (s n : Nat) : Bool := z s == chkX z s n && z (s + 1) == chkY z s n
theorem chk_bd (z : Nat → Int) (s n : Nat) : 0 ≤ chk z s n ∧ chk z s n ≤ 65535 ∧ chk z s n / 256 = chkX z s n ∧ chk z s n % 256 = chkY z s n ∧ 1 ≤ chkX z s n ∧ chkX z s n ≤ 255 ∧ 1 ≤ chkY z s n ∧ chkY z s n ≤ 255 := by
  have h1 : 1 ≤ chkX z s n ∧ chkX z s n ≤ 255 := by unfold chkX; exact cbI_bd _
  have h2 : 1 ≤ chkY z s n ∧ chkY z s n ≤ 255 := by unfold chkY; exact cbI_bd _
  unfold chk
  omega

theorem right_ok (b off len cap : Nat) (z : Nat → Int) (i : Int) (w : World) (hr : Row8 w b off len z) (hn : len ≤ 1492) (hi0 : 0 ≤ i) (hi : i ≤ len - 2) :
    Calls Try.prog 69 #[.slice (some ⟨b, off, none⟩) len cap, .int .i64 i] w fun e w' => e = .returned (.tuple #[.bool (rightB z i.toNat len), .int .i64 0]) ∧ w = w' := by
  obtain ⟨s, rfl⟩ := Int.eq_ofNat_of_zero_le hi0
  rw [Int.toNat_natCast]
  have hsum := sum_ok b off len cap z s w hr.2.2 hn hr.2.1 hi0 hi
  rw [Int.toNat_natCast] at hsum
  have H := Lib.hid hsum
  have c0 := hr.2.1 s (by omega)
  have c1 := hr.2.1 (s + 1) (by omega)
  have hb := chk_bd z s len
  clear hsum hr
  by_cases h1 : z s = chkX z s len
  · by_cases h2 : z (s + 1) = chkY z s len
    · have hres := Lib.hid (show rightB z s len = true by simp [rightB, h1, h2])
      have h1' : (z s == chkX z s len) = true := by simp [h1]
      have h2' : (z (s + 1) == chkY z s len) = true := by simp [h2]
      clear h1 h2
      go_enter Try.func69, Try.ntmps69
      go_wp2_with (refine (H.out).mono ?_; rintro e w' ⟨rfl, rfl⟩)
      go_ret2
      exact ⟨ret2_eq (by rw [hres.out]; rfl) _, rfl⟩
    · have hres := Lib.hid (show rightB z s len = false by simp [rightB, h1, h2])
      have h1' : (z s == chkX z s len) = true := by simp [h1]
      have h2' : (z (s + 1) == chkY z s len) = false := by simp [h2]
      clear h1 h2
      go_enter Try.func69, Try.ntmps69
      go_wp2_with (refine (H.out).mono ?_; rintro e w' ⟨rfl, rfl⟩)
      go_ret2
      exact ⟨ret2_eq (by rw [hres.out]; rfl) _, rfl⟩
  · have hres := Lib.hid (show rightB z s len = false by simp [rightB, h1])
    have h1' : (z s == chkX z s len) = false := by simp [h1]
    clear h1 c1
    go_enter Try.func69, Try.ntmps69
    go_wp2_with (refine (H.out).mono ?_; rintro e w' ⟨rfl, rfl⟩)
    go_ret2
    exact ⟨ret2_eq (by rw [hres.out]; rfl) _, rfl⟩
end Go.Proofs.Ytfojfdlapekjoaa

/- Check bytes that are laid are right there; a byte that is turned is seen. Plain facts, and what two stores leave. Each theorem states its conditions. -/
namespace Go.Proofs.Ytfojfdlapekjoaa
open Go.RowKit
set_option linter.unusedVariables false

theorem sumA_congr (z z' : Nat → Int) (s k : Nat) (h : ∀ j, j < k → j ≠ s → j ≠ s + 1 → z j = z' j) : sumA z s k = sumA z' s k := by
  induction k with
  | zero => rfl
  | succ k ih =>
    have := ih fun j hj => h j (by omega)
    by_cases hk : k = s ∨ k = s + 1
    · rw [sumA_skip _ _ _ hk, sumA_skip _ _ _ hk, this]
    · rw [sumA_take _ _ _ hk, sumA_take _ _ _ hk, this, h k (by omega) (by omega) (by omega)]
theorem sumB_congr (z z' : Nat → Int) (s n k : Nat) (h : ∀ j, j < k → j ≠ s → j ≠ s + 1 → z j = z' j) : sumB z s n k = sumB z' s n k := by
  induction k with
  | zero => rfl
  | succ k ih =>
    have := ih fun j hj => h j (by omega)
    by_cases hk : k = s ∨ k = s + 1
    · rw [sumB_skip _ _ _ _ hk, sumB_skip _ _ _ _ hk, this]
    · rw [sumB_take _ _ _ _ hk, sumB_take _ _ _ _ hk, this, h k (by omega) (by omega) (by omega)]
theorem sumA_upd (z : Nat → Int) (s k i : Nat) (v : Int) (hi : i < k) (h1 : i ≠ s) (h2 : i ≠ s + 1) : sumA (upd z i v) s k = sumA z s k + (v - z i) := by
  induction k with
  | zero => omega
  | succ k ih =>
    by_cases hk : k = s ∨ k = s + 1
    · rw [sumA_skip _ _ _ hk, sumA_skip _ _ _ hk, ih (by omega)]
    · rw [sumA_take _ _ _ hk, sumA_take _ _ _ hk]
      by_cases e : i = k
      · subst e
        rw [upd_same, sumA_congr (upd z i v) z s i fun j hj _ _ => upd_other z i j v (by omega)]
        omega
      · rw [ih (by omega), upd_other z i k v (fun x => e x.symm)]
        omega

/-- the bytes with their check bytes laid -/
def laidZ (z : Nat → Int) (s n : Nat) : Nat → Int := upd (upd z s (chkX z s n)) (s + 1) (chkY z s n)
theorem laidZ_far (z : Nat → Int) (s n j : Nat) (h1 : j ≠ s) (h2 : j ≠ s + 1) : laidZ z s n j = z j := by
  unfold laidZ; rw [upd_other _ _ _ _ h2, upd_other _ _ _ _ h1]
theorem laidZ_s (z : Nat → Int) (s n : Nat) : laidZ z s n s = chkX z s n := by
  unfold laidZ; rw [upd_other _ _ _ _ (by omega), upd_same]
theorem laidZ_s1 (z : Nat → Int) (s n : Nat) : laidZ z s n (s + 1) = chkY z s n := by
  unfold laidZ; rw [upd_same]
theorem chkX_congr (z z' : Nat → Int) (s n : Nat) (h : ∀ j, j < n → j ≠ s → j ≠ s + 1 → z j = z' j) : chkX z s n = chkX z' s n := by
  unfold chkX; rw [sumA_congr z z' s n h, sumB_congr z z' s n n h]
theorem chkY_congr (z z' : Nat → Int) (s n : Nat) (h : ∀ j, j < n → j ≠ s → j ≠ s + 1 → z j = z' j) : chkY z s n = chkY z' s n := by
  unfold chkY; rw [sumA_congr z z' s n h, chkX_congr z z' s n h]
theorem chk_congr (z z' : Nat → Int) (s n : Nat) (h : ∀ j, j < n → j ≠ s → j ≠ s + 1 → z j = z' j) : chk z s n = chk z' s n := by
  unfold chk; rw [chkY_congr z z' s n h, chkX_congr z z' s n h]
theorem chk_laid (z : Nat → Int) (s n : Nat) : chk (laidZ z s n) s n = chk z s n := chk_congr _ _ s n fun j _ h1 h2 => laidZ_far z s n j h1 h2
theorem chkX_laid (z : Nat → Int) (s n : Nat) : chkX (laidZ z s n) s n = chkX z s n := chkX_congr _ _ s n fun j _ h1 h2 => laidZ_far z s n j h1 h2
theorem chkY_laid (z : Nat → Int) (s n : Nat) : chkY (laidZ z s n) s n = chkY z s n := chkY_congr _ _ s n fun j _ h1 h2 => laidZ_far z s n j h1 h2
theorem right_laid (z : Nat → Int) (s n : Nat) : rightB (laidZ z s n) s n = true := by
  unfold rightB; rw [chkX_laid, chkY_laid, laidZ_s, laidZ_s1]; simp

theorem upd_id (z : Nat → Int) (i : Nat) (v : Int) (h : z i = v) : upd z i v = z := by
  funext j; unfold upd; split
  · subst j; exact h.symm
  · rfl
theorem turned_yes (z : Nat → Int) (s n i : Nat) (v : Int) (h : laidZ z s n i = v) : rightB (upd (laidZ z s n) i v) s n = true := by
  rw [upd_id _ _ _ h]; exact right_laid z s n

theorem turned_not (z : Nat → Int) (s n i : Nat) (v : Int) (hi : i < n) (hz : ∀ j, 0 ≤ z j ∧ z j ≤ 255) (hv : 0 ≤ v ∧ v ≤ 255) (h : laidZ z s n i ≠ v)
    (h1 : ¬ (laidZ z s n i = 0 ∧ v = 255)) (h2 : ¬ (laidZ z s n i = 255 ∧ v = 0)) : rightB (upd (laidZ z s n) i v) s n = false := by
  have hb := chk_bd z s n
  have hP : 0 ≤ laidZ z s n i ∧ laidZ z s n i ≤ 255 := by
    unfold laidZ; exact upd_bd (upd_bd hz _ _ (by omega)) _ _ (by omega) i
  rw [Bool.eq_false_iff]
  intro hr
  unfold rightB at hr
  simp only [Bool.and_eq_true, beq_iff_eq] at hr
  obtain ⟨r1, r2⟩ := hr
  by_cases e1 : i = s
  · subst e1
    rw [upd_same, chkX_congr _ (laidZ z i n) i n fun j _ g1 g2 => upd_other _ i j v g1, chkX_laid] at r1
    rw [laidZ_s] at h
    exact h r1.symm
  · rw [upd_other _ i s v (fun x => e1 x.symm), laidZ_s] at r1
    by_cases e2 : i = s + 1
    · subst e2
      rw [upd_same, chkY_congr _ (laidZ z s n) s n fun j _ g1 g2 => upd_other _ _ j v g2, chkY_laid] at r2
      rw [laidZ_s1] at h
      exact h r2.symm
    · rw [upd_other _ i (s + 1) v (fun x => e2 x.symm), laidZ_s1] at r2
      unfold chkY at r2
      rw [← r1, sumA_upd _ s n i v hi e1 e2, sumA_congr (laidZ z s n) z s n fun j _ g1 g2 => laidZ_far z s n j g1 g2] at r2
      unfold cbI at r2
      omega

section
variable {w w0 : World} {g n cap s : Nat} {z : Nat → Int}
theorem Own8.at_ (h : Own8 w g n cap z) (j : Nat) (hj : j < n) : w.cell? ⟨g, j, none⟩ = some (.int .u8 (z j)) := by
  have := h.row.2.1 j hj
  rwa [Nat.zero_add] at this
theorem laid_ex (h : Own8 w g n cap z) (hs : s + 2 ≤ n) {B : Nat} (hb : Below B w0 w) (hB : B ≤ g) :
    ∃ W2, (w.setCell ⟨g, s, none⟩ (.int .u8 (chkX z s n))).setCell ⟨g, s + 1, none⟩ (.int .u8 (chkY z s n)) = W2 ∧ Own8 W2 g n cap (laidZ z s n) ∧ Below B w0 W2 := by
  have hc := chk_bd z s n
  exact ⟨_, rfl, (h.put s (by omega) _ (by omega)).put (s + 1) (by omega) _ (by omega), (hb.setCell hB _).setCell hB _⟩
theorem laid_ex2 (h : Own8 w g n cap z) (hs : s + 2 ≤ n) {B : Nat} (hb : Below B w0 w) (hB : B ≤ g) :
    ∃ W2, (w.setCell ⟨g, s, none⟩ (.int .u8 (chkX z s n))).setCell ⟨g, s + 1, none⟩ (.int .u8 (chkY z s n)) = W2 ∧ Own8 W2 g n cap (laidZ z s n) ∧ Below B w0 W2 ∧ ∀ p : Addr, p.block ≠ g → W2.cell? p = w.cell? p := by
  obtain ⟨W2, hW, h1, h2⟩ := laid_ex (s := s) h hs hb hB
  refine ⟨W2, hW, h1, h2, fun p hp => ?_⟩
  subst hW
  rw [World.cell?_setCell_other _ _ _ _ (fun e => by subst e; exact hp rfl), World.cell?_setCell_other _ _ _ _ (fun e => by subst e; exact hp rfl)]
theorem put_ex (h : Own8 w g n cap z) {i : Nat} {v : Int} (hi : i < n) (hv : 0 ≤ v ∧ v ≤ 255) {B : Nat} (hb : Below B w0 w) (hB : B ≤ g) :
    ∃ W2, w.setCell ⟨g, i, none⟩ (.int .u8 v) = W2 ∧ Own8 W2 g n cap (upd z i v) ∧ Below B w0 W2 :=
  ⟨_, rfl, h.put i hi _ hv, hb.setCell hB _⟩
end
theorem xor_bd (a b : Int) (ha : 0 ≤ a ∧ a ≤ 255) (hb : 0 ≤ b ∧ b ≤ 255) : 0 ≤ bits .xor .u8 a b ∧ bits .xor .u8 a b ≤ 255 := by
  rw [u8_xor _ _ ha.1 (by omega) hb.1 (by omega)]
  have : a.toNat ^^^ b.toNat < 2 ^ 8 := Nat.xor_lt_two_pow (by omega) (by omega)
  omega
end Go.Proofs.Ytfojfdlapekjoaa

/- Lists of types and values that a call reads: what is known of them. Each theorem states its conditions. -/
namespace Go.Proofs.Ytfojfdlapekjoaa
open Go.RowKit
set_option linter.unusedVariables false

/-- one of a list: its type, and its value: where it lies, how many bytes, the room, the bytes -/
structure It where
  ty : Int
  A : Option Addr
  n : Nat
  c : Nat
  z : Nat → Int

def ItOk (w : World) (t : It) : Prop := (0 ≤ t.ty ∧ t.ty ≤ 255) ∧ Rd w t.A t.n t.z ∧ (t.A = none → t.n = 0 ∧ t.c = 0) ∧ t.n ≤ 140737488351232

/-- m of them, from ⟨b, off⟩ on, two cells each -/
def RowT (w : World) (b off m : Nat) (L : Nat → It) : Prop :=
  b < w.heap.size ∧ ∀ j, j < m → w.cell? ⟨b, off + j * 2, none⟩ = some (.int .u8 (L j).ty) ∧ w.cell? ⟨b, off + j * 2 + 1, none⟩ = some (.slice (L j).A (L j).n (L j).c) ∧ ItOk w (L j)

/-- a list that can be read -/
def RdT (w : World) (A : Option Addr) (m : Nat) (L : Nat → It) : Prop := m = 0 ∨ ∃ b off, A = some ⟨b, off, none⟩ ∧ RowT w b off m L

theorem ItOk.below {w w' : World} {t : It} (h : ItOk w t) (hb : Below w.heap.size w w') : ItOk w' t := ⟨h.1, h.2.1.below hb rfl, h.2.2⟩
theorem RowT.below {w w' : World} {b off m : Nat} {L : Nat → It} (h : RowT w b off m L) (hb : Below w.heap.size w w') : RowT w' b off m L := by
  refine ⟨?_, fun j hj => ?_⟩
  · have := hb.size; have := h.1; omega
  · obtain ⟨h1, h2, h3⟩ := h.2 j hj
    exact ⟨(hb.cell (p := ⟨b, off + j * 2, none⟩) h.1).trans h1, (hb.cell (p := ⟨b, off + j * 2 + 1, none⟩) h.1).trans h2, h3.below hb⟩
theorem RdT.below {w w' : World} {A : Option Addr} {m : Nat} {L : Nat → It} (h : RdT w A m L) (hb : Below w.heap.size w w') : RdT w' A m L := by
  rcases h with h | ⟨b, off, rfl, h⟩
  · exact .inl h
  · exact .inr ⟨b, off, rfl, h.below hb⟩
theorem RdT.row {w : World} {A : Option Addr} {m : Nat} {L : Nat → It} (h : RdT w A m L) (hm : 0 < m) : ∃ b off, A = some ⟨b, off, none⟩ ∧ RowT w b off m L := by
  rcases h with h | h
  · omega
  · exact h
theorem Rd.draws {w : World} {A : Option Addr} {n : Nat} {z : Nat → Int} (h : Rd w A n z) (k : Nat) : Rd (w.drewN k) A n z := h

set_option maxHeartbeats 1000000 in
theorem sameL_yes (A B : Option Addr) (m c d : Nat) (L L' : Nat → It) (w : World) (ha : RdT w A m L) (hb : RdT w B m L')
    (he : ∀ j, j < m → (L j).ty = (L' j).ty ∧ (L j).n = (L' j).n ∧ ∀ i, i < (L j).n → (L j).z i = (L' j).z i) (hm : m ≤ 9223372036854775807) :
    Calls Try.prog 15 #[.slice A m c, .slice B m d] w fun e w' => e = .returned (.bool true) ∧ ∃ k, w' = w.drewN k := by
  rcases Nat.eq_zero_or_pos m with rfl | hn
  · clear ha hb he
    go_enter Try.func15, Try.ntmps15
    go_wp2
    refine wp_loop_rounds 1 ?_
    rw [rounds_succ]
    go_wp2
    go_ret
    exact ⟨rfl, 0, rfl⟩
  · obtain ⟨b, off, rfl, hr⟩ := ha.row hn
    obtain ⟨b', off', rfl, hr'⟩ := hb.row hn
    have HR := Lib.hid hr
    have HR' := Lib.hid hr'
    have HE := Lib.hid he
    clear ha hb hr hr' he
    go_enter Try.func15, Try.ntmps15
    go_wp2
    go_loopw [13] (fun t wr => ∃ k r : Nat, k ≤ m ∧ t = .int .i64 k ∧ Hid (wr = w.drewN r)) (fun t _ => m - (intOf t).toNat)
    case atStart => exact ⟨0, 0, by omega, rfl, Lib.hid rfl⟩
    case round =>
      obtain ⟨k, r, hk, rfl, hw⟩ := hrel
      by_cases hlt : k < m
      · have h1 : RowT wr b off m L := by rw [hw.out]; exact HR.out
        have h2 : RowT wr b' off' m L' := by rw [hw.out]; exact HR'.out
        obtain ⟨g1, g2, g3⟩ := h1.2 k hlt
        obtain ⟨g1', g2', g3'⟩ := h2.2 k hlt
        obtain ⟨e1, e2, e3⟩ := HE.out k hlt
        have H := Lib.hid (fun (q : Nat) c d => same_yes (L k).A (L' k).A (L k).n c d (L k).z (L' k).z (wr.drewN q) (Rd.draws g3.2.1 q) (Rd.draws (by rw [e2]; exact g3'.2.1) q) e3 (by have := g3.2.2.2; omega))
        rw [← e1] at g1'
        rw [← e2] at g2'
        clear h1 h2 e1 e2 e3 g3 g3'
        go_wp2_with fail
        go_quiet (first | (go_at_call 14; exact Calls.quiet_of (H.out _ _ _)))
        go_wp2
        go_roundw
        case rel => exact ⟨k + 1, r + nq, by omega, by go_num, Lib.hid (by rw [hw.out, World.drewN_drewN])⟩
        case measure => simp [intOf]; omega
      · obtain rfl : k = m := by omega
        go_wp2
        go_ret
        exact ⟨rfl, r, hw.out⟩
end Go.Proofs.Ytfojfdlapekjoaa

/- Lists of types and values that a call has made: what is known of them, and what becomes of it. Each theorem states its conditions. -/
namespace Go.Proofs.Ytfojfdlapekjoaa
open Go.RowKit
set_option linter.unusedVariables false

/-- the cells of the first m -/
def cellsT (L : Nat → It) : Nat → List Value
  | 0 => []
  | m + 1 => cellsT L m ++ [.int .u8 (L m).ty, .slice (L m).A (L m).n (L m).c]

theorem cellsT_len (L : Nat → It) (m : Nat) : (cellsT L m).length = m * 2 := by
  induction m with
  | zero => rfl
  | succ m ih => simp [cellsT, ih]; omega
theorem cellsT_at (L : Nat → It) (m j : Nat) (h : j < m) : (cellsT L m)[j * 2]? = some (.int .u8 (L j).ty) ∧ (cellsT L m)[j * 2 + 1]? = some (.slice (L j).A (L j).n (L j).c) := by
  induction m with
  | zero => omega
  | succ m ih =>
    have hl := cellsT_len L m
    simp only [cellsT]
    by_cases e : j = m
    · subst e
      rw [List.getElem?_append_right (by omega), List.getElem?_append_right (by omega), hl]
      simp
    · rw [List.getElem?_append_left (by omega), List.getElem?_append_left (by omega)]
      exact ih (by omega)
/-- item k is another one -/
def updT (L : Nat → It) (k : Nat) (t : It) : Nat → It := fun j => if j = k then t else L j
theorem updT_same (L : Nat → It) (k : Nat) (t : It) : updT L k t k = t := by simp [updT]
theorem updT_other (L : Nat → It) (k j : Nat) (t : It) (h : j ≠ k) : updT L k t j = L j := by simp [updT, h]
theorem cellsT_congr (L L' : Nat → It) (m : Nat) (h : ∀ j, j < m → (L j).ty = (L' j).ty ∧ (L j).A = (L' j).A ∧ (L j).n = (L' j).n ∧ (L j).c = (L' j).c) : cellsT L m = cellsT L' m := by
  induction m with
  | zero => rfl
  | succ m ih =>
    obtain ⟨h1, h2, h3, h4⟩ := h m (by omega)
    simp only [cellsT, h1, h2, h3, h4]
    rw [ih (fun j hj => h j (by omega))]
theorem cellsT_push (L : Nat → It) (k : Nat) (t : It) : cellsT (updT L k t) (k + 1) = cellsT L k ++ [.int .u8 t.ty, .slice t.A t.n t.c] := by
  simp only [cellsT, updT_same]
  rw [cellsT_congr (updT L k t) L k (fun j hj => by rw [updT_other _ _ _ _ (by omega)]; exact ⟨rfl, rfl, rfl, rfl⟩)]
theorem cellsT_one (L : Nat → It) (m : Nat) : ∀ u ∈ cellsT L m, u.oneCell' = true := by
  induction m with
  | zero => simp [cellsT]
  | succ m ih =>
    intro u hu
    simp only [cellsT, List.mem_append, List.mem_cons, List.not_mem_nil, or_false] at hu
    rcases hu with h | rfl | rfl
    · exact ih u h
    · rfl
    · rfl

/-- a value of the call's own: its bytes lie in a block of the call's own -/
def OwnV (w : World) (base : Nat) (t : It) : Prop :=
  (0 ≤ t.ty ∧ t.ty ≤ 255) ∧ t.n ≤ 140737488351232 ∧ ∃ g, t.A = some ⟨g, 0, none⟩ ∧ base ≤ g ∧ Own8 w g t.n t.c t.z
/-- a list of the call's own -/
def OwnT (w : World) (base : Nat) (v : Value) (m : Nat) (L : Nat → It) : Prop :=
  w.ownsRow base 53 2 v m (cellsT L m) ∧ ∀ j, j < m → OwnV w base (L j)

section
variable {w w' : World} {base m : Nat} {v : Value} {L : Nat → It} {t : It}

theorem OwnV.below (h : OwnV w base t) (hb : Below w.heap.size w w') : OwnV w' base t := by
  obtain ⟨h1, h2, g, h3, h4, h5⟩ := h
  exact ⟨h1, h2, g, h3, h4, h5.below hb h5.lt⟩
theorem OwnV.ok (h : OwnV w base t) : ItOk w t := by
  obtain ⟨h1, h2, g, h3, h4, h5⟩ := h
  refine ⟨h1, ⟨.inr ⟨g, 0, h3, h5.row⟩, h5.2⟩, fun e => ?_, h2⟩
  rw [h3] at e; cases e
theorem OwnV.mono {b : Nat} (h : OwnV w base t) (hb : b ≤ base) : OwnV w b t := by
  obtain ⟨h1, h2, g, h3, h4, h5⟩ := h
  exact ⟨h1, h2, g, h3, by omega, h5⟩
theorem ownsRow_below {e : TypeId} {s : Nat} {xs : List Value} (h : w.ownsRow base e s v m xs) (hb : Below w.heap.size w w') : w'.ownsRow base e s v m xs := by
  refine ⟨h.1, ?_⟩
  rcases h.2 with h | ⟨g, cap, cur, hv, hg, hc, r⟩
  · exact .inl h
  · exact .inr ⟨g, cap, cur, hv, hg, (hb.block g (Array.getElem?_eq_some_iff.1 hc).1).trans hc, r⟩
theorem OwnT.below (h : OwnT w base v m L) (hb : Below w.heap.size w w') : OwnT w' base v m L :=
  ⟨ownsRow_below h.1 hb, fun j hj => (h.2 j hj).below hb⟩
theorem OwnT.nil (w : World) (base : Nat) (L : Nat → It) : OwnT w base (.slice none 0 0) 0 L := ⟨World.ownsRow_nil _ _ _ _, fun j hj => by omega⟩

theorem ownV_grown {v' : Value} {xs : List Value} {n : Nat} (h : OwnV w base t) (hr : w.ownsRow base 53 2 v n xs) (hg : w.grownBy w' v.ownBlock) : OwnV w' base t := by
  obtain ⟨h1, h2, g, h3, h4, h5⟩ := h
  refine ⟨h1, h2, g, h3, h4, h5.grown hg ?_⟩
  intro e
  obtain ⟨⟨cur, hc, _⟩, _⟩ := h5
  rcases hr.2 with ⟨rfl, _⟩ | ⟨g', cap, cur', rfl, _, hc', _⟩
  · cases e
  · simp [Value.ownBlock] at e
    subst e
    rw [hc] at hc'
    simp at hc'

/-- behind an append of one more -/
theorem OwnT.push {v' : Value} {k : Nat} (h : OwnT w base v k L) (ht : OwnV w base t) (hr : w'.ownsRow base 53 2 v' (k + 1) (cellsT L k ++ [.int .u8 t.ty, .slice t.A t.n t.c])) (hg : w.grownBy w' v.ownBlock) :
    OwnT w' base v' (k + 1) (updT L k t) := by
  refine ⟨by rw [cellsT_push]; exact hr, fun j hj => ?_⟩
  by_cases e : j = k
  · subst e
    rw [updT_same]
    exact ownV_grown (v' := v') ht h.1 hg
  · rw [updT_other _ _ _ _ e]
    exact ownV_grown (v' := v') (h.2 j (by omega)) h.1 hg

theorem OwnT.shape (h : OwnT w base v m L) : ∃ A c, v = .slice A m c ∧ m ≤ c ∧ c ≤ maxLen ∧ (A = none → m = 0 ∧ c = 0) ∧ RdT w A m L := by
  have hi : ∀ j, j < m → ItOk w (L j) := fun j hj => (h.2 j hj).ok
  rcases h.1.2 with ⟨rfl, rfl⟩ | ⟨g, cap, cur, rfl, hb, hc, h1, h2, h3, h4⟩
  · exact ⟨none, 0, rfl, Nat.le_refl _, by decide, fun _ => ⟨rfl, rfl⟩, .inl rfl⟩
  · refine ⟨some ⟨g, 0, none⟩, cap, rfl, h1, h2, fun e => (by cases e), .inr ⟨g, 0, rfl, (Array.getElem?_eq_some_iff.1 hc).1, fun j hj => ?_⟩⟩
    have hx := cellsT_at L m j hj
    rw [← h4] at hx
    rw [List.getElem?_take, if_pos (by omega), List.getElem?_take, if_pos (by omega)] at hx
    refine ⟨?_, ?_, hi j hj⟩
    · rw [Nat.zero_add, cell_of_row w g _ cur _ (0, 0) hc]; simpa using hx.1
    · rw [Nat.zero_add, cell_of_row w g _ cur _ (0, 0) hc]; simpa using hx.2
end

theorem info_tlv : (Try.prog.info? 53).map (fun i => (i.zero, i.size, i.bytes)) = some (some (.agg #[.int .u8 0, .slice none 0 0]), 2, 32) := by kernel_rfl

theorem two_new (w : World) (a b : Value) (t : TypeId) : ∀ j u, [a, b][j]? = some u → (w.alloc (.cells #[a, b] t)).cell? ((⟨w.heap.size, 0, none⟩ : Addr).add j) = some u := by
  intro j u hj
  match j, hj with
  | 0, hj => simp at hj; subst hj; simp [Addr.add]
  | 1, hj => simp at hj; subst hj; simp [Addr.add]
theorem two_one (a : Int) (A : Option Addr) (n c : Nat) : ∀ u ∈ [Value.int .u8 a, Value.slice A n c], u.oneCell' = true := by
  intro u hu; simp only [List.mem_cons, List.not_mem_nil, or_false] at hu; rcases hu with rfl | rfl <;> rfl
end Go.Proofs.Ytfojfdlapekjoaa

/- Split reads a list out of bytes. Each theorem states its conditions. -/
namespace Go.Proofs.Ytfojfdlapekjoaa
open Go.RowKit
set_option linter.unusedVariables false

/-- what Clone of bytes that aren't nil leaves -/
theorem clone_any (ad : Addr) (n c : Nat) (z : Nat → Int) (w : World) (h : Rd w (some ad) n z) (hn : n ≤ 140737488351232) :
    Calls Try.prog 68 #[.slice (some ad) n c] w (TwinPost w n z) := by
  obtain ⟨i0, hi, hz0, hz1, hz2⟩ := info_parts info_u8
  have hm : (0 : Nat) ≤ maxLen := by decide
  have hown := World.ownsRow_made (e := 5) (size := 1) (base := w.heap.size) w #[] 0 (Nat.le_refl _) hm rfl
  have hnews : ∀ j u, (vals z n)[j]? = some u → (w.alloc (.cells #[] 5)).cell? (ad.add j) = some u := rd_news h _
  have h1 := vals_one z n
  have hl := vals_len z n
  have hne := fun (W : World) => Lib.run_eql_slice_nil (P := Try.prog) W 35 5 (some ad) n c 0 0 Try.underlying35
  go_enter Try.func68, Try.ntmps68
  go_wp2_with (at_builtin; refine wpList_append_own_at _ rfl (.tmp 5) (.tmp 6) 35 rfl w.heap.size 5 i0 (.int .u8 0) 1 1 Try.underlying35 hi hz0 hz1 hz2 rfl (by decide) _ 0 [] rfl hown ad n c (vals z n) rfl (by omega) hnews h1 (by unfold maxLen; omega) (by omega) (by simp) ?_)
  intro v' w1 hown1 hgrow hnil hat
  go_wp2
  go_ret
  obtain ⟨g, cap, rfl, hg, ho⟩ := own_of (by simpa using hown1) (by simp) hnil h.2
  have hb : Below w.heap.size w w1 := ((Below.refl _ _).alloc (Nat.le_refl _) _).grown hgrow (by simp) (by simp [Value.ownBlock])
  exact ⟨g, cap, rfl, hg, ho, hb⟩

/-- where the k-th begins -/
def pos (z : Nat → Int) : Nat → Nat
  | 0 => 0
  | k + 1 => pos z k + 2 + (z (pos z k + 1)).toNat
/-- the k-th, but for where its bytes lie -/
def itZ (z : Nat → Int) (k : Nat) (g cap : Nat) : It := ⟨z (pos z k), some ⟨g, 0, none⟩, (z (pos z k + 1)).toNat, cap, fun j => z (pos z k + 2 + j)⟩
theorem pos_lt (z : Nat → Int) (k : Nat) : pos z k + 2 ≤ pos z (k + 1) := by simp only [pos]; omega
theorem pos_mono (z : Nat → Int) (k m : Nat) (h : k ≤ m) : pos z k + 2 * (m - k) ≤ pos z m := by
  induction m with
  | zero => obtain rfl : k = 0 := by omega
            simp [pos]
  | succ m ih =>
    by_cases e : k = m + 1
    · subst e; simp
    · have := ih (by omega); have := pos_lt z m; omega
/-- bytes are a list of m, or end within one behind m -/
theorem pos_cases (z : Nat → Int) (n : Nat) : ∃ m, pos z m ≤ n ∧ (pos z m = n ∨ (pos z m < n ∧ (n < pos z m + 2 ∨ n < pos z (m + 1)))) := by
  have key : ∀ d k, pos z k ≤ n → n - pos z k ≤ d → ∃ m, pos z m ≤ n ∧ (pos z m = n ∨ (pos z m < n ∧ (n < pos z m + 2 ∨ n < pos z (m + 1)))) := by
    intro d
    induction d with
    | zero => intro k h1 h2; exact ⟨k, h1, .inl (by omega)⟩
    | succ d ih =>
      intro k h1 h2
      by_cases e : pos z k = n
      · exact ⟨k, h1, .inl e⟩
      · by_cases e2 : n < pos z (k + 1)
        · exact ⟨k, h1, .inr ⟨by omega, .inr e2⟩⟩
        · have := pos_lt z k
          exact ih (k + 1) (by omega) (by omega)
  exact key n 0 (by simp [pos]) (by simp [pos])

theorem addr_eq {b m n : Nat} (h : m = n) : (some ⟨b, m, none⟩ : Option Addr) = some ⟨b, n, none⟩ := by rw [h]
theorem slice_eq {A B : Option Addr} {n m c d : Nat} (h : A = B) (h1 : n = m) (h2 : c = d) : Value.slice A n c = .slice B m d := by rw [h, h1, h2]

/-- item j is the j-th of the bytes, in memory of the call's own -/
def IsItZ (z : Nat → Int) (L : Nat → It) (k : Nat) : Prop := ∀ j, j < k → ∃ g cap, L j = itZ z j g cap

/-- bytes are a list of m, or end within one behind m -/
def Ends (z : Nat → Int) (n m : Nat) : Prop := pos z m ≤ n ∧ (pos z m = n ∨ (pos z m < n ∧ (n < pos z m + 2 ∨ n < pos z (m + 1))))
/-- what a reader leaves -/
def SplitPost (w : World) (z : Nat → Int) (n m : Nat) (e : Ending) (w' : World) : Prop :=
  (pos z m = n ∧ ∃ v L, e = .returned (.tuple #[v, .int .i64 0]) ∧ OwnT w' w.heap.size v m L ∧ IsItZ z L m ∧ Below w.heap.size w w') ∨
  (pos z m ≠ n ∧ e = .returned (.tuple #[.slice none 0 0, .int .i64 3]) ∧ Below w.heap.size w w')

set_option maxHeartbeats 4000000 in
set_option maxRecDepth 100000 in
theorem split_any (A : Option Addr) (n c m : Nat) (z : Nat → Int) (w : World) (h : Rd w A n z) (hA : A = none → n = 0 ∧ c = 0) (hn : n ≤ 1492) (hc : n ≤ c) (hcm : c ≤ 9223372036854775807) (hm : Ends z n m) :
    Calls Try.prog 43 #[.slice A n c] w (SplitPost w z n m) := by
  obtain ⟨i0, hi, hz0, hz1, hz2⟩ := info_parts info_tlv
  have hz := h.2
  have HM := Lib.hid hm
  have HR := Lib.hid h
  clear h hm
  go_enter Try.func43, Try.ntmps43
  go_wp2_with fail
  go_loopw [0, 4] (fun p v wr => ∃ (k : Nat) (A' : Option Addr) (L : Nat → It), pos z k ≤ n ∧ k ≤ m ∧ p = .slice A' (n - pos z k : Nat) (c - pos z k : Nat) ∧ Hid (pos z k < n → ∃ b off, A' = some ⟨b, off + pos z k, none⟩ ∧ Row8 w b off n z) ∧ OwnT wr w.heap.size v k L ∧ Hid (IsItZ z L k) ∧ Below w.heap.size w wr)
    (fun p _ _ => match p with | .slice _ l _ => l | _ => 0)
  case atStart => exact ⟨0, A, fun _ => ⟨0, none, 0, 0, z⟩, by simp [pos], by omega, slice_eq rfl (by simp [pos]) (by simp [pos]), Lib.hid (fun h => by
    obtain ⟨b, off, e, hr⟩ := HR.out.row (by simpa [pos] using h)
    exact ⟨b, off, by simpa [pos] using e, hr⟩), OwnT.nil _ _ _, Lib.hid (fun j hj => by omega), bself w⟩
  case round =>
    obtain ⟨k, A', L, hk, hkm, rfl, hA', hown, hL, hb⟩ := hrel
    by_cases hkm1 : k < m
    · have hlt : pos z k < n := by
        have := HM.out.1; have := pos_mono z k m (by omega); omega
      obtain ⟨b, off, rfl, hr⟩ := hA'.out hlt
      have hn1 : pos z (k + 1) ≤ n := by
        have := HM.out.1; have := pos_mono z (k + 1) m (by omega); omega
      have c0 : wr.cell? ⟨b, off + pos z k, none⟩ = some (.int .u8 (z (pos z k))) := (hb.cell (p := ⟨b, off + pos z k, none⟩) hr.1).trans (hr.2.1 _ hlt)
      have hp := pos_lt z k
      have c1 : wr.cell? ⟨b, off + pos z k + 1, none⟩ = some (.int .u8 (z (pos z k + 1))) := (hb.cell (p := ⟨b, off + pos z k + 1, none⟩) hr.1).trans (hr.2.1 (pos z k + 1) (by omega))
      have z0 := hz (pos z k)
      have z1 := hz (pos z k + 1)
      obtain ⟨v1, hv1⟩ := Int.eq_ofNat_of_zero_le z1.1
      have hv1n : (z (pos z k + 1)).toNat = v1 := by omega
      have hpk : pos z (k + 1) = pos z k + 2 + v1 := by simp only [pos]; omega
      have H := Lib.hid (fun (W : World) (hW : Row8 W b off n z) (ad : Addr) (cc : Nat) (had : v1 = 0 ∨ ad = ⟨b, off + pos z k + 2, none⟩) => clone_any ad v1 cc (fun j => z (pos z k + 2 + j)) W ⟨by
        rcases Nat.eq_zero_or_pos v1 with h0 | h0
        · exact .inl h0
        · rcases had with had | rfl
          · omega
          · exact .inr ⟨b, off + pos z k + 2, rfl, hW.1, fun j hj => by
              have := hW.2.1 (pos z k + 2 + j) (by omega)
              rw [← this]; congr 2; omega, fun j => hz _⟩, fun j => hz _⟩ (by omega))
      have hrr := Lib.hid (hr.below hb hr.1)
      have hlb : b < wr.heap.size := by have := hr.1; have := hb.size; omega
      have hbs := hb.size
      have ho := Lib.hid hown
      have hE := Lib.hid hv1
      have hEn := Lib.hid hv1n
      rw [hv1] at c1 z1
      have HN1 := Lib.hid hn1
      rw [hpk] at hn1
      obtain ⟨q, hq⟩ : ∃ q, n - pos z k = q := ⟨_, rfl⟩
      obtain ⟨qc, hqc⟩ : ∃ q, c - pos z k = q := ⟨_, rfl⟩
      rw [hq, hqc]
      have q1 : 2 + (v1 : Int) ≤ (q : Int) := by omega
      have q2 : (q : Int) ≤ (qc : Int) := by omega
      have q3 : (2 : Int) ≤ (q : Int) := by omega
      have q4 : (1 : Int) < (q : Int) := by omega
      have q5 : (0 : Int) < (q : Int) := by omega
      have q6 : (2 : Int) ≤ 2 + (v1 : Int) := by omega
      have q7 : 2 + (v1 : Int) ≤ (qc : Int) := by omega
      have q8 : (0 : Int) ≤ 2 + (v1 : Int) := by omega
      have HQ := Lib.hid hq
      have HQC := Lib.hid hqc
      have HPK := Lib.hid hpk
      have hk31 : (k + 1) * 32 ≤ 140737488355328 := by have := pos_mono z 0 k (by omega); simp only [pos] at this; omega
      have hk63 : k + 1 ≤ maxLen := by unfold maxLen; omega
      have hbase : ∀ g1 cap1 (W : World), wr.heap.size ≤ W.heap.size → w.heap.size ≤ (W.alloc (.cells #[.int .u8 (z (pos z k)), .slice (some ⟨g1, 0, none⟩) v1 cap1] 53)).heap.size := fun g1 cap1 W h => by simp; omega
      have HB := Lib.hid hbase
      have hlen2 : (2 + (v1 : Int)).toNat - 2 = v1 := by omega
      have hr1 := hr.1
      have HRW := Lib.hid hr
      have hfar : u4.ownBlock ≠ some b := fun e => by have := (hown.1.lt b e).1; omega
      have hb1' : b < wr.heap.size + 1 := by omega
      clear hv1 hv1n hpk hn1 hp hq hqc hA' hr hlt hk hown hbase
      generalize hz0' : z (pos z k) = v0 at *
      have HZ0 := Lib.hid hz0'
      clear hz0'
      have hn0 := HR.out.1
      by_cases hcap : qc = 2
      · have HV0 := Lib.hid (show v1 = 0 by omega)
        obtain rfl : q = 2 := by omega
        subst hcap
        go_wp2_with fail
        go_region_held3 (fun w' => w'.cell? ⟨b, off + pos z k, none⟩ = some (.int .u8 v0))
          (first | go_keep | (exact (hb1.cell (by exact hlb)).trans c0) | (rw [hgrow.cell_far _ (by have := hbx.size; simp; omega) (Ne.symm hfar)]; assumption))
          (first | (go_at_call 68; refine (H.out _ (by exact hrr.out) _ _ (.inl HV0.out)).mono ?_; (rintro e w1 ⟨g1, cap1, rfl, hg1, ho1, hb1⟩; have hbx : Below wr.heap.size wr w1 := (Below.refl _ wr).drew.trans hb1; have hbz := HB.out g1 cap1 w1 hbx.size)) | (refine step_append_lies _ (by rfl) _ _ _ (by rfl) w.heap.size 53 i0 _ 2 32 Try.underlying29 hi hz0 hz1 hz2 rfl (by omega) u4 k (cellsT L k) (by rfl) ((ownsRow_below ho.out.1 hbx).alloc _) ⟨w1.heap.size, 0, none⟩ 1 1 [.int .u8 v0, .slice (some ⟨g1, 0, none⟩) v1 cap1] (by rfl) (by rfl) (World.news_of_block (heap_alloc_new w1 _)) (two_one _ _ _ _) (by omega) hk63 hk31 hbz (w1.heap.size + 1) (by simp) ?_; intro gg cap w2 hown2 hgrow hat hlt2))
        have hz0' := HZ0.out
        have hit : OwnV (w1.alloc (.cells #[.int .u8 v0, .slice (some ⟨g1, 0, none⟩) v1 cap1] 53)) w.heap.size ⟨v0, some ⟨g1, 0, none⟩, v1, cap1, fun j => z (pos z k + 2 + j)⟩ := ⟨z0, by show v1 ≤ _; omega, g1, rfl, by have := hb.size; simp at hg1; omega, ho1.alloc _⟩
        have R := Lib.hid (OwnT.push ((ho.out.below hbx).below ((bself w1).alloc (Nat.le_refl _) (.cells #[.int .u8 v0, .slice (some ⟨g1, 0, none⟩) v1 cap1] 53))) hit hown2 hgrow)
        have hI : IsItZ z (updT L k ⟨v0, some ⟨g1, 0, none⟩, v1, cap1, fun j => z (pos z k + 2 + j)⟩) (k + 1) := by
          intro j hj
          by_cases e : j = k
          · subst e; rw [updT_same]; exact ⟨g1, cap1, by unfold itZ; rw [hz0', hEn.out]⟩
          · rw [updT_other _ _ _ _ e]; exact hL.out j (by omega)
        have hB2 : Below w.heap.size w w2 := ((hb.trans (hbx.mono hbs)).alloc (by have := hbx.size; omega) _).grown hgrow (by have := hbx.size; simp; omega) (fun x e => (ho.out.1.lt x e).1)
        have HI := Lib.hid hI
        have HB2 := Lib.hid hB2
        clear hI hB2 hit hown2 hgrow ho1 hb1 hbx hbz hz0' hat hlt2 c0 c1 q6 q8 hg1
        go_wp2
        go_roundw
        case rel => exact ⟨k + 1, _, _, HN1.out, hkm1, slice_eq rfl (by have := HPK.out; have := HQ.out; omega) (by have := HPK.out; have := HQC.out; omega), Lib.hid (fun h => by have := HPK.out; have := HQ.out; have := HN1.out; omega), R.out, HI, HB2.out⟩
        case measure => simp <;> omega
      · have q9 : ¬ (qc : Int) = 2 := by omega
        by_cases hend : qc = 2 + v1
        · have HQ10 := Lib.hid hend
          clear hend
          go_wp2_with fail
          go_region_held3 (fun w' => w'.cell? ⟨b, off + pos z k, none⟩ = some (.int .u8 v0))
            (first | go_keep | (exact (hb1.cell (by exact hlb)).trans c0) | (rw [hgrow.cell_far _ (by have := hbx.size; simp; omega) (Ne.symm hfar)]; assumption))
            (first | (go_at_call 68; refine (H.out _ (by exact hrr.out) _ _ (.inr rfl)).mono ?_; (rintro e w1 ⟨g1, cap1, rfl, hg1, ho1, hb1⟩; have hbx : Below wr.heap.size wr w1 := (Below.refl _ wr).drew.trans hb1; have hbz := HB.out g1 cap1 w1 hbx.size)) | (refine step_append_lies _ (by rfl) _ _ _ (by rfl) w.heap.size 53 i0 _ 2 32 Try.underlying29 hi hz0 hz1 hz2 rfl (by omega) u4 k (cellsT L k) (by rfl) ((ownsRow_below ho.out.1 hbx).alloc _) ⟨w1.heap.size, 0, none⟩ 1 1 [.int .u8 v0, .slice (some ⟨g1, 0, none⟩) v1 cap1] (by rfl) (by rfl) (World.news_of_block (heap_alloc_new w1 _)) (two_one _ _ _ _) (by omega) hk63 hk31 hbz (w1.heap.size + 1) (by simp) ?_; intro gg cap w2 hown2 hgrow hat hlt2))
          have hz0' := HZ0.out
          have hit : OwnV (w1.alloc (.cells #[.int .u8 v0, .slice (some ⟨g1, 0, none⟩) v1 cap1] 53)) w.heap.size ⟨v0, some ⟨g1, 0, none⟩, v1, cap1, fun j => z (pos z k + 2 + j)⟩ := ⟨z0, by show v1 ≤ _; omega, g1, rfl, by have := hb.size; simp at hg1; omega, ho1.alloc _⟩
          have R := Lib.hid (OwnT.push ((ho.out.below hbx).below ((bself w1).alloc (Nat.le_refl _) (.cells #[.int .u8 v0, .slice (some ⟨g1, 0, none⟩) v1 cap1] 53))) hit hown2 hgrow)
          have hI : IsItZ z (updT L k ⟨v0, some ⟨g1, 0, none⟩, v1, cap1, fun j => z (pos z k + 2 + j)⟩) (k + 1) := by
            intro j hj
            by_cases e : j = k
            · subst e; rw [updT_same]; exact ⟨g1, cap1, by unfold itZ; rw [hz0', hEn.out]⟩
            · rw [updT_other _ _ _ _ e]; exact hL.out j (by omega)
          have hB2 : Below w.heap.size w w2 := ((hb.trans (hbx.mono hbs)).alloc (by have := hbx.size; omega) _).grown hgrow (by have := hbx.size; simp; omega) (fun x e => (ho.out.1.lt x e).1)
          have HI := Lib.hid hI
          have HB2 := Lib.hid hB2
          clear hI hB2 hit hown2 hgrow ho1 hb1 hbx hbz hz0' hat hlt2 c0 c1 q6 q8 hg1
          have q10 : (qc : Int) = 2 + (v1 : Int) := by have := HQ10.out; omega
          go_wp2
          go_roundw
          case rel => exact ⟨k + 1, _, _, HN1.out, hkm1, slice_eq rfl (by have := HPK.out; have := HQ.out; omega) (by have := HPK.out; have := HQC.out; omega), Lib.hid (fun h => by have := HPK.out; have := HQ.out; have := HQC.out; have := HN1.out; omega), R.out, HI, HB2.out⟩
          case measure => simp <;> omega
        · have q10 : ¬ (qc : Int) = 2 + (v1 : Int) := by omega
          go_wp2_with fail
          go_region_held3 (fun w' => w'.cell? ⟨b, off + pos z k, none⟩ = some (.int .u8 v0))
            (first | go_keep | (exact (hb1.cell (by exact hlb)).trans c0) | (rw [hgrow.cell_far _ (by have := hbx.size; simp; omega) (Ne.symm hfar)]; assumption))
            (first | (go_at_call 68; refine (H.out _ (by exact hrr.out) _ _ (.inr rfl)).mono ?_; (rintro e w1 ⟨g1, cap1, rfl, hg1, ho1, hb1⟩; have hbx : Below wr.heap.size wr w1 := (Below.refl _ wr).drew.trans hb1; have hbz := HB.out g1 cap1 w1 hbx.size)) | (refine step_append_lies _ (by rfl) _ _ _ (by rfl) w.heap.size 53 i0 _ 2 32 Try.underlying29 hi hz0 hz1 hz2 rfl (by omega) u4 k (cellsT L k) (by rfl) ((ownsRow_below ho.out.1 hbx).alloc _) ⟨w1.heap.size, 0, none⟩ 1 1 [.int .u8 v0, .slice (some ⟨g1, 0, none⟩) v1 cap1] (by rfl) (by rfl) (World.news_of_block (heap_alloc_new w1 _)) (two_one _ _ _ _) (by omega) hk63 hk31 hbz (w1.heap.size + 1) (by simp) ?_; intro gg cap w2 hown2 hgrow hat hlt2))
          have hz0' := HZ0.out
          have hit : OwnV (w1.alloc (.cells #[.int .u8 v0, .slice (some ⟨g1, 0, none⟩) v1 cap1] 53)) w.heap.size ⟨v0, some ⟨g1, 0, none⟩, v1, cap1, fun j => z (pos z k + 2 + j)⟩ := ⟨z0, by show v1 ≤ _; omega, g1, rfl, by have := hb.size; simp at hg1; omega, ho1.alloc _⟩
          have R := Lib.hid (OwnT.push ((ho.out.below hbx).below ((bself w1).alloc (Nat.le_refl _) (.cells #[.int .u8 v0, .slice (some ⟨g1, 0, none⟩) v1 cap1] 53))) hit hown2 hgrow)
          have hI : IsItZ z (updT L k ⟨v0, some ⟨g1, 0, none⟩, v1, cap1, fun j => z (pos z k + 2 + j)⟩) (k + 1) := by
            intro j hj
            by_cases e : j = k
            · subst e; rw [updT_same]; exact ⟨g1, cap1, by unfold itZ; rw [hz0', hEn.out]⟩
            · rw [updT_other _ _ _ _ e]; exact hL.out j (by omega)
          have hB2 : Below w.heap.size w w2 := ((hb.trans (hbx.mono hbs)).alloc (by have := hbx.size; omega) _).grown hgrow (by have := hbx.size; simp; omega) (fun x e => (ho.out.1.lt x e).1)
          have HI := Lib.hid hI
          have HB2 := Lib.hid hB2
          clear hI hB2 hit hown2 hgrow ho1 hb1 hbx hbz hz0' hat hlt2 c0 c1 q6 q8 hg1
          go_wp2
          go_roundw
          case rel => exact ⟨k + 1, _, _, HN1.out, hkm1, slice_eq rfl (by have := HPK.out; have := HQ.out; omega) (by have := HPK.out; have := HQC.out; omega), Lib.hid (fun h => ⟨b, off, addr_eq (by have := HPK.out; omega), HRW.out⟩), R.out, HI, HB2.out⟩
          case measure => simp <;> omega
    · have hkm2 : k = m := by omega
      subst hkm2
      have ho := Lib.hid hown
      by_cases hend : pos z k = n
      · have h0 : n - pos z k = 0 := by omega
        have he := Lib.hid hend
        rw [h0]
        clear hown hA' hk hend h0 hkm1
        go_wp2
        go_ret2
        exact .inl ⟨he.out, _, L, rfl, ho.out, hL.out, hb⟩
      · have hq0 : 0 < n - pos z k := by omega
        have HE := Lib.hid hend
        have hM := HM.out.2
        by_cases h2 : n < pos z k + 2
        · have q1 : n - pos z k = 1 := by omega
          rw [q1]
          clear hown hA' hk hkm1 hM h2 hq0 q1
          go_wp2
          go_ret2
          exact .inr ⟨HE.out, rfl, hb⟩
        · obtain ⟨b, off, rfl, hr⟩ := hA'.out (by omega)
          have c1 : wr.cell? ⟨b, off + pos z k + 1, none⟩ = some (.int .u8 (z (pos z k + 1))) := (hb.cell (p := ⟨b, off + pos z k + 1, none⟩) hr.1).trans (hr.2.1 (pos z k + 1) (by omega))
          have z1 := hz (pos z k + 1)
          obtain ⟨v1, hv1⟩ := Int.eq_ofNat_of_zero_le z1.1
          have hpk : pos z (k + 1) = pos z k + 2 + v1 := by simp only [pos]; omega
          rw [hv1] at c1 z1
          obtain ⟨q, hq⟩ : ∃ q, n - pos z k = q := ⟨_, rfl⟩
          rw [hq]
          have q1 : (q : Int) < 2 + (v1 : Int) := by omega
          have q3 : (2 : Int) ≤ (q : Int) := by omega
          have q4 : (1 : Int) < (q : Int) := by omega
          have q5 : (0 : Int) < (q : Int) := by omega
          clear hown hA' hk hkm1 hM h2 hq0 hr hv1 hpk hq
          go_wp2
          go_ret2
          exact .inr ⟨HE.out, rfl, hb⟩
end Go.Proofs.Ytfojfdlapekjoaa
