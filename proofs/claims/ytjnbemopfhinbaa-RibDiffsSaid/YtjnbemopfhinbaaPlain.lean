/- Plain facts about numbers, bytes and check bytes, without any program. Each theorem states its conditions. -/
import Derived.WalkKit
import Derived.Laws.BitsAllLaws
import Derived.Laws.BitsLemmas
import Derived.Below
namespace Go.Proofs.Ytjnbemopfhinbaa
open Go.RowKit
set_option linter.unusedVariables false

theorem ret_u32 {a b : Int} (h : a = b) : Ending.returned (.int .u32 a) = .returned (.int .u32 b) := by rw [h]
theorem ret_int {a b : Int} (h : a = b) : Ending.returned (.int .i64 a) = .returned (.int .i64 b) := by rw [h]
theorem ret_bool {a b : Bool} (h : a = b) : Ending.returned (.bool a) = .returned (.bool b) := by rw [h]

/-- the number of the bytes z(s), .., k of them -/
def numZ (z : Nat → Int) (s : Nat) : Nat → Int
  | 0 => 0
  | k + 1 => numZ z s k * 256 + z (s + k)

theorem numZ_lt (z : Nat → Int) (s k : Nat) (hz : ∀ j, 0 ≤ z j ∧ z j ≤ 255) : 0 ≤ numZ z s k ∧ numZ z s k < 256 ^ k := by
  induction k with
  | zero => simp [numZ]
  | succ k ih =>
    have := hz (s + k)
    simp only [numZ, Int.pow_succ]
    omega

theorem numZ_56 (z : Nat → Int) (s k : Nat) (hk : k ≤ 7) (hz : ∀ j, 0 ≤ z j ∧ z j ≤ 255) : 0 ≤ numZ z s k ∧ numZ z s k ≤ 72057594037927935 := by
  have h := numZ_lt z s k hz
  have : (256 : Int) ^ k ≤ 256 ^ 7 := by
    clear h
    rcases (by omega : k = 0 ∨ k = 1 ∨ k = 2 ∨ k = 3 ∨ k = 4 ∨ k = 5 ∨ k = 6 ∨ k = 7) with rfl | rfl | rfl | rfl | rfl | rfl | rfl | rfl <;> decide
  have e : (256 : Int) ^ 7 = 72057594037927936 := by decide
  omega

theorem numZ_64 (z : Nat → Int) (s k : Nat) (hk : k ≤ 8) (hz : ∀ j, 0 ≤ z j ∧ z j ≤ 255) : 0 ≤ numZ z s k ∧ numZ z s k ≤ 18446744073709551615 := by
  have h := numZ_lt z s k hz
  have : (256 : Int) ^ k ≤ 256 ^ 8 := by
    clear h
    rcases (by omega : k = 0 ∨ k = 1 ∨ k = 2 ∨ k = 3 ∨ k = 4 ∨ k = 5 ∨ k = 6 ∨ k = 7 ∨ k = 8) with rfl | rfl | rfl | rfl | rfl | rfl | rfl | rfl | rfl <;> decide
  have e : (256 : Int) ^ 8 = 18446744073709551616 := by decide
  omega

theorem shl_or (n b : Int) (h0 : 0 ≤ n) (h1 : n ≤ 72057594037927935) (hb : 0 ≤ b ∧ b ≤ 255) : bits .or .u64 (IntKind.u64.wrap (n * 256)) b = n * 256 + b := by
  have e : IntKind.u64.wrap (n * 256) = n * 256 := by rw [IntKind.wrap_u64]; omega
  rw [e, u64_or _ _ (by omega) (by omega) (by omega) (by omega), nat_join 8 _ _ (by omega) (by omega)]
  omega

theorem numZ_step (z : Nat → Int) (s k : Nat) (hk : k ≤ 7) (hz : ∀ j, 0 ≤ z j ∧ z j ≤ 255) :
    bits .or .u64 (IntKind.u64.wrap (numZ z s k * 256)) (z (s + k)) = numZ z s (k + 1) := by
  have h := numZ_56 z s k hk hz
  rw [shl_or _ _ h.1 h.2 (hz _)]; rfl

/-- the sum of the first k bytes, without the two at s and s + 1 -/
def sumA (z : Nat → Int) (s : Nat) : Nat → Int
  | 0 => 0
  | k + 1 => if k = s ∨ k = s + 1 then sumA z s k else sumA z s k + z k

/-- the same, each byte times how many stand from it on, of n -/
def sumB (z : Nat → Int) (s n : Nat) : Nat → Int
  | 0 => 0
  | k + 1 => if k = s ∨ k = s + 1 then sumB z s n k else sumB z s n k + z k * ((n : Int) - k)

theorem sumA_skip (z : Nat → Int) (s k : Nat) (h : k = s ∨ k = s + 1) : sumA z s (k + 1) = sumA z s k := by simp [sumA, h]
theorem sumA_take (z : Nat → Int) (s k : Nat) (h : ¬ (k = s ∨ k = s + 1)) : sumA z s (k + 1) = sumA z s k + z k := by simp [sumA, h]
theorem sumB_skip (z : Nat → Int) (s n k : Nat) (h : k = s ∨ k = s + 1) : sumB z s n (k + 1) = sumB z s n k := by simp [sumB, h]
theorem sumB_take (z : Nat → Int) (s n k : Nat) (h : ¬ (k = s ∨ k = s + 1)) : sumB z s n (k + 1) = sumB z s n k + z k * ((n : Int) - k) := by simp [sumB, h]
theorem sumA_bd (z : Nat → Int) (s k : Nat) (hz : ∀ j, 0 ≤ z j ∧ z j ≤ 255) : 0 ≤ sumA z s k ∧ sumA z s k ≤ 255 * k := by
  induction k with
  | zero => simp [sumA]
  | succ k ih =>
    have := hz k
    simp only [sumA]
    split <;> omega

theorem mul_bd (a b : Int) (c d : Int) (h0 : 0 ≤ a) (h1 : a ≤ c) (h2 : 0 ≤ b) (h3 : b ≤ d) : 0 ≤ a * b ∧ a * b ≤ c * d :=
  ⟨Int.mul_nonneg h0 h2, Int.mul_le_mul h1 h3 h2 (by omega)⟩

theorem sumB_bd (z : Nat → Int) (s n k : Nat) (hz : ∀ j, 0 ≤ z j ∧ z j ≤ 255) (hn : n ≤ 1492) (hk : k ≤ n) : 0 ≤ sumB z s n k ∧ sumB z s n k ≤ 380460 * k := by
  induction k with
  | zero => simp [sumB]
  | succ k ih =>
    have := hz k
    have h1 := mul_bd (z k) ((n : Int) - k) 255 1492 this.1 this.2 (by omega) (by omega)
    have := ih (by omega)
    simp only [sumB]
    split <;> omega

/-- the number from 1 to 255 that is n modulo 255 -/
def cbI (n : Int) : Int := (n - 1) % 255 + 1
theorem cbI_bd (n : Int) : 1 ≤ cbI n ∧ cbI n ≤ 255 := by unfold cbI; omega
theorem cbI_of {n r : Int} (h : (r - n) % 255 = 0) (h1 : 1 ≤ r) (h2 : r ≤ 255) : cbI n = r := by unfold cbI; omega
theorem tmod_parts (n : Int) : ∃ q, n = 255 * q + n.tmod 255 ∧ -255 < n.tmod 255 ∧ n.tmod 255 < 255 :=
  ⟨n.tdiv 255, (Int.mul_tdiv_add_tmod n 255).symm, Int.lt_tmod_of_pos n (by omega), Int.tmod_lt_of_pos n (by omega)⟩
theorem tmod_bd (n : Int) : -255 < n.tmod 255 ∧ n.tmod 255 < 255 := ⟨Int.lt_tmod_of_pos n (by omega), Int.tmod_lt_of_pos n (by omega)⟩
theorem cbI_tmod_lo (n : Int) (h : n.tmod 255 ≤ 0) : n.tmod 255 + 255 = cbI n := by
  obtain ⟨q, h1, h2, h3⟩ := tmod_parts n
  generalize n.tmod 255 = r at *
  unfold cbI
  omega
theorem cbI_tmod_hi (n : Int) (h : 0 < n.tmod 255) : n.tmod 255 = cbI n := by
  obtain ⟨q, h1, h2, h3⟩ := tmod_parts n
  generalize n.tmod 255 = r at *
  unfold cbI
  omega

theorem u16_join (x y : Int) (hx : 1 ≤ x ∧ x ≤ 255) (hy : 1 ≤ y ∧ y ≤ 255) : bits .or .u16 (IntKind.u16.wrap (x * 256)) y = x * 256 + y := by
  have e : IntKind.u16.wrap (x * 256) = x * 256 := by rw [IntKind.wrap_u16]; omega
  rw [e, u16_or _ _ (by omega) (by omega) (by omega) (by omega), nat_join 8 _ _ (by omega) (by omega)]
  omega

theorem u16_join' (x y : Int) (hx : 1 ≤ x ∧ x ≤ 255) (hy : 1 ≤ y ∧ y ≤ 255) : bits .or .u16 (x * 256) y = x * 256 + y := by
  rw [u16_or _ _ (by omega) (by omega) (by omega) (by omega), nat_join 8 _ _ (by omega) (by omega)]
  omega
theorem ret2_eq {a b : Value} (h : a = b) (c : Value) : Ending.returned (.tuple #[a, c]) = .returned (.tuple #[b, c]) := by rw [h]
theorem u16_eq {a b : Int} (h : a = b) : Value.int .u16 a = .int .u16 b := by rw [h]

/-- the two check bytes -/
def chkX (z : Nat → Int) (s n : Nat) : Int := cbI (sumA z s n * ((n : Int) - s - 1) - sumB z s n n)
def chkY (z : Nat → Int) (s n : Nat) : Int := cbI (- sumA z s n - chkX z s n)
def chk (z : Nat → Int) (s n : Nat) : Int := chkX z s n * 256 + chkY z s n

/-- the letter of a digit to the base 16 -/
def hxI (k : Int) : Int := if k < 10 then 48 + k else 87 + k
theorem hx_at (k : Int) (h0 : 0 ≤ k) (h1 : k < 16) (h : k.toNat < (ByteArray.mk #[48, 49, 50, 51, 52, 53, 54, 55, 56, 57, 97, 98, 99, 100, 101, 102]).size) :
    (((ByteArray.mk #[48, 49, 50, 51, 52, 53, 54, 55, 56, 57, 97, 98, 99, 100, 101, 102])[k.toNat]'h).toNat : Int) = hxI k := by
  rcases (by omega : k = 0 ∨ k = 1 ∨ k = 2 ∨ k = 3 ∨ k = 4 ∨ k = 5 ∨ k = 6 ∨ k = 7 ∨ k = 8 ∨ k = 9 ∨ k = 10 ∨ k = 11 ∨ k = 12 ∨ k = 13 ∨ k = 14 ∨ k = 15) with rfl | rfl | rfl | rfl | rfl | rfl | rfl | rfl | rfl | rfl | rfl | rfl | rfl | rfl | rfl | rfl <;> rfl
/-- the text of a name -/
def nameI (b0 b1 b2 b3 b4 b5 : Int) : List Int :=
  [hxI (b0 / 16), hxI (b0 % 16), hxI (b1 / 16), hxI (b1 % 16), 46, hxI (b2 / 16), hxI (b2 % 16), hxI (b3 / 16), hxI (b3 % 16), 46, hxI (b4 / 16), hxI (b4 % 16), hxI (b5 / 16), hxI (b5 % 16)]

/-- what a walk is told of a slice of integers that came in: nil, or a row of cap cells, the numbers zs (the first len are its elements) -/
def IsRow (k : IntKind) (w : World) (a : Option Addr) (len cap : Nat) (zs : List Int) : Prop :=
  (a = none ∧ len = 0 ∧ cap = 0 ∧ zs = []) ∨
  ∃ x, a = some x ∧ len ≤ cap ∧ cap ≤ maxLen ∧ zs.length = cap ∧ (∀ i, i < zs.length → w.cell? (x.add i) = some (.int k (zs.getD i 0))) ∧ ∀ n ∈ zs, (Lit.int k n).wf = true

theorem wf_u8 {n : Int} (h : (Lit.int .u8 n).wf = true) : 0 ≤ n ∧ n ≤ 255 := by
  simp [Lit.wf, IntKind.min, IntKind.max, IntKind.bits, IntKind.signed] at h; omega
theorem wf_u16 {n : Int} (h : (Lit.int .u16 n).wf = true) : 0 ≤ n ∧ n ≤ 65535 := by
  simp [Lit.wf, IntKind.min, IntKind.max, IntKind.bits, IntKind.signed] at h; omega
theorem wf_u32 {n : Int} (h : (Lit.int .u32 n).wf = true) : 0 ≤ n ∧ n ≤ 4294967295 := by
  simp [Lit.wf, IntKind.min, IntKind.max, IntKind.bits, IntKind.signed] at h; omega
theorem wf_u64 {n : Int} (h : (Lit.int .u64 n).wf = true) : 0 ≤ n ∧ n ≤ 18446744073709551615 := by
  simp [Lit.wf, IntKind.min, IntKind.max, IntKind.bits, IntKind.signed] at h; omega
theorem wf_i64 {n : Int} (h : (Lit.int .i64 n).wf = true) : -9223372036854775808 ≤ n ∧ n ≤ 9223372036854775807 := by
  simp [Lit.wf, IntKind.min, IntKind.max, IntKind.bits, IntKind.signed] at h; omega

theorem bnext {a w w' : World} (h : Below a.heap.size a w) (hb : Below w.heap.size w w') : Below a.heap.size a w' := h.trans (hb.mono h.size)
theorem balloc {a w : World} (h : Below a.heap.size a w) (o : Obj) : Below a.heap.size a (w.alloc o) := h.alloc h.size o
theorem bself (w : World) : Below w.heap.size w w := Below.refl _ _

/-- a row of n bytes z(0), .. from ⟨b, off⟩ on -/
def Row8 (w : World) (b off n : Nat) (z : Nat → Int) : Prop :=
  b < w.heap.size ∧ (∀ j, j < n → w.cell? ⟨b, off + j, none⟩ = some (.int .u8 (z j))) ∧ ∀ j, 0 ≤ z j ∧ z j ≤ 255

theorem cell_lt {w : World} {p : Addr} {v : Value} (h : w.cell? p = some v) : p.block < w.heap.size := by
  rcases Nat.lt_or_ge p.block w.heap.size with hl | hg
  · exact hl
  · simp [World.cell?, Array.getElem?_eq_none hg] at h

theorem Row8.below {w w' : World} {b off n B : Nat} {z : Nat → Int} (h : Row8 w b off n z) (hb : Below B w w') (hB : b < B) : Row8 w' b off n z := by
  refine ⟨?_, fun j hj => (hb.cell (p := ⟨b, off + j, none⟩) hB).trans (h.2.1 j hj), h.2.2⟩
  have := hb.size
  have := h.1
  omega

theorem isRow_open {w : World} {a : Option Addr} {len cap : Nat} {zs : List Int} (h : IsRow .u8 w a len cap zs) (h0 : 0 < len) :
    ∃ b off, a = some ⟨b, off, none⟩ ∧ len ≤ cap ∧ cap ≤ maxLen ∧ Row8 w b off len (fun j => zs.getD j 0) := by
  rcases h with ⟨_, hl, _⟩ | ⟨x, rfl, hlc, hm, hz, hc, hwf⟩
  · omega
  · obtain ⟨b, off, spot⟩ := x
    have hc0 := hc 0 (by omega)
    have hs : spot = none := by simpa [Addr.add] using World.cell?_spot hc0
    subst hs
    have hadd : ∀ j, (⟨b, off, none⟩ : Addr).add j = ⟨b, off + j, none⟩ := fun j => by unfold Addr.add; split <;> simp_all
    refine ⟨b, off, rfl, hlc, hm, ?_, fun j hj => ?_, fun j => ?_⟩
    · have := cell_lt hc0
      simpa [hadd] using this
    · rw [← hadd]; exact hc j (by omega)
    · rcases Nat.lt_or_ge j zs.length with hj | hj
      · have := hwf zs[j] (by simp)
        have := wf_u8 this
        simpa [List.getD, List.getElem?_eq_getElem hj] using this
      · simp [List.getD, List.getElem?_eq_none hj]

theorem isRow_len {w : World} {k : IntKind} {a : Option Addr} {len cap : Nat} {zs : List Int} (h : IsRow k w a len cap zs) : len ≤ cap ∧ cap ≤ maxLen := by
  rcases h with ⟨_, rfl, rfl, _⟩ | ⟨x, rfl, hlc, hm, hz, hc, hwf⟩
  · simp
  · exact ⟨hlc, hm⟩

theorem numZ_add (z : Nat → Int) (s x y : Nat) : numZ z s (x + y) = numZ z s x * 256 ^ y + numZ z (s + x) y := by
  induction y with
  | zero => simp [numZ]
  | succ y ih =>
    show numZ z s (x + y) * 256 + z (s + (x + y)) = _
    rw [ih]
    simp only [numZ, Int.pow_succ, Nat.add_assoc]
    rw [Int.add_mul, Int.mul_assoc, Int.add_assoc]

theorem or_join (h l P : Int) (i : Nat) (hP : P = 2 ^ i) (h0 : 0 ≤ h) (h1 : h * P ≤ 18446744073709551615) (l0 : 0 ≤ l) (l1 : l < P) (hi : P ≤ 18446744073709551615) :
    bits .or .u64 (h * P) l = h * P + l := by
  have hm : 0 ≤ h * P := Int.mul_nonneg h0 (by omega)
  obtain ⟨n, rfl⟩ := Int.eq_ofNat_of_zero_le h0
  obtain ⟨m, rfl⟩ := Int.eq_ofNat_of_zero_le l0
  have hP' : P = ((2 ^ i : Nat) : Int) := by rw [hP]; simp
  subst hP'
  have e : ((n : Int) * ((2 ^ i : Nat) : Int)) = ((n * 2 ^ i : Nat) : Int) := by simp
  rw [e] at h1 hm ⊢
  rw [u64_or _ _ hm (by omega) (by omega) (by omega)]
  simp only [Int.toNat_natCast]
  rw [nat_join i _ _ (Nat.mul_mod_left _ _) (by omega)]
  simp
end Go.Proofs.Ytjnbemopfhinbaa
