/- The order of two prefixes as an order of numbers: plain mathematics. Each theorem states its conditions. -/
import Derived.Test.YtjnbemopfhinbaaPNeq
import Derived.Lib.Bytealg
namespace Go.Proofs.Ytjnbemopfhinbaa
open Go.RowKit
set_option linter.unusedVariables false

/-- how one number stands to another -/
def cmp1 (a b : Int) : Int := if a < b then -1 else if b < a then 1 else 0
theorem cmp1_lt {a b : Int} (h : a < b) : cmp1 a b = -1 := by unfold cmp1; rw [if_pos h]
theorem cmp1_gt {a b : Int} (h : b < a) : cmp1 a b = 1 := by unfold cmp1; rw [if_neg (by omega), if_pos h]
theorem cmp1_eq {a b : Int} (h : a = b) : cmp1 a b = 0 := by unfold cmp1; rw [if_neg (by omega), if_neg (by omega)]
/-- the first of three that is not nought -/
def or3 (x y z : Int) : Int := if x ≠ 0 then x else if y ≠ 0 then y else z
/-- n bytes from the place i on as a number -/
def keyZ (z : Nat → Int) : Nat → Nat → Int
  | _, 0 => 0
  | i, n + 1 => z i * 256 ^ n + keyZ z (i + 1) n
theorem cat_lt {a b r r' P : Int} (h : a < b) (h0 : 0 ≤ r') (h1 : r < P) (hP : 0 ≤ P) : a * P + r < b * P + r' := by
  have := Int.mul_le_mul_of_nonneg_right (show a + 1 ≤ b by omega) hP
  rw [Int.add_mul, Int.one_mul] at this
  omega
theorem pow_pos' (n : Nat) : (0 : Int) < 256 ^ n := Int.pow_pos (by decide)
theorem keyZ_bd {z : Nat → Int} (hz : Bytes z) : ∀ n i, 0 ≤ keyZ z i n ∧ keyZ z i n < 256 ^ n := by
  intro n
  induction n with
  | zero => intro i; simp [keyZ]
  | succ n ih =>
    intro i
    have h := ih (i + 1)
    have hp := pow_pos' n
    have hi := hz i
    have h2 := cat_lt (r := keyZ z (i + 1) n) (r' := 0) (P := 256 ^ n) (show z i < 256 by omega) (Int.le_refl 0) h.2 (by omega)
    have h3 : 0 ≤ z i * 256 ^ n := Int.mul_nonneg hi.1 (by omega)
    have h4 : (256 : Int) ^ (n + 1) = 256 * 256 ^ n := by rw [Int.pow_succ, Int.mul_comm]
    simp only [keyZ]
    omega
theorem cmp_cat {a b r r' P : Int} (h0 : 0 ≤ r) (h1 : r < P) (h0' : 0 ≤ r') (h1' : r' < P) : cmp1 (a * P + r) (b * P + r') = if cmp1 a b ≠ 0 then cmp1 a b else cmp1 r r' := by
  rcases Int.lt_trichotomy a b with h | h | h
  · rw [cmp1_lt h, if_pos (by decide), cmp1_lt (cat_lt h h0' h1 (by omega))]
  · subst h
    rw [cmp1_eq rfl, if_neg (by simp)]
    rcases Int.lt_trichotomy r r' with h | h | h
    · rw [cmp1_lt h, cmp1_lt (by omega)]
    · rw [cmp1_eq h, cmp1_eq (by omega)]
    · rw [cmp1_gt h, cmp1_gt (by omega)]
  · rw [cmp1_gt h, if_pos (by decide), cmp1_gt (cat_lt h h0 h1' (by omega))]
theorem u8_lt {v v' : Int} (h : 0 ≤ v ∧ v ≤ 255) (h' : 0 ≤ v' ∧ v' ≤ 255) : (UInt8.ofNat v.toNat < UInt8.ofNat v'.toNat) ↔ v < v' := by
  rw [UInt8.lt_iff_toNat_lt, UInt8.toNat_ofNat', UInt8.toNat_ofNat']
  omega
theorem cmp_bytes {z z' : Nat → Int} (hz : Bytes z) (hz' : Bytes z') : ∀ n i,
    Lib.compareBytes ((List.range' i n).map fun j => UInt8.ofNat (z j).toNat) ((List.range' i n).map fun j => UInt8.ofNat (z' j).toNat) = cmp1 (keyZ z i n) (keyZ z' i n) := by
  intro n
  induction n with
  | zero => intro i; rfl
  | succ n ih =>
    intro i
    rw [List.range'_succ, List.map_cons, List.map_cons, Lib.compareBytes, ih (i + 1)]
    simp only [u8_lt (hz i) (hz' i), u8_lt (hz' i) (hz i), keyZ]
    rw [cmp_cat (keyZ_bd hz n (i + 1)).1 (keyZ_bd hz n (i + 1)).2 (keyZ_bd hz' n (i + 1)).1 (keyZ_bd hz' n (i + 1)).2]
    rcases Int.lt_trichotomy (z i) (z' i) with h | h | h
    · rw [cmp1_lt h, if_pos h, if_pos (by decide)]
    · rw [cmp1_eq h, if_neg (by omega), if_neg (by omega), if_neg (by simp)]
    · rw [cmp1_gt h, if_neg (by omega), if_pos h, if_pos (by decide)]
theorem key_inj {z z' : Nat → Int} (hz : Bytes z) (hz' : Bytes z') : ∀ n i, keyZ z i n = keyZ z' i n → ∀ j, j < n → z (i + j) = z' (i + j) := by
  intro n
  induction n with
  | zero => intro i _ j hj; omega
  | succ n ih =>
    intro i h j hj
    simp only [keyZ] at h
    have h1 := keyZ_bd hz n (i + 1)
    have h2 := keyZ_bd hz' n (i + 1)
    have hc := cmp_cat (a := z i) (b := z' i) h1.1 h1.2 h2.1 h2.2
    rw [cmp1_eq h] at hc
    rcases Int.lt_trichotomy (z i) (z' i) with e | e | e
    · rw [cmp1_lt e, if_pos (by decide)] at hc; cases hc
    · cases j with
      | zero => exact e
      | succ j =>
        have := ih (i + 1) (by rw [e] at h; omega) j (by omega)
        rw [show i + (j + 1) = i + 1 + j by omega]; exact this
    · rw [cmp1_gt e, if_pos (by decide)] at hc; cases hc
theorem key_congr {z z' : Nat → Int} : ∀ n i, (∀ j, j < n → z (i + j) = z' (i + j)) → keyZ z i n = keyZ z' i n := by
  intro n
  induction n with
  | zero => intro i _; rfl
  | succ n ih =>
    intro i h
    simp only [keyZ]
    rw [show z i = z' i from h 0 (by omega), ih (i + 1) (fun j hj => by have := h (j + 1) (by omega); rw [show i + 1 + j = i + (j + 1) by omega]; exact this)]
theorem key_first {z z' : Nat → Int} (hz : Bytes z) (hz' : Bytes z') : ∀ n i k, k < n → (∀ j, j < k → z (i + j) = z' (i + j)) → z (i + k) < z' (i + k) → keyZ z i n < keyZ z' i n := by
  intro n
  induction n with
  | zero => intro i k h; omega
  | succ n ih =>
    intro i k hk h hl
    simp only [keyZ]
    cases k with
    | zero => exact cat_lt hl (keyZ_bd hz' n (i + 1)).1 (keyZ_bd hz n (i + 1)).2 (by have := pow_pos' n; omega)
    | succ k =>
      have h1 := ih (i + 1) k (by omega) (fun j hj => by have := h (j + 1) (by omega); rw [show i + 1 + j = i + (j + 1) by omega]; exact this) (by rw [show i + 1 + k = i + (k + 1) by omega]; exact hl)
      rw [show z i = z' i from h 0 (by omega)]
      omega
/-- a prefix as a number -/
def keyP (fam len : Int) (z : Nat → Int) : Int := (fam * 256 ^ 16 + keyZ z 0 16) * 256 + len
theorem or3_key {fam len fam' len' : Int} {z z' : Nat → Int} (hz : Bytes z) (hz' : Bytes z') (hl : 0 ≤ len ∧ len ≤ 128) (hl' : 0 ≤ len' ∧ len' ≤ 128) :
    or3 (cmp1 fam fam') (cmp1 (keyZ z 0 16) (keyZ z' 0 16)) (cmp1 len len') = cmp1 (keyP fam len z) (keyP fam' len' z') := by
  have h1 := keyZ_bd hz 16 0
  have h2 := keyZ_bd hz' 16 0
  unfold keyP or3
  rw [cmp_cat (P := 256) (by omega) (by omega) (by omega) (by omega), cmp_cat h1.1 h1.2 h2.1 h2.2]
  by_cases a : cmp1 fam fam' = 0 <;> by_cases b : cmp1 (keyZ z 0 16) (keyZ z' 0 16) = 0 <;> simp [a, b]
theorem keyP_eq {fam len fam' len' : Int} {z z' : Nat → Int} (hz : Bytes z) (hz' : Bytes z') (hl : 0 ≤ len ∧ len ≤ 128) (hl' : 0 ≤ len' ∧ len' ≤ 128) :
    keyP fam len z = keyP fam' len' z' ↔ fam = fam' ∧ len = len' ∧ Same16 z z' := by
  have h1 := keyZ_bd hz 16 0
  have h2 := keyZ_bd hz' 16 0
  constructor
  · intro h
    have h0 := or3_key (fam := fam) (fam' := fam') hz hz' hl hl'
    rw [cmp1_eq h] at h0
    unfold or3 at h0
    have ne : ∀ {a b : Int}, cmp1 a b = 0 → a = b := by
      intro a b e
      rcases Int.lt_trichotomy a b with t | t | t
      · rw [cmp1_lt t] at e; cases e
      · exact t
      · rw [cmp1_gt t] at e; cases e
    by_cases a : cmp1 fam fam' = 0
    · by_cases b : cmp1 (keyZ z 0 16) (keyZ z' 0 16) = 0
      · rw [if_neg (by simp [a]), if_neg (by simp [b])] at h0
        exact ⟨ne a, ne h0, fun j hj => by have := key_inj hz hz' 16 0 (ne b) j hj; simpa using this⟩
      · rw [if_neg (by simp [a]), if_pos b] at h0; exact absurd h0 b
    · rw [if_pos a] at h0; exact absurd h0 a
  · rintro ⟨rfl, rfl, h⟩
    unfold keyP
    rw [key_congr (z := z) (z' := z') 16 0 (fun j hj => by simpa using h j hj)]
end Go.Proofs.Ytjnbemopfhinbaa
