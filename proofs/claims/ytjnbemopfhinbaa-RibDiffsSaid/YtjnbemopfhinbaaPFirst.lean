/- Two texts put together; each theorem states its conditions. -/
import Derived.Test.YtjnbemopfhinbaaPlain
import Derived.Test.YtjnbemopfhinbaaTrP
import Derived.Test.YtjnbemopfhinbaaRows
import Derived.WalkKit
import Derived.WalkLawsBesides
import Derived.WalkSpells
import Derived.IntWalk
import Derived.Outline
import Derived.Below
import Derived.Lib.Hide
import Derived.LoopN
import Derived.RegionTactic
import Derived.Deep.QuietTactic
import Derived.Deep.RegionHeld3
import Derived.BigQuiet
import Derived.OwnWalk
/- Two texts put together; each theorem states its conditions. -/
/- Plain facts of addresses and their bits, without any program. Each theorem states its conditions. -/
namespace Go.Proofs.Ytjnbemopfhinbaa
open Go.RowKit
set_option linter.unusedVariables false

/-- an address of sixteen bytes, as a value's cells -/
def ag (z : Nat → Int) : Array Value := #[.int .u8 (z 0), .int .u8 (z 1), .int .u8 (z 2), .int .u8 (z 3), .int .u8 (z 4), .int .u8 (z 5), .int .u8 (z 6), .int .u8 (z 7), .int .u8 (z 8), .int .u8 (z 9), .int .u8 (z 10), .int .u8 (z 11), .int .u8 (z 12), .int .u8 (z 13), .int .u8 (z 14), .int .u8 (z 15)]
/-- the upper r bits of a byte -/
def keep (v : Int) (r : Nat) : Int := v / 2 ^ (8 - r) * 2 ^ (8 - r)
/-- the first c bits -/
def firstZ (z : Nat → Int) (c : Nat) : Nat → Int := fun j => if 8 * (j + 1) ≤ c then z j else if c ≤ 8 * j then 0 else keep (z j) (c - 8 * j)
/-- bit i -/
def bitZ (z : Nat → Int) (i : Nat) : Int := z (i / 8) / 2 ^ (7 - i % 8) % 2
/-- family and length are right -/
def Sized (fam len : Int) : Prop := (fam = 4 ∧ 0 ≤ len ∧ len ≤ 32) ∨ (fam = 6 ∧ 0 ≤ len ∧ len ≤ 128)
instance (fam len : Int) : Decidable (Sized fam len) := by unfold Sized; infer_instance
/-- in form -/
def Form (fam len : Int) (z : Nat → Int) : Prop := Sized fam len ∧ ∀ j, j < 16 → firstZ z len.toNat j = z j
instance (fam len : Int) (z : Nat → Int) : Decidable (Form fam len z) := by unfold Form; infer_instance
def Bytes (z : Nat → Int) : Prop := ∀ j, 0 ≤ z j ∧ z j ≤ 255

theorem keep_bd {v : Int} (h : 0 ≤ v ∧ v ≤ 255) (r : Nat) (hr : r ≤ 8) : 0 ≤ keep v r ∧ keep v r ≤ 255 := by
  unfold keep
  rcases (by omega : r = 0 ∨ r = 1 ∨ r = 2 ∨ r = 3 ∨ r = 4 ∨ r = 5 ∨ r = 6 ∨ r = 7 ∨ r = 8) with rfl | rfl | rfl | rfl | rfl | rfl | rfl | rfl | rfl <;> simp <;> omega
theorem firstZ_bd {z : Nat → Int} (h : Bytes z) (c : Nat) : Bytes (firstZ z c) := by
  intro j; unfold firstZ
  split
  · exact h j
  · split
    · omega
    · exact keep_bd (h j) _ (by omega)
/-- &^ with what a shift of ff leaves keeps the upper bits -/
theorem keep_andNot (v : Int) (h : 0 ≤ v ∧ v ≤ 255) (r : Nat) (h0 : 0 < r) (h1 : r < 8) : bits .andNot .u8 v (255 / 2 ^ r) = keep v r := by
  obtain ⟨n, rfl⟩ := Int.eq_ofNat_of_zero_le h.1
  have hn : n < 256 := by omega
  have key : ∀ r, r < 8 → ∀ n : Nat, n < 256 → bits .andNot .u8 (n : Int) (255 / 2 ^ r) = (n : Int) / 2 ^ (8 - r) * 2 ^ (8 - r) := by decide +kernel
  exact key r h1 n hn
/-- the upper r bits are all just if the bits behind them are nought -/
theorem keep_bits (v : Int) (h : 0 ≤ v ∧ v ≤ 255) (r : Nat) (h1 : r < 8) : keep v r = v ↔ ∀ i, i < 8 → r ≤ i → v / 2 ^ (7 - i) % 2 = 0 := by
  obtain ⟨n, rfl⟩ := Int.eq_ofNat_of_zero_le h.1
  have hn : n < 256 := by omega
  have key : ∀ r, r < 8 → ∀ n : Nat, n < 256 → ((n : Int) / 2 ^ (8 - r) * 2 ^ (8 - r) = (n : Int) ↔ ∀ i, i < 8 → r ≤ i → (n : Int) / 2 ^ (7 - i) % 2 = 0) := by decide +kernel
  exact key r h1 n hn
theorem firstZ_lo {z : Nat → Int} {c j : Nat} (h : 8 * (j + 1) ≤ c) : firstZ z c j = z j := by unfold firstZ; rw [if_pos h]
theorem firstZ_hi {z : Nat → Int} {c j : Nat} (h : c ≤ 8 * j) : firstZ z c j = 0 := by unfold firstZ; rw [if_neg (by omega), if_pos h]
theorem firstZ_mid {z : Nat → Int} {c j : Nat} (h : 8 * j < c) (h' : c < 8 * (j + 1)) : firstZ z c j = keep (z j) (c - 8 * j) := by unfold firstZ; rw [if_neg (by omega), if_neg (by omega)]
/-- in form just if all bits behind are nought -/
theorem form_bits (z : Nat → Int) (hz : Bytes z) (c : Nat) (hc : c ≤ 128) : (∀ j, j < 16 → firstZ z c j = z j) ↔ ∀ i, c ≤ i → i < 128 → bitZ z i = 0 := by
  constructor
  · intro h i h1 h2
    have hj := h (i / 8) (by omega)
    unfold bitZ
    by_cases e : c ≤ 8 * (i / 8)
    · rw [firstZ_hi e] at hj
      rw [← hj]; simp
    · rw [firstZ_mid (by omega) (by omega)] at hj
      exact (keep_bits _ (hz _) _ (by omega)).1 hj (i % 8) (by omega) (by omega)
  · intro h j hj
    by_cases e1 : 8 * (j + 1) ≤ c
    · exact firstZ_lo e1
    · by_cases e2 : c ≤ 8 * j
      · rw [firstZ_hi e2]
        have hk : keep (z j) 0 = z j := (keep_bits _ (hz j) 0 (by omega)).2 (fun i hi _ => by
          have := h (8 * j + i) (by omega) (by omega)
          unfold bitZ at this
          rwa [show (8 * j + i) / 8 = j by omega, show (8 * j + i) % 8 = i by omega] at this)
        rw [← hk]
        unfold keep
        have := hz j
        simp
        omega
      · rw [firstZ_mid (by omega) (by omega)]
        exact (keep_bits _ (hz j) _ (by omega)).2 (fun i hi hr => by
          have := h (8 * j + i) (by omega) (by omega)
          unfold bitZ at this
          rwa [show (8 * j + i) / 8 = j by omega, show (8 * j + i) % 8 = i by omega] at this)
end Go.Proofs.Ytjnbemopfhinbaa
/- A prefix's bits as a list: what covers what, and which are one. Plain facts. Each theorem states its conditions. -/
namespace Go.Proofs.Ytjnbemopfhinbaa
open Go.RowKit
set_option linter.unusedVariables false
set_option linter.unusedSimpArgs false

/-- the first n bits of an address -/
def btP (n : Nat) (z : Nat → Int) : List Bool := (List.range n).map fun i => decide (bitZ z i = 1)
theorem btP_len (n : Nat) (z : Nat → Int) : (btP n z).length = n := by unfold btP; simp
theorem btP_at {n i : Nat} {z : Nat → Int} (h : i < n) : (btP n z)[i]? = some (decide (bitZ z i = 1)) := by
  unfold btP
  rw [List.getElem?_map, List.getElem?_range h]
  rfl
theorem bit_01 (z : Nat → Int) (i : Nat) : bitZ z i = 0 ∨ bitZ z i = 1 := by unfold bitZ; omega
theorem bit_eq {z z' : Nat → Int} {i : Nat} : decide (bitZ z i = 1) = decide (bitZ z' i = 1) ↔ bitZ z i = bitZ z' i := by
  rcases bit_01 z i with h | h <;> rcases bit_01 z' i with h' | h' <;> simp [h, h']
theorem byte_bits {v v' : Int} (h : 0 ≤ v ∧ v ≤ 255) (h' : 0 ≤ v' ∧ v' ≤ 255) (he : ∀ k, k < 8 → v / 2 ^ (7 - k) % 2 = v' / 2 ^ (7 - k) % 2) : v = v' := by
  have h0 := he 0 (by decide)
  have h1 := he 1 (by decide)
  have h2 := he 2 (by decide)
  have h3 := he 3 (by decide)
  have h4 := he 4 (by decide)
  have h5 := he 5 (by decide)
  have h6 := he 6 (by decide)
  have h7 := he 7 (by decide)
  simp only [Nat.sub_zero, Nat.reduceSub, Int.reducePow, Int.pow_zero, Int.ediv_one] at h0 h1 h2 h3 h4 h5 h6 h7
  omega
theorem all_bits {z z' : Nat → Int} (hz : Bytes z) (hz' : Bytes z') (h : ∀ i, i < 128 → bitZ z i = bitZ z' i) : ∀ j, j < 16 → z j = z' j := by
  intro j hj
  refine byte_bits (hz j) (hz' j) fun k hk => ?_
  have h1 := h (8 * j + k) (by omega)
  unfold bitZ at h1
  rw [show (8 * j + k) / 8 = j by omega, show (8 * j + k) % 8 = k by omega] at h1
  exact h1
theorem keep_bitT {v : Int} (hv : 0 ≤ v ∧ v ≤ 255) {r k : Nat} (hr : 0 < r ∧ r < 8) (hk : k < 8) : keep v r / 2 ^ (7 - k) % 2 = if k < r then v / 2 ^ (7 - k) % 2 else 0 := by
  unfold keep
  obtain ⟨r1, r2⟩ := hr
  rcases (by omega : r = 1 ∨ r = 2 ∨ r = 3 ∨ r = 4 ∨ r = 5 ∨ r = 6 ∨ r = 7) with rfl | rfl | rfl | rfl | rfl | rfl | rfl <;>
  rcases (by omega : k = 0 ∨ k = 1 ∨ k = 2 ∨ k = 3 ∨ k = 4 ∨ k = 5 ∨ k = 6 ∨ k = 7) with rfl | rfl | rfl | rfl | rfl | rfl | rfl | rfl <;>
  simp only [Nat.sub_zero, Nat.reduceSub, Nat.reduceLT, Int.reducePow, Int.pow_zero, Int.ediv_one, if_true, if_false, Nat.reduceLeDiff] <;> omega
theorem first_bitT {z : Nat → Int} (hz : Bytes z) (c i : Nat) : bitZ (firstZ z c) i = if i < c then bitZ z i else 0 := by
  unfold bitZ
  by_cases h1 : 8 * (i / 8 + 1) ≤ c
  · rw [firstZ_lo h1, if_pos (by omega)]
  by_cases h2 : c ≤ 8 * (i / 8)
  · rw [firstZ_hi h2, if_neg (by omega)]
    simp
  · rw [firstZ_mid (by omega) (by omega), keep_bitT (hz _) (by omega) (by omega)]
    by_cases h3 : i < c
    · rw [if_pos h3, if_pos (by omega)]
    · rw [if_neg h3, if_neg (by omega)]
theorem btP_first {z : Nat → Int} (hz : Bytes z) (c : Nat) : btP c (firstZ z c) = btP c z := by
  unfold btP
  refine List.map_congr_left fun i hi => ?_
  rw [first_bitT hz, if_pos (by simpa using hi)]
theorem btP_take {n c : Nat} (z : Nat → Int) (h : c ≤ n) : (btP n z).take c = btP c z := by
  unfold btP
  rw [← List.map_take, List.take_range, Nat.min_eq_left h]
theorem form_len {fam : Int} {n : Nat} {z : Nat → Int} (h : Form fam (n : Int) z) : n ≤ 128 := by
  rcases h.1 with h1 | h1 <;> omega
theorem form_hi {fam : Int} {n : Nat} {z : Nat → Int} (hz : Bytes z) (h : Form fam (n : Int) z) : ∀ i, n ≤ i → i < 128 → bitZ z i = 0 := by
  have h1 := h.2
  rw [Int.toNat_natCast] at h1
  exact (form_bits z hz n (form_len h)).1 h1
/-- of those in form the same bits are the same address -/
theorem btP_eq {fam fam' : Int} {n n' : Nat} {z z' : Nat → Int} (hz : Bytes z) (hz' : Bytes z') (hf : Form fam (n : Int) z) (hf' : Form fam' (n' : Int) z') : btP n z = btP n' z' ↔ n = n' ∧ ∀ j, j < 16 → z j = z' j := by
  constructor
  · intro h
    have hn : n = n' := by have := congrArg List.length h; rw [btP_len, btP_len] at this; exact this
    subst hn
    refine ⟨rfl, all_bits hz hz' fun i hi => ?_⟩
    by_cases hin : i < n
    · have h1 := btP_at (z := z) hin
      have h2 := btP_at (z := z') hin
      rw [h, h2] at h1
      exact (bit_eq.1 (Option.some.inj h1)).symm
    · rw [form_hi hz hf i (by omega) hi, form_hi hz' hf' i (by omega) hi]
  · rintro ⟨rfl, h⟩
    unfold btP
    refine List.map_congr_left fun i hi => ?_
    have h1 : i < n := by simpa using hi
    have h2 := form_len hf
    refine bit_eq.2 ?_
    unfold bitZ
    rw [h (i / 8) (by omega)]
/-- what covers what -/
theorem btP_cov {fam fam' : Int} {n n' : Nat} {z z' : Nat → Int} (hz : Bytes z) (hz' : Bytes z') (hf : Form fam (n : Int) z) (hf' : Form fam' (n' : Int) z') : btP n z <+: btP n' z' ↔ n ≤ n' ∧ ∀ j, j < 16 → firstZ z' n j = z j := by
  have hn := form_len hf
  constructor
  · intro h
    have hl := h.length_le
    rw [btP_len, btP_len] at hl
    refine ⟨hl, fun j hj => ?_⟩
    have h1 : btP n z = btP n z' := by
      have h2 := List.prefix_iff_eq_take.1 h
      rw [btP_len, btP_take z' hl] at h2
      exact h2
    refine all_bits (firstZ_bd hz' n) hz (fun i hi => ?_) j hj
    rw [first_bitT hz']
    by_cases hin : i < n
    · rw [if_pos hin]
      have h3 := btP_at (z := z) hin
      have h4 := btP_at (z := z') hin
      rw [h1, h4] at h3
      exact bit_eq.1 (Option.some.inj h3)
    · rw [if_neg hin, form_hi hz hf i (by omega) hi]
  · rintro ⟨hl, h⟩
    have h1 : btP n z = btP n z' := by
      rw [← btP_first hz' n]
      unfold btP
      refine List.map_congr_left fun i hi => ?_
      have hin : i < n := by simpa using hi
      refine bit_eq.2 ?_
      unfold bitZ
      rw [h (i / 8) (by omega)]
    rw [h1, ← btP_take z' hl]
    exact List.take_prefix _ _
end Go.Proofs.Ytjnbemopfhinbaa
/- hasLength, Sized, Bit, first: what they answer. Each theorem states its conditions. -/
namespace Go.Proofs.Ytjnbemopfhinbaa
open Go.RowKit
set_option linter.unusedVariables false

/-- a prefix as a value -/
def pv (fam len : Int) (z : Nat → Int) : Value := .agg #[.int .u8 fam, .int .i64 len, .int .u8 (z 0), .int .u8 (z 1), .int .u8 (z 2), .int .u8 (z 3), .int .u8 (z 4), .int .u8 (z 5), .int .u8 (z 6), .int .u8 (z 7), .int .u8 (z 8), .int .u8 (z 9), .int .u8 (z 10), .int .u8 (z 11), .int .u8 (z 12), .int .u8 (z 13), .int .u8 (z 14), .int .u8 (z 15)]
theorem bdrewN {B : Nat} {a w : World} (h : Below B a w) (m : Nat) : Below B a (w.drewN m) := ⟨h.os, h.tape, h.output, h.size, h.block⟩

theorem ret_u8 {a b : Int} (h : a = b) : Ending.returned (.int .u8 a) = .returned (.int .u8 b) := by rw [h]
theorem and_one (v : Int) (h : 0 ≤ v ∧ v ≤ 255) (k : Nat) (hk : k < 8) : bits .and .u8 (v / 2 ^ k) 1 = v / 2 ^ k % 2 := by
  obtain ⟨n, rfl⟩ := Int.eq_ofNat_of_zero_le h.1
  have hn : n < 256 := by omega
  have key : ∀ k, k < 8 → ∀ n : Nat, n < 256 → bits .and .u8 ((n : Int) / 2 ^ k) 1 = (n : Int) / 2 ^ k % 2 := by decide +kernel
  exact key k hk n hn
theorem and_P (v : Int) (h : 0 ≤ v ∧ v ≤ 255) (k : Nat) (P : Int) (hk : k < 8) (hP : (2 : Int) ^ k = P) : bits .and .u8 (v / P) 1 = v / P % 2 := by
  subst hP; exact and_one v h k hk
theorem ag_at (z : Nat → Int) (q : Nat) (hq : q < 16) : ∀ h : q < ([.int .u8 (z 0), .int .u8 (z 1), .int .u8 (z 2), .int .u8 (z 3), .int .u8 (z 4), .int .u8 (z 5), .int .u8 (z 6), .int .u8 (z 7), .int .u8 (z 8), .int .u8 (z 9), .int .u8 (z 10), .int .u8 (z 11), .int .u8 (z 12), .int .u8 (z 13), .int .u8 (z 14), .int .u8 (z 15)] : List Value).length, ([.int .u8 (z 0), .int .u8 (z 1), .int .u8 (z 2), .int .u8 (z 3), .int .u8 (z 4), .int .u8 (z 5), .int .u8 (z 6), .int .u8 (z 7), .int .u8 (z 8), .int .u8 (z 9), .int .u8 (z 10), .int .u8 (z 11), .int .u8 (z 12), .int .u8 (z 13), .int .u8 (z 14), .int .u8 (z 15)] : List Value)[q]'h = .int .u8 (z q) := by
  rcases (by omega : q = 0 ∨ q = 1 ∨ q = 2 ∨ q = 3 ∨ q = 4 ∨ q = 5 ∨ q = 6 ∨ q = 7 ∨ q = 8 ∨ q = 9 ∨ q = 10 ∨ q = 11 ∨ q = 12 ∨ q = 13 ∨ q = 14 ∨ q = 15) with rfl | rfl | rfl | rfl | rfl | rfl | rfl | rfl | rfl | rfl | rfl | rfl | rfl | rfl | rfl | rfl <;> intro h <;> rfl

set_option maxHeartbeats 1000000 in
theorem hasLength_any (fam len : Int) (z : Nat → Int) (w : World) :
    Calls Try.prog 54 #[pv fam len z] w fun e w' => e = .returned (.bool (decide (Sized fam len))) ∧ Below w.heap.size w w' := by
  unfold pv
  by_cases h4 : fam = 4
  · subst h4
    go_enter Try.func54, Try.ntmps54
    go_wp2
    all_goals go_ret
    all_goals refine ⟨ret_bool ?_, (bself w).alloc (Nat.le_refl _) _⟩
    all_goals (simp [Sized] <;> omega)
  · by_cases h6 : fam = 6
    · subst h6
      go_enter Try.func54, Try.ntmps54
      go_wp2
      all_goals go_ret
      all_goals refine ⟨ret_bool ?_, (bself w).alloc (Nat.le_refl _) _⟩
      all_goals (simp [Sized] <;> omega)
    · go_enter Try.func54, Try.ntmps54
      go_wp2
      go_ret
      refine ⟨ret_bool ?_, (bself w).alloc (Nat.le_refl _) _⟩
      simp [Sized, h4, h6]

/-- how many bits a family has -/
def bitsI (fam : Int) : Int := if fam = 4 then 32 else if fam = 6 then 128 else -1
theorem bits_any (fam : Int) (w : World) : Calls Try.prog 25 #[.int .u8 fam] w fun e w' => e = .returned (.int .i64 (bitsI fam)) ∧ w' = w := by
  unfold bitsI
  by_cases h4 : fam = 4
  · subst h4
    go_enter Try.func25, Try.ntmps25
    go_wp2
    go_ret
    exact ⟨rfl, rfl⟩
  · by_cases h6 : fam = 6
    · subst h6
      go_enter Try.func25, Try.ntmps25
      go_wp2
      go_ret
      exact ⟨rfl, rfl⟩
    · rw [if_neg h4, if_neg h6]
      go_enter Try.func25, Try.ntmps25
      go_wp2
      go_ret
      exact ⟨rfl, rfl⟩

set_option maxHeartbeats 1000000 in
theorem sized_any (fam len : Int) (z : Nat → Int) (w : World) :
    Calls Try.prog 84 #[pv fam len z] w fun e w' => e = .returned (.bool (decide (Sized fam len))) ∧ Below w.heap.size w w' := by
  unfold pv
  have H := Lib.hid (bits_any fam)
  have hs : Sized fam len ↔ 0 ≤ len ∧ len ≤ bitsI fam := by unfold Sized bitsI; split <;> (try split) <;> omega
  have HS := Lib.hid hs
  by_cases h0 : 0 ≤ len
  · go_enter Try.func84, Try.ntmps84
    go_wp2_with fail
    go_quiet (first | (go_at_call 25; exact Calls.quiet_of_same (H.out _)))
    go_wp2
    go_ret
    refine ⟨ret_bool ?_, bdrewN ((bself w).alloc (Nat.le_refl _) _) _⟩
    have := HS.out
    simp [this, h0]
  · have h0' : decide (0 ≤ len) = false := by simpa using h0
    go_enter Try.func84, Try.ntmps84
    go_wp2_with fail
    go_quiet (fail)
    go_wp2
    go_ret
    refine ⟨ret_bool ?_, bdrewN ((bself w).alloc (Nat.le_refl _) _) _⟩
    have := HS.out
    simp [this] <;> omega

set_option maxHeartbeats 2000000 in
theorem bit_any (z : Nat → Int) (q r : Nat) (hq : q < 16) (hr : r < 8) (w : World) (hz : Bytes z) (i : Int) (hi : i = 8 * (q : Int) + r) :
    Calls Try.prog 81 #[.agg (ag z), .int .i64 i] w fun e w' => e = .returned (.int .u8 (z q / 2 ^ (7 - r) % 2)) ∧ Below w.heap.size w w' := by
  unfold ag
  have h1 : i.tdiv 8 = (q : Int) := by rw [Int.tdiv_eq_ediv_of_nonneg (by omega)]; omega
  have h2 : i.tmod 8 = (r : Int) := by rw [Int.tmod_eq_emod_of_nonneg (by omega)]; omega
  have h3 := ag_at z q hq
  have hzq := hz q
  have hq0 : (0 : Int) ≤ (q : Int) := by omega
  have hq1 : (q : Int) < 16 := by omega
  clear hi
  rcases (by omega : r = 0 ∨ r = 1 ∨ r = 2 ∨ r = 3 ∨ r = 4 ∨ r = 5 ∨ r = 6 ∨ r = 7) with rfl | rfl | rfl | rfl | rfl | rfl | rfl | rfl
  · have hP : (2 : Int) ^ (7 - 0) = 128 := by decide
    rw [hP]
    have hA := Lib.hid (and_P (z q) hzq 7 128 (by omega) (by decide))
    go_enter Try.func81, Try.ntmps81
    go_wp2
    go_ret
    exact ⟨ret_u8 hA.out, (bself w).alloc (Nat.le_refl _) _⟩
  · have hP : (2 : Int) ^ (7 - 1) = 64 := by decide
    rw [hP]
    have hA := Lib.hid (and_P (z q) hzq 6 64 (by omega) (by decide))
    go_enter Try.func81, Try.ntmps81
    go_wp2
    go_ret
    exact ⟨ret_u8 hA.out, (bself w).alloc (Nat.le_refl _) _⟩
  · have hP : (2 : Int) ^ (7 - 2) = 32 := by decide
    rw [hP]
    have hA := Lib.hid (and_P (z q) hzq 5 32 (by omega) (by decide))
    go_enter Try.func81, Try.ntmps81
    go_wp2
    go_ret
    exact ⟨ret_u8 hA.out, (bself w).alloc (Nat.le_refl _) _⟩
  · have hP : (2 : Int) ^ (7 - 3) = 16 := by decide
    rw [hP]
    have hA := Lib.hid (and_P (z q) hzq 4 16 (by omega) (by decide))
    go_enter Try.func81, Try.ntmps81
    go_wp2
    go_ret
    exact ⟨ret_u8 hA.out, (bself w).alloc (Nat.le_refl _) _⟩
  · have hP : (2 : Int) ^ (7 - 4) = 8 := by decide
    rw [hP]
    have hA := Lib.hid (and_P (z q) hzq 3 8 (by omega) (by decide))
    go_enter Try.func81, Try.ntmps81
    go_wp2
    go_ret
    exact ⟨ret_u8 hA.out, (bself w).alloc (Nat.le_refl _) _⟩
  · have hP : (2 : Int) ^ (7 - 5) = 4 := by decide
    rw [hP]
    have hA := Lib.hid (and_P (z q) hzq 2 4 (by omega) (by decide))
    go_enter Try.func81, Try.ntmps81
    go_wp2
    go_ret
    exact ⟨ret_u8 hA.out, (bself w).alloc (Nat.le_refl _) _⟩
  · have hP : (2 : Int) ^ (7 - 6) = 2 := by decide
    rw [hP]
    have hA := Lib.hid (and_P (z q) hzq 1 2 (by omega) (by decide))
    go_enter Try.func81, Try.ntmps81
    go_wp2
    go_ret
    exact ⟨ret_u8 hA.out, (bself w).alloc (Nat.le_refl _) _⟩
  · have hP : (2 : Int) ^ (7 - 7) = 1 := by decide
    rw [hP]
    have hA := Lib.hid (and_P (z q) hzq 0 1 (by omega) (by decide))
    go_enter Try.func81, Try.ntmps81
    go_wp2
    go_ret
    exact ⟨ret_u8 (by have := hA.out; simpa using this), (bself w).alloc (Nat.le_refl _) _⟩
end Go.Proofs.Ytjnbemopfhinbaa
