/- How many bits two prefixes begin with: plain facts, and the program's same. Each theorem states its conditions. -/
import Derived.Test.YtjnbemopfhinbaaTrK
import Derived.Laws.Entries
namespace Go.Proofs.Ytjnbemopfhinbaa
open Go.RowKit
set_option linter.unusedVariables false
set_option linter.unusedSimpArgs false

theorem lcp_is : ∀ (m : Nat) (p q : List Bool), m ≤ p.length → m ≤ q.length → (∀ i, i < m → p[i]? = q[i]?) → (m = p.length ∨ m = q.length ∨ p[m]? ≠ q[m]?) → Tr.lcp p q = m
  | 0, [], q, _, _, _, _ => by unfold Tr.lcp; rfl
  | 0, _ :: _, [], _, _, _, _ => by unfold Tr.lcp; rfl
  | 0, x :: p, y :: q, _, _, _, h => by
    rcases h with h | h | h
    · simp at h
    · simp at h
    · unfold Tr.lcp
      rw [if_neg (fun e => h (by rw [e]; rfl))]
  | m + 1, [], q, h, _, _, _ => by simp at h
  | m + 1, _ :: _, [], _, h, _, _ => by simp at h
  | m + 1, x :: p, y :: q, h1, h2, h3, h4 => by
    have e : x = y := by
      have := h3 0 (by omega)
      simpa using this
    subst e
    unfold Tr.lcp
    rw [if_pos rfl, lcp_is m p q (by simpa using h1) (by simpa using h2) (fun i hi => by
      have := h3 (i + 1) (by omega)
      simpa using this) (by
      rcases h4 with h | h | h
      · exact .inl (by simpa using h)
      · exact .inr (.inl (by simpa using h))
      · exact .inr (.inr (by simpa using h)))]
/-- as many as d bits alike, unlike behind them, if there are some -/
theorem lcp_btP {n n' d : Nat} {z z' : Nat → Int} (h : ∀ i, i < d → bitZ z i = bitZ z' i) (hd : d < n → d < n' → bitZ z d ≠ bitZ z' d) : Tr.lcp (btP n z) (btP n' z') = min (min n n') d := by
  refine lcp_is _ _ _ (by rw [btP_len]; omega) (by rw [btP_len]; omega) (fun i hi => ?_) ?_
  · rw [btP_at (by omega), btP_at (by omega)]
    exact congrArg some (bit_eq.2 (h i (by omega)))
  · rw [btP_len, btP_len]
    by_cases h1 : d < n
    · by_cases h2 : d < n'
      · right; right
        rw [show min (min n n') d = d by omega, btP_at h1, btP_at h2]
        intro e
        exact hd h1 h2 (bit_eq.1 (Option.some.inj e))
      · right; left; omega
    · by_cases h2 : n ≤ n'
      · left; omega
      · right; left; omega
/-- how many noughts a byte begins with -/
def lz8 (u : Nat) : Nat := if u = 0 then 8 else if u < 2 then 7 else if u < 4 then 6 else if u < 8 then 5 else if u < 16 then 4 else if u < 32 then 3 else if u < 64 then 2 else if u < 128 then 1 else 0
theorem lz8_bits (u : Nat) (hu : u < 256) (h0 : u ≠ 0) : lz8 u < 8 ∧ (∀ j, j < lz8 u → u.testBit (7 - j) = false) ∧ u.testBit (7 - lz8 u) = true := by
  have h : ∀ u : Fin 256, u.val ≠ 0 → lz8 u.val < 8 ∧ (∀ j, j < 8 → j < lz8 u.val → u.val.testBit (7 - j) = false) ∧ u.val.testBit (7 - lz8 u.val) = true := by decide +kernel
  obtain ⟨h1, h2, h3⟩ := h ⟨u, hu⟩ h0
  exact ⟨h1, fun j hj => h2 j (by simp only at h1; omega) hj, h3⟩
theorem testBit_div (a i : Nat) : a.testBit i = decide (a / 2 ^ i % 2 = 1) := by rw [Nat.testBit_eq_decide_div_mod_eq]
theorem zbit (v : Int) (h : 0 ≤ v ∧ v ≤ 255) (i : Nat) : (v / 2 ^ i % 2 = 1) ↔ v.toNat.testBit i = true := by
  obtain ⟨n, rfl⟩ := Int.eq_ofNat_of_zero_le h.1
  rw [testBit_div]
  simp only [Int.toNat_natCast, decide_eq_true_eq]
  have : ((n : Int) / 2 ^ i % 2) = ((n / 2 ^ i % 2 : Nat) : Int) := by simp
  rw [this]
  omega
theorem bit_byte {z z' : Nat → Int} (hz : Bytes z) (hz' : Bytes z') (i k : Nat) (hk : k < 8) : (bitZ z (8 * i + k) = bitZ z' (8 * i + k)) ↔ ((z i).toNat ^^^ (z' i).toNat).testBit (7 - k) = false := by
  have h1 := zbit (z i) (hz i) (7 - k)
  have h2 := zbit (z' i) (hz' i) (7 - k)
  have b1 := bit_01 z (8 * i + k)
  have b2 := bit_01 z' (8 * i + k)
  rw [Nat.testBit_xor]
  unfold bitZ at b1 b2 ⊢
  rw [show (8 * i + k) / 8 = i by omega, show (8 * i + k) % 8 = k by omega] at b1 b2 ⊢
  generalize z i / 2 ^ (7 - k) % 2 = x at *
  generalize z' i / 2 ^ (7 - k) % 2 = y at *
  generalize (z i).toNat.testBit (7 - k) = p at *
  generalize (z' i).toNat.testBit (7 - k) = q at *
  rcases b1 with rfl | rfl <;> rcases b2 with rfl | rfl <;> cases p <;> cases q <;> simp_all
/-- the xor of two bytes -/
def xorZ (a b : Int) : Nat := a.toNat ^^^ b.toNat
theorem xorZ_lt {a b : Int} (ha : 0 ≤ a ∧ a ≤ 255) (hb : 0 ≤ b ∧ b ≤ 255) : xorZ a b < 256 := Nat.xor_lt_two_pow (n := 8) (by omega) (by omega)
theorem xorZ_0 {a b : Int} (ha : 0 ≤ a ∧ a ≤ 255) (hb : 0 ≤ b ∧ b ≤ 255) : xorZ a b = 0 ↔ a = b := by
  unfold xorZ
  constructor
  · intro h
    have h1 : (a.toNat ^^^ b.toNat) ^^^ b.toNat = b.toNat := by rw [h, Nat.zero_xor]
    rw [Nat.xor_assoc, Nat.xor_self, Nat.xor_zero] at h1
    omega
  · rintro rfl
    exact Nat.xor_self _
/-- the place of the first unlike bit -/
theorem first_unlike {z z' : Nat → Int} (hz : Bytes z) (hz' : Bytes z') (i : Nat) (ha : ∀ j, j < i → z j = z' j) (hx : xorZ (z i) (z' i) ≠ 0) :
    (∀ k, k < 8 * i + lz8 (xorZ (z i) (z' i)) → bitZ z k = bitZ z' k) ∧ bitZ z (8 * i + lz8 (xorZ (z i) (z' i))) ≠ bitZ z' (8 * i + lz8 (xorZ (z i) (z' i))) := by
  obtain ⟨h1, h2, h3⟩ := lz8_bits _ (xorZ_lt (hz i) (hz' i)) hx
  refine ⟨fun k hk => ?_, fun e => ?_⟩
  · by_cases hki : k < 8 * i
    · unfold bitZ
      rw [ha (k / 8) (by omega)]
    · have := (bit_byte hz hz' i (k - 8 * i) (by omega)).2 (h2 _ (by omega))
      rwa [show 8 * i + (k - 8 * i) = k by omega] at this
  · have := (bit_byte hz hz' i _ h1).1 e
    unfold xorZ at h3 this
    rw [this] at h3
    cases h3
set_option maxRecDepth 100000 in
theorem len8_any (u : Nat) (hu : u < 256) (w : World) : Calls Try.prog 101 #[.int .u8 (u : Int)] w fun e w' => e = .returned (.int .i64 ((8 - lz8 u : Nat) : Int)) ∧ w = w' := by
  have h8 : (8 - lz8 u : Nat) < 256 := by omega
  go_enter Try.func101, Try.ntmps101
  go_wp2
  refine bodyPost_ret (v := .int .i64 ((8 - lz8 u : Nat) : Int)) ?_ rfl ⟨rfl, rfl⟩
  simp [results, Try.f101, go_sem]
  clear h8 w
  trace_state
  revert u
  decide +kernel
end Go.Proofs.Ytjnbemopfhinbaa
