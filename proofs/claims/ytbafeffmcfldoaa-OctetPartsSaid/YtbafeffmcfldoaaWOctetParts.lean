/- The walk of OctetParts: for every input the law returns true, and nothing that was there is written. No condition. -/
import Derived.Test.YtbafeffmcfldoaaAwake
namespace Go.Proofs.Ytbafeffmcfldoaa
open Go.RowKit
set_option linter.unusedVariables false

theorem parts_short (a0 : Option Addr) (len0 cap0 : Nat) (a1 a2 : Int) (w : World) (h1 : 0 ≤ a1 ∧ a1 ≤ 255) (h2 : 0 ≤ a2 ∧ a2 ≤ 255) (hl : len0 < 2 + (a1 % 4) + (a2 % 4)) :
    Calls Try.prog 8 #[.slice a0 len0 cap0, .int .u8 a1, .int .u8 a2] w fun e w' => e = .returned (.bool true) ∧ Below w.heap.size w w' := by
  go_enter Try.func8, Try.ntmps8
  go_wp2_with (go_at_call 15; refine (awake_any _).mono ?_; rintro e w' ⟨rfl, hb⟩)
  go_ret
  exact ⟨rfl, hb⟩

theorem parts_eq (z : Nat → Int) (x y : Nat) (hz : ∀ j, 0 ≤ z j ∧ z j ≤ 255) (hx : x ≤ 3) (hy : y ≤ 3) :
    (numZ z 0 (1 + x + (1 + y)) == bits .or .u64 (IntKind.u64.wrap (numZ z 0 (1 + x) * 2 ^ (8 * (1 + y)))) (numZ z (1 + x) (1 + y))) = true := by
  have hn := numZ_64 z 0 (1 + x + (1 + y)) (by omega) hz
  have hh := numZ_lt z 0 (1 + x) hz
  have hl := numZ_lt z (1 + x) (1 + y) hz
  have ha := numZ_add z 0 (1 + x) (1 + y)
  rw [Nat.zero_add] at ha
  have hp : (2 : Int) ^ (8 * (1 + y)) = 256 ^ (1 + y) := by rw [Int.pow_mul]; rfl
  have hb : (256 : Int) ^ (1 + y) ≤ 18446744073709551615 := by
    rcases (by omega : y = 0 ∨ y = 1 ∨ y = 2 ∨ y = 3) with rfl | rfl | rfl | rfl <;> decide
  have hb0 : (0 : Int) ≤ 256 ^ (1 + y) := by omega
  have hm := Int.mul_nonneg hh.1 hb0
  have hw : IntKind.u64.wrap (numZ z 0 (1 + x) * 256 ^ (1 + y)) = numZ z 0 (1 + x) * 256 ^ (1 + y) := by
    rw [IntKind.wrap_u64]; omega
  rw [hp, hw, or_join _ _ _ (8 * (1 + y)) hp.symm hh.1 (by omega) hl.1 hl.2 hb, ← ha]
  simp

theorem parts_long (b off len cap : Nat) (z : Nat → Int) (a1 a2 : Int) (x y : Nat) (w : World) (h1 : 0 ≤ a1 ∧ a1 ≤ 255) (h2 : 0 ≤ a2 ∧ a2 ≤ 255)
    (hr : Row8 w b off len z) (hlc : len ≤ cap) (hm : cap ≤ maxLen)
    (hx : a1 % 4 = x) (hy : a2 % 4 = y) (hl : 2 + x + y ≤ len) :
    Calls Try.prog 8 #[.slice (some ⟨b, off, none⟩) len cap, .int .u8 a1, .int .u8 a2] w fun e w' => e = .returned (.bool true) ∧ Below w.heap.size w w' := by
  have hx3 : x ≤ 3 := by omega
  have hy3 : y ≤ 3 := by omega
  go_enter Try.func8, Try.ntmps8
  go_wp2_with fail
  refine (awake_any _).mono ?_
  rintro e w' ⟨rfl, hb⟩
  have hr' := hr.below hb hr.1
  go_wp2_with fail
  refine (num_ok b off len cap z _ _ _ hr'.2.2 hm hlc hr'.2.1 (by omega) (by omega) (by omega) (by omega)).mono ?_
  rintro e w' ⟨rfl, rfl⟩
  go_wp2_with fail
  refine (num_ok b off len cap z _ _ _ hr'.2.2 hm hlc hr'.2.1 (by omega) (by omega) (by omega) (by omega)).mono ?_
  rintro e w' ⟨rfl, rfl⟩
  go_wp2_with fail
  refine (num_ok b off len cap z _ _ _ hr'.2.2 hm hlc hr'.2.1 (by omega) (by omega) (by omega) (by omega)).mono ?_
  rintro e w' ⟨rfl, rfl⟩
  go_wp2_with fail
  go_ret
  exact ⟨ret_bool (parts_eq z x y hr'.2.2 hx3 hy3), hb⟩

theorem walkOctetParts (a0 : Option Addr) (len0 cap0 : Nat) (z0 : List Int) (a1 a2 : Int) (w : World) (w0 : IsRow .u8 w a0 len0 cap0 z0) (w1 : (Lit.int .u8 a1).wf = true) (w2 : (Lit.int .u8 a2).wf = true) :
    Calls Try.prog 8 #[.slice a0 len0 cap0, .int .u8 a1, .int .u8 a2] w fun e w' => e = .returned (.bool true) ∧ Below w.heap.size w w' := by
  have h1 := wf_u8 w1
  have h2 := wf_u8 w2
  by_cases hl : len0 < 2 + (a1 % 4) + (a2 % 4)
  · exact parts_short a0 len0 cap0 a1 a2 w h1 h2 hl
  · obtain ⟨b, off, rfl, hlc, hm, hr⟩ := isRow_open w0 (by omega)
    exact parts_long b off len0 cap0 _ a1 a2 (a1 % 4).toNat (a2 % 4).toNat w h1 h2 hr hlc hm (by omega) (by omega) (by omega)
end Go.Proofs.Ytbafeffmcfldoaa
