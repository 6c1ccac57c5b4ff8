/- octet.checkByte, checkPlace and Sum answer as the plain functions say. Each theorem states its conditions. -/
import Derived.Test.YtigkmcbkckfhbaaRows
import Derived.Test.YtigkmcbkckfhbaaPlain
import Derived.WalkKit
import Derived.WalkLawsBesides
import Derived.WalkSpells
import Derived.IntWalk
import Derived.Outline
import Derived.Lib.Hide
namespace Go.Proofs.Ytigkmcbkckfhbaa
open Go.RowKit
set_option linter.unusedVariables false

theorem checkByte_any (n : Int) (w : World) (h1 : -1000000000 ≤ n) (h2 : n ≤ 1000000000) :
    Calls Try.prog 74 #[.int .i64 n] w fun e w' => e = .returned (.int .i64 (cbI n)) ∧ w = w' := by
  have h3 := tmod_bd n
  by_cases hc : n.tmod 255 ≤ 0
  · have h := Lib.hid (cbI_tmod_lo n hc)
    go_enter Try.func74, Try.ntmps74
    go_wp2
    go_ret
    exact ⟨ret_int h.out, rfl⟩
  · have h := Lib.hid (cbI_tmod_hi n (by omega))
    go_enter Try.func74, Try.ntmps74
    go_wp2
    go_ret
    exact ⟨ret_int h.out, rfl⟩

theorem checkPlace_ok (A : Option Addr) (len cap : Nat) (s : Int) (w : World) (hn : len ≤ 1492) (h0 : 0 ≤ s) (h1 : s ≤ len - 2) :
    Calls Try.prog 73 #[.slice A len cap, .int .i64 s] w fun e w' => e = .returned (.int .i64 0) ∧ w = w' := by
  go_enter Try.func73, Try.ntmps73
  go_wp2
  go_ret
  exact ⟨rfl, rfl⟩

theorem checkPlace_arg (A : Option Addr) (len cap : Nat) (s : Int) (w : World) (h0 : s < 0) :
    Calls Try.prog 73 #[.slice A len cap, .int .i64 s] w fun e w' => e = .returned (.int .i64 1) ∧ w = w' := by
  go_enter Try.func73, Try.ntmps73
  go_wp2
  go_ret
  exact ⟨rfl, rfl⟩

theorem checkPlace_long (A : Option Addr) (len cap : Nat) (s : Int) (w : World) (h0 : 0 ≤ s) (hn : 1492 < len) :
    Calls Try.prog 73 #[.slice A len cap, .int .i64 s] w fun e w' => e = .returned (.int .i64 2) ∧ w = w' := by
  have h3 : ¬ s < 0 := by omega
  go_enter Try.func73, Try.ntmps73
  go_wp2
  go_ret
  exact ⟨rfl, rfl⟩

theorem checkPlace_form (A : Option Addr) (len cap : Nat) (s : Int) (w : World) (h0 : 0 ≤ s) (hn : len ≤ 1492) (h1 : len - 2 < s) :
    Calls Try.prog 73 #[.slice A len cap, .int .i64 s] w fun e w' => e = .returned (.int .i64 3) ∧ w = w' := by
  go_enter Try.func73, Try.ntmps73
  go_wp2
  go_ret
  exact ⟨rfl, rfl⟩

theorem sum_ok (b off len cap : Nat) (z : Nat → Int) (i : Int) (w : World)
    (hz : ∀ j, 0 ≤ z j ∧ z j ≤ 255) (hn : len ≤ 1492)
    (hc : ∀ j, j < len → w.cell? ⟨b, off + j, none⟩ = some (.int .u8 (z j)))
    (hi0 : 0 ≤ i) (hi : i ≤ len - 2) :
    Calls Try.prog 59 #[.slice (some ⟨b, off, none⟩) len cap, .int .i64 i] w fun e w' => e = .returned (.tuple #[.int .u16 (chk z i.toNat len), .int .i64 0]) ∧ w = w' := by
  obtain ⟨s, rfl⟩ := Int.eq_ofNat_of_zero_le hi0
  rw [Int.toNat_natCast]
  go_enter Try.func59, Try.ntmps59
  go_wp2_with (go_at_call 73; refine (checkPlace_ok _ _ _ _ _ (by omega) (by omega) (by omega)).mono ?_; rintro e w' ⟨rfl, rfl⟩)
  go_loop [7, 8, 21] (fun p q t => ∃ c : Nat, c ≤ len ∧ t = .int .i64 c ∧ p = .int .i64 (sumA z s c) ∧ q = .int .i64 (sumB z s len c)) (fun _ _ t => len - (intOf t).toNat)
  case atStart => exact ⟨0, Nat.zero_le _, rfl, rfl, rfl⟩
  case round =>
    obtain ⟨c, hcm, rfl, rfl, rfl⟩ := hrel
    have hA := sumA_bd z s c hz
    have hB := sumB_bd z s len c hz hn hcm
    by_cases hlt : c < len
    · have hcell := hc c hlt
      have hb := hz c
      have hm := mul_bd (z c) ((len : Int) - c) 255 1492 hb.1 hb.2 (by omega) (by omega)
      by_cases h1 : c = s
      · have hs1 := Lib.hid (sumA_skip z s c (.inl h1))
        have hs2 := Lib.hid (sumB_skip z s len c (.inl h1))
        have h1' : ((c : Int) != s) = false := by simp [h1]
        have H1 := Lib.hid h1; clear h1
        go_wp2
        go_round
        case rel => exact ⟨c + 1, by omega, by go_num, by rw [hs1.out], by rw [hs2.out]⟩
        case measure => simp [intOf]; omega
      · have h1' : ((c : Int) != s) = true := by simp; omega
        by_cases h2 : c = s + 1
        · have hs1 := Lib.hid (sumA_skip z s c (.inr h2))
          have hs2 := Lib.hid (sumB_skip z s len c (.inr h2))
          have h2' : ((c : Int) != (s : Int) + 1) = false := by simp; omega
          have H2 := Lib.hid h2; clear h2
          go_wp2
          go_round
          case rel => exact ⟨c + 1, by omega, by go_num, by rw [hs1.out], by rw [hs2.out]⟩
          case measure => simp [intOf]; omega
        · have hs1 := Lib.hid (sumA_take z s c (by omega))
          have hs2 := Lib.hid (sumB_take z s len c (by omega))
          have h2' : ((c : Int) != (s : Int) + 1) = true := by simp; omega
          go_wp2
          go_round
          case rel => exact ⟨c + 1, by omega, by go_num, by rw [hs1.out], by rw [hs2.out]⟩
          case measure => simp [intOf]; omega
    · obtain rfl : c = len := by omega
      have hm := mul_bd (sumA z s c) ((c : Int) - s - 1) 380460 1492 hA.1 (by omega) (by omega) (by omega)
      have hx := cbI_bd (sumA z s c * ((c : Int) - s - 1) - sumB z s c c)
      have hy := cbI_bd (-sumA z s c - cbI (sumA z s c * ((c : Int) - s - 1) - sumB z s c c))
      have hj := Lib.hid (u16_join' _ _ hx hy)
      go_wp2_with (go_at_call 74; refine (checkByte_any _ _ (by omega) (by omega)).mono ?_; rintro e w' ⟨rfl, rfl⟩)
      go_ret2
      exact ⟨ret2_eq (u16_eq hj.out) _, rfl⟩
end Go.Proofs.Ytigkmcbkckfhbaa
