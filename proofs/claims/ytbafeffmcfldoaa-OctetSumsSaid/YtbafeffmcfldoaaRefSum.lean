/- The document's check bytes, found by trying them all, are those that octet.Sum reckons; its errors are those of the place. Each theorem states its conditions. -/
import Derived.Test.YtbafeffmcfldoaaRight
namespace Go.Proofs.Ytbafeffmcfldoaa
open Go.RowKit
set_option linter.unusedVariables false

theorem place_ok (A : Option Addr) (len cap : Nat) (s : Int) (w : World) (hn : len ≤ 1492) (h0 : 0 ≤ s) (h1 : s ≤ len - 2) :
    Calls Try.prog 46 #[.slice A len cap, .int .i64 s] w fun e w' => e = .returned (.int .i64 0) ∧ w = w' := by
  have h2 : ¬ (len : Int) < 2 := by omega
  go_enter Try.func46, Try.ntmps46
  go_wp2
  go_ret
  exact ⟨rfl, rfl⟩
theorem place_arg (A : Option Addr) (len cap : Nat) (s : Int) (w : World) (h0 : s < 0) :
    Calls Try.prog 46 #[.slice A len cap, .int .i64 s] w fun e w' => e = .returned (.int .i64 1) ∧ w = w' := by
  go_enter Try.func46, Try.ntmps46
  go_wp2
  go_ret
  exact ⟨rfl, rfl⟩
theorem place_long (A : Option Addr) (len cap : Nat) (s : Int) (w : World) (h0 : 0 ≤ s) (hn : 1492 < len) :
    Calls Try.prog 46 #[.slice A len cap, .int .i64 s] w fun e w' => e = .returned (.int .i64 2) ∧ w = w' := by
  have h3 : ¬ s < 0 := by omega
  go_enter Try.func46, Try.ntmps46
  go_wp2
  go_ret
  exact ⟨rfl, rfl⟩
theorem place_form (A : Option Addr) (len cap : Nat) (s : Int) (w : World) (h0 : 0 ≤ s) (hn : len ≤ 1492) (h1 : len - 2 < s) :
    Calls Try.prog 46 #[.slice A len cap, .int .i64 s] w fun e w' => e = .returned (.int .i64 3) ∧ w = w' := by
  by_cases h2 : len < 2
  · go_enter Try.func46, Try.ntmps46
    go_wp2
    go_ret
    exact ⟨rfl, rfl⟩
  · have h3 : ¬ (len : Int) < 2 := by omega
    go_enter Try.func46, Try.ntmps46
    go_wp2
    go_ret
    exact ⟨rfl, rfl⟩

theorem weigh_ok (b off len cap : Nat) (z : Nat → Int) (i : Int) (w : World) (hr : Row8 w b off len z) (hn : len ≤ 1492) (hi0 : 0 ≤ i) (hi : i ≤ len - 2) :
    Calls Try.prog 62 #[.slice (some ⟨b, off, none⟩) len cap, .int .i64 i] w fun e w' => e = .returned (.tuple #[.int .i64 (sumA z i.toNat len), .int .i64 (sumB z i.toNat len len)]) ∧ w = w' := by
  obtain ⟨s, rfl⟩ := Int.eq_ofNat_of_zero_le hi0
  rw [Int.toNat_natCast]
  have hz := hr.2.2
  have hc := hr.2.1
  clear hr
  go_enter Try.func62, Try.ntmps62
  go_wp2
  go_loop [6, 7, 11] (fun p q t => ∃ c : Nat, c ≤ len ∧ t = .int .i64 c ∧ p = .int .i64 (sumA z s c) ∧ q = .int .i64 (sumB z s len c)) (fun _ _ t => len - (intOf t).toNat)
  case atStart => exact ⟨0, Nat.zero_le _, rfl, rfl, rfl⟩
  case round =>
    obtain ⟨c, hcm, rfl, rfl, rfl⟩ := hrel
    have hA := sumA_bd z s c hz
    have hB := sumB_bd z s len c hz hn hcm
    by_cases hlt : c < len
    · have hcell := hc c hlt
      have hb := hz c
      have hm := mul_bd (z c) ((len : Int) - c) 255 1492 hb.1 hb.2 (by omega) (by omega)
      by_cases h1 : c = s
      · have hs1 := Lib.hid (sumA_skip z s c (.inl h1))
        have hs2 := Lib.hid (sumB_skip z s len c (.inl h1))
        have h1' : ((c : Int) != s) = false := by simp [h1]
        have H1 := Lib.hid h1; clear h1
        go_wp2
        go_round
        case rel => exact ⟨c + 1, by omega, by go_num, by rw [hs1.out], by rw [hs2.out]⟩
        case measure => simp [intOf]; omega
      · have h1' : ((c : Int) != s) = true := by simp; omega
        by_cases h2 : c = s + 1
        · have hs1 := Lib.hid (sumA_skip z s c (.inr h2))
          have hs2 := Lib.hid (sumB_skip z s len c (.inr h2))
          have h2' : ((c : Int) != (s : Int) + 1) = false := by simp; omega
          have H2 := Lib.hid h2; clear h2
          go_wp2
          go_round
          case rel => exact ⟨c + 1, by omega, by go_num, by rw [hs1.out], by rw [hs2.out]⟩
          case measure => simp [intOf]; omega
        · have hs1 := Lib.hid (sumA_take z s c (by omega))
          have hs2 := Lib.hid (sumB_take z s len c (by omega))
          have h2' : ((c : Int) != (s : Int) + 1) = true := by simp; omega
          go_wp2
          go_round
          case rel => exact ⟨c + 1, by omega, by go_num, by rw [hs1.out], by rw [hs2.out]⟩
          case measure => simp [intOf]; omega
    · obtain rfl : c = len := by omega
      go_wp2
      go_ret2
      exact ⟨rfl, rfl⟩

/-- the second byte that goes with the first one k -/
def yOf (A k : Int) : Int := 255 - (A + k) % 255
theorem yOf_bd (A k : Int) : 1 ≤ yOf A k ∧ yOf A k ≤ 255 := by unfold yOf; omega
theorem yOf_chk (A k : Int) : cbI (-A - k) = yOf A k := by unfold cbI yOf; omega
theorem try_iff (A B k m : Int) (h1 : 1 ≤ k) (h2 : k ≤ 255) :
    (B + k * (m + 1) + yOf A k * m) % 255 = 0 ↔ k = cbI (A * m - B) := by
  have hq : ∃ q, yOf A k = 255 - A - k + 255 * q := ⟨(A + k) / 255, by unfold yOf; omega⟩
  obtain ⟨q, hq⟩ := hq
  have e : B + k * (m + 1) + yOf A k * m = B + k - A * m + 255 * ((1 + q) * m) := by
    rw [hq]
    simp only [Int.add_mul, Int.sub_mul, Int.mul_add, Int.mul_one, Int.mul_assoc, Int.one_mul]
    omega
  rw [e]
  unfold cbI
  generalize A * m = P
  generalize (1 + q) * m = Q
  omega

theorem check_ok (b off len cap : Nat) (z : Nat → Int) (i : Int) (w : World) (hr : Row8 w b off len z) (hn : len ≤ 1492) (hi0 : 0 ≤ i) (hi : i ≤ len - 2) :
    Calls Try.prog 47 #[.slice (some ⟨b, off, none⟩) len cap, .int .i64 i] w fun e w' => e = .returned (.tuple #[.int .i64 (chkX z i.toNat len), .int .i64 (chkY z i.toNat len)]) ∧ w = w' := by
  obtain ⟨s, rfl⟩ := Int.eq_ofNat_of_zero_le hi0
  rw [Int.toNat_natCast]
  have HW := Lib.hid (weigh_ok b off len cap z s w hr hn hi0 hi)
  rw [Int.toNat_natCast] at HW
  have hA := sumA_bd z s len hr.2.2
  have hB := sumB_bd z s len len hr.2.2 hn (Nat.le_refl _)
  have hX := (chk_bd z s len).2.2.2.2
  have heX : Hid (chkX z s len = cbI (sumA z s len * ((len : Int) - s - 1) - sumB z s len len)) := Lib.hid rfl
  have heY : Hid (chkY z s len = yOf (sumA z s len) (chkX z s len)) := Lib.hid (by rw [← yOf_chk]; rfl)
  generalize chkX z s len = X at *
  generalize chkY z s len = Y at *
  generalize sumA z s len = A at *
  generalize sumB z s len len = B at *
  clear hr
  go_enter Try.func47, Try.ntmps47
  go_wp2_with (refine (HW.out).mono ?_; rintro e w' ⟨rfl, rfl⟩)
  go_loop [8] (fun t => ∃ k : Int, 1 ≤ k ∧ k ≤ X ∧ t = .int .i64 k) (fun t => (256 - intOf t).toNat)
  case atStart => exact ⟨1, by omega, by omega, rfl⟩
  case round =>
    obtain ⟨k, hk1, hkX, rfl⟩ := hrel
    have ht := try_iff A B k ((len : Int) - s - 1) hk1 (by omega)
    rw [← heX.out, show (len : Int) - s - 1 + 1 = len - s by omega] at ht
    have hy := yOf_bd A k
    have m1 := mul_bd k ((len : Int) - s) 255 1492 (by omega) (by omega) (by omega) (by omega)
    have m2 := mul_bd (yOf A k) ((len : Int) - s - 1) 255 1492 (by omega) (by omega) (by omega) (by omega)
    have HT := Lib.hid ht
    clear ht
    by_cases hkx : k = X
    · subst hkx
      have t1 : ((B + k * ((len : Int) - s) + yOf A k * ((len : Int) - s - 1)) % 255 == 0) = true := by simp only [beq_iff_eq]; exact HT.out.2 rfl
      unfold yOf at t1 hy m2
      go_wp2
      go_ret2
      exact ⟨by rw [heY.out]; rfl, rfl⟩
    · have t1 : ((B + k * ((len : Int) - s) + yOf A k * ((len : Int) - s - 1)) % 255 == 0) = false := by simp only [beq_eq_false_iff_ne]; exact fun h => hkx (HT.out.1 h)
      unfold yOf at t1 hy m2
      go_wp2
      go_round
      case rel => exact ⟨k + 1, by omega, by omega, rfl⟩
      case measure => simp [intOf]; omega

theorem docSum_ok (b off len cap : Nat) (z : Nat → Int) (i : Int) (w : World) (hr : Row8 w b off len z) (hn : len ≤ 1492) (hi0 : 0 ≤ i) (hi : i ≤ len - 2) :
    Calls Try.prog 26 #[.slice (some ⟨b, off, none⟩) len cap, .int .i64 i] w fun e w' => e = .returned (.tuple #[.int .u16 (chk z i.toNat len), .int .i64 0]) ∧ w = w' := by
  have HC := Lib.hid (check_ok b off len cap z i w hr hn hi0 hi)
  have hX := (chk_bd z i.toNat len).2.2.2.2
  have he : Hid (chk z i.toNat len = 256 * chkX z i.toNat len + chkY z i.toNat len) := Lib.hid (by unfold chk; omega)
  generalize chkX z i.toNat len = X at *
  generalize chkY z i.toNat len = Y at *
  generalize chk z i.toNat len = C at *
  have HP := Lib.hid (place_ok (some ⟨b, off, none⟩) len cap i w hn hi0 hi)
  clear hr
  go_enter Try.func26, Try.ntmps26
  go_wp2_with (first | (go_at_call 46; refine (HP.out).mono ?_; rintro e w' ⟨rfl, rfl⟩) | (go_at_call 47; refine (HC.out).mono ?_; rintro e w' ⟨rfl, rfl⟩))
  go_ret2
  exact ⟨ret2_eq (u16_eq he.out.symm) _, rfl⟩

theorem docSum_err (A : Option Addr) (len cap : Nat) (i : Int) (w : World) (v : Int) (hv : 1 ≤ v)
    (hp : Calls Try.prog 46 #[.slice A len cap, .int .i64 i] w fun e w' => e = .returned (.int .i64 v) ∧ w = w') :
    Calls Try.prog 26 #[.slice A len cap, .int .i64 i] w fun e w' => e = .returned (.tuple #[.int .u16 0, .int .i64 v]) ∧ w = w' := by
  have H := Lib.hid hp
  clear hp
  go_enter Try.func26, Try.ntmps26
  go_wp2_with fail
  refine (H.out).mono ?_
  rintro e w' ⟨rfl, rfl⟩
  go_wp2
  go_ret2
  exact ⟨rfl, rfl⟩
theorem docRight_err (A : Option Addr) (len cap : Nat) (i : Int) (w : World) (v : Int) (hv : 1 ≤ v)
    (hp : Calls Try.prog 46 #[.slice A len cap, .int .i64 i] w fun e w' => e = .returned (.int .i64 v) ∧ w = w') :
    Calls Try.prog 28 #[.slice A len cap, .int .i64 i] w fun e w' => e = .returned (.tuple #[.bool false, .int .i64 v]) ∧ w = w' := by
  have H := Lib.hid hp
  clear hp
  go_enter Try.func28, Try.ntmps28
  go_wp2_with fail
  refine (H.out).mono ?_
  rintro e w' ⟨rfl, rfl⟩
  go_wp2
  go_ret2
  exact ⟨rfl, rfl⟩

theorem docRight_ok (b off len cap : Nat) (z : Nat → Int) (i : Int) (w : World) (hr : Row8 w b off len z) (hn : len ≤ 1492) (hi0 : 0 ≤ i) (hi : i ≤ len - 2) :
    Calls Try.prog 28 #[.slice (some ⟨b, off, none⟩) len cap, .int .i64 i] w fun e w' => e = .returned (.tuple #[.bool (rightB z i.toNat len), .int .i64 0]) ∧ w = w' := by
  obtain ⟨s, rfl⟩ := Int.eq_ofNat_of_zero_le hi0
  rw [Int.toNat_natCast]
  have HC := Lib.hid (check_ok b off len cap z s w hr hn hi0 hi)
  rw [Int.toNat_natCast] at HC
  have HP := Lib.hid (place_ok (some ⟨b, off, none⟩) len cap s w hn hi0 hi)
  have c0 := hr.2.1 s (by omega)
  have c1 := hr.2.1 (s + 1) (by omega)
  have hX := (chk_bd z s len).2.2.2.2
  have z0 := hr.2.2 s
  have z1 := hr.2.2 (s + 1)
  have hR : Hid (rightB z s len = (z s == chkX z s len && z (s + 1) == chkY z s len)) := Lib.hid rfl
  generalize chkX z s len = X at *
  generalize chkY z s len = Y at *
  generalize rightB z s len = R at *
  generalize z s = P at *
  generalize z (s + 1) = Q at *
  clear hr
  by_cases h1 : P = X
  · by_cases h2 : Q = Y
    · have h1' : (P == X) = true := by simp [h1]
      have h2' : (Q == Y) = true := by simp [h2]
      clear h1 h2
      go_enter Try.func28, Try.ntmps28
      go_wp2_with (first | (go_at_call 46; refine (HP.out).mono ?_; rintro e w' ⟨rfl, rfl⟩) | (go_at_call 47; refine (HC.out).mono ?_; rintro e w' ⟨rfl, rfl⟩))
      go_ret2
      exact ⟨ret2_eq (by rw [hR.out, h1', h2']; rfl) _, rfl⟩
    · have h1' : (P == X) = true := by simp [h1]
      have h2' : (Q == Y) = false := by simp [h2]
      clear h1 h2
      go_enter Try.func28, Try.ntmps28
      go_wp2_with (first | (go_at_call 46; refine (HP.out).mono ?_; rintro e w' ⟨rfl, rfl⟩) | (go_at_call 47; refine (HC.out).mono ?_; rintro e w' ⟨rfl, rfl⟩))
      go_ret2
      exact ⟨ret2_eq (by rw [hR.out, h1', h2']; rfl) _, rfl⟩
  · have h1' : (P == X) = false := by simp [h1]
    clear h1 c1
    go_enter Try.func28, Try.ntmps28
    go_wp2_with (first | (go_at_call 46; refine (HP.out).mono ?_; rintro e w' ⟨rfl, rfl⟩) | (go_at_call 47; refine (HC.out).mono ?_; rintro e w' ⟨rfl, rfl⟩))
    go_ret2
    exact ⟨ret2_eq (by rw [hR.out, h1']; rfl) _, rfl⟩
end Go.Proofs.Ytbafeffmcfldoaa
