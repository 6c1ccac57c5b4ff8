/- octet.Right tells whether the bytes have their check bytes; their errors are those of the place. Each theorem states its conditions. -/
import Derived.Test.YtigkmcbkckfhbaaSum
import Derived.Test.YtigkmcbkckfhbaaMem
namespace Go.Proofs.Ytigkmcbkckfhbaa
open Go.RowKit
set_option linter.unusedVariables false

theorem sum_err (A : Option Addr) (len cap : Nat) (i : Int) (w : World) (v : Int) (hv : 1 ≤ v)
    (hp : Calls Try.prog 73 #[.slice A len cap, .int .i64 i] w fun e w' => e = .returned (.int .i64 v) ∧ w = w') :
    Calls Try.prog 59 #[.slice A len cap, .int .i64 i] w fun e w' => e = .returned (.tuple #[.int .u16 0, .int .i64 v]) ∧ w = w' := by
  have H := Lib.hid hp
  clear hp
  go_enter Try.func59, Try.ntmps59
  go_wp2_with fail
  refine (H.out).mono ?_
  rintro e w' ⟨rfl, rfl⟩
  go_wp2
  go_ret2
  exact ⟨rfl, rfl⟩

theorem right_err (A : Option Addr) (len cap : Nat) (i : Int) (w : World) (v : Int) (hv : 1 ≤ v)
    (hp : Calls Try.prog 73 #[.slice A len cap, .int .i64 i] w fun e w' => e = .returned (.int .i64 v) ∧ w = w') :
    Calls Try.prog 69 #[.slice A len cap, .int .i64 i] w fun e w' => e = .returned (.tuple #[.bool false, .int .i64 v]) ∧ w = w' := by
  have H := Lib.hid (sum_err A len cap i w v hv hp)
  clear hp
  go_enter Try.func69, Try.ntmps69
  go_wp2_with fail
  refine (H.out).mono ?_
  rintro e w' ⟨rfl, rfl⟩
  go_wp2
  go_ret2
  exact ⟨rfl, rfl⟩

/-- are the check bytes there? -/
def rightB (z : Nat → Int) (s n : Nat) : Bool := z s == chkX z s n && z (s + 1) == chkY z s n
theorem chk_bd (z : Nat → Int) (s n : Nat) : 0 ≤ chk z s n ∧ chk z s n ≤ 65535 ∧ chk z s n / 256 = chkX z s n ∧ chk z s n % 256 = chkY z s n ∧ 1 ≤ chkX z s n ∧ chkX z s n ≤ 255 ∧ 1 ≤ chkY z s n ∧ chkY z s n ≤ 255 := by
  have h1 : 1 ≤ chkX z s n ∧ chkX z s n ≤ 255 := by unfold chkX; exact cbI_bd _
  have h2 : 1 ≤ chkY z s n ∧ chkY z s n ≤ 255 := by unfold chkY; exact cbI_bd _
  unfold chk
  omega

theorem right_ok (b off len cap : Nat) (z : Nat → Int) (i : Int) (w : World) (hr : Row8 w b off len z) (hn : len ≤ 1492) (hi0 : 0 ≤ i) (hi : i ≤ len - 2) :
    Calls Try.prog 69 #[.slice (some ⟨b, off, none⟩) len cap, .int .i64 i] w fun e w' => e = .returned (.tuple #[.bool (rightB z i.toNat len), .int .i64 0]) ∧ w = w' := by
  obtain ⟨s, rfl⟩ := Int.eq_ofNat_of_zero_le hi0
  rw [Int.toNat_natCast]
  have hsum := sum_ok b off len cap z s w hr.2.2 hn hr.2.1 hi0 hi
  rw [Int.toNat_natCast] at hsum
  have H := Lib.hid hsum
  have c0 := hr.2.1 s (by omega)
  have c1 := hr.2.1 (s + 1) (by omega)
  have hb := chk_bd z s len
  clear hsum hr
  by_cases h1 : z s = chkX z s len
  · by_cases h2 : z (s + 1) = chkY z s len
    · have hres := Lib.hid (show rightB z s len = true by simp [rightB, h1, h2])
      have h1' : (z s == chkX z s len) = true := by simp [h1]
      have h2' : (z (s + 1) == chkY z s len) = true := by simp [h2]
      clear h1 h2
      go_enter Try.func69, Try.ntmps69
      go_wp2_with (refine (H.out).mono ?_; rintro e w' ⟨rfl, rfl⟩)
      go_ret2
      exact ⟨ret2_eq (by rw [hres.out]; rfl) _, rfl⟩
    · have hres := Lib.hid (show rightB z s len = false by simp [rightB, h1, h2])
      have h1' : (z s == chkX z s len) = true := by simp [h1]
      have h2' : (z (s + 1) == chkY z s len) = false := by simp [h2]
      clear h1 h2
      go_enter Try.func69, Try.ntmps69
      go_wp2_with (refine (H.out).mono ?_; rintro e w' ⟨rfl, rfl⟩)
      go_ret2
      exact ⟨ret2_eq (by rw [hres.out]; rfl) _, rfl⟩
  · have hres := Lib.hid (show rightB z s len = false by simp [rightB, h1])
    have h1' : (z s == chkX z s len) = false := by simp [h1]
    clear h1 c1
    go_enter Try.func69, Try.ntmps69
    go_wp2_with (refine (H.out).mono ?_; rintro e w' ⟨rfl, rfl⟩)
    go_ret2
    exact ⟨ret2_eq (by rw [hres.out]; rfl) _, rfl⟩
end Go.Proofs.Ytigkmcbkckfhbaa
