/- octet.Num answers the number of the bytes, where the place and the count lie within. Each theorem states its conditions. -/
import Derived.Test.YtigkmcbkckfhbaaRows
import Derived.Test.YtigkmcbkckfhbaaPlain
import Derived.WalkKit
import Derived.WalkLawsBesides
import Derived.WalkSpells
import Derived.IntWalk
import Derived.Outline
import Derived.Lib.Hide
namespace Go.Proofs.Ytigkmcbkckfhbaa
open Go.RowKit
set_option linter.unusedVariables false

theorem num_ok (b off len cap : Nat) (z : Nat → Int) (i k : Int) (w : World)
    (hz : ∀ j, 0 ≤ z j ∧ z j ≤ 255) (hm : cap ≤ maxLen) (hlc : len ≤ cap)
    (hc : ∀ j, j < len → w.cell? ⟨b, off + j, none⟩ = some (.int .u8 (z j)))
    (hk1 : 1 ≤ k) (hk8 : k ≤ 8) (hi0 : 0 ≤ i) (hik : i ≤ len - k) :
    Calls Try.prog 71 #[.slice (some ⟨b, off, none⟩) len cap, .int .i64 i, .int .i64 k] w fun e w' => e = .returned (.tuple #[.int .u64 (numZ z i.toNat k.toNat), .int .i64 0]) ∧ w = w' := by
  obtain ⟨n, rfl⟩ := Int.eq_ofNat_of_zero_le hi0
  obtain ⟨m, rfl⟩ := Int.eq_ofNat_of_zero_le (show 0 ≤ k by omega)
  unfold maxLen at hm
  go_enter Try.func71, Try.ntmps71
  go_wp2
  go_loop [8, 34] (fun v i => ∃ c : Nat, c ≤ m ∧ i = .int .i64 c ∧ v = .int .u64 (numZ z n c)) (fun _ i => m - (intOf i).toNat)
  case atStart => exact ⟨0, Nat.zero_le _, rfl, rfl⟩
  case round =>
    obtain ⟨c, hcm, rfl, rfl⟩ := hrel
    by_cases hlt : c < m
    · have hcell := hc (n + c) (by omega)
      rw [← Nat.add_assoc] at hcell
      have hb := hz (n + c)
      have hs := Lib.hid (numZ_step z n c (by omega) hz)
      go_wp2
      go_round
      case rel => exact ⟨c + 1, by omega, by go_num, by rw [hs.out]⟩
      case measure => simp [intOf]; omega
    · obtain rfl : c = m := by omega
      go_wp2
      go_ret2
      exact ⟨rfl, rfl⟩
end Go.Proofs.Ytigkmcbkckfhbaa
