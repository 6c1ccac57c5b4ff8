/- The walk of OctetSums: for every input the law returns true, and nothing that was there is written. No condition. -/
import Derived.Test.YtbafeffmcfldoaaAwake
import Derived.Test.YtbafeffmcfldoaaLaid
import Derived.Test.YtbafeffmcfldoaaRefSum
import Derived.Test.YtbafeffmcfldoaaSpare
import Derived.Deep.Cut
namespace Go.Proofs.Ytbafeffmcfldoaa
open Go.RowKit
set_option linter.unusedVariables false

theorem rd_drewN {w : World} {A : Option Addr} {n : Nat} {z : Nat → Int} (h : Rd w A n z) (m : Nat) : Rd (w.drewN m) A n z := h
theorem bdrewN {a w : World} {B : Nat} (h : Below B a w) (m : Nat) : Below B a (w.drewN m) := h.trans ⟨rfl, rfl, rfl, Nat.le_refl _, fun _ _ => rfl⟩

set_option maxHeartbeats 2000000 in
theorem sums_err (A : Option Addr) (n c : Nat) (z : Nat → Int) (i v : Int) (w : World) (hr : Rd w A n z) (hA : A = none → n = 0 ∧ c = 0) (hn : n ≤ 140737488351232) (hv : 1 ≤ v)
    (hS : ∀ A c W, Calls Try.prog 25 #[.slice A n c, .int .i64 i] W fun e w' => e = .returned (.tuple #[.int .u16 0, .int .i64 v]) ∧ W = w')
    (hD : ∀ A c W, Calls Try.prog 26 #[.slice A n c, .int .i64 i] W fun e w' => e = .returned (.tuple #[.int .u16 0, .int .i64 v]) ∧ W = w')
    (hR : ∀ A c W, Calls Try.prog 27 #[.slice A n c, .int .i64 i] W fun e w' => e = .returned (.tuple #[.bool false, .int .i64 v]) ∧ W = w')
    (hE : ∀ A c W, Calls Try.prog 28 #[.slice A n c, .int .i64 i] W fun e w' => e = .returned (.tuple #[.bool false, .int .i64 v]) ∧ W = w') :
    Calls Try.prog 5 #[.slice A n c, .int .i64 i] w fun e w' => e = .returned (.bool true) ∧ Below w.heap.size w w' := by
  have HS := Lib.hid hS
  have HD := Lib.hid hD
  have HR := Lib.hid hR
  have HE := Lib.hid hE
  have HA := Lib.hid hA
  have HRd := Lib.hid hr
  have hv0 : (v != 0) = true := by simp; omega
  clear hS hD hR hE hA hr
  go_enter Try.func5, Try.ntmps5
  go_wp2_with fail
  refine (awake_any _).mono ?_
  rintro e w1 ⟨rfl, hb1⟩
  go_wp2_with fail
  refine (spare_any _ _ _ z _ (HRd.out.below hb1 rfl) HA.out hn).mono ?_
  rintro e w2 ⟨g, cap, rfl, hg, ho, hb2⟩
  go_wp2_with fail
  refine (HS.out _ _ _).mono ?_
  rintro e w' ⟨rfl, rfl⟩
  go_wp2_with fail
  refine (HD.out _ _ _).mono ?_
  rintro e w' ⟨rfl, rfl⟩
  go_wp2_with fail
  refine (HR.out _ _ _).mono ?_
  rintro e w' ⟨rfl, rfl⟩
  go_wp2_with fail
  refine (HE.out _ _ _).mono ?_
  rintro e w' ⟨rfl, rfl⟩
  go_wp2_with fail
  refine (kept_yes g n cap _ _ z _ ho ((HRd.out.below hb1 rfl).below hb2 rfl) hn).mono ?_
  rintro e w' ⟨rfl, m, rfl⟩
  go_wp2
  go_ret
  exact ⟨rfl, bdrewN (bnext hb1 hb2) m⟩

set_option maxHeartbeats 4000000 in
theorem sums_ok (b off n c : Nat) (z : Nat → Int) (s : Nat) (w : World) (hr : Row8 w b off n z) (hn : n ≤ 1492) (hs : s + 2 ≤ n) :
    Calls Try.prog 5 #[.slice (some ⟨b, off, none⟩) n c, .int .i64 s] w fun e w' => e = .returned (.bool true) ∧ Below w.heap.size w w' := by
  have hcb := chk_bd z s n
  have hR1 := right_laid z s n
  have hC1 := chk_laid z s n
  have hzz := hr.2.2
  have HRd := Lib.hid (show Rd w (some ⟨b, off, none⟩) n z from ⟨.inr ⟨b, off, rfl, hr⟩, hzz⟩)
  go_enter Try.func5, Try.ntmps5
  go_wp2_with fail
  refine (awake_any _).mono ?_
  rintro e w1 ⟨rfl, hb1⟩
  go_wp2_with fail
  refine (spare_any _ _ _ z _ (HRd.out.below hb1 rfl) (fun e => by cases e) (by omega)).mono ?_
  rintro e w2 ⟨g, cap, rfl, hg, ho, hb2⟩
  have hr1 := hr.below hb1 hr.1
  have hr2 := hr1.below hb2 hr1.1
  have hq := ho.row
  have hq2 : Row8 w2 g 0 n (spZ z n) := ⟨hq.1, fun j hj => hq.2.1 j (by omega), hq.2.2⟩
  have hq3 : Row8 w2 g 0 n z := ⟨hq.1, fun j hj => by rw [hq.2.1 j (by omega), spZ_in z n j hj], hzz⟩
  clear hq hq2
  go_wp2_with fail
  refine (sum_ok g 0 n cap z s _ hzz hn hq3.2.1 (by omega) (by omega)).mono ?_
  rintro e w' ⟨rfl, rfl⟩
  rw [Int.toNat_natCast]
  go_wp2_with fail
  refine (docSum_ok b off n c z s _ hr2 hn (by omega) (by omega)).mono ?_
  rintro e w' ⟨rfl, rfl⟩
  rw [Int.toNat_natCast]
  go_wp2_with fail
  refine (right_ok g 0 n cap z s _ hq3 hn (by omega) (by omega)).mono ?_
  rintro e w' ⟨rfl, rfl⟩
  rw [Int.toNat_natCast]
  go_wp2_with fail
  refine (docRight_ok b off n c z s _ hr2 hn (by omega) (by omega)).mono ?_
  rintro e w' ⟨rfl, rfl⟩
  rw [Int.toNat_natCast]
  go_wp2_with fail
  refine (kept_yes g n cap _ _ z _ ho ((HRd.out.below hb1 rfl).below hb2 rfl) (by omega)).mono ?_
  rintro e w' ⟨rfl, m, rfl⟩
  go_wp2_with fail
  refine (twin_any _ n c z _ (rd_drewN ((HRd.out.below hb1 rfl).below hb2 rfl) m) (fun e => by cases e) (by omega)).mono ?_
  rintro e w3 ⟨g3, cap3, rfl, hg3, ho3, hb3⟩
  have cs := ho3.at_ s (by omega)
  have cs1 := ho3.at_ (s + 1) (by omega)
  have fs := ho3.free s
  have fs1 := ho3.free (s + 1)
  go_upto_region 14 with (fail)
  obtain ⟨W2, hW, ho4, hb4⟩ := laid_ex ho3 hs hb3 hg3
  rw [hW]
  clear hW cs cs1 fs fs1
  go_wp2_with fail
  refine (right_ok g3 0 n cap3 _ _ _ ho4.row hn (by omega) (by omega)).mono ?_
  rintro e w' ⟨rfl, rfl⟩
  rw [Int.toNat_natCast, hR1]
  go_wp2_with fail
  refine (sum_ok g3 0 n cap3 _ _ _ ho4.2 hn ho4.row.2.1 (by omega) (by omega)).mono ?_
  rintro e w' ⟨rfl, rfl⟩
  rw [Int.toNat_natCast, hC1]
  go_wp2
  go_ret
  exact ⟨rfl, bnext (bdrewN (bnext hb1 hb2) m) hb4⟩

theorem walkOctetSums (a0 : Option Addr) (len0 cap0 : Nat) (z0 : List Int) (a1 : Int) (w : World) (w0 : IsRow .u8 w a0 len0 cap0 z0) (s0 : cap0 * 1 ≤ 140737488351232) (w1 : (Lit.int .i64 a1).wf = true) :
    Calls Try.prog 5 #[.slice a0 len0 cap0, .int .i64 a1] w fun e w' => e = .returned (.bool true) ∧ Below w.heap.size w w' := by
  obtain ⟨hlc, hm⟩ := isRow_len w0
  obtain ⟨hrd, hA⟩ := isRow_rd w0
  by_cases h1 : a1 < 0
  · exact sums_err a0 len0 cap0 _ a1 1 w hrd hA (by omega) (by omega)
      (fun A c W => sum_err A len0 c a1 W 1 (by omega) (checkPlace_arg A len0 c a1 W h1)) (fun A c W => docSum_err A len0 c a1 W 1 (by omega) (place_arg A len0 c a1 W h1))
      (fun A c W => right_err A len0 c a1 W 1 (by omega) (checkPlace_arg A len0 c a1 W h1)) (fun A c W => docRight_err A len0 c a1 W 1 (by omega) (place_arg A len0 c a1 W h1))
  · by_cases h2 : 1492 < len0
    · exact sums_err a0 len0 cap0 _ a1 2 w hrd hA (by omega) (by omega)
        (fun A c W => sum_err A len0 c a1 W 2 (by omega) (checkPlace_long A len0 c a1 W (by omega) h2)) (fun A c W => docSum_err A len0 c a1 W 2 (by omega) (place_long A len0 c a1 W (by omega) h2))
        (fun A c W => right_err A len0 c a1 W 2 (by omega) (checkPlace_long A len0 c a1 W (by omega) h2)) (fun A c W => docRight_err A len0 c a1 W 2 (by omega) (place_long A len0 c a1 W (by omega) h2))
    · by_cases h3 : len0 - 2 < a1
      · exact sums_err a0 len0 cap0 _ a1 3 w hrd hA (by omega) (by omega)
          (fun A c W => sum_err A len0 c a1 W 3 (by omega) (checkPlace_form A len0 c a1 W (by omega) (by omega) h3)) (fun A c W => docSum_err A len0 c a1 W 3 (by omega) (place_form A len0 c a1 W (by omega) (by omega) h3))
          (fun A c W => right_err A len0 c a1 W 3 (by omega) (checkPlace_form A len0 c a1 W (by omega) (by omega) h3)) (fun A c W => docRight_err A len0 c a1 W 3 (by omega) (place_form A len0 c a1 W (by omega) (by omega) h3))
      · obtain ⟨s, rfl⟩ := Int.eq_ofNat_of_zero_le (show 0 ≤ a1 by omega)
        obtain ⟨b, off, rfl, _, _, hr⟩ := isRow_open w0 (by omega)
        exact sums_ok b off len0 cap0 _ s w hr (by omega) (by omega)
end Go.Proofs.Ytbafeffmcfldoaa
