/- The walk of OctetNumbers: for every input the law returns true, and nothing that was there is written. No condition. -/
import Derived.Test.YtbafeffmcfldoaaAwake
import Derived.Test.YtbafeffmcfldoaaPut
import Derived.Test.YtbafeffmcfldoaaSpare
namespace Go.Proofs.Ytbafeffmcfldoaa
open Go.RowKit
set_option linter.unusedVariables false

theorem rd_nil (w : World) : Rd w none 0 (fun _ => 0) := ⟨.inl rfl, fun _ => ⟨Int.le_refl 0, show (0 : Int) ≤ 255 by decide⟩⟩
theorem own8_drewN {w : World} {g n cap : Nat} {z : Nat → Int} (h : Own8 w g n cap z) (m : Nat) : Own8 (w.drewN m) g n cap z := h
theorem rd_drewN' {w : World} {A : Option Addr} {n : Nat} {z : Nat → Int} (h : Rd w A n z) (m : Nat) : Rd (w.drewN m) A n z := h
theorem bdrewN' {a w : World} {B : Nat} (h : Below B a w) (m : Nat) : Below B a (w.drewN m) := h.trans ⟨rfl, rfl, rfl, Nat.le_refl _, fun _ _ => rfl⟩

set_option maxHeartbeats 4000000 in
theorem numbers_err (A : Option Addr) (n c : Nat) (z : Nat → Int) (i k N v a f : Int) (w : World) (hr : Rd w A n z) (hA : A = none → n = 0 ∧ c = 0) (hn : n ≤ 140737488351232) (hv : 1 ≤ v)
    (h1 : ∀ g cap W, Own8 W g (n + 3) cap (spZ z n) → Calls Try.prog 17 #[.slice (some ⟨g, 0, none⟩) n cap, .int .i64 i, .int .i64 k] W fun e w' => e = .returned (.tuple #[.int .u64 a, .int .i64 f]) ∧ W = w')
    (h2 : ∀ W, Rd W A n z → Calls Try.prog 18 #[.slice A n c, .int .i64 i, .int .i64 k] W fun e w' => e = .returned (.tuple #[.int .u64 a, .int .i64 f]) ∧ W = w')
    (h3 : ∀ W, Calls Try.prog 19 #[.int .u64 N, .int .i64 k] W fun e w' => e = .returned (.tuple #[.slice none 0 0, .int .i64 v]) ∧ Below W.heap.size W w')
    (h4 : ∀ W, Calls Try.prog 20 #[.int .u64 N, .int .i64 k] W fun e w' => e = .returned (.tuple #[.slice none 0 0, .int .i64 v]) ∧ Below W.heap.size W w') :
    Calls Try.prog 3 #[.slice A n c, .int .i64 i, .int .i64 k, .int .u64 N] w fun e w' => e = .returned (.bool true) ∧ Below w.heap.size w w' := by
  have H1 := Lib.hid h1
  have H2 := Lib.hid h2
  have H3 := Lib.hid h3
  have H4 := Lib.hid h4
  have HA := Lib.hid hA
  have HR := Lib.hid hr
  have hv0 : (v != 0) = true := by simp; omega
  clear h1 h2 h3 h4 hA hr
  go_enter Try.func3, Try.ntmps3
  go_wp2_with fail
  refine (awake_any _).mono ?_
  rintro e w1 ⟨rfl, hb1⟩
  have r1 := Lib.hid (HR.out.below hb1 rfl)
  go_wp2_with fail
  refine (spare_any _ _ _ z _ r1.out HA.out hn).mono ?_
  rintro e w2 ⟨g, cap, rfl, hg, ho, hb2⟩
  have r2 := Lib.hid (r1.out.below hb2 rfl)
  go_wp2_with fail
  refine (H1.out g cap _ ho).mono ?_
  rintro e w' ⟨rfl, rfl⟩
  go_wp2_with fail
  refine (H2.out _ r2.out).mono ?_
  rintro e w' ⟨rfl, rfl⟩
  go_wp2_with fail
  refine (H3.out _).mono ?_
  rintro e w3 ⟨rfl, hb3⟩
  have r3 := Lib.hid (r2.out.below hb3 rfl)
  have o3 := ho.below hb3 ho.lt
  go_wp2_with fail
  refine (H4.out _).mono ?_
  rintro e w4 ⟨rfl, hb4⟩
  have r4 := Lib.hid (r3.out.below hb4 rfl)
  have o4 := o3.below hb4 o3.lt
  go_wp2_with fail
  refine (same_yes none none 0 0 0 _ _ _ (rd_nil _) (rd_nil _) (fun j hj => by omega) (by omega)).mono ?_
  rintro e w' ⟨rfl, m, rfl⟩
  go_wp2_with fail
  refine (kept_yes g n cap _ _ z _ (own8_drewN o4 m) (rd_drewN' r4.out m) hn).mono ?_
  rintro e w' ⟨rfl, m2, rfl⟩
  go_wp2
  go_ret
  exact ⟨rfl, bdrewN' (bnext (bnext (bnext hb1 hb2) hb3) hb4) (m + m2)⟩

set_option maxHeartbeats 4000000 in
theorem numbers_ok (A : Option Addr) (n c : Nat) (z : Nat → Int) (i a f : Int) (N k : Nat) (w : World) (hr : Rd w A n z) (hA : A = none → n = 0 ∧ c = 0) (hn : n ≤ 140737488351232)
    (hk1 : 1 ≤ k) (hk8 : k ≤ 8) (hN : N ≤ 18446744073709551615) (hq : qN N k = 0)
    (h1 : ∀ g cap W, Own8 W g (n + 3) cap (spZ z n) → Calls Try.prog 17 #[.slice (some ⟨g, 0, none⟩) n cap, .int .i64 i, .int .i64 k] W fun e w' => e = .returned (.tuple #[.int .u64 a, .int .i64 f]) ∧ W = w')
    (h2 : ∀ W, Rd W A n z → Calls Try.prog 18 #[.slice A n c, .int .i64 i, .int .i64 k] W fun e w' => e = .returned (.tuple #[.int .u64 a, .int .i64 f]) ∧ W = w') :
    Calls Try.prog 3 #[.slice A n c, .int .i64 i, .int .i64 k, .int .u64 N] w fun e w' => e = .returned (.bool true) ∧ Below w.heap.size w w' := by
  have H1 := Lib.hid h1
  have H2 := Lib.hid h2
  have HA := Lib.hid hA
  have HR := Lib.hid hr
  have H3 := Lib.hid fun W => put_any N k W hN hk1 hk8
  have H4 := Lib.hid fun W => docPut_any N k W hN hk1 hk8
  have hb0 := Lib.hid (show numZ (putZ N k) 0 k = (N : Int) by rw [num_put, put_fits N k hq])
  have HQ := Lib.hid hq
  clear h1 h2 hA hr hq
  go_enter Try.func3, Try.ntmps3
  go_wp2_with fail
  refine (awake_any _).mono ?_
  rintro e w1 ⟨rfl, hb1⟩
  have r1 := Lib.hid (HR.out.below hb1 rfl)
  go_wp2_with fail
  refine (spare_any _ _ _ z _ r1.out HA.out hn).mono ?_
  rintro e w2 ⟨g, cap, rfl, hg, ho, hb2⟩
  have r2 := Lib.hid (r1.out.below hb2 rfl)
  go_wp2_with fail
  refine (H1.out g cap _ ho).mono ?_
  rintro e w' ⟨rfl, rfl⟩
  go_wp2_with fail
  refine (H2.out _ r2.out).mono ?_
  rintro e w' ⟨rfl, rfl⟩
  go_wp2_with fail
  refine (H3.out _).mono ?_
  rintro e w3 ⟨hp, hb3⟩
  rw [if_pos HQ.out] at hp
  obtain ⟨g3, rfl, hg3, p3⟩ := hp
  have r3 := Lib.hid (r2.out.below hb3 rfl)
  have o3 := ho.below hb3 ho.lt
  go_wp2_with fail
  refine (H4.out _).mono ?_
  rintro e w4 ⟨hp, hb4⟩
  rw [if_pos HQ.out] at hp
  obtain ⟨g4, rfl, hg4, p4⟩ := hp
  have r4 := Lib.hid (r3.out.below hb4 rfl)
  have o4 := o3.below hb4 o3.lt
  have q4 := p3.below hb4 p3.lt
  go_wp2_with fail
  refine (same_yes _ _ k k k _ _ _ q4.rd p4.rd (fun j hj => rfl) (by omega)).mono ?_
  rintro e w' ⟨rfl, m, rfl⟩
  go_wp2_with fail
  refine (kept_yes g n cap _ _ z _ (own8_drewN o4 m) (rd_drewN' r4.out m) hn).mono ?_
  rintro e w' ⟨rfl, m2, rfl⟩
  go_wp2_with fail
  refine (num_ok g3 0 k k (putZ N k) 0 k (w4.drewN (m + m2)) p3.2 (by simp only [maxLen]; omega) (Nat.le_refl _) q4.row.2.1 (by omega) (by omega) (by omega) (by omega)).mono ?_
  rintro e w' ⟨rfl, rfl⟩
  rw [Int.toNat_natCast, show (0 : Int).toNat = 0 from rfl, hb0.out]
  go_wp2
  go_ret
  exact ⟨rfl, bdrewN' (bnext (bnext (bnext hb1 hb2) hb3) hb4) (m + m2)⟩

theorem walkOctetNumbers (a0 : Option Addr) (len0 cap0 : Nat) (z0 : List Int) (a1 a2 a3 : Int) (w : World) (w0 : IsRow .u8 w a0 len0 cap0 z0) (s0 : cap0 * 1 ≤ 140737488351232) (w1 : (Lit.int .i64 a1).wf = true) (w2 : (Lit.int .i64 a2).wf = true) (w3 : (Lit.int .u64 a3).wf = true) :
    Calls Try.prog 3 #[.slice a0 len0 cap0, .int .i64 a1, .int .i64 a2, .int .u64 a3] w fun e w' => e = .returned (.bool true) ∧ Below w.heap.size w w' := by
  obtain ⟨hlc, hm⟩ := isRow_len w0
  obtain ⟨hrd, hA⟩ := isRow_rd w0
  have h3 := wf_u64 w3
  obtain ⟨N, rfl⟩ := Int.eq_ofNat_of_zero_le h3.1
  by_cases hk : a2 < 1 ∨ 8 < a2
  · exact numbers_err a0 len0 cap0 _ a1 a2 N 1 0 1 w hrd hA (by omega) (by omega)
      (fun g cap W _ => num_arg _ len0 cap a1 a2 W (by omega)) (fun W _ => docNum_arg _ len0 cap0 a1 a2 W (by omega))
      (fun W => (put_arg N a2 W hk).mono fun e w' h => ⟨h.1, by rw [← h.2]; exact bself W⟩) (fun W => (docPut_arg N a2 W hk).mono fun e w' h => ⟨h.1, by rw [← h.2]; exact bself W⟩)
  · obtain ⟨k, rfl⟩ := Int.eq_ofNat_of_zero_le (show 0 ≤ a2 by omega)
    have both : ∃ a f, (∀ g cap W, Own8 W g (len0 + 3) cap (spZ (fun j => z0.getD j 0) len0) → Calls Try.prog 17 #[.slice (some ⟨g, 0, none⟩) len0 cap, .int .i64 a1, .int .i64 k] W fun e w' => e = .returned (.tuple #[.int .u64 a, .int .i64 f]) ∧ W = w') ∧
        (∀ W, Rd W a0 len0 (fun j => z0.getD j 0) → Calls Try.prog 18 #[.slice a0 len0 cap0, .int .i64 a1, .int .i64 k] W fun e w' => e = .returned (.tuple #[.int .u64 a, .int .i64 f]) ∧ W = w') := by
      by_cases h1 : a1 < 0
      · exact ⟨0, 1, fun g cap W _ => num_arg _ len0 cap a1 k W (by omega), fun W _ => docNum_arg _ len0 cap0 a1 k W (by omega)⟩
      · by_cases h2 : (len0 : Int) - k < a1
        · exact ⟨0, 3, fun g cap W _ => num_form _ len0 cap a1 k W (by omega) (by omega) (by omega) h2 (by omega), fun W _ => docNum_form _ len0 cap0 a1 k W (by omega) (by omega) (by omega) h2 (by omega)⟩
        · obtain ⟨s, rfl⟩ := Int.eq_ofNat_of_zero_le (show 0 ≤ a1 by omega)
          refine ⟨numZ (fun j => z0.getD j 0) s k, 0, fun g cap W ho => ?_, fun W hW => ?_⟩
          · have hq := ho.row
            have hq3 : Row8 W g 0 len0 (fun j => z0.getD j 0) := ⟨hq.1, fun j hj => by rw [hq.2.1 j (by omega), spZ_in _ len0 j hj], hrd.2⟩
            have h := num_ok g 0 len0 cap (fun j => z0.getD j 0) s k W hrd.2 ho.caps.2 (by have := ho.caps.1; omega) hq3.2.1 (by omega) (by omega) (by omega) (by omega)
            simpa using h
          · obtain ⟨b, off, rfl, hr⟩ := hW.row (by omega)
            exact docNum_ok b off len0 cap0 _ s k W hr (by omega) hlc hm (by omega) (by omega) (by omega)
    obtain ⟨a, f, g1, g2⟩ := both
    by_cases hq : qN N k = 0
    · exact numbers_ok a0 len0 cap0 _ a1 a f N k w hrd hA (by omega) (by omega) (by omega) (by omega) hq g1 g2
    · refine numbers_err a0 len0 cap0 _ a1 k N 4 a f w hrd hA (by omega) (by omega) g1 g2 (fun W => (put_any N k W (by omega) (by omega) (by omega)).mono fun e w' h => ?_) (fun W => (docPut_any N k W (by omega) (by omega) (by omega)).mono fun e w' h => ?_)
      · unfold PutPost at h
        rwa [if_neg hq] at h
      · unfold PutPost at h
        rwa [if_neg hq] at h
end Go.Proofs.Ytbafeffmcfldoaa
