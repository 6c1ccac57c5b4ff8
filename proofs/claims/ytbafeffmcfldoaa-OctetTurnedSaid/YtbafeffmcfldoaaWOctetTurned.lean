/- The walk of OctetTurned: for every input the law returns true, and nothing that was there is written. No condition. -/
import Derived.Test.YtbafeffmcfldoaaAwake
import Derived.Test.YtbafeffmcfldoaaLaid
import Derived.Deep.Cut
namespace Go.Proofs.Ytbafeffmcfldoaa
open Go.RowKit
set_option linter.unusedVariables false

theorem turned_short (a0 : Option Addr) (len0 cap0 : Nat) (z0 : List Int) (a1 a2 a3 : Int) (w : World) (w0 : IsRow .u8 w a0 len0 cap0 z0) (hl : len0 < 2) :
    Calls Try.prog 6 #[.slice a0 len0 cap0, .int .i64 a1, .int .u16 a2, .int .u8 a3] w fun e w' => e = .returned (.bool true) ∧ Below w.heap.size w w' := by
  obtain ⟨hlc, hm⟩ := isRow_len w0
  unfold maxLen at hm
  clear w0
  rcases a0 with _ | ad
  all_goals
    go_enter Try.func6, Try.ntmps6
    go_wp2_with (go_at_call 15; refine (awake_any _).mono ?_; rintro e w' ⟨rfl, hb⟩)
    go_ret
    exact ⟨rfl, hb⟩

theorem turned_at (a1 : Int) (n : Nat) (hn : 2 ≤ n) (hn' : n ≤ 300) : ∃ s : Nat, wrap64 ((IntKind.u64.wrap a1).tmod ((n : Int) - 1)) = s ∧ s + 2 ≤ n := by
  have h0 : 0 ≤ IntKind.u64.wrap a1 := wrap_u64_nonneg a1
  have e : (IntKind.u64.wrap a1).tmod ((n : Int) - 1) = IntKind.u64.wrap a1 % ((n : Int) - 1) := Int.tmod_eq_emod_of_nonneg h0
  have h1 := Int.emod_nonneg (IntKind.u64.wrap a1) (show ((n : Int) - 1) ≠ 0 by omega)
  have h2 := Int.emod_lt_of_pos (IntKind.u64.wrap a1) (show 0 < ((n : Int) - 1) by omega)
  refine ⟨(IntKind.u64.wrap a1 % ((n : Int) - 1)).toNat, ?_, by omega⟩
  rw [e]
  generalize IntKind.u64.wrap a1 % ((n : Int) - 1) = t at *
  unfold wrap64
  omega

theorem turned_i (a2 : Int) (n : Nat) (hn : 2 ≤ n) (h2 : 0 ≤ a2) : ∃ i : Nat, a2.tmod n = i ∧ a2 % n = i ∧ i < n := by
  have e : a2.tmod n = a2 % n := Int.tmod_eq_emod_of_nonneg h2
  have h1 := Int.emod_nonneg a2 (show (n : Int) ≠ 0 by omega)
  have h2 := Int.emod_lt_of_pos a2 (show 0 < (n : Int) by omega)
  exact ⟨(a2 % n).toNat, by omega, by omega, by omega⟩

set_option maxHeartbeats 2000000 in
theorem turned_long (b off len0 cap0 n : Nat) (z : Nat → Int) (a1 a2 a3 : Int) (w : World) (hr : Row8 w b off len0 z) (hlc : len0 ≤ cap0) (hm : cap0 ≤ maxLen) (hl : 2 ≤ len0)
    (h1 : -9223372036854775808 ≤ a1 ∧ a1 ≤ 9223372036854775807) (h2 : 0 ≤ a2 ∧ a2 ≤ 65535) (h3 : 0 ≤ a3 ∧ a3 ≤ 255) (hn : (len0 ≤ 300 ∧ n = len0) ∨ (300 < len0 ∧ n = 300)) :
    Calls Try.prog 6 #[.slice (some ⟨b, off, none⟩) len0 cap0, .int .i64 a1, .int .u16 a2, .int .u8 a3] w fun e w' => e = .returned (.bool true) ∧ Below w.heap.size w w' := by
  unfold maxLen at hm
  obtain ⟨s, hs, hsn⟩ := turned_at a1 n (by omega) (by omega)
  obtain ⟨i, hi1, hi2, hin⟩ := turned_i a2 n (by omega) (by omega)
  have hcb := chk_bd z s n
  have hzz := hr.2.2
  have hP : 0 ≤ laidZ z s n i ∧ laidZ z s n i ≤ 255 := by
    unfold laidZ; exact upd_bd (upd_bd hzz _ _ (by omega)) _ _ (by omega) i
  have hV := xor_bd _ _ hP h3
  have hyes := turned_yes z s n i (bits .xor .u8 (laidZ z s n i) a3)
  have hnot := turned_not z s n i (bits .xor .u8 (laidZ z s n i) a3) hin hzz hV
  obtain ⟨P, hPe⟩ : ∃ P, laidZ z s n i = P := ⟨_, rfl⟩
  rw [hPe] at hP hV hyes hnot
  obtain ⟨V, hVe⟩ : ∃ V, bits .xor .u8 P a3 = V := ⟨_, rfl⟩
  rw [hVe] at hV hyes hnot
  obtain ⟨R, hRe⟩ : ∃ R, rightB (upd (laidZ z s n) i V) s n = R := ⟨_, rfl⟩
  rw [hRe] at hyes hnot
  rcases hn with ⟨hn, rfl⟩ | ⟨hn, rfl⟩
  case' inr =>
    replace hs : wrap64 ((IntKind.u64.wrap a1).tmod 299) = (s : Int) := hs
    replace hi1 : a2.tmod 300 = (i : Int) := hi1
    replace hi2 : a2 % 300 = (i : Int) := hi2
  all_goals
    go_enter Try.func6, Try.ntmps6
    go_wp2_with fail
    refine (awake_any _).mono ?_
    rintro e w' ⟨rfl, hb⟩
    have hr' := hr.below hb hr.1
    go_wp2_with fail
    refine (twin_any _ _ _ z _ (Rd.cut ⟨.inr ⟨b, off, rfl, hr'⟩, hr'.2.2⟩ _ (by omega)) (by simp) (by omega)).mono ?_
    rintro e w1 ⟨g, cap, rfl, hg, ho, hb1⟩
    go_wp2_with fail
    refine (sum_ok g 0 _ _ z _ _ ho.2 (by omega) ho.row.2.1 (by omega) (by omega)).mono ?_
    rintro e w' ⟨rfl, rfl⟩
    rw [Int.toNat_natCast]
    have cs := ho.at_ s (by omega)
    have cs1 := ho.at_ (s + 1) (by omega)
    have fs := ho.free s
    have fs1 := ho.free (s + 1)
    go_upto_region 10 with (fail)
    obtain ⟨W2, hW, ho2, hb2⟩ := laid_ex ho hsn hb1 hg
    rw [hW]
    clear hW cs cs1 fs fs1
    have ci := ho2.at_ i hin
    have fi := ho2.free i
    go_upto_region 13 with (fail)
    obtain ⟨W3, hW, ho3, hb3⟩ := put_ex ho2 hin hV hb2 hg
    rw [hW]
    clear hW ci fi
    have ci := ho3.at_ i hin
    rw [upd_same] at ci
    go_wp2_with fail
    refine (right_ok g 0 _ _ _ _ _ ho3.row (by omega) (by omega) (by omega)).mono ?_
    rintro e w' ⟨rfl, rfl⟩
    rw [Int.toNat_natCast]
    clear ho3 ho2 ho hr hr' ci
    by_cases q1 : P = V
    · obtain rfl := hyes q1
      have t1 : (P == V) = true := by simp [q1]
      have t2 : (P != V) = false := by simp [q1]
      clear hPe hVe hnot hyes q1
      go_wp2
      go_ret
      exact ⟨rfl, hb.trans (hb3.mono hb.size)⟩
    · have t1 : (P == V) = false := by simp [q1]
      have t2 : (P != V) = true := by simp [q1]
      clear hPe hVe hyes
      by_cases q2 : P = 0
      · have t3 : (P == 0) = true := by simp [q2]
        have t4 : (P == 255) = false := by simp; omega
        by_cases q3 : V = 255
        · have t5 : (V == 255) = true := by simp [q3]
          clear hnot q1 q2 q3
          go_wp2
          go_ret
          exact ⟨rfl, hb.trans (hb3.mono hb.size)⟩
        · obtain rfl := hnot q1 (by omega) (by omega)
          have t5 : (V == 255) = false := by simp [q3]
          clear hnot q1 q2 q3
          go_wp2
          go_ret
          exact ⟨rfl, hb.trans (hb3.mono hb.size)⟩
      · have t3 : (P == 0) = false := by simp [q2]
        by_cases q3 : P = 255
        · have t4 : (P == 255) = true := by simp [q3]
          by_cases q4 : V = 0
          · have t5 : (V == 0) = true := by simp [q4]
            clear hnot q1 q2 q3 q4
            go_wp2
            go_ret
            exact ⟨rfl, hb.trans (hb3.mono hb.size)⟩
          · obtain rfl := hnot q1 (by omega) (by omega)
            have t5 : (V == 0) = false := by simp [q4]
            clear hnot q1 q2 q3 q4
            go_wp2
            go_ret
            exact ⟨rfl, hb.trans (hb3.mono hb.size)⟩
        · obtain rfl := hnot q1 (by omega) (by omega)
          have t4 : (P == 255) = false := by simp [q3]
          clear hnot q1 q2 q3
          go_wp2
          go_ret
          exact ⟨rfl, hb.trans (hb3.mono hb.size)⟩

theorem walkOctetTurned (a0 : Option Addr) (len0 cap0 : Nat) (z0 : List Int) (a1 a2 a3 : Int) (w : World) (w0 : IsRow .u8 w a0 len0 cap0 z0) (w1 : (Lit.int .i64 a1).wf = true) (w2 : (Lit.int .u16 a2).wf = true) (w3 : (Lit.int .u8 a3).wf = true) :
    Calls Try.prog 6 #[.slice a0 len0 cap0, .int .i64 a1, .int .u16 a2, .int .u8 a3] w fun e w' => e = .returned (.bool true) ∧ Below w.heap.size w w' := by
  by_cases hl : len0 < 2
  · exact turned_short a0 len0 cap0 z0 a1 a2 a3 w w0 hl
  · obtain ⟨b, off, rfl, hlc, hm, hr⟩ := isRow_open w0 (by omega)
    by_cases h3 : len0 ≤ 300
    · exact turned_long b off len0 cap0 len0 _ a1 a2 a3 w hr hlc hm (by omega) (wf_i64 w1) (wf_u16 w2) (wf_u8 w3) (.inl ⟨h3, rfl⟩)
    · exact turned_long b off len0 cap0 300 _ a1 a2 a3 w hr hlc hm (by omega) (wf_i64 w1) (wf_u16 w2) (wf_u8 w3) (.inr ⟨by omega, rfl⟩)
end Go.Proofs.Ytbafeffmcfldoaa
