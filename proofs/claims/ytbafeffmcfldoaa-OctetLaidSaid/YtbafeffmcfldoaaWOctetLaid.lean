/- The walk of OctetLaid: for every input the law returns true, and nothing that was there is written. No condition. -/
import Derived.Test.YtbafeffmcfldoaaAwake
import Derived.Test.YtbafeffmcfldoaaLaid
import Derived.Deep.Cut
import Derived.LoopN
import Derived.RegionTactic
import Derived.ChangeAlike
namespace Go.Proofs.Ytbafeffmcfldoaa
open Go.RowKit
set_option linter.unusedVariables false

theorem laid_place (a : Int) (n : Nat) (hn : 4 ≤ n) (h : 0 ≤ a) : ∃ s : Nat, a.tmod ((n : Int) - 1) = s ∧ a % ((n : Int) - 1) = s ∧ s + 2 ≤ n := by
  have e : a.tmod ((n : Int) - 1) = a % ((n : Int) - 1) := Int.tmod_eq_emod_of_nonneg h
  have h1 := Int.emod_nonneg a (show ((n : Int) - 1) ≠ 0 by omega)
  have h2 := Int.emod_lt_of_pos a (show 0 < ((n : Int) - 1) by omega)
  exact ⟨(a % ((n : Int) - 1)).toNat, by omega, by omega, by omega⟩

theorem pair_ex {w w0 : World} {g n cap B : Nat} {z : Nat → Int} (h : Own8 w g n cap z) (hb : Below B w0 w) (hB : B ≤ w.heap.size) (s t : Nat) :
    ∃ W, (w.alloc (.cells #[.int .i64 (s : Int), .int .i64 (t : Int)] 3)).drew = W ∧ Own8 W g n cap z ∧ Below B w0 W ∧
      W.cell? ⟨w.heap.size, 0, none⟩ = some (.int .i64 s) ∧ W.cell? ⟨w.heap.size, 1, none⟩ = some (.int .i64 t) ∧ w.heap.size ≠ g :=
  ⟨_, rfl, h.alloc _, (hb.alloc hB _).drew, by simp, by simp, by have := h.lt; omega⟩

set_option maxHeartbeats 2000000 in
theorem laid_short (a0 : Option Addr) (len0 cap0 : Nat) (z0 : List Int) (a1 a2 : Int) (w : World) (w0 : IsRow .u8 w a0 len0 cap0 z0) (hl : len0 < 4) :
    Calls Try.prog 10 #[.slice a0 len0 cap0, .int .u16 a1, .int .u16 a2] w fun e w' => e = .returned (.bool true) ∧ Below w.heap.size w w' := by
  obtain ⟨hlc, hm⟩ := isRow_len w0
  obtain ⟨hrd, hA⟩ := isRow_rd w0
  unfold maxLen at hm
  clear w0
  have HA := Lib.hid hA
  have HR := Lib.hid hrd
  clear hA hrd
  rcases a0 with _ | ⟨b, off, spot⟩
  · obtain ⟨rfl, rfl⟩ := HA.out rfl
    go_enter Try.func10, Try.ntmps10
    go_wp2_with fail
    refine (awake_any _).mono ?_
    rintro e w' ⟨rfl, hb⟩
    go_wp2_with fail
    refine (twin_any _ _ _ _ _ (HR.out.below hb rfl) (fun _ => ⟨rfl, rfl⟩) (by omega)).mono ?_
    rintro e w1 ⟨g, cap, rfl, hg, ho, hb1⟩
    go_wp2
    go_ret
    exact ⟨rfl, hb.trans (hb1.mono hb.size)⟩
  · go_enter Try.func10, Try.ntmps10
    go_wp2_with fail
    refine (awake_any _).mono ?_
    rintro e w' ⟨rfl, hb⟩
    go_wp2_with fail
    refine (twin_any _ _ _ _ _ (HR.out.below hb rfl) (fun e => by cases e) (by omega)).mono ?_
    rintro e w1 ⟨g, cap, rfl, hg, ho, hb1⟩
    go_wp2
    go_ret
    exact ⟨rfl, hb.trans (hb1.mono hb.size)⟩

set_option maxHeartbeats 2000000 in
theorem laid_long (b off len0 cap0 n : Nat) (z : Nat → Int) (a1 a2 : Int) (w : World) (hr : Row8 w b off len0 z) (hlc : len0 ≤ cap0) (hm : cap0 ≤ maxLen) (hl : 4 ≤ len0)
    (h1 : 0 ≤ a1 ∧ a1 ≤ 65535) (h2 : 0 ≤ a2 ∧ a2 ≤ 65535) (hn : (len0 ≤ 400 ∧ n = len0) ∨ (400 < len0 ∧ n = 400)) :
    Calls Try.prog 10 #[.slice (some ⟨b, off, none⟩) len0 cap0, .int .u16 a1, .int .u16 a2] w fun e w' => e = .returned (.bool true) ∧ Below w.heap.size w w' := by
  unfold maxLen at hm
  obtain ⟨s, hs1, hs2, hsn⟩ := laid_place a1 n (by omega) (by omega)
  obtain ⟨t, ht1, ht2, htn⟩ := laid_place a2 n (by omega) (by omega)
  have hcs := chk_bd z s n
  have hct := chk_bd (laidZ z s n) t n
  have hzz := hr.2.2
  have hR1 := right_laid z s n
  have hR2 := right_laid (laidZ z s n) t n
  rcases hn with ⟨hn, rfl⟩ | ⟨hn, rfl⟩
  case' inr =>
    replace hs1 : a1.tmod 399 = (s : Int) := hs1
    replace hs2 : a1 % 399 = (s : Int) := hs2
    replace ht1 : a2.tmod 399 = (t : Int) := ht1
    replace ht2 : a2 % 399 = (t : Int) := ht2
  all_goals
    go_enter Try.func10, Try.ntmps10
    go_wp2_with fail
    refine (awake_any _).mono ?_
    rintro e w' ⟨rfl, hb⟩
    have hr' := hr.below hb hr.1
    go_wp2_with fail
    refine (twin_any _ _ _ z _ (Rd.cut ⟨.inr ⟨b, off, rfl, hr'⟩, hr'.2.2⟩ _ (by omega)) (by simp) (by omega)).mono ?_
    rintro e w1 ⟨g, cap, rfl, hg, ho, hb1⟩
    go_wp2_with fail
    go_region
    obtain ⟨W, hW, hoW, hbW, c0, c1, hgm⟩ := pair_ex ho hb1 hb1.size s t
    rw [hW]
    clear hW hb1 ho
    generalize w1.heap.size = m at *
    go_wp2_with fail
    refine wp_loop_rounds 3 ?_
    rw [rounds_succ]
    go_wp2_with fail
    refine (sum_ok g 0 _ _ z _ _ hoW.2 (by omega) hoW.row.2.1 (by omega) (by omega)).mono ?_
    rintro e w' ⟨rfl, rfl⟩
    rw [Int.toNat_natCast]
    have cs := hoW.at_ s (by omega)
    have cs1 := hoW.at_ (s + 1) (by omega)
    have fs := hoW.free s
    have fs1 := hoW.free (s + 1)
    go_upto_region 13 with (fail)
    obtain ⟨W2, hW, ho2, hb2, hk2⟩ := laid_ex2 hoW hsn hbW hg
    rw [hW]
    replace c0 := (hk2 ⟨m, 0, none⟩ hgm).trans c0
    replace c1 := (hk2 ⟨m, 1, none⟩ hgm).trans c1
    clear hW hk2 cs cs1 fs fs1 hoW hbW
    go_wp2_with fail
    refine (right_ok g 0 _ _ _ _ _ ho2.row (by omega) (by omega) (by omega)).mono ?_
    rintro e w' ⟨rfl, rfl⟩
    rw [Int.toNat_natCast, hR1]
    go_wp2_with fail
    rw [rounds_succ]
    go_wp2_with fail
    refine (sum_ok g 0 _ _ _ _ _ ho2.2 (by omega) ho2.row.2.1 (by omega) (by omega)).mono ?_
    rintro e w' ⟨rfl, rfl⟩
    rw [Int.toNat_natCast]
    have cs := ho2.at_ t (by omega)
    have cs1 := ho2.at_ (t + 1) (by omega)
    have fs := ho2.free t
    have fs1 := ho2.free (t + 1)
    go_upto_region 13 with (fail)
    obtain ⟨W3, hW, ho3, hb3, hk3⟩ := laid_ex2 ho2 htn hb2 hg
    rw [hW]
    clear hW hk3 cs cs1 fs fs1 ho2 hb2 c0 c1
    go_wp2_with fail
    refine (right_ok g 0 _ _ _ _ _ ho3.row (by omega) (by omega) (by omega)).mono ?_
    rintro e w' ⟨rfl, rfl⟩
    rw [Int.toNat_natCast, hR2]
    go_wp2_with fail
    rw [rounds_succ]
    go_wp2_with fail
    go_ret
    exact ⟨rfl, hb.trans (hb3.mono hb.size)⟩

theorem walkOctetLaid (a0 : Option Addr) (len0 cap0 : Nat) (z0 : List Int) (a1 a2 : Int) (w : World) (w0 : IsRow .u8 w a0 len0 cap0 z0) (w1 : (Lit.int .u16 a1).wf = true) (w2 : (Lit.int .u16 a2).wf = true) :
    Calls Try.prog 10 #[.slice a0 len0 cap0, .int .u16 a1, .int .u16 a2] w fun e w' => e = .returned (.bool true) ∧ Below w.heap.size w w' := by
  by_cases hl : len0 < 4
  · exact laid_short a0 len0 cap0 z0 a1 a2 w w0 hl
  · obtain ⟨b, off, rfl, hlc, hm, hr⟩ := isRow_open w0 (by omega)
    by_cases h3 : len0 ≤ 400
    · exact laid_long b off len0 cap0 len0 _ a1 a2 w hr hlc hm (by omega) (wf_u16 w1) (wf_u16 w2) (.inl ⟨h3, rfl⟩)
    · exact laid_long b off len0 cap0 400 _ a1 a2 w hr hlc hm (by omega) (wf_u16 w1) (wf_u16 w2) (.inr ⟨by omega, rfl⟩)
end Go.Proofs.Ytbafeffmcfldoaa
