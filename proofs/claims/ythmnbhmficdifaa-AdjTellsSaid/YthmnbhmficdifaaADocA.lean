/- The document's Step. Each theorem states its conditions. -/
import Derived.Test.YthmnbhmficdifaaASameN
import Derived.Deep.DeepCutAuto
namespace Go.Proofs.Ythmnbhmficdifaa
open Go.RowKit
set_option linter.unusedVariables false

theorem within_walk (n lo hi : Int) (r : Bool) (hr : decide (lo ≤ n ∧ n ≤ hi) = r) (w : World) : Calls Try.prog 30 #[.int .i64 n, .int .i64 lo, .int .i64 hi] w fun e w' => e = .returned (.bool r) ∧ w = w' := by
  subst hr
  by_cases h1 : lo ≤ n
  · by_cases h2 : n ≤ hi
    · rw [show decide (lo ≤ n ∧ n ≤ hi) = true from decide_eq_true ⟨h1, h2⟩]
      go_enter Try.func30, Try.ntmps30
      go_wp2
      go_ret
      exact ⟨rfl, rfl⟩
    · rw [show decide (lo ≤ n ∧ n ≤ hi) = false from decide_eq_false (by omega)]
      go_enter Try.func30, Try.ntmps30
      go_wp2
      go_ret
      exact ⟨rfl, rfl⟩
  · rw [show decide (lo ≤ n ∧ n ≤ hi) = false from decide_eq_false (by omega)]
    go_enter Try.func30, Try.ntmps30
    go_wp2
    go_ret
    exact ⟨rfl, rfl⟩
theorem within_lv (n : Int) (b : Bool) (hb : lvBad n = b) (w : World) : Calls Try.prog 30 #[.int .i64 n, .int .i64 1, .int .i64 3] w fun e w' => e = .returned (.bool (!b)) ∧ w = w' :=
  within_walk n 1 3 _ (by rw [← hb]; unfold lvBad; by_cases h : n < 1 ∨ 3 < n <;> simp [h] <;> omega) w
theorem within_st (n : Int) (b : Bool) (hb : stBad n = b) (w : World) : Calls Try.prog 30 #[.int .i64 n, .int .i64 0, .int .i64 2] w fun e w' => e = .returned (.bool (!b)) ∧ w = w' :=
  within_walk n 0 2 _ (by rw [← hb]; unfold stBad; by_cases h : n < 0 ∨ 2 < n <;> simp [h] <;> omega) w
theorem within_ho (n : Int) (b : Bool) (hb : hoBad n = b) (w : World) : Calls Try.prog 30 #[.int .i64 n, .int .i64 1, .int .i64 65535] w fun e w' => e = .returned (.bool (!b)) ∧ w = w' :=
  within_walk n 1 65535 _ (by rw [← hb]; unfold hoBad; by_cases h : n < 1 ∨ 65535 < n <;> simp [h] <;> omega) w
set_option maxHeartbeats 4000000 in
set_option maxRecDepth 100000 in
theorem common_any (x y : Int) (s : Bool) (hx : x = 1 ∨ x = 2 ∨ x = 3) (hy : y = 1 ∨ y = 2 ∨ y = 3) (w : World) : Calls Try.prog 31 #[.int .i64 x, .int .i64 y, .bool s] w fun e w' => e = .returned (.int .i64 (comI x y s)) ∧ w = w' := by
  rcases hx with rfl | rfl | rfl <;> rcases hy with rfl | rfl | rfl <;> cases s <;>
  · go_enter Try.func31, Try.ntmps31
    go_wp2
    go_ret
    exact ⟨rfl, rfl⟩
set_option maxHeartbeats 4000000 in
set_option maxRecDepth 100000 in
theorem rshare_any (A B : Option Addr) (m c k d : Nat) (L H : Nat → Sl) (w : World) (ha : RdS w A m L) (hb : RdS w B k H) (hm : m ≤ 9223372036854775807) (hk : k ≤ 9223372036854775807) :
    Calls Try.prog 32 #[.slice A m c, .slice B k d] w fun e w' => e = .returned (.bool (shB L m H k)) ∧ ∃ r, w' = w.drewN r := by
  have HA := Lib.hid ha
  have HB := Lib.hid hb
  clear ha hb
  go_enter Try.func32, Try.ntmps32
  go_wp2_with fail
  go_loopw [9] (fun t wr => ∃ i r : Nat, i ≤ m ∧ t = .int .i64 i ∧ Hid (∀ i', i' < i → ∀ j, j < k → ¬ sameS (L i') (H j)) ∧ Hid (wr = w.drewN r)) (fun t _ => m - (intOf t).toNat)
  case atStart => exact ⟨0, 0, by omega, rfl, Lib.hid (fun _ h => by omega), Lib.hid rfl⟩
  case round =>
    obtain ⟨wo, rfl⟩ : ∃ wo, wo = wr := ⟨_, rfl⟩
    obtain ⟨i, r, hi, rfl, hno, hw⟩ := hrel
    have HA2 : Hid (RdS wo A m L) := Lib.hid (by rw [hw.out]; exact HA.out)
    have HB2 : Hid (RdS wo B k H) := Lib.hid (by rw [hw.out]; exact HB.out)
    by_cases hlt : i < m
    · go_wp2_with fail
      go_loopw [14] (fun t ws => ∃ j q : Nat, j ≤ k ∧ t = .int .i64 j ∧ Hid (∀ j', j' < j → ¬ sameS (L i) (H j')) ∧ Hid (ws = wo.drewN q)) (fun t _ => k - (intOf t).toNat)
      case atStart => exact ⟨0, 0, by omega, rfl, Lib.hid (fun _ h => by omega), Lib.hid rfl⟩
      case round =>
        obtain ⟨j, q, hj, rfl, hnj, hws⟩ := hrel
        by_cases hlj : j < k
        · have HA3 : Hid (RdS wr A m L) := Lib.hid (by rw [hws.out]; exact HA2.out)
          have HB3 : Hid (RdS wr B k H) := Lib.hid (by rw [hws.out]; exact HB2.out)
          obtain ⟨b, off, hAA, hr⟩ := HA3.out.row (by omega)
          obtain ⟨c0, o0⟩ := hr.2 i hlt
          obtain ⟨b', off', hBB, hr'⟩ := HB3.out.row (by omega)
          obtain ⟨c1, o1⟩ := hr'.2 j hlj
          have HAA := Lib.hid hAA
          have HBB := Lib.hid hBB
          rw [HAA.out, HBB.out]
          have HO0 := Lib.hid o0
          have HO1 := Lib.hid o1
          clear hAA hBB hr hr' o0 o1
          by_cases hs : sameS (L i) (H j)
          · have HS : Hid (shB L m H k = true) := Lib.hid (shB_yes ⟨i, hlt, j, hlj, hs⟩)
            have hln := hs.1
            have HSM := Lib.hid (fun (q : Nat) => same_yes (L i).A (H j).A (L i).n (L i).c (H j).c (L i).z (H j).z (wr.drewN q) (Rd.draws HO0.out.1 q) (by rw [hs.1]; exact Rd.draws HO1.out.1 q) hs.2 (by have := HO0.out.2.2; omega))
            rw [← hln] at c1
            clear hs hln
            go_wp2_with fail
            go_quiet (first | (go_at_call 22; exact Calls.quiet_of (HSM.out _)))
            go_wp2_with fail
            go_ret
            exact ⟨by rw [HS.out]; rfl, _, by rw [hws.out, hw.out, World.drewN_drewN, World.drewN_drewN]⟩
          · have HSM := Lib.hid (fun (q : Nat) => same_no (L i).A (H j).A (L i).n (H j).n (L i).c (H j).c (L i).z (H j).z (wr.drewN q) (Rd.draws HO0.out.1 q) (Rd.draws HO1.out.1 q) hs (by have := HO0.out.2.2; omega) (by have := HO1.out.2.2; omega))
            have hnj2 : Hid (∀ j', j' < j + 1 → ¬ sameS (L i) (H j')) := Lib.hid (fun j' h => by
              by_cases e : j' = j
              · subst e; exact hs
              · exact hnj.out j' (by omega))
            clear hs
            go_wp2_with fail
            go_quiet (first | (go_at_call 22; exact Calls.quiet_of (HSM.out _)))
            go_wp2_with fail
            go_roundw
            case rel => exact ⟨j + 1, q + nq, by omega, by go_num, hnj2, Lib.hid (by rw [hws.out, World.drewN_drewN])⟩
            case measure => simp [intOf]; omega
        · obtain rfl : j = k := by omega
          have hno2 : Hid (∀ i', i' < i + 1 → ∀ j', j' < j → ¬ sameS (L i') (H j')) := Lib.hid (fun i' h => by
            by_cases e : i' = i
            · subst e; exact hnj.out
            · exact hno.out i' (by omega))
          go_wp2_with fail
          go_roundw
          case rel => exact ⟨i + 1, r + q, by omega, by go_num, hno2, Lib.hid (by rw [hws.out, hw.out, World.drewN_drewN])⟩
          case measure => simp [intOf]; omega
    · obtain rfl : i = m := by omega
      have HS : Hid (shB L i H k = false) := Lib.hid (shB_no (fun ⟨i', h1, j, h2, h3⟩ => hno.out i' h1 j h2 h3))
      go_wp2_with fail
      go_ret
      exact ⟨by rw [HS.out]; rfl, r, hw.out⟩
theorem toS_tab (a : Aj) (h : He) (C : Int) (hst : 0 ≤ a.st ∧ a.st ≤ 2) (b : Bool) (hb : (a.st != 2 && !(eqY a.p h.s && (a.nu == h.nu && a.lv == C))) = b) : toS a h C = if b = true then 2 else a.st := by
  have e1 : thB a.st = (a.st != 2) := by
    rcases (by omega : a.st = 0 ∨ a.st = 1 ∨ a.st = 2) with e | e | e <;> rw [e] <;> rfl
  have e2 : (!eqY a.p h.s || (a.nu != h.nu || a.lv != C)) = !(eqY a.p h.s && (a.nu == h.nu && a.lv == C)) := by simp [Bool.not_and, bne]
  subst hb
  unfold toS
  rw [e1, e2]
end Go.Proofs.Ythmnbhmficdifaa
