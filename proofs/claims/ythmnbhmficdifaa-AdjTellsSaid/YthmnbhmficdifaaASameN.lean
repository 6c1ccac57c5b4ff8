/- What Step says of levels; rows of bytes that are not the same. Each theorem states its conditions. -/
import Derived.Test.YthmnbhmficdifaaAThm
import Derived.Deep.DeepCutAuto
namespace Go.Proofs.Ythmnbhmficdifaa
open Go.RowKit
set_option linter.unusedVariables false

theorem bdrewN {B : Nat} {a w : World} (h : Below B a w) (m : Nat) : Below B a (w.drewN m) := ⟨h.os, h.tape, h.output, h.size, h.block⟩
theorem stepR_levels (l : Lo) (h : He) (now : Int) (s : Bool) (R : Aj × Int) (hR : stepR l ajD h now s = R) :
    ((R.2 ≠ 0 ∨ R.1.st = 2) → R.1 = ajD) ∧ (R.2 = 0 → R.1.st ≠ 2 → (l.lv = 1 ∨ l.lv = 2 ∨ l.lv = 3) ∧ (h.lv = 1 ∨ h.lv = 2 ∨ h.lv = 3) ∧ R.1.lv = comI l.lv h.lv s ∧ comI l.lv h.lv s ≠ 0 ∧ l.m ≤ 3 ∧ h.m ≤ 3) := by
  subst hR
  by_cases hk : chkS l ajD h now ≠ 0
  · have e : stepR l ajD h now s = (ajD, chkS l ajD h now) := by unfold stepR; rw [if_pos hk]
    rw [e]
    exact ⟨fun _ => rfl, fun he => absurd he hk⟩
  have hk0 : chkS l ajD h now = 0 := by omega
  obtain ⟨z1, z2, _, _, _, _, z7, z8, _⟩ := chk_zero hk0
  by_cases hc : comI l.lv h.lv s = 0
  · have e : stepR l ajD h now s = (ajD, 12) := by unfold stepR; rw [if_neg hk, if_pos hc]
    rw [e]
    exact ⟨fun _ => rfl, fun he => by cases he⟩
  by_cases hn : (h.nm && (!eqY h.th l.s || h.tn != l.nu)) = true
  · have e : stepR l ajD h now s = (ajD, 0) := by unfold stepR; rw [if_neg hk, if_neg hc, if_pos hn]
    rw [e]
    exact ⟨fun _ => rfl, fun _ hd => absurd rfl hd⟩
  by_cases hb : behS (toS ajD h (comI l.lv h.lv s)) (ofS h) = 2
  · have e : stepR l ajD h now s = (ajD, 0) := by unfold stepR; rw [if_neg hk, if_neg hc, if_neg hn, if_pos hb]
    rw [e]
    exact ⟨fun _ => rfl, fun _ hd => absurd rfl hd⟩
  · have e : stepR l ajD h now s = (⟨behS (toS ajD h (comI l.lv h.lv s)) (ofS h), h.s, h.nu, comI l.lv h.lv s, now + h.ho⟩, 0) := by unfold stepR; rw [if_neg hk, if_neg hc, if_neg hn, if_neg hb]
    rw [e]
    refine ⟨fun h => ?_, fun _ _ => ⟨z1, z2, rfl, hc, z7, z8⟩⟩
    rcases h with h | h
    · exact absurd rfl h
    · exact absurd h hb
/-- whether two rows of bytes are the same, by the document -/
theorem same_no (A B : Option Addr) (n n' c d : Nat) (z z' : Nat → Int) (w : World) (ha : Rd w A n z) (hb : Rd w B n' z') (he : ¬ (n = n' ∧ ∀ j, j < n → z j = z' j)) (hm : n ≤ 9223372036854775807) (hm' : n' ≤ 9223372036854775807) :
    Calls Try.prog 22 #[.slice A n c, .slice B n' d] w fun e w' => e = .returned (.bool false) ∧ ∃ m, w' = w.drewN m := by
  by_cases hn : n = n'
  · subst hn
    have hx : ∃ k, k < n ∧ z k ≠ z' k ∧ ∀ j, j < k → z j = z' j := by
      have hne : ∃ k, k < n ∧ z k ≠ z' k := by
        apply Classical.byContradiction
        intro hno
        exact he ⟨rfl, fun j hj => Classical.byContradiction fun h => hno ⟨j, hj, h⟩⟩
      obtain ⟨k0, h1, h2⟩ := hne
      have key : ∀ t, t ≤ n → (∃ k, k < t ∧ z k ≠ z' k ∧ ∀ j, j < k → z j = z' j) ∨ ∀ j, j < t → z j = z' j := by
        intro t
        induction t with
        | zero => intro _; exact .inr (fun j hj => by omega)
        | succ t ih =>
          intro ht
          rcases ih (by omega) with ⟨k, h1, h2, h3⟩ | h3
          · exact .inl ⟨k, by omega, h2, h3⟩
          · by_cases h4 : z t = z' t
            · exact .inr (fun j hj => by
                by_cases e : j = t
                · subst e; exact h4
                · exact h3 j (by omega))
            · exact .inl ⟨t, by omega, h4, h3⟩
      rcases key n (Nat.le_refl _) with ⟨k, h3, h4, h5⟩ | h3
      · exact ⟨k, h3, h4, h5⟩
      · exact absurd (h3 k0 h1) h2
    obtain ⟨k0, hk0, hne, hpre⟩ := hx
    obtain ⟨b, off, rfl, hr⟩ := ha.row (by omega)
    obtain ⟨b', off', rfl, hr'⟩ := hb.row (by omega)
    have hc := hr.2.1
    have hc' := hr'.2.1
    have HE := Lib.hid hpre
    have HNE := Lib.hid hne
    clear ha hb hr hr' he hpre hne
    go_enter Try.func22, Try.ntmps22
    go_wp2
    go_loopw [13] (fun t wr => ∃ k m : Nat, k ≤ k0 ∧ t = .int .i64 k ∧ wr = w.drewN m) (fun t _ => n - (intOf t).toNat)
    case atStart => exact ⟨0, 0, by omega, rfl, rfl⟩
    case round =>
      obtain ⟨k, m, hk, rfl, rfl⟩ := hrel
      have hlt : k < n := by omega
      have g1 := hc k hlt
      have g2 := hc' k hlt
      by_cases e : k = k0
      · subst e
        have hq : (z k != z' k) = true := by simpa using HNE.out
        generalize z k = v at *
        generalize z' k = v' at *
        clear hc hc'
        go_wp2
        go_region
        go_wp2
        go_ret
        exact ⟨rfl, m + 1, rfl⟩
      · rw [← HE.out k (by omega)] at g2
        generalize z k = v at *
        clear hc hc'
        go_wp2
        go_region
        go_wp2
        go_roundw
        case rel => exact ⟨k + 1, m + 1, by omega, by go_num, rfl⟩
        case measure => simp [intOf]; omega
  · have hnb : ((n : Int) != (n' : Int)) = true := by simp; omega
    clear ha hb he
    go_enter Try.func22, Try.ntmps22
    go_wp2
    go_ret
    exact ⟨rfl, 0, rfl⟩
end Go.Proofs.Ythmnbhmficdifaa
