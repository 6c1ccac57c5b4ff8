/- Plain facts of Step. Each theorem states its conditions. -/
import Derived.Test.YthmnbhmficdifaaAExp
namespace Go.Proofs.Ythmnbhmficdifaa
open Go.RowKit
set_option linter.unusedVariables false

theorem toS_same (b : Aj) (h : He) (C : Int) (hs : byB h.s) (e1 : b.p = h.s) (e2 : b.nu = h.nu) (e3 : b.lv = C) : toS b h C = b.st := by
  unfold toS
  have h1 : eqY b.p h.s = true := by rw [e1]; unfold eqY; simp
  have h2 : (b.nu != h.nu) = false := by simp [e2]
  have h3 : (b.lv != C) = false := by simp [e3]
  simp [h1, h2, h3]
theorem chk_st (l : Lo) (a : Aj) (h : He) (now : Int) (hc : chkS l a h now = 0) (b : Aj) (hb : 0 ≤ b.st ∧ b.st ≤ 2) : chkS l b h now = 0 := by
  obtain ⟨_, _, ha, _⟩ := chk_zero hc
  have h1 : stBad a.st = false := by simp [stBad]; omega
  have h2 : stBad b.st = false := by simp [stBad]; omega
  unfold chkS at hc ⊢
  rw [h1] at hc
  rw [h2]
  exact hc
theorem toS_bd {a : Aj} {h : He} {C : Int} (ha : 0 ≤ a.st ∧ a.st ≤ 2) : 0 ≤ toS a h C ∧ toS a h C ≤ 2 := by
  unfold toS
  split <;> omega
theorem behS_bd (s t : Int) : behS s t = 0 ∨ behS s t = 1 ∨ behS s t = 2 := by
  unfold behS
  split
  · exact .inr (.inl rfl)
  · split
    · exact .inr (.inr rfl)
    · exact .inl rfl
/-- a hello that comes again does nothing more -/
theorem step_twice (l : Lo) (a : Aj) (h : He) (now : Int) (s : Bool) (hs : byB h.s) (R : Aj × Int) (hR : stepR l a h now s = R) :
    (R.1 = a ∧ (R.2 = 1 ∨ R.2 = 2 ∨ R.2 = 7)) ∨ ((R.2 = 0 ∨ R.2 = 12) ∧ stepR l R.1 h now s = R) := by
  subst hR
  by_cases hk : chkS l a h now ≠ 0
  · have e : stepR l a h now s = (a, chkS l a h now) := by unfold stepR; rw [if_pos hk]
    rw [e]
    have := chk_cases l a h now
    exact .inl ⟨rfl, by show chkS l a h now = 1 ∨ chkS l a h now = 2 ∨ chkS l a h now = 7; omega⟩
  have hk0 : chkS l a h now = 0 := by omega
  obtain ⟨_, _, ha, hh, _⟩ := chk_zero hk0
  right
  by_cases hc : comI l.lv h.lv s = 0
  · have e : stepR l a h now s = (ajD, 12) := by unfold stepR; rw [if_neg hk, if_pos hc]
    rw [e]
    refine ⟨.inr rfl, ?_⟩
    show stepR l ajD h now s = _
    unfold stepR
    rw [if_neg (by rw [chk_st l a h now hk0 ajD ⟨by decide, by decide⟩]; simp), if_pos hc]
  by_cases hn : (h.nm && (!eqY h.th l.s || h.tn != l.nu)) = true
  · have e : stepR l a h now s = (a, 0) := by unfold stepR; rw [if_neg hk, if_neg hc, if_pos hn]
    rw [e]
    exact ⟨.inl rfl, e⟩
  by_cases hb : behS (toS a h (comI l.lv h.lv s)) (ofS h) = 2
  · have e : stepR l a h now s = (ajD, 0) := by unfold stepR; rw [if_neg hk, if_neg hc, if_neg hn, if_pos hb]
    rw [e]
    refine ⟨.inl rfl, ?_⟩
    show stepR l ajD h now s = _
    unfold stepR
    rw [if_neg (by rw [chk_st l a h now hk0 ajD ⟨by decide, by decide⟩]; simp), if_neg hc, if_neg hn, if_pos ?_]
    have e2 : toS ajD h (comI l.lv h.lv s) = 2 := by unfold toS; rfl
    rw [e2]
    revert hb
    unfold behS
    split
    · intro hb; cases hb
    · rename_i h2
      split
      · rename_i h3
        intro _
        simp at h3 ⊢
        exact h3.1
      · intro hb; cases hb
  · have e : stepR l a h now s = (⟨behS (toS a h (comI l.lv h.lv s)) (ofS h), h.s, h.nu, comI l.lv h.lv s, now + h.ho⟩, 0) := by unfold stepR; rw [if_neg hk, if_neg hc, if_neg hn, if_neg hb]
    rw [e]
    refine ⟨.inl rfl, ?_⟩
    have hbd := behS_bd (toS a h (comI l.lv h.lv s)) (ofS h)
    obtain ⟨b, hbb⟩ : ∃ b, behS (toS a h (comI l.lv h.lv s)) (ofS h) = b := ⟨_, rfl⟩
    rw [hbb] at hb hbd ⊢
    have e2 : toS ⟨b, h.s, h.nu, comI l.lv h.lv s, now + h.ho⟩ h (comI l.lv h.lv s) = b := toS_same _ _ _ hs rfl rfl rfl
    have e3 : behS b (ofS h) = b := by
      revert hbb
      unfold behS
      split
      · intro hbb; exact hbb
      · split
        · intro hbb; omega
        · rename_i h1 h2
          intro hbb
          subst hbb
          simp
    show stepR l ⟨b, h.s, h.nu, comI l.lv h.lv s, now + h.ho⟩ h now s = _
    unfold stepR
    rw [if_neg (by rw [chk_st l a h now hk0 ⟨b, h.s, h.nu, comI l.lv h.lv s, now + h.ho⟩ ⟨by show 0 ≤ b; omega, by show b ≤ 2; omega⟩]; simp), if_neg hc, if_neg hn, e2, e3, if_neg hb]
end Go.Proofs.Ythmnbhmficdifaa
