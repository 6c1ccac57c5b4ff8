/- The walk of GaugeFaster: for every input the law returns true, and nothing that was there is written. No condition. -/
import Derived.Test.YtbafeffmcfldoaaFaster2
import Derived.Test.YtbafeffmcfldoaaAwakeG
namespace Go.Proofs.Ytbafeffmcfldoaa
open Go.RowKit
set_option linter.unusedVariables false

/-- the walk, by its branches: p, q say whether b and the reference are infinite; the words of the doubled operands are x2, a2 -/
theorem walkFast (x a b : Nat) (k1 k2 : Nat) (w : World) (p q : Bool)
    (AW : Hid (∀ w, Calls Try.prog 34 #[] w fun e w' => e = .returned (.bool true) ∧ Below w.heap.size w w'))
    (I1 : Hid (∀ w, Calls Try.prog 41 #[.float .f64 b, .int .i64 1] w fun e w' => e = .returned (.bool p) ∧ w = w'))
    (I2 : Hid (∀ w, Calls Try.prog 41 #[.float .f64 x, .int .i64 1] w fun e w' => e = .returned (.bool q) ∧ w = w'))
    (C1 : Hid (∀ w, Calls Try.prog 39 #[.float .f64 x, .float .f64 b] w fun e w' => e = .returned (.int .u32 k1) ∧ Below w.heap.size w w'))
    (C2 : Hid (∀ w, Calls Try.prog 39 #[.float .f64 x, .float .f64 a] w fun e w' => e = .returned (.int .u32 k2) ∧ Below w.heap.size w w'))
    (HL : Hid ((FloatKind.f64.format.order x 0 == some .gt) = true → (FloatKind.f64.format.order a 0 == some .gt) = true → ((FloatKind.f64.format.order b a == some .gt) = true ∨ (FloatKind.f64.format.order b a == some .eq) = true) → (p && q) = false → ¬ (k2 : Int) < k1))
    (HM : Hid ((FloatKind.f64.format.order x 0 == some .gt) = true → (FloatKind.f64.format.order a 0 == some .gt) = true → (FloatKind.f64.format.order a 1614679632300144556 == some .lt) = false → (FloatKind.f64.format.order a 7598952565167317594 == some .gt) = false → (FloatKind.f64.format.order x 1614679632300144556 == some .lt) = false → (FloatKind.f64.format.order x 7598952565167317594 == some .gt) = false →
      ∃ x2 a2, (∀ w, (binOp .mul 66 (.float .f64 x) (.float .f64 4611686018427387904)).run Try.prog w = .ok (.float .f64 x2) w) ∧ (∀ w, (binOp .mul 66 (.float .f64 a) (.float .f64 4611686018427387904)).run Try.prog w = .ok (.float .f64 a2) w) ∧ Hid (∀ w, Calls Try.prog 39 #[.float .f64 x2, .float .f64 a2] w fun e w' => e = .returned (.int .u32 k2) ∧ Below w.heap.size w w'))) :
    Calls Try.prog 14 #[.float .f64 x, .float .f64 a, .float .f64 b] w fun e w' => e = .returned (.bool true) ∧ Below w.heap.size w w' := by
  have HB := Lib.hid (Below.refl w.heap.size w)
  cases g1 : (FloatKind.f64.format.order x 0 == some .gt)
  · clear HL HM C1 C2 I1 I2
    go_enter Try.func14, Try.ntmps14
    go_wp2_with ((go_at_call 34; refine (AW.out _).mono ?_; rintro e w' ⟨rfl, hb⟩; replace HB := Lib.hid (HB.out.trans (hb.mono HB.out.size)); clear hb))
    go_ret
    exact ⟨rfl, HB.out⟩
  cases g2 : (FloatKind.f64.format.order a 0 == some .gt)
  · clear HL HM C1 C2 I1 I2
    go_enter Try.func14, Try.ntmps14
    go_wp2_with ((go_at_call 34; refine (AW.out _).mono ?_; rintro e w' ⟨rfl, hb⟩; replace HB := Lib.hid (HB.out.trans (hb.mono HB.out.size)); clear hb))
    go_ret
    exact ⟨rfl, HB.out⟩
  have HG : Hid (((FloatKind.f64.format.order b a == some .gt) = true ∨ (FloatKind.f64.format.order b a == some .eq) = true) → (p && q) = false → ¬ (k2 : Int) < k1) := Lib.hid (HL.out g1 g2)
  have HN := Lib.hid (HM.out g1 g2)
  clear HL HM
  cases g3 : (FloatKind.f64.format.order b a == some .gt)
  · cases g4 : (FloatKind.f64.format.order b a == some .eq)
    · clear HG HN C1 C2 I1 I2
      go_enter Try.func14, Try.ntmps14
      go_wp2_with ((go_at_call 34; refine (AW.out _).mono ?_; rintro e w' ⟨rfl, hb⟩; replace HB := Lib.hid (HB.out.trans (hb.mono HB.out.size)); clear hb))
      go_ret
      exact ⟨rfl, HB.out⟩
    · have HP : Hid ((p && q) = false → ¬ (k2 : Int) < k1) := Lib.hid (fun h => HG.out (.inr g4) h)
      clear HG
      cases p
      · have HP : Hid (true = true → ¬ (k2 : Int) < k1) := Lib.hid (fun _ => HP.out rfl)
        clear I2
        have hkk := HP.out rfl
        clear HP
        by_cases h1' : (FloatKind.f64.format.order a 1614679632300144556 == some .lt) = true
        · have h1 : (FloatKind.f64.format.order a 1614679632300144556 == some .lt) = true := h1'
          clear HN h1'
          go_enter Try.func14, Try.ntmps14
          go_wp2_with (first
            | (go_at_call 34; refine (AW.out _).mono ?_; rintro e w' ⟨rfl, hb⟩; replace HB := Lib.hid (HB.out.trans (hb.mono HB.out.size)); clear hb)
            | (go_at_call 41; (with_reducible refine (I1.out _).mono ?_); rintro e w' ⟨rfl, rfl⟩)
            | (go_at_call 39; (with_reducible refine (C1.out _).mono ?_); rintro e w' ⟨rfl, hb⟩; replace HB := Lib.hid (HB.out.trans (hb.mono HB.out.size)); clear hb)
            | (go_at_call 39; (with_reducible refine (C2.out _).mono ?_); rintro e w' ⟨rfl, hb⟩; replace HB := Lib.hid (HB.out.trans (hb.mono HB.out.size)); clear hb))
          go_ret
          exact ⟨rfl, HB.out⟩
        have h1 : (FloatKind.f64.format.order a 1614679632300144556 == some .lt) = false := by simpa using h1'
        clear h1'
        by_cases h2' : (FloatKind.f64.format.order a 7598952565167317594 == some .gt) = true
        · have h2 : (FloatKind.f64.format.order a 7598952565167317594 == some .gt) = true := h2'
          clear HN h2'
          go_enter Try.func14, Try.ntmps14
          go_wp2_with (first
            | (go_at_call 34; refine (AW.out _).mono ?_; rintro e w' ⟨rfl, hb⟩; replace HB := Lib.hid (HB.out.trans (hb.mono HB.out.size)); clear hb)
            | (go_at_call 41; (with_reducible refine (I1.out _).mono ?_); rintro e w' ⟨rfl, rfl⟩)
            | (go_at_call 39; (with_reducible refine (C1.out _).mono ?_); rintro e w' ⟨rfl, hb⟩; replace HB := Lib.hid (HB.out.trans (hb.mono HB.out.size)); clear hb)
            | (go_at_call 39; (with_reducible refine (C2.out _).mono ?_); rintro e w' ⟨rfl, hb⟩; replace HB := Lib.hid (HB.out.trans (hb.mono HB.out.size)); clear hb))
          go_ret
          exact ⟨rfl, HB.out⟩
        have h2 : (FloatKind.f64.format.order a 7598952565167317594 == some .gt) = false := by simpa using h2'
        clear h2'
        by_cases h3' : (FloatKind.f64.format.order x 1614679632300144556 == some .lt) = true
        · have h3 : (FloatKind.f64.format.order x 1614679632300144556 == some .lt) = true := h3'
          clear HN h3'
          go_enter Try.func14, Try.ntmps14
          go_wp2_with (first
            | (go_at_call 34; refine (AW.out _).mono ?_; rintro e w' ⟨rfl, hb⟩; replace HB := Lib.hid (HB.out.trans (hb.mono HB.out.size)); clear hb)
            | (go_at_call 41; (with_reducible refine (I1.out _).mono ?_); rintro e w' ⟨rfl, rfl⟩)
            | (go_at_call 39; (with_reducible refine (C1.out _).mono ?_); rintro e w' ⟨rfl, hb⟩; replace HB := Lib.hid (HB.out.trans (hb.mono HB.out.size)); clear hb)
            | (go_at_call 39; (with_reducible refine (C2.out _).mono ?_); rintro e w' ⟨rfl, hb⟩; replace HB := Lib.hid (HB.out.trans (hb.mono HB.out.size)); clear hb))
          go_ret
          exact ⟨rfl, HB.out⟩
        have h3 : (FloatKind.f64.format.order x 1614679632300144556 == some .lt) = false := by simpa using h3'
        clear h3'
        by_cases h4' : (FloatKind.f64.format.order x 7598952565167317594 == some .gt) = true
        · have h4 : (FloatKind.f64.format.order x 7598952565167317594 == some .gt) = true := h4'
          clear HN h4'
          go_enter Try.func14, Try.ntmps14
          go_wp2_with (first
            | (go_at_call 34; refine (AW.out _).mono ?_; rintro e w' ⟨rfl, hb⟩; replace HB := Lib.hid (HB.out.trans (hb.mono HB.out.size)); clear hb)
            | (go_at_call 41; (with_reducible refine (I1.out _).mono ?_); rintro e w' ⟨rfl, rfl⟩)
            | (go_at_call 39; (with_reducible refine (C1.out _).mono ?_); rintro e w' ⟨rfl, hb⟩; replace HB := Lib.hid (HB.out.trans (hb.mono HB.out.size)); clear hb)
            | (go_at_call 39; (with_reducible refine (C2.out _).mono ?_); rintro e w' ⟨rfl, hb⟩; replace HB := Lib.hid (HB.out.trans (hb.mono HB.out.size)); clear hb))
          go_ret
          exact ⟨rfl, HB.out⟩
        have h4 : (FloatKind.f64.format.order x 7598952565167317594 == some .gt) = false := by simpa using h4'
        clear h4'
        obtain ⟨x2, a2, hm1, hm2, C3⟩ := HN.out h1 h2 h3 h4
        clear HN
        go_enter Try.func14, Try.ntmps14
        go_wp2_with (first
          | (go_at_call 34; refine (AW.out _).mono ?_; rintro e w' ⟨rfl, hb⟩; replace HB := Lib.hid (HB.out.trans (hb.mono HB.out.size)); clear hb)
          | (go_at_call 41; (with_reducible refine (I1.out _).mono ?_); rintro e w' ⟨rfl, rfl⟩)
          | (go_at_call 39; (with_reducible refine (C1.out _).mono ?_); rintro e w' ⟨rfl, hb⟩; replace HB := Lib.hid (HB.out.trans (hb.mono HB.out.size)); clear hb)
          | (go_at_call 39; (with_reducible refine (C2.out _).mono ?_); rintro e w' ⟨rfl, hb⟩; replace HB := Lib.hid (HB.out.trans (hb.mono HB.out.size)); clear hb)
          | (go_at_call 39; (with_reducible refine (C3.out _).mono ?_); rintro e w' ⟨rfl, hb⟩; replace HB := Lib.hid (HB.out.trans (hb.mono HB.out.size)); clear hb))
        go_ret
        exact ⟨rfl, HB.out⟩
      · cases q
        · have HP : Hid (true = true → ¬ (k2 : Int) < k1) := Lib.hid (fun _ => HP.out rfl)
          have hkk := HP.out rfl
          clear HP
          by_cases h1' : (FloatKind.f64.format.order a 1614679632300144556 == some .lt) = true
          · have h1 : (FloatKind.f64.format.order a 1614679632300144556 == some .lt) = true := h1'
            clear HN h1'
            go_enter Try.func14, Try.ntmps14
            go_wp2_with (first
              | (go_at_call 34; refine (AW.out _).mono ?_; rintro e w' ⟨rfl, hb⟩; replace HB := Lib.hid (HB.out.trans (hb.mono HB.out.size)); clear hb)
              | (go_at_call 41; (with_reducible refine (I1.out _).mono ?_); rintro e w' ⟨rfl, rfl⟩)
              | (go_at_call 41; (with_reducible refine (I2.out _).mono ?_); rintro e w' ⟨rfl, rfl⟩)
              | (go_at_call 39; (with_reducible refine (C1.out _).mono ?_); rintro e w' ⟨rfl, hb⟩; replace HB := Lib.hid (HB.out.trans (hb.mono HB.out.size)); clear hb)
              | (go_at_call 39; (with_reducible refine (C2.out _).mono ?_); rintro e w' ⟨rfl, hb⟩; replace HB := Lib.hid (HB.out.trans (hb.mono HB.out.size)); clear hb))
            go_ret
            exact ⟨rfl, HB.out⟩
          have h1 : (FloatKind.f64.format.order a 1614679632300144556 == some .lt) = false := by simpa using h1'
          clear h1'
          by_cases h2' : (FloatKind.f64.format.order a 7598952565167317594 == some .gt) = true
          · have h2 : (FloatKind.f64.format.order a 7598952565167317594 == some .gt) = true := h2'
            clear HN h2'
            go_enter Try.func14, Try.ntmps14
            go_wp2_with (first
              | (go_at_call 34; refine (AW.out _).mono ?_; rintro e w' ⟨rfl, hb⟩; replace HB := Lib.hid (HB.out.trans (hb.mono HB.out.size)); clear hb)
              | (go_at_call 41; (with_reducible refine (I1.out _).mono ?_); rintro e w' ⟨rfl, rfl⟩)
              | (go_at_call 41; (with_reducible refine (I2.out _).mono ?_); rintro e w' ⟨rfl, rfl⟩)
              | (go_at_call 39; (with_reducible refine (C1.out _).mono ?_); rintro e w' ⟨rfl, hb⟩; replace HB := Lib.hid (HB.out.trans (hb.mono HB.out.size)); clear hb)
              | (go_at_call 39; (with_reducible refine (C2.out _).mono ?_); rintro e w' ⟨rfl, hb⟩; replace HB := Lib.hid (HB.out.trans (hb.mono HB.out.size)); clear hb))
            go_ret
            exact ⟨rfl, HB.out⟩
          have h2 : (FloatKind.f64.format.order a 7598952565167317594 == some .gt) = false := by simpa using h2'
          clear h2'
          by_cases h3' : (FloatKind.f64.format.order x 1614679632300144556 == some .lt) = true
          · have h3 : (FloatKind.f64.format.order x 1614679632300144556 == some .lt) = true := h3'
            clear HN h3'
            go_enter Try.func14, Try.ntmps14
            go_wp2_with (first
              | (go_at_call 34; refine (AW.out _).mono ?_; rintro e w' ⟨rfl, hb⟩; replace HB := Lib.hid (HB.out.trans (hb.mono HB.out.size)); clear hb)
              | (go_at_call 41; (with_reducible refine (I1.out _).mono ?_); rintro e w' ⟨rfl, rfl⟩)
              | (go_at_call 41; (with_reducible refine (I2.out _).mono ?_); rintro e w' ⟨rfl, rfl⟩)
              | (go_at_call 39; (with_reducible refine (C1.out _).mono ?_); rintro e w' ⟨rfl, hb⟩; replace HB := Lib.hid (HB.out.trans (hb.mono HB.out.size)); clear hb)
              | (go_at_call 39; (with_reducible refine (C2.out _).mono ?_); rintro e w' ⟨rfl, hb⟩; replace HB := Lib.hid (HB.out.trans (hb.mono HB.out.size)); clear hb))
            go_ret
            exact ⟨rfl, HB.out⟩
          have h3 : (FloatKind.f64.format.order x 1614679632300144556 == some .lt) = false := by simpa using h3'
          clear h3'
          by_cases h4' : (FloatKind.f64.format.order x 7598952565167317594 == some .gt) = true
          · have h4 : (FloatKind.f64.format.order x 7598952565167317594 == some .gt) = true := h4'
            clear HN h4'
            go_enter Try.func14, Try.ntmps14
            go_wp2_with (first
              | (go_at_call 34; refine (AW.out _).mono ?_; rintro e w' ⟨rfl, hb⟩; replace HB := Lib.hid (HB.out.trans (hb.mono HB.out.size)); clear hb)
              | (go_at_call 41; (with_reducible refine (I1.out _).mono ?_); rintro e w' ⟨rfl, rfl⟩)
              | (go_at_call 41; (with_reducible refine (I2.out _).mono ?_); rintro e w' ⟨rfl, rfl⟩)
              | (go_at_call 39; (with_reducible refine (C1.out _).mono ?_); rintro e w' ⟨rfl, hb⟩; replace HB := Lib.hid (HB.out.trans (hb.mono HB.out.size)); clear hb)
              | (go_at_call 39; (with_reducible refine (C2.out _).mono ?_); rintro e w' ⟨rfl, hb⟩; replace HB := Lib.hid (HB.out.trans (hb.mono HB.out.size)); clear hb))
            go_ret
            exact ⟨rfl, HB.out⟩
          have h4 : (FloatKind.f64.format.order x 7598952565167317594 == some .gt) = false := by simpa using h4'
          clear h4'
          obtain ⟨x2, a2, hm1, hm2, C3⟩ := HN.out h1 h2 h3 h4
          clear HN
          go_enter Try.func14, Try.ntmps14
          go_wp2_with (first
            | (go_at_call 34; refine (AW.out _).mono ?_; rintro e w' ⟨rfl, hb⟩; replace HB := Lib.hid (HB.out.trans (hb.mono HB.out.size)); clear hb)
            | (go_at_call 41; (with_reducible refine (I1.out _).mono ?_); rintro e w' ⟨rfl, rfl⟩)
            | (go_at_call 41; (with_reducible refine (I2.out _).mono ?_); rintro e w' ⟨rfl, rfl⟩)
            | (go_at_call 39; (with_reducible refine (C1.out _).mono ?_); rintro e w' ⟨rfl, hb⟩; replace HB := Lib.hid (HB.out.trans (hb.mono HB.out.size)); clear hb)
            | (go_at_call 39; (with_reducible refine (C2.out _).mono ?_); rintro e w' ⟨rfl, hb⟩; replace HB := Lib.hid (HB.out.trans (hb.mono HB.out.size)); clear hb)
            | (go_at_call 39; (with_reducible refine (C3.out _).mono ?_); rintro e w' ⟨rfl, hb⟩; replace HB := Lib.hid (HB.out.trans (hb.mono HB.out.size)); clear hb))
          go_ret
          exact ⟨rfl, HB.out⟩
        · clear HP HN C1 C2
          go_enter Try.func14, Try.ntmps14
          go_wp2_with (first
            | (go_at_call 34; refine (AW.out _).mono ?_; rintro e w' ⟨rfl, hb⟩; replace HB := Lib.hid (HB.out.trans (hb.mono HB.out.size)); clear hb)
            | (go_at_call 41; (with_reducible refine (I1.out _).mono ?_); rintro e w' ⟨rfl, rfl⟩)
            | (go_at_call 41; (with_reducible refine (I2.out _).mono ?_); rintro e w' ⟨rfl, rfl⟩))
          go_ret
          exact ⟨rfl, HB.out⟩
  · have HP : Hid ((p && q) = false → ¬ (k2 : Int) < k1) := Lib.hid (fun h => HG.out (.inl g3) h)
    clear HG
    cases p
    · have HP : Hid (true = true → ¬ (k2 : Int) < k1) := Lib.hid (fun _ => HP.out rfl)
      clear I2
      have hkk := HP.out rfl
      clear HP
      by_cases h1' : (FloatKind.f64.format.order a 1614679632300144556 == some .lt) = true
      · have h1 : (FloatKind.f64.format.order a 1614679632300144556 == some .lt) = true := h1'
        clear HN h1'
        go_enter Try.func14, Try.ntmps14
        go_wp2_with (first
          | (go_at_call 34; refine (AW.out _).mono ?_; rintro e w' ⟨rfl, hb⟩; replace HB := Lib.hid (HB.out.trans (hb.mono HB.out.size)); clear hb)
          | (go_at_call 41; (with_reducible refine (I1.out _).mono ?_); rintro e w' ⟨rfl, rfl⟩)
          | (go_at_call 39; (with_reducible refine (C1.out _).mono ?_); rintro e w' ⟨rfl, hb⟩; replace HB := Lib.hid (HB.out.trans (hb.mono HB.out.size)); clear hb)
          | (go_at_call 39; (with_reducible refine (C2.out _).mono ?_); rintro e w' ⟨rfl, hb⟩; replace HB := Lib.hid (HB.out.trans (hb.mono HB.out.size)); clear hb))
        go_ret
        exact ⟨rfl, HB.out⟩
      have h1 : (FloatKind.f64.format.order a 1614679632300144556 == some .lt) = false := by simpa using h1'
      clear h1'
      by_cases h2' : (FloatKind.f64.format.order a 7598952565167317594 == some .gt) = true
      · have h2 : (FloatKind.f64.format.order a 7598952565167317594 == some .gt) = true := h2'
        clear HN h2'
        go_enter Try.func14, Try.ntmps14
        go_wp2_with (first
          | (go_at_call 34; refine (AW.out _).mono ?_; rintro e w' ⟨rfl, hb⟩; replace HB := Lib.hid (HB.out.trans (hb.mono HB.out.size)); clear hb)
          | (go_at_call 41; (with_reducible refine (I1.out _).mono ?_); rintro e w' ⟨rfl, rfl⟩)
          | (go_at_call 39; (with_reducible refine (C1.out _).mono ?_); rintro e w' ⟨rfl, hb⟩; replace HB := Lib.hid (HB.out.trans (hb.mono HB.out.size)); clear hb)
          | (go_at_call 39; (with_reducible refine (C2.out _).mono ?_); rintro e w' ⟨rfl, hb⟩; replace HB := Lib.hid (HB.out.trans (hb.mono HB.out.size)); clear hb))
        go_ret
        exact ⟨rfl, HB.out⟩
      have h2 : (FloatKind.f64.format.order a 7598952565167317594 == some .gt) = false := by simpa using h2'
      clear h2'
      by_cases h3' : (FloatKind.f64.format.order x 1614679632300144556 == some .lt) = true
      · have h3 : (FloatKind.f64.format.order x 1614679632300144556 == some .lt) = true := h3'
        clear HN h3'
        go_enter Try.func14, Try.ntmps14
        go_wp2_with (first
          | (go_at_call 34; refine (AW.out _).mono ?_; rintro e w' ⟨rfl, hb⟩; replace HB := Lib.hid (HB.out.trans (hb.mono HB.out.size)); clear hb)
          | (go_at_call 41; (with_reducible refine (I1.out _).mono ?_); rintro e w' ⟨rfl, rfl⟩)
          | (go_at_call 39; (with_reducible refine (C1.out _).mono ?_); rintro e w' ⟨rfl, hb⟩; replace HB := Lib.hid (HB.out.trans (hb.mono HB.out.size)); clear hb)
          | (go_at_call 39; (with_reducible refine (C2.out _).mono ?_); rintro e w' ⟨rfl, hb⟩; replace HB := Lib.hid (HB.out.trans (hb.mono HB.out.size)); clear hb))
        go_ret
        exact ⟨rfl, HB.out⟩
      have h3 : (FloatKind.f64.format.order x 1614679632300144556 == some .lt) = false := by simpa using h3'
      clear h3'
      by_cases h4' : (FloatKind.f64.format.order x 7598952565167317594 == some .gt) = true
      · have h4 : (FloatKind.f64.format.order x 7598952565167317594 == some .gt) = true := h4'
        clear HN h4'
        go_enter Try.func14, Try.ntmps14
        go_wp2_with (first
          | (go_at_call 34; refine (AW.out _).mono ?_; rintro e w' ⟨rfl, hb⟩; replace HB := Lib.hid (HB.out.trans (hb.mono HB.out.size)); clear hb)
          | (go_at_call 41; (with_reducible refine (I1.out _).mono ?_); rintro e w' ⟨rfl, rfl⟩)
          | (go_at_call 39; (with_reducible refine (C1.out _).mono ?_); rintro e w' ⟨rfl, hb⟩; replace HB := Lib.hid (HB.out.trans (hb.mono HB.out.size)); clear hb)
          | (go_at_call 39; (with_reducible refine (C2.out _).mono ?_); rintro e w' ⟨rfl, hb⟩; replace HB := Lib.hid (HB.out.trans (hb.mono HB.out.size)); clear hb))
        go_ret
        exact ⟨rfl, HB.out⟩
      have h4 : (FloatKind.f64.format.order x 7598952565167317594 == some .gt) = false := by simpa using h4'
      clear h4'
      obtain ⟨x2, a2, hm1, hm2, C3⟩ := HN.out h1 h2 h3 h4
      clear HN
      go_enter Try.func14, Try.ntmps14
      go_wp2_with (first
        | (go_at_call 34; refine (AW.out _).mono ?_; rintro e w' ⟨rfl, hb⟩; replace HB := Lib.hid (HB.out.trans (hb.mono HB.out.size)); clear hb)
        | (go_at_call 41; (with_reducible refine (I1.out _).mono ?_); rintro e w' ⟨rfl, rfl⟩)
        | (go_at_call 39; (with_reducible refine (C1.out _).mono ?_); rintro e w' ⟨rfl, hb⟩; replace HB := Lib.hid (HB.out.trans (hb.mono HB.out.size)); clear hb)
        | (go_at_call 39; (with_reducible refine (C2.out _).mono ?_); rintro e w' ⟨rfl, hb⟩; replace HB := Lib.hid (HB.out.trans (hb.mono HB.out.size)); clear hb)
        | (go_at_call 39; (with_reducible refine (C3.out _).mono ?_); rintro e w' ⟨rfl, hb⟩; replace HB := Lib.hid (HB.out.trans (hb.mono HB.out.size)); clear hb))
      go_ret
      exact ⟨rfl, HB.out⟩
    · cases q
      · have HP : Hid (true = true → ¬ (k2 : Int) < k1) := Lib.hid (fun _ => HP.out rfl)
        have hkk := HP.out rfl
        clear HP
        by_cases h1' : (FloatKind.f64.format.order a 1614679632300144556 == some .lt) = true
        · have h1 : (FloatKind.f64.format.order a 1614679632300144556 == some .lt) = true := h1'
          clear HN h1'
          go_enter Try.func14, Try.ntmps14
          go_wp2_with (first
            | (go_at_call 34; refine (AW.out _).mono ?_; rintro e w' ⟨rfl, hb⟩; replace HB := Lib.hid (HB.out.trans (hb.mono HB.out.size)); clear hb)
            | (go_at_call 41; (with_reducible refine (I1.out _).mono ?_); rintro e w' ⟨rfl, rfl⟩)
            | (go_at_call 41; (with_reducible refine (I2.out _).mono ?_); rintro e w' ⟨rfl, rfl⟩)
            | (go_at_call 39; (with_reducible refine (C1.out _).mono ?_); rintro e w' ⟨rfl, hb⟩; replace HB := Lib.hid (HB.out.trans (hb.mono HB.out.size)); clear hb)
            | (go_at_call 39; (with_reducible refine (C2.out _).mono ?_); rintro e w' ⟨rfl, hb⟩; replace HB := Lib.hid (HB.out.trans (hb.mono HB.out.size)); clear hb))
          go_ret
          exact ⟨rfl, HB.out⟩
        have h1 : (FloatKind.f64.format.order a 1614679632300144556 == some .lt) = false := by simpa using h1'
        clear h1'
        by_cases h2' : (FloatKind.f64.format.order a 7598952565167317594 == some .gt) = true
        · have h2 : (FloatKind.f64.format.order a 7598952565167317594 == some .gt) = true := h2'
          clear HN h2'
          go_enter Try.func14, Try.ntmps14
          go_wp2_with (first
            | (go_at_call 34; refine (AW.out _).mono ?_; rintro e w' ⟨rfl, hb⟩; replace HB := Lib.hid (HB.out.trans (hb.mono HB.out.size)); clear hb)
            | (go_at_call 41; (with_reducible refine (I1.out _).mono ?_); rintro e w' ⟨rfl, rfl⟩)
            | (go_at_call 41; (with_reducible refine (I2.out _).mono ?_); rintro e w' ⟨rfl, rfl⟩)
            | (go_at_call 39; (with_reducible refine (C1.out _).mono ?_); rintro e w' ⟨rfl, hb⟩; replace HB := Lib.hid (HB.out.trans (hb.mono HB.out.size)); clear hb)
            | (go_at_call 39; (with_reducible refine (C2.out _).mono ?_); rintro e w' ⟨rfl, hb⟩; replace HB := Lib.hid (HB.out.trans (hb.mono HB.out.size)); clear hb))
          go_ret
          exact ⟨rfl, HB.out⟩
        have h2 : (FloatKind.f64.format.order a 7598952565167317594 == some .gt) = false := by simpa using h2'
        clear h2'
        by_cases h3' : (FloatKind.f64.format.order x 1614679632300144556 == some .lt) = true
        · have h3 : (FloatKind.f64.format.order x 1614679632300144556 == some .lt) = true := h3'
          clear HN h3'
          go_enter Try.func14, Try.ntmps14
          go_wp2_with (first
            | (go_at_call 34; refine (AW.out _).mono ?_; rintro e w' ⟨rfl, hb⟩; replace HB := Lib.hid (HB.out.trans (hb.mono HB.out.size)); clear hb)
            | (go_at_call 41; (with_reducible refine (I1.out _).mono ?_); rintro e w' ⟨rfl, rfl⟩)
            | (go_at_call 41; (with_reducible refine (I2.out _).mono ?_); rintro e w' ⟨rfl, rfl⟩)
            | (go_at_call 39; (with_reducible refine (C1.out _).mono ?_); rintro e w' ⟨rfl, hb⟩; replace HB := Lib.hid (HB.out.trans (hb.mono HB.out.size)); clear hb)
            | (go_at_call 39; (with_reducible refine (C2.out _).mono ?_); rintro e w' ⟨rfl, hb⟩; replace HB := Lib.hid (HB.out.trans (hb.mono HB.out.size)); clear hb))
          go_ret
          exact ⟨rfl, HB.out⟩
        have h3 : (FloatKind.f64.format.order x 1614679632300144556 == some .lt) = false := by simpa using h3'
        clear h3'
        by_cases h4' : (FloatKind.f64.format.order x 7598952565167317594 == some .gt) = true
        · have h4 : (FloatKind.f64.format.order x 7598952565167317594 == some .gt) = true := h4'
          clear HN h4'
          go_enter Try.func14, Try.ntmps14
          go_wp2_with (first
            | (go_at_call 34; refine (AW.out _).mono ?_; rintro e w' ⟨rfl, hb⟩; replace HB := Lib.hid (HB.out.trans (hb.mono HB.out.size)); clear hb)
            | (go_at_call 41; (with_reducible refine (I1.out _).mono ?_); rintro e w' ⟨rfl, rfl⟩)
            | (go_at_call 41; (with_reducible refine (I2.out _).mono ?_); rintro e w' ⟨rfl, rfl⟩)
            | (go_at_call 39; (with_reducible refine (C1.out _).mono ?_); rintro e w' ⟨rfl, hb⟩; replace HB := Lib.hid (HB.out.trans (hb.mono HB.out.size)); clear hb)
            | (go_at_call 39; (with_reducible refine (C2.out _).mono ?_); rintro e w' ⟨rfl, hb⟩; replace HB := Lib.hid (HB.out.trans (hb.mono HB.out.size)); clear hb))
          go_ret
          exact ⟨rfl, HB.out⟩
        have h4 : (FloatKind.f64.format.order x 7598952565167317594 == some .gt) = false := by simpa using h4'
        clear h4'
        obtain ⟨x2, a2, hm1, hm2, C3⟩ := HN.out h1 h2 h3 h4
        clear HN
        go_enter Try.func14, Try.ntmps14
        go_wp2_with (first
          | (go_at_call 34; refine (AW.out _).mono ?_; rintro e w' ⟨rfl, hb⟩; replace HB := Lib.hid (HB.out.trans (hb.mono HB.out.size)); clear hb)
          | (go_at_call 41; (with_reducible refine (I1.out _).mono ?_); rintro e w' ⟨rfl, rfl⟩)
          | (go_at_call 41; (with_reducible refine (I2.out _).mono ?_); rintro e w' ⟨rfl, rfl⟩)
          | (go_at_call 39; (with_reducible refine (C1.out _).mono ?_); rintro e w' ⟨rfl, hb⟩; replace HB := Lib.hid (HB.out.trans (hb.mono HB.out.size)); clear hb)
          | (go_at_call 39; (with_reducible refine (C2.out _).mono ?_); rintro e w' ⟨rfl, hb⟩; replace HB := Lib.hid (HB.out.trans (hb.mono HB.out.size)); clear hb)
          | (go_at_call 39; (with_reducible refine (C3.out _).mono ?_); rintro e w' ⟨rfl, hb⟩; replace HB := Lib.hid (HB.out.trans (hb.mono HB.out.size)); clear hb))
        go_ret
        exact ⟨rfl, HB.out⟩
      · clear HP HN C1 C2
        go_enter Try.func14, Try.ntmps14
        go_wp2_with (first
          | (go_at_call 34; refine (AW.out _).mono ?_; rintro e w' ⟨rfl, hb⟩; replace HB := Lib.hid (HB.out.trans (hb.mono HB.out.size)); clear hb)
          | (go_at_call 41; (with_reducible refine (I1.out _).mono ?_); rintro e w' ⟨rfl, rfl⟩)
          | (go_at_call 41; (with_reducible refine (I2.out _).mono ?_); rintro e w' ⟨rfl, rfl⟩))
        go_ret
        exact ⟨rfl, HB.out⟩

theorem walkGaugeFaster (a0 a1 a2 : Nat) (w : World) (w0 : (Lit.float .f64 a0).wf = true) (w1 : (Lit.float .f64 a1).wf = true) (w2 : (Lit.float .f64 a2).wf = true) :
    Calls Try.prog 14 #[.float .f64 a0, .float .f64 a1, .float .f64 a2] w fun e w' => e = .returned (.bool true) ∧ Below w.heap.size w w' := by
  have hx : a0 < 18446744073709551616 := by simpa [Lit.wf] using w0
  have ha : a1 < 18446744073709551616 := by simpa [Lit.wf] using w1
  refine walkFast a0 a1 a2 (costD a0 a2) (costD a0 a1) w (pinfB a2) (pinfB a0) (Lib.hid awakeG_any) (Lib.hid fun w => isInf_pos a2 w) (Lib.hid fun w => isInf_pos a0 w) (Lib.hid fun w => cost_any a0 a2 w) (Lib.hid fun w => cost_any a0 a1 w) (Lib.hid ?_) (Lib.hid ?_)
  · intro g1 g2 g3 hp
    obtain ⟨x1, x2, x3⟩ := pos_facts a0 g1
    obtain ⟨y1, y2, y3⟩ := pos_facts a1 g2
    obtain ⟨z1, z2, z3⟩ := ge_facts a1 a2 y1 y2 y3 g3
    have := faster a0 a1 a2 x1 y1 z1 x2 x3 y2 z3 z2 (by
      rintro ⟨e1, e2⟩
      unfold pinfB at hp
      rw [e1, e2, x1, z1] at hp
      exact absurd hp (by decide))
    omega
  · intro g1 g2 h1 h2 h3 h4
    obtain ⟨x1, x2, x3⟩ := pos_facts a0 g1
    obtain ⟨y1, y2, y3⟩ := pos_facts a1 g2
    have l1 := lo_facts a1 _ y1 y3 (by decide) h1
    have l2 := hi_facts a1 _ y1 y3 (by decide) h2
    have l3 := lo_facts a0 _ x1 x3 (by decide) h3
    have l4 := hi_facts a0 _ x1 x3 (by decide) h4
    rw [rung_self a1 ha y1] at l1 l2
    rw [rung_self a0 hx x1] at l3 l4
    have hd := doubled a0 a1 (by omega) (by omega) (by omega) (by omega)
    refine ⟨_, _, fun w => run_mul_two a0 w (by omega) (by omega), fun w => run_mul_two a1 w (by omega) (by omega), Lib.hid fun w => ?_⟩
    rw [← hd]
    exact cost_any _ _ w
end Go.Proofs.Ytbafeffmcfldoaa
