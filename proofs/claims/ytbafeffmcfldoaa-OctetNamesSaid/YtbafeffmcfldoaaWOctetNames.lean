/- The walk of OctetNames: for every input the law returns true, and nothing that was there is written. No condition. -/
import Derived.Test.YtbafeffmcfldoaaAwake
import Derived.Test.YtbafeffmcfldoaaName
import Derived.Test.YtbafeffmcfldoaaDocParse
import Derived.Test.YtbafeffmcfldoaaRefWrite
namespace Go.Proofs.Ytbafeffmcfldoaa
open Go.RowKit
set_option linter.unusedVariables false

theorem ex_K (s : ByteArray) : ∃ K, K ≤ 14 ∧ (∀ i, i < K → okAt s i) ∧ (K < 14 → ¬ okAt s K) := by
  have h : ∀ n, n ≤ 14 → ∃ K, K ≤ n ∧ (∀ i, i < K → okAt s i) ∧ (K < n → ¬ okAt s K) := by
    intro n
    induction n with
    | zero => intro _; exact ⟨0, Nat.le_refl _, fun i hi => by omega, fun h => by omega⟩
    | succ n ih =>
      intro hn
      obtain ⟨K, h1, h2, h3⟩ := ih (by omega)
      by_cases hk : K < n
      · exact ⟨K, by omega, h2, fun _ => h3 hk⟩
      · obtain rfl : K = n := by omega
        by_cases ho : okAt s K
        · exact ⟨K + 1, by omega, fun i hi => by
            by_cases e : i = K
            · subst e; exact ho
            · exact h2 i (by omega), fun h => by omega⟩
        · exact ⟨K, by omega, h2, fun _ => ho⟩
  exact h 14 (by omega)

def R3 (c0 c1 c2 c3 c4 c5 k f : Int) : Ending := .returned (.tuple #[.agg #[.int .u8 c0, .int .u8 c1, .int .u8 c2, .int .u8 c3, .int .u8 c4, .int .u8 c5], .int .i64 k, .int .i64 f])

theorem parse_name (b0 b1 b2 b3 b4 b5 : Int) (w : World)
    (h0 : 0 ≤ b0 ∧ b0 ≤ 255) (h1 : 0 ≤ b1 ∧ b1 ≤ 255) (h2 : 0 ≤ b2 ∧ b2 ≤ 255) (h3 : 0 ≤ b3 ∧ b3 ≤ 255) (h4 : 0 ≤ b4 ∧ b4 ≤ 255) (h5 : 0 ≤ b5 ∧ b5 ≤ 255) :
    Calls Try.prog 31 #[.string (nameS b0 b1 b2 b3 b4 b5)] w fun e w' => e = R3 b0 b1 b2 b3 b4 b5 0 0 ∧ Below w.heap.size w w' := by
  have hsz := nameS_size b0 b1 b2 b3 b4 b5
  refine (parse_any (nameS b0 b1 b2 b3 b4 b5) 14 w (by rw [hsz]; decide) (Nat.le_refl _) (fun i hi => nameS_ok b0 b1 b2 b3 b4 b5 h0 h1 h2 h3 h4 h5 i hi) (fun h => by omega)).mono fun e w' h => ?_
  unfold ParsePost at h
  rw [if_neg (by omega), if_neg (by omega)] at h
  refine ⟨?_, h.2⟩
  rw [h.1]
  unfold parseOk R3
  rw [arrP_14]
  have d : ∀ i, i < 14 → i ≠ 4 → i ≠ 9 → digI (chI (nameS b0 b1 b2 b3 b4 b5) i) = (digN b0 b1 b2 b3 b4 b5).getD i 0 := by
    intro i hi g1 g2
    rcases nameS_dig b0 b1 b2 b3 b4 b5 h0 h1 h2 h3 h4 h5 i hi with ⟨h, _⟩ | ⟨_, e, _⟩
    · omega
    · exact e
  rw [d 0 (by omega) (by omega) (by omega), d 1 (by omega) (by omega) (by omega), d 2 (by omega) (by omega) (by omega), d 3 (by omega) (by omega) (by omega),
    d 5 (by omega) (by omega) (by omega), d 6 (by omega) (by omega) (by omega), d 7 (by omega) (by omega) (by omega), d 8 (by omega) (by omega) (by omega),
    d 10 (by omega) (by omega) (by omega), d 11 (by omega) (by omega) (by omega), d 12 (by omega) (by omega) (by omega), d 13 (by omega) (by omega) (by omega)]
  simp only [digN, List.getD_cons_zero, List.getD_cons_succ]
  rw [show b0 / 16 * 16 + b0 % 16 = b0 by omega, show b1 / 16 * 16 + b1 % 16 = b1 by omega, show b2 / 16 * 16 + b2 % 16 = b2 by omega, show b3 / 16 * 16 + b3 % 16 = b3 by omega, show b4 / 16 * 16 + b4 % 16 = b4 by omega, show b5 / 16 * 16 + b5 % 16 = b5 by omega]

theorem str_ext (s : ByteArray) (xs : List Int) (hl : s.size = xs.length) (h : ∀ i (hi : i < xs.length), 0 ≤ xs[i] ∧ xs[i] = chI s i) : strOfNums xs = s := by
  apply ByteArray.ext
  apply Array.ext
  · show (strOfNums xs).size = s.size
    rw [strOfNums_size, hl]
  · intro i hi1 hi2
    have hx : i < xs.length := by rw [← hl]; exact hi2
    obtain ⟨h0, h1⟩ := h i hx
    have hs := chI_at s i hi2
    have : (strOfNums xs).data[i] = UInt8.ofNat xs[i].toNat := by simp [strOfNums]
    rw [this, h1, ← hs]
    simp [ByteArray.getElem_eq_getElem_data]

theorem name_of (s : ByteArray) (hs : s.size = 14) (hok : ∀ i, i < 14 → okAt s i) :
    nameS (digI (chI s 0) * 16 + digI (chI s 1)) (digI (chI s 2) * 16 + digI (chI s 3)) (digI (chI s 5) * 16 + digI (chI s 6)) (digI (chI s 7) * 16 + digI (chI s 8)) (digI (chI s 10) * 16 + digI (chI s 11)) (digI (chI s 12) * 16 + digI (chI s 13)) = s := by
  have d : ∀ i, i < 14 → i ≠ 4 → i ≠ 9 → 0 ≤ digI (chI s i) ∧ digI (chI s i) ≤ 15 ∧ hxI (digI (chI s i)) = chI s i := by
    intro i hi g1 g2
    have h := (hok i hi).2
    rw [if_neg (by omega)] at h
    exact ⟨h, (digI_bd _ h).1, hx_dig _ h⟩
  have p4 := (hok 4 (by omega)).2
  have p9 := (hok 9 (by omega)).2
  rw [if_pos (by omega)] at p4 p9
  have d0 := d 0 (by omega) (by omega) (by omega)
  have d1 := d 1 (by omega) (by omega) (by omega)
  have d2 := d 2 (by omega) (by omega) (by omega)
  have d3 := d 3 (by omega) (by omega) (by omega)
  have d5 := d 5 (by omega) (by omega) (by omega)
  have d6 := d 6 (by omega) (by omega) (by omega)
  have d7 := d 7 (by omega) (by omega) (by omega)
  have d8 := d 8 (by omega) (by omega) (by omega)
  have d10 := d 10 (by omega) (by omega) (by omega)
  have d11 := d 11 (by omega) (by omega) (by omega)
  have d12 := d 12 (by omega) (by omega) (by omega)
  have d13 := d 13 (by omega) (by omega) (by omega)
  have hb := chI_bd s
  unfold nameS
  refine str_ext s _ (by rw [hs]; rfl) fun i hi => ?_
  have hi14 : i < 14 := hi
  have dv : ∀ a b : Int, 0 ≤ b → b ≤ 15 → (a * 16 + b) / 16 = a ∧ (a * 16 + b) % 16 = b := fun a b _ _ => by omega
  unfold nameI
  simp only [(dv _ _ d1.1 d1.2.1).1, (dv _ _ d1.1 d1.2.1).2, (dv _ _ d3.1 d3.2.1).1, (dv _ _ d3.1 d3.2.1).2, (dv _ _ d6.1 d6.2.1).1, (dv _ _ d6.1 d6.2.1).2, (dv _ _ d8.1 d8.2.1).1, (dv _ _ d8.1 d8.2.1).2, (dv _ _ d11.1 d11.2.1).1, (dv _ _ d11.1 d11.2.1).2, (dv _ _ d13.1 d13.2.1).1, (dv _ _ d13.1 d13.2.1).2]
  simp only [d0.2.2, d1.2.2, d2.2.2, d3.2.2, d5.2.2, d6.2.2, d7.2.2, d8.2.2, d10.2.2, d11.2.2, d12.2.2, d13.2.2]
  rcases (by omega : i = 0 ∨ i = 1 ∨ i = 2 ∨ i = 3 ∨ i = 4 ∨ i = 5 ∨ i = 6 ∨ i = 7 ∨ i = 8 ∨ i = 9 ∨ i = 10 ∨ i = 11 ∨ i = 12 ∨ i = 13) with rfl | rfl | rfl | rfl | rfl | rfl | rfl | rfl | rfl | rfl | rfl | rfl | rfl | rfl
  case' inr.inr.inr.inr.inl => exact ⟨show (0 : Int) ≤ 46 by decide, p4.symm⟩
  case' inr.inr.inr.inr.inr.inr.inr.inr.inr.inl => exact ⟨show (0 : Int) ≤ 46 by decide, p9.symm⟩
  all_goals exact ⟨(hb _).1, rfl⟩

set_option maxHeartbeats 4000000 in
set_option maxRecDepth 100000 in
theorem names_walk (b0 b1 b2 b3 b4 b5 : Int) (s : ByteArray) (c0 c1 c2 c3 c4 c5 k f : Int) (w : World)
    (g0 : 0 ≤ b0 ∧ b0 ≤ 255) (g1 : 0 ≤ b1 ∧ b1 ≤ 255) (g2 : 0 ≤ b2 ∧ b2 ≤ 255) (g3 : 0 ≤ b3 ∧ b3 ≤ 255) (g4 : 0 ≤ b4 ∧ b4 ≤ 255) (g5 : 0 ≤ b5 ∧ b5 ≤ 255)
    (hP : ∀ W, Calls Try.prog 31 #[.string s] W fun e w' => e = R3 c0 c1 c2 c3 c4 c5 k f ∧ Below W.heap.size W w')
    (hD : ∀ W, Calls Try.prog 32 #[.string s] W fun e w' => e = R3 c0 c1 c2 c3 c4 c5 k f ∧ Below W.heap.size W w')
    (hf : f = 5 ∨ (f = 0 ∧ ∀ W, Calls Try.prog 30 #[.agg #[.int .u8 c0, .int .u8 c1, .int .u8 c2, .int .u8 c3, .int .u8 c4, .int .u8 c5]] W fun e w' => e = .returned (.string s) ∧ Below W.heap.size W w')) :
    Calls Try.prog 7 #[.agg #[.int .u8 b0, .int .u8 b1, .int .u8 b2, .int .u8 b3, .int .u8 b4, .int .u8 b5], .string s] w fun e w' => e = .returned (.bool true) ∧ Below w.heap.size w w' := by
  have HW := Lib.hid fun W => write_name b0 b1 b2 b3 b4 b5 W g0 g1 g2 g3 g4 g5
  have HR := Lib.hid fun W => refWrite_any b0 b1 b2 b3 b4 b5 W g0 g1 g2 g3 g4 g5
  have HN := Lib.hid fun W => parse_name b0 b1 b2 b3 b4 b5 W g0 g1 g2 g3 g4 g5
  have HP := Lib.hid hP
  have HD := Lib.hid hD
  generalize nameS b0 b1 b2 b3 b4 b5 = S at *
  clear g0 g1 g2 g3 g4 g5 hP hD
  have hsame := same6
  rcases hf with rfl | ⟨rfl, hWA⟩
  · go_enter Try.func7, Try.ntmps7
    go_wp2_with fail
    refine (awake_any _).mono ?_
    rintro e w1 ⟨rfl, hb1⟩
    have q1 := heap_below hb1 (by simp) (heap_alloc_new w _)
    obtain ⟨x0, x1, x2, x3, x4, x5⟩ := six_at q1
    go_wp2_with fail
    refine (HW.out _).mono ?_
    rintro e w2 ⟨rfl, hb2⟩
    clear x0 x1 x2 x3 x4 x5
    go_wp2_with fail
    refine (HN.out _).mono ?_
    rintro e w3 ⟨rfl, hb3⟩
    unfold R3
    go_wp2_with fail
    refine (HP.out _).mono ?_
    rintro e w4 ⟨rfl, hb4⟩
    unfold R3
    go_wp2_with fail
    refine (HD.out _).mono ?_
    rintro e w5 ⟨rfl, hb5⟩
    unfold R3
    have i1 : w.heap.size < w1.heap.size := by have := hb1.size; simp at this; omega
    have i2 : w1.heap.size ≤ w2.heap.size := hb2.size
    have i3 : w2.heap.size ≤ w3.heap.size := hb3.size
    have i4 : w3.heap.size < w4.heap.size := by have := hb4.size; simp at this; omega
    have i5 : w4.heap.size < w5.heap.size := by have := hb5.size; simp at this; omega
    have q2 := heap_below hb2 i1 q1
    have q3 := heap_below hb3 (by omega) q2
    have q4 := heap_below hb4 (by simp; omega) ((Below.heap_alloc w3 _ _ (by omega)).trans q3)
    have q5 := heap_below hb5 (by simp; omega) ((Below.heap_alloc w4 _ _ (by omega)).trans q4)
    have r4 := heap_below hb4 (by simp) (heap_alloc_new w3 _)
    have r5 := heap_below hb5 (by simp; omega) ((Below.heap_alloc w4 _ _ (by omega)).trans r4)
    have s5 := heap_below hb5 (by simp) (heap_alloc_new w4 _)
    obtain ⟨x0, x1, x2, x3, x4, x5⟩ := six_at q5
    have i6 : w.heap.size < w5.heap.size := by omega
    go_wp2_with fail
    refine (HR.out _).mono ?_
    rintro e w6 ⟨rfl, hb6⟩
    have q6 := heap_below hb6 (by simp; omega) ((Below.heap_alloc w5 _ _ (by omega)).trans q5)
    have r6 := heap_below hb6 (by simp; omega) ((Below.heap_alloc w5 _ _ (by omega)).trans r5)
    have s6 := heap_below hb6 (by simp; omega) ((Below.heap_alloc w5 _ _ (by omega)).trans s5)
    have t6 := heap_below hb6 (by simp) (heap_alloc_new w5 _)
    clear x0 x1 x2 x3 x4 x5
    obtain ⟨x0, x1, x2, x3, x4, x5⟩ := six_at q6
    obtain ⟨y0, y1, y2, y3, y4, y5⟩ := six_at r6
    obtain ⟨u0, u1, u2, u3, u4, u5⟩ := six_at s6
    obtain ⟨v0, v1, v2, v3, v4, v5⟩ := six_at t6
    clear q1 q2 q3 q4 q5 q6 r4 r5 r6 s5 s6 t6
    have B6 := bnext (balloc (bnext (balloc (bnext (balloc (bnext (bnext (bnext (balloc (bself w) _) hb1) hb2) hb3) _) hb4) _) hb5) _) hb6
    go_wp2
    go_ret
    exact ⟨rfl, B6⟩
  · have HA := Lib.hid hWA
    clear hWA
    go_enter Try.func7, Try.ntmps7
    go_wp2_with fail
    refine (awake_any _).mono ?_
    rintro e w1 ⟨rfl, hb1⟩
    have q1 := heap_below hb1 (by simp) (heap_alloc_new w _)
    obtain ⟨x0, x1, x2, x3, x4, x5⟩ := six_at q1
    go_wp2_with fail
    refine (HW.out _).mono ?_
    rintro e w2 ⟨rfl, hb2⟩
    clear x0 x1 x2 x3 x4 x5
    go_wp2_with fail
    refine (HN.out _).mono ?_
    rintro e w3 ⟨rfl, hb3⟩
    unfold R3
    go_wp2_with fail
    refine (HP.out _).mono ?_
    rintro e w4 ⟨rfl, hb4⟩
    unfold R3
    go_wp2_with fail
    refine (HD.out _).mono ?_
    rintro e w5 ⟨rfl, hb5⟩
    unfold R3
    have i1 : w.heap.size < w1.heap.size := by have := hb1.size; simp at this; omega
    have i2 : w1.heap.size ≤ w2.heap.size := hb2.size
    have i3 : w2.heap.size ≤ w3.heap.size := hb3.size
    have i4 : w3.heap.size < w4.heap.size := by have := hb4.size; simp at this; omega
    have i5 : w4.heap.size < w5.heap.size := by have := hb5.size; simp at this; omega
    have q2 := heap_below hb2 i1 q1
    have q3 := heap_below hb3 (by omega) q2
    have q4 := heap_below hb4 (by simp; omega) ((Below.heap_alloc w3 _ _ (by omega)).trans q3)
    have q5 := heap_below hb5 (by simp; omega) ((Below.heap_alloc w4 _ _ (by omega)).trans q4)
    have r4 := heap_below hb4 (by simp) (heap_alloc_new w3 _)
    have r5 := heap_below hb5 (by simp; omega) ((Below.heap_alloc w4 _ _ (by omega)).trans r4)
    have s5 := heap_below hb5 (by simp) (heap_alloc_new w4 _)
    obtain ⟨x0, x1, x2, x3, x4, x5⟩ := six_at q5
    have i6 : w.heap.size < w5.heap.size := by omega
    go_wp2_with fail
    refine (HR.out _).mono ?_
    rintro e w6 ⟨rfl, hb6⟩
    have q6 := heap_below hb6 (by simp; omega) ((Below.heap_alloc w5 _ _ (by omega)).trans q5)
    have r6 := heap_below hb6 (by simp; omega) ((Below.heap_alloc w5 _ _ (by omega)).trans r5)
    have s6 := heap_below hb6 (by simp; omega) ((Below.heap_alloc w5 _ _ (by omega)).trans s5)
    have t6 := heap_below hb6 (by simp) (heap_alloc_new w5 _)
    clear x0 x1 x2 x3 x4 x5
    obtain ⟨x0, x1, x2, x3, x4, x5⟩ := six_at q6
    obtain ⟨y0, y1, y2, y3, y4, y5⟩ := six_at r6
    obtain ⟨u0, u1, u2, u3, u4, u5⟩ := six_at s6
    obtain ⟨v0, v1, v2, v3, v4, v5⟩ := six_at t6
    clear q1 q2 q3 q4 q5 q6 r4 r5 r6 s5 s6 t6
    have B6 := bnext (balloc (bnext (balloc (bnext (balloc (bnext (bnext (bnext (balloc (bself w) _) hb1) hb2) hb3) _) hb4) _) hb5) _) hb6
    go_wp2_with (refine (HA.out _).mono ?_; rintro e w7 ⟨rfl, hb7⟩)
    go_ret
    exact ⟨rfl, bnext B6 hb7⟩

theorem walkOctetNames (a00 a01 a02 a03 a04 a05 : Int) (a1 : ByteArray) (w : World)
    (w00 : 0 ≤ a00 ∧ a00 ≤ 255) (w01 : 0 ≤ a01 ∧ a01 ≤ 255) (w02 : 0 ≤ a02 ∧ a02 ≤ 255) (w03 : 0 ≤ a03 ∧ a03 ≤ 255) (w04 : 0 ≤ a04 ∧ a04 ≤ 255) (w05 : 0 ≤ a05 ∧ a05 ≤ 255) (w1 : a1.size ≤ maxLen) :
    Calls Try.prog 7 #[.agg #[.int .u8 a00, .int .u8 a01, .int .u8 a02, .int .u8 a03, .int .u8 a04, .int .u8 a05], .string a1] w fun e w' => e = .returned (.bool true) ∧ Below w.heap.size w w' := by
  obtain ⟨K, hK, hg, hb⟩ := ex_K a1
  have hP := fun W => parse_any a1 K W w1 hK hg hb
  have hD := fun W => docParse_any a1 K W w1 hK hg hb
  unfold ParsePost at hP hD
  by_cases h1 : K < 14
  · simp only [if_pos h1] at hP hD
    exact names_walk a00 a01 a02 a03 a04 a05 a1 0 0 0 0 0 0 K 5 w w00 w01 w02 w03 w04 w05 hP hD (.inl rfl)
  · simp only [if_neg h1] at hP hD
    obtain rfl : K = 14 := by omega
    by_cases h2 : 14 < a1.size
    · simp only [if_pos h2] at hP hD
      exact names_walk a00 a01 a02 a03 a04 a05 a1 0 0 0 0 0 0 14 5 w w00 w01 w02 w03 w04 w05 hP hD (.inl rfl)
    · simp only [if_neg h2] at hP hD
      have h13 := (hg 13 (by omega)).1
      have hs : a1.size = 14 := by omega
      have hn := name_of a1 hs hg
      unfold parseOk at hP hD
      rw [arrP_14] at hP hD
      refine names_walk a00 a01 a02 a03 a04 a05 a1 _ _ _ _ _ _ 0 0 w w00 w01 w02 w03 w04 w05 hP hD (.inr ⟨rfl, fun W => ?_⟩)
      have d : ∀ i, i < 14 → i ≠ 4 → i ≠ 9 → 0 ≤ digI (chI a1 i) ∧ digI (chI a1 i) ≤ 15 := by
        intro i hi g1 g2
        have h := (hg i hi).2
        rw [if_neg (by omega)] at h
        exact ⟨h, (digI_bd _ h).1⟩
      have d0 := d 0 (by omega) (by omega) (by omega)
      have d1 := d 1 (by omega) (by omega) (by omega)
      have d2 := d 2 (by omega) (by omega) (by omega)
      have d3 := d 3 (by omega) (by omega) (by omega)
      have d5 := d 5 (by omega) (by omega) (by omega)
      have d6 := d 6 (by omega) (by omega) (by omega)
      have d7 := d 7 (by omega) (by omega) (by omega)
      have d8 := d 8 (by omega) (by omega) (by omega)
      have d10 := d 10 (by omega) (by omega) (by omega)
      have d11 := d 11 (by omega) (by omega) (by omega)
      have d12 := d 12 (by omega) (by omega) (by omega)
      have d13 := d 13 (by omega) (by omega) (by omega)
      have hw := write_name _ _ _ _ _ _ W (show 0 ≤ digI (chI a1 0) * 16 + digI (chI a1 1) ∧ digI (chI a1 0) * 16 + digI (chI a1 1) ≤ 255 by omega) (show 0 ≤ digI (chI a1 2) * 16 + digI (chI a1 3) ∧ digI (chI a1 2) * 16 + digI (chI a1 3) ≤ 255 by omega) (show 0 ≤ digI (chI a1 5) * 16 + digI (chI a1 6) ∧ digI (chI a1 5) * 16 + digI (chI a1 6) ≤ 255 by omega) (show 0 ≤ digI (chI a1 7) * 16 + digI (chI a1 8) ∧ digI (chI a1 7) * 16 + digI (chI a1 8) ≤ 255 by omega) (show 0 ≤ digI (chI a1 10) * 16 + digI (chI a1 11) ∧ digI (chI a1 10) * 16 + digI (chI a1 11) ≤ 255 by omega) (show 0 ≤ digI (chI a1 12) * 16 + digI (chI a1 13) ∧ digI (chI a1 12) * 16 + digI (chI a1 13) ≤ 255 by omega)
      rw [hn] at hw
      exact hw
end Go.Proofs.Ytbafeffmcfldoaa
