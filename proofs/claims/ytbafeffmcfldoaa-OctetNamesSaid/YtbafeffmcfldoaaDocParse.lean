/- waymarkref01.DocParse answers what octet.Parse answers. Each theorem states its conditions. -/
import Derived.Test.YtbafeffmcfldoaaRows
import Derived.Test.YtbafeffmcfldoaaName
import Derived.WalkKit
import Derived.WalkLawsBesides
import Derived.WalkSpells
import Derived.IntWalk
import Derived.Outline
import Derived.Below
import Derived.Lib.Hide
namespace Go.Proofs.Ytbafeffmcfldoaa
open Go.RowKit
set_option linter.unusedVariables false

theorem hxr (k : Nat) (h : k < (ByteArray.mk #[48, 49, 50, 51, 52, 53, 54, 55, 56, 57, 97, 98, 99, 100, 101, 102]).size) : ((((ByteArray.mk #[48, 49, 50, 51, 52, 53, 54, 55, 56, 57, 97, 98, 99, 100, 101, 102]))[k]'h).toNat : Int) = hxI k := by
  have h16 : k < 16 := h
  rcases (by omega : k = 0 ∨ k = 1 ∨ k = 2 ∨ k = 3 ∨ k = 4 ∨ k = 5 ∨ k = 6 ∨ k = 7 ∨ k = 8 ∨ k = 9 ∨ k = 10 ∨ k = 11 ∨ k = 12 ∨ k = 13 ∨ k = 14 ∨ k = 15) with rfl | rfl | rfl | rfl | rfl | rfl | rfl | rfl | rfl | rfl | rfl | rfl | rfl | rfl | rfl | rfl <;> rfl

/-- the digit that was found among the first k -/
def dkI (c : Int) (k : Nat) : Int := if 0 ≤ digI c ∧ digI c < k then digI c else -1
theorem dkI_0 (c : Int) : dkI c 0 = -1 := by unfold dkI; rw [if_neg (by omega)]
theorem dkI_16 (c : Int) (h : 0 ≤ digI c) : dkI c 16 = digI c := by
  have := (digI_bd c h).1
  unfold dkI; rw [if_pos (by omega)]
theorem dkI_16no (c : Int) (h : digI c < 0) : dkI c 16 = -1 := by unfold dkI; rw [if_neg (by omega)]
theorem dkI_yes (c : Int) (k : Nat) (hk : k < 16) (h : hxI k = c) : dkI c (k + 1) = k := by
  have := (hxI_bd k ⟨by omega, by omega⟩).2.2
  subst h
  unfold dkI
  rw [this, if_pos (by omega)]
theorem hx_dig (c : Int) (h : 0 ≤ digI c) : hxI (digI c) = c := by
  obtain ⟨h15, h1⟩ := digI_bd c h
  unfold hxI
  rcases h1 with ⟨a, b, e⟩ | ⟨a, b, e⟩ <;> rw [e] <;> split <;> omega
theorem dkI_no (c : Int) (k : Nat) (h : ¬ hxI k = c) : dkI c (k + 1) = dkI c k := by
  have hne : 0 ≤ digI c → digI c ≠ k := fun h0 e => h (by rw [← e]; exact hx_dig c h0)
  unfold dkI
  split <;> split <;> omega

def hlD (d : Nat → Int) (p q k : Nat) : Int := if q < k then 16 * d p + d q else if p < k then d p else 0
def arrD (d : Nat → Int) (k : Nat) : Array Value := #[.int .u8 (hlD d 0 1 k), .int .u8 (hlD d 2 3 k), .int .u8 (hlD d 5 6 k), .int .u8 (hlD d 7 8 k), .int .u8 (hlD d 10 11 k), .int .u8 (hlD d 12 13 k)]
def ndI (k : Nat) : Int := if k ≤ 4 then k else if k ≤ 9 then k - 1 else k - 2
theorem arrD_0 (d : Nat → Int) : arrD d 0 = #[.int .u8 0, .int .u8 0, .int .u8 0, .int .u8 0, .int .u8 0, .int .u8 0] := by simp [arrD, hlD]
theorem ndI_0 : ndI 0 = 0 := by decide
theorem arrD_1 (d : Nat → Int) : arrD d 1 = #[.int .u8 (d 0), .int .u8 0, .int .u8 0, .int .u8 0, .int .u8 0, .int .u8 0] := by simp [arrD, hlD]
theorem ndI_1 : ndI 1 = 1 := by decide
theorem arrD_2 (d : Nat → Int) : arrD d 2 = #[.int .u8 (16 * d 0 + d 1), .int .u8 0, .int .u8 0, .int .u8 0, .int .u8 0, .int .u8 0] := by simp [arrD, hlD]
theorem ndI_2 : ndI 2 = 2 := by decide
theorem arrD_3 (d : Nat → Int) : arrD d 3 = #[.int .u8 (16 * d 0 + d 1), .int .u8 (d 2), .int .u8 0, .int .u8 0, .int .u8 0, .int .u8 0] := by simp [arrD, hlD]
theorem ndI_3 : ndI 3 = 3 := by decide
theorem arrD_4 (d : Nat → Int) : arrD d 4 = #[.int .u8 (16 * d 0 + d 1), .int .u8 (16 * d 2 + d 3), .int .u8 0, .int .u8 0, .int .u8 0, .int .u8 0] := by simp [arrD, hlD]
theorem ndI_4 : ndI 4 = 4 := by decide
theorem arrD_5 (d : Nat → Int) : arrD d 5 = #[.int .u8 (16 * d 0 + d 1), .int .u8 (16 * d 2 + d 3), .int .u8 0, .int .u8 0, .int .u8 0, .int .u8 0] := by simp [arrD, hlD]
theorem ndI_5 : ndI 5 = 4 := by decide
theorem arrD_6 (d : Nat → Int) : arrD d 6 = #[.int .u8 (16 * d 0 + d 1), .int .u8 (16 * d 2 + d 3), .int .u8 (d 5), .int .u8 0, .int .u8 0, .int .u8 0] := by simp [arrD, hlD]
theorem ndI_6 : ndI 6 = 5 := by decide
theorem arrD_7 (d : Nat → Int) : arrD d 7 = #[.int .u8 (16 * d 0 + d 1), .int .u8 (16 * d 2 + d 3), .int .u8 (16 * d 5 + d 6), .int .u8 0, .int .u8 0, .int .u8 0] := by simp [arrD, hlD]
theorem ndI_7 : ndI 7 = 6 := by decide
theorem arrD_8 (d : Nat → Int) : arrD d 8 = #[.int .u8 (16 * d 0 + d 1), .int .u8 (16 * d 2 + d 3), .int .u8 (16 * d 5 + d 6), .int .u8 (d 7), .int .u8 0, .int .u8 0] := by simp [arrD, hlD]
theorem ndI_8 : ndI 8 = 7 := by decide
theorem arrD_9 (d : Nat → Int) : arrD d 9 = #[.int .u8 (16 * d 0 + d 1), .int .u8 (16 * d 2 + d 3), .int .u8 (16 * d 5 + d 6), .int .u8 (16 * d 7 + d 8), .int .u8 0, .int .u8 0] := by simp [arrD, hlD]
theorem ndI_9 : ndI 9 = 8 := by decide
theorem arrD_10 (d : Nat → Int) : arrD d 10 = #[.int .u8 (16 * d 0 + d 1), .int .u8 (16 * d 2 + d 3), .int .u8 (16 * d 5 + d 6), .int .u8 (16 * d 7 + d 8), .int .u8 0, .int .u8 0] := by simp [arrD, hlD]
theorem ndI_10 : ndI 10 = 8 := by decide
theorem arrD_11 (d : Nat → Int) : arrD d 11 = #[.int .u8 (16 * d 0 + d 1), .int .u8 (16 * d 2 + d 3), .int .u8 (16 * d 5 + d 6), .int .u8 (16 * d 7 + d 8), .int .u8 (d 10), .int .u8 0] := by simp [arrD, hlD]
theorem ndI_11 : ndI 11 = 9 := by decide
theorem arrD_12 (d : Nat → Int) : arrD d 12 = #[.int .u8 (16 * d 0 + d 1), .int .u8 (16 * d 2 + d 3), .int .u8 (16 * d 5 + d 6), .int .u8 (16 * d 7 + d 8), .int .u8 (16 * d 10 + d 11), .int .u8 0] := by simp [arrD, hlD]
theorem ndI_12 : ndI 12 = 10 := by decide
theorem arrD_13 (d : Nat → Int) : arrD d 13 = #[.int .u8 (16 * d 0 + d 1), .int .u8 (16 * d 2 + d 3), .int .u8 (16 * d 5 + d 6), .int .u8 (16 * d 7 + d 8), .int .u8 (16 * d 10 + d 11), .int .u8 (d 12)] := by simp [arrD, hlD]
theorem ndI_13 : ndI 13 = 11 := by decide
theorem arrD_14 (d : Nat → Int) : arrD d 14 = #[.int .u8 (16 * d 0 + d 1), .int .u8 (16 * d 2 + d 3), .int .u8 (16 * d 5 + d 6), .int .u8 (16 * d 7 + d 8), .int .u8 (16 * d 10 + d 11), .int .u8 (16 * d 12 + d 13)] := by simp [arrD, hlD]
theorem ndI_14 : ndI 14 = 12 := by decide
theorem arrD_P (d : Nat → Int) : arrD d 14 = arrP d 14 := by rw [arrD_14, arrP_14]; simp only [Int.mul_comm 16]
theorem docparse_below (w : World) (A B : Array Value) : Below w.heap.size w ((w.alloc (.cells A 55)).alloc (.cells B 55)) :=
  ((Below.refl _ _).alloc (Nat.le_refl _) _).alloc (by simp) _

set_option maxHeartbeats 8000000 in
set_option maxRecDepth 100000 in
theorem docParse_any (s : ByteArray) (K : Nat) (w : World) (hs : s.size ≤ maxLen) (hK : K ≤ 14) (hg : ∀ i, i < K → okAt s i) (hb : K < 14 → ¬ okAt s K) :
    Calls Try.prog 32 #[.string s] w (ParsePost s K w) := by
  unfold maxLen at hs
  have HG := Lib.hid hg
  have HB := Lib.hid hb
  clear hg hb
  have hxr := hxr
  go_enter Try.func32, Try.ntmps32
  go_wp2
  go_loopw [6, 7] (fun n t wr => ∃ k : Nat, k ≤ K ∧ t = .int .i64 k ∧ n = .int .i64 (ndI k) ∧ wr = (w.alloc (.cells #[.int .u8 0, .int .u8 0, .int .u8 0, .int .u8 0, .int .u8 0, .int .u8 0] 55)).alloc (.cells (arrD (fun i => digI (chI s i)) k) 55)) (fun _ t _ => 15 - (intOf t).toNat)
  case atStart => exact ⟨0, Nat.zero_le _, rfl, rfl, by rw [arrD_0]⟩
  case round =>
    obtain ⟨k, hk, rfl, rfl, rfl⟩ := hrel
    rcases (by omega : k = 0 ∨ k = 1 ∨ k = 2 ∨ k = 3 ∨ k = 4 ∨ k = 5 ∨ k = 6 ∨ k = 7 ∨ k = 8 ∨ k = 9 ∨ k = 10 ∨ k = 11 ∨ k = 12 ∨ k = 13 ∨ k = 14) with rfl | rfl | rfl | rfl | rfl | rfl | rfl | rfl | rfl | rfl | rfl | rfl | rfl | rfl | rfl
    · rw [arrD_0, ndI_0]
      by_cases hlt : 0 < K
      · obtain ⟨h1, h2⟩ := HG.out 0 hlt
        rw [if_neg (by omega)] at h2
        have hne : ¬ s = ByteArray.empty := by rintro rfl; simp at h1
        have hc := chI_at s 0 h1
        have hcb := chI_bd s 0
        have hd15 := (digI_bd _ h2).1
        have hd16 := dkI_16 _ h2
        go_wp2
        go_loop [10, 37] (fun d t => ∃ j : Nat, j ≤ 16 ∧ t = .int .i64 j ∧ d = .int .i64 (dkI (chI s 0) j)) (fun _ t => 16 - (intOf t).toNat)
        case atStart => exact ⟨0, Nat.zero_le _, rfl, by rw [dkI_0]⟩
        case round =>
          obtain ⟨j, hj, rfl, rfl⟩ := hrel
          by_cases hj16 : j < 16
          · have hjb := hxI_bd j ⟨by omega, by omega⟩
            replace hjb := (⟨hjb.1, hjb.2.1⟩ : 0 ≤ hxI j ∧ hxI j ≤ 255)
            by_cases hjc : hxI j = chI s 0
            · have hs1 := Lib.hid (dkI_yes _ j hj16 hjc)
              have hj2 : (hxI j == chI s 0) = true := by simp [hjc]
              clear hjc
              go_wp2
              go_round
              case rel => exact ⟨j + 1, by omega, by go_num, by rw [hs1.out]⟩
              case measure => simp [intOf]; omega
            · have hs1 := Lib.hid (dkI_no _ j hjc)
              have hj2 : (hxI j == chI s 0) = false := by simp [hjc]
              clear hjc
              go_wp2
              go_round
              case rel => exact ⟨j + 1, by omega, by go_num, by rw [hs1.out]⟩
              case measure => simp [intOf]; omega
          · obtain rfl : j = 16 := by omega
            go_wp2
            go_roundw
            case rel => exact ⟨1, by omega, rfl, by rw [ndI_1], by rw [arrD_1]⟩
            case measure => simp [intOf]
      · obtain rfl : K = 0 := by omega
        have hbad := HB.out (by omega)
        by_cases h1 : 0 < s.size
        · have h2 : digI (chI s 0) < 0 := Int.lt_of_not_ge fun h => hbad ⟨h1, by rw [if_neg (by omega)]; exact h⟩
          have hc := chI_at s 0 h1
          have hcb := chI_bd s 0
          have hne : ¬ s = ByteArray.empty := by rintro rfl; simp at h1
          have hd16 := dkI_16no _ h2
          go_wp2
          go_loop [10, 37] (fun d t => ∃ j : Nat, j ≤ 16 ∧ t = .int .i64 j ∧ d = .int .i64 (dkI (chI s 0) j)) (fun _ t => 16 - (intOf t).toNat)
          case atStart => exact ⟨0, Nat.zero_le _, rfl, by rw [dkI_0]⟩
          case round =>
            obtain ⟨j, hj, rfl, rfl⟩ := hrel
            by_cases hj16 : j < 16
            · have hjb := hxI_bd j ⟨by omega, by omega⟩
              replace hjb := (⟨hjb.1, hjb.2.1⟩ : 0 ≤ hxI j ∧ hxI j ≤ 255)
              by_cases hjc : hxI j = chI s 0
              · have hs1 := Lib.hid (dkI_yes _ j hj16 hjc)
                have hj2 : (hxI j == chI s 0) = true := by simp [hjc]
                clear hjc
                go_wp2
                go_round
                case rel => exact ⟨j + 1, by omega, by go_num, by rw [hs1.out]⟩
                case measure => simp [intOf]; omega
              · have hs1 := Lib.hid (dkI_no _ j hjc)
                have hj2 : (hxI j == chI s 0) = false := by simp [hjc]
                clear hjc
                go_wp2
                go_round
                case rel => exact ⟨j + 1, by omega, by go_num, by rw [hs1.out]⟩
                case measure => simp [intOf]; omega
            · obtain rfl : j = 16 := by omega
              go_wp2
              exact bodyPost_ret (v := .tuple #[.agg #[.int .u8 0, .int .u8 0, .int .u8 0, .int .u8 0, .int .u8 0, .int .u8 0], .int .i64 0, .int .i64 5]) (by simp [results, Try.results32, go_sem]) rfl ⟨rfl, docparse_below _ _ _⟩
        · have hne : s = ByteArray.empty := empty_of s h1
          go_wp2
          exact bodyPost_ret (v := .tuple #[.agg #[.int .u8 0, .int .u8 0, .int .u8 0, .int .u8 0, .int .u8 0, .int .u8 0], .int .i64 0, .int .i64 5]) (by simp [results, Try.results32, go_sem]) rfl ⟨rfl, docparse_below _ _ _⟩
    · rw [arrD_1, ndI_1]
      by_cases hlt : 1 < K
      · obtain ⟨h1, h2⟩ := HG.out 1 hlt
        rw [if_neg (by omega)] at h2
        have hc := chI_at s 1 h1
        have hcb := chI_bd s 1
        have hd15 := (digI_bd _ h2).1
        obtain ⟨p1, p2⟩ := HG.out 0 (by omega)
        rw [if_neg (by omega)] at p2
        have p15 := (digI_bd _ p2).1
        have hd16 := dkI_16 _ h2
        go_wp2
        go_loop [10, 37] (fun d t => ∃ j : Nat, j ≤ 16 ∧ t = .int .i64 j ∧ d = .int .i64 (dkI (chI s 1) j)) (fun _ t => 16 - (intOf t).toNat)
        case atStart => exact ⟨0, Nat.zero_le _, rfl, by rw [dkI_0]⟩
        case round =>
          obtain ⟨j, hj, rfl, rfl⟩ := hrel
          by_cases hj16 : j < 16
          · have hjb := hxI_bd j ⟨by omega, by omega⟩
            replace hjb := (⟨hjb.1, hjb.2.1⟩ : 0 ≤ hxI j ∧ hxI j ≤ 255)
            by_cases hjc : hxI j = chI s 1
            · have hs1 := Lib.hid (dkI_yes _ j hj16 hjc)
              have hj2 : (hxI j == chI s 1) = true := by simp [hjc]
              clear hjc
              go_wp2
              go_round
              case rel => exact ⟨j + 1, by omega, by go_num, by rw [hs1.out]⟩
              case measure => simp [intOf]; omega
            · have hs1 := Lib.hid (dkI_no _ j hjc)
              have hj2 : (hxI j == chI s 1) = false := by simp [hjc]
              clear hjc
              go_wp2
              go_round
              case rel => exact ⟨j + 1, by omega, by go_num, by rw [hs1.out]⟩
              case measure => simp [intOf]; omega
          · obtain rfl : j = 16 := by omega
            go_wp2
            go_roundw
            case rel => exact ⟨2, by omega, rfl, by rw [ndI_2], by rw [arrD_2]⟩
            case measure => simp [intOf]
      · obtain rfl : K = 1 := by omega
        have hbad := HB.out (by omega)
        by_cases h1 : 1 < s.size
        · have h2 : digI (chI s 1) < 0 := Int.lt_of_not_ge fun h => hbad ⟨h1, by rw [if_neg (by omega)]; exact h⟩
          have hc := chI_at s 1 h1
          have hcb := chI_bd s 1
          have hd16 := dkI_16no _ h2
          go_wp2
          go_loop [10, 37] (fun d t => ∃ j : Nat, j ≤ 16 ∧ t = .int .i64 j ∧ d = .int .i64 (dkI (chI s 1) j)) (fun _ t => 16 - (intOf t).toNat)
          case atStart => exact ⟨0, Nat.zero_le _, rfl, by rw [dkI_0]⟩
          case round =>
            obtain ⟨j, hj, rfl, rfl⟩ := hrel
            by_cases hj16 : j < 16
            · have hjb := hxI_bd j ⟨by omega, by omega⟩
              replace hjb := (⟨hjb.1, hjb.2.1⟩ : 0 ≤ hxI j ∧ hxI j ≤ 255)
              by_cases hjc : hxI j = chI s 1
              · have hs1 := Lib.hid (dkI_yes _ j hj16 hjc)
                have hj2 : (hxI j == chI s 1) = true := by simp [hjc]
                clear hjc
                go_wp2
                go_round
                case rel => exact ⟨j + 1, by omega, by go_num, by rw [hs1.out]⟩
                case measure => simp [intOf]; omega
              · have hs1 := Lib.hid (dkI_no _ j hjc)
                have hj2 : (hxI j == chI s 1) = false := by simp [hjc]
                clear hjc
                go_wp2
                go_round
                case rel => exact ⟨j + 1, by omega, by go_num, by rw [hs1.out]⟩
                case measure => simp [intOf]; omega
            · obtain rfl : j = 16 := by omega
              go_wp2
              exact bodyPost_ret (v := .tuple #[.agg #[.int .u8 0, .int .u8 0, .int .u8 0, .int .u8 0, .int .u8 0, .int .u8 0], .int .i64 1, .int .i64 5]) (by simp [results, Try.results32, go_sem]) rfl ⟨rfl, docparse_below _ _ _⟩
        · have hprev := (HG.out 0 (by omega)).1
          have hne : s.size = 1 := by omega
          go_wp2
          exact bodyPost_ret (v := .tuple #[.agg #[.int .u8 0, .int .u8 0, .int .u8 0, .int .u8 0, .int .u8 0, .int .u8 0], .int .i64 1, .int .i64 5]) (by simp [results, Try.results32, go_sem]) rfl ⟨rfl, docparse_below _ _ _⟩
    · rw [arrD_2, ndI_2]
      by_cases hlt : 2 < K
      · obtain ⟨h1, h2⟩ := HG.out 2 hlt
        rw [if_neg (by omega)] at h2
        have hc := chI_at s 2 h1
        have hcb := chI_bd s 2
        have hd15 := (digI_bd _ h2).1
        have hd16 := dkI_16 _ h2
        go_wp2
        go_loop [10, 37] (fun d t => ∃ j : Nat, j ≤ 16 ∧ t = .int .i64 j ∧ d = .int .i64 (dkI (chI s 2) j)) (fun _ t => 16 - (intOf t).toNat)
        case atStart => exact ⟨0, Nat.zero_le _, rfl, by rw [dkI_0]⟩
        case round =>
          obtain ⟨j, hj, rfl, rfl⟩ := hrel
          by_cases hj16 : j < 16
          · have hjb := hxI_bd j ⟨by omega, by omega⟩
            replace hjb := (⟨hjb.1, hjb.2.1⟩ : 0 ≤ hxI j ∧ hxI j ≤ 255)
            by_cases hjc : hxI j = chI s 2
            · have hs1 := Lib.hid (dkI_yes _ j hj16 hjc)
              have hj2 : (hxI j == chI s 2) = true := by simp [hjc]
              clear hjc
              go_wp2
              go_round
              case rel => exact ⟨j + 1, by omega, by go_num, by rw [hs1.out]⟩
              case measure => simp [intOf]; omega
            · have hs1 := Lib.hid (dkI_no _ j hjc)
              have hj2 : (hxI j == chI s 2) = false := by simp [hjc]
              clear hjc
              go_wp2
              go_round
              case rel => exact ⟨j + 1, by omega, by go_num, by rw [hs1.out]⟩
              case measure => simp [intOf]; omega
          · obtain rfl : j = 16 := by omega
            go_wp2
            go_roundw
            case rel => exact ⟨3, by omega, rfl, by rw [ndI_3], by rw [arrD_3]⟩
            case measure => simp [intOf]
      · obtain rfl : K = 2 := by omega
        have hbad := HB.out (by omega)
        by_cases h1 : 2 < s.size
        · have h2 : digI (chI s 2) < 0 := Int.lt_of_not_ge fun h => hbad ⟨h1, by rw [if_neg (by omega)]; exact h⟩
          have hc := chI_at s 2 h1
          have hcb := chI_bd s 2
          have hd16 := dkI_16no _ h2
          go_wp2
          go_loop [10, 37] (fun d t => ∃ j : Nat, j ≤ 16 ∧ t = .int .i64 j ∧ d = .int .i64 (dkI (chI s 2) j)) (fun _ t => 16 - (intOf t).toNat)
          case atStart => exact ⟨0, Nat.zero_le _, rfl, by rw [dkI_0]⟩
          case round =>
            obtain ⟨j, hj, rfl, rfl⟩ := hrel
            by_cases hj16 : j < 16
            · have hjb := hxI_bd j ⟨by omega, by omega⟩
              replace hjb := (⟨hjb.1, hjb.2.1⟩ : 0 ≤ hxI j ∧ hxI j ≤ 255)
              by_cases hjc : hxI j = chI s 2
              · have hs1 := Lib.hid (dkI_yes _ j hj16 hjc)
                have hj2 : (hxI j == chI s 2) = true := by simp [hjc]
                clear hjc
                go_wp2
                go_round
                case rel => exact ⟨j + 1, by omega, by go_num, by rw [hs1.out]⟩
                case measure => simp [intOf]; omega
              · have hs1 := Lib.hid (dkI_no _ j hjc)
                have hj2 : (hxI j == chI s 2) = false := by simp [hjc]
                clear hjc
                go_wp2
                go_round
                case rel => exact ⟨j + 1, by omega, by go_num, by rw [hs1.out]⟩
                case measure => simp [intOf]; omega
            · obtain rfl : j = 16 := by omega
              go_wp2
              exact bodyPost_ret (v := .tuple #[.agg #[.int .u8 0, .int .u8 0, .int .u8 0, .int .u8 0, .int .u8 0, .int .u8 0], .int .i64 2, .int .i64 5]) (by simp [results, Try.results32, go_sem]) rfl ⟨rfl, docparse_below _ _ _⟩
        · have hprev := (HG.out 1 (by omega)).1
          have hne : s.size = 2 := by omega
          go_wp2
          exact bodyPost_ret (v := .tuple #[.agg #[.int .u8 0, .int .u8 0, .int .u8 0, .int .u8 0, .int .u8 0, .int .u8 0], .int .i64 2, .int .i64 5]) (by simp [results, Try.results32, go_sem]) rfl ⟨rfl, docparse_below _ _ _⟩
    · rw [arrD_3, ndI_3]
      by_cases hlt : 3 < K
      · obtain ⟨h1, h2⟩ := HG.out 3 hlt
        rw [if_neg (by omega)] at h2
        have hc := chI_at s 3 h1
        have hcb := chI_bd s 3
        have hd15 := (digI_bd _ h2).1
        obtain ⟨p1, p2⟩ := HG.out 2 (by omega)
        rw [if_neg (by omega)] at p2
        have p15 := (digI_bd _ p2).1
        have hd16 := dkI_16 _ h2
        go_wp2
        go_loop [10, 37] (fun d t => ∃ j : Nat, j ≤ 16 ∧ t = .int .i64 j ∧ d = .int .i64 (dkI (chI s 3) j)) (fun _ t => 16 - (intOf t).toNat)
        case atStart => exact ⟨0, Nat.zero_le _, rfl, by rw [dkI_0]⟩
        case round =>
          obtain ⟨j, hj, rfl, rfl⟩ := hrel
          by_cases hj16 : j < 16
          · have hjb := hxI_bd j ⟨by omega, by omega⟩
            replace hjb := (⟨hjb.1, hjb.2.1⟩ : 0 ≤ hxI j ∧ hxI j ≤ 255)
            by_cases hjc : hxI j = chI s 3
            · have hs1 := Lib.hid (dkI_yes _ j hj16 hjc)
              have hj2 : (hxI j == chI s 3) = true := by simp [hjc]
              clear hjc
              go_wp2
              go_round
              case rel => exact ⟨j + 1, by omega, by go_num, by rw [hs1.out]⟩
              case measure => simp [intOf]; omega
            · have hs1 := Lib.hid (dkI_no _ j hjc)
              have hj2 : (hxI j == chI s 3) = false := by simp [hjc]
              clear hjc
              go_wp2
              go_round
              case rel => exact ⟨j + 1, by omega, by go_num, by rw [hs1.out]⟩
              case measure => simp [intOf]; omega
          · obtain rfl : j = 16 := by omega
            go_wp2
            go_roundw
            case rel => exact ⟨4, by omega, rfl, by rw [ndI_4], by rw [arrD_4]⟩
            case measure => simp [intOf]
      · obtain rfl : K = 3 := by omega
        have hbad := HB.out (by omega)
        by_cases h1 : 3 < s.size
        · have h2 : digI (chI s 3) < 0 := Int.lt_of_not_ge fun h => hbad ⟨h1, by rw [if_neg (by omega)]; exact h⟩
          have hc := chI_at s 3 h1
          have hcb := chI_bd s 3
          have hd16 := dkI_16no _ h2
          go_wp2
          go_loop [10, 37] (fun d t => ∃ j : Nat, j ≤ 16 ∧ t = .int .i64 j ∧ d = .int .i64 (dkI (chI s 3) j)) (fun _ t => 16 - (intOf t).toNat)
          case atStart => exact ⟨0, Nat.zero_le _, rfl, by rw [dkI_0]⟩
          case round =>
            obtain ⟨j, hj, rfl, rfl⟩ := hrel
            by_cases hj16 : j < 16
            · have hjb := hxI_bd j ⟨by omega, by omega⟩
              replace hjb := (⟨hjb.1, hjb.2.1⟩ : 0 ≤ hxI j ∧ hxI j ≤ 255)
              by_cases hjc : hxI j = chI s 3
              · have hs1 := Lib.hid (dkI_yes _ j hj16 hjc)
                have hj2 : (hxI j == chI s 3) = true := by simp [hjc]
                clear hjc
                go_wp2
                go_round
                case rel => exact ⟨j + 1, by omega, by go_num, by rw [hs1.out]⟩
                case measure => simp [intOf]; omega
              · have hs1 := Lib.hid (dkI_no _ j hjc)
                have hj2 : (hxI j == chI s 3) = false := by simp [hjc]
                clear hjc
                go_wp2
                go_round
                case rel => exact ⟨j + 1, by omega, by go_num, by rw [hs1.out]⟩
                case measure => simp [intOf]; omega
            · obtain rfl : j = 16 := by omega
              go_wp2
              exact bodyPost_ret (v := .tuple #[.agg #[.int .u8 0, .int .u8 0, .int .u8 0, .int .u8 0, .int .u8 0, .int .u8 0], .int .i64 3, .int .i64 5]) (by simp [results, Try.results32, go_sem]) rfl ⟨rfl, docparse_below _ _ _⟩
        · have hprev := (HG.out 2 (by omega)).1
          have hne : s.size = 3 := by omega
          go_wp2
          exact bodyPost_ret (v := .tuple #[.agg #[.int .u8 0, .int .u8 0, .int .u8 0, .int .u8 0, .int .u8 0, .int .u8 0], .int .i64 3, .int .i64 5]) (by simp [results, Try.results32, go_sem]) rfl ⟨rfl, docparse_below _ _ _⟩
    · rw [arrD_4, ndI_4]
      by_cases hlt : 4 < K
      · obtain ⟨h1, h2⟩ := HG.out 4 hlt
        rw [if_pos (by omega)] at h2
        have hc := chI_at s 4 h1
        have hcb := chI_bd s 4
        have h3 : (chI s 4 != 46) = false := by simp [h2]
        clear h2
        go_wp2
        go_roundw
        case rel => exact ⟨5, by omega, rfl, by rw [ndI_5], by rw [arrD_5]⟩
        case measure => simp [intOf]
      · obtain rfl : K = 4 := by omega
        have hbad := HB.out (by omega)
        by_cases h1 : 4 < s.size
        · have h2 : ¬ chI s 4 = 46 := fun h => hbad ⟨h1, by rw [if_pos (by omega)]; exact h⟩
          have hc := chI_at s 4 h1
          have hcb := chI_bd s 4
          have h3 : (chI s 4 != 46) = true := by simp [h2]
          go_wp2
          exact bodyPost_ret (v := .tuple #[.agg #[.int .u8 0, .int .u8 0, .int .u8 0, .int .u8 0, .int .u8 0, .int .u8 0], .int .i64 4, .int .i64 5]) (by simp [results, Try.results32, go_sem]) rfl ⟨rfl, docparse_below _ _ _⟩
        · have hprev := (HG.out 3 (by omega)).1
          have hne : s.size = 4 := by omega
          go_wp2
          exact bodyPost_ret (v := .tuple #[.agg #[.int .u8 0, .int .u8 0, .int .u8 0, .int .u8 0, .int .u8 0, .int .u8 0], .int .i64 4, .int .i64 5]) (by simp [results, Try.results32, go_sem]) rfl ⟨rfl, docparse_below _ _ _⟩
    · rw [arrD_5, ndI_5]
      by_cases hlt : 5 < K
      · obtain ⟨h1, h2⟩ := HG.out 5 hlt
        rw [if_neg (by omega)] at h2
        have hc := chI_at s 5 h1
        have hcb := chI_bd s 5
        have hd15 := (digI_bd _ h2).1
        have hd16 := dkI_16 _ h2
        go_wp2
        go_loop [10, 37] (fun d t => ∃ j : Nat, j ≤ 16 ∧ t = .int .i64 j ∧ d = .int .i64 (dkI (chI s 5) j)) (fun _ t => 16 - (intOf t).toNat)
        case atStart => exact ⟨0, Nat.zero_le _, rfl, by rw [dkI_0]⟩
        case round =>
          obtain ⟨j, hj, rfl, rfl⟩ := hrel
          by_cases hj16 : j < 16
          · have hjb := hxI_bd j ⟨by omega, by omega⟩
            replace hjb := (⟨hjb.1, hjb.2.1⟩ : 0 ≤ hxI j ∧ hxI j ≤ 255)
            by_cases hjc : hxI j = chI s 5
            · have hs1 := Lib.hid (dkI_yes _ j hj16 hjc)
              have hj2 : (hxI j == chI s 5) = true := by simp [hjc]
              clear hjc
              go_wp2
              go_round
              case rel => exact ⟨j + 1, by omega, by go_num, by rw [hs1.out]⟩
              case measure => simp [intOf]; omega
            · have hs1 := Lib.hid (dkI_no _ j hjc)
              have hj2 : (hxI j == chI s 5) = false := by simp [hjc]
              clear hjc
              go_wp2
              go_round
              case rel => exact ⟨j + 1, by omega, by go_num, by rw [hs1.out]⟩
              case measure => simp [intOf]; omega
          · obtain rfl : j = 16 := by omega
            go_wp2
            go_roundw
            case rel => exact ⟨6, by omega, rfl, by rw [ndI_6], by rw [arrD_6]⟩
            case measure => simp [intOf]
      · obtain rfl : K = 5 := by omega
        have hbad := HB.out (by omega)
        by_cases h1 : 5 < s.size
        · have h2 : digI (chI s 5) < 0 := Int.lt_of_not_ge fun h => hbad ⟨h1, by rw [if_neg (by omega)]; exact h⟩
          have hc := chI_at s 5 h1
          have hcb := chI_bd s 5
          have hd16 := dkI_16no _ h2
          go_wp2
          go_loop [10, 37] (fun d t => ∃ j : Nat, j ≤ 16 ∧ t = .int .i64 j ∧ d = .int .i64 (dkI (chI s 5) j)) (fun _ t => 16 - (intOf t).toNat)
          case atStart => exact ⟨0, Nat.zero_le _, rfl, by rw [dkI_0]⟩
          case round =>
            obtain ⟨j, hj, rfl, rfl⟩ := hrel
            by_cases hj16 : j < 16
            · have hjb := hxI_bd j ⟨by omega, by omega⟩
              replace hjb := (⟨hjb.1, hjb.2.1⟩ : 0 ≤ hxI j ∧ hxI j ≤ 255)
              by_cases hjc : hxI j = chI s 5
              · have hs1 := Lib.hid (dkI_yes _ j hj16 hjc)
                have hj2 : (hxI j == chI s 5) = true := by simp [hjc]
                clear hjc
                go_wp2
                go_round
                case rel => exact ⟨j + 1, by omega, by go_num, by rw [hs1.out]⟩
                case measure => simp [intOf]; omega
              · have hs1 := Lib.hid (dkI_no _ j hjc)
                have hj2 : (hxI j == chI s 5) = false := by simp [hjc]
                clear hjc
                go_wp2
                go_round
                case rel => exact ⟨j + 1, by omega, by go_num, by rw [hs1.out]⟩
                case measure => simp [intOf]; omega
            · obtain rfl : j = 16 := by omega
              go_wp2
              exact bodyPost_ret (v := .tuple #[.agg #[.int .u8 0, .int .u8 0, .int .u8 0, .int .u8 0, .int .u8 0, .int .u8 0], .int .i64 5, .int .i64 5]) (by simp [results, Try.results32, go_sem]) rfl ⟨rfl, docparse_below _ _ _⟩
        · have hprev := (HG.out 4 (by omega)).1
          have hne : s.size = 5 := by omega
          go_wp2
          exact bodyPost_ret (v := .tuple #[.agg #[.int .u8 0, .int .u8 0, .int .u8 0, .int .u8 0, .int .u8 0, .int .u8 0], .int .i64 5, .int .i64 5]) (by simp [results, Try.results32, go_sem]) rfl ⟨rfl, docparse_below _ _ _⟩
    · rw [arrD_6, ndI_6]
      by_cases hlt : 6 < K
      · obtain ⟨h1, h2⟩ := HG.out 6 hlt
        rw [if_neg (by omega)] at h2
        have hc := chI_at s 6 h1
        have hcb := chI_bd s 6
        have hd15 := (digI_bd _ h2).1
        obtain ⟨p1, p2⟩ := HG.out 5 (by omega)
        rw [if_neg (by omega)] at p2
        have p15 := (digI_bd _ p2).1
        have hd16 := dkI_16 _ h2
        go_wp2
        go_loop [10, 37] (fun d t => ∃ j : Nat, j ≤ 16 ∧ t = .int .i64 j ∧ d = .int .i64 (dkI (chI s 6) j)) (fun _ t => 16 - (intOf t).toNat)
        case atStart => exact ⟨0, Nat.zero_le _, rfl, by rw [dkI_0]⟩
        case round =>
          obtain ⟨j, hj, rfl, rfl⟩ := hrel
          by_cases hj16 : j < 16
          · have hjb := hxI_bd j ⟨by omega, by omega⟩
            replace hjb := (⟨hjb.1, hjb.2.1⟩ : 0 ≤ hxI j ∧ hxI j ≤ 255)
            by_cases hjc : hxI j = chI s 6
            · have hs1 := Lib.hid (dkI_yes _ j hj16 hjc)
              have hj2 : (hxI j == chI s 6) = true := by simp [hjc]
              clear hjc
              go_wp2
              go_round
              case rel => exact ⟨j + 1, by omega, by go_num, by rw [hs1.out]⟩
              case measure => simp [intOf]; omega
            · have hs1 := Lib.hid (dkI_no _ j hjc)
              have hj2 : (hxI j == chI s 6) = false := by simp [hjc]
              clear hjc
              go_wp2
              go_round
              case rel => exact ⟨j + 1, by omega, by go_num, by rw [hs1.out]⟩
              case measure => simp [intOf]; omega
          · obtain rfl : j = 16 := by omega
            go_wp2
            go_roundw
            case rel => exact ⟨7, by omega, rfl, by rw [ndI_7], by rw [arrD_7]⟩
            case measure => simp [intOf]
      · obtain rfl : K = 6 := by omega
        have hbad := HB.out (by omega)
        by_cases h1 : 6 < s.size
        · have h2 : digI (chI s 6) < 0 := Int.lt_of_not_ge fun h => hbad ⟨h1, by rw [if_neg (by omega)]; exact h⟩
          have hc := chI_at s 6 h1
          have hcb := chI_bd s 6
          have hd16 := dkI_16no _ h2
          go_wp2
          go_loop [10, 37] (fun d t => ∃ j : Nat, j ≤ 16 ∧ t = .int .i64 j ∧ d = .int .i64 (dkI (chI s 6) j)) (fun _ t => 16 - (intOf t).toNat)
          case atStart => exact ⟨0, Nat.zero_le _, rfl, by rw [dkI_0]⟩
          case round =>
            obtain ⟨j, hj, rfl, rfl⟩ := hrel
            by_cases hj16 : j < 16
            · have hjb := hxI_bd j ⟨by omega, by omega⟩
              replace hjb := (⟨hjb.1, hjb.2.1⟩ : 0 ≤ hxI j ∧ hxI j ≤ 255)
              by_cases hjc : hxI j = chI s 6
              · have hs1 := Lib.hid (dkI_yes _ j hj16 hjc)
                have hj2 : (hxI j == chI s 6) = true := by simp [hjc]
                clear hjc
                go_wp2
                go_round
                case rel => exact ⟨j + 1, by omega, by go_num, by rw [hs1.out]⟩
                case measure => simp [intOf]; omega
              · have hs1 := Lib.hid (dkI_no _ j hjc)
                have hj2 : (hxI j == chI s 6) = false := by simp [hjc]
                clear hjc
                go_wp2
                go_round
                case rel => exact ⟨j + 1, by omega, by go_num, by rw [hs1.out]⟩
                case measure => simp [intOf]; omega
            · obtain rfl : j = 16 := by omega
              go_wp2
              exact bodyPost_ret (v := .tuple #[.agg #[.int .u8 0, .int .u8 0, .int .u8 0, .int .u8 0, .int .u8 0, .int .u8 0], .int .i64 6, .int .i64 5]) (by simp [results, Try.results32, go_sem]) rfl ⟨rfl, docparse_below _ _ _⟩
        · have hprev := (HG.out 5 (by omega)).1
          have hne : s.size = 6 := by omega
          go_wp2
          exact bodyPost_ret (v := .tuple #[.agg #[.int .u8 0, .int .u8 0, .int .u8 0, .int .u8 0, .int .u8 0, .int .u8 0], .int .i64 6, .int .i64 5]) (by simp [results, Try.results32, go_sem]) rfl ⟨rfl, docparse_below _ _ _⟩
    · rw [arrD_7, ndI_7]
      by_cases hlt : 7 < K
      · obtain ⟨h1, h2⟩ := HG.out 7 hlt
        rw [if_neg (by omega)] at h2
        have hc := chI_at s 7 h1
        have hcb := chI_bd s 7
        have hd15 := (digI_bd _ h2).1
        have hd16 := dkI_16 _ h2
        go_wp2
        go_loop [10, 37] (fun d t => ∃ j : Nat, j ≤ 16 ∧ t = .int .i64 j ∧ d = .int .i64 (dkI (chI s 7) j)) (fun _ t => 16 - (intOf t).toNat)
        case atStart => exact ⟨0, Nat.zero_le _, rfl, by rw [dkI_0]⟩
        case round =>
          obtain ⟨j, hj, rfl, rfl⟩ := hrel
          by_cases hj16 : j < 16
          · have hjb := hxI_bd j ⟨by omega, by omega⟩
            replace hjb := (⟨hjb.1, hjb.2.1⟩ : 0 ≤ hxI j ∧ hxI j ≤ 255)
            by_cases hjc : hxI j = chI s 7
            · have hs1 := Lib.hid (dkI_yes _ j hj16 hjc)
              have hj2 : (hxI j == chI s 7) = true := by simp [hjc]
              clear hjc
              go_wp2
              go_round
              case rel => exact ⟨j + 1, by omega, by go_num, by rw [hs1.out]⟩
              case measure => simp [intOf]; omega
            · have hs1 := Lib.hid (dkI_no _ j hjc)
              have hj2 : (hxI j == chI s 7) = false := by simp [hjc]
              clear hjc
              go_wp2
              go_round
              case rel => exact ⟨j + 1, by omega, by go_num, by rw [hs1.out]⟩
              case measure => simp [intOf]; omega
          · obtain rfl : j = 16 := by omega
            go_wp2
            go_roundw
            case rel => exact ⟨8, by omega, rfl, by rw [ndI_8], by rw [arrD_8]⟩
            case measure => simp [intOf]
      · obtain rfl : K = 7 := by omega
        have hbad := HB.out (by omega)
        by_cases h1 : 7 < s.size
        · have h2 : digI (chI s 7) < 0 := Int.lt_of_not_ge fun h => hbad ⟨h1, by rw [if_neg (by omega)]; exact h⟩
          have hc := chI_at s 7 h1
          have hcb := chI_bd s 7
          have hd16 := dkI_16no _ h2
          go_wp2
          go_loop [10, 37] (fun d t => ∃ j : Nat, j ≤ 16 ∧ t = .int .i64 j ∧ d = .int .i64 (dkI (chI s 7) j)) (fun _ t => 16 - (intOf t).toNat)
          case atStart => exact ⟨0, Nat.zero_le _, rfl, by rw [dkI_0]⟩
          case round =>
            obtain ⟨j, hj, rfl, rfl⟩ := hrel
            by_cases hj16 : j < 16
            · have hjb := hxI_bd j ⟨by omega, by omega⟩
              replace hjb := (⟨hjb.1, hjb.2.1⟩ : 0 ≤ hxI j ∧ hxI j ≤ 255)
              by_cases hjc : hxI j = chI s 7
              · have hs1 := Lib.hid (dkI_yes _ j hj16 hjc)
                have hj2 : (hxI j == chI s 7) = true := by simp [hjc]
                clear hjc
                go_wp2
                go_round
                case rel => exact ⟨j + 1, by omega, by go_num, by rw [hs1.out]⟩
                case measure => simp [intOf]; omega
              · have hs1 := Lib.hid (dkI_no _ j hjc)
                have hj2 : (hxI j == chI s 7) = false := by simp [hjc]
                clear hjc
                go_wp2
                go_round
                case rel => exact ⟨j + 1, by omega, by go_num, by rw [hs1.out]⟩
                case measure => simp [intOf]; omega
            · obtain rfl : j = 16 := by omega
              go_wp2
              exact bodyPost_ret (v := .tuple #[.agg #[.int .u8 0, .int .u8 0, .int .u8 0, .int .u8 0, .int .u8 0, .int .u8 0], .int .i64 7, .int .i64 5]) (by simp [results, Try.results32, go_sem]) rfl ⟨rfl, docparse_below _ _ _⟩
        · have hprev := (HG.out 6 (by omega)).1
          have hne : s.size = 7 := by omega
          go_wp2
          exact bodyPost_ret (v := .tuple #[.agg #[.int .u8 0, .int .u8 0, .int .u8 0, .int .u8 0, .int .u8 0, .int .u8 0], .int .i64 7, .int .i64 5]) (by simp [results, Try.results32, go_sem]) rfl ⟨rfl, docparse_below _ _ _⟩
    · rw [arrD_8, ndI_8]
      by_cases hlt : 8 < K
      · obtain ⟨h1, h2⟩ := HG.out 8 hlt
        rw [if_neg (by omega)] at h2
        have hc := chI_at s 8 h1
        have hcb := chI_bd s 8
        have hd15 := (digI_bd _ h2).1
        obtain ⟨p1, p2⟩ := HG.out 7 (by omega)
        rw [if_neg (by omega)] at p2
        have p15 := (digI_bd _ p2).1
        have hd16 := dkI_16 _ h2
        go_wp2
        go_loop [10, 37] (fun d t => ∃ j : Nat, j ≤ 16 ∧ t = .int .i64 j ∧ d = .int .i64 (dkI (chI s 8) j)) (fun _ t => 16 - (intOf t).toNat)
        case atStart => exact ⟨0, Nat.zero_le _, rfl, by rw [dkI_0]⟩
        case round =>
          obtain ⟨j, hj, rfl, rfl⟩ := hrel
          by_cases hj16 : j < 16
          · have hjb := hxI_bd j ⟨by omega, by omega⟩
            replace hjb := (⟨hjb.1, hjb.2.1⟩ : 0 ≤ hxI j ∧ hxI j ≤ 255)
            by_cases hjc : hxI j = chI s 8
            · have hs1 := Lib.hid (dkI_yes _ j hj16 hjc)
              have hj2 : (hxI j == chI s 8) = true := by simp [hjc]
              clear hjc
              go_wp2
              go_round
              case rel => exact ⟨j + 1, by omega, by go_num, by rw [hs1.out]⟩
              case measure => simp [intOf]; omega
            · have hs1 := Lib.hid (dkI_no _ j hjc)
              have hj2 : (hxI j == chI s 8) = false := by simp [hjc]
              clear hjc
              go_wp2
              go_round
              case rel => exact ⟨j + 1, by omega, by go_num, by rw [hs1.out]⟩
              case measure => simp [intOf]; omega
          · obtain rfl : j = 16 := by omega
            go_wp2
            go_roundw
            case rel => exact ⟨9, by omega, rfl, by rw [ndI_9], by rw [arrD_9]⟩
            case measure => simp [intOf]
      · obtain rfl : K = 8 := by omega
        have hbad := HB.out (by omega)
        by_cases h1 : 8 < s.size
        · have h2 : digI (chI s 8) < 0 := Int.lt_of_not_ge fun h => hbad ⟨h1, by rw [if_neg (by omega)]; exact h⟩
          have hc := chI_at s 8 h1
          have hcb := chI_bd s 8
          have hd16 := dkI_16no _ h2
          go_wp2
          go_loop [10, 37] (fun d t => ∃ j : Nat, j ≤ 16 ∧ t = .int .i64 j ∧ d = .int .i64 (dkI (chI s 8) j)) (fun _ t => 16 - (intOf t).toNat)
          case atStart => exact ⟨0, Nat.zero_le _, rfl, by rw [dkI_0]⟩
          case round =>
            obtain ⟨j, hj, rfl, rfl⟩ := hrel
            by_cases hj16 : j < 16
            · have hjb := hxI_bd j ⟨by omega, by omega⟩
              replace hjb := (⟨hjb.1, hjb.2.1⟩ : 0 ≤ hxI j ∧ hxI j ≤ 255)
              by_cases hjc : hxI j = chI s 8
              · have hs1 := Lib.hid (dkI_yes _ j hj16 hjc)
                have hj2 : (hxI j == chI s 8) = true := by simp [hjc]
                clear hjc
                go_wp2
                go_round
                case rel => exact ⟨j + 1, by omega, by go_num, by rw [hs1.out]⟩
                case measure => simp [intOf]; omega
              · have hs1 := Lib.hid (dkI_no _ j hjc)
                have hj2 : (hxI j == chI s 8) = false := by simp [hjc]
                clear hjc
                go_wp2
                go_round
                case rel => exact ⟨j + 1, by omega, by go_num, by rw [hs1.out]⟩
                case measure => simp [intOf]; omega
            · obtain rfl : j = 16 := by omega
              go_wp2
              exact bodyPost_ret (v := .tuple #[.agg #[.int .u8 0, .int .u8 0, .int .u8 0, .int .u8 0, .int .u8 0, .int .u8 0], .int .i64 8, .int .i64 5]) (by simp [results, Try.results32, go_sem]) rfl ⟨rfl, docparse_below _ _ _⟩
        · have hprev := (HG.out 7 (by omega)).1
          have hne : s.size = 8 := by omega
          go_wp2
          exact bodyPost_ret (v := .tuple #[.agg #[.int .u8 0, .int .u8 0, .int .u8 0, .int .u8 0, .int .u8 0, .int .u8 0], .int .i64 8, .int .i64 5]) (by simp [results, Try.results32, go_sem]) rfl ⟨rfl, docparse_below _ _ _⟩
    · rw [arrD_9, ndI_9]
      by_cases hlt : 9 < K
      · obtain ⟨h1, h2⟩ := HG.out 9 hlt
        rw [if_pos (by omega)] at h2
        have hc := chI_at s 9 h1
        have hcb := chI_bd s 9
        have h3 : (chI s 9 != 46) = false := by simp [h2]
        clear h2
        go_wp2
        go_roundw
        case rel => exact ⟨10, by omega, rfl, by rw [ndI_10], by rw [arrD_10]⟩
        case measure => simp [intOf]
      · obtain rfl : K = 9 := by omega
        have hbad := HB.out (by omega)
        by_cases h1 : 9 < s.size
        · have h2 : ¬ chI s 9 = 46 := fun h => hbad ⟨h1, by rw [if_pos (by omega)]; exact h⟩
          have hc := chI_at s 9 h1
          have hcb := chI_bd s 9
          have h3 : (chI s 9 != 46) = true := by simp [h2]
          go_wp2
          exact bodyPost_ret (v := .tuple #[.agg #[.int .u8 0, .int .u8 0, .int .u8 0, .int .u8 0, .int .u8 0, .int .u8 0], .int .i64 9, .int .i64 5]) (by simp [results, Try.results32, go_sem]) rfl ⟨rfl, docparse_below _ _ _⟩
        · have hprev := (HG.out 8 (by omega)).1
          have hne : s.size = 9 := by omega
          go_wp2
          exact bodyPost_ret (v := .tuple #[.agg #[.int .u8 0, .int .u8 0, .int .u8 0, .int .u8 0, .int .u8 0, .int .u8 0], .int .i64 9, .int .i64 5]) (by simp [results, Try.results32, go_sem]) rfl ⟨rfl, docparse_below _ _ _⟩
    · rw [arrD_10, ndI_10]
      by_cases hlt : 10 < K
      · obtain ⟨h1, h2⟩ := HG.out 10 hlt
        rw [if_neg (by omega)] at h2
        have hc := chI_at s 10 h1
        have hcb := chI_bd s 10
        have hd15 := (digI_bd _ h2).1
        have hd16 := dkI_16 _ h2
        go_wp2
        go_loop [10, 37] (fun d t => ∃ j : Nat, j ≤ 16 ∧ t = .int .i64 j ∧ d = .int .i64 (dkI (chI s 10) j)) (fun _ t => 16 - (intOf t).toNat)
        case atStart => exact ⟨0, Nat.zero_le _, rfl, by rw [dkI_0]⟩
        case round =>
          obtain ⟨j, hj, rfl, rfl⟩ := hrel
          by_cases hj16 : j < 16
          · have hjb := hxI_bd j ⟨by omega, by omega⟩
            replace hjb := (⟨hjb.1, hjb.2.1⟩ : 0 ≤ hxI j ∧ hxI j ≤ 255)
            by_cases hjc : hxI j = chI s 10
            · have hs1 := Lib.hid (dkI_yes _ j hj16 hjc)
              have hj2 : (hxI j == chI s 10) = true := by simp [hjc]
              clear hjc
              go_wp2
              go_round
              case rel => exact ⟨j + 1, by omega, by go_num, by rw [hs1.out]⟩
              case measure => simp [intOf]; omega
            · have hs1 := Lib.hid (dkI_no _ j hjc)
              have hj2 : (hxI j == chI s 10) = false := by simp [hjc]
              clear hjc
              go_wp2
              go_round
              case rel => exact ⟨j + 1, by omega, by go_num, by rw [hs1.out]⟩
              case measure => simp [intOf]; omega
          · obtain rfl : j = 16 := by omega
            go_wp2
            go_roundw
            case rel => exact ⟨11, by omega, rfl, by rw [ndI_11], by rw [arrD_11]⟩
            case measure => simp [intOf]
      · obtain rfl : K = 10 := by omega
        have hbad := HB.out (by omega)
        by_cases h1 : 10 < s.size
        · have h2 : digI (chI s 10) < 0 := Int.lt_of_not_ge fun h => hbad ⟨h1, by rw [if_neg (by omega)]; exact h⟩
          have hc := chI_at s 10 h1
          have hcb := chI_bd s 10
          have hd16 := dkI_16no _ h2
          go_wp2
          go_loop [10, 37] (fun d t => ∃ j : Nat, j ≤ 16 ∧ t = .int .i64 j ∧ d = .int .i64 (dkI (chI s 10) j)) (fun _ t => 16 - (intOf t).toNat)
          case atStart => exact ⟨0, Nat.zero_le _, rfl, by rw [dkI_0]⟩
          case round =>
            obtain ⟨j, hj, rfl, rfl⟩ := hrel
            by_cases hj16 : j < 16
            · have hjb := hxI_bd j ⟨by omega, by omega⟩
              replace hjb := (⟨hjb.1, hjb.2.1⟩ : 0 ≤ hxI j ∧ hxI j ≤ 255)
              by_cases hjc : hxI j = chI s 10
              · have hs1 := Lib.hid (dkI_yes _ j hj16 hjc)
                have hj2 : (hxI j == chI s 10) = true := by simp [hjc]
                clear hjc
                go_wp2
                go_round
                case rel => exact ⟨j + 1, by omega, by go_num, by rw [hs1.out]⟩
                case measure => simp [intOf]; omega
              · have hs1 := Lib.hid (dkI_no _ j hjc)
                have hj2 : (hxI j == chI s 10) = false := by simp [hjc]
                clear hjc
                go_wp2
                go_round
                case rel => exact ⟨j + 1, by omega, by go_num, by rw [hs1.out]⟩
                case measure => simp [intOf]; omega
            · obtain rfl : j = 16 := by omega
              go_wp2
              exact bodyPost_ret (v := .tuple #[.agg #[.int .u8 0, .int .u8 0, .int .u8 0, .int .u8 0, .int .u8 0, .int .u8 0], .int .i64 10, .int .i64 5]) (by simp [results, Try.results32, go_sem]) rfl ⟨rfl, docparse_below _ _ _⟩
        · have hprev := (HG.out 9 (by omega)).1
          have hne : s.size = 10 := by omega
          go_wp2
          exact bodyPost_ret (v := .tuple #[.agg #[.int .u8 0, .int .u8 0, .int .u8 0, .int .u8 0, .int .u8 0, .int .u8 0], .int .i64 10, .int .i64 5]) (by simp [results, Try.results32, go_sem]) rfl ⟨rfl, docparse_below _ _ _⟩
    · rw [arrD_11, ndI_11]
      by_cases hlt : 11 < K
      · obtain ⟨h1, h2⟩ := HG.out 11 hlt
        rw [if_neg (by omega)] at h2
        have hc := chI_at s 11 h1
        have hcb := chI_bd s 11
        have hd15 := (digI_bd _ h2).1
        obtain ⟨p1, p2⟩ := HG.out 10 (by omega)
        rw [if_neg (by omega)] at p2
        have p15 := (digI_bd _ p2).1
        have hd16 := dkI_16 _ h2
        go_wp2
        go_loop [10, 37] (fun d t => ∃ j : Nat, j ≤ 16 ∧ t = .int .i64 j ∧ d = .int .i64 (dkI (chI s 11) j)) (fun _ t => 16 - (intOf t).toNat)
        case atStart => exact ⟨0, Nat.zero_le _, rfl, by rw [dkI_0]⟩
        case round =>
          obtain ⟨j, hj, rfl, rfl⟩ := hrel
          by_cases hj16 : j < 16
          · have hjb := hxI_bd j ⟨by omega, by omega⟩
            replace hjb := (⟨hjb.1, hjb.2.1⟩ : 0 ≤ hxI j ∧ hxI j ≤ 255)
            by_cases hjc : hxI j = chI s 11
            · have hs1 := Lib.hid (dkI_yes _ j hj16 hjc)
              have hj2 : (hxI j == chI s 11) = true := by simp [hjc]
              clear hjc
              go_wp2
              go_round
              case rel => exact ⟨j + 1, by omega, by go_num, by rw [hs1.out]⟩
              case measure => simp [intOf]; omega
            · have hs1 := Lib.hid (dkI_no _ j hjc)
              have hj2 : (hxI j == chI s 11) = false := by simp [hjc]
              clear hjc
              go_wp2
              go_round
              case rel => exact ⟨j + 1, by omega, by go_num, by rw [hs1.out]⟩
              case measure => simp [intOf]; omega
          · obtain rfl : j = 16 := by omega
            go_wp2
            go_roundw
            case rel => exact ⟨12, by omega, rfl, by rw [ndI_12], by rw [arrD_12]⟩
            case measure => simp [intOf]
      · obtain rfl : K = 11 := by omega
        have hbad := HB.out (by omega)
        by_cases h1 : 11 < s.size
        · have h2 : digI (chI s 11) < 0 := Int.lt_of_not_ge fun h => hbad ⟨h1, by rw [if_neg (by omega)]; exact h⟩
          have hc := chI_at s 11 h1
          have hcb := chI_bd s 11
          have hd16 := dkI_16no _ h2
          go_wp2
          go_loop [10, 37] (fun d t => ∃ j : Nat, j ≤ 16 ∧ t = .int .i64 j ∧ d = .int .i64 (dkI (chI s 11) j)) (fun _ t => 16 - (intOf t).toNat)
          case atStart => exact ⟨0, Nat.zero_le _, rfl, by rw [dkI_0]⟩
          case round =>
            obtain ⟨j, hj, rfl, rfl⟩ := hrel
            by_cases hj16 : j < 16
            · have hjb := hxI_bd j ⟨by omega, by omega⟩
              replace hjb := (⟨hjb.1, hjb.2.1⟩ : 0 ≤ hxI j ∧ hxI j ≤ 255)
              by_cases hjc : hxI j = chI s 11
              · have hs1 := Lib.hid (dkI_yes _ j hj16 hjc)
                have hj2 : (hxI j == chI s 11) = true := by simp [hjc]
                clear hjc
                go_wp2
                go_round
                case rel => exact ⟨j + 1, by omega, by go_num, by rw [hs1.out]⟩
                case measure => simp [intOf]; omega
              · have hs1 := Lib.hid (dkI_no _ j hjc)
                have hj2 : (hxI j == chI s 11) = false := by simp [hjc]
                clear hjc
                go_wp2
                go_round
                case rel => exact ⟨j + 1, by omega, by go_num, by rw [hs1.out]⟩
                case measure => simp [intOf]; omega
            · obtain rfl : j = 16 := by omega
              go_wp2
              exact bodyPost_ret (v := .tuple #[.agg #[.int .u8 0, .int .u8 0, .int .u8 0, .int .u8 0, .int .u8 0, .int .u8 0], .int .i64 11, .int .i64 5]) (by simp [results, Try.results32, go_sem]) rfl ⟨rfl, docparse_below _ _ _⟩
        · have hprev := (HG.out 10 (by omega)).1
          have hne : s.size = 11 := by omega
          go_wp2
          exact bodyPost_ret (v := .tuple #[.agg #[.int .u8 0, .int .u8 0, .int .u8 0, .int .u8 0, .int .u8 0, .int .u8 0], .int .i64 11, .int .i64 5]) (by simp [results, Try.results32, go_sem]) rfl ⟨rfl, docparse_below _ _ _⟩
    · rw [arrD_12, ndI_12]
      by_cases hlt : 12 < K
      · obtain ⟨h1, h2⟩ := HG.out 12 hlt
        rw [if_neg (by omega)] at h2
        have hc := chI_at s 12 h1
        have hcb := chI_bd s 12
        have hd15 := (digI_bd _ h2).1
        have hd16 := dkI_16 _ h2
        go_wp2
        go_loop [10, 37] (fun d t => ∃ j : Nat, j ≤ 16 ∧ t = .int .i64 j ∧ d = .int .i64 (dkI (chI s 12) j)) (fun _ t => 16 - (intOf t).toNat)
        case atStart => exact ⟨0, Nat.zero_le _, rfl, by rw [dkI_0]⟩
        case round =>
          obtain ⟨j, hj, rfl, rfl⟩ := hrel
          by_cases hj16 : j < 16
          · have hjb := hxI_bd j ⟨by omega, by omega⟩
            replace hjb := (⟨hjb.1, hjb.2.1⟩ : 0 ≤ hxI j ∧ hxI j ≤ 255)
            by_cases hjc : hxI j = chI s 12
            · have hs1 := Lib.hid (dkI_yes _ j hj16 hjc)
              have hj2 : (hxI j == chI s 12) = true := by simp [hjc]
              clear hjc
              go_wp2
              go_round
              case rel => exact ⟨j + 1, by omega, by go_num, by rw [hs1.out]⟩
              case measure => simp [intOf]; omega
            · have hs1 := Lib.hid (dkI_no _ j hjc)
              have hj2 : (hxI j == chI s 12) = false := by simp [hjc]
              clear hjc
              go_wp2
              go_round
              case rel => exact ⟨j + 1, by omega, by go_num, by rw [hs1.out]⟩
              case measure => simp [intOf]; omega
          · obtain rfl : j = 16 := by omega
            go_wp2
            go_roundw
            case rel => exact ⟨13, by omega, rfl, by rw [ndI_13], by rw [arrD_13]⟩
            case measure => simp [intOf]
      · obtain rfl : K = 12 := by omega
        have hbad := HB.out (by omega)
        by_cases h1 : 12 < s.size
        · have h2 : digI (chI s 12) < 0 := Int.lt_of_not_ge fun h => hbad ⟨h1, by rw [if_neg (by omega)]; exact h⟩
          have hc := chI_at s 12 h1
          have hcb := chI_bd s 12
          have hd16 := dkI_16no _ h2
          go_wp2
          go_loop [10, 37] (fun d t => ∃ j : Nat, j ≤ 16 ∧ t = .int .i64 j ∧ d = .int .i64 (dkI (chI s 12) j)) (fun _ t => 16 - (intOf t).toNat)
          case atStart => exact ⟨0, Nat.zero_le _, rfl, by rw [dkI_0]⟩
          case round =>
            obtain ⟨j, hj, rfl, rfl⟩ := hrel
            by_cases hj16 : j < 16
            · have hjb := hxI_bd j ⟨by omega, by omega⟩
              replace hjb := (⟨hjb.1, hjb.2.1⟩ : 0 ≤ hxI j ∧ hxI j ≤ 255)
              by_cases hjc : hxI j = chI s 12
              · have hs1 := Lib.hid (dkI_yes _ j hj16 hjc)
                have hj2 : (hxI j == chI s 12) = true := by simp [hjc]
                clear hjc
                go_wp2
                go_round
                case rel => exact ⟨j + 1, by omega, by go_num, by rw [hs1.out]⟩
                case measure => simp [intOf]; omega
              · have hs1 := Lib.hid (dkI_no _ j hjc)
                have hj2 : (hxI j == chI s 12) = false := by simp [hjc]
                clear hjc
                go_wp2
                go_round
                case rel => exact ⟨j + 1, by omega, by go_num, by rw [hs1.out]⟩
                case measure => simp [intOf]; omega
            · obtain rfl : j = 16 := by omega
              go_wp2
              exact bodyPost_ret (v := .tuple #[.agg #[.int .u8 0, .int .u8 0, .int .u8 0, .int .u8 0, .int .u8 0, .int .u8 0], .int .i64 12, .int .i64 5]) (by simp [results, Try.results32, go_sem]) rfl ⟨rfl, docparse_below _ _ _⟩
        · have hprev := (HG.out 11 (by omega)).1
          have hne : s.size = 12 := by omega
          go_wp2
          exact bodyPost_ret (v := .tuple #[.agg #[.int .u8 0, .int .u8 0, .int .u8 0, .int .u8 0, .int .u8 0, .int .u8 0], .int .i64 12, .int .i64 5]) (by simp [results, Try.results32, go_sem]) rfl ⟨rfl, docparse_below _ _ _⟩
    · rw [arrD_13, ndI_13]
      by_cases hlt : 13 < K
      · obtain ⟨h1, h2⟩ := HG.out 13 hlt
        rw [if_neg (by omega)] at h2
        have hc := chI_at s 13 h1
        have hcb := chI_bd s 13
        have hd15 := (digI_bd _ h2).1
        obtain ⟨p1, p2⟩ := HG.out 12 (by omega)
        rw [if_neg (by omega)] at p2
        have p15 := (digI_bd _ p2).1
        have hd16 := dkI_16 _ h2
        go_wp2
        go_loop [10, 37] (fun d t => ∃ j : Nat, j ≤ 16 ∧ t = .int .i64 j ∧ d = .int .i64 (dkI (chI s 13) j)) (fun _ t => 16 - (intOf t).toNat)
        case atStart => exact ⟨0, Nat.zero_le _, rfl, by rw [dkI_0]⟩
        case round =>
          obtain ⟨j, hj, rfl, rfl⟩ := hrel
          by_cases hj16 : j < 16
          · have hjb := hxI_bd j ⟨by omega, by omega⟩
            replace hjb := (⟨hjb.1, hjb.2.1⟩ : 0 ≤ hxI j ∧ hxI j ≤ 255)
            by_cases hjc : hxI j = chI s 13
            · have hs1 := Lib.hid (dkI_yes _ j hj16 hjc)
              have hj2 : (hxI j == chI s 13) = true := by simp [hjc]
              clear hjc
              go_wp2
              go_round
              case rel => exact ⟨j + 1, by omega, by go_num, by rw [hs1.out]⟩
              case measure => simp [intOf]; omega
            · have hs1 := Lib.hid (dkI_no _ j hjc)
              have hj2 : (hxI j == chI s 13) = false := by simp [hjc]
              clear hjc
              go_wp2
              go_round
              case rel => exact ⟨j + 1, by omega, by go_num, by rw [hs1.out]⟩
              case measure => simp [intOf]; omega
          · obtain rfl : j = 16 := by omega
            go_wp2
            go_roundw
            case rel => exact ⟨14, by omega, rfl, by rw [ndI_14], by rw [arrD_14]⟩
            case measure => simp [intOf]
      · obtain rfl : K = 13 := by omega
        have hbad := HB.out (by omega)
        by_cases h1 : 13 < s.size
        · have h2 : digI (chI s 13) < 0 := Int.lt_of_not_ge fun h => hbad ⟨h1, by rw [if_neg (by omega)]; exact h⟩
          have hc := chI_at s 13 h1
          have hcb := chI_bd s 13
          have hd16 := dkI_16no _ h2
          go_wp2
          go_loop [10, 37] (fun d t => ∃ j : Nat, j ≤ 16 ∧ t = .int .i64 j ∧ d = .int .i64 (dkI (chI s 13) j)) (fun _ t => 16 - (intOf t).toNat)
          case atStart => exact ⟨0, Nat.zero_le _, rfl, by rw [dkI_0]⟩
          case round =>
            obtain ⟨j, hj, rfl, rfl⟩ := hrel
            by_cases hj16 : j < 16
            · have hjb := hxI_bd j ⟨by omega, by omega⟩
              replace hjb := (⟨hjb.1, hjb.2.1⟩ : 0 ≤ hxI j ∧ hxI j ≤ 255)
              by_cases hjc : hxI j = chI s 13
              · have hs1 := Lib.hid (dkI_yes _ j hj16 hjc)
                have hj2 : (hxI j == chI s 13) = true := by simp [hjc]
                clear hjc
                go_wp2
                go_round
                case rel => exact ⟨j + 1, by omega, by go_num, by rw [hs1.out]⟩
                case measure => simp [intOf]; omega
              · have hs1 := Lib.hid (dkI_no _ j hjc)
                have hj2 : (hxI j == chI s 13) = false := by simp [hjc]
                clear hjc
                go_wp2
                go_round
                case rel => exact ⟨j + 1, by omega, by go_num, by rw [hs1.out]⟩
                case measure => simp [intOf]; omega
            · obtain rfl : j = 16 := by omega
              go_wp2
              exact bodyPost_ret (v := .tuple #[.agg #[.int .u8 0, .int .u8 0, .int .u8 0, .int .u8 0, .int .u8 0, .int .u8 0], .int .i64 13, .int .i64 5]) (by simp [results, Try.results32, go_sem]) rfl ⟨rfl, docparse_below _ _ _⟩
        · have hprev := (HG.out 12 (by omega)).1
          have hne : s.size = 13 := by omega
          go_wp2
          exact bodyPost_ret (v := .tuple #[.agg #[.int .u8 0, .int .u8 0, .int .u8 0, .int .u8 0, .int .u8 0, .int .u8 0], .int .i64 13, .int .i64 5]) (by simp [results, Try.results32, go_sem]) rfl ⟨rfl, docparse_below _ _ _⟩
    · obtain rfl : K = 14 := by omega
      have h13 := (HG.out 13 (by omega)).1
      by_cases hl : 14 < s.size
      · go_wp2
        exact bodyPost_ret (v := .tuple #[.agg #[.int .u8 0, .int .u8 0, .int .u8 0, .int .u8 0, .int .u8 0, .int .u8 0], .int .i64 14, .int .i64 5]) (by simp [results, Try.results32, go_sem]) rfl ⟨by rw [if_neg (by omega), if_pos hl]; rfl, docparse_below _ _ _⟩
      · rw [arrD_14]
        have h14 : s.size = 14 := by omega
        go_wp2
        exact bodyPost_ret (v := .tuple #[.agg #[.int .u8 (16 * digI (chI s 0) + digI (chI s 1)), .int .u8 (16 * digI (chI s 2) + digI (chI s 3)), .int .u8 (16 * digI (chI s 5) + digI (chI s 6)), .int .u8 (16 * digI (chI s 7) + digI (chI s 8)), .int .u8 (16 * digI (chI s 10) + digI (chI s 11)), .int .u8 (16 * digI (chI s 12) + digI (chI s 13))], .int .i64 0, .int .i64 0]) (by simp [results, Try.results32, go_sem]) rfl ⟨by rw [if_neg (by omega), if_neg hl]; unfold parseOk; rw [← arrD_P, arrD_14], docparse_below _ _ _⟩
end Go.Proofs.Ytbafeffmcfldoaa
