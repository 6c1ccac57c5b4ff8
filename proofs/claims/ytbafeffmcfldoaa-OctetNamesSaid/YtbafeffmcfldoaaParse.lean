/- octet.Parse answers as the document says: the first place that can't stand there, or the name. Each theorem states its conditions. -/
import Derived.Test.YtbafeffmcfldoaaRows
import Derived.Test.YtbafeffmcfldoaaPlain
import Derived.WalkKit
import Derived.WalkLawsBesides
import Derived.WalkSpells
import Derived.IntWalk
import Derived.Outline
import Derived.Below
import Derived.Lib.Hide
import Derived.RegionTactic
import Derived.ChangeAlike
import Derived.Deep.Draws
namespace Go.Proofs.Ytbafeffmcfldoaa
open Go.RowKit
set_option linter.unusedVariables false

/-- what a digit to the base 16 counts; -1: it is none -/
def digI (c : Int) : Int := if 48 ≤ c ∧ c ≤ 57 then c - 48 else if 97 ≤ c ∧ c ≤ 102 then c - 87 else -1
theorem digI_bd (c : Int) (h : 0 ≤ digI c) : digI c ≤ 15 ∧ ((48 ≤ c ∧ c ≤ 57 ∧ digI c = c - 48) ∨ (97 ≤ c ∧ c ≤ 102 ∧ digI c = c - 87)) := by
  unfold digI at *; split at h <;> (try split at h) <;> simp_all <;> omega
theorem digI_no (c : Int) (h : ¬ 0 ≤ digI c) : ¬ (48 ≤ c ∧ c ≤ 57) ∧ ¬ (97 ≤ c ∧ c ≤ 102) := by
  unfold digI at *; split at h <;> (try split at h) <;> omega

theorem u8_eq {a b : Int} (h : a = b) : Value.int .u8 a = .int .u8 b := by rw [h]
theorem digit_yes (c : Int) (w : World) (h0 : 0 ≤ c ∧ c ≤ 255) (h : 0 ≤ digI c) :
    Calls Try.prog 50 #[.int .u8 c] w fun e w' => e = .returned (.tuple #[.int .u8 (digI c), .bool true]) ∧ w = w' := by
  obtain ⟨_, h1 | h1⟩ := digI_bd c h
  · have H := Lib.hid h1.2.2
    obtain ⟨h1, h2, -⟩ := h1
    go_enter Try.func50, Try.ntmps50
    go_wp2
    go_ret2
    exact ⟨ret2_eq (u8_eq H.out.symm) _, rfl⟩
  · have H := Lib.hid h1.2.2
    obtain ⟨h1, h2, -⟩ := h1
    have h3 : ¬ (c ≤ 57) := by omega
    go_enter Try.func50, Try.ntmps50
    go_wp2
    go_ret2
    exact ⟨ret2_eq (u8_eq (by have := H.out; omega)) _, rfl⟩
theorem digit_no (c : Int) (w : World) (h0 : 0 ≤ c ∧ c ≤ 255) (hd : digI c < 0) :
    Calls Try.prog 50 #[.int .u8 c] w fun e w' => e = .returned (.tuple #[.int .u8 0, .bool false]) ∧ w = w' := by
  have h : ¬ 0 ≤ digI c := by omega
  obtain ⟨h1, h2⟩ := digI_no c h
  clear hd
  by_cases a1 : 48 ≤ c
  · by_cases a2 : 97 ≤ c
    · have a3 : ¬ c ≤ 57 := by omega
      have a4 : ¬ c ≤ 102 := by omega
      clear h h1 h2
      go_enter Try.func50, Try.ntmps50
      go_wp2
      go_ret2
      exact ⟨rfl, rfl⟩
    · have a3 : ¬ c ≤ 57 := by omega
      clear h h1 h2
      go_enter Try.func50, Try.ntmps50
      go_wp2
      go_ret2
      exact ⟨rfl, rfl⟩
  · have a2 : ¬ 97 ≤ c := by omega
    clear h h1 h2
    go_enter Try.func50, Try.ntmps50
    go_wp2
    go_ret2
    exact ⟨rfl, rfl⟩

theorem empty_of (s : ByteArray) (h : ¬ 0 < s.size) : s = ByteArray.empty :=
  ByteArray.ext (Array.eq_empty_of_size_eq_zero (show s.size = 0 by omega))
/-- the byte of a text at a place -/
def chI (s : ByteArray) (i : Nat) : Int := if h : i < s.size then ((s[i]'h).toNat : Int) else 0
theorem chI_bd (s : ByteArray) (i : Nat) : 0 ≤ chI s i ∧ chI s i ≤ 255 := by
  unfold chI; split
  · have := UInt8.toNat_lt (s[i]'(by assumption)); omega
  · omega
theorem chI_at (s : ByteArray) (i : Nat) (h : i < s.size) : ((s[i]'h).toNat : Int) = chI s i := by simp [chI, h]
/-- may it stand there? -/
def okAt (s : ByteArray) (i : Nat) : Prop := i < s.size ∧ (if i = 4 ∨ i = 9 then chI s i = 46 else 0 ≤ digI (chI s i))

/-- the name's bytes as the first k digits make them -/
def hlP (d : Nat → Int) (p q k : Nat) : Int := if q < k then d p * 16 + d q else if p < k then d p * 16 else 0
def arrP (d : Nat → Int) (k : Nat) : Array Value := #[.int .u8 (hlP d 0 1 k), .int .u8 (hlP d 2 3 k), .int .u8 (hlP d 5 6 k), .int .u8 (hlP d 7 8 k), .int .u8 (hlP d 10 11 k), .int .u8 (hlP d 12 13 k)]
theorem arrP_0 (d : Nat → Int) : arrP d 0 = #[.int .u8 0, .int .u8 0, .int .u8 0, .int .u8 0, .int .u8 0, .int .u8 0] := by simp [arrP, hlP]
theorem arrP_1 (d : Nat → Int) : arrP d 1 = #[.int .u8 (d 0 * 16), .int .u8 0, .int .u8 0, .int .u8 0, .int .u8 0, .int .u8 0] := by simp [arrP, hlP]
theorem arrP_2 (d : Nat → Int) : arrP d 2 = #[.int .u8 (d 0 * 16 + d 1), .int .u8 0, .int .u8 0, .int .u8 0, .int .u8 0, .int .u8 0] := by simp [arrP, hlP]
theorem arrP_3 (d : Nat → Int) : arrP d 3 = #[.int .u8 (d 0 * 16 + d 1), .int .u8 (d 2 * 16), .int .u8 0, .int .u8 0, .int .u8 0, .int .u8 0] := by simp [arrP, hlP]
theorem arrP_4 (d : Nat → Int) : arrP d 4 = #[.int .u8 (d 0 * 16 + d 1), .int .u8 (d 2 * 16 + d 3), .int .u8 0, .int .u8 0, .int .u8 0, .int .u8 0] := by simp [arrP, hlP]
theorem arrP_5 (d : Nat → Int) : arrP d 5 = #[.int .u8 (d 0 * 16 + d 1), .int .u8 (d 2 * 16 + d 3), .int .u8 0, .int .u8 0, .int .u8 0, .int .u8 0] := by simp [arrP, hlP]
theorem arrP_6 (d : Nat → Int) : arrP d 6 = #[.int .u8 (d 0 * 16 + d 1), .int .u8 (d 2 * 16 + d 3), .int .u8 (d 5 * 16), .int .u8 0, .int .u8 0, .int .u8 0] := by simp [arrP, hlP]
theorem arrP_7 (d : Nat → Int) : arrP d 7 = #[.int .u8 (d 0 * 16 + d 1), .int .u8 (d 2 * 16 + d 3), .int .u8 (d 5 * 16 + d 6), .int .u8 0, .int .u8 0, .int .u8 0] := by simp [arrP, hlP]
theorem arrP_8 (d : Nat → Int) : arrP d 8 = #[.int .u8 (d 0 * 16 + d 1), .int .u8 (d 2 * 16 + d 3), .int .u8 (d 5 * 16 + d 6), .int .u8 (d 7 * 16), .int .u8 0, .int .u8 0] := by simp [arrP, hlP]
theorem arrP_9 (d : Nat → Int) : arrP d 9 = #[.int .u8 (d 0 * 16 + d 1), .int .u8 (d 2 * 16 + d 3), .int .u8 (d 5 * 16 + d 6), .int .u8 (d 7 * 16 + d 8), .int .u8 0, .int .u8 0] := by simp [arrP, hlP]
theorem arrP_10 (d : Nat → Int) : arrP d 10 = #[.int .u8 (d 0 * 16 + d 1), .int .u8 (d 2 * 16 + d 3), .int .u8 (d 5 * 16 + d 6), .int .u8 (d 7 * 16 + d 8), .int .u8 0, .int .u8 0] := by simp [arrP, hlP]
theorem arrP_11 (d : Nat → Int) : arrP d 11 = #[.int .u8 (d 0 * 16 + d 1), .int .u8 (d 2 * 16 + d 3), .int .u8 (d 5 * 16 + d 6), .int .u8 (d 7 * 16 + d 8), .int .u8 (d 10 * 16), .int .u8 0] := by simp [arrP, hlP]
theorem arrP_12 (d : Nat → Int) : arrP d 12 = #[.int .u8 (d 0 * 16 + d 1), .int .u8 (d 2 * 16 + d 3), .int .u8 (d 5 * 16 + d 6), .int .u8 (d 7 * 16 + d 8), .int .u8 (d 10 * 16 + d 11), .int .u8 0] := by simp [arrP, hlP]
theorem arrP_13 (d : Nat → Int) : arrP d 13 = #[.int .u8 (d 0 * 16 + d 1), .int .u8 (d 2 * 16 + d 3), .int .u8 (d 5 * 16 + d 6), .int .u8 (d 7 * 16 + d 8), .int .u8 (d 10 * 16 + d 11), .int .u8 (d 12 * 16)] := by simp [arrP, hlP]
theorem arrP_14 (d : Nat → Int) : arrP d 14 = #[.int .u8 (d 0 * 16 + d 1), .int .u8 (d 2 * 16 + d 3), .int .u8 (d 5 * 16 + d 6), .int .u8 (d 7 * 16 + d 8), .int .u8 (d 10 * 16 + d 11), .int .u8 (d 12 * 16 + d 13)] := by simp [arrP, hlP]
theorem or8_lo (a b : Int) (ha : 0 ≤ a ∧ a ≤ 15) (hb : 0 ≤ b ∧ b ≤ 15) : bits .or .u8 (a * 16) b = a * 16 + b := by
  rw [u8_or _ _ (by omega) (by omega) (by omega) (by omega), nat_join 4 _ _ (by omega) (by omega)]
  omega
theorem or8_hi (a : Int) (ha : 0 ≤ a ∧ a ≤ 15) : bits .or .u8 0 (a * 16) = a * 16 := by
  rw [u8_or _ _ (by omega) (by omega) (by omega) (by omega)]
  simp; omega

/-- what Parse hands back -/
def parseErr (k : Int) : Ending := .returned (.tuple #[.agg #[.int .u8 0, .int .u8 0, .int .u8 0, .int .u8 0, .int .u8 0, .int .u8 0], .int .i64 k, .int .i64 5])
def parseOk (d : Nat → Int) : Ending := .returned (.tuple #[.agg (arrP d 14), .int .i64 0, .int .i64 0])
def ParsePost (s : ByteArray) (K : Nat) (w : World) (e : Ending) (w' : World) : Prop :=
  (if K < 14 then e = parseErr K else if 14 < s.size then e = parseErr 14 else e = parseOk fun i => digI (chI s i)) ∧ Below w.heap.size w w'

theorem parse_put (w : World) (A B : Array Value) (m j : Nat) (v : Value) :
    (((w.alloc (.cells A 55)).alloc (.cells B 55)).drewN m).setCell ⟨w.heap.size + 1, j, none⟩ v = ((w.alloc (.cells A 55)).alloc (.cells (B.setIfInBounds j v) 55)).drewN m := by
  have h := World.setCell_alloc_at (w := w.alloc (.cells A 55)) B 55 (w.heap.size + 1) j v (by simp)
  rw [← h]; rfl
theorem parse_put0 (w : World) (A B : Array Value) (m j : Nat) (v : Value) :
    (((w.alloc (.cells A 55)).alloc (.cells B 55)).drewN m).setCell ⟨w.heap.size, j, none⟩ v = ((w.alloc (.cells (A.setIfInBounds j v) 55)).alloc (.cells B 55)).drewN m := by
  have h := World.setCell_alloc_at (w := w) A 55 w.heap.size j v rfl
  have h2 := World.setCell_alloc_past (w := w.alloc (.cells A 55)) (.cells B 55) w.heap.size j v (by simp)
  rw [← h, ← h2]; rfl
theorem parse_below (w : World) (A B : Array Value) (m : Nat) : Below w.heap.size w (((w.alloc (.cells A 55)).alloc (.cells B 55)).drewN m) :=
  below_drewN (((Below.refl _ _).alloc (Nat.le_refl _) _).alloc (by simp) _) m

set_option maxHeartbeats 4000000 in
set_option maxRecDepth 100000 in
theorem parse_any (s : ByteArray) (K : Nat) (w : World) (hs : s.size ≤ maxLen) (hK : K ≤ 14) (hg : ∀ i, i < K → okAt s i) (hb : K < 14 → ¬ okAt s K) :
    Calls Try.prog 31 #[.string s] w (ParsePost s K w) := by
  unfold maxLen at hs
  have HG := Lib.hid hg
  have HB := Lib.hid hb
  clear hg hb
  have hput := parse_put w
  have hput0 := parse_put0 w
  go_enter Try.func31, Try.ntmps31
  go_wp2
  go_loopw [11] (fun t wr => ∃ k m : Nat, k ≤ K ∧ t = .int .i64 k ∧ wr = ((w.alloc (.cells #[.int .u8 0, .int .u8 0, .int .u8 0, .int .u8 0, .int .u8 0, .int .u8 0] 55)).alloc (.cells (arrP (fun i => digI (chI s i)) k) 55)).drewN m) (fun t _ => 15 - (intOf t).toNat)
  case atStart => exact ⟨0, 0, Nat.zero_le _, rfl, by rw [arrP_0]; rfl⟩
  case round =>
    obtain ⟨k, m, hk, rfl, rfl⟩ := hrel
    rcases (by omega : k = 0 ∨ k = 1 ∨ k = 2 ∨ k = 3 ∨ k = 4 ∨ k = 5 ∨ k = 6 ∨ k = 7 ∨ k = 8 ∨ k = 9 ∨ k = 10 ∨ k = 11 ∨ k = 12 ∨ k = 13 ∨ k = 14) with rfl | rfl | rfl | rfl | rfl | rfl | rfl | rfl | rfl | rfl | rfl | rfl | rfl | rfl | rfl
    · rw [arrP_0]
      by_cases hlt : 0 < K
      · obtain ⟨h1, h2⟩ := HG.out 0 hlt
        rw [if_neg (by omega)] at h2
        have hne : ¬ s = ByteArray.empty := by rintro rfl; simp at h1
        have hc := chI_at s 0 h1
        have hcb := chI_bd s 0
        have hd15 := (digI_bd _ h2).1
        have hor := or8_hi _ ⟨h2, hd15⟩
        go_wp2_with (first | (go_at_call 50; refine (digit_yes _ _ hcb h2).mono ?_; rintro e w1 ⟨rfl, rfl⟩) | go_in)
        go_region
        go_wp2
        go_roundw
        case rel => exact ⟨1, m + 1, by omega, rfl, by rw [arrP_1]⟩
        case measure => simp [intOf]
      · obtain rfl : K = 0 := by omega
        have hbad := HB.out (by omega)
        by_cases h1 : 0 < s.size
        · have h2 : digI (chI s 0) < 0 := Int.lt_of_not_ge fun h => hbad ⟨h1, by rw [if_neg (by omega)]; exact h⟩
          have hc := chI_at s 0 h1
          have hcb := chI_bd s 0
          have hne : ¬ s = ByteArray.empty := by rintro rfl; simp at h1
          go_wp2_with (first | (go_at_call 50; refine (digit_no _ _ hcb (by omega)).mono ?_; rintro e w1 ⟨rfl, rfl⟩) | go_in)
          exact bodyPost_ret (v := .tuple #[.agg #[.int .u8 0, .int .u8 0, .int .u8 0, .int .u8 0, .int .u8 0, .int .u8 0], .int .i64 0, .int .i64 5]) (by simp [results, Try.results31, go_sem]) rfl ⟨rfl, parse_below _ _ _ _⟩
        · have hne : s = ByteArray.empty := empty_of s h1
          go_wp2
          exact bodyPost_ret (v := .tuple #[.agg #[.int .u8 0, .int .u8 0, .int .u8 0, .int .u8 0, .int .u8 0, .int .u8 0], .int .i64 0, .int .i64 5]) (by simp [results, Try.results31, go_sem]) rfl ⟨rfl, parse_below _ _ _ _⟩
    · rw [arrP_1]
      by_cases hlt : 1 < K
      · obtain ⟨h1, h2⟩ := HG.out 1 hlt
        rw [if_neg (by omega)] at h2
        have hc := chI_at s 1 h1
        have hcb := chI_bd s 1
        have hd15 := (digI_bd _ h2).1
        obtain ⟨p1, p2⟩ := HG.out 0 (by omega)
        rw [if_neg (by omega)] at p2
        have p15 := (digI_bd _ p2).1
        have hor := or8_lo _ _ ⟨p2, p15⟩ ⟨h2, hd15⟩
        go_wp2_with (first | (go_at_call 50; refine (digit_yes _ _ hcb h2).mono ?_; rintro e w1 ⟨rfl, rfl⟩) | go_in)
        go_region
        go_wp2
        go_roundw
        case rel => exact ⟨2, m + 1, by omega, rfl, by rw [arrP_2]⟩
        case measure => simp [intOf]
      · obtain rfl : K = 1 := by omega
        have hbad := HB.out (by omega)
        by_cases h1 : 1 < s.size
        · have h2 : digI (chI s 1) < 0 := Int.lt_of_not_ge fun h => hbad ⟨h1, by rw [if_neg (by omega)]; exact h⟩
          have hc := chI_at s 1 h1
          have hcb := chI_bd s 1
          go_wp2_with (first | (go_at_call 50; refine (digit_no _ _ hcb (by omega)).mono ?_; rintro e w1 ⟨rfl, rfl⟩) | go_in)
          exact bodyPost_ret (v := .tuple #[.agg #[.int .u8 0, .int .u8 0, .int .u8 0, .int .u8 0, .int .u8 0, .int .u8 0], .int .i64 1, .int .i64 5]) (by simp [results, Try.results31, go_sem]) rfl ⟨rfl, parse_below _ _ _ _⟩
        · have hne : s.size ≤ 1 := by omega
          go_wp2
          exact bodyPost_ret (v := .tuple #[.agg #[.int .u8 0, .int .u8 0, .int .u8 0, .int .u8 0, .int .u8 0, .int .u8 0], .int .i64 1, .int .i64 5]) (by simp [results, Try.results31, go_sem]) rfl ⟨rfl, parse_below _ _ _ _⟩
    · rw [arrP_2]
      by_cases hlt : 2 < K
      · obtain ⟨h1, h2⟩ := HG.out 2 hlt
        rw [if_neg (by omega)] at h2
        have hc := chI_at s 2 h1
        have hcb := chI_bd s 2
        have hd15 := (digI_bd _ h2).1
        have hor := or8_hi _ ⟨h2, hd15⟩
        go_wp2_with (first | (go_at_call 50; refine (digit_yes _ _ hcb h2).mono ?_; rintro e w1 ⟨rfl, rfl⟩) | go_in)
        go_region
        go_wp2
        go_roundw
        case rel => exact ⟨3, m + 1, by omega, rfl, by rw [arrP_3]⟩
        case measure => simp [intOf]
      · obtain rfl : K = 2 := by omega
        have hbad := HB.out (by omega)
        by_cases h1 : 2 < s.size
        · have h2 : digI (chI s 2) < 0 := Int.lt_of_not_ge fun h => hbad ⟨h1, by rw [if_neg (by omega)]; exact h⟩
          have hc := chI_at s 2 h1
          have hcb := chI_bd s 2
          go_wp2_with (first | (go_at_call 50; refine (digit_no _ _ hcb (by omega)).mono ?_; rintro e w1 ⟨rfl, rfl⟩) | go_in)
          exact bodyPost_ret (v := .tuple #[.agg #[.int .u8 0, .int .u8 0, .int .u8 0, .int .u8 0, .int .u8 0, .int .u8 0], .int .i64 2, .int .i64 5]) (by simp [results, Try.results31, go_sem]) rfl ⟨rfl, parse_below _ _ _ _⟩
        · have hne : s.size ≤ 2 := by omega
          go_wp2
          exact bodyPost_ret (v := .tuple #[.agg #[.int .u8 0, .int .u8 0, .int .u8 0, .int .u8 0, .int .u8 0, .int .u8 0], .int .i64 2, .int .i64 5]) (by simp [results, Try.results31, go_sem]) rfl ⟨rfl, parse_below _ _ _ _⟩
    · rw [arrP_3]
      by_cases hlt : 3 < K
      · obtain ⟨h1, h2⟩ := HG.out 3 hlt
        rw [if_neg (by omega)] at h2
        have hc := chI_at s 3 h1
        have hcb := chI_bd s 3
        have hd15 := (digI_bd _ h2).1
        obtain ⟨p1, p2⟩ := HG.out 2 (by omega)
        rw [if_neg (by omega)] at p2
        have p15 := (digI_bd _ p2).1
        have hor := or8_lo _ _ ⟨p2, p15⟩ ⟨h2, hd15⟩
        go_wp2_with (first | (go_at_call 50; refine (digit_yes _ _ hcb h2).mono ?_; rintro e w1 ⟨rfl, rfl⟩) | go_in)
        go_region
        go_wp2
        go_roundw
        case rel => exact ⟨4, m + 1, by omega, rfl, by rw [arrP_4]⟩
        case measure => simp [intOf]
      · obtain rfl : K = 3 := by omega
        have hbad := HB.out (by omega)
        by_cases h1 : 3 < s.size
        · have h2 : digI (chI s 3) < 0 := Int.lt_of_not_ge fun h => hbad ⟨h1, by rw [if_neg (by omega)]; exact h⟩
          have hc := chI_at s 3 h1
          have hcb := chI_bd s 3
          go_wp2_with (first | (go_at_call 50; refine (digit_no _ _ hcb (by omega)).mono ?_; rintro e w1 ⟨rfl, rfl⟩) | go_in)
          exact bodyPost_ret (v := .tuple #[.agg #[.int .u8 0, .int .u8 0, .int .u8 0, .int .u8 0, .int .u8 0, .int .u8 0], .int .i64 3, .int .i64 5]) (by simp [results, Try.results31, go_sem]) rfl ⟨rfl, parse_below _ _ _ _⟩
        · have hne : s.size ≤ 3 := by omega
          go_wp2
          exact bodyPost_ret (v := .tuple #[.agg #[.int .u8 0, .int .u8 0, .int .u8 0, .int .u8 0, .int .u8 0, .int .u8 0], .int .i64 3, .int .i64 5]) (by simp [results, Try.results31, go_sem]) rfl ⟨rfl, parse_below _ _ _ _⟩
    · rw [arrP_4]
      by_cases hlt : 4 < K
      · obtain ⟨h1, h2⟩ := HG.out 4 hlt
        rw [if_pos (by omega)] at h2
        have hc := chI_at s 4 h1
        have hcb := chI_bd s 4
        have h3 : (chI s 4 != 46) = false := by simp [h2]
        clear h2
        go_wp2
        go_roundw
        case rel => exact ⟨5, m, by omega, rfl, by rw [arrP_5]⟩
        case measure => simp [intOf]
      · obtain rfl : K = 4 := by omega
        have hbad := HB.out (by omega)
        by_cases h1 : 4 < s.size
        · have h2 : ¬ chI s 4 = 46 := fun h => hbad ⟨h1, by rw [if_pos (by omega)]; exact h⟩
          have hc := chI_at s 4 h1
          have hcb := chI_bd s 4
          have h3 : (chI s 4 != 46) = true := by simp [h2]
          go_wp2
          exact bodyPost_ret (v := .tuple #[.agg #[.int .u8 0, .int .u8 0, .int .u8 0, .int .u8 0, .int .u8 0, .int .u8 0], .int .i64 4, .int .i64 5]) (by simp [results, Try.results31, go_sem]) rfl ⟨rfl, parse_below _ _ _ _⟩
        · have hne : s.size ≤ 4 := by omega
          go_wp2
          exact bodyPost_ret (v := .tuple #[.agg #[.int .u8 0, .int .u8 0, .int .u8 0, .int .u8 0, .int .u8 0, .int .u8 0], .int .i64 4, .int .i64 5]) (by simp [results, Try.results31, go_sem]) rfl ⟨rfl, parse_below _ _ _ _⟩
    · rw [arrP_5]
      by_cases hlt : 5 < K
      · obtain ⟨h1, h2⟩ := HG.out 5 hlt
        rw [if_neg (by omega)] at h2
        have hc := chI_at s 5 h1
        have hcb := chI_bd s 5
        have hd15 := (digI_bd _ h2).1
        have hor := or8_hi _ ⟨h2, hd15⟩
        go_wp2_with (first | (go_at_call 50; refine (digit_yes _ _ hcb h2).mono ?_; rintro e w1 ⟨rfl, rfl⟩) | go_in)
        go_region
        go_wp2
        go_roundw
        case rel => exact ⟨6, m + 1, by omega, rfl, by rw [arrP_6]⟩
        case measure => simp [intOf]
      · obtain rfl : K = 5 := by omega
        have hbad := HB.out (by omega)
        by_cases h1 : 5 < s.size
        · have h2 : digI (chI s 5) < 0 := Int.lt_of_not_ge fun h => hbad ⟨h1, by rw [if_neg (by omega)]; exact h⟩
          have hc := chI_at s 5 h1
          have hcb := chI_bd s 5
          go_wp2_with (first | (go_at_call 50; refine (digit_no _ _ hcb (by omega)).mono ?_; rintro e w1 ⟨rfl, rfl⟩) | go_in)
          exact bodyPost_ret (v := .tuple #[.agg #[.int .u8 0, .int .u8 0, .int .u8 0, .int .u8 0, .int .u8 0, .int .u8 0], .int .i64 5, .int .i64 5]) (by simp [results, Try.results31, go_sem]) rfl ⟨rfl, parse_below _ _ _ _⟩
        · have hne : s.size ≤ 5 := by omega
          go_wp2
          exact bodyPost_ret (v := .tuple #[.agg #[.int .u8 0, .int .u8 0, .int .u8 0, .int .u8 0, .int .u8 0, .int .u8 0], .int .i64 5, .int .i64 5]) (by simp [results, Try.results31, go_sem]) rfl ⟨rfl, parse_below _ _ _ _⟩
    · rw [arrP_6]
      by_cases hlt : 6 < K
      · obtain ⟨h1, h2⟩ := HG.out 6 hlt
        rw [if_neg (by omega)] at h2
        have hc := chI_at s 6 h1
        have hcb := chI_bd s 6
        have hd15 := (digI_bd _ h2).1
        obtain ⟨p1, p2⟩ := HG.out 5 (by omega)
        rw [if_neg (by omega)] at p2
        have p15 := (digI_bd _ p2).1
        have hor := or8_lo _ _ ⟨p2, p15⟩ ⟨h2, hd15⟩
        go_wp2_with (first | (go_at_call 50; refine (digit_yes _ _ hcb h2).mono ?_; rintro e w1 ⟨rfl, rfl⟩) | go_in)
        go_region
        go_wp2
        go_roundw
        case rel => exact ⟨7, m + 1, by omega, rfl, by rw [arrP_7]⟩
        case measure => simp [intOf]
      · obtain rfl : K = 6 := by omega
        have hbad := HB.out (by omega)
        by_cases h1 : 6 < s.size
        · have h2 : digI (chI s 6) < 0 := Int.lt_of_not_ge fun h => hbad ⟨h1, by rw [if_neg (by omega)]; exact h⟩
          have hc := chI_at s 6 h1
          have hcb := chI_bd s 6
          go_wp2_with (first | (go_at_call 50; refine (digit_no _ _ hcb (by omega)).mono ?_; rintro e w1 ⟨rfl, rfl⟩) | go_in)
          exact bodyPost_ret (v := .tuple #[.agg #[.int .u8 0, .int .u8 0, .int .u8 0, .int .u8 0, .int .u8 0, .int .u8 0], .int .i64 6, .int .i64 5]) (by simp [results, Try.results31, go_sem]) rfl ⟨rfl, parse_below _ _ _ _⟩
        · have hne : s.size ≤ 6 := by omega
          go_wp2
          exact bodyPost_ret (v := .tuple #[.agg #[.int .u8 0, .int .u8 0, .int .u8 0, .int .u8 0, .int .u8 0, .int .u8 0], .int .i64 6, .int .i64 5]) (by simp [results, Try.results31, go_sem]) rfl ⟨rfl, parse_below _ _ _ _⟩
    · rw [arrP_7]
      by_cases hlt : 7 < K
      · obtain ⟨h1, h2⟩ := HG.out 7 hlt
        rw [if_neg (by omega)] at h2
        have hc := chI_at s 7 h1
        have hcb := chI_bd s 7
        have hd15 := (digI_bd _ h2).1
        have hor := or8_hi _ ⟨h2, hd15⟩
        go_wp2_with (first | (go_at_call 50; refine (digit_yes _ _ hcb h2).mono ?_; rintro e w1 ⟨rfl, rfl⟩) | go_in)
        go_region
        go_wp2
        go_roundw
        case rel => exact ⟨8, m + 1, by omega, rfl, by rw [arrP_8]⟩
        case measure => simp [intOf]
      · obtain rfl : K = 7 := by omega
        have hbad := HB.out (by omega)
        by_cases h1 : 7 < s.size
        · have h2 : digI (chI s 7) < 0 := Int.lt_of_not_ge fun h => hbad ⟨h1, by rw [if_neg (by omega)]; exact h⟩
          have hc := chI_at s 7 h1
          have hcb := chI_bd s 7
          go_wp2_with (first | (go_at_call 50; refine (digit_no _ _ hcb (by omega)).mono ?_; rintro e w1 ⟨rfl, rfl⟩) | go_in)
          exact bodyPost_ret (v := .tuple #[.agg #[.int .u8 0, .int .u8 0, .int .u8 0, .int .u8 0, .int .u8 0, .int .u8 0], .int .i64 7, .int .i64 5]) (by simp [results, Try.results31, go_sem]) rfl ⟨rfl, parse_below _ _ _ _⟩
        · have hne : s.size ≤ 7 := by omega
          go_wp2
          exact bodyPost_ret (v := .tuple #[.agg #[.int .u8 0, .int .u8 0, .int .u8 0, .int .u8 0, .int .u8 0, .int .u8 0], .int .i64 7, .int .i64 5]) (by simp [results, Try.results31, go_sem]) rfl ⟨rfl, parse_below _ _ _ _⟩
    · rw [arrP_8]
      by_cases hlt : 8 < K
      · obtain ⟨h1, h2⟩ := HG.out 8 hlt
        rw [if_neg (by omega)] at h2
        have hc := chI_at s 8 h1
        have hcb := chI_bd s 8
        have hd15 := (digI_bd _ h2).1
        obtain ⟨p1, p2⟩ := HG.out 7 (by omega)
        rw [if_neg (by omega)] at p2
        have p15 := (digI_bd _ p2).1
        have hor := or8_lo _ _ ⟨p2, p15⟩ ⟨h2, hd15⟩
        go_wp2_with (first | (go_at_call 50; refine (digit_yes _ _ hcb h2).mono ?_; rintro e w1 ⟨rfl, rfl⟩) | go_in)
        go_region
        go_wp2
        go_roundw
        case rel => exact ⟨9, m + 1, by omega, rfl, by rw [arrP_9]⟩
        case measure => simp [intOf]
      · obtain rfl : K = 8 := by omega
        have hbad := HB.out (by omega)
        by_cases h1 : 8 < s.size
        · have h2 : digI (chI s 8) < 0 := Int.lt_of_not_ge fun h => hbad ⟨h1, by rw [if_neg (by omega)]; exact h⟩
          have hc := chI_at s 8 h1
          have hcb := chI_bd s 8
          go_wp2_with (first | (go_at_call 50; refine (digit_no _ _ hcb (by omega)).mono ?_; rintro e w1 ⟨rfl, rfl⟩) | go_in)
          exact bodyPost_ret (v := .tuple #[.agg #[.int .u8 0, .int .u8 0, .int .u8 0, .int .u8 0, .int .u8 0, .int .u8 0], .int .i64 8, .int .i64 5]) (by simp [results, Try.results31, go_sem]) rfl ⟨rfl, parse_below _ _ _ _⟩
        · have hne : s.size ≤ 8 := by omega
          go_wp2
          exact bodyPost_ret (v := .tuple #[.agg #[.int .u8 0, .int .u8 0, .int .u8 0, .int .u8 0, .int .u8 0, .int .u8 0], .int .i64 8, .int .i64 5]) (by simp [results, Try.results31, go_sem]) rfl ⟨rfl, parse_below _ _ _ _⟩
    · rw [arrP_9]
      by_cases hlt : 9 < K
      · obtain ⟨h1, h2⟩ := HG.out 9 hlt
        rw [if_pos (by omega)] at h2
        have hc := chI_at s 9 h1
        have hcb := chI_bd s 9
        have h3 : (chI s 9 != 46) = false := by simp [h2]
        clear h2
        go_wp2
        go_roundw
        case rel => exact ⟨10, m, by omega, rfl, by rw [arrP_10]⟩
        case measure => simp [intOf]
      · obtain rfl : K = 9 := by omega
        have hbad := HB.out (by omega)
        by_cases h1 : 9 < s.size
        · have h2 : ¬ chI s 9 = 46 := fun h => hbad ⟨h1, by rw [if_pos (by omega)]; exact h⟩
          have hc := chI_at s 9 h1
          have hcb := chI_bd s 9
          have h3 : (chI s 9 != 46) = true := by simp [h2]
          go_wp2
          exact bodyPost_ret (v := .tuple #[.agg #[.int .u8 0, .int .u8 0, .int .u8 0, .int .u8 0, .int .u8 0, .int .u8 0], .int .i64 9, .int .i64 5]) (by simp [results, Try.results31, go_sem]) rfl ⟨rfl, parse_below _ _ _ _⟩
        · have hne : s.size ≤ 9 := by omega
          go_wp2
          exact bodyPost_ret (v := .tuple #[.agg #[.int .u8 0, .int .u8 0, .int .u8 0, .int .u8 0, .int .u8 0, .int .u8 0], .int .i64 9, .int .i64 5]) (by simp [results, Try.results31, go_sem]) rfl ⟨rfl, parse_below _ _ _ _⟩
    · rw [arrP_10]
      by_cases hlt : 10 < K
      · obtain ⟨h1, h2⟩ := HG.out 10 hlt
        rw [if_neg (by omega)] at h2
        have hc := chI_at s 10 h1
        have hcb := chI_bd s 10
        have hd15 := (digI_bd _ h2).1
        have hor := or8_hi _ ⟨h2, hd15⟩
        go_wp2_with (first | (go_at_call 50; refine (digit_yes _ _ hcb h2).mono ?_; rintro e w1 ⟨rfl, rfl⟩) | go_in)
        go_region
        go_wp2
        go_roundw
        case rel => exact ⟨11, m + 1, by omega, rfl, by rw [arrP_11]⟩
        case measure => simp [intOf]
      · obtain rfl : K = 10 := by omega
        have hbad := HB.out (by omega)
        by_cases h1 : 10 < s.size
        · have h2 : digI (chI s 10) < 0 := Int.lt_of_not_ge fun h => hbad ⟨h1, by rw [if_neg (by omega)]; exact h⟩
          have hc := chI_at s 10 h1
          have hcb := chI_bd s 10
          go_wp2_with (first | (go_at_call 50; refine (digit_no _ _ hcb (by omega)).mono ?_; rintro e w1 ⟨rfl, rfl⟩) | go_in)
          exact bodyPost_ret (v := .tuple #[.agg #[.int .u8 0, .int .u8 0, .int .u8 0, .int .u8 0, .int .u8 0, .int .u8 0], .int .i64 10, .int .i64 5]) (by simp [results, Try.results31, go_sem]) rfl ⟨rfl, parse_below _ _ _ _⟩
        · have hne : s.size ≤ 10 := by omega
          go_wp2
          exact bodyPost_ret (v := .tuple #[.agg #[.int .u8 0, .int .u8 0, .int .u8 0, .int .u8 0, .int .u8 0, .int .u8 0], .int .i64 10, .int .i64 5]) (by simp [results, Try.results31, go_sem]) rfl ⟨rfl, parse_below _ _ _ _⟩
    · rw [arrP_11]
      by_cases hlt : 11 < K
      · obtain ⟨h1, h2⟩ := HG.out 11 hlt
        rw [if_neg (by omega)] at h2
        have hc := chI_at s 11 h1
        have hcb := chI_bd s 11
        have hd15 := (digI_bd _ h2).1
        obtain ⟨p1, p2⟩ := HG.out 10 (by omega)
        rw [if_neg (by omega)] at p2
        have p15 := (digI_bd _ p2).1
        have hor := or8_lo _ _ ⟨p2, p15⟩ ⟨h2, hd15⟩
        go_wp2_with (first | (go_at_call 50; refine (digit_yes _ _ hcb h2).mono ?_; rintro e w1 ⟨rfl, rfl⟩) | go_in)
        go_region
        go_wp2
        go_roundw
        case rel => exact ⟨12, m + 1, by omega, rfl, by rw [arrP_12]⟩
        case measure => simp [intOf]
      · obtain rfl : K = 11 := by omega
        have hbad := HB.out (by omega)
        by_cases h1 : 11 < s.size
        · have h2 : digI (chI s 11) < 0 := Int.lt_of_not_ge fun h => hbad ⟨h1, by rw [if_neg (by omega)]; exact h⟩
          have hc := chI_at s 11 h1
          have hcb := chI_bd s 11
          go_wp2_with (first | (go_at_call 50; refine (digit_no _ _ hcb (by omega)).mono ?_; rintro e w1 ⟨rfl, rfl⟩) | go_in)
          exact bodyPost_ret (v := .tuple #[.agg #[.int .u8 0, .int .u8 0, .int .u8 0, .int .u8 0, .int .u8 0, .int .u8 0], .int .i64 11, .int .i64 5]) (by simp [results, Try.results31, go_sem]) rfl ⟨rfl, parse_below _ _ _ _⟩
        · have hne : s.size ≤ 11 := by omega
          go_wp2
          exact bodyPost_ret (v := .tuple #[.agg #[.int .u8 0, .int .u8 0, .int .u8 0, .int .u8 0, .int .u8 0, .int .u8 0], .int .i64 11, .int .i64 5]) (by simp [results, Try.results31, go_sem]) rfl ⟨rfl, parse_below _ _ _ _⟩
    · rw [arrP_12]
      by_cases hlt : 12 < K
      · obtain ⟨h1, h2⟩ := HG.out 12 hlt
        rw [if_neg (by omega)] at h2
        have hc := chI_at s 12 h1
        have hcb := chI_bd s 12
        have hd15 := (digI_bd _ h2).1
        have hor := or8_hi _ ⟨h2, hd15⟩
        go_wp2_with (first | (go_at_call 50; refine (digit_yes _ _ hcb h2).mono ?_; rintro e w1 ⟨rfl, rfl⟩) | go_in)
        go_region
        go_wp2
        go_roundw
        case rel => exact ⟨13, m + 1, by omega, rfl, by rw [arrP_13]⟩
        case measure => simp [intOf]
      · obtain rfl : K = 12 := by omega
        have hbad := HB.out (by omega)
        by_cases h1 : 12 < s.size
        · have h2 : digI (chI s 12) < 0 := Int.lt_of_not_ge fun h => hbad ⟨h1, by rw [if_neg (by omega)]; exact h⟩
          have hc := chI_at s 12 h1
          have hcb := chI_bd s 12
          go_wp2_with (first | (go_at_call 50; refine (digit_no _ _ hcb (by omega)).mono ?_; rintro e w1 ⟨rfl, rfl⟩) | go_in)
          exact bodyPost_ret (v := .tuple #[.agg #[.int .u8 0, .int .u8 0, .int .u8 0, .int .u8 0, .int .u8 0, .int .u8 0], .int .i64 12, .int .i64 5]) (by simp [results, Try.results31, go_sem]) rfl ⟨rfl, parse_below _ _ _ _⟩
        · have hne : s.size ≤ 12 := by omega
          go_wp2
          exact bodyPost_ret (v := .tuple #[.agg #[.int .u8 0, .int .u8 0, .int .u8 0, .int .u8 0, .int .u8 0, .int .u8 0], .int .i64 12, .int .i64 5]) (by simp [results, Try.results31, go_sem]) rfl ⟨rfl, parse_below _ _ _ _⟩
    · rw [arrP_13]
      by_cases hlt : 13 < K
      · obtain ⟨h1, h2⟩ := HG.out 13 hlt
        rw [if_neg (by omega)] at h2
        have hc := chI_at s 13 h1
        have hcb := chI_bd s 13
        have hd15 := (digI_bd _ h2).1
        obtain ⟨p1, p2⟩ := HG.out 12 (by omega)
        rw [if_neg (by omega)] at p2
        have p15 := (digI_bd _ p2).1
        have hor := or8_lo _ _ ⟨p2, p15⟩ ⟨h2, hd15⟩
        go_wp2_with (first | (go_at_call 50; refine (digit_yes _ _ hcb h2).mono ?_; rintro e w1 ⟨rfl, rfl⟩) | go_in)
        go_region
        go_wp2
        go_roundw
        case rel => exact ⟨14, m + 1, by omega, rfl, by rw [arrP_14]⟩
        case measure => simp [intOf]
      · obtain rfl : K = 13 := by omega
        have hbad := HB.out (by omega)
        by_cases h1 : 13 < s.size
        · have h2 : digI (chI s 13) < 0 := Int.lt_of_not_ge fun h => hbad ⟨h1, by rw [if_neg (by omega)]; exact h⟩
          have hc := chI_at s 13 h1
          have hcb := chI_bd s 13
          go_wp2_with (first | (go_at_call 50; refine (digit_no _ _ hcb (by omega)).mono ?_; rintro e w1 ⟨rfl, rfl⟩) | go_in)
          exact bodyPost_ret (v := .tuple #[.agg #[.int .u8 0, .int .u8 0, .int .u8 0, .int .u8 0, .int .u8 0, .int .u8 0], .int .i64 13, .int .i64 5]) (by simp [results, Try.results31, go_sem]) rfl ⟨rfl, parse_below _ _ _ _⟩
        · have hne : s.size ≤ 13 := by omega
          go_wp2
          exact bodyPost_ret (v := .tuple #[.agg #[.int .u8 0, .int .u8 0, .int .u8 0, .int .u8 0, .int .u8 0, .int .u8 0], .int .i64 13, .int .i64 5]) (by simp [results, Try.results31, go_sem]) rfl ⟨rfl, parse_below _ _ _ _⟩
    · obtain rfl : K = 14 := by omega
      have h13 := (HG.out 13 (by omega)).1
      by_cases hl : 14 < s.size
      · go_wp2
        exact bodyPost_ret (v := .tuple #[.agg #[.int .u8 0, .int .u8 0, .int .u8 0, .int .u8 0, .int .u8 0, .int .u8 0], .int .i64 14, .int .i64 5]) (by simp [results, Try.results31, go_sem]) rfl ⟨by rw [if_neg (by omega), if_pos hl]; rfl, parse_below _ _ _ _⟩
      · rw [arrP_14]
        go_wp2
        exact bodyPost_ret (v := .tuple #[.agg #[.int .u8 (digI (chI s 0) * 16 + digI (chI s 1)), .int .u8 (digI (chI s 2) * 16 + digI (chI s 3)), .int .u8 (digI (chI s 5) * 16 + digI (chI s 6)), .int .u8 (digI (chI s 7) * 16 + digI (chI s 8)), .int .u8 (digI (chI s 10) * 16 + digI (chI s 11)), .int .u8 (digI (chI s 12) * 16 + digI (chI s 13))], .int .i64 0, .int .i64 0]) (by simp [results, Try.results31, go_sem]) rfl ⟨by rw [if_neg (by omega), if_neg hl]; unfold parseOk; rw [arrP_14], parse_below _ _ _ _⟩
end Go.Proofs.Ytbafeffmcfldoaa
