/- Texts of this claim put together; each theorem states its conditions. -/
import Derived.Test.YtkiaijmhoikdiaaGreatGStorePlays1
import Derived.Deep.DeepMust
import Derived.Test.YtkiaijmhoikdiaaGreatRows
import Derived.WalkKit
import Derived.WalkLawsBesides
import Derived.WalkSpells
import Derived.IntWalk
import Derived.Outline
import Derived.Lib.Hide
import Derived.Stop.BytesEq
import Derived.Laws.IdiomStrings
/- Join writes a list as bytes. Each theorem states its conditions. -/
namespace Go.Proofs.YtkiaijmhoikdiaaGreat
open Go.RowKit
set_option linter.unusedVariables false

def sz (L : Nat → It) : Nat → Nat
  | 0 => 0
  | k + 1 => sz L k + (2 + (L k).n)
def bad (L : Nat → It) (k : Nat) : Prop := 255 < (L k).n ∨ 1492 < sz L (k + 1)
instance (L : Nat → It) (k : Nat) : Decidable (bad L k) := by unfold bad; infer_instance
def cat (z : Nat → Int) (n : Nat) (z' : Nat → Int) : Nat → Int := fun j => if j < n then z j else z' (j - n)
def two (a b : Int) : Nat → Int := fun j => if j = 0 then a else b
def J (L : Nat → It) : Nat → Nat → Int
  | 0 => fun _ => 0
  | k + 1 => cat (cat (J L k) (sz L k) (two (L k).ty (L k).n)) (sz L k + 2) (L k).z

theorem cat_bd {z z' : Nat → Int} {n : Nat} (h : ∀ j, 0 ≤ z j ∧ z j ≤ 255) (h' : ∀ j, 0 ≤ z' j ∧ z' j ≤ 255) : ∀ j, 0 ≤ cat z n z' j ∧ cat z n z' j ≤ 255 := by
  intro j; unfold cat; split
  · exact h j
  · exact h' _
theorem two_bd {a b : Int} (h : 0 ≤ a ∧ a ≤ 255) (h' : 0 ≤ b ∧ b ≤ 255) : ∀ j, 0 ≤ two a b j ∧ two a b j ≤ 255 := by
  intro j; unfold two; split
  · exact h
  · exact h'
theorem vals_cat (z z' : Nat → Int) (n m : Nat) : vals z n ++ vals z' m = vals (cat z n z') (n + m) := by
  apply List.ext_getElem
  · simp [vals]
  · intro i h1 h2
    have hi : i < n + m := by simpa [vals] using h2
    by_cases h : i < n <;> simp [vals, List.getElem_append, h, cat]
theorem vals_two (a b : Int) : vals (two a b) 2 = [.int .u8 a, .int .u8 b] := by simp [vals, two, List.range_succ]
theorem vals_ext {z z' : Nat → Int} {n : Nat} (h : ∀ j, j < n → z j = z' j) : vals z n = vals z' n := by
  unfold vals
  apply List.map_congr_left
  intro j hj
  rw [h j (by simpa using hj)]
theorem sz_mono (L : Nat → It) (k m : Nat) (h : k ≤ m) : sz L k ≤ sz L m := by
  induction m with
  | zero => obtain rfl : k = 0 := by omega
            exact Nat.le_refl _
  | succ m ih =>
    by_cases e : k = m + 1
    · subst e; exact Nat.le_refl _
    · have := ih (by omega); simp only [sz]; omega
theorem J_bd (L : Nat → It) (k : Nat) (ht : ∀ j, j < k → 0 ≤ (L j).ty ∧ (L j).ty ≤ 255) (hn : ∀ j, j < k → (L j).n ≤ 255) (hz : ∀ j, j < k → ∀ i, 0 ≤ (L j).z i ∧ (L j).z i ≤ 255) : ∀ j, 0 ≤ J L k j ∧ J L k j ≤ 255 := by
  induction k with
  | zero => intro j; simp [J]
  | succ k ih => exact cat_bd (cat_bd (ih (fun j hj => ht j (by omega)) (fun j hj => hn j (by omega)) (fun j hj => hz j (by omega))) (two_bd (ht k (by omega)) ⟨by omega, by have := hn k (by omega); omega⟩)) (hz k (by omega))
theorem rd_news' {w : World} {n : Nat} {z : Nat → Int} {ad : Addr} (h : Rd w (some ad) n z) : ∀ j u, (vals z n)[j]? = some u → w.cell? (ad.add j) = some u := by
  intro j u hu
  obtain ⟨hj, rfl⟩ := vals_at' z n j u hu
  obtain ⟨b, off, e, hr⟩ := h.row (by omega)
  injection e with e
  subst e
  have hadd : (⟨b, off, none⟩ : Addr).add j = ⟨b, off + j, none⟩ := by unfold Addr.add; split <;> simp_all
  rw [hadd]
  exact hr.2.1 j hj

def JEnds (L : Nat → It) (m m0 : Nat) : Prop := m0 ≤ m ∧ (∀ k, k < m0 → ¬ bad L k) ∧ (m0 = m ∨ (m0 < m ∧ bad L m0))
theorem jends (L : Nat → It) (m : Nat) : ∃ m0, JEnds L m m0 := by
  induction m with
  | zero => exact ⟨0, by omega, fun k hk => by omega, .inl rfl⟩
  | succ m ih =>
    obtain ⟨m0, h1, h2, h3⟩ := ih
    rcases h3 with rfl | ⟨h3, h4⟩
    · by_cases hb : bad L m0
      · exact ⟨m0, by omega, h2, .inr ⟨by omega, hb⟩⟩
      · refine ⟨m0 + 1, by omega, fun k hk => ?_, .inl rfl⟩
        by_cases e : k = m0
        · subst e; exact hb
        · exact h2 k (by omega)
    · exact ⟨m0, by omega, h2, .inr ⟨by omega, h4⟩⟩
end Go.Proofs.YtkiaijmhoikdiaaGreat

/- octet.checkByte, checkPlace and Sum answer as the plain functions say. Each theorem states its conditions. -/
namespace Go.Proofs.YtkiaijmhoikdiaaGreat
open Go.RowKit
set_option linter.unusedVariables false

theorem checkByte_any (n : Int) (w : World) (h1 : -1000000000 ≤ n) (h2 : n ≤ 1000000000) :
    Calls Tryz.prog 133 #[.int .i64 n] w fun e w' => e = .returned (.int .i64 (cbI n)) ∧ w = w' := by
  have h3 := tmod_bd n
  by_cases hc : n.tmod 255 ≤ 0
  · have h := Lib.hid (cbI_tmod_lo n hc)
    go_enter Tryz.func133, Tryz.ntmps133
    go_wp2
    go_ret
    exact ⟨ret_int h.out, rfl⟩
  · have h := Lib.hid (cbI_tmod_hi n (by omega))
    go_enter Tryz.func133, Tryz.ntmps133
    go_wp2
    go_ret
    exact ⟨ret_int h.out, rfl⟩

theorem checkPlace_ok (A : Option Addr) (len cap : Nat) (s : Int) (w : World) (hn : len ≤ 1492) (h0 : 0 ≤ s) (h1 : s ≤ len - 2) :
    Calls Tryz.prog 132 #[.slice A len cap, .int .i64 s] w fun e w' => e = .returned (.int .i64 0) ∧ w = w' := by
  go_enter Tryz.func132, Tryz.ntmps132
  go_wp2
  go_ret
  exact ⟨rfl, rfl⟩

theorem sum_ok (b off len cap : Nat) (z : Nat → Int) (i : Int) (w : World)
    (hz : ∀ j, 0 ≤ z j ∧ z j ≤ 255) (hn : len ≤ 1492)
    (hc : ∀ j, j < len → w.cell? ⟨b, off + j, none⟩ = some (.int .u8 (z j)))
    (hi0 : 0 ≤ i) (hi : i ≤ len - 2) :
    Calls Tryz.prog 129 #[.slice (some ⟨b, off, none⟩) len cap, .int .i64 i] w fun e w' => e = .returned (.tuple #[.int .u16 (chk z i.toNat len), .int .i64 0]) ∧ w = w' := by
  obtain ⟨s, rfl⟩ := Int.eq_ofNat_of_zero_le hi0
  rw [Int.toNat_natCast]
  go_enter Tryz.func129, Tryz.ntmps129
  go_wp2_with (go_at_call 132; refine (checkPlace_ok _ _ _ _ _ (by omega) (by omega) (by omega)).mono ?_; rintro e w' ⟨rfl, rfl⟩)
  go_loop [7, 8, 21] (fun p q t => ∃ c : Nat, c ≤ len ∧ t = .int .i64 c ∧ p = .int .i64 (sumA z s c) ∧ q = .int .i64 (sumB z s len c)) (fun _ _ t => len - (intOf t).toNat)
  case atStart => exact ⟨0, Nat.zero_le _, rfl, rfl, rfl⟩
  case round =>
    obtain ⟨c, hcm, rfl, rfl, rfl⟩ := hrel
    have hA := sumA_bd z s c hz
    have hB := sumB_bd z s len c hz hn hcm
    by_cases hlt : c < len
    · have hcell := hc c hlt
      have hb := hz c
      have hm := mul_bd (z c) ((len : Int) - c) 255 1492 hb.1 hb.2 (by omega) (by omega)
      by_cases h1 : c = s
      · have hs1 := Lib.hid (sumA_skip z s c (.inl h1))
        have hs2 := Lib.hid (sumB_skip z s len c (.inl h1))
        have h1' : ((c : Int) != s) = false := by simp [h1]
        have H1 := Lib.hid h1; clear h1
        go_wp2
        go_round
        case rel => exact ⟨c + 1, by omega, by go_num, by rw [hs1.out], by rw [hs2.out]⟩
        case measure => simp [intOf]; omega
      · have h1' : ((c : Int) != s) = true := by simp; omega
        by_cases h2 : c = s + 1
        · have hs1 := Lib.hid (sumA_skip z s c (.inr h2))
          have hs2 := Lib.hid (sumB_skip z s len c (.inr h2))
          have h2' : ((c : Int) != (s : Int) + 1) = false := by simp; omega
          have H2 := Lib.hid h2; clear h2
          go_wp2
          go_round
          case rel => exact ⟨c + 1, by omega, by go_num, by rw [hs1.out], by rw [hs2.out]⟩
          case measure => simp [intOf]; omega
        · have hs1 := Lib.hid (sumA_take z s c (by omega))
          have hs2 := Lib.hid (sumB_take z s len c (by omega))
          have h2' : ((c : Int) != (s : Int) + 1) = true := by simp; omega
          go_wp2
          go_round
          case rel => exact ⟨c + 1, by omega, by go_num, by rw [hs1.out], by rw [hs2.out]⟩
          case measure => simp [intOf]; omega
    · obtain rfl : c = len := by omega
      have hm := mul_bd (sumA z s c) ((c : Int) - s - 1) 380460 1492 hA.1 (by omega) (by omega) (by omega)
      have hx := cbI_bd (sumA z s c * ((c : Int) - s - 1) - sumB z s c c)
      have hy := cbI_bd (-sumA z s c - cbI (sumA z s c * ((c : Int) - s - 1) - sumB z s c c))
      have hj := Lib.hid (u16_join' _ _ hx hy)
      go_wp2_with (go_at_call 133; refine (checkByte_any _ _ (by omega) (by omega)).mono ?_; rintro e w' ⟨rfl, rfl⟩)
      go_ret2
      exact ⟨ret2_eq (u16_eq hj.out) _, rfl⟩
end Go.Proofs.YtkiaijmhoikdiaaGreat

/- octet.Right tells whether the bytes have their check bytes; their errors are those of the place. Each theorem states its conditions. -/
namespace Go.Proofs.YtkiaijmhoikdiaaGreat
open Go.RowKit
set_option linter.unusedVariables false

def rightB (z : Nat → Int) (s n : Nat) : Bool := z s == chkX z s n && z (s + 1) == chkY z s n
theorem chk_bd (z : Nat → Int) (s n : Nat) : 0 ≤ chk z s n ∧ chk z s n ≤ 65535 ∧ chk z s n / 256 = chkX z s n ∧ chk z s n % 256 = chkY z s n ∧ 1 ≤ chkX z s n ∧ chkX z s n ≤ 255 ∧ 1 ≤ chkY z s n ∧ chkY z s n ≤ 255 := by
  have h1 : 1 ≤ chkX z s n ∧ chkX z s n ≤ 255 := by unfold chkX; exact cbI_bd _
  have h2 : 1 ≤ chkY z s n ∧ chkY z s n ≤ 255 := by unfold chkY; exact cbI_bd _
  unfold chk
  omega

theorem right_ok (b off len cap : Nat) (z : Nat → Int) (i : Int) (w : World) (hr : Row8 w b off len z) (hn : len ≤ 1492) (hi0 : 0 ≤ i) (hi : i ≤ len - 2) :
    Calls Tryz.prog 119 #[.slice (some ⟨b, off, none⟩) len cap, .int .i64 i] w fun e w' => e = .returned (.tuple #[.bool (rightB z i.toNat len), .int .i64 0]) ∧ w = w' := by
  obtain ⟨s, rfl⟩ := Int.eq_ofNat_of_zero_le hi0
  rw [Int.toNat_natCast]
  have hsum := sum_ok b off len cap z s w hr.2.2 hn hr.2.1 hi0 hi
  rw [Int.toNat_natCast] at hsum
  have H := Lib.hid hsum
  have c0 := hr.2.1 s (by omega)
  have c1 := hr.2.1 (s + 1) (by omega)
  have hb := chk_bd z s len
  clear hsum hr
  by_cases h1 : z s = chkX z s len
  · by_cases h2 : z (s + 1) = chkY z s len
    · have hres := Lib.hid (show rightB z s len = true by simp [rightB, h1, h2])
      have h1' : (z s == chkX z s len) = true := by simp [h1]
      have h2' : (z (s + 1) == chkY z s len) = true := by simp [h2]
      clear h1 h2
      go_enter Tryz.func119, Tryz.ntmps119
      go_wp2_with (refine (H.out).mono ?_; rintro e w' ⟨rfl, rfl⟩)
      go_ret2
      exact ⟨ret2_eq (by rw [hres.out]; rfl) _, rfl⟩
    · have hres := Lib.hid (show rightB z s len = false by simp [rightB, h1, h2])
      have h1' : (z s == chkX z s len) = true := by simp [h1]
      have h2' : (z (s + 1) == chkY z s len) = false := by simp [h2]
      clear h1 h2
      go_enter Tryz.func119, Tryz.ntmps119
      go_wp2_with (refine (H.out).mono ?_; rintro e w' ⟨rfl, rfl⟩)
      go_ret2
      exact ⟨ret2_eq (by rw [hres.out]; rfl) _, rfl⟩
  · have hres := Lib.hid (show rightB z s len = false by simp [rightB, h1])
    have h1' : (z s == chkX z s len) = false := by simp [h1]
    clear h1 c1
    go_enter Tryz.func119, Tryz.ntmps119
    go_wp2_with (refine (H.out).mono ?_; rintro e w' ⟨rfl, rfl⟩)
    go_ret2
    exact ⟨ret2_eq (by rw [hres.out]; rfl) _, rfl⟩
end Go.Proofs.YtkiaijmhoikdiaaGreat

/- Packets: their cells, which fields a kind has, and their bytes. Each theorem states its conditions. -/
namespace Go.Proofs.YtkiaijmhoikdiaaGreat
open Go.RowKit
set_option linter.unusedVariables false

structure Pd where
  kd : Int
  ci : Int
  so : Nat → Int
  ho : Int
  nu : Int
  pr : Int
  la : Nat → Int
  li : Int
  id : Nat → Int
  sq : Nat
  bi : Int
  st : Nat → Int
  en : Nat → Int
  A : Option Addr
  m : Nat
  c : Nat
def by1 (x : Int) : Prop := 0 ≤ x ∧ x ≤ 255
def in64 (x : Int) : Prop := -9223372036854775808 ≤ x ∧ x ≤ 9223372036854775807
def PdOk (p : Pd) : Prop := (by1 p.kd ∧ by1 p.ci ∧ (∀ j, 0 ≤ p.so j ∧ p.so j ≤ 255) ∧ in64 p.ho ∧ by1 p.nu ∧ by1 p.pr ∧ (∀ j, 0 ≤ p.la j ∧ p.la j ≤ 255)) ∧
  in64 p.li ∧ (∀ j, 0 ≤ p.id j ∧ p.id j ≤ 255) ∧ p.sq ≤ 4294967295 ∧ by1 p.bi ∧ (∀ j, 0 ≤ p.st j ∧ p.st j ≤ 255) ∧ (∀ j, 0 ≤ p.en j ∧ p.en j ≤ 255)
def pdC (p : Pd) : Array Value := #[.int .u8 p.kd, .int .u8 p.ci,
  .int .u8 (p.so 0), .int .u8 (p.so 1), .int .u8 (p.so 2), .int .u8 (p.so 3), .int .u8 (p.so 4), .int .u8 (p.so 5), .int .u8 (p.so 6),
  .int .i64 p.ho, .int .u8 p.nu, .int .u8 p.pr,
  .int .u8 (p.la 0), .int .u8 (p.la 1), .int .u8 (p.la 2), .int .u8 (p.la 3), .int .u8 (p.la 4), .int .u8 (p.la 5), .int .u8 (p.la 6),
  .int .i64 p.li,
  .int .u8 (p.id 0), .int .u8 (p.id 1), .int .u8 (p.id 2), .int .u8 (p.id 3), .int .u8 (p.id 4), .int .u8 (p.id 5), .int .u8 (p.id 6), .int .u8 (p.id 7),
  .int .u32 (p.sq : Int), .int .u8 p.bi,
  .int .u8 (p.st 0), .int .u8 (p.st 1), .int .u8 (p.st 2), .int .u8 (p.st 3), .int .u8 (p.st 4), .int .u8 (p.st 5), .int .u8 (p.st 6), .int .u8 (p.st 7),
  .int .u8 (p.en 0), .int .u8 (p.en 1), .int .u8 (p.en 2), .int .u8 (p.en 3), .int .u8 (p.en 4), .int .u8 (p.en 5), .int .u8 (p.en 6), .int .u8 (p.en 7),
  .slice p.A p.m p.c]
theorem pdC_size (p : Pd) : (pdC p).size = 47 := rfl
theorem pdC_one (p : Pd) : (pdC p).all (·.oneCell') = true := by kernel_rfl

def cls (k : Int) : Nat := if k = 17 then 0 else if k = 15 ∨ k = 16 then 1 else if k = 18 ∨ k = 20 then 2 else if k = 24 ∨ k = 25 then 3 else if k = 26 ∨ k = 27 then 4 else 5
def flC : Nat → List Nat
  | 0 => [0, 1, 3, 4, 5]
  | 1 => [0, 1, 3, 4, 6, 7]
  | 2 => [4, 8, 9, 10, 11, 12]
  | 3 => [4, 2, 13, 14]
  | 4 => [4, 2]
  | _ => []
def flA (q : Nat) : Array Value := ((flC q).map fun (f : Nat) => Value.int .i64 (f : Int)).toArray
def fsz : Nat → Nat
  | 1 => 6
  | 2 => 7
  | 3 => 2
  | 4 => 2
  | 7 => 7
  | 8 => 2
  | 9 => 8
  | 10 => 4
  | 11 => 2
  | 13 => 8
  | 14 => 8
  | _ => 1
def fAt (q i : Nat) : Nat := (flC q).getD i 0
def accN (q : Nat) : Nat → Nat
  | 0 => 8
  | i + 1 => accN q i + fsz (fAt q i)
def hdN (q : Nat) : Nat := accN q (flC q).length
theorem fAt_le (q i : Nat) (hq : q ≤ 4) : fAt q i ≤ 14 := by
  have h : ∀ f ∈ flC q, f ≤ 14 := by
    rcases (by omega : q = 0 ∨ q = 1 ∨ q = 2 ∨ q = 3 ∨ q = 4) with rfl | rfl | rfl | rfl | rfl <;> decide
  unfold fAt
  by_cases hi : i < (flC q).length
  · simp only [List.getD, List.getElem?_eq_getElem hi, Option.getD_some]
    exact h _ (List.getElem_mem hi)
  · simp only [List.getD, List.getElem?_eq_none (Nat.le_of_not_lt hi), Option.getD_none]
    omega
theorem fl_len (q : Nat) (hq : q ≤ 4) : 0 < (flC q).length ∧ (flC q).length ≤ 6 := by
  rcases (by omega : q = 0 ∨ q = 1 ∨ q = 2 ∨ q = 3 ∨ q = 4) with rfl | rfl | rfl | rfl | rfl <;> decide
theorem fsz_bd (f : Nat) : 1 ≤ fsz f ∧ fsz f ≤ 8 := by
  unfold fsz; split <;> decide
theorem accN_bd (q i : Nat) : 8 ≤ accN q i ∧ accN q i ≤ 8 + 8 * i := by
  induction i with
  | zero => simp [accN]
  | succ i ih => have := fsz_bd (fAt q i); simp only [accN]; omega
theorem hdN_bd (q : Nat) (hq : q ≤ 4) : 17 ≤ hdN q ∧ hdN q ≤ 33 := by
  rcases (by omega : q = 0 ∨ q = 1 ∨ q = 2 ∨ q = 3 ∨ q = 4) with rfl | rfl | rfl | rfl | rfl <;> decide
theorem flA_at (q i : Nat) (hi : i < (flC q).length) : (flA q)[i]? = some (.int .i64 ((fAt q i : Nat) : Int)) := by
  unfold flA fAt
  simp [List.getD, hi]
def fitB (p : Pd) : Nat → Bool
  | 0 => decide (1 ≤ p.ci ∧ p.ci ≤ 3)
  | 3 => decide (0 ≤ p.ho ∧ p.ho ≤ 65535)
  | 8 => decide (0 ≤ p.li ∧ p.li ≤ 65535)
  | 6 => decide (p.pr ≤ 127)
  | _ => true
def fitsTo (p : Pd) (q : Nat) : Nat → Bool
  | 0 => true
  | i + 1 => fitsTo p q i && fitB p (fAt q i)
def fitP (p : Pd) (q : Nat) : Bool := fitsTo p q (flC q).length
def cutSys (s : Nat → Int) : Nat → Int := fun j => if j < 6 then s j else 0
theorem cutSys_bd {s : Nat → Int} (h : ∀ j, 0 ≤ s j ∧ s j ≤ 255) : ∀ j, 0 ≤ cutSys s j ∧ cutSys s j ≤ 255 := by
  intro j; unfold cutSys; split
  · exact h j
  · exact ⟨Int.le_refl 0, (by decide : (0 : Int) ≤ 255)⟩
def fZ (p : Pd) (W : Nat) : Nat → Nat → Int
  | 0 => fun _ => p.ci
  | 1 => cutSys p.so
  | 2 => p.so
  | 3 => putZ p.ho.toNat 2
  | 4 => putZ W 2
  | 5 => fun _ => p.nu
  | 6 => fun _ => p.pr
  | 7 => p.la
  | 8 => putZ p.li.toNat 2
  | 9 => p.id
  | 10 => putZ p.sq 4
  | 12 => fun _ => p.bi
  | 13 => p.st
  | 14 => p.en
  | _ => fun _ => 0
theorem fZ_bd (p : Pd) (W f : Nat) (h : PdOk p) : ∀ j, 0 ≤ fZ p W f j ∧ fZ p W f j ≤ 255 := by
  obtain ⟨⟨h1, h2, h3, h4, h5, h6, h7⟩, h8, h9, h10, h11, h12, h13⟩ := h
  intro j
  unfold fZ
  split <;> first | assumption | exact cutSys_bd h3 j | exact h3 j | exact h7 j | exact h9 j | exact h12 j | exact h13 j | exact putZ_bd _ _ _ | exact ⟨Int.le_refl 0, (by decide : (0 : Int) ≤ 255)⟩
def headZ (k : Int) (n : Nat) : Nat → Int := fun j => if j = 0 then 131 else if j = 1 then (n : Int) else if j = 2 then 1 else if j = 3 then 0 else if j = 4 then k else if j = 5 then 1 else 0
theorem headZ_bd (k : Int) (n : Nat) (hk : by1 k) (hn : n ≤ 255) : ∀ j, 0 ≤ headZ k n j ∧ headZ k n j ≤ 255 := by
  intro j; unfold headZ; unfold by1 at hk
  repeat' split
  all_goals omega
def accZ (p : Pd) (W q : Nat) : Nat → Nat → Int
  | 0 => headZ p.kd (hdN q)
  | i + 1 => cat (accZ p W q i) (accN q i) (fZ p W (fAt q i))
theorem accZ_bd (p : Pd) (W q : Nat) (hq : q ≤ 4) (h : PdOk p) (i : Nat) : ∀ j, 0 ≤ accZ p W q i j ∧ accZ p W q i j ≤ 255 := by
  induction i with
  | zero => exact headZ_bd _ _ h.1.1 (by have := hdN_bd q hq; omega)
  | succ i ih => exact cat_bd ih (fZ_bd p W _ h)
def wZ (p : Pd) (q : Nat) (L : Nat → It) : Nat → Int := cat (accZ p (hdN q + sz L p.m) q (flC q).length) (hdN q) (J L p.m)
def sgZ (z : Nat → Int) (n : Nat) : Nat → Int := fun j => if j = 24 then chkX (fun i => z (12 + i)) 12 (n - 12) else if j = 25 then chkY (fun i => z (12 + i)) 12 (n - 12) else z j
theorem sgZ_bd (z : Nat → Int) (n : Nat) (hz : ∀ j, 0 ≤ z j ∧ z j ≤ 255) : ∀ j, 0 ≤ sgZ z n j ∧ sgZ z n j ≤ 255 := by
  intro j
  have := chk_bd (fun i => z (12 + i)) 12 (n - 12)
  unfold sgZ
  split
  · omega
  · split
    · omega
    · exact hz j
def pdZ (p : Pd) (q : Nat) (L : Nat → It) : Nat → Int := if q = 2 then sgZ (wZ p q L) (hdN q + sz L p.m) else wZ p q L
end Go.Proofs.YtkiaijmhoikdiaaGreat

/- pdu's fields, size, ahead, head, isState. Each theorem states its conditions. -/
namespace Go.Proofs.YtkiaijmhoikdiaaGreat
open Go.RowKit
set_option linter.unusedVariables false

theorem fields_any (k : Int) (q : Nat) (hk : cls k = q) (hq : q ≤ 4) (w : World) : Calls Tryz.prog 111 #[.int .u8 k] w fun e w' => e = .returned (.slice (some ⟨w.heap.size, 0, none⟩) (flC q).length (flC q).length) ∧ w'.heap[w.heap.size]? = some (.cells (flA q) 172 (0, 0)) ∧ Below w.heap.size w w' := by
  subst hk
  have hk : k = 17 ∨ k = 15 ∨ k = 16 ∨ k = 18 ∨ k = 20 ∨ k = 24 ∨ k = 25 ∨ k = 26 ∨ k = 27 := by unfold cls at hq; (repeat' split at hq) <;> omega
  clear hq
  rcases hk with rfl | rfl | rfl | rfl | rfl | rfl | rfl | rfl | rfl
  · go_enter Tryz.func111, Tryz.ntmps111
    go_wp2
    go_ret
    exact ⟨rfl, heap_alloc_new w _, (bself w).alloc (Nat.le_refl _) _⟩
  · go_enter Tryz.func111, Tryz.ntmps111
    go_wp2
    go_ret
    exact ⟨rfl, heap_alloc_new w _, (bself w).alloc (Nat.le_refl _) _⟩
  · go_enter Tryz.func111, Tryz.ntmps111
    go_wp2
    go_ret
    exact ⟨rfl, heap_alloc_new w _, (bself w).alloc (Nat.le_refl _) _⟩
  · go_enter Tryz.func111, Tryz.ntmps111
    go_wp2
    go_ret
    exact ⟨rfl, heap_alloc_new w _, (bself w).alloc (Nat.le_refl _) _⟩
  · go_enter Tryz.func111, Tryz.ntmps111
    go_wp2
    go_ret
    exact ⟨rfl, heap_alloc_new w _, (bself w).alloc (Nat.le_refl _) _⟩
  · go_enter Tryz.func111, Tryz.ntmps111
    go_wp2
    go_ret
    exact ⟨rfl, heap_alloc_new w _, (bself w).alloc (Nat.le_refl _) _⟩
  · go_enter Tryz.func111, Tryz.ntmps111
    go_wp2
    go_ret
    exact ⟨rfl, heap_alloc_new w _, (bself w).alloc (Nat.le_refl _) _⟩
  · go_enter Tryz.func111, Tryz.ntmps111
    go_wp2
    go_ret
    exact ⟨rfl, heap_alloc_new w _, (bself w).alloc (Nat.le_refl _) _⟩
  · go_enter Tryz.func111, Tryz.ntmps111
    go_wp2
    go_ret
    exact ⟨rfl, heap_alloc_new w _, (bself w).alloc (Nat.le_refl _) _⟩
theorem fields_none (k : Int) (hk : cls k = 5) (w : World) : Calls Tryz.prog 111 #[.int .u8 k] w fun e w' => e = .returned (.slice none 0 0) ∧ w = w' := by
  have h : ¬ (k = 17 ∨ k = 15 ∨ k = 16 ∨ k = 18 ∨ k = 20 ∨ k = 24 ∨ k = 25 ∨ k = 26 ∨ k = 27) := by unfold cls at hk; (repeat' split at hk) <;> omega
  clear hk
  have h17 : (k == 17) = false := by simp; omega
  have h15 : (k == 15) = false := by simp; omega
  have h16 : (k == 16) = false := by simp; omega
  have h18 : (k == 18) = false := by simp; omega
  have h20 : (k == 20) = false := by simp; omega
  have h24 : (k == 24) = false := by simp; omega
  have h25 : (k == 25) = false := by simp; omega
  have h26 : (k == 26) = false := by simp; omega
  have h27 : (k == 27) = false := by simp; omega
  clear h
  go_enter Tryz.func111, Tryz.ntmps111
  go_wp2
  go_ret
  exact ⟨rfl, rfl⟩
theorem size_any (f : Nat) (hf : f ≤ 14) (w : World) : Calls Tryz.prog 115 #[.int .i64 (f : Int)] w fun e w' => e = .returned (.int .i64 (fsz f : Nat)) ∧ w = w' := by
  rcases (by omega : f = 0 ∨ f = 1 ∨ f = 2 ∨ f = 3 ∨ f = 4 ∨ f = 5 ∨ f = 6 ∨ f = 7 ∨ f = 8 ∨ f = 9 ∨ f = 10 ∨ f = 11 ∨ f = 12 ∨ f = 13 ∨ f = 14) with rfl | rfl | rfl | rfl | rfl | rfl | rfl | rfl | rfl | rfl | rfl | rfl | rfl | rfl | rfl <;>
  · go_enter Tryz.func115, Tryz.ntmps115
    go_wp2
    go_ret
    exact ⟨rfl, rfl⟩
def FlAt (w : World) (g q : Nat) : Prop := w.heap[g]? = some (.cells (flA q) 172 (0, 0))
theorem FlAt.cell {w : World} {g q i : Nat} (h : FlAt w g q) (hi : i < (flC q).length) : w.cell? ⟨g, i, none⟩ = some (.int .i64 ((fAt q i : Nat) : Int)) := by
  rw [cell_of_row w g i _ _ _ h]
  exact flA_at q i hi
theorem FlAt.below {w w' : World} {g q : Nat} (h : FlAt w g q) (hb : Below w.heap.size w w') : FlAt w' g q := (hb.block g (Array.getElem?_eq_some_iff.1 h).1).trans h
theorem ahead_any (g q : Nat) (hq : q ≤ 4) (w : World) (h : FlAt w g q) : Calls Tryz.prog 112 #[.slice (some ⟨g, 0, none⟩) (flC q).length (flC q).length] w fun e w' => e = .returned (.int .i64 (hdN q : Nat)) ∧ w = w' := by
  have HF := Lib.hid h
  have hl := fl_len q hq
  have HD : Hid (accN q (flC q).length = hdN q) := Lib.hid rfl
  obtain ⟨n, hn⟩ : ∃ n, (flC q).length = n := ⟨_, rfl⟩
  have HN := Lib.hid hn
  rw [hn] at hl HD ⊢
  clear h hn
  go_enter Tryz.func112, Tryz.ntmps112
  go_wp2_with fail
  go_loop [3, 8] (fun s t => ∃ i : Nat, i ≤ n ∧ t = .int .i64 i ∧ s = .int .i64 (accN q i : Nat)) (fun _ t => n - (intOf t).toNat)
  case atStart => exact ⟨0, Nat.zero_le _, rfl, rfl⟩
  case round =>
    obtain ⟨i, hi, rfl, rfl⟩ := hrel
    by_cases hlt : i < n
    · have ci := HF.out.cell (i := i) (by rw [HN.out]; exact hlt)
      have hb := accN_bd q i
      have hs : Hid (accN q (i + 1) = accN q i + fsz (fAt q i)) := Lib.hid rfl
      have hf := fAt_le q i hq
      have hfz := fsz_bd (fAt q i)
      obtain ⟨f, hf'⟩ : ∃ f, fAt q i = f := ⟨_, rfl⟩
      rw [hf'] at ci hs hf hfz
      clear hf'
      have HS := Lib.hid (size_any f hf)
      go_wp2_with fail
      refine (HS.out _).mono ?_
      rintro e w1 ⟨rfl, rfl⟩
      go_wp2_with fail
      go_round
      case rel => exact ⟨i + 1, by omega, by go_num, by rw [hs.out]; go_num⟩
      case measure => simp [intOf]; omega
    · obtain rfl : i = n := by omega
      rw [HD.out]
      go_wp2_with fail
      go_ret
      exact ⟨rfl, rfl⟩
theorem head_new (w : World) (k : Int) (n : Nat) : Own8 (w.alloc (.cells #[.int .u8 131, .int .u8 (n : Int), .int .u8 1, .int .u8 0, .int .u8 k, .int .u8 1, .int .u8 0, .int .u8 0] 5)) w.heap.size 8 8 (headZ k n) ↔ ∀ j, 0 ≤ headZ k n j ∧ headZ k n j ≤ 255 := by
  refine ⟨fun h => h.2, fun h => ⟨⟨_, heap_alloc_new w _, Nat.le_refl _, by decide, rfl, fun j hj => ?_⟩, h⟩⟩
  rcases (by omega : j = 0 ∨ j = 1 ∨ j = 2 ∨ j = 3 ∨ j = 4 ∨ j = 5 ∨ j = 6 ∨ j = 7) with rfl | rfl | rfl | rfl | rfl | rfl | rfl | rfl <;> rfl
theorem head_any (k : Int) (n : Nat) (hk : by1 k) (hn : n ≤ 255) (w : World) : Calls Tryz.prog 114 #[.int .u8 k, .int .i64 (n : Int)] w fun e w' => e = .returned (.slice (some ⟨w.heap.size, 0, none⟩) 8 8) ∧ Own8 w' w.heap.size 8 8 (headZ k n) ∧ Below w.heap.size w w' := by
  have H := Lib.hid ((head_new w k n).2 (headZ_bd k n hk hn))
  clear hk
  go_enter Tryz.func114, Tryz.ntmps114
  go_wp2_with fail
  go_ret
  exact ⟨rfl, H.out, (bself w).alloc (Nat.le_refl _) _⟩
theorem isState_any (k : Int) (w : World) : Calls Tryz.prog 93 #[.int .u8 k] w fun e w' => e = .returned (.bool (decide (cls k = 2))) ∧ w = w' := by
  by_cases h1 : k = 18
  · subst h1
    go_enter Tryz.func93, Tryz.ntmps93
    go_wp2
    go_ret
    exact ⟨rfl, rfl⟩
  · by_cases h2 : k = 20
    · subst h2
      go_enter Tryz.func93, Tryz.ntmps93
      go_wp2
      go_ret
      exact ⟨rfl, rfl⟩
    · have h3 : (k == 18) = false := by simpa using h1
      have h4 : (k == 20) = false := by simpa using h2
      have h5 : Hid (decide (cls k = 2) = false) := Lib.hid (by unfold cls; simp only [decide_eq_false_iff_not]; (repeat' split) <;> omega)
      clear h1 h2
      go_enter Tryz.func93, Tryz.ntmps93
      go_wp2
      go_ret
      exact ⟨ret_bool h5.out.symm, rfl⟩
end Go.Proofs.YtkiaijmhoikdiaaGreat

/- pdu.PutEntries writes entries as bytes. Each theorem states its conditions. -/
namespace Go.Proofs.YtkiaijmhoikdiaaGreat
open Go.RowKit
set_option linter.unusedVariables false

theorem wrapU (N : Nat) (h : N ≤ 4294967295) : IntKind.u64.wrap (N : Int) = (N : Int) := by simp [IntKind.wrap, IntKind.signed, IntKind.bits]; omega
theorem own_ofB {w : World} {base n : Nat} {v : Value} {z : Nat → Int} (h : OwnB w base v n z) (hn : 0 < n) : ∃ g cap, v = .slice (some ⟨g, 0, none⟩) n cap ∧ base ≤ g ∧ Own8 w g n cap z := by
  obtain ⟨g0, cap0, hv, _⟩ := h.1.form (by omega)
  exact own_of h.1 rfl (by rw [hv]; simp) h.2

end Go.Proofs.YtkiaijmhoikdiaaGreat

/- pdu.put writes a field of a packet. Each theorem states its conditions. -/
namespace Go.Proofs.YtkiaijmhoikdiaaGreat
open Go.RowKit
set_option linter.unusedVariables false

def PdAt (w : World) (g : Nat) (p : Pd) : Prop := w.heap[g]? = some (.cells (pdC p) 127 (0, 0))
theorem PdAt.lt {w : World} {g : Nat} {p : Pd} (h : PdAt w g p) : g < w.heap.size := (Array.getElem?_eq_some_iff.1 h).1
theorem PdAt.below {w w' : World} {g B : Nat} {p : Pd} (h : PdAt w g p) (hb : Below B w w') (hB : g < B) : PdAt w' g p := (hb.block g hB).trans h
theorem PdAt.cell {w : World} {g : Nat} {p : Pd} (h : PdAt w g p) (i : Nat) : w.cell? ⟨g, i, none⟩ = (pdC p)[i]? := cell_of_row w g i _ _ _ h
theorem blk_range {w : World} {X o : Nat} {C : Array Value} {cs : List Value} {t : TypeId} (h : w.heap[X]? = some (.cells C t (0, 0))) (hs : ∀ j, j < cs.length → C[o + j]? = cs[j]?) : w.rangeAt X o cs := by
  intro j u hj
  rw [cell_of_row w X (o + j) _ _ _ h, hs j ?_]
  · exact hj
  · rcases Nat.lt_or_ge j cs.length with h1 | h1
    · exact h1
    · rw [List.getElem?_eq_none h1] at hj; cases hj
theorem PdAt.so {w : World} {g : Nat} {p : Pd} (h : PdAt w g p) : w.rangeAt g 2 (ndC p.so).toList := blk_range h fun j hj => by
  rcases (by have : j < 7 := hj; omega : j = 0 ∨ j = 1 ∨ j = 2 ∨ j = 3 ∨ j = 4 ∨ j = 5 ∨ j = 6) with rfl | rfl | rfl | rfl | rfl | rfl | rfl <;> rfl
theorem PdAt.la {w : World} {g : Nat} {p : Pd} (h : PdAt w g p) : w.rangeAt g 12 (ndC p.la).toList := blk_range h fun j hj => by
  rcases (by have : j < 7 := hj; omega : j = 0 ∨ j = 1 ∨ j = 2 ∨ j = 3 ∨ j = 4 ∨ j = 5 ∨ j = 6) with rfl | rfl | rfl | rfl | rfl | rfl | rfl <;> rfl
theorem PdAt.id {w : World} {g : Nat} {p : Pd} (h : PdAt w g p) : w.rangeAt g 20 (idC p.id).toList := blk_range h fun j hj => by
  rcases (by have : j < 8 := hj; omega : j = 0 ∨ j = 1 ∨ j = 2 ∨ j = 3 ∨ j = 4 ∨ j = 5 ∨ j = 6 ∨ j = 7) with rfl | rfl | rfl | rfl | rfl | rfl | rfl | rfl <;> rfl
theorem PdAt.st {w : World} {g : Nat} {p : Pd} (h : PdAt w g p) : w.rangeAt g 30 (idC p.st).toList := blk_range h fun j hj => by
  rcases (by have : j < 8 := hj; omega : j = 0 ∨ j = 1 ∨ j = 2 ∨ j = 3 ∨ j = 4 ∨ j = 5 ∨ j = 6 ∨ j = 7) with rfl | rfl | rfl | rfl | rfl | rfl | rfl | rfl <;> rfl
theorem PdAt.en {w : World} {g : Nat} {p : Pd} (h : PdAt w g p) : w.rangeAt g 38 (idC p.en).toList := blk_range h fun j hj => by
  rcases (by have : j < 8 := hj; omega : j = 0 ∨ j = 1 ∨ j = 2 ∨ j = 3 ∨ j = 4 ∨ j = 5 ∨ j = 6 ∨ j = 7) with rfl | rfl | rfl | rfl | rfl | rfl | rfl | rfl <;> rfl
theorem info_node : (Tryz.prog.info? 33).map (·.size) = some 7 := by kernel_rfl
end Go.Proofs.YtkiaijmhoikdiaaGreat

/- Structs in memory: what is stored into one of them. Each theorem states its conditions. -/
namespace Go.Proofs.YtkiaijmhoikdiaaGreat
open Go.RowKit
set_option linter.unusedVariables false

section
variable {ops : Array Oper} {Q : Exit → Act → World → Prop}
variable {md : Region.Mode} {S : World → Prop}
end
def PdT (t : TypeId) (w : World) (g : Nat) (p : Pd) : Prop := w.heap[g]? = some (.cells (pdC p) t (0, 0))
section
variable {t : TypeId} {w w' : World} {g : Nat} {p : Pd}
theorem PdT.lt (h : PdT t w g p) : g < w.heap.size := (Array.getElem?_eq_some_iff.1 h).1
theorem PdT.below {B : Nat} (h : PdT t w g p) (hb : Below B w w') (hB : g < B) : PdT t w' g p := (hb.block g hB).trans h
theorem PdT.cell (h : PdT t w g p) (i : Nat) : w.cell? ⟨g, i, none⟩ = (pdC p)[i]? := cell_of_row w g i _ _ _ h
theorem PdT.range (h : PdT t w g p) {o : Nat} {cs : List Value} (hs : ∀ j, j < cs.length → (pdC p)[o + j]? = cs[j]?) : w.rangeAt g o cs := blk_range h hs
theorem PdT.far {b : Nat} {C : Array Value} {u : TypeId} (h : PdT t w g p) (hs : Stored w w' b C u) (hk : g ≠ b) : PdT t w' g p := (hs.2.2 g hk).trans h
theorem seven {P : Nat → Prop} (h : P 0 ∧ P 1 ∧ P 2 ∧ P 3 ∧ P 4 ∧ P 5 ∧ P 6) (j : Nat) (hj : j < 7) : P j := by
  rcases (by omega : j = 0 ∨ j = 1 ∨ j = 2 ∨ j = 3 ∨ j = 4 ∨ j = 5 ∨ j = 6) with rfl | rfl | rfl | rfl | rfl | rfl | rfl <;> simp_all
theorem eight {P : Nat → Prop} (h : P 0 ∧ P 1 ∧ P 2 ∧ P 3 ∧ P 4 ∧ P 5 ∧ P 6 ∧ P 7) (j : Nat) (hj : j < 8) : P j := by
  rcases (by omega : j = 0 ∨ j = 1 ∨ j = 2 ∨ j = 3 ∨ j = 4 ∨ j = 5 ∨ j = 6 ∨ j = 7) with rfl | rfl | rfl | rfl | rfl | rfl | rfl | rfl <;> simp_all
def syC (z : Nat → Int) : Array Value := #[.int .u8 (z 0), .int .u8 (z 1), .int .u8 (z 2), .int .u8 (z 3), .int .u8 (z 4), .int .u8 (z 5)]
theorem PdT.so (h : PdT t w g p) : w.rangeAt g 2 (ndC p.so).toList := h.range (seven ⟨rfl, rfl, rfl, rfl, rfl, rfl, rfl⟩)
theorem PdT.la (h : PdT t w g p) : w.rangeAt g 12 (ndC p.la).toList := h.range (seven ⟨rfl, rfl, rfl, rfl, rfl, rfl, rfl⟩)
theorem PdT.id (h : PdT t w g p) : w.rangeAt g 20 (idC p.id).toList := h.range (eight ⟨rfl, rfl, rfl, rfl, rfl, rfl, rfl, rfl⟩)
theorem PdT.st (h : PdT t w g p) : w.rangeAt g 30 (idC p.st).toList := h.range (eight ⟨rfl, rfl, rfl, rfl, rfl, rfl, rfl, rfl⟩)
theorem PdT.en (h : PdT t w g p) : w.rangeAt g 38 (idC p.en).toList := h.range (eight ⟨rfl, rfl, rfl, rfl, rfl, rfl, rfl, rfl⟩)
theorem PdT.all (h : PdT t w g p) : w.rangeAt g 0 (pdC p).toList := h.range fun j hj => by rw [Nat.zero_add, Array.getElem?_toList]
end
theorem info_pdR : (Tryz.prog.info? 39).map (·.size) = some 47 := by kernel_rfl
theorem info_pdP : (Tryz.prog.info? 127).map (·.size) = some 47 := by kernel_rfl
def z0 : Nat → Int := fun _ => 0
def pd0 : Pd := ⟨0, 0, z0, 0, 0, 0, z0, 0, z0, 0, 0, z0, z0, none, 0, 0⟩
theorem alloc_R (o : Oper) (e : Operand → Value) (ho : o.op = .alloc 39) (W : World) : (execOp e o).run Tryz.prog W = .ok (.value (.pointer (some ⟨W.heap.size, 0, none⟩))) (W.alloc (.cells (pdC pd0) 39)) := by
  unfold execOp
  simp only [ho]
  kernel_rfl
theorem alloc_P (o : Oper) (e : Operand → Value) (ho : o.op = .alloc 127) (W : World) : (execOp e o).run Tryz.prog W = .ok (.value (.pointer (some ⟨W.heap.size, 0, none⟩))) (W.alloc (.cells (pdC pd0) 127)) := by
  unfold execOp
  simp only [ho]
  kernel_rfl
theorem pd_all (p q : Pd) : putMany (pdC p) 0 (pdC q).toList = pdC q := by kernel_rfl
theorem pdC_kd (p : Pd) : (pdC p)[0]? = some (.int .u8 p.kd) := rfl
section
variable {ops : Array Oper} {Q : Exit → Act → World → Prop}
end
end Go.Proofs.YtkiaijmhoikdiaaGreat

/- pdu's fits and allFit. Each theorem states its conditions. -/
namespace Go.Proofs.YtkiaijmhoikdiaaGreat
open Go.RowKit
set_option linter.unusedVariables false

set_option maxRecDepth 100000 in
theorem fits_0 (p : Pd) (b : Bool) (hb : decide (1 ≤ p.ci ∧ p.ci ≤ 3) = b) (g : Nat) (w : World) (h : PdAt w g p) : Calls Tryz.prog 128 #[.pointer (some ⟨g, 0, none⟩), .int .i64 0] w fun e w' => e = .returned (.bool b) ∧ w = w' := by
  have c1 : w.cell? ⟨g, 1, none⟩ = some (.int .u8 p.ci) := (h.cell 1).trans rfl
  clear h
  obtain ⟨x, hx⟩ : ∃ x, p.ci = x := ⟨_, rfl⟩
  rw [hx] at c1 hb
  clear hx
  by_cases h1 : 1 ≤ x
  · by_cases h3 : x ≤ 3
    · obtain rfl : true = b := by rw [← hb]; exact (decide_eq_true ⟨h1, h3⟩).symm
      clear hb
      go_enter Tryz.func128, Tryz.ntmps128
      go_wp2
      go_ret
      exact ⟨rfl, rfl⟩
    · obtain rfl : false = b := by rw [← hb]; exact (decide_eq_false (by omega)).symm
      clear hb
      go_enter Tryz.func128, Tryz.ntmps128
      go_wp2
      go_ret
      exact ⟨rfl, rfl⟩
  · obtain rfl : false = b := by rw [← hb]; exact (decide_eq_false (by omega)).symm
    clear hb
    go_enter Tryz.func128, Tryz.ntmps128
    go_wp2
    go_ret
    exact ⟨rfl, rfl⟩
theorem isTime_any (n : Int) (b : Bool) (hb : decide (0 ≤ n ∧ n ≤ 65535) = b) (w : World) : Calls Tryz.prog 131 #[.int .i64 n] w fun e w' => e = .returned (.bool b) ∧ w = w' := by
  subst hb
  by_cases h : 0 ≤ n ∧ n ≤ 65535
  · rw [decide_eq_true h]
    exact (isTime_yes n w h.1 h.2).mono fun e w' h => ⟨h.1, h.2.symm⟩
  · rw [decide_eq_false h]
    exact (isTime_no n w (by omega)).mono fun e w' h => ⟨h.1, h.2.symm⟩
set_option maxRecDepth 100000 in
theorem fits_3 (p : Pd) (b : Bool) (hb : decide (0 ≤ p.ho ∧ p.ho ≤ 65535) = b) (g : Nat) (w : World) (h : PdAt w g p) : Calls Tryz.prog 128 #[.pointer (some ⟨g, 0, none⟩), .int .i64 3] w fun e w' => e = .returned (.bool b) ∧ w = w' := by
  have c1 : w.cell? ⟨g, 9, none⟩ = some (.int .i64 p.ho) := (h.cell 9).trans rfl
  have HT := Lib.hid (isTime_any p.ho b hb w)
  clear h hb
  go_enter Tryz.func128, Tryz.ntmps128
  go_wp2_with fail
  refine HT.out.mono ?_
  rintro e w1 ⟨rfl, rfl⟩
  go_wp2_with fail
  go_ret
  exact ⟨rfl, rfl⟩
set_option maxRecDepth 100000 in
theorem fits_8 (p : Pd) (b : Bool) (hb : decide (0 ≤ p.li ∧ p.li ≤ 65535) = b) (g : Nat) (w : World) (h : PdAt w g p) : Calls Tryz.prog 128 #[.pointer (some ⟨g, 0, none⟩), .int .i64 8] w fun e w' => e = .returned (.bool b) ∧ w = w' := by
  have c1 : w.cell? ⟨g, 19, none⟩ = some (.int .i64 p.li) := (h.cell 19).trans rfl
  have HT := Lib.hid (isTime_any p.li b hb w)
  clear h hb
  go_enter Tryz.func128, Tryz.ntmps128
  go_wp2_with fail
  refine HT.out.mono ?_
  rintro e w1 ⟨rfl, rfl⟩
  go_wp2_with fail
  go_ret
  exact ⟨rfl, rfl⟩
set_option maxRecDepth 100000 in
theorem fits_6 (p : Pd) (b : Bool) (hb : decide (p.pr ≤ 127) = b) (g : Nat) (w : World) (h : PdAt w g p) : Calls Tryz.prog 128 #[.pointer (some ⟨g, 0, none⟩), .int .i64 6] w fun e w' => e = .returned (.bool b) ∧ w = w' := by
  have c1 : w.cell? ⟨g, 11, none⟩ = some (.int .u8 p.pr) := (h.cell 11).trans rfl
  clear h
  go_enter Tryz.func128, Tryz.ntmps128
  go_wp2_with fail
  go_ret
  exact ⟨rfl, rfl⟩
set_option maxRecDepth 100000 in
theorem fits_x (f : Nat) (hf : f ≤ 14) (h0 : f ≠ 0) (h3 : f ≠ 3) (h8 : f ≠ 8) (h6 : f ≠ 6) (x : Value) (w : World) : Calls Tryz.prog 128 #[x, .int .i64 (f : Int)] w fun e w' => e = .returned (.bool true) ∧ w = w' := by
  rcases (by omega : f = 1 ∨ f = 2 ∨ f = 4 ∨ f = 5 ∨ f = 7 ∨ f = 9 ∨ f = 10 ∨ f = 11 ∨ f = 12 ∨ f = 13 ∨ f = 14) with rfl | rfl | rfl | rfl | rfl | rfl | rfl | rfl | rfl | rfl | rfl <;>
  · clear h0 h3 h8 h6
    go_enter Tryz.func128, Tryz.ntmps128
    go_wp2
    go_ret
    exact ⟨rfl, rfl⟩
theorem fits_any (p : Pd) (g f : Nat) (hf : f ≤ 14) (w : World) (h : PdAt w g p) : Calls Tryz.prog 128 #[.pointer (some ⟨g, 0, none⟩), .int .i64 (f : Int)] w fun e w' => e = .returned (.bool (fitB p f)) ∧ w = w' := by
  by_cases h0 : f = 0
  · subst h0; exact fits_0 p _ rfl g w h
  · by_cases h3 : f = 3
    · subst h3; exact fits_3 p _ rfl g w h
    · by_cases h8 : f = 8
      · subst h8; exact fits_8 p _ rfl g w h
      · by_cases h6 : f = 6
        · subst h6; exact fits_6 p _ rfl g w h
        · have e : fitB p f = true := by
            unfold fitB
            split <;> first | rfl | (exact absurd rfl ‹_›) | omega
          rw [e]
          exact fits_x f hf h0 h3 h8 h6 _ w
theorem fit_ends (p : Pd) (q n : Nat) : ∃ m, m ≤ n ∧ (∀ i, i < m → fitB p (fAt q i) = true) ∧ ((m = n ∧ fitsTo p q n = true) ∨ (m < n ∧ fitB p (fAt q m) = false ∧ fitsTo p q n = false)) := by
  induction n with
  | zero => exact ⟨0, Nat.le_refl _, fun i hi => by omega, .inl ⟨rfl, rfl⟩⟩
  | succ n ih =>
    obtain ⟨m, h1, h2, h3⟩ := ih
    rcases h3 with ⟨rfl, h3⟩ | ⟨h3, h4, h5⟩
    · cases hb : fitB p (fAt q m)
      · exact ⟨m, by omega, h2, .inr ⟨by omega, hb, by simp [fitsTo, hb]⟩⟩
      · refine ⟨m + 1, by omega, fun i hi => ?_, .inl ⟨rfl, by simp [fitsTo, hb, h3]⟩⟩
        by_cases e : i = m
        · subst e; exact hb
        · exact h2 i (by omega)
    · exact ⟨m, by omega, h2, .inr ⟨by omega, h4, by simp [fitsTo, h5]⟩⟩
theorem fitP_at {p : Pd} {q : Nat} (h : fitP p q = true) (i : Nat) (hi : i < (flC q).length) : fitB p (fAt q i) = true := by
  obtain ⟨m, h1, h2, h3⟩ := fit_ends p q (flC q).length
  rcases h3 with ⟨rfl, h3⟩ | ⟨h3, h4, h5⟩
  · exact h2 i hi
  · unfold fitP at h; rw [h5] at h; cases h
theorem allFit_any (p : Pd) (g g' q : Nat) (hq : q ≤ 4) (w : World) (h : PdAt w g p) (hl : FlAt w g' q) : Calls Tryz.prog 118 #[.pointer (some ⟨g, 0, none⟩), .slice (some ⟨g', 0, none⟩) (flC q).length (flC q).length] w fun e w' => e = .returned (.bool (fitP p q)) ∧ w = w' := by
  have HF := Lib.hid hl
  obtain ⟨m, hm1, hm2, hm3⟩ := fit_ends p q (flC q).length
  have HM2 := Lib.hid hm2
  have HM3 : Hid ((m = (flC q).length ∧ fitP p q = true) ∨ (m < (flC q).length ∧ fitB p (fAt q m) = false ∧ fitP p q = false)) := Lib.hid hm3
  have hlen := fl_len q hq
  obtain ⟨n, hn⟩ : ∃ n, (flC q).length = n := ⟨_, rfl⟩
  have HN := Lib.hid hn
  rw [hn] at hm1 HM3 hlen ⊢
  have HFA := Lib.hid (fun f hf => fits_any p g f hf w h)
  clear hn hm2 hm3 hl h
  go_enter Tryz.func118, Tryz.ntmps118
  go_wp2_with fail
  go_loop [9] (fun t => ∃ i : Nat, i ≤ m ∧ t = .int .i64 i) (fun t => n - (intOf t).toNat)
  case atStart => exact ⟨0, Nat.zero_le _, rfl⟩
  case round =>
    obtain ⟨i, hi, rfl⟩ := hrel
    by_cases hlt : i < n
    · have ci := HF.out.cell (i := i) (by rw [HN.out]; exact hlt)
      have hf := fAt_le q i hq
      by_cases him : i < m
      · have HS := Lib.hid (HFA.out _ hf)
        rw [HM2.out i him] at HS
        obtain ⟨f, hf'⟩ : ∃ f, fAt q i = f := ⟨_, rfl⟩
        rw [hf'] at ci HS
        clear hf' hf
        go_wp2_with fail
        refine HS.out.mono ?_
        rintro e w1 ⟨rfl, rfl⟩
        go_wp2_with fail
        go_round
        case rel => exact ⟨i + 1, by omega, by go_num⟩
        case measure => simp [intOf]; omega
      · obtain rfl : i = m := by omega
        have h3 : fitB p (fAt q i) = false ∧ fitP p q = false := by
          rcases HM3.out with h | h
          · omega
          · exact h.2
        have HS := Lib.hid (HFA.out _ hf)
        rw [h3.1] at HS
        have HQ := Lib.hid h3.2
        obtain ⟨f, hf'⟩ : ∃ f, fAt q i = f := ⟨_, rfl⟩
        rw [hf'] at ci HS
        clear hf' hf h3
        go_wp2_with fail
        refine HS.out.mono ?_
        rintro e w1 ⟨rfl, rfl⟩
        go_wp2_with fail
        go_ret
        exact ⟨by rw [HQ.out]; rfl, rfl⟩
    · obtain rfl : i = n := by omega
      have HQ : Hid (fitP p q = true) := Lib.hid (by
        rcases HM3.out with h | h
        · exact h.2
        · omega)
      go_wp2_with fail
      go_ret
      exact ⟨by rw [HQ.out]; rfl, rfl⟩
end Go.Proofs.YtkiaijmhoikdiaaGreat

/- pdu.sign lays an LSP's check bytes. Each theorem states its conditions. -/
namespace Go.Proofs.YtkiaijmhoikdiaaGreat
open Go.RowKit
set_option linter.unusedVariables false

section
variable {P : Program} {ops : Array Oper} {Q : Exit → Act → World → Prop} {md : Region.Mode} {S : World → Prop}
end
end Go.Proofs.YtkiaijmhoikdiaaGreat

/- A value is equal to itself: entries. Each theorem states its conditions. -/
namespace Go.Proofs.YtkiaijmhoikdiaaGreat
open Go.RowKit
open Go.Extern.Stop (cell)
set_option linter.unusedVariables false

theorem self_node (d : Nat) (s : Nat → Int) (hs : ∀ j, 0 ≤ s j ∧ s j ≤ 255) : SelfEq (d + 3) 33 (.agg (vals s 7).toArray) := by
  refine self_struct (d + 2) _ _ [(31, 0), (5, 6)] (by kernel_rfl) (by kernel_rfl) (by kernel_rfl) (fun p hp => ?_)
  simp only [List.mem_cons, List.not_mem_nil, or_false] at hp
  rcases hp with rfl | rfl
  · exact ⟨.agg (vals s 6).toArray, fun w => by kernel_rfl, self_bytes d 6 _ s hs Tryz.underlying31⟩
  · exact ⟨.int .u8 (s 6), fun w => by kernel_rfl, self_int (d + 1) _ .u8 _ Tryz.underlying5⟩
theorem self_id (d : Nat) (s : Nat → Int) (hs : ∀ j, 0 ≤ s j ∧ s j ≤ 255) : SelfEq (d + 4) 35 (.agg (idC s)) := by
  refine self_struct (d + 3) _ _ [(33, 0), (5, 7)] (by kernel_rfl) (by kernel_rfl) (by kernel_rfl) (fun p hp => ?_)
  simp only [List.mem_cons, List.not_mem_nil, or_false] at hp
  rcases hp with rfl | rfl
  · exact ⟨.agg (vals s 7).toArray, fun w => by kernel_rfl, self_node d s hs⟩
  · exact ⟨.int .u8 (s 7), fun w => by kernel_rfl, self_int (d + 2) _ .u8 _ Tryz.underlying5⟩
end Go.Proofs.YtkiaijmhoikdiaaGreat

/- The document's comparison of two lists of waymark/api.Entry: the same are the same; and an append of such a list. Each theorem states its conditions. -/
namespace Go.Proofs.YtkiaijmhoikdiaaGreat
open Go.RowKit
set_option linter.unusedVariables false

theorem guard_N : Tryz.prog.eqGuardType Tryz.prog.depth 58 = false := by kernel_rfl
theorem hi_N (cs : Array Value) (h : cs.size = 11) : (Tryz.prog.info? 58).map (·.size) = some cs.toList.length := by
  rw [Array.length_toList, h]
  kernel_rfl
set_option maxHeartbeats 1000000 in
set_option maxRecDepth 100000 in
theorem sameN_yes (A B : Option Addr) (m c d : Nat) (C : Nat → Array Value) (w : World) (ha : RdR w A m 11 C) (hb : RdR w B m 11 C) (hs : ∀ j, j < m → SelfEq 10000 58 (.agg (C j))) (hz : ∀ j, (C j).size = 11) (hm : m ≤ 140737488351232) :
    Calls Tryz.prog 40 #[.slice A m c, .slice B m d] w fun e w' => e = .returned (.bool true) ∧ ∃ k, w' = w.drewN k := by
  rcases Nat.eq_zero_or_pos m with rfl | hn
  · clear ha hb hs
    go_enter Tryz.func40, Tryz.ntmps40
    go_wp2
    refine wp_loop_rounds 1 ?_
    rw [rounds_succ]
    go_wp2
    go_ret
    exact ⟨rfl, 0, rfl⟩
  · obtain ⟨b, off, rfl, hr⟩ := ha.row hn
    obtain ⟨b', off', rfl, hr'⟩ := hb.row hn
    have HR := Lib.hid hr
    have HR' := Lib.hid hr'
    have HS := Lib.hid hs
    have HZ := Lib.hid hz
    clear ha hb hr hr' hs hz
    go_enter Tryz.func40, Tryz.ntmps40
    go_wp2
    go_loopw [13] (fun t wr => ∃ k r : Nat, k ≤ m ∧ t = .int .i64 k ∧ Hid (wr = w.drewN r)) (fun t _ => m - (intOf t).toNat)
    case atStart => exact ⟨0, 0, by omega, rfl, Lib.hid rfl⟩
    case round =>
      obtain ⟨k, r, hk, rfl, hw⟩ := hrel
      by_cases hlt : k < m
      · have h1 : Hid (wr.drew.rangeAt b (off + k * 11) (C k).toList) := Lib.hid (by rw [hw.out]; exact HR.out.2 k hlt)
        have h2 : Hid (wr.drew.rangeAt b' (off' + k * 11) (C k).toList) := Lib.hid (by rw [hw.out]; exact HR'.out.2 k hlt)
        have hki : (k : Int) < (m : Int) := by omega
        go_wp2_with fail
        refine wp_region_held_drew (S := fun w' => w' = wr.drew) (by kernel_rfl) rfl (fun _ => ?_)
        refine tY (i := 0) (some 16) (v := .slice (some ⟨b, off, none⟩) m c) rfl rfl (fun w' hS => by go_simp) rfl ?_
        simp only [Act.put, pA, pB, pC]
        refine tY (i := 1) (some 17) (v := .int .i64 k) rfl rfl (fun w' hS => by go_simp) rfl ?_
        simp only [Act.put, pA, pB, pC]
        refine tY (i := 2) (some 18) (v := .pointer (some ⟨b, off + k * 11, none⟩)) rfl rfl (fun w' hS => by clear hS; go_simp) rfl ?_
        simp only [Act.put, pA, pB, pC]
        refine tL (i := 3) (some 19) 58 (.tmp 18) b (off + k * 11) (C k) _ rfl rfl rfl rfl (fun w' hS => by rw [hS]; exact h1.out) Tryz.underlying58 rfl (hi_N _ (HZ.out k)) rfl ?_
        simp only [Act.put, pA, pB, pC]
        refine tY (i := 4) (some 20) (v := .slice (some ⟨b', off', none⟩) m d) rfl rfl (fun w' hS => by go_simp) rfl ?_
        simp only [Act.put, pA, pB, pC]
        refine tY (i := 5) (some 21) (v := .int .i64 k) rfl rfl (fun w' hS => by go_simp) rfl ?_
        simp only [Act.put, pA, pB, pC]
        refine tY (i := 6) (some 22) (v := .pointer (some ⟨b', off' + k * 11, none⟩)) rfl rfl (fun w' hS => by clear hS; go_simp) rfl ?_
        simp only [Act.put, pA, pB, pC]
        refine tL (i := 7) (some 23) 58 (.tmp 22) b' (off' + k * 11) (C k) _ rfl rfl rfl rfl (fun w' hS => by rw [hS]; exact h2.out) Tryz.underlying58 rfl (hi_N _ (HZ.out k)) rfl ?_
        simp only [Act.put, pA, pB, pC]
        refine tY (i := 8) (some 24) (v := .bool false) rfl rfl (fun w' _ => neq_self _ _ (.tmp 19) (.tmp 23) _ _ rfl rfl guard_N (C k) (HS.out k hlt) rfl rfl w') rfl ?_
        simp only [Act.put, pA, pB, pC]
        refine wpAnyH_done (by kernel_rfl) ?_ _
        have hwd : Hid (wr.drew = w.drewN (r + 1)) := Lib.hid (by rw [hw.out]; rfl)
        clear h1 h2
        go_wp2
        go_roundw
        case rel => exact ⟨k + 1, r + 1, by omega, by go_num, hwd⟩
        case measure => simp [intOf]; omega
      · obtain rfl : k = m := by omega
        go_wp2
        go_ret
        exact ⟨rfl, r, hw.out⟩
end Go.Proofs.YtkiaijmhoikdiaaGreat

/- An append of one entry as a step of a drawn region; an entry is built. Each theorem states its conditions. -/
namespace Go.Proofs.YtkiaijmhoikdiaaGreat
open Go.RowKit
set_option linter.unusedVariables false

end Go.Proofs.YtkiaijmhoikdiaaGreat

/- pdu.GetEntries reads entries. Each theorem states its conditions. -/
namespace Go.Proofs.YtkiaijmhoikdiaaGreat
open Go.RowKit
set_option linter.unusedVariables false

theorem Row8.cut {w : World} {b off n : Nat} {z : Nat → Int} (h : Row8 w b off n z) (m : Nat) (hm : m ≤ n) : Row8 w b off m z := ⟨h.1, fun j hj => h.2.1 j (by omega), h.2.2⟩
theorem Row8.below' {w w' : World} {b off n : Nat} {z : Nat → Int} (h : Row8 w b off n z) (hb : Below w.heap.size w w') : Row8 w' b off n z := h.below hb h.1
theorem n2_bd (z : Nat → Int) (hz : ∀ j, 0 ≤ z j ∧ z j ≤ 255) : (numZ z 0 2).toNat ≤ 65535 := by
  have h := numZ_lt z 0 2 (fun j => hz _)
  have e : (256 : Int) ^ 2 = 65536 := by decide
  omega
theorem wI (N : Nat) (h : N ≤ 65535) : IntKind.i64.wrap (N : Int) = (N : Int) := by simp [IntKind.wrap, IntKind.signed, IntKind.bits]; omega
theorem wU4 (N : Nat) (h : N ≤ 4294967295) : IntKind.u32.wrap (N : Int) = (N : Int) := by simp [IntKind.wrap, IntKind.signed, IntKind.bits]; omega
theorem wU2 (N : Nat) (h : N ≤ 65535) : IntKind.u16.wrap (N : Int) = (N : Int) := by simp [IntKind.wrap, IntKind.signed, IntKind.bits]; omega
end Go.Proofs.YtkiaijmhoikdiaaGreat

/- pdu.get reads a field of a packet. Each theorem states its conditions. -/
namespace Go.Proofs.YtkiaijmhoikdiaaGreat
open Go.RowKit
set_option linter.unusedVariables false

def mixS (s t : Nat → Int) : Nat → Int := fun j => if j < 6 then s j else t j
theorem mixS_bd {s t : Nat → Int} (h : ∀ j, 0 ≤ s j ∧ s j ≤ 255) (h' : ∀ j, 0 ≤ t j ∧ t j ≤ 255) : ∀ j, 0 ≤ mixS s t j ∧ mixS s t j ≤ 255 := by
  intro j; unfold mixS; split
  · exact h j
  · exact h' j
def getF (p : Pd) (y : Nat → Int) : Nat → Pd
  | 0 => ⟨p.kd, y 0, p.so, p.ho, p.nu, p.pr, p.la, p.li, p.id, p.sq, p.bi, p.st, p.en, p.A, p.m, p.c⟩
  | 1 => ⟨p.kd, p.ci, mixS y p.so, p.ho, p.nu, p.pr, p.la, p.li, p.id, p.sq, p.bi, p.st, p.en, p.A, p.m, p.c⟩
  | 2 => ⟨p.kd, p.ci, y, p.ho, p.nu, p.pr, p.la, p.li, p.id, p.sq, p.bi, p.st, p.en, p.A, p.m, p.c⟩
  | 3 => ⟨p.kd, p.ci, p.so, (((numZ y 0 2).toNat : Nat) : Int), p.nu, p.pr, p.la, p.li, p.id, p.sq, p.bi, p.st, p.en, p.A, p.m, p.c⟩
  | 5 => ⟨p.kd, p.ci, p.so, p.ho, y 0, p.pr, p.la, p.li, p.id, p.sq, p.bi, p.st, p.en, p.A, p.m, p.c⟩
  | 6 => ⟨p.kd, p.ci, p.so, p.ho, p.nu, y 0, p.la, p.li, p.id, p.sq, p.bi, p.st, p.en, p.A, p.m, p.c⟩
  | 7 => ⟨p.kd, p.ci, p.so, p.ho, p.nu, p.pr, y, p.li, p.id, p.sq, p.bi, p.st, p.en, p.A, p.m, p.c⟩
  | 8 => ⟨p.kd, p.ci, p.so, p.ho, p.nu, p.pr, p.la, (((numZ y 0 2).toNat : Nat) : Int), p.id, p.sq, p.bi, p.st, p.en, p.A, p.m, p.c⟩
  | 9 => ⟨p.kd, p.ci, p.so, p.ho, p.nu, p.pr, p.la, p.li, y, p.sq, p.bi, p.st, p.en, p.A, p.m, p.c⟩
  | 10 => ⟨p.kd, p.ci, p.so, p.ho, p.nu, p.pr, p.la, p.li, p.id, (numZ y 0 4).toNat, p.bi, p.st, p.en, p.A, p.m, p.c⟩
  | 12 => ⟨p.kd, p.ci, p.so, p.ho, p.nu, p.pr, p.la, p.li, p.id, p.sq, y 0, p.st, p.en, p.A, p.m, p.c⟩
  | 13 => ⟨p.kd, p.ci, p.so, p.ho, p.nu, p.pr, p.la, p.li, p.id, p.sq, p.bi, y, p.en, p.A, p.m, p.c⟩
  | 14 => ⟨p.kd, p.ci, p.so, p.ho, p.nu, p.pr, p.la, p.li, p.id, p.sq, p.bi, p.st, y, p.A, p.m, p.c⟩
  | _ => p
def GetPost (w : World) (g : Nat) (p : Pd) (e : Ending) (w' : World) : Prop := e = .returned (.tuple #[]) ∧ PdT 127 w' g p ∧ Below g w w' ∧ ∀ k, k < w.heap.size → k ≠ g → w'.heap[k]? = w.heap[k]?
theorem dwpList_cp {ops : Array Oper} {Q : Exit → Act → World → Prop} {rest : List Oper} {o : Oper} {a : Act} {w : World} (hgd : o.guard = none) (d s : Operand) (dT sT : TypeId)
    (ho : o.op = .call { callee := .builtin .copy, args := #[d, s], argTypes := #[dT, sT] }) (elem : TypeId) (hu : Tryz.prog.underlying dT = some (.slice elem)) (hsz : (Tryz.prog.info? elem).map (·.size) = some 1)
    (g off dLen dCap : Nat) (ad : Addr) (sLen sCap : Nat) (hd : a.eval d = .slice (some ⟨g, off, none⟩) dLen dCap) (hs : a.eval s = .slice (some ad) sLen sCap)
    (cur : List Value) (t : TypeId) (hg : w.heap[g]? = some (.cells cur.toArray t (0, 0))) (cs : List Value) (hn : cs.length = Nat.min sLen dLen)
    (hsrc : ∀ j v, cs[j]? = some v → w.cell? (ad.add j) = some v) (hfit : off + cs.length ≤ cur.length) (h1 : ∀ v ∈ cs, v.oneCell' = true) {C' : Array Value} (hC : (splice cur off cs).toArray = C')
    (h : ∀ w', Stored w w' g C' t → wpList Tryz.prog ops Q rest (a.put o.dst (goInt cs.length)) w') : wpList Tryz.prog ops Q (o :: rest) a w := by
  subst hC
  refine wpList_plain hgd fun K hK => ?_
  have hrun := run_copy_row (P := Tryz.prog) w dT sT o.type elem g off dLen dCap ad sLen sCap cur.toArray t cs hu hsz hg hn hsrc (by simpa using hfit) h1
  unfold Oper.wp
  simp [execOp, ho, resolve, invoke, builtin, hd, hs, hrun, Result.andThen]
  exact hK _ _ (h _ ⟨(show _ = _ by simpa [splice] using setRow_heap w g _ _ t _ hg), fun B hB => ⟨rfl, rfl, rfl, by simp [World.setRow], fun k hk => setRow_other w g k _ (by omega)⟩, fun k hk => setRow_other w g k _ hk⟩)
set_option maxHeartbeats 2000000 in
set_option maxRecDepth 100000 in
theorem get_0 (p : Pd) (y : Nat → Int) (g b off c : Nat) (w : World) (hg : PdT 127 w g p) (hr : Row8 w b off (fsz 0) y) (hc : fsz 0 ≤ c) (hcm : c ≤ maxLen) :
    Calls Tryz.prog 117 #[.pointer (some ⟨g, 0, none⟩), .int .i64 0, .slice (some ⟨b, off, none⟩) (fsz 0) c] w (GetPost w g (getF p y 0)) := by
  rw [show fsz 0 = 1 from rfl] at *
  have c1 : w.cell? ⟨b, off, none⟩ = some (.int .u8 (y 0)) := hr.2.1 0 (by omega)
  have HG := Lib.hid hg
  clear hr hg
  go_enter Tryz.func117, Tryz.ntmps117
  go_wp2_with (refine wpList_st rfl 5 (.tmp 14) (.tmp 12) rfl g 1 rfl (.int .u8 (y 0)) #[.int .u8 (y 0)] rfl rfl (by kernel_rfl) (by kernel_rfl) HG.out (Nat.le_of_ble_eq_true rfl) (C' := pdC (getF p y 0)) (by kernel_rfl) ?_; intro w9 hst; refine Hid.out ?_)
  refine Lib.hid ?_
  have HE : Hid (GetPost w g (getF p y 0) (.returned (.tuple #[])) w9) := Lib.hid ⟨rfl, hst.1, hst.2.1 g (Nat.le_refl _), fun k hk hne => hst.2.2 k hne⟩
  clear hst
  go_wp2_with fail
  exact bodyPost_end (results_none rfl _ _ _) rfl HE.out
set_option maxHeartbeats 2000000 in
set_option maxRecDepth 100000 in
theorem get_5 (p : Pd) (y : Nat → Int) (g b off c : Nat) (w : World) (hg : PdT 127 w g p) (hr : Row8 w b off (fsz 5) y) (hc : fsz 5 ≤ c) (hcm : c ≤ maxLen) :
    Calls Tryz.prog 117 #[.pointer (some ⟨g, 0, none⟩), .int .i64 5, .slice (some ⟨b, off, none⟩) (fsz 5) c] w (GetPost w g (getF p y 5)) := by
  rw [show fsz 5 = 1 from rfl] at *
  have c1 : w.cell? ⟨b, off, none⟩ = some (.int .u8 (y 0)) := hr.2.1 0 (by omega)
  have HG := Lib.hid hg
  clear hr hg
  go_enter Tryz.func117, Tryz.ntmps117
  go_wp2_with (refine wpList_st rfl 5 (.tmp 46) (.tmp 44) rfl g 10 rfl (.int .u8 (y 0)) #[.int .u8 (y 0)] rfl rfl (by kernel_rfl) (by kernel_rfl) HG.out (Nat.le_of_ble_eq_true rfl) (C' := pdC (getF p y 5)) (by kernel_rfl) ?_; intro w9 hst; refine Hid.out ?_)
  refine Lib.hid ?_
  have HE : Hid (GetPost w g (getF p y 5) (.returned (.tuple #[])) w9) := Lib.hid ⟨rfl, hst.1, hst.2.1 g (Nat.le_refl _), fun k hk hne => hst.2.2 k hne⟩
  clear hst
  go_wp2_with fail
  exact bodyPost_end (results_none rfl _ _ _) rfl HE.out
set_option maxHeartbeats 2000000 in
set_option maxRecDepth 100000 in
theorem get_6 (p : Pd) (y : Nat → Int) (g b off c : Nat) (w : World) (hg : PdT 127 w g p) (hr : Row8 w b off (fsz 6) y) (hc : fsz 6 ≤ c) (hcm : c ≤ maxLen) :
    Calls Tryz.prog 117 #[.pointer (some ⟨g, 0, none⟩), .int .i64 6, .slice (some ⟨b, off, none⟩) (fsz 6) c] w (GetPost w g (getF p y 6)) := by
  rw [show fsz 6 = 1 from rfl] at *
  have c1 : w.cell? ⟨b, off, none⟩ = some (.int .u8 (y 0)) := hr.2.1 0 (by omega)
  have HG := Lib.hid hg
  clear hr hg
  go_enter Tryz.func117, Tryz.ntmps117
  go_wp2_with (refine wpList_st rfl 5 (.tmp 54) (.tmp 52) rfl g 11 rfl (.int .u8 (y 0)) #[.int .u8 (y 0)] rfl rfl (by kernel_rfl) (by kernel_rfl) HG.out (Nat.le_of_ble_eq_true rfl) (C' := pdC (getF p y 6)) (by kernel_rfl) ?_; intro w9 hst; refine Hid.out ?_)
  refine Lib.hid ?_
  have HE : Hid (GetPost w g (getF p y 6) (.returned (.tuple #[])) w9) := Lib.hid ⟨rfl, hst.1, hst.2.1 g (Nat.le_refl _), fun k hk hne => hst.2.2 k hne⟩
  clear hst
  go_wp2_with fail
  exact bodyPost_end (results_none rfl _ _ _) rfl HE.out
set_option maxHeartbeats 2000000 in
set_option maxRecDepth 100000 in
theorem get_12 (p : Pd) (y : Nat → Int) (g b off c : Nat) (w : World) (hg : PdT 127 w g p) (hr : Row8 w b off (fsz 12) y) (hc : fsz 12 ≤ c) (hcm : c ≤ maxLen) :
    Calls Tryz.prog 117 #[.pointer (some ⟨g, 0, none⟩), .int .i64 12, .slice (some ⟨b, off, none⟩) (fsz 12) c] w (GetPost w g (getF p y 12)) := by
  rw [show fsz 12 = 1 from rfl] at *
  have c1 : w.cell? ⟨b, off, none⟩ = some (.int .u8 (y 0)) := hr.2.1 0 (by omega)
  have HG := Lib.hid hg
  clear hr hg
  go_enter Tryz.func117, Tryz.ntmps117
  go_wp2_with (refine wpList_st rfl 5 (.tmp 92) (.tmp 90) rfl g 29 rfl (.int .u8 (y 0)) #[.int .u8 (y 0)] rfl rfl (by kernel_rfl) (by kernel_rfl) HG.out (Nat.le_of_ble_eq_true rfl) (C' := pdC (getF p y 12)) (by kernel_rfl) ?_; intro w9 hst; refine Hid.out ?_)
  refine Lib.hid ?_
  have HE : Hid (GetPost w g (getF p y 12) (.returned (.tuple #[])) w9) := Lib.hid ⟨rfl, hst.1, hst.2.1 g (Nat.le_refl _), fun k hk hne => hst.2.2 k hne⟩
  clear hst
  go_wp2_with fail
  exact bodyPost_end (results_none rfl _ _ _) rfl HE.out
set_option maxHeartbeats 2000000 in
set_option maxRecDepth 100000 in
theorem get_1 (p : Pd) (y : Nat → Int) (g b off c : Nat) (w : World) (hg : PdT 127 w g p) (hr : Row8 w b off (fsz 1) y) (hc : fsz 1 ≤ c) (hcm : c ≤ maxLen) :
    Calls Tryz.prog 117 #[.pointer (some ⟨g, 0, none⟩), .int .i64 1, .slice (some ⟨b, off, none⟩) (fsz 1) c] w (GetPost w g (getF p y 1)) := by
  rw [show fsz 1 = 6 from rfl] at *
  have HG := Lib.hid hg
  have HR : Hid (∀ j v, (vals y 6)[j]? = some v → w.cell? ((⟨b, off, none⟩ : Addr).add j) = some v) := Lib.hid (six_src hr (by omega))
  clear hr hg
  go_enter Tryz.func117, Tryz.ntmps117
  go_wp2_with (refine dwpList_cp rfl (.tmp 21) (.tmp 22) 40 40 rfl 5 Tryz.underlying40 info_u8s' g 2 6 6 ⟨b, off, none⟩ 6 c rfl rfl (pdC p).toList 127 HG.out (vals y 6) (by rw [vals_len]; rfl) HR.out (show 2 + (vals y 6).length ≤ 47 by rw [vals_len]; decide) (vals_one _ _) (C' := pdC (getF p y 1)) (by kernel_rfl) ?_; intro w9 hst; refine Hid.out ?_)
  refine Lib.hid ?_
  have HE : Hid (GetPost w g (getF p y 1) (.returned (.tuple #[])) w9) := Lib.hid ⟨rfl, hst.1, hst.2.1 g (Nat.le_refl _), fun k hk hne => hst.2.2 k hne⟩
  clear hst
  go_wp2_with fail
  exact bodyPost_end (results_none rfl _ _ _) rfl HE.out
set_option maxHeartbeats 2000000 in
set_option maxRecDepth 100000 in
theorem get_2 (p : Pd) (y : Nat → Int) (g b off c : Nat) (w : World) (hg : PdT 127 w g p) (hr : Row8 w b off (fsz 2) y) (hc : fsz 2 ≤ c) (hcm : c ≤ maxLen) :
    Calls Tryz.prog 117 #[.pointer (some ⟨g, 0, none⟩), .int .i64 2, .slice (some ⟨b, off, none⟩) (fsz 2) c] w (GetPost w g (getF p y 2)) := by
  rw [show fsz 2 = 7 from rfl] at *
  have HG := Lib.hid hg
  have HK := Lib.hid (getNode_any b off 7 c y w hr (by omega) hc hcm)
  clear hr hg
  go_enter Tryz.func117, Tryz.ntmps117
  go_wp2_with fail
  refine HK.out.mono ?_
  rintro e w1 ⟨rfl, hb1⟩
  have HG1 := Lib.hid (HG.out.below hb1 HG.out.lt)
  have HB1 := Lib.hid (hb1.mono (Nat.le_of_lt HG.out.lt))
  have HO1 := Lib.hid (fun k (hk : k < w.heap.size) => hb1.block k hk)
  clear hb1
  go_wp2_with (refine wpList_st rfl 33 (.tmp 30) (.tmp 28) rfl g 2 rfl (.agg (ndC y)) (ndC y) rfl rfl info_node (nd_all _) HG1.out (Nat.le_of_ble_eq_true rfl) (C' := pdC (getF p y 2)) (by kernel_rfl) ?_; intro w9 hst; refine Hid.out ?_)
  refine Lib.hid ?_
  have HE : Hid (GetPost w g (getF p y 2) (.returned (.tuple #[])) w9) := Lib.hid ⟨rfl, hst.1, HB1.out.trans (hst.2.1 g (Nat.le_refl _)), fun k hk hne => (hst.2.2 k hne).trans (HO1.out k hk)⟩
  clear hst
  go_wp2_with fail
  exact bodyPost_end (results_none rfl _ _ _) rfl HE.out
set_option maxHeartbeats 2000000 in
set_option maxRecDepth 100000 in
theorem get_7 (p : Pd) (y : Nat → Int) (g b off c : Nat) (w : World) (hg : PdT 127 w g p) (hr : Row8 w b off (fsz 7) y) (hc : fsz 7 ≤ c) (hcm : c ≤ maxLen) :
    Calls Tryz.prog 117 #[.pointer (some ⟨g, 0, none⟩), .int .i64 7, .slice (some ⟨b, off, none⟩) (fsz 7) c] w (GetPost w g (getF p y 7)) := by
  rw [show fsz 7 = 7 from rfl] at *
  have HG := Lib.hid hg
  have HK := Lib.hid (getNode_any b off 7 c y w hr (by omega) hc hcm)
  clear hr hg
  go_enter Tryz.func117, Tryz.ntmps117
  go_wp2_with fail
  refine HK.out.mono ?_
  rintro e w1 ⟨rfl, hb1⟩
  have HG1 := Lib.hid (HG.out.below hb1 HG.out.lt)
  have HB1 := Lib.hid (hb1.mono (Nat.le_of_lt HG.out.lt))
  have HO1 := Lib.hid (fun k (hk : k < w.heap.size) => hb1.block k hk)
  clear hb1
  go_wp2_with (refine wpList_st rfl 33 (.tmp 61) (.tmp 59) rfl g 12 rfl (.agg (ndC y)) (ndC y) rfl rfl info_node (nd_all _) HG1.out (Nat.le_of_ble_eq_true rfl) (C' := pdC (getF p y 7)) (by kernel_rfl) ?_; intro w9 hst; refine Hid.out ?_)
  refine Lib.hid ?_
  have HE : Hid (GetPost w g (getF p y 7) (.returned (.tuple #[])) w9) := Lib.hid ⟨rfl, hst.1, HB1.out.trans (hst.2.1 g (Nat.le_refl _)), fun k hk hne => (hst.2.2 k hne).trans (HO1.out k hk)⟩
  clear hst
  go_wp2_with fail
  exact bodyPost_end (results_none rfl _ _ _) rfl HE.out
set_option maxHeartbeats 2000000 in
set_option maxRecDepth 100000 in
theorem get_9 (p : Pd) (y : Nat → Int) (g b off c : Nat) (w : World) (hg : PdT 127 w g p) (hr : Row8 w b off (fsz 9) y) (hc : fsz 9 ≤ c) (hcm : c ≤ maxLen) :
    Calls Tryz.prog 117 #[.pointer (some ⟨g, 0, none⟩), .int .i64 9, .slice (some ⟨b, off, none⟩) (fsz 9) c] w (GetPost w g (getF p y 9)) := by
  rw [show fsz 9 = 8 from rfl] at *
  have HG := Lib.hid hg
  have HK := Lib.hid (getID_any b off c y w hr hc hcm)
  clear hr hg
  go_enter Tryz.func117, Tryz.ntmps117
  go_wp2_with fail
  refine HK.out.mono ?_
  rintro e w1 ⟨rfl, hb1⟩
  have HG1 := Lib.hid (HG.out.below hb1 HG.out.lt)
  have HB1 := Lib.hid (hb1.mono (Nat.le_of_lt HG.out.lt))
  have HO1 := Lib.hid (fun k (hk : k < w.heap.size) => hb1.block k hk)
  clear hb1
  go_wp2_with (refine wpList_st rfl 35 (.tmp 76) (.tmp 74) rfl g 20 rfl (.agg (idC y)) (idC y) rfl rfl info_id (id_all _) HG1.out (Nat.le_of_ble_eq_true rfl) (C' := pdC (getF p y 9)) (by kernel_rfl) ?_; intro w9 hst; refine Hid.out ?_)
  refine Lib.hid ?_
  have HE : Hid (GetPost w g (getF p y 9) (.returned (.tuple #[])) w9) := Lib.hid ⟨rfl, hst.1, HB1.out.trans (hst.2.1 g (Nat.le_refl _)), fun k hk hne => (hst.2.2 k hne).trans (HO1.out k hk)⟩
  clear hst
  go_wp2_with fail
  exact bodyPost_end (results_none rfl _ _ _) rfl HE.out
set_option maxHeartbeats 2000000 in
set_option maxRecDepth 100000 in
theorem get_13 (p : Pd) (y : Nat → Int) (g b off c : Nat) (w : World) (hg : PdT 127 w g p) (hr : Row8 w b off (fsz 13) y) (hc : fsz 13 ≤ c) (hcm : c ≤ maxLen) :
    Calls Tryz.prog 117 #[.pointer (some ⟨g, 0, none⟩), .int .i64 13, .slice (some ⟨b, off, none⟩) (fsz 13) c] w (GetPost w g (getF p y 13)) := by
  rw [show fsz 13 = 8 from rfl] at *
  have HG := Lib.hid hg
  have HK := Lib.hid (getID_any b off c y w hr hc hcm)
  clear hr hg
  go_enter Tryz.func117, Tryz.ntmps117
  go_wp2_with fail
  refine HK.out.mono ?_
  rintro e w1 ⟨rfl, hb1⟩
  have HG1 := Lib.hid (HG.out.below hb1 HG.out.lt)
  have HB1 := Lib.hid (hb1.mono (Nat.le_of_lt HG.out.lt))
  have HO1 := Lib.hid (fun k (hk : k < w.heap.size) => hb1.block k hk)
  clear hb1
  go_wp2_with (refine wpList_st rfl 35 (.tmp 99) (.tmp 97) rfl g 30 rfl (.agg (idC y)) (idC y) rfl rfl info_id (id_all _) HG1.out (Nat.le_of_ble_eq_true rfl) (C' := pdC (getF p y 13)) (by kernel_rfl) ?_; intro w9 hst; refine Hid.out ?_)
  refine Lib.hid ?_
  have HE : Hid (GetPost w g (getF p y 13) (.returned (.tuple #[])) w9) := Lib.hid ⟨rfl, hst.1, HB1.out.trans (hst.2.1 g (Nat.le_refl _)), fun k hk hne => (hst.2.2 k hne).trans (HO1.out k hk)⟩
  clear hst
  go_wp2_with fail
  exact bodyPost_end (results_none rfl _ _ _) rfl HE.out
set_option maxHeartbeats 2000000 in
set_option maxRecDepth 100000 in
theorem get_14 (p : Pd) (y : Nat → Int) (g b off c : Nat) (w : World) (hg : PdT 127 w g p) (hr : Row8 w b off (fsz 14) y) (hc : fsz 14 ≤ c) (hcm : c ≤ maxLen) :
    Calls Tryz.prog 117 #[.pointer (some ⟨g, 0, none⟩), .int .i64 14, .slice (some ⟨b, off, none⟩) (fsz 14) c] w (GetPost w g (getF p y 14)) := by
  rw [show fsz 14 = 8 from rfl] at *
  have HG := Lib.hid hg
  have HK := Lib.hid (getID_any b off c y w hr hc hcm)
  clear hr hg
  go_enter Tryz.func117, Tryz.ntmps117
  go_wp2_with fail
  refine HK.out.mono ?_
  rintro e w1 ⟨rfl, hb1⟩
  have HG1 := Lib.hid (HG.out.below hb1 HG.out.lt)
  have HB1 := Lib.hid (hb1.mono (Nat.le_of_lt HG.out.lt))
  have HO1 := Lib.hid (fun k (hk : k < w.heap.size) => hb1.block k hk)
  clear hb1
  go_wp2_with (refine wpList_st rfl 35 (.tmp 106) (.tmp 104) rfl g 38 rfl (.agg (idC y)) (idC y) rfl rfl info_id (id_all _) HG1.out (Nat.le_of_ble_eq_true rfl) (C' := pdC (getF p y 14)) (by kernel_rfl) ?_; intro w9 hst; refine Hid.out ?_)
  refine Lib.hid ?_
  have HE : Hid (GetPost w g (getF p y 14) (.returned (.tuple #[])) w9) := Lib.hid ⟨rfl, hst.1, HB1.out.trans (hst.2.1 g (Nat.le_refl _)), fun k hk hne => (hst.2.2 k hne).trans (HO1.out k hk)⟩
  clear hst
  go_wp2_with fail
  exact bodyPost_end (results_none rfl _ _ _) rfl HE.out
set_option maxHeartbeats 2000000 in
set_option maxRecDepth 100000 in
theorem get_3 (p : Pd) (y : Nat → Int) (g b off c : Nat) (w : World) (hg : PdT 127 w g p) (hr : Row8 w b off (fsz 3) y) (hc : fsz 3 ≤ c) (hcm : c ≤ maxLen) :
    Calls Tryz.prog 117 #[.pointer (some ⟨g, 0, none⟩), .int .i64 3, .slice (some ⟨b, off, none⟩) (fsz 3) c] w (GetPost w g (getF p y 3)) := by
  rw [show fsz 3 = 2 from rfl] at *
  have HG := Lib.hid hg
  have hzb := numZ_lt y 0 2 hr.2.2
  have HK := Lib.hid (getNumber_any b off 2 c y w hr (by omega) (by omega) hc hcm)
  obtain ⟨N, hN⟩ : ∃ N, (numZ y 0 2).toNat = N := ⟨_, rfl⟩
  have hNb : N ≤ 65535 := by
    have e : (256 : Int) ^ 2 = 65536 := by decide
    omega
  have HW := Lib.hid (wI N hNb)
  have hw := HW.out
  rw [hN] at HK
  have HF : Hid (putMany (pdC p) 9 #[Value.int .i64 (N : Int)].toList = pdC (getF p y 3)) := Lib.hid (by rw [← hN]; kernel_rfl)
  clear hr hg hzb hN
  go_enter Tryz.func117, Tryz.ntmps117
  go_wp2_with fail
  refine HK.out.mono ?_
  rintro e w1 ⟨rfl, rfl⟩
  go_wp2_with (refine wpList_st rfl 3 (.tmp 38) (.tmp 36) rfl g 9 rfl (.int .i64 (N : Int)) #[.int .i64 (N : Int)] rfl rfl (by kernel_rfl) (by kernel_rfl) HG.out (Nat.le_of_ble_eq_true rfl) HF.out ?_; intro w9 hst; refine Hid.out ?_)
  refine Lib.hid ?_
  have HE : Hid (GetPost w1 g (getF p y 3) (.returned (.tuple #[])) w9) := Lib.hid ⟨rfl, hst.1, hst.2.1 g (Nat.le_refl _), fun k hk hne => hst.2.2 k hne⟩
  clear hst
  go_wp2_with fail
  exact bodyPost_end (results_none rfl _ _ _) rfl HE.out
set_option maxHeartbeats 2000000 in
set_option maxRecDepth 100000 in
theorem get_8 (p : Pd) (y : Nat → Int) (g b off c : Nat) (w : World) (hg : PdT 127 w g p) (hr : Row8 w b off (fsz 8) y) (hc : fsz 8 ≤ c) (hcm : c ≤ maxLen) :
    Calls Tryz.prog 117 #[.pointer (some ⟨g, 0, none⟩), .int .i64 8, .slice (some ⟨b, off, none⟩) (fsz 8) c] w (GetPost w g (getF p y 8)) := by
  rw [show fsz 8 = 2 from rfl] at *
  have HG := Lib.hid hg
  have hzb := numZ_lt y 0 2 hr.2.2
  have HK := Lib.hid (getNumber_any b off 2 c y w hr (by omega) (by omega) hc hcm)
  obtain ⟨N, hN⟩ : ∃ N, (numZ y 0 2).toNat = N := ⟨_, rfl⟩
  have hNb : N ≤ 65535 := by
    have e : (256 : Int) ^ 2 = 65536 := by decide
    omega
  have HW := Lib.hid (wI N hNb)
  have hw := HW.out
  rw [hN] at HK
  have HF : Hid (putMany (pdC p) 19 #[Value.int .i64 (N : Int)].toList = pdC (getF p y 8)) := Lib.hid (by rw [← hN]; kernel_rfl)
  clear hr hg hzb hN
  go_enter Tryz.func117, Tryz.ntmps117
  go_wp2_with fail
  refine HK.out.mono ?_
  rintro e w1 ⟨rfl, rfl⟩
  go_wp2_with (refine wpList_st rfl 3 (.tmp 69) (.tmp 67) rfl g 19 rfl (.int .i64 (N : Int)) #[.int .i64 (N : Int)] rfl rfl (by kernel_rfl) (by kernel_rfl) HG.out (Nat.le_of_ble_eq_true rfl) HF.out ?_; intro w9 hst; refine Hid.out ?_)
  refine Lib.hid ?_
  have HE : Hid (GetPost w1 g (getF p y 8) (.returned (.tuple #[])) w9) := Lib.hid ⟨rfl, hst.1, hst.2.1 g (Nat.le_refl _), fun k hk hne => hst.2.2 k hne⟩
  clear hst
  go_wp2_with fail
  exact bodyPost_end (results_none rfl _ _ _) rfl HE.out
set_option maxHeartbeats 2000000 in
set_option maxRecDepth 100000 in
theorem get_10 (p : Pd) (y : Nat → Int) (g b off c : Nat) (w : World) (hg : PdT 127 w g p) (hr : Row8 w b off (fsz 10) y) (hc : fsz 10 ≤ c) (hcm : c ≤ maxLen) :
    Calls Tryz.prog 117 #[.pointer (some ⟨g, 0, none⟩), .int .i64 10, .slice (some ⟨b, off, none⟩) (fsz 10) c] w (GetPost w g (getF p y 10)) := by
  rw [show fsz 10 = 4 from rfl] at *
  have HG := Lib.hid hg
  have hzb := numZ_lt y 0 4 hr.2.2
  have HK := Lib.hid (getNumber_any b off 4 c y w hr (by omega) (by omega) hc hcm)
  obtain ⟨N, hN⟩ : ∃ N, (numZ y 0 4).toNat = N := ⟨_, rfl⟩
  have hNb : N ≤ 4294967295 := by
    have e : (256 : Int) ^ 4 = 4294967296 := by decide
    omega
  have HW := Lib.hid (wU4 N hNb)
  have hw := HW.out
  rw [hN] at HK
  have HF : Hid (putMany (pdC p) 28 #[Value.int .u32 (N : Int)].toList = pdC (getF p y 10)) := Lib.hid (by rw [← hN]; kernel_rfl)
  clear hr hg hzb hN
  go_enter Tryz.func117, Tryz.ntmps117
  go_wp2_with fail
  refine HK.out.mono ?_
  rintro e w1 ⟨rfl, rfl⟩
  go_wp2_with (refine wpList_st rfl 36 (.tmp 84) (.tmp 82) rfl g 28 rfl (.int .u32 (N : Int)) #[.int .u32 (N : Int)] rfl rfl (by kernel_rfl) (by kernel_rfl) HG.out (Nat.le_of_ble_eq_true rfl) HF.out ?_; intro w9 hst; refine Hid.out ?_)
  refine Lib.hid ?_
  have HE : Hid (GetPost w1 g (getF p y 10) (.returned (.tuple #[])) w9) := Lib.hid ⟨rfl, hst.1, hst.2.1 g (Nat.le_refl _), fun k hk hne => hst.2.2 k hne⟩
  clear hst
  go_wp2_with fail
  exact bodyPost_end (results_none rfl _ _ _) rfl HE.out
set_option maxHeartbeats 2000000 in
set_option maxRecDepth 100000 in
theorem get_4 (p : Pd) (y : Nat → Int) (g b off c : Nat) (w : World) (hg : PdT 127 w g p) (hr : Row8 w b off (fsz 4) y) (hc : fsz 4 ≤ c) (hcm : c ≤ maxLen) :
    Calls Tryz.prog 117 #[.pointer (some ⟨g, 0, none⟩), .int .i64 4, .slice (some ⟨b, off, none⟩) (fsz 4) c] w (GetPost w g (getF p y 4)) := by
  rw [show fsz 4 = 2 from rfl] at *
  have HG := Lib.hid hg
  clear hr hg
  go_enter Tryz.func117, Tryz.ntmps117
  go_wp2_with fail
  exact bodyPost_end (results_none rfl _ _ _) rfl ⟨rfl, HG.out, Below.refl _ _, fun _ _ _ => rfl⟩
set_option maxHeartbeats 2000000 in
set_option maxRecDepth 100000 in
theorem get_11 (p : Pd) (y : Nat → Int) (g b off c : Nat) (w : World) (hg : PdT 127 w g p) (hr : Row8 w b off (fsz 11) y) (hc : fsz 11 ≤ c) (hcm : c ≤ maxLen) :
    Calls Tryz.prog 117 #[.pointer (some ⟨g, 0, none⟩), .int .i64 11, .slice (some ⟨b, off, none⟩) (fsz 11) c] w (GetPost w g (getF p y 11)) := by
  rw [show fsz 11 = 2 from rfl] at *
  have HG := Lib.hid hg
  clear hr hg
  go_enter Tryz.func117, Tryz.ntmps117
  go_wp2_with fail
  exact bodyPost_end (results_none rfl _ _ _) rfl ⟨rfl, HG.out, Below.refl _ _, fun _ _ _ => rfl⟩
theorem get_any (p : Pd) (y : Nat → Int) (g b off c f : Nat) (hf : f ≤ 14) (w : World) (hg : PdT 127 w g p) (hr : Row8 w b off (fsz f) y) (hc : fsz f ≤ c) (hcm : c ≤ maxLen) :
    Calls Tryz.prog 117 #[.pointer (some ⟨g, 0, none⟩), .int .i64 (f : Int), .slice (some ⟨b, off, none⟩) (fsz f) c] w (GetPost w g (getF p y f)) := by
  rcases (by omega : f = 0 ∨ f = 1 ∨ f = 2 ∨ f = 3 ∨ f = 4 ∨ f = 5 ∨ f = 6 ∨ f = 7 ∨ f = 8 ∨ f = 9 ∨ f = 10 ∨ f = 11 ∨ f = 12 ∨ f = 13 ∨ f = 14) with rfl | rfl | rfl | rfl | rfl | rfl | rfl | rfl | rfl | rfl | rfl | rfl | rfl | rfl | rfl
  · exact get_0 p y g b off c w hg hr hc hcm
  · exact get_1 p y g b off c w hg hr hc hcm
  · exact get_2 p y g b off c w hg hr hc hcm
  · exact get_3 p y g b off c w hg hr hc hcm
  · exact get_4 p y g b off c w hg hr hc hcm
  · exact get_5 p y g b off c w hg hr hc hcm
  · exact get_6 p y g b off c w hg hr hc hcm
  · exact get_7 p y g b off c w hg hr hc hcm
  · exact get_8 p y g b off c w hg hr hc hcm
  · exact get_9 p y g b off c w hg hr hc hcm
  · exact get_10 p y g b off c w hg hr hc hcm
  · exact get_11 p y g b off c w hg hr hc hcm
  · exact get_12 p y g b off c w hg hr hc hcm
  · exact get_13 p y g b off c w hg hr hc hcm
  · exact get_14 p y g b off c w hg hr hc hcm
end Go.Proofs.YtkiaijmhoikdiaaGreat

/- bytes.Equal and bytes.HasPrefix. Each theorem states its conditions. -/
namespace Go.Proofs.YtkiaijmhoikdiaaGreat
open Go.RowKit
set_option linter.unusedVariables false

def bsL (z : Nat → Int) (n : Nat) : List UInt8 := (List.range n).map fun j => UInt8.ofNat (z j).toNat
def bsS (z : Nat → Int) (n : Nat) : ByteArray := ⟨(bsL z n).toArray⟩
theorem bsL_len (z : Nat → Int) (n : Nat) : (bsL z n).length = n := by simp [bsL]
theorem bsL_at (z : Nat → Int) (hz : ∀ j, 0 ≤ z j ∧ z j ≤ 255) (n j : Nat) (h : j < (bsL z n).length) : (((bsL z n)[j]).toNat : Int) = z j := by
  have := hz j
  simp [bsL]
  omega
theorem conv_row {w : World} {b off n : Nat} {z : Nat → Int} (h : Row8 w b off n z) (c : Nat) : (convert 40 9 (.slice (some ⟨b, off, none⟩) n c)).run Tryz.prog w = .ok (.string (bsS z n)) w := by
  have := run_convert_bytes_back (P := Tryz.prog) w 40 9 5 ⟨b, off, none⟩ c (bsL z n) Tryz.underlying40 Tryz.underlying5 Tryz.underlying9 (fun j hj => by
    rw [add_none, bsL_at z h.2.2 n j hj]
    exact h.2.1 j (by rwa [bsL_len] at hj))
  rw [bsL_len] at this
  exact this
theorem bsS_eq {z z' : Nat → Int} {n : Nat} (h : ∀ j, j < n → z j = z' j) : bsS z n = bsS z' n := by
  unfold bsS bsL
  congr 2
  apply List.map_congr_left
  intro j hj
  rw [h j (by simpa using hj)]
theorem bsS_inj {z z' : Nat → Int} {n : Nat} (hz : ∀ j, 0 ≤ z j ∧ z j ≤ 255) (hz' : ∀ j, 0 ≤ z' j ∧ z' j ≤ 255) (h : bsS z n = bsS z' n) : ∀ j, j < n → z j = z' j := by
  intro j hj
  have e : bsL z n = bsL z' n := by
    have := congrArg (fun s : ByteArray => s.data.toList) h
    simpa [bsS] using this
  have h1 := bsL_at z hz n j (by rw [bsL_len]; exact hj)
  have h2 := bsL_at z' hz' n j (by rw [bsL_len]; exact hj)
  rw [← h1, ← h2]
  simp only [e]
def eqB (z z' : Nat → Int) (n : Nat) : Bool := bsL z n == bsL z' n
theorem eqB_list (z z' : Nat → Int) (n : Nat) : ((bsS z n).toList == (bsS z' n).toList) = eqB z z' n := by
  rw [ByteArray.toList_eq, ByteArray.toList_eq]
  rfl
theorem eqB_iff {z z' : Nat → Int} {n : Nat} (hz : ∀ j, 0 ≤ z j ∧ z j ≤ 255) (hz' : ∀ j, 0 ≤ z' j ∧ z' j ≤ 255) : eqB z z' n = true ↔ ∀ j, j < n → z j = z' j := by
  unfold eqB
  rw [beq_iff_eq]
  constructor
  · intro e
    exact bsS_inj hz hz' (by unfold bsS; rw [e])
  · intro h
    have := bsS_eq h
    unfold bsS at this
    have h2 := congrArg (fun s : ByteArray => s.data.toList) this
    simpa using h2
theorem equal_any (b off n c g off' c' : Nat) (z z' : Nat → Int) (r : Bool) (w : World) (h : Row8 w b off n z) (h' : Row8 w g off' n z') (hr : eqB z z' n = r) :
    Calls Tryz.prog 124 #[.slice (some ⟨b, off, none⟩) n c, .slice (some ⟨g, off', none⟩) n c'] w fun e w' => e = .returned (.bool r) ∧ w = w' := by
  have h1 := conv_row h c
  have h2 := conv_row h' c'
  rw [← eqB_list] at hr
  obtain ⟨s, hs⟩ : ∃ s, bsS z n = s := ⟨_, rfl⟩
  obtain ⟨t, ht⟩ : ∃ t, bsS z' n = t := ⟨_, rfl⟩
  rw [hs] at h1 hr
  rw [ht] at h2 hr
  have HR := Lib.hid hr
  clear h h' hs ht hr
  obtain ⟨q, hq⟩ : ∃ q, (s.toList == t.toList) = q := ⟨_, rfl⟩
  have HQ : Hid (q = r) := Lib.hid (by rw [← hq]; exact HR.out)
  clear HR
  go_enter Tryz.func124, Tryz.ntmps124
  go_wp2_with fail
  go_ret
  exact ⟨by rw [← HQ.out]; rfl, rfl⟩
theorem starts_any (b off n c g c' : Nat) (z z' : Nat → Int) (r : Bool) (w : World) (h : Row8 w b off n z) (h' : Row8 w g 0 8 z') (hr : eqB z z' 8 = r) (hn : 8 ≤ n) (hc : n ≤ c) (hcm : c ≤ 9223372036854775807) :
    Calls Tryz.prog 113 #[.slice (some ⟨b, off, none⟩) n c, .slice (some ⟨g, 0, none⟩) 8 c'] w fun e w' => e = .returned (.bool r) ∧ w = w' := by
  have HE := Lib.hid (equal_any b off 8 c g 0 c' z z' r w (h.cut 8 hn) h' hr)
  clear h h' hr
  go_enter Tryz.func113, Tryz.ntmps113
  go_wp2_with fail
  refine HE.out.mono ?_
  rintro e w1 ⟨rfl, rfl⟩
  go_wp2_with fail
  go_ret
  exact ⟨rfl, rfl⟩
end Go.Proofs.YtkiaijmhoikdiaaGreat

/- pdu.Write writes a packet. Each theorem states its conditions. -/
namespace Go.Proofs.YtkiaijmhoikdiaaGreat
open Go.RowKit
set_option linter.unusedVariables false

theorem pdC_0 (p : Pd) : (pdC p)[0]? = some (.int .u8 p.kd) := rfl
theorem pdC_46 (p : Pd) : (pdC p)[46]? = some (.slice p.A p.m p.c) := rfl
theorem sz_le (L : Nat → It) (m m0 : Nat) (h : JEnds L m m0) : sz L m0 ≤ 1492 := by
  rcases Nat.eq_zero_or_pos m0 with h0 | h0
  · subst h0; simp [sz]
  · have := h.2.1 (m0 - 1) (by omega)
    unfold bad at this
    rw [show m0 - 1 + 1 = m0 by omega] at this
    omega
def PdIn (w : World) (p : Pd) (L : Nat → It) : Prop := RdT w p.A p.m L ∧ p.m ≤ p.c ∧ p.c ≤ 9223372036854775807
theorem RdT.below' {w w' : World} {A : Option Addr} {m : Nat} {L : Nat → It} (h : RdT w A m L) (hb : Below w.heap.size w w') : RdT w' A m L := h.below hb
end Go.Proofs.YtkiaijmhoikdiaaGreat

/- The document's example of pdu, run: waymarklaw06.awake returns true. No condition. -/
namespace Go.Proofs.YtkiaijmhoikdiaaGreat
open Go.RowKit
set_option linter.unusedVariables false

end Go.Proofs.YtkiaijmhoikdiaaGreat

/- pdu.Write, all ways told as one. Each theorem states its conditions. -/
namespace Go.Proofs.YtkiaijmhoikdiaaGreat
open Go.RowKit
set_option linter.unusedVariables false

def WrP (w : World) (n : Nat) (X : Int) (z : Nat → Int) (e : Ending) (w' : World) : Prop :=
  ∃ A c, e = .returned (.tuple #[.slice A n c, .int .i64 X]) ∧ Rd w' A n z ∧ n ≤ c ∧ c ≤ maxLen ∧ Below w.heap.size w w' ∧ (X = 0 → ∃ g, A = some ⟨g, 0, none⟩ ∧ w.heap.size ≤ g ∧ Own8 w' g n c z)
def wrX (p : Pd) (L : Nat → It) (m0 : Nat) : Int := if cls p.kd = 5 ∨ fitP p (cls p.kd) = false then 1 else if m0 < p.m ∨ 1492 < hdN (cls p.kd) + sz L p.m then 2 else 0
def wrN (p : Pd) (L : Nat → It) (m0 : Nat) : Nat := if wrX p L m0 = 0 then hdN (cls p.kd) + sz L p.m else 0
def wrZ (p : Pd) (L : Nat → It) (m0 : Nat) : Nat → Int := if wrX p L m0 = 0 then pdZ p (cls p.kd) L else fun _ => 0
theorem cls_le (k : Int) : cls k ≤ 5 := by unfold cls; (repeat' split) <;> omega
theorem wr_none {w w' : World} {X : Int} {e : Ending} (hX : X ≠ 0) (he : e = .returned (.tuple #[.slice none 0 0, .int .i64 X])) (hb : Below w.heap.size w w') : WrP w 0 X (fun _ => 0) e w' :=
  ⟨none, 0, he, ⟨.inl rfl, fun _ => ⟨Int.le_refl 0, (by decide : (0 : Int) ≤ 255)⟩⟩, Nat.le_refl _, by decide, hb, fun h => absurd h hX⟩
theorem wr_1 (p : Pd) (L : Nat → It) (m0 : Nat) (h : cls p.kd = 5 ∨ fitP p (cls p.kd) = false) : wrX p L m0 = 1 ∧ wrN p L m0 = 0 ∧ wrZ p L m0 = fun _ => 0 := by
  have h1 : wrX p L m0 = 1 := if_pos h
  refine ⟨h1, ?_, ?_⟩
  · unfold wrN; rw [h1]; rfl
  · unfold wrZ; rw [h1]; rfl
theorem wr_2 (p : Pd) (L : Nat → It) (m0 : Nat) (h : ¬ (cls p.kd = 5 ∨ fitP p (cls p.kd) = false)) (h2 : m0 < p.m ∨ 1492 < hdN (cls p.kd) + sz L p.m) : wrX p L m0 = 2 ∧ wrN p L m0 = 0 ∧ wrZ p L m0 = fun _ => 0 := by
  have h1 : wrX p L m0 = 2 := by unfold wrX; rw [if_neg h, if_pos h2]
  refine ⟨h1, ?_, ?_⟩
  · unfold wrN; rw [h1]; rfl
  · unfold wrZ; rw [h1]; rfl
theorem wr_0 (p : Pd) (L : Nat → It) (m0 : Nat) (h : ¬ (cls p.kd = 5 ∨ fitP p (cls p.kd) = false)) (h2 : ¬ (m0 < p.m ∨ 1492 < hdN (cls p.kd) + sz L p.m)) : wrX p L m0 = 0 ∧ wrN p L m0 = hdN (cls p.kd) + sz L p.m ∧ wrZ p L m0 = pdZ p (cls p.kd) L := by
  have h1 : wrX p L m0 = 0 := by unfold wrX; rw [if_neg h, if_neg h2]
  refine ⟨h1, ?_, ?_⟩
  · unfold wrN; rw [if_pos h1]
  · unfold wrZ; rw [if_pos h1]
theorem fitsTo_congr {p p' : Pd} {q : Nat} (n : Nat) (h : ∀ i, i < n → fitB p (fAt q i) = fitB p' (fAt q i)) : fitsTo p q n = fitsTo p' q n := by
  induction n with
  | zero => rfl
  | succ n ih => simp only [fitsTo, ih fun i hi => h i (by omega), h n (by omega)]
end Go.Proofs.YtkiaijmhoikdiaaGreat

/- pdu.readFields reads what stands ahead of the TLVs. Each theorem states its conditions. -/
namespace Go.Proofs.YtkiaijmhoikdiaaGreat
open Go.RowKit
set_option linter.unusedVariables false

theorem alloc_P' (o : Oper) (e : Operand → Value) (ho : o.op = .alloc 127) (W W' : World) (n : Nat) (hn : W.heap.size = n) (hW : W.alloc (.cells (pdC pd0) 127) = W') : (execOp e o).run Tryz.prog W = .ok (.value (.pointer (some ⟨n, 0, none⟩))) W' := by
  subst hn hW
  exact alloc_P o e ho W
theorem build_0 (o : Oper) (e : Operand → Value) (ho : o.op = .build 127 #[]) (W : World) : (execOp e o).run Tryz.prog W = .ok (.value (.agg (pdC pd0))) W := by
  unfold execOp
  simp only [ho]
  kernel_rfl
theorem results_rf {fn : Func} {q u v : Tmp} (h : fn.results = #[.cell q 127, .tmp u, .tmp v]) (tmps : Array Value) (W : World) (g : Nat) (p : Pd) (x y : Value)
    (hp : tmps.getD q undef = .pointer (some ⟨g, 0, none⟩)) (hg : PdT 127 W g p) (hx : tmps.getD u undef = x) (hy : tmps.getD v undef = y) : (results fn tmps).run Tryz.prog W = .ok (.tuple #[.agg (pdC p), x, y]) W := by
  have h1 := run_loadVar_row (P := Tryz.prog) W g 127 127 (pdC p) (0, 0) _ hg Tryz.underlying127 rfl info_pdP
  have hp' : (tmps[q]?).getD undef = .pointer (some ⟨g, 0, none⟩) := by simpa using hp
  have hx' : (tmps[u]?).getD undef = x := by simpa using hx
  have hy' : (tmps[v]?).getD undef = y := by simpa using hy
  simp only [results, h]
  simp [hp', hx', hy', asAddr, h1]
def kdP (k : Int) : Pd := ⟨k, 0, z0, 0, 0, 0, z0, 0, z0, 0, 0, z0, z0, none, 0, 0⟩
def rdF (q : Nat) (z : Nat → Int) : Nat → Pd
  | 0 => kdP (z 4)
  | i + 1 => getF (rdF q z i) (fun j => z (accN q i + j)) (fAt q i)
def rdP (q : Nat) (z : Nat → Int) : Pd := rdF q z (flC q).length
theorem accN_mono (q i k : Nat) (h : i ≤ k) : accN q i ≤ accN q k := by
  induction k with
  | zero => obtain rfl : i = 0 := by omega
            exact Nat.le_refl _
  | succ k ih =>
    by_cases e : i = k + 1
    · subst e; exact Nat.le_refl _
    · have := ih (by omega); simp only [accN]; omega
theorem accN_hd (q i : Nat) (h : i < (flC q).length) : accN q i + fsz (fAt q i) ≤ hdN q := accN_mono q (i + 1) _ h
def toldN (q : Nat) (z : Nat → Int) (i : Nat) : Nat := (numZ (fun j => z (accN q i + j)) 0 2).toNat
def LEndsF (q : Nat) (z : Nat → Int) (n m : Nat) : Prop := m ≤ (flC q).length ∧ (∀ i, i < m → fAt q i = 4 → toldN q z i = n) ∧ (m = (flC q).length ∨ (m < (flC q).length ∧ fAt q m = 4 ∧ toldN q z m ≠ n))
theorem lendsF (q : Nat) (z : Nat → Int) (n : Nat) : ∃ m, LEndsF q z n m := by
  suffices h : ∀ k, k ≤ (flC q).length → ∃ m, m ≤ k ∧ (∀ i, i < m → fAt q i = 4 → toldN q z i = n) ∧ (m = k ∨ (m < k ∧ fAt q m = 4 ∧ toldN q z m ≠ n)) from h _ (Nat.le_refl _)
  intro k
  induction k with
  | zero => exact fun _ => ⟨0, by omega, fun i hi => by omega, .inl rfl⟩
  | succ k ih =>
    intro hk
    obtain ⟨m, h1, h2, h3⟩ := ih (by omega)
    rcases h3 with rfl | ⟨h3, h4, h5⟩
    · by_cases hb : fAt q m = 4 ∧ toldN q z m ≠ n
      · exact ⟨m, by omega, h2, .inr ⟨by omega, hb.1, hb.2⟩⟩
      · refine ⟨m + 1, by omega, fun i hi hf => ?_, .inl rfl⟩
        by_cases e : i = m
        · subst e
          by_cases ht : toldN q z i = n
          · exact ht
          · exact absurd ⟨hf, ht⟩ hb
        · exact h2 i (by omega) hf
    · exact ⟨m, by omega, h2, .inr ⟨by omega, h4, h5⟩⟩
def RfNo (w : World) (e : Ending) (w' : World) : Prop := ∃ x A m c, e = .returned (.tuple #[.agg (pdC x), .slice A m c, .bool false]) ∧ Below w.heap.size w w'
theorem ahead_nil (w : World) : Calls Tryz.prog 112 #[.slice none 0 0] w fun e w' => e = .returned (.int .i64 8) ∧ w = w' := by
  go_enter Tryz.func112, Tryz.ntmps112
  go_wp2
  refine wp_loop_rounds 1 ?_
  rw [rounds_succ]
  go_wp2
  go_ret
  exact ⟨rfl, rfl⟩
set_option maxHeartbeats 4000000 in
set_option maxRecDepth 100000 in
theorem rf_short (A : Option Addr) (n c : Nat) (w : World) (h : n < 8) : Calls Tryz.prog 91 #[.slice A n c] w (RfNo w) := by
  have hn8 : (n : Int) < 8 := by omega
  obtain ⟨W1, hW1⟩ : ∃ W1, w.alloc (.cells (pdC pd0) 127) = W1 := ⟨_, rfl⟩
  obtain ⟨g, hg⟩ : ∃ g, w.heap.size = g := ⟨_, rfl⟩
  have HG1 : Hid (PdT 127 W1 g pd0) := Lib.hid (by rw [← hW1, ← hg]; exact heap_alloc_new w _)
  have HB1 : Hid (Below w.heap.size w W1) := Lib.hid (by rw [← hW1]; exact (bself w).alloc (Nat.le_refl _) _)
  have HW1 := Lib.hid hW1
  have HGG := Lib.hid hg
  clear hW1 hg
  go_enter Tryz.func91, Tryz.ntmps91
  go_wp2_with (first
    | (refine wpList_v (op := ⟨some 2, _, _, _, _, _⟩) rfl _ (alloc_P' _ _ rfl w W1 g HGG.out HW1.out) ?_)
    | (refine wpList_v rfl _ (build_0 _ _ rfl _) ?_)
    | (refine wpList_st rfl 127 (.tmp 2) (.tmp 14) rfl g 0 rfl (.agg (pdC pd0)) (pdC pd0) rfl rfl info_pdP (pdC_one _) HG1.out (Nat.le_of_ble_eq_true rfl) (pd_all _ _) ?_; intro w9 hst; refine Hid.out ?_))
  refine Lib.hid ?_
  have HG9 : Hid (PdT 127 w9 g pd0) := Lib.hid hst.1
  have HB9 : Hid (Below w.heap.size w w9) := Lib.hid (HB1.out.trans (hst.2.1 _ (by rw [HGG.out]; exact Nat.le_refl _)))
  clear hst
  go_wp2_with fail
  refine bodyPost_ret (results_rf rfl _ w9 g _ _ _ rfl HG9.out rfl rfl) rfl ⟨_, _, _, _, rfl, HB9.out⟩
set_option maxHeartbeats 4000000 in
set_option maxRecDepth 100000 in
theorem rf_kind (b off n c : Nat) (z : Nat → Int) (w : World) (hr : Row8 w b off n z) (hc : n ≤ c) (hcm : c ≤ maxLen) (h : 8 ≤ n) (hk : cls (z 4) = 5) : Calls Tryz.prog 91 #[.slice (some ⟨b, off, none⟩) n c] w (RfNo w) := by
  have hbw := hr.1
  have hzz := hr.2.2
  have HCM := Lib.hid hcm
  have hn8 : (8 : Int) ≤ (n : Int) := by omega
  have HF := Lib.hid (fields_none (z 4) hk)
  clear hk
  unfold maxLen at hcm
  obtain ⟨W1, hW1⟩ : ∃ W1, w.alloc (.cells (pdC pd0) 127) = W1 := ⟨_, rfl⟩
  obtain ⟨g, hg⟩ : ∃ g, w.heap.size = g := ⟨_, rfl⟩
  have HG1 : Hid (PdT 127 W1 g pd0) := Lib.hid (by rw [← hW1, ← hg]; exact heap_alloc_new w _)
  have HB1 : Hid (Below w.heap.size w W1) := Lib.hid (by rw [← hW1]; exact (bself w).alloc (Nat.le_refl _) _)
  have HR1 := Lib.hid (hr.below HB1.out hbw)
  have HW1 := Lib.hid hW1
  have HGG := Lib.hid hg
  rw [hg] at hbw
  clear hr hW1 hg
  go_enter Tryz.func91, Tryz.ntmps91
  have c4 : W1.cell? ⟨b, off + 4, none⟩ = some (.int .u8 (z 4)) := HR1.out.2.1 4 (by omega)
  go_wp2_with (first
    | (refine wpList_v (op := ⟨some 2, _, _, _, _, _⟩) rfl _ (alloc_P' _ _ rfl w W1 g HGG.out HW1.out) ?_)
    | (refine wpList_st rfl 5 (.tmp 18) (.tmp 17) rfl g 0 rfl (.int .u8 (z 4)) #[.int .u8 (z 4)] rfl rfl (by kernel_rfl) (by kernel_rfl) HG1.out (Nat.le_of_ble_eq_true rfl) (C' := pdC (kdP (z 4))) (by kernel_rfl) ?_; intro w2 hst2; refine Hid.out ?_))
  refine Lib.hid ?_
  have HG2 : Hid (PdT 127 w2 g (kdP (z 4))) := Lib.hid hst2.1
  have HB2 : Hid (Below w.heap.size w w2) := Lib.hid (HB1.out.trans (hst2.2.1 _ (by rw [HGG.out]; exact Nat.le_refl _)))
  have HR2 := Lib.hid (HR1.out.below (hst2.2.1 g (Nat.le_refl _)) hbw)
  have c0 : w2.cell? ⟨g, 0, none⟩ = some (.int .u8 (z 4)) := (HG2.out.cell 0).trans rfl
  clear hst2 HG1 HB1 HR1 c4
  go_wp2_with fail
  refine (HF.out _).mono ?_
  rintro e w3 ⟨rfl, rfl⟩
  go_wp2_with fail
  refine (ahead_nil _).mono ?_
  rintro e w3 ⟨rfl, rfl⟩
  go_wp2_with (first
    | (refine wpList_v rfl _ (build_0 _ _ rfl _) ?_)
    | (refine wpList_st rfl 127 (.tmp 2) (.tmp 42) rfl g 0 rfl (.agg (pdC pd0)) (pdC pd0) rfl rfl info_pdP (pdC_one _) HG2.out (Nat.le_of_ble_eq_true rfl) (pd_all _ _) ?_; intro w9 hst; refine Hid.out ?_))
  refine Lib.hid ?_
  have HG9 : Hid (PdT 127 w9 g pd0) := Lib.hid hst.1
  have HB9 : Hid (Below w.heap.size w w9) := Lib.hid (HB2.out.trans (hst.2.1 _ (by rw [HGG.out]; exact Nat.le_refl _)))
  clear hst
  go_wp2_with fail
  refine bodyPost_ret (results_rf rfl _ w9 g _ _ _ rfl HG9.out rfl rfl) rfl ⟨_, _, _, _, rfl, HB9.out⟩
set_option maxHeartbeats 4000000 in
set_option maxRecDepth 100000 in
theorem rf_head (b off n c : Nat) (z : Nat → Int) (w : World) (hr : Row8 w b off n z) (hc : n ≤ c) (hcm : c ≤ maxLen) (h : 8 ≤ n) (q : Nat) (hk : cls (z 4) = q) (hq : q ≤ 4) (hh : n < hdN q) : Calls Tryz.prog 91 #[.slice (some ⟨b, off, none⟩) n c] w (RfNo w) := by
  have hbw := hr.1
  have hzz := hr.2.2
  have HCM := Lib.hid hcm
  have hn8 : (8 : Int) ≤ (n : Int) := by omega
  have HF := Lib.hid (fields_any (z 4) q hk hq)
  have hlen := fl_len q hq
  have hhd := hdN_bd q hq
  obtain ⟨k1, hk1⟩ : ∃ k1, (flC q).length = k1 := ⟨_, rfl⟩
  obtain ⟨H, hH⟩ : ∃ H, hdN q = H := ⟨_, rfl⟩
  rw [hk1] at hlen HF
  rw [hH] at hhd
  have HN := Lib.hid hk1
  have HH := Lib.hid hH
  have HK := Lib.hid hk
  have HQ := Lib.hid hq
  have hn0 : ((k1 : Int) == 0) = false := by simp; omega
  rw [hH] at hh
  have hhI : (n : Int) < (H : Int) := by omega
  clear hk hq hk1 hH
  unfold maxLen at hcm
  obtain ⟨W1, hW1⟩ : ∃ W1, w.alloc (.cells (pdC pd0) 127) = W1 := ⟨_, rfl⟩
  obtain ⟨g, hg⟩ : ∃ g, w.heap.size = g := ⟨_, rfl⟩
  have HG1 : Hid (PdT 127 W1 g pd0) := Lib.hid (by rw [← hW1, ← hg]; exact heap_alloc_new w _)
  have HB1 : Hid (Below w.heap.size w W1) := Lib.hid (by rw [← hW1]; exact (bself w).alloc (Nat.le_refl _) _)
  have HR1 := Lib.hid (hr.below HB1.out hbw)
  have HW1 := Lib.hid hW1
  have HGG := Lib.hid hg
  rw [hg] at hbw
  clear hr hW1 hg
  go_enter Tryz.func91, Tryz.ntmps91
  have c4 : W1.cell? ⟨b, off + 4, none⟩ = some (.int .u8 (z 4)) := HR1.out.2.1 4 (by omega)
  go_wp2_with (first
    | (refine wpList_v (op := ⟨some 2, _, _, _, _, _⟩) rfl _ (alloc_P' _ _ rfl w W1 g HGG.out HW1.out) ?_)
    | (refine wpList_st rfl 5 (.tmp 18) (.tmp 17) rfl g 0 rfl (.int .u8 (z 4)) #[.int .u8 (z 4)] rfl rfl (by kernel_rfl) (by kernel_rfl) HG1.out (Nat.le_of_ble_eq_true rfl) (C' := pdC (kdP (z 4))) (by kernel_rfl) ?_; intro w2 hst2; refine Hid.out ?_))
  refine Lib.hid ?_
  have HG2 : Hid (PdT 127 w2 g (kdP (z 4))) := Lib.hid hst2.1
  have HB2 : Hid (Below w.heap.size w w2) := Lib.hid (HB1.out.trans (hst2.2.1 _ (by rw [HGG.out]; exact Nat.le_refl _)))
  have HR2 := Lib.hid (HR1.out.below (hst2.2.1 g (Nat.le_refl _)) hbw)
  have c0 : w2.cell? ⟨g, 0, none⟩ = some (.int .u8 (z 4)) := (HG2.out.cell 0).trans rfl
  clear hst2 HG1 HB1 HR1 c4
  go_wp2_with fail
  refine (HF.out _).mono ?_
  rintro e w3 ⟨rfl, hf3, hb3⟩
  have HFl3 : Hid (FlAt w3 w2.heap.size q) := Lib.hid hf3
  have HG3 := Lib.hid (HG2.out.below hb3 HG2.out.lt)
  have HR3 := Lib.hid (HR2.out.below hb3 HR2.out.1)
  have HB3 := Lib.hid (HB2.out.trans (hb3.mono HB2.out.size))
  have hgg : g < w2.heap.size := HG2.out.lt
  obtain ⟨g1, hg1⟩ : ∃ g1, w2.heap.size = g1 := ⟨_, rfl⟩
  rw [hg1] at HFl3 hgg ⊢
  clear hf3 hb3 hg1 c0
  have HAH := Lib.hid (ahead_any g1 q HQ.out w3 HFl3.out)
  rw [HN.out, HH.out] at HAH
  go_wp2_with fail
  refine HAH.out.mono ?_
  rintro e w4 ⟨rfl, rfl⟩
  go_wp2_with (first
    | (refine wpList_v rfl _ (build_0 _ _ rfl _) ?_)
    | (refine wpList_st rfl 127 (.tmp 2) (.tmp 42) rfl g 0 rfl (.agg (pdC pd0)) (pdC pd0) rfl rfl info_pdP (pdC_one _) HG3.out (Nat.le_of_ble_eq_true rfl) (pd_all _ _) ?_; intro w9 hst; refine Hid.out ?_))
  refine Lib.hid ?_
  have HG9 : Hid (PdT 127 w9 g pd0) := Lib.hid hst.1
  have HB9 : Hid (Below w.heap.size w w9) := Lib.hid (HB3.out.trans (hst.2.1 _ (by rw [HGG.out]; exact Nat.le_refl _)))
  clear hst
  go_wp2_with fail
  refine bodyPost_ret (results_rf rfl _ w9 g _ _ _ rfl HG9.out rfl rfl) rfl ⟨_, _, _, _, rfl, HB9.out⟩
set_option maxHeartbeats 4000000 in
set_option maxRecDepth 100000 in
theorem rf_starts (b off n c : Nat) (z : Nat → Int) (w : World) (hr : Row8 w b off n z) (hc : n ≤ c) (hcm : c ≤ maxLen) (h : 8 ≤ n) (q : Nat) (hk : cls (z 4) = q) (hq : q ≤ 4) (hh : hdN q ≤ n) (hs : eqB z (headZ (z 4) (hdN q)) 8 = false) : Calls Tryz.prog 91 #[.slice (some ⟨b, off, none⟩) n c] w (RfNo w) := by
  have hbw := hr.1
  have hzz := hr.2.2
  have HCM := Lib.hid hcm
  have hn8 : (8 : Int) ≤ (n : Int) := by omega
  have HF := Lib.hid (fields_any (z 4) q hk hq)
  have hlen := fl_len q hq
  have hhd := hdN_bd q hq
  obtain ⟨k1, hk1⟩ : ∃ k1, (flC q).length = k1 := ⟨_, rfl⟩
  obtain ⟨H, hH⟩ : ∃ H, hdN q = H := ⟨_, rfl⟩
  rw [hk1] at hlen HF
  rw [hH] at hhd
  have HN := Lib.hid hk1
  have HH := Lib.hid hH
  have HK := Lib.hid hk
  have HQ := Lib.hid hq
  have hn0 : ((k1 : Int) == 0) = false := by simp; omega
  rw [hH] at hh hs
  have hhI : (H : Int) ≤ (n : Int) := by omega
  have HS := Lib.hid hs
  clear hk hq hk1 hH hs
  unfold maxLen at hcm
  obtain ⟨W1, hW1⟩ : ∃ W1, w.alloc (.cells (pdC pd0) 127) = W1 := ⟨_, rfl⟩
  obtain ⟨g, hg⟩ : ∃ g, w.heap.size = g := ⟨_, rfl⟩
  have HG1 : Hid (PdT 127 W1 g pd0) := Lib.hid (by rw [← hW1, ← hg]; exact heap_alloc_new w _)
  have HB1 : Hid (Below w.heap.size w W1) := Lib.hid (by rw [← hW1]; exact (bself w).alloc (Nat.le_refl _) _)
  have HR1 := Lib.hid (hr.below HB1.out hbw)
  have HW1 := Lib.hid hW1
  have HGG := Lib.hid hg
  rw [hg] at hbw
  clear hr hW1 hg
  go_enter Tryz.func91, Tryz.ntmps91
  have c4 : W1.cell? ⟨b, off + 4, none⟩ = some (.int .u8 (z 4)) := HR1.out.2.1 4 (by omega)
  go_wp2_with (first
    | (refine wpList_v (op := ⟨some 2, _, _, _, _, _⟩) rfl _ (alloc_P' _ _ rfl w W1 g HGG.out HW1.out) ?_)
    | (refine wpList_st rfl 5 (.tmp 18) (.tmp 17) rfl g 0 rfl (.int .u8 (z 4)) #[.int .u8 (z 4)] rfl rfl (by kernel_rfl) (by kernel_rfl) HG1.out (Nat.le_of_ble_eq_true rfl) (C' := pdC (kdP (z 4))) (by kernel_rfl) ?_; intro w2 hst2; refine Hid.out ?_))
  refine Lib.hid ?_
  have HG2 : Hid (PdT 127 w2 g (kdP (z 4))) := Lib.hid hst2.1
  have HB2 : Hid (Below w.heap.size w w2) := Lib.hid (HB1.out.trans (hst2.2.1 _ (by rw [HGG.out]; exact Nat.le_refl _)))
  have HR2 := Lib.hid (HR1.out.below (hst2.2.1 g (Nat.le_refl _)) hbw)
  have c0 : w2.cell? ⟨g, 0, none⟩ = some (.int .u8 (z 4)) := (HG2.out.cell 0).trans rfl
  clear hst2 HG1 HB1 HR1 c4
  go_wp2_with fail
  refine (HF.out _).mono ?_
  rintro e w3 ⟨rfl, hf3, hb3⟩
  have HFl3 : Hid (FlAt w3 w2.heap.size q) := Lib.hid hf3
  have HG3 := Lib.hid (HG2.out.below hb3 HG2.out.lt)
  have HR3 := Lib.hid (HR2.out.below hb3 HR2.out.1)
  have HB3 := Lib.hid (HB2.out.trans (hb3.mono HB2.out.size))
  have hgg : g < w2.heap.size := HG2.out.lt
  obtain ⟨g1, hg1⟩ : ∃ g1, w2.heap.size = g1 := ⟨_, rfl⟩
  rw [hg1] at HFl3 hgg ⊢
  clear hf3 hb3 hg1 c0
  have HAH := Lib.hid (ahead_any g1 q HQ.out w3 HFl3.out)
  rw [HN.out, HH.out] at HAH
  go_wp2_with fail
  refine HAH.out.mono ?_
  rintro e w4 ⟨rfl, rfl⟩
  have c0 : w3.cell? ⟨g, 0, none⟩ = some (.int .u8 (z 4)) := (HG3.out.cell 0).trans rfl
  have HHD := Lib.hid (head_any (z 4) H (hzz 4) (by omega))
  go_wp2_with fail
  refine (HHD.out _).mono ?_
  rintro e w5 ⟨rfl, ho5, hb5⟩
  have HG5 := Lib.hid (HG3.out.below hb5 HG3.out.lt)
  have HR5 := Lib.hid (HR3.out.below hb5 HR3.out.1)
  have HFl5 := Lib.hid (HFl3.out.below hb5)
  have HB5 := Lib.hid (HB3.out.trans (hb5.mono HB3.out.size))
  have HP := Lib.hid (starts_any b off n c w3.heap.size 8 z (headZ (z 4) H) _ w5 HR5.out ho5.row HS.out (by omega) hc hcm)
  have hg15 : g1 < w5.heap.size := (Array.getElem?_eq_some_iff.1 HFl5.out).1
  clear ho5 hb5 c0
  go_wp2_with fail
  refine HP.out.mono ?_
  rintro e w6 ⟨rfl, rfl⟩
  go_wp2_with (first
    | (refine wpList_v rfl _ (build_0 _ _ rfl _) ?_)
    | (refine wpList_st rfl 127 (.tmp 2) (.tmp 42) rfl g 0 rfl (.agg (pdC pd0)) (pdC pd0) rfl rfl info_pdP (pdC_one _) HG5.out (Nat.le_of_ble_eq_true rfl) (pd_all _ _) ?_; intro w9 hst; refine Hid.out ?_))
  refine Lib.hid ?_
  have HG9 : Hid (PdT 127 w9 g pd0) := Lib.hid hst.1
  have HB9 : Hid (Below w.heap.size w w9) := Lib.hid (HB5.out.trans (hst.2.1 _ (by rw [HGG.out]; exact Nat.le_refl _)))
  clear hst
  go_wp2_with fail
  refine bodyPost_ret (results_rf rfl _ w9 g _ _ _ rfl HG9.out rfl rfl) rfl ⟨_, _, _, _, rfl, HB9.out⟩
end Go.Proofs.YtkiaijmhoikdiaaGreat

/- pdu.readFields: the fields. Each theorem states its conditions. -/
namespace Go.Proofs.YtkiaijmhoikdiaaGreat
open Go.RowKit
set_option linter.unusedVariables false

theorem run_from (W : World) (b off n c l : Nat) (h1 : l ≤ n) (h2 : n ≤ c) (hcm : c ≤ 9223372036854775807) :
    (Instr.sliceAt 40 (.slice (some ⟨b, off, none⟩) n c) (some (.int .i64 (l : Int))) none none).run Tryz.prog W = .ok (.slice (if c = l then some ⟨b, off, none⟩ else some ⟨b, off + l, none⟩) (n - l) (c - l)) W := by
  have hu := run_underlying (w := W) Tryz.underlying40
  obtain ⟨i0, hi, hz0, hz1, hz2⟩ := info_parts info_u8
  have g2 : (0 : Int) ≤ (l : Int) ∧ (l : Int) ≤ (n : Int) := by omega
  by_cases hc : c = l
  · simp [Instr.sliceAt, Instr.slice, Instr.sliceBounds, Instr.sliceBound, hu, go_sem, g2, Addr.add, hc]
    intro h3; omega
  · simp [Instr.sliceAt, Instr.slice, Instr.sliceBounds, Instr.sliceBound, hu, go_sem, g2, Addr.add, hc]
    rw [if_pos h1]
    by_cases h0 : l = 0
    · subst h0; simp
    · simp [h0]
theorem slice_op (o : Oper) (e : Operand → Value) (x y : Operand) (ho : o.op = .slice 40 x (some y) none none) (vx vy : Value) (hx : e x = vx) (hy : e y = vy) (v : Value) {W : World} (h : (Instr.sliceAt 40 vx (some vy) none none).run Tryz.prog W = .ok v W) :
    (execOp e o).run Tryz.prog W = .ok (.value v) W := by
  unfold execOp
  simp [ho, hx, hy, h, Result.andThen]
def RfOk (w : World) (b off n c q : Nat) (z : Nat → Int) (r : Bool) (e : Ending) (w' : World) : Prop :=
  e = .returned (.tuple #[.agg (pdC (rdP q z)), .slice (if c = hdN q then some ⟨b, off, none⟩ else some ⟨b, off + hdN q, none⟩) (n - hdN q) (c - hdN q), .bool r]) ∧ Below w.heap.size w w'
set_option maxHeartbeats 4000000 in
set_option maxRecDepth 100000 in
theorem rf_ok (b off n c : Nat) (z : Nat → Int) (w : World) (hr : Row8 w b off n z) (hc : n ≤ c) (hcm : c ≤ maxLen) (h : 8 ≤ n) (q : Nat) (hk : cls (z 4) = q) (hq : q ≤ 4) (hh : hdN q ≤ n) (hn2 : n ≤ 1492) (hs : eqB z (headZ (z 4) (hdN q)) 8 = true) (m : Nat) (hm : LEndsF q z n m) (hend : m = (flC q).length) (r : Bool) (hft : fitP (rdP q z) q = r) : Calls Tryz.prog 91 #[.slice (some ⟨b, off, none⟩) n c] w (RfOk w b off n c q z r) := by
  have hbw := hr.1
  have hzz := hr.2.2
  have HCM := Lib.hid hcm
  have hn8 : (8 : Int) ≤ (n : Int) := by omega
  have HF := Lib.hid (fields_any (z 4) q hk hq)
  have hlen := fl_len q hq
  have hhd := hdN_bd q hq
  obtain ⟨k1, hk1⟩ : ∃ k1, (flC q).length = k1 := ⟨_, rfl⟩
  obtain ⟨H, hH⟩ : ∃ H, hdN q = H := ⟨_, rfl⟩
  rw [hk1] at hlen HF
  rw [hH] at hhd
  have HN := Lib.hid hk1
  have HH := Lib.hid hH
  have HK := Lib.hid hk
  have HQ := Lib.hid hq
  have hn0 : ((k1 : Int) == 0) = false := by simp; omega
  have HM := Lib.hid hm
  have hmk := hm.1
  rw [hk1] at hmk
  rw [hH] at hh hs
  have hhI : (H : Int) ≤ (n : Int) := by omega
  have HS := Lib.hid hs
  have hd8 : decide ((n : Int) < 8) = false := decide_eq_false (by omega)
  have hdH : decide (n < H) = false := decide_eq_false (by omega)
  have HFT := Lib.hid hft
  clear hft
  rw [hk1] at hend
  clear hk hq hk1 hH hs hm
  unfold maxLen at hcm
  obtain ⟨W1, hW1⟩ : ∃ W1, w.alloc (.cells (pdC pd0) 127) = W1 := ⟨_, rfl⟩
  obtain ⟨g, hg⟩ : ∃ g, w.heap.size = g := ⟨_, rfl⟩
  have HG1 : Hid (PdT 127 W1 g pd0) := Lib.hid (by rw [← hW1, ← hg]; exact heap_alloc_new w _)
  have HB1 : Hid (Below w.heap.size w W1) := Lib.hid (by rw [← hW1]; exact (bself w).alloc (Nat.le_refl _) _)
  have HR1 := Lib.hid (hr.below HB1.out hbw)
  have HW1 := Lib.hid hW1
  have HGG := Lib.hid hg
  rw [hg] at hbw
  clear hr hW1 hg
  go_enter Tryz.func91, Tryz.ntmps91
  have c4 : W1.cell? ⟨b, off + 4, none⟩ = some (.int .u8 (z 4)) := HR1.out.2.1 4 (by omega)
  go_wp2_with (first
    | (refine wpList_v (op := ⟨some 2, _, _, _, _, _⟩) rfl _ (alloc_P' _ _ rfl w W1 g HGG.out HW1.out) ?_)
    | (refine wpList_st rfl 5 (.tmp 18) (.tmp 17) rfl g 0 rfl (.int .u8 (z 4)) #[.int .u8 (z 4)] rfl rfl (by kernel_rfl) (by kernel_rfl) HG1.out (Nat.le_of_ble_eq_true rfl) (C' := pdC (kdP (z 4))) (by kernel_rfl) ?_; intro w2 hst2; refine Hid.out ?_))
  refine Lib.hid ?_
  have HG2 : Hid (PdT 127 w2 g (kdP (z 4))) := Lib.hid hst2.1
  have HB2 : Hid (Below w.heap.size w w2) := Lib.hid (HB1.out.trans (hst2.2.1 _ (by rw [HGG.out]; exact Nat.le_refl _)))
  have HR2 := Lib.hid (HR1.out.below (hst2.2.1 g (Nat.le_refl _)) hbw)
  have c0 : w2.cell? ⟨g, 0, none⟩ = some (.int .u8 (z 4)) := (HG2.out.cell 0).trans rfl
  clear hst2 HG1 HB1 HR1 c4
  go_wp2_with fail
  refine (HF.out _).mono ?_
  rintro e w3 ⟨rfl, hf3, hb3⟩
  have HFl3 : Hid (FlAt w3 w2.heap.size q) := Lib.hid hf3
  have HG3 := Lib.hid (HG2.out.below hb3 HG2.out.lt)
  have HR3 := Lib.hid (HR2.out.below hb3 HR2.out.1)
  have HB3 := Lib.hid (HB2.out.trans (hb3.mono HB2.out.size))
  have hgg : g < w2.heap.size := HG2.out.lt
  obtain ⟨g1, hg1⟩ : ∃ g1, w2.heap.size = g1 := ⟨_, rfl⟩
  rw [hg1] at HFl3 hgg ⊢
  clear hf3 hb3 hg1 c0
  have HAH := Lib.hid (ahead_any g1 q HQ.out w3 HFl3.out)
  rw [HN.out, HH.out] at HAH
  go_wp2_with fail
  refine HAH.out.mono ?_
  rintro e w4 ⟨rfl, rfl⟩
  have c0 : w3.cell? ⟨g, 0, none⟩ = some (.int .u8 (z 4)) := (HG3.out.cell 0).trans rfl
  have HHD := Lib.hid (head_any (z 4) H (hzz 4) (by omega))
  go_wp2_with fail
  refine (HHD.out _).mono ?_
  rintro e w5 ⟨rfl, ho5, hb5⟩
  have HG5 := Lib.hid (HG3.out.below hb5 HG3.out.lt)
  have HR5 := Lib.hid (HR3.out.below hb5 HR3.out.1)
  have HFl5 := Lib.hid (HFl3.out.below hb5)
  have HB5 := Lib.hid (HB3.out.trans (hb5.mono HB3.out.size))
  have HP := Lib.hid (starts_any b off n c w3.heap.size 8 z (headZ (z 4) H) _ w5 HR5.out ho5.row HS.out (by omega) hc hcm)
  have hg15 : g1 < w5.heap.size := (Array.getElem?_eq_some_iff.1 HFl5.out).1
  clear ho5 hb5 c0
  go_wp2_with fail
  refine HP.out.mono ?_
  rintro e w6 ⟨rfl, rfl⟩
  go_wp2_with fail
  go_loopw [7, 45] (fun at_ i wr => ∃ k : Nat, k ≤ m ∧ i = .int .i64 k ∧ at_ = .int .i64 (accN q k : Nat) ∧ Hid (PdT 127 wr g (rdF q z k)) ∧ Hid (FlAt wr g1 q) ∧ Hid (Row8 wr b off n z) ∧ Hid (Below w.heap.size w wr)) (fun _ i _ => k1 - (intOf i).toNat)
  case atStart => exact ⟨0, Nat.zero_le _, rfl, rfl, HG5, HFl5, HR5, HB5⟩
  case round =>
    clear HG5 HFl5 HR5 HB5 HG3 HFl3 HR3 HB3 HG2 HR2 HB2
    obtain ⟨k, hk, rfl, rfl, HG, HFl, HR, HB⟩ := hrel
    by_cases hlt : k < k1
    · have ci := HFl.out.cell (i := k) (by rw [HN.out]; exact hlt)
      have hf := fAt_le q k HQ.out
      have hah := accN_hd q k (by rw [HN.out]; exact hlt)
      have hfz := fsz_bd (fAt q k)
      have hab := accN_bd q k
      have HA1 : Hid (accN q (k + 1) = accN q k + fsz (fAt q k)) := Lib.hid rfl
      have HT : Hid (k < m → fAt q k = 4 → (numZ (fun j => z (accN q k + j)) 0 2).toNat = n) := Lib.hid (fun h1 h2 => HM.out.2.1 k h1 h2)
      have HT2 : Hid (k = m → fAt q k = 4 ∧ (numZ (fun j => z (accN q k + j)) 0 2).toNat ≠ n) := Lib.hid (fun e => by
        rcases HM.out.2.2 with h | h
        · rw [HN.out] at h; omega
        · rw [e]; exact h.2)
      have HRD : Hid (rdF q z (k + 1) = getF (rdF q z k) (fun j => z (accN q k + j)) (fAt q k)) := Lib.hid rfl
      rw [HH.out] at hah
      obtain ⟨f, hf'⟩ : ∃ f, fAt q k = f := ⟨_, rfl⟩
      rw [hf'] at ci hf hah hfz HA1 HT HT2 HRD
      obtain ⟨an, han⟩ : ∃ an, accN q k = an := ⟨_, rfl⟩
      rw [han] at hah hab HA1 HT HT2 HRD ⊢
      clear hf' han
      have HSZ := Lib.hid (size_any f hf)
      have HRow := Lib.hid (HR.out.shift an (fsz f) (by omega))
      have HGet := Lib.hid (get_any (rdF q z k) (fun j => z (an + j)) g b (off + an) (c - an) f hf wr HG.out HRow.out (by omega) (by have := HCM.out; omega))
      have hfzf : fsz f ≤ 8 := hfz.2
      obtain ⟨fs, hfs⟩ : ∃ fs, fsz f = fs := ⟨_, rfl⟩
      have HFS := Lib.hid hfs
      rw [hfs] at hah hfz HA1 HSZ HRow HGet hfzf
      clear hfs
      have e1 : ¬ c = an := by omega
      have e2 : ¬ (c : Int) < (an : Int) := by omega
      go_wp2_with fail
      refine (HSZ.out _).mono ?_
      rintro e w7 ⟨rfl, rfl⟩
      by_cases hkm : k < m
      · have hg1l : g1 < wr.heap.size := (Array.getElem?_eq_some_iff.1 HFl.out).1
        by_cases hf4 : f = 4
        · have hnum := HT.out hkm hf4
          obtain rfl : fs = 2 := by rw [← HFS.out, hf4]; rfl
          have HGN := Lib.hid (getNumber_any b (off + an) 2 (c - an) (fun j => z (an + j)) wr HRow.out (by omega) (by omega) (by omega) (by have := HCM.out; omega))
          rw [hnum] at HGN
          have h4 : ((f : Int) == 4) = true := by simp; omega
          have hw := wrapU n (by omega)
          clear hnum hf4
          go_wp2_with fail
          simp only [Nat.add_sub_cancel_left]
          refine HGN.out.mono ?_
          rintro e w7 ⟨rfl, rfl⟩
          go_wp2_with fail
          refine HGet.out.mono ?_
          rintro e w8 ⟨rfl, hg8, hb8, ho8⟩
          have HG8 : Hid (PdT 127 w8 g (rdF q z (k + 1))) := Lib.hid (by rw [HRD.out]; exact hg8)
          have HFl8 : Hid (FlAt w8 g1 q) := Lib.hid ((ho8 g1 hg1l (by omega)).trans HFl.out)
          have HR8 := Lib.hid (HR.out.below hb8 hbw)
          have HB8 : Hid (Below w.heap.size w w8) := Lib.hid (HB.out.trans (by rw [HGG.out]; exact hb8))
          clear hg8 hb8 ho8
          go_wp2_with fail
          go_roundw
          case rel => exact ⟨k + 1, by omega, by go_num, by rw [HA1.out]; go_num, HG8, HFl8, HR8, HB8⟩
          case measure => simp only [intOf]; omega
        · have h4 : ((f : Int) == 4) = false := by simp; omega
          clear hf4
          go_wp2_with fail
          simp only [Nat.add_sub_cancel_left]
          refine HGet.out.mono ?_
          rintro e w8 ⟨rfl, hg8, hb8, ho8⟩
          have HG8 : Hid (PdT 127 w8 g (rdF q z (k + 1))) := Lib.hid (by rw [HRD.out]; exact hg8)
          have HFl8 : Hid (FlAt w8 g1 q) := Lib.hid ((ho8 g1 hg1l (by omega)).trans HFl.out)
          have HR8 := Lib.hid (HR.out.below hb8 hbw)
          have HB8 : Hid (Below w.heap.size w w8) := Lib.hid (HB.out.trans (by rw [HGG.out]; exact hb8))
          clear hg8 hb8 ho8
          go_wp2_with fail
          go_roundw
          case rel => exact ⟨k + 1, by omega, by go_num, by rw [HA1.out]; go_num, HG8, HFl8, HR8, HB8⟩
          case measure => simp only [intOf]; omega
      · exfalso; omega
    · obtain rfl : k = k1 := by omega
      have HGF : Hid (PdT 127 wr g (rdP q z)) := Lib.hid (by unfold rdP; rw [HN.out]; exact HG.out)
      have HAL := Lib.hid (allFit_any (rdP q z) g g1 q HQ.out wr.drew HGF.out HFl.out)
      rw [HN.out, HFT.out] at HAL
      have eH1 : ¬ (n : Int) < (H : Int) := by omega
      have eH2 : (H : Int) ≤ (c : Int) := by omega
      have HRUN := Lib.hid (fun W => run_from W b off n c H (by omega) hc hcm)
      have HHH2 : Hid (hdN q = H) := HH
      obtain ⟨A', hA'⟩ : ∃ A' : Option Addr, (if c = H then some ⟨b, off, none⟩ else some ⟨b, off + H, none⟩) = A' := ⟨_, rfl⟩
      rw [hA'] at HRUN
      have HA' := Lib.hid hA'
      clear hA' HG
      obtain ⟨x, hx⟩ : ∃ x, rdP q z = x := ⟨_, rfl⟩
      rw [hx] at HGF
      have HXX := Lib.hid hx
      clear hx
      go_wp2_with fail
      refine wp_region_held_drew (S := fun w' => PdT 127 w' g x) (by kernel_rfl) HGF.out (fun hS0 => ?_)
      refine tL (i := 0) (some 75) 127 (.tmp 2) g 0 (pdC x) _ rfl rfl rfl rfl (fun w' hS => hS.all) Tryz.underlying127 rfl info_pdP hS0 ?_
      simp only [Act.put, pA, pB, pC]
      refine tY (i := 1) (some 76) (v := .slice (some ⟨b, off, none⟩) n c) rfl rfl (fun w' hS => by go_simp) hS0 ?_
      simp only [Act.put, pA, pB, pC]
      refine tY (i := 2) (some 77) (v := .int .i64 (H : Int)) rfl rfl (fun w' hS => by go_simp) hS0 ?_
      simp only [Act.put, pA, pB, pC]
      refine tY (i := 3) (some 78) (v := .slice A' (n - H) (c - H)) rfl rfl (fun w' hS => by exact slice_op _ _ (.tmp 76) (.tmp 77) rfl (.slice (some ⟨b, off, none⟩) n c) (.int .i64 (H : Int)) rfl rfl _ (HRUN.out w')) hS0 ?_
      simp only [Act.put, pA, pB, pC]
      refine tY (i := 4) (some 79) (v := .slice (some ⟨g1, 0, none⟩) k k) rfl rfl (fun w' hS => by go_simp) hS0 ?_
      simp only [Act.put, pA, pB, pC]
      refine takeC (i := 5) (some 80) 118 #[.pointer (some ⟨g, 0, none⟩), .slice (some ⟨g1, 0, none⟩) k k] (.bool r) (R := fun w' => w' = wr.drew) rfl rfl (by kernel_rfl) (by rfl) (by go_simp) (HAL.out.mono fun e w' h => ⟨h.1, h.2.symm⟩) (fun w' h => by rw [h]; exact hS0) (fun w2' h2 hS2 => ?_)
      subst h2
      simp only [Act.put, pA, pB, pC]
      refine takeSt (i := 6) 127 (.tmp 2) (.tmp 75) g 0 (.agg (pdC x)) (pdC x) (pdC x) rfl rfl (by kernel_rfl) (by rfl) rfl rfl rfl rfl info_pdP (pdC_one _) HGF.out (Nat.le_of_ble_eq_true rfl) (pd_all _ _) (fun w9 hst => ⟨hst.1, ?_⟩)
      have hS9 : PdT 127 w9 g x := hst.1
      refine tY (i := 7) (some 3) (v := .slice A' (n - H) (c - H)) rfl rfl (fun w' hS => by go_simp) hS9 ?_
      simp only [Act.put, pA, pB, pC]
      refine tY (i := 8) (some 4) (v := .bool r) rfl rfl (fun w' hS => by go_simp) hS9 ?_
      simp only [Act.put, pA, pB, pC]
      refine wpAnyH_done (by kernel_rfl) ?_ _
      have HS9 := Lib.hid hS9
      have HB9 : Hid (Below w.heap.size w w9) := Lib.hid (HB.out.drew.trans (hst.2.1 _ (by rw [HGG.out]; exact Nat.le_refl _)))
      have HE : Hid (RfOk w b off n c q z r (.returned (.tuple #[.agg (pdC x), .slice A' (n - H) (c - H), .bool r])) w9) := Lib.hid ⟨by rw [HXX.out, HHH2.out, HA'.out], HB9.out⟩
      clear hst hS9 hS2 hS0
      go_wp2_with fail
      exact bodyPost_ret (results_rf (u := 3) (v := 4) rfl _ w9 g _ (.slice A' (n - H) (c - H)) (.bool r) rfl HS9.out rfl rfl) rfl HE.out

end Go.Proofs.YtkiaijmhoikdiaaGreat

/- pdu.readFields: another length is told. Each theorem states its conditions. -/
namespace Go.Proofs.YtkiaijmhoikdiaaGreat
open Go.RowKit
set_option linter.unusedVariables false

set_option maxHeartbeats 4000000 in
set_option maxRecDepth 100000 in
theorem rf_bad (b off n c : Nat) (z : Nat → Int) (w : World) (hr : Row8 w b off n z) (hc : n ≤ c) (hcm : c ≤ maxLen) (h : 8 ≤ n) (q : Nat) (hk : cls (z 4) = q) (hq : q ≤ 4) (hh : hdN q ≤ n) (hn2 : n ≤ 1492) (hs : eqB z (headZ (z 4) (hdN q)) 8 = true) (m : Nat) (hm : LEndsF q z n m) (hlt : m < (flC q).length) : Calls Tryz.prog 91 #[.slice (some ⟨b, off, none⟩) n c] w (RfNo w) := by
  have hbw := hr.1
  have hzz := hr.2.2
  have HCM := Lib.hid hcm
  have hn8 : (8 : Int) ≤ (n : Int) := by omega
  have HF := Lib.hid (fields_any (z 4) q hk hq)
  have hlen := fl_len q hq
  have hhd := hdN_bd q hq
  obtain ⟨k1, hk1⟩ : ∃ k1, (flC q).length = k1 := ⟨_, rfl⟩
  obtain ⟨H, hH⟩ : ∃ H, hdN q = H := ⟨_, rfl⟩
  rw [hk1] at hlen HF
  rw [hH] at hhd
  have HN := Lib.hid hk1
  have HH := Lib.hid hH
  have HK := Lib.hid hk
  have HQ := Lib.hid hq
  have hn0 : ((k1 : Int) == 0) = false := by simp; omega
  have HM := Lib.hid hm
  have hmk := hm.1
  rw [hk1] at hmk
  rw [hH] at hh hs
  have hhI : (H : Int) ≤ (n : Int) := by omega
  have HS := Lib.hid hs
  have hd8 : decide ((n : Int) < 8) = false := decide_eq_false (by omega)
  have hdH : decide (n < H) = false := decide_eq_false (by omega)
  rw [hk1] at hlt
  clear hk hq hk1 hH hs hm
  unfold maxLen at hcm
  obtain ⟨W1, hW1⟩ : ∃ W1, w.alloc (.cells (pdC pd0) 127) = W1 := ⟨_, rfl⟩
  obtain ⟨g, hg⟩ : ∃ g, w.heap.size = g := ⟨_, rfl⟩
  have HG1 : Hid (PdT 127 W1 g pd0) := Lib.hid (by rw [← hW1, ← hg]; exact heap_alloc_new w _)
  have HB1 : Hid (Below w.heap.size w W1) := Lib.hid (by rw [← hW1]; exact (bself w).alloc (Nat.le_refl _) _)
  have HR1 := Lib.hid (hr.below HB1.out hbw)
  have HW1 := Lib.hid hW1
  have HGG := Lib.hid hg
  rw [hg] at hbw
  clear hr hW1 hg
  go_enter Tryz.func91, Tryz.ntmps91
  have c4 : W1.cell? ⟨b, off + 4, none⟩ = some (.int .u8 (z 4)) := HR1.out.2.1 4 (by omega)
  go_wp2_with (first
    | (refine wpList_v (op := ⟨some 2, _, _, _, _, _⟩) rfl _ (alloc_P' _ _ rfl w W1 g HGG.out HW1.out) ?_)
    | (refine wpList_st rfl 5 (.tmp 18) (.tmp 17) rfl g 0 rfl (.int .u8 (z 4)) #[.int .u8 (z 4)] rfl rfl (by kernel_rfl) (by kernel_rfl) HG1.out (Nat.le_of_ble_eq_true rfl) (C' := pdC (kdP (z 4))) (by kernel_rfl) ?_; intro w2 hst2; refine Hid.out ?_))
  refine Lib.hid ?_
  have HG2 : Hid (PdT 127 w2 g (kdP (z 4))) := Lib.hid hst2.1
  have HB2 : Hid (Below w.heap.size w w2) := Lib.hid (HB1.out.trans (hst2.2.1 _ (by rw [HGG.out]; exact Nat.le_refl _)))
  have HR2 := Lib.hid (HR1.out.below (hst2.2.1 g (Nat.le_refl _)) hbw)
  have c0 : w2.cell? ⟨g, 0, none⟩ = some (.int .u8 (z 4)) := (HG2.out.cell 0).trans rfl
  clear hst2 HG1 HB1 HR1 c4
  go_wp2_with fail
  refine (HF.out _).mono ?_
  rintro e w3 ⟨rfl, hf3, hb3⟩
  have HFl3 : Hid (FlAt w3 w2.heap.size q) := Lib.hid hf3
  have HG3 := Lib.hid (HG2.out.below hb3 HG2.out.lt)
  have HR3 := Lib.hid (HR2.out.below hb3 HR2.out.1)
  have HB3 := Lib.hid (HB2.out.trans (hb3.mono HB2.out.size))
  have hgg : g < w2.heap.size := HG2.out.lt
  obtain ⟨g1, hg1⟩ : ∃ g1, w2.heap.size = g1 := ⟨_, rfl⟩
  rw [hg1] at HFl3 hgg ⊢
  clear hf3 hb3 hg1 c0
  have HAH := Lib.hid (ahead_any g1 q HQ.out w3 HFl3.out)
  rw [HN.out, HH.out] at HAH
  go_wp2_with fail
  refine HAH.out.mono ?_
  rintro e w4 ⟨rfl, rfl⟩
  have c0 : w3.cell? ⟨g, 0, none⟩ = some (.int .u8 (z 4)) := (HG3.out.cell 0).trans rfl
  have HHD := Lib.hid (head_any (z 4) H (hzz 4) (by omega))
  go_wp2_with fail
  refine (HHD.out _).mono ?_
  rintro e w5 ⟨rfl, ho5, hb5⟩
  have HG5 := Lib.hid (HG3.out.below hb5 HG3.out.lt)
  have HR5 := Lib.hid (HR3.out.below hb5 HR3.out.1)
  have HFl5 := Lib.hid (HFl3.out.below hb5)
  have HB5 := Lib.hid (HB3.out.trans (hb5.mono HB3.out.size))
  have HP := Lib.hid (starts_any b off n c w3.heap.size 8 z (headZ (z 4) H) _ w5 HR5.out ho5.row HS.out (by omega) hc hcm)
  have hg15 : g1 < w5.heap.size := (Array.getElem?_eq_some_iff.1 HFl5.out).1
  clear ho5 hb5 c0
  go_wp2_with fail
  refine HP.out.mono ?_
  rintro e w6 ⟨rfl, rfl⟩
  go_wp2_with fail
  go_loopw [7, 45] (fun at_ i wr => ∃ k : Nat, k ≤ m ∧ i = .int .i64 k ∧ at_ = .int .i64 (accN q k : Nat) ∧ Hid (PdT 127 wr g (rdF q z k)) ∧ Hid (FlAt wr g1 q) ∧ Hid (Row8 wr b off n z) ∧ Hid (Below w.heap.size w wr)) (fun _ i _ => k1 - (intOf i).toNat)
  case atStart => exact ⟨0, Nat.zero_le _, rfl, rfl, HG5, HFl5, HR5, HB5⟩
  case round =>
    clear HG5 HFl5 HR5 HB5 HG3 HFl3 HR3 HB3 HG2 HR2 HB2
    obtain ⟨k, hk, rfl, rfl, HG, HFl, HR, HB⟩ := hrel
    by_cases hlt : k < k1
    · have ci := HFl.out.cell (i := k) (by rw [HN.out]; exact hlt)
      have hf := fAt_le q k HQ.out
      have hah := accN_hd q k (by rw [HN.out]; exact hlt)
      have hfz := fsz_bd (fAt q k)
      have hab := accN_bd q k
      have HA1 : Hid (accN q (k + 1) = accN q k + fsz (fAt q k)) := Lib.hid rfl
      have HT : Hid (k < m → fAt q k = 4 → (numZ (fun j => z (accN q k + j)) 0 2).toNat = n) := Lib.hid (fun h1 h2 => HM.out.2.1 k h1 h2)
      have HT2 : Hid (k = m → fAt q k = 4 ∧ (numZ (fun j => z (accN q k + j)) 0 2).toNat ≠ n) := Lib.hid (fun e => by
        rcases HM.out.2.2 with h | h
        · rw [HN.out] at h; omega
        · rw [e]; exact h.2)
      have HRD : Hid (rdF q z (k + 1) = getF (rdF q z k) (fun j => z (accN q k + j)) (fAt q k)) := Lib.hid rfl
      rw [HH.out] at hah
      obtain ⟨f, hf'⟩ : ∃ f, fAt q k = f := ⟨_, rfl⟩
      rw [hf'] at ci hf hah hfz HA1 HT HT2 HRD
      obtain ⟨an, han⟩ : ∃ an, accN q k = an := ⟨_, rfl⟩
      rw [han] at hah hab HA1 HT HT2 HRD ⊢
      clear hf' han
      have HSZ := Lib.hid (size_any f hf)
      have HRow := Lib.hid (HR.out.shift an (fsz f) (by omega))
      have HGet := Lib.hid (get_any (rdF q z k) (fun j => z (an + j)) g b (off + an) (c - an) f hf wr HG.out HRow.out (by omega) (by have := HCM.out; omega))
      have hfzf : fsz f ≤ 8 := hfz.2
      obtain ⟨fs, hfs⟩ : ∃ fs, fsz f = fs := ⟨_, rfl⟩
      have HFS := Lib.hid hfs
      rw [hfs] at hah hfz HA1 HSZ HRow HGet hfzf
      clear hfs
      have e1 : ¬ c = an := by omega
      have e2 : ¬ (c : Int) < (an : Int) := by omega
      go_wp2_with fail
      refine (HSZ.out _).mono ?_
      rintro e w7 ⟨rfl, rfl⟩
      by_cases hkm : k < m
      · have hg1l : g1 < wr.heap.size := (Array.getElem?_eq_some_iff.1 HFl.out).1
        by_cases hf4 : f = 4
        · have hnum := HT.out hkm hf4
          obtain rfl : fs = 2 := by rw [← HFS.out, hf4]; rfl
          have HGN := Lib.hid (getNumber_any b (off + an) 2 (c - an) (fun j => z (an + j)) wr HRow.out (by omega) (by omega) (by omega) (by have := HCM.out; omega))
          rw [hnum] at HGN
          have h4 : ((f : Int) == 4) = true := by simp; omega
          have hw := wrapU n (by omega)
          clear hnum hf4
          go_wp2_with fail
          simp only [Nat.add_sub_cancel_left]
          refine HGN.out.mono ?_
          rintro e w7 ⟨rfl, rfl⟩
          go_wp2_with fail
          refine HGet.out.mono ?_
          rintro e w8 ⟨rfl, hg8, hb8, ho8⟩
          have HG8 : Hid (PdT 127 w8 g (rdF q z (k + 1))) := Lib.hid (by rw [HRD.out]; exact hg8)
          have HFl8 : Hid (FlAt w8 g1 q) := Lib.hid ((ho8 g1 hg1l (by omega)).trans HFl.out)
          have HR8 := Lib.hid (HR.out.below hb8 hbw)
          have HB8 : Hid (Below w.heap.size w w8) := Lib.hid (HB.out.trans (by rw [HGG.out]; exact hb8))
          clear hg8 hb8 ho8
          go_wp2_with fail
          go_roundw
          case rel => exact ⟨k + 1, by omega, by go_num, by rw [HA1.out]; go_num, HG8, HFl8, HR8, HB8⟩
          case measure => simp only [intOf]; omega
        · have h4 : ((f : Int) == 4) = false := by simp; omega
          clear hf4
          go_wp2_with fail
          simp only [Nat.add_sub_cancel_left]
          refine HGet.out.mono ?_
          rintro e w8 ⟨rfl, hg8, hb8, ho8⟩
          have HG8 : Hid (PdT 127 w8 g (rdF q z (k + 1))) := Lib.hid (by rw [HRD.out]; exact hg8)
          have HFl8 : Hid (FlAt w8 g1 q) := Lib.hid ((ho8 g1 hg1l (by omega)).trans HFl.out)
          have HR8 := Lib.hid (HR.out.below hb8 hbw)
          have HB8 : Hid (Below w.heap.size w w8) := Lib.hid (HB.out.trans (by rw [HGG.out]; exact hb8))
          clear hg8 hb8 ho8
          go_wp2_with fail
          go_roundw
          case rel => exact ⟨k + 1, by omega, by go_num, by rw [HA1.out]; go_num, HG8, HFl8, HR8, HB8⟩
          case measure => simp only [intOf]; omega
      · have hkm' : k = m := by omega
        obtain ⟨hf4, hne⟩ := HT2.out hkm'
        obtain rfl : fs = 2 := by rw [← HFS.out, hf4]; rfl
        have HGN := Lib.hid (getNumber_any b (off + an) 2 (c - an) (fun j => z (an + j)) wr HRow.out (by omega) (by omega) (by omega) (by have := HCM.out; omega))
        obtain ⟨N, hN⟩ : ∃ N, (numZ (fun j => z (an + j)) 0 2).toNat = N := ⟨_, rfl⟩
        rw [hN] at HGN hne
        have hN2 : N ≤ 65535 := by rw [← hN]; exact n2_bd _ (fun j => hzz _)
        have h4 : ((f : Int) == 4) = true := by simp; omega
        have hw := wrapU n (by omega)
        have hneI : ((N : Int) != (n : Int)) = true := by simp; omega
        clear hN hf4 hne hkm'
        go_wp2_with fail
        simp only [Nat.add_sub_cancel_left]
        refine HGN.out.mono ?_
        rintro e w7 ⟨rfl, rfl⟩
        go_wp2_with (first
          | (refine wpList_v rfl _ (build_0 _ _ rfl _) ?_)
          | (refine wpList_st rfl 127 (.tmp 2) (.tmp 66) rfl g 0 rfl (.agg (pdC pd0)) (pdC pd0) rfl rfl info_pdP (pdC_one _) HG.out (Nat.le_of_ble_eq_true rfl) (pd_all _ _) ?_; intro w9 hst; refine Hid.out ?_))
        refine Lib.hid ?_
        have HG9 : Hid (PdT 127 w9 g pd0) := Lib.hid hst.1
        have HB9 : Hid (Below w.heap.size w w9) := Lib.hid (HB.out.trans (hst.2.1 _ (by rw [HGG.out]; exact Nat.le_refl _)))
        clear hst
        go_wp2_with fail
        refine bodyPost_ret (results_rf rfl _ w9 g _ _ _ rfl HG9.out rfl rfl) rfl ⟨_, _, _, _, rfl, HB9.out⟩

    · exfalso; rw [HN.out] at *; omega
end Go.Proofs.YtkiaijmhoikdiaaGreat
