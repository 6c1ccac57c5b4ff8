/- Packets: their cells, which fields a kind has, and their bytes. Each theorem states its conditions. -/
import Derived.Test.YtigkmcbkckfhbaaDGetID
import Derived.Test.YtigkmcbkckfhbaaTJoin
import Derived.Test.YtigkmcbkckfhbaaRight
namespace Go.Proofs.Ytigkmcbkckfhbaa
open Go.RowKit
set_option linter.unusedVariables false

/-- a packet: what stands in its cells -/
structure Pd where
  kd : Int
  ci : Int
  so : Nat → Int
  ho : Int
  nu : Int
  pr : Int
  la : Nat → Int
  li : Int
  id : Nat → Int
  sq : Nat
  bi : Int
  st : Nat → Int
  en : Nat → Int
  A : Option Addr
  m : Nat
  c : Nat
def by1 (x : Int) : Prop := 0 ≤ x ∧ x ≤ 255
def in64 (x : Int) : Prop := -9223372036854775808 ≤ x ∧ x ≤ 9223372036854775807
def PdOk (p : Pd) : Prop := (by1 p.kd ∧ by1 p.ci ∧ (∀ j, 0 ≤ p.so j ∧ p.so j ≤ 255) ∧ in64 p.ho ∧ by1 p.nu ∧ by1 p.pr ∧ (∀ j, 0 ≤ p.la j ∧ p.la j ≤ 255)) ∧
  in64 p.li ∧ (∀ j, 0 ≤ p.id j ∧ p.id j ≤ 255) ∧ p.sq ≤ 4294967295 ∧ by1 p.bi ∧ (∀ j, 0 ≤ p.st j ∧ p.st j ≤ 255) ∧ (∀ j, 0 ≤ p.en j ∧ p.en j ≤ 255)
def pdC (p : Pd) : Array Value := #[.int .u8 p.kd, .int .u8 p.ci,
  .int .u8 (p.so 0), .int .u8 (p.so 1), .int .u8 (p.so 2), .int .u8 (p.so 3), .int .u8 (p.so 4), .int .u8 (p.so 5), .int .u8 (p.so 6),
  .int .i64 p.ho, .int .u8 p.nu, .int .u8 p.pr,
  .int .u8 (p.la 0), .int .u8 (p.la 1), .int .u8 (p.la 2), .int .u8 (p.la 3), .int .u8 (p.la 4), .int .u8 (p.la 5), .int .u8 (p.la 6),
  .int .i64 p.li,
  .int .u8 (p.id 0), .int .u8 (p.id 1), .int .u8 (p.id 2), .int .u8 (p.id 3), .int .u8 (p.id 4), .int .u8 (p.id 5), .int .u8 (p.id 6), .int .u8 (p.id 7),
  .int .u32 (p.sq : Int), .int .u8 p.bi,
  .int .u8 (p.st 0), .int .u8 (p.st 1), .int .u8 (p.st 2), .int .u8 (p.st 3), .int .u8 (p.st 4), .int .u8 (p.st 5), .int .u8 (p.st 6), .int .u8 (p.st 7),
  .int .u8 (p.en 0), .int .u8 (p.en 1), .int .u8 (p.en 2), .int .u8 (p.en 3), .int .u8 (p.en 4), .int .u8 (p.en 5), .int .u8 (p.en 6), .int .u8 (p.en 7),
  .slice p.A p.m p.c]
theorem pdC_size (p : Pd) : (pdC p).size = 47 := rfl
theorem pdC_one (p : Pd) : (pdC p).all (·.oneCell') = true := by kernel_rfl

/-- of which class a kind is -/
def cls (k : Int) : Nat := if k = 17 then 0 else if k = 15 ∨ k = 16 then 1 else if k = 18 ∨ k = 20 then 2 else if k = 24 ∨ k = 25 then 3 else if k = 26 ∨ k = 27 then 4 else 5
/-- the fields of a class -/
def flC : Nat → List Nat
  | 0 => [0, 1, 3, 4, 5]
  | 1 => [0, 1, 3, 4, 6, 7]
  | 2 => [4, 8, 9, 10, 11, 12]
  | 3 => [4, 2, 13, 14]
  | 4 => [4, 2]
  | _ => []
def flA (q : Nat) : Array Value := ((flC q).map fun (f : Nat) => Value.int .i64 (f : Int)).toArray
/-- how many bytes a field has -/
def fsz : Nat → Nat
  | 1 => 6
  | 2 => 7
  | 3 => 2
  | 4 => 2
  | 7 => 7
  | 8 => 2
  | 9 => 8
  | 10 => 4
  | 11 => 2
  | 13 => 8
  | 14 => 8
  | _ => 1
def fAt (q i : Nat) : Nat := (flC q).getD i 0
/-- how many bytes stand ahead of field i -/
def accN (q : Nat) : Nat → Nat
  | 0 => 8
  | i + 1 => accN q i + fsz (fAt q i)
def hdN (q : Nat) : Nat := accN q (flC q).length
theorem fAt_le (q i : Nat) (hq : q ≤ 4) : fAt q i ≤ 14 := by
  have h : ∀ f ∈ flC q, f ≤ 14 := by
    rcases (by omega : q = 0 ∨ q = 1 ∨ q = 2 ∨ q = 3 ∨ q = 4) with rfl | rfl | rfl | rfl | rfl <;> decide
  unfold fAt
  by_cases hi : i < (flC q).length
  · simp only [List.getD, List.getElem?_eq_getElem hi, Option.getD_some]
    exact h _ (List.getElem_mem hi)
  · simp only [List.getD, List.getElem?_eq_none (Nat.le_of_not_lt hi), Option.getD_none]
    omega
theorem fl_len (q : Nat) (hq : q ≤ 4) : 0 < (flC q).length ∧ (flC q).length ≤ 6 := by
  rcases (by omega : q = 0 ∨ q = 1 ∨ q = 2 ∨ q = 3 ∨ q = 4) with rfl | rfl | rfl | rfl | rfl <;> decide
theorem fsz_bd (f : Nat) : 1 ≤ fsz f ∧ fsz f ≤ 8 := by
  unfold fsz; split <;> decide
theorem accN_bd (q i : Nat) : 8 ≤ accN q i ∧ accN q i ≤ 8 + 8 * i := by
  induction i with
  | zero => simp [accN]
  | succ i ih => have := fsz_bd (fAt q i); simp only [accN]; omega
theorem hdN_bd (q : Nat) (hq : q ≤ 4) : 17 ≤ hdN q ∧ hdN q ≤ 33 := by
  rcases (by omega : q = 0 ∨ q = 1 ∨ q = 2 ∨ q = 3 ∨ q = 4) with rfl | rfl | rfl | rfl | rfl <;> decide
theorem flA_at (q i : Nat) (hi : i < (flC q).length) : (flA q)[i]? = some (.int .i64 ((fAt q i : Nat) : Int)) := by
  unfold flA fAt
  simp [List.getD, hi]
theorem flA_size (q : Nat) : (flA q).size = (flC q).length := by simp [flA]

/-- may what stands in a field stand there? -/
def fitB (p : Pd) : Nat → Bool
  | 0 => decide (1 ≤ p.ci ∧ p.ci ≤ 3)
  | 3 => decide (0 ≤ p.ho ∧ p.ho ≤ 65535)
  | 8 => decide (0 ≤ p.li ∧ p.li ≤ 65535)
  | 6 => decide (p.pr ≤ 127)
  | _ => true
/-- the first i fields -/
def fitsTo (p : Pd) (q : Nat) : Nat → Bool
  | 0 => true
  | i + 1 => fitsTo p q i && fitB p (fAt q i)
def fitP (p : Pd) (q : Nat) : Bool := fitsTo p q (flC q).length
/-- the first six -/
def cutSys (s : Nat → Int) : Nat → Int := fun j => if j < 6 then s j else 0
theorem cutSys_bd {s : Nat → Int} (h : ∀ j, 0 ≤ s j ∧ s j ≤ 255) : ∀ j, 0 ≤ cutSys s j ∧ cutSys s j ≤ 255 := by
  intro j; unfold cutSys; split
  · exact h j
  · exact ⟨Int.le_refl 0, (by decide : (0 : Int) ≤ 255)⟩
theorem cutSys_cut (s : Nat → Int) : cutSys (cutSys s) = cutSys s := by funext j; unfold cutSys; split <;> rfl
/-- the bytes of a field; W: how many bytes the packet has -/
def fZ (p : Pd) (W : Nat) : Nat → Nat → Int
  | 0 => fun _ => p.ci
  | 1 => cutSys p.so
  | 2 => p.so
  | 3 => putZ p.ho.toNat 2
  | 4 => putZ W 2
  | 5 => fun _ => p.nu
  | 6 => fun _ => p.pr
  | 7 => p.la
  | 8 => putZ p.li.toNat 2
  | 9 => p.id
  | 10 => putZ p.sq 4
  | 12 => fun _ => p.bi
  | 13 => p.st
  | 14 => p.en
  | _ => fun _ => 0
theorem fZ_bd (p : Pd) (W f : Nat) (h : PdOk p) : ∀ j, 0 ≤ fZ p W f j ∧ fZ p W f j ≤ 255 := by
  obtain ⟨⟨h1, h2, h3, h4, h5, h6, h7⟩, h8, h9, h10, h11, h12, h13⟩ := h
  intro j
  unfold fZ
  split <;> first | assumption | exact cutSys_bd h3 j | exact h3 j | exact h7 j | exact h9 j | exact h12 j | exact h13 j | exact putZ_bd _ _ _ | exact ⟨Int.le_refl 0, (by decide : (0 : Int) ≤ 255)⟩
/-- the first eight bytes -/
def headZ (k : Int) (n : Nat) : Nat → Int := fun j => if j = 0 then 131 else if j = 1 then (n : Int) else if j = 2 then 1 else if j = 3 then 0 else if j = 4 then k else if j = 5 then 1 else 0
theorem headZ_bd (k : Int) (n : Nat) (hk : by1 k) (hn : n ≤ 255) : ∀ j, 0 ≤ headZ k n j ∧ headZ k n j ≤ 255 := by
  intro j; unfold headZ; unfold by1 at hk
  repeat' split
  all_goals omega
/-- the bytes to field i -/
def accZ (p : Pd) (W q : Nat) : Nat → Nat → Int
  | 0 => headZ p.kd (hdN q)
  | i + 1 => cat (accZ p W q i) (accN q i) (fZ p W (fAt q i))
theorem accZ_bd (p : Pd) (W q : Nat) (hq : q ≤ 4) (h : PdOk p) (i : Nat) : ∀ j, 0 ≤ accZ p W q i j ∧ accZ p W q i j ≤ 255 := by
  induction i with
  | zero => exact headZ_bd _ _ h.1.1 (by have := hdN_bd q hq; omega)
  | succ i ih => exact cat_bd ih (fZ_bd p W _ h)
/-- all bytes, without the check bytes -/
def wZ (p : Pd) (q : Nat) (L : Nat → It) : Nat → Int := cat (accZ p (hdN q + sz L p.m) q (flC q).length) (hdN q) (J L p.m)
/-- check bytes are laid -/
def sgZ (z : Nat → Int) (n : Nat) : Nat → Int := fun j => if j = 24 then chkX (fun i => z (12 + i)) 12 (n - 12) else if j = 25 then chkY (fun i => z (12 + i)) 12 (n - 12) else z j
theorem sgZ_bd (z : Nat → Int) (n : Nat) (hz : ∀ j, 0 ≤ z j ∧ z j ≤ 255) : ∀ j, 0 ≤ sgZ z n j ∧ sgZ z n j ≤ 255 := by
  intro j
  have := chk_bd (fun i => z (12 + i)) 12 (n - 12)
  unfold sgZ
  split
  · omega
  · split
    · omega
    · exact hz j
/-- the bytes of a packet -/
def pdZ (p : Pd) (q : Nat) (L : Nat → It) : Nat → Int := if q = 2 then sgZ (wZ p q L) (hdN q + sz L p.m) else wZ p q L
end Go.Proofs.Ytigkmcbkckfhbaa
