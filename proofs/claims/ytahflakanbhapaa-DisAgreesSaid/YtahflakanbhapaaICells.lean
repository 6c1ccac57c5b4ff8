/- Members as cells, in both packages; names and MACs compared as numbers; dis.isBeyond, isAhead and the document's number. Each theorem states its conditions. -/
import Derived.Test.YtahflakanbhapaaBlk
import Derived.Test.YtahflakanbhapaaRec
import Derived.Test.YtahflakanbhapaaIPlain
import Derived.Lib.BytesEntry
import Derived.Lib.Bytealg
namespace Go.Proofs.Ytahflakanbhapaa
open Go.RowKit
set_option linter.unusedVariables false

def syC (z : Nat → Int) : Array Value := #[.int .u8 (z 0), .int .u8 (z 1), .int .u8 (z 2), .int .u8 (z 3), .int .u8 (z 4), .int .u8 (z 5)]
def mbC (m : Mb) : Array Value := #[.int .u8 (m.s 0), .int .u8 (m.s 1), .int .u8 (m.s 2), .int .u8 (m.s 3), .int .u8 (m.s 4), .int .u8 (m.s 5), .int .u8 (m.k 0), .int .u8 (m.k 1), .int .u8 (m.k 2), .int .u8 (m.k 3), .int .u8 (m.k 4), .int .u8 (m.k 5), .int .u8 m.pr, .bool m.up]
def MbOk (m : Mb) : Prop := byte6 m.s ∧ byte6 m.k ∧ 0 ≤ m.pr ∧ m.pr ≤ 255
def mbA (L : Nat → Mb) : Nat → Array Value := fun j => mbC (L j)
theorem mbC_one (m : Mb) : (mbC m).all (·.oneCell') = true := by kernel_rfl
theorem syC_one (z : Nat → Int) : (syC z).all (·.oneCell') = true := by kernel_rfl
theorem mbC_ones (m : Mb) : ∀ u ∈ (mbC m).toList, u.oneCell' = true := by
  intro u hu
  simp only [mbC, List.mem_cons, List.not_mem_nil, or_false] at hu
  rcases hu with rfl | rfl | rfl | rfl | rfl | rfl | rfl | rfl | rfl | rfl | rfl | rfl | rfl | rfl <;> rfl
theorem recs_mb (L : Nat → Mb) : Recs 14 (mbA L) := fun j => ⟨rfl, mbC_ones (L j)⟩
theorem info_mbP : (Try.prog.info? 40).map (·.size) = some 14 := by kernel_rfl
theorem info_mbR : (Try.prog.info? 39).map (·.size) = some 14 := by kernel_rfl
theorem info_sys : (Try.prog.info? 37).map (·.size) = some 6 := by kernel_rfl
theorem info_mac : (Try.prog.info? 36).map (·.size) = some 6 := by kernel_rfl
def z0 : Nat → Int := fun _ => 0
def mb0 : Mb := ⟨z0, z0, 0, false⟩
theorem zero_mbP : (Try.prog.info? 40).map (·.zero) = some (some (.agg (mbC mb0))) := by kernel_rfl
theorem zero_mbR : (Try.prog.info? 39).map (·.zero) = some (some (.agg (mbC mb0))) := by kernel_rfl
theorem zero_sys : (Try.prog.info? 37).map (·.zero) = some (some (.agg (syC z0))) := by kernel_rfl
theorem zero_mac : (Try.prog.info? 36).map (·.zero) = some (some (.agg (syC z0))) := by kernel_rfl
section
variable {t : TypeId} {w w' : World} {g : Nat}
theorem Blk.mbs {m : Mb} (h : Blk t w g (mbC m)) : w.rangeAt g 0 (syC m.s).toList := h.range (six ⟨rfl, rfl, rfl, rfl, rfl, rfl⟩)
theorem Blk.mbk {m : Mb} (h : Blk t w g (mbC m)) : w.rangeAt g 6 (syC m.k).toList := h.range (six ⟨rfl, rfl, rfl, rfl, rfl, rfl⟩)
end
/-- the order of two numbers -/
def cmp3 (a b : Int) : Int := if a < b then -1 else if b < a then 1 else 0
theorem cmp3_lt (a b : Int) : decide (0 < cmp3 a b) = decide (b < a) := by
  unfold cmp3
  by_cases h1 : a < b
  · rw [if_pos h1]; simp; omega
  · rw [if_neg h1]
    by_cases h2 : b < a
    · rw [if_pos h2]; simp [h2]
    · rw [if_neg h2]; simp [h2]
def lst6 (z : Nat → Int) : List Int := [z 0, z 1, z 2, z 3, z 4, z 5]
theorem u8_lt {a b : Int} (ha : 0 ≤ a ∧ a ≤ 255) (hb : 0 ≤ b ∧ b ≤ 255) : (a.toNat.toUInt8 < b.toNat.toUInt8) ↔ a < b := by
  rw [UInt8.lt_iff_toNat_lt]
  simp only [Nat.toUInt8, UInt8.toNat_ofNat']
  omega
def fold6 : Int → List Int → Int
  | p, [] => p
  | p, x :: xs => fold6 (p * 256 + x) xs
theorem fold6_lt : ∀ (xs ys : List Int) (p q : Int), xs.length = ys.length → (∀ x ∈ xs, 0 ≤ x ∧ x ≤ 255) → (∀ x ∈ ys, 0 ≤ x ∧ x ≤ 255) → p < q → fold6 p xs < fold6 q ys
  | [], [], p, q, _, _, _, h => h
  | [], _ :: _, _, _, h, _, _, _ => by simp at h
  | _ :: _, [], _, _, h, _, _, _ => by simp at h
  | x :: xs, y :: ys, p, q, hl, hx, hy, h => by
    have a := hx x (by simp)
    have b := hy y (by simp)
    exact fold6_lt xs ys _ _ (by simpa using hl) (fun z hz => hx z (by simp [hz])) (fun z hz => hy z (by simp [hz])) (by omega)
theorem cmp_fold : ∀ (xs ys : List Int) (p : Int), xs.length = ys.length → (∀ x ∈ xs, 0 ≤ x ∧ x ≤ 255) → (∀ x ∈ ys, 0 ≤ x ∧ x ≤ 255) → Lib.compareBytes (Lib.bytesOf xs) (Lib.bytesOf ys) = cmp3 (fold6 p xs) (fold6 p ys)
  | [], [], p, _, _, _ => by simp [Lib.bytesOf, Lib.compareBytes, fold6, cmp3]
  | [], _ :: _, _, h, _, _ => by simp at h
  | _ :: _, [], _, h, _, _ => by simp at h
  | x :: xs, y :: ys, p, hl, hx, hy => by
    have a := hx x (by simp)
    have b := hy y (by simp)
    have hl' : xs.length = ys.length := by simpa using hl
    have hx' : ∀ z ∈ xs, 0 ≤ z ∧ z ≤ 255 := fun z hz => hx z (by simp [hz])
    have hy' : ∀ z ∈ ys, 0 ≤ z ∧ z ≤ 255 := fun z hz => hy z (by simp [hz])
    show (if x.toNat.toUInt8 < y.toNat.toUInt8 then (-1 : Int) else if y.toNat.toUInt8 < x.toNat.toUInt8 then 1 else Lib.compareBytes (Lib.bytesOf xs) (Lib.bytesOf ys)) = _
    simp only [u8_lt a b, u8_lt b a, fold6]
    by_cases h1 : x < y
    · rw [if_pos h1]
      have := fold6_lt xs ys (p * 256 + x) (p * 256 + y) hl' hx' hy' (by omega)
      unfold cmp3; rw [if_pos this]
    · rw [if_neg h1]
      by_cases h2 : y < x
      · rw [if_pos h2]
        have := fold6_lt ys xs (p * 256 + y) (p * 256 + x) hl'.symm hy' hx' (by omega)
        unfold cmp3; rw [if_neg (by omega), if_pos this]
      · rw [if_neg h2, cmp_fold xs ys (p * 256 + x) hl' hx' hy', show x = y by omega]
theorem lst6_bd {z : Nat → Int} (h : byte6 z) : ∀ x ∈ lst6 z, 0 ≤ x ∧ x ≤ 255 := by
  intro x hx
  simp only [lst6, List.mem_cons, List.not_mem_nil, or_false] at hx
  rcases hx with rfl | rfl | rfl | rfl | rfl | rfl <;> exact h _
theorem num_fold (z : Nat → Int) : numZ z 0 6 = fold6 0 (lst6 z) := by
  simp only [numZ, fold6, lst6, Nat.zero_add]
theorem cmp6_bytes {y z : Nat → Int} (hy : byte6 y) (hz : byte6 z) : Lib.compareBytes (Lib.bytesOf (lst6 y)) (Lib.bytesOf (lst6 z)) = cmp3 (numZ y 0 6) (numZ z 0 6) := by
  rw [num_fold, num_fold]
  exact cmp_fold _ _ 0 rfl (lst6_bd hy) (lst6_bd hz)
theorem row6_list {w : World} {b o : Nat} {z : Nat → Int} (h : w.rangeAt b o (syC z).toList) : ∀ j x, (lst6 z)[j]? = some x → w.cell? ((⟨b, o, none⟩ : Addr).add j) = some (.int .u8 x) := by
  intro j x hj
  rw [add_none]
  match j, hj with
  | 0, hj => simp [lst6] at hj; subst hj; exact h 0 _ rfl
  | 1, hj => simp [lst6] at hj; subst hj; exact h 1 _ rfl
  | 2, hj => simp [lst6] at hj; subst hj; exact h 2 _ rfl
  | 3, hj => simp [lst6] at hj; subst hj; exact h 3 _ rfl
  | 4, hj => simp [lst6] at hj; subst hj; exact h 4 _ rfl
  | 5, hj => simp [lst6] at hj; subst hj; exact h 5 _ rfl
theorem run_cmp6 (b1 o1 c1 b2 o2 c2 : Nat) (y z : Nat → Int) (w : World) (hy : w.rangeAt b1 o1 (syC y).toList) (hz : w.rangeAt b2 o2 (syC z).toList) (ky : byte6 y) (kz : byte6 z) :
    (Extern.BytealgCompare.compare #[.slice (some ⟨b1, o1, none⟩) 6 c1, .slice (some ⟨b2, o2, none⟩) 6 c2]).run Try.prog w = .ok (.int .i64 (cmp3 (numZ y 0 6) (numZ z 0 6))) w := by
  change Sem.run Try.prog (do pure (goInt (Extern.BytealgCompare.cmp (← Extern.Bytes.loadBytes ⟨b1, o1, none⟩ (lst6 y).length .empty) (← Extern.Bytes.loadBytes ⟨b2, o2, none⟩ (lst6 z).length .empty)))) w = _
  simp only [Sem.run_bind, Lib.run_loadBytesX w (lst6 y) ⟨b1, o1, none⟩ .empty (row6_list hy), Lib.run_loadBytesX w (lst6 z) ⟨b2, o2, none⟩ .empty (row6_list hz), Result.andThen, Sem.run_pure]
  rw [Lib.cmp_eq, ← cmp6_bytes ky kz]
  rfl
theorem cmp6_any (b1 o1 c1 b2 o2 c2 : Nat) (y z : Nat → Int) (w : World) (hy : w.rangeAt b1 o1 (syC y).toList) (hz : w.rangeAt b2 o2 (syC z).toList) (ky : byte6 y) (kz : byte6 z) :
    Calls Try.prog 27 #[.slice (some ⟨b1, o1, none⟩) 6 c1, .slice (some ⟨b2, o2, none⟩) 6 c2] w fun e w' => e = .returned (.int .i64 (cmp3 (numZ y 0 6) (numZ z 0 6))) ∧ w' = w := by
  have hrun := run_cmp6 b1 o1 c1 b2 o2 c2 y z w hy hz ky kz
  go_enter Try.func27, Try.ntmps27
  go_wp2
  rw [run_callFunc_extern Try.func32 (by kernel_rfl) (by kernel_rfl) (by kernel_rfl) (e := Extern.BytealgCompare.compare) (by kernel_rfl), hrun]
  simp only [Result.andThen]
  rw [Oper.upon_value]
  go_wp2
  go_ret
  exact ⟨rfl, rfl⟩
end Go.Proofs.Ytahflakanbhapaa
