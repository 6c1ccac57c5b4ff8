/- The row of noughts that is left out, of any eight texts: a plain function of them. Condition: the eight cells hold the texts. -/
import Derived.Test.YtnllhedmkjmaiaaDoorPHex
namespace Go.Proofs.YtnllhedmkjmaiaaDoor
open Go.RowKit
set_option linter.unusedVariables false

/-- where the row begins, the least length of a better one, the best one's place and the place behind it, after i texts -/
structure LSt where
  start : Nat
  least : Nat
  fr : Nat
  be : Nat
def lstep (f : Nat → ByteArray) (s : LSt) (i : Nat) : LSt :=
  let st := if f i = ⟨#[48]⟩ then s.start else i + 1
  if s.least ≤ i + 1 - st then ⟨st, i + 1 - st + 1, st, i + 1⟩ else ⟨st, s.least, s.fr, s.be⟩
def lst (f : Nat → ByteArray) : Nat → LSt
  | 0 => ⟨0, 2, 0, 0⟩
  | i + 1 => lstep f (lst f i) i
theorem lst_bd (f : Nat → ByteArray) (i : Nat) : (lst f i).start ≤ i ∧ (lst f i).least ≤ i + 2 ∧ (lst f i).fr ≤ i ∧ (lst f i).be ≤ i ∧ (lst f i).fr ≤ (lst f i).be ∧ 2 ≤ (lst f i).least := by
  induction i with
  | zero => simp [lst]
  | succ i ih =>
    simp only [lst, lstep]
    split <;> split <;> simp <;> omega

set_option maxHeartbeats 1000000 in
set_option maxRecDepth 100000 in
theorem left_any (f : Nat → ByteArray) (g cap : Nat) (w : World) (h : ∀ j, j < 8 → w.cell? ⟨g, j, none⟩ = some (.string (f j))) :
    Calls Tryd.prog 48 #[.slice (some ⟨g, 0, none⟩) 8 cap] w fun e w' => e = .returned (.tuple #[.int .i64 ((lst f 8).fr : Int), .int .i64 ((lst f 8).be : Int)]) ∧ w = w' := by
  have HC := Lib.hid h
  clear h
  go_enter Tryd.func48, Tryd.ntmps48
  go_wp2_with fail
  go_loopw [2, 3, 4, 5, 11] (fun fr be le st i wr => ∃ k : Nat, k ≤ 8 ∧ i = .int .i64 k ∧ fr = .int .i64 ((lst f k).fr : Int) ∧ be = .int .i64 ((lst f k).be : Int) ∧ le = .int .i64 ((lst f k).least : Int) ∧ st = .int .i64 ((lst f k).start : Int) ∧ w = wr)
    (fun _ _ _ _ i _ => 8 - (intOf i).toNat)
  case atStart => exact ⟨0, by omega, rfl, rfl, rfl, rfl, rfl, rfl⟩
  case round =>
    obtain ⟨k, hk, rfl, rfl, rfl, rfl, rfl, rfl⟩ := hrel
    by_cases hk8 : k < 8
    · have c := HC.out k hk8
      have hbd := lst_bd f k
      have hs : lst f (k + 1) = lstep f (lst f k) k := rfl
      unfold lstep at hs
      generalize lst f k = s at *
      obtain ⟨st, le, fr, be⟩ := s
      simp only at hbd hs
      by_cases h0 : f k = ⟨#[48]⟩
      · rw [h0] at c
        rw [if_pos h0] at hs
        by_cases hr : le ≤ k + 1 - st
        · rw [if_pos hr] at hs
          have hr1 : (le : Int) ≤ (k : Int) + 1 - (st : Int) := by omega
          go_wp2
          go_roundw
          case rel => exact ⟨k + 1, by omega, by go_num, by rw [hs], by rw [hs]; go_num, by rw [hs]; simp; omega, by rw [hs], trivial⟩
          case measure => simp only [intOf]; omega
        · rw [if_neg hr] at hs
          have hr1 : ¬ (le : Int) ≤ (k : Int) + 1 - (st : Int) := by omega
          go_wp2
          go_roundw
          case rel => exact ⟨k + 1, by omega, by go_num, by rw [hs], by rw [hs], by rw [hs], by rw [hs], trivial⟩
          case measure => simp only [intOf]; omega
      · rw [if_neg h0] at hs
        have hr : ¬ le ≤ k + 1 - (k + 1) := by omega
        rw [if_neg hr] at hs
        have hr1 : ¬ (le : Int) ≤ 0 := by omega
        have hr2 : ¬ le = 0 := by omega
        have hbt : ((f k).toList == [48]) = false := by
          rw [beq_eq_false_iff_ne]
          intro e
          rw [ByteArray.toList_eq] at e
          exact h0 (WideShapes.bytes_inj e)
        go_wp2
        go_roundw
        case rel => exact ⟨k + 1, by omega, by go_num, by rw [hs], by rw [hs], by rw [hs], by rw [hs]; go_num, trivial⟩
        case measure => simp only [intOf]; omega
    · obtain rfl : k = 8 := by omega
      go_wp2
      go_ret2
      exact ⟨rfl, rfl⟩
end Go.Proofs.YtnllhedmkjmaiaaDoor
