/- The text of any address of IPv4. Condition: the library's table of powers of ten lies as the text lays it. -/
import Derived.Test.YtnllhedmkjmaiaaDoorPFour
import Derived.Test.YtnllhedmkjmaiaaDoorShelfI
import Derived.Lib.AppendIntMem
namespace Go.Proofs.YtnllhedmkjmaiaaDoor
open Go.RowKit
set_option linter.unusedVariables false

theorem dec_len3 (n : Nat) (h : n < 256) : (dec n).size ≤ 3 := by
  show (Lib.decDigits n).length ≤ 3
  by_cases h1 : n < 100
  · have := dec_len n h1
    have e : (dec n).size = (Lib.decDigits n).length := rfl
    omega
  · rw [Lib.decDigits, dif_neg (by omega), List.length_append, List.length_singleton]
    have := dec_len (n / 10) (by omega)
    have e : (dec (n / 10)).size = (Lib.decDigits (n / 10)).length := rfl
    omega
/-- the text of a number -/
theorem itoa_any (n : Nat) (h : n < 4294967296) (w : World) (htab : Lib.TabIs Tryd.prog w "internal/strconv.uint64pow10" .u64 Lib.pow10Tab) :
    Calls Tryd.prog 37 #[.int .i64 n] w fun e w' => e = .returned (.string (dec n)) ∧ Below w.heap.size w w' := by
  refine (Tryd.strconv_Itoa n (by omega) (by omega) w htab).mono ?_
  rintro e w' ⟨he, k, os, rfl⟩
  refine ⟨he.trans ?_, Lib.below_grow _ _ (Nat.le_refl _) _ _⟩
  unfold Lib.itoa
  rw [if_neg (by omega)]
  rfl

set_option maxHeartbeats 1000000 in
set_option maxRecDepth 100000 in
theorem fourA_any (y : Nat → Nat) (hy : ∀ j, y j < 256) (w : World) (htab : Lib.TabIs Tryd.prog w "internal/strconv.uint64pow10" .u64 Lib.pow10Tab) :
    Calls Tryd.prog 35 #[.agg (agC (fun j => (y j : Int)))] w fun e w' => e = .returned (.string ⟨(Lib.join ((List.range 4).map fun j => (dec (y j)).data.toList) [46]).toArray⟩) ∧ Below w.heap.size w w' := by
  obtain ⟨i0, hi, hz0, hz1, hz2⟩ := info_parts info_str
  have HT := Lib.hid (Lib.tabBelow_of_tabIs htab)
  clear htab
  go_enter Tryd.func35, Tryd.ntmps35
  go_wp2_with fail
  go_loopw [3, 8] (fun v i wr => ∃ k : Nat, k ≤ 4 ∧ i = .int .i64 k ∧ wr.ownsRow (w.heap.size + 1) 9 1 v k (strs (fun j => dec (y j)) k) ∧ wr.heap[w.heap.size]? = some (.cells (agC (fun j => (y j : Int))) 22 (0, 0)) ∧ Below w.heap.size w wr)
    (fun _ i _ => 4 - (intOf i).toNat)
  case atStart => exact ⟨0, by omega, rfl, World.ownsRow_nil _ _ _ _, heap_alloc_new w _, (bself w).alloc (Nat.le_refl _) _⟩
  case round =>
    obtain ⟨k, hk, rfl, hown, hA, hb⟩ := hrel
    have hbs := hb.size
    by_cases hk4 : k < 4
    · have c : wr.cell? ⟨w.heap.size, k, none⟩ = some (.int .u8 (y k)) := (cell_of_row wr w.heap.size k _ _ _ hA).trans (agC_at _ k (by omega))
      have hwb : w.heap.size < wr.heap.size := (Array.getElem?_eq_some_iff.1 hA).1
      have HO := Lib.hid hown
      have hy0 := hy k
      have m1 : k + 1 ≤ maxLen := by unfold maxLen; omega
      clear hown
      go_wp2_with fail
      refine (itoa_any (y k) (by omega) _ (HT.out _ hb)).mono ?_
      rintro e w1 ⟨rfl, hbx⟩
      have hw1 := hbx.size
      have HO1 := Lib.hid (ownsRow_below HO.out hbx)
      have HA1 := Lib.hid ((hbx.block _ hwb).trans hA)
      have HB1 := Lib.hid (hb.trans (hbx.mono hbs))
      clear hbx HO hA hb c
      go_wp2_with (at_builtin; refine wpList_append_own_at _ rfl (.tmp 12) (.tmp 16) 74 rfl (w.heap.size + 1) 9 i0 (.string ⟨#[]⟩) 1 16 Tryd.underlying74 hi hz0 hz1 hz2 rfl (by decide) u3 k _ rfl (HO1.out.alloc _) ⟨w1.heap.size, 0, none⟩ 1 1 [.string (dec (y k))] rfl rfl (one_new w1 _ _) (str_one _) m1 (by omega) (by simp; omega) ?_; intro v2 w2 hown2 hgrow2 hnil2 hat2)
      have HB := Lib.hid ((HB1.out.alloc (by omega) _).grown hgrow2 (by simp; omega) (fun x e => by have := (HO1.out.lt x e).1; omega))
      have HA := Lib.hid ((hgrow2.block w.heap.size (by simp; omega) (fun e => by have := (HO1.out.lt _ e.symm).1; omega)).trans ((Below.heap_alloc _ _ _ (by omega)).trans HA1.out))
      clear hgrow2 hnil2 hat2
      go_wp2
      go_roundw
      case rel => exact ⟨k + 1, by omega, by go_num, hown2, HA.out, HB.out⟩
      case measure => simp only [intOf]; omega
    · obtain rfl : k = 4 := by omega
      obtain ⟨g, cap, rfl, hg, hlt, hc1, hc2, hcs⟩ := own_strs hown (by omega)
      have HC := Lib.hid hcs
      clear hown hA hcs
      have hl : (Lib.join (([dec (y 0), dec (y 1), dec (y 2), dec (y 3)] : List ByteArray).map (·.data.toList)) (⟨#[46]⟩ : ByteArray).data.toList).length ≤ 140737488355328 := by
        have h0 := dec_len3 (y 0) (hy 0)
        have h1 := dec_len3 (y 1) (hy 1)
        have h2 := dec_len3 (y 2) (hy 2)
        have h3 := dec_len3 (y 3) (hy 3)
        simp [Lib.join]
        omega
      go_wp2_with fail
      refine (Tryd.strings_Join g 0 cap [dec (y 0), dec (y 1), dec (y 2), dec (y 3)] ⟨#[46]⟩ _ ?_ hlt (by simp) hc1 hl).mono ?_
      · intro j x hj
        rw [Nat.zero_add]
        match j, hj with
        | 0, hj => simp at hj; subst hj; exact HC.out 0 (by omega)
        | 1, hj => simp at hj; subst hj; exact HC.out 1 (by omega)
        | 2, hj => simp at hj; subst hj; exact HC.out 2 (by omega)
        | 3, hj => simp at hj; subst hj; exact HC.out 3 (by omega)
        | j + 4, hj => simp at hj
      rintro e w' ⟨rfl, hb2⟩
      go_wp2
      go_ret
      exact ⟨rfl, hb.trans (hb2.mono hbs)⟩
end Go.Proofs.YtnllhedmkjmaiaaDoor
