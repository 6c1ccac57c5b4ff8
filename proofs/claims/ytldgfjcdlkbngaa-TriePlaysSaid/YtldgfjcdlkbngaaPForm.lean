/- The document's Form. Each theorem states its conditions. -/
import Derived.Test.YtldgfjcdlkbngaaPRep
namespace Go.Proofs.Ytldgfjcdlkbngaa
open Go.RowKit
set_option linter.unusedVariables false

set_option maxHeartbeats 2000000 in
theorem form_any (fam len : Int) (z : Nat → Int) (w : World) (hz : Bytes z) :
    Calls Try.prog 75 #[.agg (pvC fam len z)] w fun e w' => e = .returned (.bool (decide (Form fam len z))) ∧ Below w.heap.size w w' := by
  have HS := Lib.hid (sized_any fam len z)
  rw [pv_eq] at HS
  have hN := Lib.hid (IsPv.new w fam len z)
  by_cases hs : Sized fam len
  · have h0 : 0 ≤ len := by unfold Sized at hs; omega
    have h1 : len ≤ 128 := by unfold Sized at hs; omega
    obtain ⟨l, rfl⟩ := Int.eq_ofNat_of_zero_le h0
    have hl : l ≤ 128 := by omega
    have hsd := Lib.hid (show decide (Sized fam (l : Int)) = true by simpa using hs)
    have hyes := Lib.hid (fun (h : ∀ i, l ≤ i → i < 128 → bitZ z i = 0) => show Form fam (l : Int) z from ⟨hs, by simpa using (form_bits z hz l hl).2 h⟩)
    have hno := Lib.hid (fun (i : Nat) (h1 : l ≤ i) (h2 : i < 128) (h3 : bitZ z i ≠ 0) => show ¬ Form fam (l : Int) z from fun h => h3 ((form_bits z hz l hl).1 (by simpa using h.2) i h1 h2))
    have HBit := Lib.hid (fun (i : Nat) (hi : i < 128) (W : World) => bit_any z (i / 8) (i % 8) (by omega) (by omega) W hz (i : Int) (by omega))
    rw [show ag z = agC z from rfl] at HBit
    clear hs h0 h1
    go_enter Try.func75, Try.ntmps75
    go_wp2_with (refine load_pv rfl (.tmp 1) rfl rfl hN.out ?_)
    refine (HS.out _).mono ?_
    rintro e w1 ⟨rfl, hb1⟩
    rw [hsd.out]
    have hB1 : Below (w.heap.size + 1) (w.alloc (.cells (pvC fam (l : Int) z) 32)) w1 := by simpa using hb1
    have HP1 := Lib.hid (hN.out.below hB1 (Nat.lt_succ_self _))
    have HBB := Lib.hid (((bself w).alloc (Nat.le_refl _) (.cells (pvC fam (l : Int) z) 32)).trans (hB1.mono (Nat.le_succ _)))
    have c0 := HP1.out.len
    clear hb1 hB1
    go_wp2_with fail
    clear c0
    go_loopw [3] (fun s wr => ∃ i : Nat, l ≤ i ∧ i ≤ 128 ∧ s = .int .i64 i ∧ Hid (∀ x, l ≤ x → x < i → bitZ z x = 0) ∧ Hid (IsPv wr w.heap.size fam (l : Int) z ∧ Below w.heap.size w wr))
      (fun s _ => 128 - (intOf s).toNat)
    case atStart => exact ⟨l, by omega, by omega, rfl, Lib.hid (fun x h1 h2 => by omega), Lib.hid ⟨HP1.out, HBB.out⟩⟩
    case round =>
      obtain ⟨i, hi0, hi1, rfl, hall, hB⟩ := hrel
      by_cases hi : i < 128
      · have hi' : (i : Int) < 128 := by omega
        have Hb := Lib.hid (HBit.out i hi)
        go_wp2_with (refine load_ag rfl (.tmp 13) rfl rfl hB.out.1 ?_)
        refine (Hb.out _).mono ?_
        rintro e w2 ⟨rfl, hb2⟩
        rw [show z (i / 8) / 2 ^ (7 - i % 8) % 2 = bitZ z i from rfl]
        have HB2 := Lib.hid (show IsPv w2 w.heap.size fam (l : Int) z ∧ Below w.heap.size w w2 from ⟨hB.out.1.below hb2 hB.out.1.lt, hB.out.2.trans (hb2.mono hB.out.2.size)⟩)
        clear hb2
        by_cases hbit : bitZ z i = 0
        · have Hbit := Lib.hid hbit
          rw [hbit]
          clear hbit
          go_wp2
          go_roundw
          case rel => exact ⟨i + 1, by omega, by omega, by go_num, Lib.hid (fun x h1 h2 => by
            by_cases e : x = i
            · subst e; exact Hbit.out
            · exact hall.out x h1 (by omega)), HB2⟩
          case measure => simp only [intOf]; omega
        · have hfin := hno.out i hi0 hi hbit
          have HF := Lib.hid (show decide (Form fam (l : Int) z) = false by simpa using hfin)
          have hone : bitZ z i = 1 := by unfold bitZ at hbit ⊢; omega
          rw [hone]
          clear hone hbit hfin
          go_wp2
          go_ret
          exact ⟨ret_bool HF.out.symm, HB2.out.2⟩
      · obtain rfl : i = 128 := by omega
        have HF := Lib.hid (show decide (Form fam (l : Int) z) = true by simpa using hyes.out (fun x h1 h2 => hall.out x h1 h2))
        go_wp2
        go_ret
        exact ⟨ret_bool HF.out.symm, hB.out.2⟩
  · have hsd := Lib.hid (show decide (Sized fam len) = false by simpa using hs)
    have hf := Lib.hid (show decide (Form fam len z) = false by simpa using fun h : Form fam len z => hs h.1)
    clear hs
    go_enter Try.func75, Try.ntmps75
    go_wp2_with (refine load_pv rfl (.tmp 1) rfl rfl hN.out ?_)
    refine (HS.out _).mono ?_
    rintro e w1 ⟨rfl, hb1⟩
    rw [hsd.out]
    go_wp2
    go_ret
    exact ⟨ret_bool hf.out.symm, ((bself w).alloc (Nat.le_refl _) _).trans (hb1.mono (by simp))⟩
end Go.Proofs.Ytldgfjcdlkbngaa
