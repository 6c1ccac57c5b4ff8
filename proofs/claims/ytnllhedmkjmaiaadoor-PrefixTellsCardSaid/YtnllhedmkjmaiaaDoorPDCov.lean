/- DocCovers. Each theorem states its conditions. -/
import Derived.Test.YtnllhedmkjmaiaaDoorPSame
namespace Go.Proofs.YtnllhedmkjmaiaaDoor
open Go.RowKit
set_option linter.unusedVariables false

section
variable {ops : Array Oper} {rest : List Oper} {op : Oper} {a : Act} {w : World} {Q : Exit → Act → World → Prop} {b : Nat} {fam len : Int} {z : Nat → Int}
/-- a prefix is read whole, behind a guard that lets it -/
theorem load_pv_w (hw : Region.wanted op (yielded ops a.tmps) = true) (x : Operand) (ho : op.op = .load 24 x) (hx : a.eval x = .pointer (some ⟨b, 0, none⟩)) (hc : IsPv w b fam len z)
    (h : wpList Tryd.prog ops Q rest (a.put op.dst (.agg (pvC fam len z))) w) : wpList Tryd.prog ops Q (op :: rest) a w :=
  wpList_step fun K hK => by
    rw [if_pos hw]
    exact wp_load_mid 24 x ho b 0 hx (pvC fam len z).toList _ hc.range Tryd.underlying24 rfl (hi_pv fam len z) (hK _ _ (by simpa using h))
end

set_option maxHeartbeats 400000 in
set_option maxRecDepth 100000 in
theorem dcov_p (fam len : Int) (z : Nat → Int) (fam' len' : Int) (z' : Nat → Int) (w : World) (hz : Bytes z) (hz' : Bytes z') (hf : ¬ Form fam len z) :
    Calls Tryd.prog 16 #[.agg (pvC fam len z), .agg (pvC fam' len' z')] w fun e w' => e = .returned (.tuple #[.bool false, .int .i64 3]) ∧ Below w.heap.size w w' := by
  have HP := Lib.hid (v2_p fam len z fam' len' z' w)
  have hB := Lib.hid (v2_below fam len z fam' len' z' w)
  have H1 := Lib.hid (fun W => form_any fam len z W hz)
  rw [show decide (Form fam len z) = false by simpa using hf] at H1
  clear hf
  go_enter Tryd.func16, Tryd.ntmps16
  go_wp2_with (refine load_pv rfl (.tmp 2) rfl rfl HP.out ?_)
  refine (H1.out _).mono ?_
  rintro e w1 ⟨rfl, hb1⟩
  have HB1 := Lib.hid (hB.out.trans (hb1.mono hB.out.size))
  clear hb1
  go_wp2_with fail
  go_ret2
  exact ⟨rfl, HB1.out⟩
set_option maxHeartbeats 400000 in
set_option maxRecDepth 100000 in
theorem dcov_q (fam len : Int) (z : Nat → Int) (fam' len' : Int) (z' : Nat → Int) (w : World) (hz : Bytes z) (hz' : Bytes z') (hf : Form fam len z) (hf' : ¬ Form fam' len' z') :
    Calls Tryd.prog 16 #[.agg (pvC fam len z), .agg (pvC fam' len' z')] w fun e w' => e = .returned (.tuple #[.bool false, .int .i64 3]) ∧ Below w.heap.size w w' := by
  have HP := Lib.hid (v2_p fam len z fam' len' z' w)
  have HQ := Lib.hid (v2_q fam len z fam' len' z' w)
  have hB := Lib.hid (v2_below fam len z fam' len' z' w)
  have H1 := Lib.hid (fun W => form_any fam len z W hz)
  have H2 := Lib.hid (fun W => form_any fam' len' z' W hz')
  rw [show decide (Form fam len z) = true by simpa using hf] at H1
  rw [show decide (Form fam' len' z') = false by simpa using hf'] at H2
  clear hf hf'
  go_enter Tryd.func16, Tryd.ntmps16
  go_wp2_with (refine load_pv rfl (.tmp 2) rfl rfl HP.out ?_)
  refine (H1.out _).mono ?_
  rintro e w1 ⟨rfl, hb1⟩
  have HB1 := Lib.hid (hB.out.trans (hb1.mono hB.out.size))
  have HQ1 := Lib.hid (HQ.out.below hb1 HQ.out.lt)
  clear hb1
  go_wp2_with (refine load_pv_w (by rfl) (.tmp 3) rfl rfl HQ1.out ?_)
  refine (H2.out _).mono ?_
  rintro e w2 ⟨rfl, hb2⟩
  have HB2 := Lib.hid (HB1.out.trans (hb2.mono HB1.out.size))
  clear hb2
  go_wp2_with fail
  go_ret2
  exact ⟨rfl, HB2.out⟩
set_option maxHeartbeats 400000 in
set_option maxRecDepth 100000 in
theorem dcov_ok (fam len : Int) (z : Nat → Int) (fam' len' : Int) (z' : Nat → Int) (w : World) (hz : Bytes z) (hz' : Bytes z') (hf : Form fam len z) (hf' : Form fam' len' z') (b : Bool)
    (hc : ∀ W, Calls Tryd.prog 29 #[.agg (pvC fam len z), .agg (pvC fam' len' z')] W fun e w' => e = .returned (.bool b) ∧ Below W.heap.size W w') :
    Calls Tryd.prog 16 #[.agg (pvC fam len z), .agg (pvC fam' len' z')] w fun e w' => e = .returned (.tuple #[.bool b, .int .i64 0]) ∧ Below w.heap.size w w' := by
  have HP := Lib.hid (v2_p fam len z fam' len' z' w)
  have HQ := Lib.hid (v2_q fam len z fam' len' z' w)
  have hB := Lib.hid (v2_below fam len z fam' len' z' w)
  have H1 := Lib.hid (fun W => form_any fam len z W hz)
  have H2 := Lib.hid (fun W => form_any fam' len' z' W hz')
  have H3 := Lib.hid hc
  rw [show decide (Form fam len z) = true by simpa using hf] at H1
  rw [show decide (Form fam' len' z') = true by simpa using hf'] at H2
  clear hf hf' hc
  go_enter Tryd.func16, Tryd.ntmps16
  go_wp2_with (refine load_pv rfl (.tmp 2) rfl rfl HP.out ?_)
  refine (H1.out _).mono ?_
  rintro e w1 ⟨rfl, hb1⟩
  have HB1 := Lib.hid (hB.out.trans (hb1.mono hB.out.size))
  have HP1 := Lib.hid (HP.out.below hb1 HP.out.lt)
  have HQ1 := Lib.hid (HQ.out.below hb1 HQ.out.lt)
  clear hb1
  go_wp2_with (refine load_pv_w (by rfl) (.tmp 3) rfl rfl HQ1.out ?_)
  refine (H2.out _).mono ?_
  rintro e w2 ⟨rfl, hb2⟩
  have HB2 := Lib.hid (HB1.out.trans (hb2.mono HB1.out.size))
  have HP2 := Lib.hid (HP1.out.below hb2 HP1.out.lt)
  have HQ2 := Lib.hid (HQ1.out.below hb2 HQ1.out.lt)
  clear hb2
  go_wp2_with (first | (refine load_pv rfl (.tmp 2) rfl rfl HP2.out ?_) | (refine load_pv rfl (.tmp 3) rfl rfl HQ2.out ?_))
  refine (H3.out _).mono ?_
  rintro e w3 ⟨rfl, hb3⟩
  have HB3 := Lib.hid (HB2.out.trans (hb3.mono HB2.out.size))
  clear hb3
  go_wp2_with fail
  go_ret2
  exact ⟨rfl, HB3.out⟩

/-- the code's Covers and the document's say one and the same -/
theorem covers_one (fam len : Int) (z : Nat → Int) (fam' len' : Int) (z' : Nat → Int) (hz : Bytes z) (hz' : Bytes z') :
    ∃ (b : Bool) (e : Int), (∀ w, Calls Tryd.prog 15 #[.agg (pvC fam len z), .agg (pvC fam' len' z')] w fun r w' => r = .returned (.tuple #[.bool b, .int .i64 e]) ∧ Below w.heap.size w w')
      ∧ (∀ w, Calls Tryd.prog 16 #[.agg (pvC fam len z), .agg (pvC fam' len' z')] w fun r w' => r = .returned (.tuple #[.bool b, .int .i64 e]) ∧ Below w.heap.size w w') := by
  by_cases hf : Form fam len z
  · by_cases hf' : Form fam' len' z'
    · by_cases hfam : fam = fam'
      · subst hfam
        by_cases hlen : len ≤ len'
        · have h0 : 0 ≤ len := by have := hf.1; unfold Sized at this; omega
          obtain ⟨l, rfl⟩ := Int.eq_ofNat_of_zero_le h0
          have h128 : l ≤ 128 := by have := hf.1; unfold Sized at this; omega
          have key := covers_bits fam l z z' hz hz' hf
          by_cases hs : Same16 (firstZ z' l) z
          · refine ⟨true, 0, fun w => covers_yes fam l len' z z' w hz hz' ⟨hf, hf'⟩ hlen hs, fun w => dcov_ok fam (l : Int) z fam len' z' w hz hz' hf hf' true (fun W => ?_)⟩
            have := rcov_same fam l len' z z' W hz hz' h128 hlen
            rw [show decide (SameTo l z z') = true by simpa using key.1 hs] at this
            exact this
          · refine ⟨false, 0, fun w => covers_no fam l len' z z' w hz hz' ⟨hf, hf'⟩ hlen hs, fun w => dcov_ok fam (l : Int) z fam len' z' w hz hz' hf hf' false (fun W => ?_)⟩
            have := rcov_same fam l len' z z' W hz hz' h128 hlen
            rw [show decide (SameTo l z z') = false by simpa using fun h => hs (key.2 h)] at this
            exact this
        · exact ⟨false, 0, fun w => covers_len fam len len' z z' w hz hz' ⟨hf, hf'⟩ (by omega), fun w => dcov_ok fam len z fam len' z' w hz hz' hf hf' false (fun W => rcov_len fam len len' z z' W (by omega))⟩
      · exact ⟨false, 0, fun w => covers_fam fam len fam' len' z z' w hz hz' ⟨hf, hf'⟩ hfam, fun w => dcov_ok fam len z fam' len' z' w hz hz' hf hf' false (fun W => rcov_fam fam len fam' len' z z' W hfam)⟩
    · exact ⟨false, 3, fun w => covers_form fam len z fam' len' z' w hz hz' (fun h => hf' h.2), fun w => dcov_q fam len z fam' len' z' w hz hz' hf hf'⟩
  · exact ⟨false, 3, fun w => covers_form fam len z fam' len' z' w hz hz' (fun h => hf h.1), fun w => dcov_p fam len z fam' len' z' w hz hz' hf⟩
end Go.Proofs.YtnllhedmkjmaiaaDoor
