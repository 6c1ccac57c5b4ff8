/- The texts of 10.1.0.0/16 and ::/0, written. Each theorem states its conditions. -/
import Derived.Test.YtnllhedmkjmaiaaDoorPRead
namespace Go.Proofs.YtnllhedmkjmaiaaDoor
open Go.RowKit
set_option linter.unusedVariables false

def exZ : Nat → Int := fun j => (exY j : Int)
def exT : ByteArray := ⟨#[49, 48, 46, 49, 46, 48, 46, 48, 47, 49, 54]⟩
theorem exZ_bytes : Bytes exZ := by
  intro j
  unfold exZ exY
  split
  · exact ⟨by decide, by decide⟩
  · split <;> exact ⟨by decide, by decide⟩
theorem zero_bytes : Bytes (fun _ => (0 : Int)) := fun j => ⟨Int.le_refl 0, by show (0 : Int) ≤ 255; decide⟩
theorem exForm : Form 4 16 exZ := of_decide_eq_true (by kernel_rfl)
theorem zForm : Form 6 0 (fun _ => (0 : Int)) := of_decide_eq_true (by kernel_rfl)
theorem d10 : dec 10 = ⟨#[49, 48]⟩ := by unfold dec; rw [dec_two 10 (by decide) (by decide)]; rfl
theorem d16 : Lib.decDigits 16 = [49, 54] := by rw [dec_two 16 (by decide) (by decide)]; rfl
theorem d1 : dec 1 = ⟨#[49]⟩ := by unfold dec; rw [dec_one 1 (by decide)]; rfl
theorem d0 : dec 0 = ⟨#[48]⟩ := by unfold dec; rw [dec_one 0 (by decide)]; rfl
theorem exText : (⟨(Lib.join ((List.range 4).map fun j => (dec (exY j)).data.toList) [46]).toArray⟩ : ByteArray) = exS := by
  have : ((List.range 4).map fun j => (dec (exY j)).data.toList) = [(dec 10).data.toList, (dec 1).data.toList, (dec 0).data.toList, (dec 0).data.toList] := rfl
  rw [this, d10, d1, d0]
  rfl
theorem zfour (w : World) : Calls Tryd.prog 35 #[.agg (agC (fun _ => (0 : Int)))] w fun e w' => (∃ t, e = .returned (.string t)) ∧ Below w.heap.size w w' :=
  (four_any (fun _ => 0) (fun j _ => by decide) w).mono fun e w' h => ⟨⟨_, h.1⟩, h.2⟩

set_option maxHeartbeats 1000000 in
set_option maxRecDepth 100000 in
theorem write_four (w : World) :
    Calls Tryd.prog 19 #[.agg (pvC 4 16 exZ)] w fun e w' => e = .returned (.tuple #[.string exT, .int .i64 0]) ∧ Below w.heap.size w w' := by
  have HC := Lib.hid (fun W => check_any 4 16 exZ W exZ_bytes)
  rw [show checkI 4 16 exZ = 0 by unfold checkI; rw [if_pos exForm]] at HC
  have HF := Lib.hid (fun W => four_any exY (fun j hj => by unfold exY; split <;> (try split) <;> decide) W)
  rw [exText] at HF
  have HN := Lib.hid (IsPv.new w 4 16 exZ)
  have hB := Lib.hid ((bself w).alloc (Nat.le_refl _) (.cells (pvC 4 16 exZ) 24))
  go_enter Tryd.func19, Tryd.ntmps19
  go_wp2_with (refine load_pv rfl (.tmp 1) rfl rfl HN.out ?_)
  refine (HC.out _).mono ?_
  rintro e1 w1 ⟨rfl, hb1⟩
  have HN1 := Lib.hid (HN.out.below hb1 HN.out.lt)
  have HB1 := Lib.hid (hB.out.trans (hb1.mono hB.out.size))
  clear hb1
  go_wp2_with (refine load_ag rfl (.tmp 11) rfl rfl HN1.out ?_)
  refine (HF.out _).mono ?_
  rintro e2 w2 ⟨rfl, hb2⟩
  have HN2 := Lib.hid (HN1.out.below hb2 HN1.out.lt)
  have HB2 := Lib.hid (HB1.out.trans (hb2.mono HB1.out.size))
  clear hb2
  have f0 := HN2.out.fam
  have f1 := HN2.out.len
  have hsz : exS.size = 8 := rfl
  have HI := Lib.hid (fun W => Tryd.strconv_Itoa_small 16 (by decide) W)
  rw [d16] at HI
  go_wp2_with fail
  refine (HI.out _).mono ?_
  rintro e3 w3 ⟨rfl, hw3⟩
  have hw4 := hw3.symm
  subst hw4
  go_wp2
  go_ret2
  exact ⟨rfl, HB2.out⟩

set_option maxHeartbeats 1000000 in
set_option maxRecDepth 100000 in
theorem write_six (w : World) (hs : 5 < w.heap.size) (h : w.cell? ⟨5, 15, none⟩ = some (.int .u8 4)) :
    Calls Tryd.prog 19 #[.agg (pvC 6 0 (fun _ => 0))] w fun e w' => e = .returned (.tuple #[.string ⟨#[58, 58, 47, 48]⟩, .int .i64 0]) ∧ Below w.heap.size w w' := by
  have HC := Lib.hid (fun W => check_any 6 0 (fun _ => 0) W zero_bytes)
  rw [show checkI 6 0 (fun _ => 0) = 0 by unfold checkI; rw [if_pos zForm]] at HC
  have HN := Lib.hid (IsPv.new w 6 0 (fun _ => 0))
  have hB := Lib.hid ((bself w).alloc (Nat.le_refl _) (.cells (pvC 6 0 (fun _ => 0)) 24))
  go_enter Tryd.func19, Tryd.ntmps19
  go_wp2_with (refine load_pv rfl (.tmp 1) rfl rfl HN.out ?_)
  refine (HC.out _).mono ?_
  rintro e1 w1 ⟨rfl, hb1⟩
  have HN1 := Lib.hid (HN.out.below hb1 HN.out.lt)
  have HB1 := Lib.hid (hB.out.trans (hb1.mono hB.out.size))
  clear hb1
  go_wp2_with (refine load_ag rfl (.tmp 11) rfl rfl HN1.out ?_)
  refine (zfour _).mono ?_
  rintro e2 w2 ⟨⟨t, rfl⟩, hb2⟩
  have HN2 := Lib.hid (HN1.out.below hb2 HN1.out.lt)
  have HB2 := Lib.hid (HB1.out.trans (hb2.mono HB1.out.size))
  clear hb2
  have f0 := HN2.out.fam
  go_wp2_with (refine load_ag rfl (.tmp 17) rfl rfl HN2.out ?_)
  have hsz2 := HB2.out.size
  refine (six_ex _ (by omega) ((HB2.out.cell (by simp; omega)).trans h)).mono ?_
  rintro e3 w3 ⟨rfl, hb3⟩
  have HN3 := Lib.hid (HN2.out.below hb3 HN2.out.lt)
  have HB3 := Lib.hid (HB2.out.trans (hb3.mono HB2.out.size))
  clear hb3 f0
  have f1 := HN3.out.len
  have HI := Lib.hid (fun W => Tryd.strconv_Itoa_small 0 (by decide) W)
  rw [show Lib.decDigits 0 = [48] from dec_one 0 (by decide)] at HI
  go_wp2_with fail
  refine (HI.out _).mono ?_
  rintro e4 w4 ⟨rfl, hw4⟩
  have hw5 := hw4.symm
  subst hw5
  go_wp2
  go_ret2
  exact ⟨rfl, HB3.out⟩
end Go.Proofs.YtnllhedmkjmaiaaDoor
