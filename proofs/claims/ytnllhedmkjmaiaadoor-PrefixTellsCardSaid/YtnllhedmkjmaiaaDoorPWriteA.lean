/- The text of any prefix: prefix.Write. Each theorem states its conditions. -/
import Derived.Test.YtnllhedmkjmaiaaDoorPSixA
import Derived.Test.YtnllhedmkjmaiaaDoorPFourA
import Derived.Test.YtnllhedmkjmaiaaDoorPNeq
namespace Go.Proofs.YtnllhedmkjmaiaaDoor
open Go.RowKit
set_option linter.unusedVariables false

/-- the text of an address of IPv4 -/
def fourT (y : Nat → Nat) : ByteArray := ⟨(Lib.join ((List.range 4).map fun j => (dec (y j)).data.toList) [46]).toArray⟩
/-- the text of a prefix -/
def wtext (fam : Int) (len : Nat) (y : Nat → Nat) : ByteArray := (if fam = 6 then sixT (grpT y) else fourT y) ++ ⟨#[47]⟩ ++ dec len
theorem bsize (l : List UInt8) : (⟨l.toArray⟩ : ByteArray).size = l.length := by simp [ByteArray.size]
theorem fourT_size (y : Nat → Nat) (hy : ∀ j, y j < 256) : (fourT y).size ≤ 15 := by
  have h0 := dec_len3 (y 0) (hy 0)
  have h1 := dec_len3 (y 1) (hy 1)
  have h2 := dec_len3 (y 2) (hy 2)
  have h3 := dec_len3 (y 3) (hy 3)
  have e : fourT y = ⟨(Lib.join [(dec (y 0)).data.toList, (dec (y 1)).data.toList, (dec (y 2)).data.toList, (dec (y 3)).data.toList] [46]).toArray⟩ := rfl
  rw [e, bsize]
  simp [Lib.join]
  omega
theorem sixT_size (y : Nat → Nat) (hy : ∀ j, y j < 256) : (sixT (grpT y)).size ≤ 2002 := by
  have hbd := lst_bd (grpT y) 8
  have h0 := joinT_len y hy 0 8 (by decide)
  have h1 := joinT_len y hy 0 (lst (grpT y) 8).fr (by omega)
  have h2 := joinT_len y hy (lst (grpT y) 8).be (8 - (lst (grpT y) 8).be) (by omega)
  unfold sixT
  split
  · rw [bsize]; omega
  · rw [ByteArray.size_append, ByteArray.size_append]
    have e : (⟨#[58, 58]⟩ : ByteArray).size = 2 := rfl
    have e1 := bsize (joinT (grpT y) 0 (lst (grpT y) 8).fr)
    have e2 := bsize (joinT (grpT y) (lst (grpT y) 8).be (8 - (lst (grpT y) 8).be))
    omega

/-- what Write reads of the library's variables -/
def Lays2 (w : World) : Prop := 5 < w.heap.size ∧ w.cell? ⟨5, 15, none⟩ = some (.int .u8 4) ∧ Lib.TabIs Tryd.prog w "internal/strconv.uint64pow10" .u64 Lib.pow10Tab
theorem Lays2.below {w w' : World} (h : Lays2 w) (hb : Below w.heap.size w w') : Lays2 w' :=
  ⟨by have := h.1; have := hb.size; omega, (hb.cell (by have := h.1; simp; omega)).trans h.2.1, Lib.tabBelow_of_tabIs h.2.2 w' hb⟩

set_option maxHeartbeats 1000000 in
set_option maxRecDepth 100000 in
theorem write_any (fam : Int) (len : Nat) (y : Nat → Nat) (hy : ∀ j, y j < 256) (w : World) (hf : Form fam (len : Int) (fun j => (y j : Int))) (hL : Lays2 w) :
    Calls Tryd.prog 19 #[.agg (pvC fam (len : Int) (fun j => (y j : Int)))] w fun e w' => e = .returned (.tuple #[.string (wtext fam len y), .int .i64 0]) ∧ Below w.heap.size w w' := by
  have hz : Bytes (fun j => (y j : Int)) := fun j => by have := hy j; show (0 : Int) ≤ (y j : Int) ∧ (y j : Int) ≤ 255; omega
  have HC := Lib.hid (fun W => check_any fam (len : Int) (fun j => (y j : Int)) W hz)
  rw [show checkI fam (len : Int) (fun j => (y j : Int)) = 0 by unfold checkI; rw [if_pos hf]] at HC
  have HL := Lib.hid hL
  have HN := Lib.hid (IsPv.new w fam (len : Int) (fun j => (y j : Int)))
  have hB := Lib.hid ((bself w).alloc (Nat.le_refl _) (.cells (pvC fam (len : Int) (fun j => (y j : Int))) 24))
  have hlen := (sized_le hf.1).2
  have s4 := fourT_size y hy
  have s6 := sixT_size y hy
  have sd := dec_len3 len (by omega)
  clear hL hz
  go_enter Tryd.func19, Tryd.ntmps19
  go_wp2_with (refine load_pv rfl (.tmp 1) rfl rfl HN.out ?_)
  refine (HC.out _).mono ?_
  rintro e1 w1 ⟨rfl, hb1⟩
  have HN1 := Lib.hid (HN.out.below hb1 HN.out.lt)
  have HB1 := Lib.hid (hB.out.trans (hb1.mono hB.out.size))
  clear hb1 HN hB HC
  go_wp2_with (refine load_ag rfl (.tmp 11) rfl rfl HN1.out ?_)
  refine (show Calls Tryd.prog 35 #[.agg (agC (fun j => (y j : Int)))] _ fun e w' => e = .returned (.string (fourT y)) ∧ _ from fourA_any y hy _ (HL.out.below HB1.out).2.2).mono ?_
  rintro e2 w2 ⟨rfl, hb2⟩
  have HN2 := Lib.hid (HN1.out.below hb2 HN1.out.lt)
  have HB2 := Lib.hid (HB1.out.trans (hb2.mono HB1.out.size))
  clear hb2 HN1 HB1
  have f0 := HN2.out.fam
  by_cases h6 : fam = 6
  · have HT := Lib.hid (show wtext fam len y = sixT (grpT y) ++ ⟨#[47]⟩ ++ dec len by unfold wtext; rw [if_pos h6])
    subst h6
    go_wp2_with (refine load_ag rfl (.tmp 17) rfl rfl HN2.out ?_)
    refine (six_any y hy _ (HL.out.below HB2.out).1 (HL.out.below HB2.out).2.1).mono ?_
    rintro e3 w3 ⟨rfl, hb3⟩
    have HN3 := Lib.hid (HN2.out.below hb3 HN2.out.lt)
    have HB3 := Lib.hid (HB2.out.trans (hb3.mono HB2.out.size))
    clear hb3 f0 HN2 HB2
    have f1 := HN3.out.len
    go_wp2_with fail
    refine (itoa_any len (by omega) _ (HL.out.below HB3.out).2.2).mono ?_
    rintro e4 w4 ⟨rfl, hb4⟩
    have HB4 := Lib.hid (HB3.out.trans (hb4.mono HB3.out.size))
    clear hb4 HB3 f1
    go_wp2
    go_ret2
    exact ⟨by rw [HT.out]; rfl, HB4.out⟩
  · have HT := Lib.hid (show wtext fam len y = fourT y ++ ⟨#[47]⟩ ++ dec len by unfold wtext; rw [if_neg h6])
    have h6e : (fam == 6) = false := beq_false_of_ne h6
    have f1 := HN2.out.len
    go_wp2_with fail
    refine (itoa_any len (by omega) _ (HL.out.below HB2.out).2.2).mono ?_
    rintro e4 w4 ⟨rfl, hb4⟩
    have HB4 := Lib.hid (HB2.out.trans (hb4.mono HB2.out.size))
    clear hb4 HB2 f1 f0
    go_wp2
    go_ret2
    exact ⟨by rw [HT.out]; rfl, HB4.out⟩

set_option maxHeartbeats 400000 in
set_option maxRecDepth 100000 in
theorem write_form (fam len : Int) (z : Nat → Int) (hz : Bytes z) (w : World) (hf : ¬ Form fam len z) :
    Calls Tryd.prog 19 #[.agg (pvC fam len z)] w fun e w' => e = .returned (.tuple #[.string ⟨#[]⟩, .int .i64 3]) ∧ Below w.heap.size w w' := by
  have HC := Lib.hid (fun W => check_any fam len z W hz)
  rw [show checkI fam len z = 3 by unfold checkI; rw [if_neg hf]] at HC
  have HN := Lib.hid (IsPv.new w fam len z)
  have hB := Lib.hid ((bself w).alloc (Nat.le_refl _) (.cells (pvC fam len z) 24))
  go_enter Tryd.func19, Tryd.ntmps19
  go_wp2_with (refine load_pv rfl (.tmp 1) rfl rfl HN.out ?_)
  refine (HC.out _).mono ?_
  rintro e1 w1 ⟨rfl, hb1⟩
  have HB1 := Lib.hid (hB.out.trans (hb1.mono hB.out.size))
  clear hb1
  go_wp2
  go_ret2
  exact ⟨rfl, HB1.out⟩
end Go.Proofs.YtnllhedmkjmaiaaDoor
