/- Two texts put together; each theorem states its conditions. -/
import Derived.Test.YtjnbemopfhinbaaPFirst
import Derived.Deep.MidRow
import Derived.Laws.Tables
import Derived.Laws.Rows
import Derived.Laws.ResultCell
import Derived.Test.YtjnbemopfhinbaaBlk
/- Two texts put together; each theorem states its conditions. -/
/- A prefix and an address as values whose cells the walk need not look at. Each theorem states its conditions. -/
namespace Go.Proofs.Ytjnbemopfhinbaa
open Go.RowKit
set_option linter.unusedVariables false

/-- an address's cells -/
def agC (z : Nat → Int) : Array Value := ag z
/-- a prefix's cells -/
def pvC (fam len : Int) (z : Nat → Int) : Array Value := #[.int .u8 fam, .int .i64 len, .int .u8 (z 0), .int .u8 (z 1), .int .u8 (z 2), .int .u8 (z 3), .int .u8 (z 4), .int .u8 (z 5), .int .u8 (z 6), .int .u8 (z 7), .int .u8 (z 8), .int .u8 (z 9), .int .u8 (z 10), .int .u8 (z 11), .int .u8 (z 12), .int .u8 (z 13), .int .u8 (z 14), .int .u8 (z 15)]
theorem pv_eq (fam len : Int) (z : Nat → Int) : pv fam len z = .agg (pvC fam len z) := rfl
theorem agC_size (z : Nat → Int) : (agC z).size = 16 := rfl
theorem agC_at (z : Nat → Int) (j : Nat) (hj : j < 16) : (agC z)[j]? = some (.int .u8 (z j)) := by
  rcases (by omega : j = 0 ∨ j = 1 ∨ j = 2 ∨ j = 3 ∨ j = 4 ∨ j = 5 ∨ j = 6 ∨ j = 7 ∨ j = 8 ∨ j = 9 ∨ j = 10 ∨ j = 11 ∨ j = 12 ∨ j = 13 ∨ j = 14 ∨ j = 15) with rfl | rfl | rfl | rfl | rfl | rfl | rfl | rfl | rfl | rfl | rfl | rfl | rfl | rfl | rfl | rfl <;> rfl
theorem pvC_0 (fam len : Int) (z : Nat → Int) : (pvC fam len z)[0]? = some (.int .u8 fam) := rfl
theorem pvC_1 (fam len : Int) (z : Nat → Int) : (pvC fam len z)[1]? = some (.int .i64 len) := rfl
theorem pvC_at (fam len : Int) (z : Nat → Int) (j : Nat) (hj : j < 16) : (pvC fam len z)[2 + j]? = some (.int .u8 (z j)) := by
  rcases (by omega : j = 0 ∨ j = 1 ∨ j = 2 ∨ j = 3 ∨ j = 4 ∨ j = 5 ∨ j = 6 ∨ j = 7 ∨ j = 8 ∨ j = 9 ∨ j = 10 ∨ j = 11 ∨ j = 12 ∨ j = 13 ∨ j = 14 ∨ j = 15) with rfl | rfl | rfl | rfl | rfl | rfl | rfl | rfl | rfl | rfl | rfl | rfl | rfl | rfl | rfl | rfl <;> rfl
theorem agC_ext {C : Array Value} {z : Nat → Int} (hs : C.size = 16) (h : ∀ j, j < 16 → C[j]? = some (.int .u8 (z j))) : C = agC z := by
  apply Array.ext_getElem?
  intro i
  by_cases hi : i < 16
  · rw [h i hi, agC_at z i hi]
  · rw [Array.getElem?_eq_none (by omega), Array.getElem?_eq_none (by rw [agC_size]; omega)]

/-- block b holds a prefix -/
def IsPv (w : World) (b : Nat) (fam len : Int) (z : Nat → Int) : Prop := w.heap[b]? = some (.cells (pvC fam len z) 32 (0, 0))
theorem IsPv.new (w : World) (fam len : Int) (z : Nat → Int) : IsPv (w.alloc (.cells (pvC fam len z) 32)) w.heap.size fam len z := heap_alloc_new w _
theorem IsPv.lt {w : World} {b : Nat} {fam len : Int} {z : Nat → Int} (h : IsPv w b fam len z) : b < w.heap.size := (Array.getElem?_eq_some_iff.1 h).1
theorem IsPv.below {w w' : World} {b B : Nat} {fam len : Int} {z : Nat → Int} (h : IsPv w b fam len z) (hb : Below B w w') (hB : b < B) : IsPv w' b fam len z := (hb.block b hB).trans h
theorem IsPv.fam {w : World} {b : Nat} {fam len : Int} {z : Nat → Int} (h : IsPv w b fam len z) : w.cell? ⟨b, 0, none⟩ = some (.int .u8 fam) := (cell_of_row w b 0 _ _ _ h).trans (pvC_0 fam len z)
theorem IsPv.len {w : World} {b : Nat} {fam len : Int} {z : Nat → Int} (h : IsPv w b fam len z) : w.cell? ⟨b, 1, none⟩ = some (.int .i64 len) := (cell_of_row w b 1 _ _ _ h).trans (pvC_1 fam len z)
theorem IsPv.at {w : World} {b : Nat} {fam len : Int} {z : Nat → Int} (h : IsPv w b fam len z) (j : Nat) (hj : j < 16) : w.cell? ⟨b, 2 + j, none⟩ = some (.int .u8 (z j)) := (cell_of_row w b (2 + j) _ _ _ h).trans (pvC_at fam len z j hj)
theorem IsPv.range {w : World} {b : Nat} {fam len : Int} {z : Nat → Int} (h : IsPv w b fam len z) : w.rangeAt b 0 (pvC fam len z).toList := by
  intro j v hv
  rw [Nat.zero_add, cell_of_row w b j _ _ _ h]
  simpa using hv
theorem IsPv.addr {w : World} {b : Nat} {fam len : Int} {z : Nat → Int} (h : IsPv w b fam len z) : w.rangeAt b 2 (agC z).toList := by
  intro j v hv
  have hj : j < 16 := by
    rcases Nat.lt_or_ge j 16 with h | h
    · exact h
    · rw [List.getElem?_eq_none (by rw [Array.length_toList, agC_size]; omega)] at hv; cases hv
  have := agC_at z j hj
  rw [Array.getElem?_toList, this] at hv
  rw [h.at j hj]
  exact hv
theorem info_pv : (Try.prog.info? 32).map (·.size) = some 18 := by kernel_rfl
theorem info_ag : (Try.prog.info? 23).map (·.size) = some 16 := by kernel_rfl
theorem hi_pv (fam len : Int) (z : Nat → Int) : (Try.prog.info? 32).map (·.size) = some (pvC fam len z).toList.length := by rw [info_pv]; rfl
theorem hi_ag (z : Nat → Int) : (Try.prog.info? 23).map (·.size) = some (agC z).toList.length := by rw [info_ag]; rfl

section
variable {ops : Array Oper} {rest : List Oper} {op : Oper} {a : Act} {w : World} {Q : Exit → Act → World → Prop} {b : Nat} {fam len : Int} {z : Nat → Int}
/-- a prefix is read whole -/
theorem load_pv (hgd : op.guard = none) (x : Operand) (ho : op.op = .load 32 x) (hx : a.eval x = .pointer (some ⟨b, 0, none⟩)) (hc : IsPv w b fam len z)
    (h : wpList Try.prog ops Q rest (a.put op.dst (.agg (pvC fam len z))) w) : wpList Try.prog ops Q (op :: rest) a w :=
  wpList_load_mid hgd 32 x ho b 0 hx (pvC fam len z).toList _ hc.range Try.underlying32 rfl (hi_pv fam len z) (by simpa using h)
/-- a prefix's address is read whole -/
theorem load_ag (hgd : op.guard = none) (x : Operand) (ho : op.op = .load 23 x) (hx : a.eval x = .pointer (some ⟨b, 2, none⟩)) (hc : IsPv w b fam len z)
    (h : wpList Try.prog ops Q rest (a.put op.dst (.agg (agC z))) w) : wpList Try.prog ops Q (op :: rest) a w :=
  wpList_load_mid hgd 23 x ho b 2 hx (agC z).toList _ hc.addr Try.underlying23 rfl (hi_ag z) (by simpa using h)
end


section
variable {ops : Array Oper} {rest : List Oper} {op : Oper} {a : Act} {w : World} {Q : Exit → Act → World → Prop} {b : Nat}
/-- a whole variable of the call's own is written -/
theorem store_blk {ty : TypeId} {cells old : Array Value} (hgd : op.guard = none) (x y : Operand) (ho : op.op = .store ty x y) (hx : a.eval x = .pointer (some ⟨b, 0, none⟩)) (hy : a.eval y = .agg cells)
    (hg : w.heap[b]? = some (.cells old ty (0, 0))) (hi : (Try.prog.info? ty).map (·.size) = some cells.size) (hs : old.size = cells.size) (h1 : cells.all (·.oneCell') = true)
    (h : ∀ w', w'.heap[b]? = some (.cells cells ty (0, 0)) → (∀ B, B ≤ b → Below B w w') → (∀ k, k ≠ b → w'.heap[k]? = w.heap[k]?) → wpList Try.prog ops Q rest (a.put op.dst undef) w') : wpList Try.prog ops Q (op :: rest) a w := by
  refine wpList_plain hgd fun K hK => ?_
  have hrun := run_storeVar_row (P := Try.prog) w b ty ty old cells hg hi hs h1
  unfold Oper.wp execOp
  simp only [ho, hx, hy, Instr.storeAt, Instr.sureAddr, Sem.run_bind, Sem.run_pure, Result.andThen_ok, hrun]
  exact hK _ _ (h _ (setRow_heap w b old cells ty (0, 0) hg) (fun B hB => ⟨rfl, rfl, rfl, by simp [World.setRow], fun k hk => setRow_other w b k cells (by omega)⟩) (fun k hk => setRow_other w b k cells hk))
end
end Go.Proofs.Ytjnbemopfhinbaa
/- Steps by hand: the laws of AHand beside a prefix as a value. -/
namespace Go.Proofs.Ytjnbemopfhinbaa
end Go.Proofs.Ytjnbemopfhinbaa
/- The document's Form. Each theorem states its conditions. -/
namespace Go.Proofs.Ytjnbemopfhinbaa
open Go.RowKit
set_option linter.unusedVariables false

set_option maxHeartbeats 2000000 in
theorem form_any (fam len : Int) (z : Nat → Int) (w : World) (hz : Bytes z) :
    Calls Try.prog 75 #[.agg (pvC fam len z)] w fun e w' => e = .returned (.bool (decide (Form fam len z))) ∧ Below w.heap.size w w' := by
  have HS := Lib.hid (sized_any fam len z)
  rw [pv_eq] at HS
  have hN := Lib.hid (IsPv.new w fam len z)
  by_cases hs : Sized fam len
  · have h0 : 0 ≤ len := by unfold Sized at hs; omega
    have h1 : len ≤ 128 := by unfold Sized at hs; omega
    obtain ⟨l, rfl⟩ := Int.eq_ofNat_of_zero_le h0
    have hl : l ≤ 128 := by omega
    have hsd := Lib.hid (show decide (Sized fam (l : Int)) = true by simpa using hs)
    have hyes := Lib.hid (fun (h : ∀ i, l ≤ i → i < 128 → bitZ z i = 0) => show Form fam (l : Int) z from ⟨hs, by simpa using (form_bits z hz l hl).2 h⟩)
    have hno := Lib.hid (fun (i : Nat) (h1 : l ≤ i) (h2 : i < 128) (h3 : bitZ z i ≠ 0) => show ¬ Form fam (l : Int) z from fun h => h3 ((form_bits z hz l hl).1 (by simpa using h.2) i h1 h2))
    have HBit := Lib.hid (fun (i : Nat) (hi : i < 128) (W : World) => bit_any z (i / 8) (i % 8) (by omega) (by omega) W hz (i : Int) (by omega))
    rw [show ag z = agC z from rfl] at HBit
    clear hs h0 h1
    go_enter Try.func75, Try.ntmps75
    go_wp2_with (refine load_pv rfl (.tmp 1) rfl rfl hN.out ?_)
    refine (HS.out _).mono ?_
    rintro e w1 ⟨rfl, hb1⟩
    rw [hsd.out]
    have hB1 : Below (w.heap.size + 1) (w.alloc (.cells (pvC fam (l : Int) z) 32)) w1 := by simpa using hb1
    have HP1 := Lib.hid (hN.out.below hB1 (Nat.lt_succ_self _))
    have HBB := Lib.hid (((bself w).alloc (Nat.le_refl _) (.cells (pvC fam (l : Int) z) 32)).trans (hB1.mono (Nat.le_succ _)))
    have c0 := HP1.out.len
    clear hb1 hB1
    go_wp2_with fail
    clear c0
    go_loopw [3] (fun s wr => ∃ i : Nat, l ≤ i ∧ i ≤ 128 ∧ s = .int .i64 i ∧ Hid (∀ x, l ≤ x → x < i → bitZ z x = 0) ∧ Hid (IsPv wr w.heap.size fam (l : Int) z ∧ Below w.heap.size w wr))
      (fun s _ => 128 - (intOf s).toNat)
    case atStart => exact ⟨l, by omega, by omega, rfl, Lib.hid (fun x h1 h2 => by omega), Lib.hid ⟨HP1.out, HBB.out⟩⟩
    case round =>
      obtain ⟨i, hi0, hi1, rfl, hall, hB⟩ := hrel
      by_cases hi : i < 128
      · have hi' : (i : Int) < 128 := by omega
        have Hb := Lib.hid (HBit.out i hi)
        go_wp2_with (refine load_ag rfl (.tmp 13) rfl rfl hB.out.1 ?_)
        refine (Hb.out _).mono ?_
        rintro e w2 ⟨rfl, hb2⟩
        rw [show z (i / 8) / 2 ^ (7 - i % 8) % 2 = bitZ z i from rfl]
        have HB2 := Lib.hid (show IsPv w2 w.heap.size fam (l : Int) z ∧ Below w.heap.size w w2 from ⟨hB.out.1.below hb2 hB.out.1.lt, hB.out.2.trans (hb2.mono hB.out.2.size)⟩)
        clear hb2
        by_cases hbit : bitZ z i = 0
        · have Hbit := Lib.hid hbit
          rw [hbit]
          clear hbit
          go_wp2
          go_roundw
          case rel => exact ⟨i + 1, by omega, by omega, by go_num, Lib.hid (fun x h1 h2 => by
            by_cases e : x = i
            · subst e; exact Hbit.out
            · exact hall.out x h1 (by omega)), HB2⟩
          case measure => simp only [intOf]; omega
        · have hfin := hno.out i hi0 hi hbit
          have HF := Lib.hid (show decide (Form fam (l : Int) z) = false by simpa using hfin)
          have hone : bitZ z i = 1 := by unfold bitZ at hbit ⊢; omega
          rw [hone]
          clear hone hbit hfin
          go_wp2
          go_ret
          exact ⟨ret_bool HF.out.symm, HB2.out.2⟩
      · obtain rfl : i = 128 := by omega
        have HF := Lib.hid (show decide (Form fam (l : Int) z) = true by simpa using hyes.out (fun x h1 h2 => hall.out x h1 h2))
        go_wp2
        go_ret
        exact ⟨ret_bool HF.out.symm, hB.out.2⟩
  · have hsd := Lib.hid (show decide (Sized fam len) = false by simpa using hs)
    have hf := Lib.hid (show decide (Form fam len z) = false by simpa using fun h : Form fam len z => hs h.1)
    clear hs
    go_enter Try.func75, Try.ntmps75
    go_wp2_with (refine load_pv rfl (.tmp 1) rfl rfl hN.out ?_)
    refine (HS.out _).mono ?_
    rintro e w1 ⟨rfl, hb1⟩
    rw [hsd.out]
    go_wp2
    go_ret
    exact ⟨ret_bool hf.out.symm, ((bself w).alloc (Nat.le_refl _) _).trans (hb1.mono (by simp))⟩
end Go.Proofs.Ytjnbemopfhinbaa
