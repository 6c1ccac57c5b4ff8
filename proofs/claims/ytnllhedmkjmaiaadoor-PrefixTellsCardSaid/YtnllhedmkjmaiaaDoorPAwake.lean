/- The document's examples, run: waymarklaw03.awake returns true. Conditions: the library's variable MaxLen holds a number, its table of math/bits holds 4 at the place 15. -/
import Derived.Test.YtnllhedmkjmaiaaDoorPParse
import Derived.Defers
import Derived.Recover
namespace Go.Proofs.YtnllhedmkjmaiaaDoor
open Go.RowKit
set_option linter.unusedVariables false

/-- the deferred closure of Parse, where nothing panics -/
theorem catch_idle (p q : Addr) (w : World) :
    CallsD Tryd.prog 39 #[.pointer (some p), .pointer (some q)] .returning w fun e u' w' => e = .returned (.tuple #[]) ∧ u' = .returning ∧ w' = w := by
  refine callsD_of_wpS Tryd.func39 rfl fun c₀ cs hu => ?_
  apply wpS_seq
  apply wpS_region
  simp [wpOpsS, go_sem, recoverD, hu, Tryd.ntmps39, Exit.thenS]
  refine wpS_of_wp ?_
  go_wp2
  cases c₀
  simp_all [bodyPostS, results, Tryd.results39]

theorem results_cell_cell {fn : Func} {p u : Tmp} {ty ty' : TypeId} (h : fn.results = #[.cell p ty, .cell u ty']) (tmps : Array Value) (P : Program) (w : World) :
    (results fn tmps).run P w =
      ((asAddr (tmps.getD p undef)).run P w).andThen fun a w₁ => ((loadVar ty a).run P w₁).andThen fun v w₂ => ((asAddr (tmps.getD u undef)).run P w₂).andThen fun a' w₃ => ((loadVar ty' a').run P w₃).andThen fun v' w₄ => .ok (.tuple #[v, v']) w₄ := by
  simp only [results, h]
  simp [Sem.run_bind, Result.andThen]
theorem results_pe {fn : Func} {p u : Tmp} (h : fn.results = #[.cell p 24, .cell u 25]) (tmps : Array Value) (W : World) (g g' : Nat) (fam len : Int) (z : Nat → Int) (n : Int)
    (hp : tmps.getD p undef = .pointer (some ⟨g, 0, none⟩)) (hu : tmps.getD u undef = .pointer (some ⟨g', 0, none⟩)) (hg : IsPv W g fam len z) (hc : W.cell? ⟨g', 0, none⟩ = some (.int .i64 n)) :
    (results fn tmps).run Tryd.prog W = .ok (.tuple #[.agg (pvC fam len z), .int .i64 n]) W := by
  have h1 := run_loadVar_row (P := Tryd.prog) W g 24 24 (pvC fam len z) (0, 0) _ hg Tryd.underlying24 rfl info_pv
  have h2 : (loadVar 25 ⟨g', 0, none⟩).run Tryd.prog W = .ok (.int .i64 n) W := by simp [go_sem, hc]
  rw [results_cell_cell h, hp, hu]
  simp [asAddr, h1, h2, Result.andThen]

set_option maxHeartbeats 1000000 in
set_option maxRecDepth 100000 in
theorem parse_ex (m : Int) (w : World) (hm : w.cell? ⟨0, 0, none⟩ = some (.int .i64 m)) (hs : 5 < w.heap.size) :
    Calls Tryd.prog 21 #[.string exT] w fun e w' => e = .returned (.tuple #[.agg (pvC 4 16 exZ), .int .i64 0]) ∧ Below w.heap.size w w' := by
  have hmf : ∀ (fn : Fn) (first cap : Array Value) (w : World), (Instr.makeFunc fn first cap).run Tryd.prog w = .ok (.func fn first cap) w := fun _ _ _ _ => rfl
  have HR := Lib.hid ((IsPv.new w 0 0 Z0).below ((bself _).alloc (Nat.le_refl _) (.cells #[.int .i64 0] 25)) (IsPv.new w 0 0 Z0).lt)
  have hB := Lib.hid (((bself w).alloc (Nat.le_refl _) (.cells (pvC 0 0 Z0) 24)).alloc (by simp) (.cells #[.int .i64 0] 25))
  go_enter_defers Tryd.func21, Tryd.ntmps21
  go_wp2_with fail
  refine (read_ex m _ (by rw [World.cell?_alloc_lt _ _ _ (by simp), World.cell?_alloc_lt _ _ _ (by simp; omega)]; exact hm) (by simp; omega)).mono ?_
  rintro e w1 ⟨rfl, hb1⟩
  have HR1 := Lib.hid (HR.out.below hb1 HR.out.lt)
  have hE0 : ((w.alloc (.cells (pvC 0 0 Z0) 24)).alloc (.cells #[.int .i64 0] 25)).heap[w.heap.size + 1]? = some (.cells #[.int .i64 0] 25 (0, 0)) := by
    have := heap_alloc_new (w.alloc (.cells (pvC 0 0 Z0) 24)) (.cells #[.int .i64 0] 25)
    rw [World.size_alloc] at this
    exact this
  have HE1 := Lib.hid ((hb1.block (w.heap.size + 1) (by simp only [World.size_alloc]; omega)).trans hE0)
  have HB1 := Lib.hid (hB.out.trans (hb1.mono hB.out.size))
  clear hb1 hE0 HR hB
  have hall := Lib.hid (all_pv 4 16 exZ)
  go_wp2_with (first | (refine store_blk rfl (.tmp 2) (.tmp 6) (cells := pvC 4 16 exZ) rfl rfl rfl HR1.out info_pv rfl hall.out ?_; intro w2 hg2 hb2 ho2; refine Hid.out ?_))
  refine Lib.hid ?_
  have hE2 := (ho2 (w.heap.size + 1) (by omega)).trans HE1.out
  have hc2 : w2.cell? ⟨w.heap.size + 1, 0, none⟩ = some (.int .i64 0) := cell_of_row w2 _ 0 _ _ _ hE2
  have hf2 : w2.frozen? ⟨w.heap.size + 1, 0, none⟩ = false := by simp [World.frozen?, hE2]
  have HB2 := Lib.hid (HB1.out.trans (hb2 w.heap.size (Nat.le_refl _)))
  have HP2 := Lib.hid (show IsPv w2 w.heap.size 4 16 exZ from hg2)
  clear hg2 hb2 ho2 hall
  go_wp2_with fail
  have hP3 : IsPv (w2.setCell ⟨w.heap.size + 1, 0, none⟩ (.int .i64 0)) w.heap.size 4 16 exZ := (Below.heap_setCell _ _ _ _ (by show w.heap.size ≠ w.heap.size + 1; omega)).trans HP2.out
  have hc3 : (w2.setCell ⟨w.heap.size + 1, 0, none⟩ (.int .i64 0)).cell? ⟨w.heap.size + 1, 0, none⟩ = some (.int .i64 0) := World.cell?_setCell_same' w2 _ _ (by rw [hc2]; rfl)
  have hb3 : Below w.heap.size w (w2.setCell ⟨w.heap.size + 1, 0, none⟩ (.int .i64 0)) := HB2.out.setCell (Nat.le_succ _) _
  generalize w2.setCell ⟨w.heap.size + 1, 0, none⟩ (.int .i64 0) = w3 at *
  refine leaves_cons (f := 39) (args := #[.pointer (some ⟨w.heap.size, 0, none⟩), .pointer (some ⟨w.heap.size + 1, 0, none⟩)]) (by simp) (by simp [go_sem]) ?_
  refine (catch_idle ⟨w.heap.size, 0, none⟩ ⟨w.heap.size + 1, 0, none⟩ _).mono ?_
  rintro e u' w'' ⟨rfl, rfl, rfl⟩
  exact ⟨_, results_pe rfl _ _ w.heap.size (w.heap.size + 1) 4 16 exZ 0 rfl rfl hP3 hc3, rfl, hb3⟩

/-- what the example reads of the library's variables -/
def Lays (w : World) (m : Int) : Prop := w.cell? ⟨0, 0, none⟩ = some (.int .i64 m) ∧ w.cell? ⟨5, 15, none⟩ = some (.int .u8 4) ∧ 5 < w.heap.size
theorem Lays.below {w w' : World} {m : Int} (h : Lays w m) (hb : Below w.heap.size w w') : Lays w' m :=
  ⟨(hb.cell (by have := h.2.2; simp; omega)).trans h.1, (hb.cell (by have := h.2.2; simp; omega)).trans h.2.1, by have := h.2.2; have := hb.size; omega⟩

set_option maxHeartbeats 1000000 in
set_option maxRecDepth 100000 in
theorem awake_any (m : Int) (w : World) (h : Lays w m) :
    Calls Tryd.prog 12 #[] w fun e w' => e = .returned (.bool true) ∧ Below w.heap.size w w' := by
  have HC := Lib.hid (fun W => cut_ok 4 16 8 exZ W exZ_bytes (by decide) exForm.1)
  have HL := Lib.hid h
  clear h
  go_enter Tryd.func12, Tryd.ntmps12
  go_wp2_with fail
  refine (parse_ex m _ HL.out.1 HL.out.2.2).mono ?_
  rintro e w1 ⟨rfl, hb1⟩
  have HB1 := Lib.hid hb1
  clear hb1
  have HX := Lib.hid (IsPv.new w1 0 0 Z0)
  have hall := Lib.hid (all_pv 4 16 exZ)
  go_wp2_with (first | (refine store_blk rfl (.tmp 1) (.tmp 9) (cells := pvC 4 16 exZ) rfl rfl rfl HX.out info_pv rfl hall.out ?_; intro w2 hg2 hb2 ho2; refine Hid.out ?_))
  refine Lib.hid ?_
  have HW2 := Lib.hid (((bself w1).alloc (Nat.le_refl _) (.cells (pvC 0 0 Z0) 24)).trans (hb2 w1.heap.size (Nat.le_refl _)))
  have HP2 := Lib.hid (show IsPv w2 w1.heap.size 4 16 exZ from hg2)
  have HB2 := Lib.hid (HB1.out.trans (HW2.out.mono HB1.out.size))
  clear hg2 hb2 ho2 HX hall
  go_wp2_with (first | (refine load_pv rfl (.tmp 1) rfl rfl HP2.out ?_))
  refine (HC.out _).mono ?_
  rintro e w3 ⟨rfl, hb3⟩
  have HB3 := Lib.hid (HB2.out.trans (hb3.mono HB2.out.size))
  clear hb3
  have HX := Lib.hid (IsPv.new w3 0 0 Z0)
  have hall := Lib.hid (all_pv 4 8 (firstZ exZ 8))
  go_wp2_with (first | (refine store_blk rfl (.tmp 3) (.tmp 14) (cells := pvC 4 8 (firstZ exZ 8)) rfl rfl rfl HX.out info_pv rfl hall.out ?_; intro w4 hg4 hb4 ho4; refine Hid.out ?_))
  refine Lib.hid ?_
  have HW4 := Lib.hid (((bself w3).alloc (Nat.le_refl _) (.cells (pvC 0 0 Z0) 24)).trans (hb4 w3.heap.size (Nat.le_refl _)))
  have HP4 := Lib.hid (show IsPv w4 w3.heap.size 4 8 (firstZ exZ 8) from hg4)
  have HB4 := Lib.hid (HB3.out.trans (HW4.out.mono HB3.out.size))
  clear hg4 hb4 ho4 HX hall
  go_wp2_with fail
  refine (write_six _ (HL.out.below HB4.out).2.2 (HL.out.below HB4.out).2.1).mono ?_
  rintro e w5 ⟨rfl, hb5⟩
  have HP5 := Lib.hid (HP4.out.below hb5 HP4.out.lt)
  have HB5 := Lib.hid (HB4.out.trans (hb5.mono HB4.out.size))
  clear hb5
  have f1 := HP5.out.len
  have f2 : w5.cell? ⟨w3.heap.size, 2, none⟩ = some (.int .u8 10) := (HP5.out.at 0 (by decide)).trans (congrArg (fun n => some (Value.int IntKind.u8 n)) (by kernel_rfl))
  have f3 : w5.cell? ⟨w3.heap.size, 3, none⟩ = some (.int .u8 0) := (HP5.out.at 1 (by decide)).trans (congrArg (fun n => some (Value.int IntKind.u8 n)) (by kernel_rfl))
  go_wp2_with fail
  go_ret
  exact ⟨rfl, HB5.out⟩
end Go.Proofs.YtnllhedmkjmaiaaDoor
