/- The document's examples of gauge, run: waymarklaw02.awake returns true. No condition. -/
import Derived.Test.YtbafeffmcfldoabGauge
import Derived.LoopN
import Derived.RegionTactic
import Derived.ChangeAlike
import Derived.Laws.FloatArith
import Derived.Laws.Entries
import GoSem.Extern.MathFloor
namespace Go.Proofs.Ytbafeffmcfldoab
open Go.RowKit
set_option linter.unusedVariables false

theorem run_storef (P : Program) (w : World) (a : Addr) (m : Mode) (k : FloatKind) (b : Nat) : (store a (.float k b) m).run P w = stored P w a (.float k b) m := run_store P w a _ m rfl

theorem kind1 (w : World) : Calls Try.prog 17 #[.float .f64 4607182418800017408] w fun e w' => e = .returned (.int .i64 5) ∧ w = w' :=
  (kind_any 4607182418800017408 w (by decide)).mono fun e w' h => ⟨h.1.trans (ret_int (by decide)), h.2⟩
theorem kind2 (w : World) : Calls Try.prog 17 #[.float .f64 4611686018427387904] w fun e w' => e = .returned (.int .i64 5) ∧ w = w' :=
  (kind_any 4611686018427387904 w (by decide)).mono fun e w' h => ⟨h.1.trans (ret_int (by decide)), h.2⟩

theorem ceil_ex (w : World) : (callFunc 30 #[.float .f64 4614688418178968235]).run Try.prog w = .ok (.value (.float .f64 4616189618054758400)) w := by
  rw [run_callFunc_extern (e := Extern.MathFloor.toIntegral "math.archCeil" .up) Try.func30 (by kernel_rfl) (by kernel_rfl) (by kernel_rfl) (by kernel_rfl)]
  kernel_rfl
theorem floor_25 (w : World) : (callFunc 26 #[.float .f64 4627730092099895296]).run Try.prog w = .ok (.value (.float .f64 4627730092099895296)) w := by
  rw [run_callFunc_extern (e := Extern.MathFloor.toIntegral "math.archFloor" .down) Try.func26 (by kernel_rfl) (by kernel_rfl) (by kernel_rfl) (by kernel_rfl)]
  kernel_rfl
theorem floor_250 (w : World) : (callFunc 26 #[.float .f64 4643000109586448384]).run Try.prog w = .ok (.value (.float .f64 4643000109586448384)) w := by
  rw [run_callFunc_extern (e := Extern.MathFloor.toIntegral "math.archFloor" .down) Try.func26 (by kernel_rfl) (by kernel_rfl) (by kernel_rfl) (by kernel_rfl)]
  kernel_rfl
theorem floor_500 (w : World) : (callFunc 26 #[.float .f64 4647503709213818880]).run Try.prog w = .ok (.value (.float .f64 4647503709213818880)) w := by
  rw [run_callFunc_extern (e := Extern.MathFloor.toIntegral "math.archFloor" .down) Try.func26 (by kernel_rfl) (by kernel_rfl) (by kernel_rfl) (by kernel_rfl)]
  kernel_rfl

theorem cost_ex (w : World) : Calls Try.prog 14 #[.float .f64 4636737291354636288, .float .f64 4629137466983448576] w fun e w' => e = .returned (.int .u32 4) ∧ w = w' := by
  have hq : ∀ w, (binOp .quo 22 (.float .f64 4636737291354636288) (.float .f64 4629137466983448576)).run Try.prog w = .ok (.float .f64 4614688418178968235) w := fun w => run_float_arith w .quo _ .f64 _ _ _ (by kernel_rfl)
  have hn : nanB 4614688418178968235 = false := by decide
  have HN := Lib.hid fun w => isNaN_any 4614688418178968235 w
  rw [hn] at HN
  have o1 : (FloatKind.f64.format.order 4614688418178968235 4607182418800017408 == some .lt) = false := by kernel_rfl
  have o2 : (FloatKind.f64.format.order 4614688418178968235 4607182418800017408 == some .eq) = false := by kernel_rfl
  have o3 : (FloatKind.f64.format.order 4614688418178968235 4715268808783167488 == some .gt) = false := by kernel_rfl
  have hc := ceil_ex
  have hv : ∀ w, (convert 22 35 (.float .f64 4616189618054758400)).run Try.prog w = .ok (.int .u32 4) w := fun w => run_convert_float_int w _ _ .f64 .u32 _ _ (by kernel_rfl) Try.underlying35 (by kernel_rfl)
  go_enter Try.func14, Try.ntmps14
  go_wp2_with (first | (go_at_call 15; refine (HN.out _).mono ?_; rintro e w' ⟨rfl, rfl⟩) | go_in)
  go_ret
  exact ⟨rfl, rfl⟩

theorem span_ex (w : World) : Calls Try.prog 7 #[.int .i64 100, .float .f64 4607182418800017408] w fun e w' => e = .returned (.int .i64 75) ∧ w = w' := by
  have hn : nanB 4607182418800017408 = false := by decide
  have HN := Lib.hid fun w => isNaN_any 4607182418800017408 w
  rw [hn] at HN
  have o1 : (FloatKind.f64.format.order 4607182418800017408 0 == some .lt) = false := by kernel_rfl
  have o2 : (FloatKind.f64.format.order 4607182418800017408 4607182418800017408 == some .gt) = false := by kernel_rfl
  have hf : floatOfInt .f64 100 = 4636737291354636288 := by kernel_rfl
  have hm : ∀ w, (binOp .mul 22 (.float .f64 4636737291354636288) (.float .f64 4607182418800017408)).run Try.prog w = .ok (.float .f64 4636737291354636288) w := fun w => run_float_arith w .mul _ .f64 _ _ _ (by kernel_rfl)
  have hq : ∀ w, (binOp .quo 22 (.float .f64 4636737291354636288) (.float .f64 4616189618054758400)).run Try.prog w = .ok (.float .f64 4627730092099895296) w := fun w => run_float_arith w .quo _ .f64 _ _ _ (by kernel_rfl)
  have hc := floor_25
  have hv : ∀ w, (convert 22 3 (.float .f64 4627730092099895296)).run Try.prog w = .ok (.int .i64 25) w := fun w => run_convert_float_int w _ _ .f64 .i64 _ _ (by kernel_rfl) Try.underlying3 (by kernel_rfl)
  go_enter Try.func7, Try.ntmps7
  go_wp2_with (first | (go_at_call 15; refine (HN.out _).mono ?_; rintro e w' ⟨rfl, rfl⟩) | go_in)
  go_ret
  exact ⟨rfl, rfl⟩

/-- the three loads of the example in a block -/
def Ld (w : World) (g : Nat) : Prop := w.cell? ⟨g, 0, none⟩ = some (.float .f64 4607182418800017408) ∧ w.cell? ⟨g, 1, none⟩ = some (.float .f64 4607182418800017408) ∧ w.cell? ⟨g, 2, none⟩ = some (.float .f64 4611686018427387904)

theorem sum_ex (g : Nat) (w : World) (h : Ld w g) : Calls Try.prog 21 #[.slice (some ⟨g, 0, none⟩) 3 3] w fun e w' => e = .returned (.float .f64 4616189618054758400) ∧ w = w' := by
  obtain ⟨c0, c1, c2⟩ := h
  have a1 : ∀ w, (binOp .add 22 (.float .f64 0) (.float .f64 4607182418800017408)).run Try.prog w = .ok (.float .f64 4607182418800017408) w := fun w => run_float_arith w .add _ .f64 _ _ _ (by kernel_rfl)
  have a2 : ∀ w, (binOp .add 22 (.float .f64 4607182418800017408) (.float .f64 4607182418800017408)).run Try.prog w = .ok (.float .f64 4611686018427387904) w := fun w => run_float_arith w .add _ .f64 _ _ _ (by kernel_rfl)
  have a3 : ∀ w, (binOp .add 22 (.float .f64 4611686018427387904) (.float .f64 4611686018427387904)).run Try.prog w = .ok (.float .f64 4616189618054758400) w := fun w => run_float_arith w .add _ .f64 _ _ _ (by kernel_rfl)
  go_enter Try.func21, Try.ntmps21
  go_wp2
  refine wp_loop_rounds 4 ?_
  iterate 4 (rw [rounds_succ]; go_wp2)
  go_ret
  exact ⟨rfl, rfl⟩

def CountPost (w : World) (e : Ending) (w' : World) : Prop :=
  e = .returned (.slice (some ⟨w.heap.size, 0, none⟩) 3 3) ∧ w' = w.alloc (.cells #[.float .f64 4607182418800017408, .float .f64 4607182418800017408, .float .f64 4611686018427387904] 22)

set_option maxHeartbeats 1000000 in
theorem counted_ex (g : Nat) (w : World) (h : Ld w g) : Calls Try.prog 20 #[.slice (some ⟨g, 0, none⟩) 3 3] w (CountPost w) := by
  obtain ⟨c0, c1, c2⟩ := h
  have hg : g < w.heap.size := cell_lt c0
  have hst := fun (w : World) (a : Addr) (m : Mode) (b : Nat) => run_storef Try.prog w a m .f64 b
  have hmk : ∀ w, (Instr.makeSlice 26 (.int .i64 3) (.int .i64 3)).run Try.prog w = .ok (.slice (some ⟨w.heap.size, 0, none⟩) 3 3) (w.alloc (.cells #[.float .f64 0, .float .f64 0, .float .f64 0] 22)) := fun _ => by kernel_rfl
  go_enter Try.func20, Try.ntmps20
  go_wp2
  refine wp_loop_rounds 4 ?_
  iterate 4 (rw [rounds_succ]; go_wp2_with (first | (go_at_call 17; (with_reducible refine (kind1 _).mono ?_); rintro e w' ⟨rfl, rfl⟩) | (go_at_call 17; (with_reducible refine (kind2 _).mono ?_); rintro e w' ⟨rfl, rfl⟩)))
  refine wp_loop_rounds 4 ?_
  iterate 4 (rw [rounds_succ]; go_wp2_with (first | (go_at_call 17; (with_reducible refine (kind1 _).mono ?_); rintro e w' ⟨rfl, rfl⟩) | (go_at_call 17; (with_reducible refine (kind2 _).mono ?_); rintro e w' ⟨rfl, rfl⟩)))
  go_ret
  exact ⟨rfl, rfl⟩

def SharesPost (w : World) (e : Ending) (w' : World) : Prop :=
  e = .returned (.tuple #[.slice (some ⟨w.heap.size + 1, 0, none⟩) 3 3, .int .i64 0]) ∧
    w' = (w.alloc (.cells #[.float .f64 4607182418800017408, .float .f64 4607182418800017408, .float .f64 4611686018427387904] 22)).alloc (.cells #[.int .u32 250, .int .u32 250, .int .u32 500] 35)

set_option maxHeartbeats 1000000 in
theorem shares_ex (g : Nat) (w : World) (h : Ld w g) : Calls Try.prog 10 #[.slice (some ⟨g, 0, none⟩) 3 3] w (SharesPost w) := by
  have HC := Lib.hid (counted_ex g w h)
  have HI := Lib.hid fun w => isInf_pos 4616189618054758400 w
  rw [show pinfB 4616189618054758400 = false by decide] at HI
  have hmk : ∀ w, (Instr.makeSlice 27 (.int .i64 3) (.int .i64 3)).run Try.prog w = .ok (.slice (some ⟨w.heap.size, 0, none⟩) 3 3) (w.alloc (.cells #[.int .u32 0, .int .u32 0, .int .u32 0] 35)) := fun _ => by kernel_rfl
  have o1 : (FloatKind.f64.format.order 4616189618054758400 0 == some .eq) = false := by kernel_rfl
  have q1 : ∀ w, (binOp .quo 22 (.float .f64 4607182418800017408) (.float .f64 4616189618054758400)).run Try.prog w = .ok (.float .f64 4598175219545276416) w := fun w => run_float_arith w .quo _ .f64 _ _ _ (by kernel_rfl)
  have q2 : ∀ w, (binOp .quo 22 (.float .f64 4611686018427387904) (.float .f64 4616189618054758400)).run Try.prog w = .ok (.float .f64 4602678819172646912) w := fun w => run_float_arith w .quo _ .f64 _ _ _ (by kernel_rfl)
  have m1 : ∀ w, (binOp .mul 22 (.float .f64 4652007308841189376) (.float .f64 4598175219545276416)).run Try.prog w = .ok (.float .f64 4643000109586448384) w := fun w => run_float_arith w .mul _ .f64 _ _ _ (by kernel_rfl)
  have m2 : ∀ w, (binOp .mul 22 (.float .f64 4652007308841189376) (.float .f64 4602678819172646912)).run Try.prog w = .ok (.float .f64 4647503709213818880) w := fun w => run_float_arith w .mul _ .f64 _ _ _ (by kernel_rfl)
  have f1 := floor_250
  have f2 := floor_500
  have v1 : ∀ w, (convert 22 35 (.float .f64 4643000109586448384)).run Try.prog w = .ok (.int .u32 250) w := fun w => run_convert_float_int w _ _ .f64 .u32 _ _ (by kernel_rfl) Try.underlying35 (by kernel_rfl)
  have v2 : ∀ w, (convert 22 35 (.float .f64 4647503709213818880)).run Try.prog w = .ok (.int .u32 500) w := fun w => run_convert_float_int w _ _ .f64 .u32 _ _ (by kernel_rfl) Try.underlying35 (by kernel_rfl)
  clear h
  go_enter Try.func10, Try.ntmps10
  go_wp2_with fail
  refine (HC.out).mono ?_
  rintro e w1 ⟨rfl, rfl⟩
  go_wp2_with fail
  refine (sum_ex _ _ ⟨by simp, by simp, by simp⟩).mono ?_
  rintro e w' ⟨rfl, rfl⟩
  go_wp2_with fail
  refine wp_loop_rounds 1 ?_
  rw [rounds_succ]
  go_wp2_with (go_at_call 22; refine (HI.out _).mono ?_; rintro e w' ⟨rfl, rfl⟩)
  refine wp_loop_rounds 4 ?_
  iterate 4 (rw [rounds_succ]; go_wp2)
  go_ret2
  exact ⟨rfl, rfl⟩

def S3 (w : World) (g : Nat) : Prop := w.cell? ⟨g, 0, none⟩ = some (.int .u32 250) ∧ w.cell? ⟨g, 1, none⟩ = some (.int .u32 250) ∧ w.cell? ⟨g, 2, none⟩ = some (.int .u32 500)
theorem same_ex (g h : Nat) (w : World) (hg : S3 w g) (hh : S3 w h) :
    Calls Try.prog 12 #[.slice (some ⟨g, 0, none⟩) 3 3, .slice (some ⟨h, 0, none⟩) 3 3] w fun e w' => e = .returned (.bool true) ∧ Below w.heap.size w w' := by
  obtain ⟨c0, c1, c2⟩ := hg
  obtain ⟨d0, d1, d2⟩ := hh
  go_enter Try.func12, Try.ntmps12
  go_wp2
  refine wp_loop_rounds 4 ?_
  iterate 3 (rw [rounds_succ]; go_wp2; go_region; go_wp2)
  rw [rounds_succ]
  go_wp2
  go_ret
  exact ⟨rfl, (((bself w).drew).drew).drew⟩

theorem awakeG_any (w : World) : Calls Try.prog 8 #[] w fun e w' => e = .returned (.bool true) ∧ Below w.heap.size w w' := by
  go_enter Try.func8, Try.ntmps8
  go_wp2_with fail
  refine (shares_ex _ _ ⟨by simp, by simp, by simp⟩).mono ?_
  rintro e w1 ⟨rfl, rfl⟩
  go_wp2_with fail
  refine (cost_ex _).mono ?_
  rintro e w' ⟨rfl, rfl⟩
  go_wp2_with fail
  refine (span_ex _).mono ?_
  rintro e w' ⟨rfl, rfl⟩
  go_wp2_with fail
  refine (kind1 _).mono ?_
  rintro e w' ⟨rfl, rfl⟩
  go_wp2_with fail
  refine (same_ex _ _ _ ⟨by simp [go_sem], by simp [go_sem], by simp [go_sem]⟩ ⟨by simp [go_sem], by simp [go_sem], by simp [go_sem]⟩).mono ?_
  rintro e w' ⟨rfl, hb⟩
  go_wp2
  go_ret
  exact ⟨rfl, bnext (balloc (balloc (balloc (balloc (bself w) _) _) _) _) hb⟩
end Go.Proofs.Ytbafeffmcfldoab
