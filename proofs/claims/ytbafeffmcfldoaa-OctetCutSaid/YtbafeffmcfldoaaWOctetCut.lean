/- The walk of OctetCut: for every input the law returns true, and nothing that was there is written. No condition. -/
import Derived.Test.YtbafeffmcfldoaaAwake
import Derived.Test.YtbafeffmcfldoaaName
import Derived.Laws.BytesArg
namespace Go.Proofs.Ytbafeffmcfldoaa
open Go.RowKit
set_option linter.unusedVariables false

theorem conv1 (W : World) (g : Nat) (hg : g = W.heap.size) (c : Int) :
    (convert 22 9 (.slice (some ⟨g, 0, none⟩) 1 1)).run Try.prog (W.alloc (.cells #[.int .u8 c] 5)) = .ok (.string (strOfNums [c])) (W.alloc (.cells #[.int .u8 c] 5)) := by
  subst hg
  refine run_convert_bytes_arg _ 22 5 Try.underlying22 Try.underlying5 _ 0 1 1 [c] rfl ?_ 9 Try.underlying9
  intro i hi
  obtain rfl : i = 0 := by omega
  simp

set_option maxRecDepth 100000 in
set_option maxHeartbeats 1000000 in
theorem walkOctetCut (a00 a01 a02 a03 a04 a05 : Int) (a1 a2 : Int) (w : World)
    (w00 : 0 ≤ a00 ∧ a00 ≤ 255) (w01 : 0 ≤ a01 ∧ a01 ≤ 255) (w02 : 0 ≤ a02 ∧ a02 ≤ 255) (w03 : 0 ≤ a03 ∧ a03 ≤ 255) (w04 : 0 ≤ a04 ∧ a04 ≤ 255) (w05 : 0 ≤ a05 ∧ a05 ≤ 255) (w1 : (Lit.int .u8 a1).wf = true) (w2 : (Lit.int .u8 a2).wf = true) :
    Calls Try.prog 9 #[.agg #[.int .u8 a00, .int .u8 a01, .int .u8 a02, .int .u8 a03, .int .u8 a04, .int .u8 a05], .int .u8 a1, .int .u8 a2] w fun e w' => e = .returned (.bool true) ∧ Below w.heap.size w w' := by
  have h1 := wf_u8 w1
  have h2 := wf_u8 w2
  clear w1 w2
  have HW := Lib.hid fun W => write_name a00 a01 a02 a03 a04 a05 W w00 w01 w02 w03 w04 w05
  have hok := nameS_ok a00 a01 a02 a03 a04 a05 w00 w01 w02 w03 w04 w05
  have hsz := nameS_size a00 a01 a02 a03 a04 a05
  generalize nameS a00 a01 a02 a03 a04 a05 = S at *
  obtain ⟨k, hk1, hk2, hk3⟩ : ∃ k : Nat, a1 % 14 = k ∧ a1.tmod 14 = k ∧ k < 14 := by
    have e : a1.tmod 14 = a1 % 14 := Int.tmod_eq_emod_of_nonneg h1.1
    exact ⟨(a1 % 14).toNat, by omega, by omega, by omega⟩
  have HP1 := Lib.hid fun W => parse_short (S.extract 0 k) k W (by rw [ByteArray.size_extract]; omega) hk3 fun i hi => okAt_extract S k i hi (by omega) (hok i (by omega))
  have HP2 := Lib.hid fun (W : World) (c : Int) => parse_long (S ++ strOfNums [c]) W (by rw [ByteArray.size_append, strOfNums_size]; simp; omega) (by rw [ByteArray.size_append, strOfNums_size]; simp [maxLen]; omega) fun i hi => okAt_append S _ i (hok i hi)
  clear hok w00 w01 w02 w03 w04 w05
  have hconv := conv1
  have hsame := same6
  have hone : ∀ c, (strOfNums [c]).size = 1 := fun c => by rw [strOfNums_size]; rfl
  go_enter Try.func9, Try.ntmps9
  go_wp2_with fail
  refine (awake_any _).mono ?_
  rintro e w1 ⟨rfl, hb1⟩
  have q1 := heap_below hb1 (by simp) (heap_alloc_new w _)
  obtain ⟨x0, x1, x2, x3, x4, x5⟩ := six_at q1
  go_wp2_with fail
  refine (HW.out _).mono ?_
  rintro e w2 ⟨rfl, hb2⟩
  clear x0 x1 x2 x3 x4 x5
  go_wp2_with fail
  refine (HP1.out _).mono ?_
  rintro e w3 ⟨rfl, hb3⟩
  unfold parseErr
  go_wp2_with fail
  refine (HP2.out _ _).mono ?_
  rintro e w4 ⟨rfl, hb4⟩
  have q4 := heap_below hb4 (g := w3.heap.size) (by simp; omega) (alloc2_first w3 _ _)
  obtain ⟨x0, x1, x2, x3, x4, x5⟩ := six_at q4
  have hz : w3.heap.size < w4.heap.size := by have := hb4.size; simp at this; omega
  unfold parseErr
  go_wp2_with fail
  go_ret
  exact ⟨rfl, balloc (bnext (balloc (balloc (bnext (bnext (bnext (balloc (bself w) _) hb1) hb2) hb3) _) _) hb4) _⟩
end Go.Proofs.Ytbafeffmcfldoaa
