/- The walk of OctetAdds: for every input the law returns true, and nothing that was there is written. No condition. -/
import Derived.Test.YtbafeffmcfldoaaAwake
import Derived.Test.YtbafeffmcfldoaaPlus
namespace Go.Proofs.Ytbafeffmcfldoaa
open Go.RowKit
set_option linter.unusedVariables false

theorem walkOctetAdds (a0 a1 a2 : Int) (w : World) (w0 : (Lit.int .u32 a0).wf = true) (w1 : (Lit.int .u32 a1).wf = true) (w2 : (Lit.int .u32 a2).wf = true) :
    Calls Try.prog 4 #[.int .u32 a0, .int .u32 a1, .int .u32 a2] w fun e w' => e = .returned (.bool true) ∧ Below w.heap.size w w' := by
  have h0 := wf_u32 w0
  have h1 := wf_u32 w1
  have h2 := wf_u32 w2
  have hab := plusI_bd a0 a1 h0.1 h1.1
  have hbc := plusI_bd a1 a2 h1.1 h2.1
  have e1 := plusI_comm a1 a0
  have e2 := plusI_assoc a0 a1 a2 h0.1 h1.1 h2.1
  clear w0 w1 w2
  go_enter Try.func4, Try.ntmps4
  go_wp2_with (first | (go_at_call 15; refine (awake_any _).mono ?_; rintro e w' ⟨rfl, hb⟩) | (go_at_call 23; refine (plus_any _ _ _ (by omega) (by omega) (by omega) (by omega)).mono ?_; rintro e w' ⟨rfl, rfl⟩) | (go_at_call 24; refine (refPlus_any _ _ _ (by omega) (by omega) (by omega) (by omega)).mono ?_; rintro e w' ⟨rfl, rfl⟩))

  go_ret
  exact ⟨rfl, hb⟩
end Go.Proofs.Ytbafeffmcfldoaa
