/- pdu.GetEntries and the document's: no bytes, too many, not whole entries. Each theorem states its conditions. -/
import Derived.Test.YtigkmcbkckfhbaaDRegN
namespace Go.Proofs.Ytigkmcbkckfhbaa
open Go.RowKit
set_option linter.unusedVariables false

theorem getEntries_long (A : Option Addr) (n c : Nat) (w : World) (hn : 255 < n) :
    Calls Try.prog 24 #[.slice A n c] w fun e w' => e = .returned (.tuple #[.slice none 0 0, .int .i64 2]) ∧ w' = w := by
  have h1 : (255 : Int) < (n : Int) := by omega
  go_enter Try.func24, Try.ntmps24
  go_wp2
  go_ret2
  exact ⟨rfl, rfl⟩
theorem getEntries_form (A : Option Addr) (n c : Nat) (w : World) (hn : n ≤ 255) (hm : n % 16 ≠ 0) :
    Calls Try.prog 24 #[.slice A n c] w fun e w' => e = .returned (.tuple #[.slice none 0 0, .int .i64 3]) ∧ w' = w := by
  have h1 : ¬ (255 : Int) < (n : Int) := by omega
  have h2 : ¬ (n : Int) % 16 = 0 := by omega
  clear hm
  go_enter Try.func24, Try.ntmps24
  go_wp2
  go_ret2
  exact ⟨rfl, rfl⟩
theorem getEntries_nil (A : Option Addr) (c : Nat) (w : World) :
    Calls Try.prog 24 #[.slice A 0 c] w fun e w' => e = .returned (.tuple #[.slice none 0 0, .int .i64 0]) ∧ w' = w := by
  go_enter Try.func24, Try.ntmps24
  go_wp2
  refine wp_loop_rounds 1 ?_
  rw [rounds_succ]
  go_wp2
  go_ret2
  exact ⟨rfl, rfl⟩
theorem docGetEntries_long (A : Option Addr) (n c : Nat) (w : World) (hn : 255 < n) :
    Calls Try.prog 26 #[.slice A n c] w fun e w' => e = .returned (.tuple #[.slice none 0 0, .int .i64 2]) ∧ w' = w := by
  have h1 : (255 : Int) < (n : Int) := by omega
  go_enter Try.func26, Try.ntmps26
  go_wp2
  go_ret2
  exact ⟨rfl, rfl⟩
theorem docGetEntries_form (A : Option Addr) (n c : Nat) (w : World) (hn : n ≤ 255) (hm : n % 16 ≠ 0) :
    Calls Try.prog 26 #[.slice A n c] w fun e w' => e = .returned (.tuple #[.slice none 0 0, .int .i64 3]) ∧ w' = w := by
  have h1 : ¬ (255 : Int) < (n : Int) := by omega
  have h2 : ¬ (n : Int) % 16 = 0 := by omega
  clear hm
  go_enter Try.func26, Try.ntmps26
  go_wp2
  go_ret2
  exact ⟨rfl, rfl⟩
theorem docGetEntries_nil (A : Option Addr) (c : Nat) (w : World) :
    Calls Try.prog 26 #[.slice A 0 c] w fun e w' => e = .returned (.tuple #[.slice none 0 0, .int .i64 0]) ∧ w' = w := by
  go_enter Try.func26, Try.ntmps26
  go_wp2
  refine wp_loop_rounds 1 ?_
  rw [rounds_succ]
  go_wp2
  go_ret2
  exact ⟨rfl, rfl⟩
theorem two_own (w : World) (N : Nat) (h : N ≤ 65535) : Own8 (w.alloc (.cells #[.int .u8 ((N : Int) / 256), .int .u8 ((N : Int) % 256)] 5)) w.heap.size 2 2 (putZ N 2) := by
  have e0 : putZ N 2 0 = (N : Int) / 256 := by
    show ((N / 256 ^ 1 % 256 : Nat) : Int) = _
    rw [show (256 : Nat) ^ 1 = 256 from rfl]
    omega
  have e1 : putZ N 2 1 = (N : Int) % 256 := by
    show ((N / 256 ^ 0 % 256 : Nat) : Int) = _
    rw [show (256 : Nat) ^ 0 = 1 from rfl]
    omega
  refine ⟨⟨_, heap_alloc_new w _, Nat.le_refl _, by decide, rfl, fun j hj => ?_⟩, putZ_bd _ _⟩
  rcases (by omega : j = 0 ∨ j = 1) with rfl | rfl
  · rw [e0]; rfl
  · rw [e1]; rfl
/-- a number as two bytes -/
theorem two_any (N : Nat) (w : World) (h : N ≤ 65535) :
    Calls Try.prog 61 #[.int .i64 (N : Int)] w fun e w' => ∃ g, e = .returned (.slice (some ⟨g, 0, none⟩) 2 2) ∧ w.heap.size ≤ g ∧ Own8 w' g 2 2 (putZ N 2) ∧ Below w.heap.size w w' := by
  go_enter Try.func61, Try.ntmps61
  go_wp2_with fail
  go_ret
  exact ⟨_, rfl, Nat.le_refl _, two_own w N h, (bself w).alloc (Nat.le_refl _) _⟩
theorem sys_idx' (z : Nat → Int) (i : Nat) (hi : i < 6) (w : World) : (Instr.index 23 (.agg #[.int .u8 (z 0), .int .u8 (z 1), .int .u8 (z 2), .int .u8 (z 3), .int .u8 (z 4), .int .u8 (z 5)]) (.int .i64 (i : Int))).run Try.prog w = .ok (.int .u8 (z i)) w := by
  rcases (by omega : i = 0 ∨ i = 1 ∨ i = 2 ∨ i = 3 ∨ i = 4 ∨ i = 5) with rfl | rfl | rfl | rfl | rfl | rfl <;> kernel_rfl
set_option maxHeartbeats 2000000 in
set_option maxRecDepth 100000 in
theorem refNode_any (z : Nat → Int) (w : World) (hz : ∀ j, 0 ≤ z j ∧ z j ≤ 255) :
    Calls Try.prog 62 #[.agg (ndC z)] w fun e w' => ∃ v, e = .returned v ∧ OwnB w' w.heap.size v 7 z ∧ Below w.heap.size w w' := by
  have HZ := Lib.hid hz
  have HX := Lib.hid (heap_alloc_new w (.cells (ndC z) 25))
  have HB := Lib.hid ((bself w).alloc (Nat.le_refl _) (.cells (ndC z) 25))
  have hXI := Lib.hid (fun i hi w => sys_idx' z i hi w)
  clear hz
  unfold ndC at *
  go_enter Try.func62, Try.ntmps62
  go_wp2_with fail
  go_loopw [3, 8] (fun p t wr => ∃ i : Nat, i ≤ 6 ∧ t = .int .i64 i ∧ Hid (OwnB wr w.heap.size p i z) ∧ Hid (Below w.heap.size w wr) ∧ Hid (wr.heap[w.heap.size]? = some (.cells (ndC z) 25 (0, 0))) ∧ Hid (p.ownBlock ≠ some w.heap.size))
    (fun _ t _ => 6 - (intOf t).toNat)
  case atStart => exact ⟨0, by omega, rfl, Lib.hid (OwnB.nil _ _ HZ.out), HB, HX, Lib.hid (fun e => by simp [Value.ownBlock] at e)⟩
  case round =>
    obtain ⟨i, hi, rfl, HO, HW, HN, HF⟩ := hrel
    have hTs : w.heap.size < wr.heap.size := (Array.getElem?_eq_some_iff.1 HN.out).1
    by_cases hi6 : i < 6
    · have hx := hXI.out i hi6
      have hi6' : (i : Int) < 6 := by omega
      go_wp2_with (first | (at_builtin; refine app_s rfl (.tmp 11) (.tmp 13) rfl w u3 i _ rfl (HO.out.1.alloc _) (HW.out.alloc HW.out.size _) ⟨wr.heap.size, 0, none⟩ 1 1 [.int .u8 (z i)] rfl rfl (cell_one_new wr _ _) (u8_one _) (by omega) ?_; intro v3 w3 ho3 hb3 hs3 hk3; have hk4 := Lib.hid (hk3 w.heap.size (by simp; omega) HF.out)))
      rw [vals_snoc] at ho3
      have HO3 : Hid (OwnB w3 w.heap.size v3 (i + 1) z) := Lib.hid ⟨ho3, HZ.out⟩
      have HB3 := Lib.hid hb3
      clear ho3 hb3 hs3 hk3 hx
      go_wp2_with fail
      go_roundw
      case rel => exact ⟨i + 1, by omega, by go_num, HO3, HB3, Lib.hid (hk4.out.1.trans ((Below.heap_alloc wr _ _ hTs).trans HN.out)), Lib.hid hk4.out.2⟩
      case measure => simp only [intOf]; omega
    · obtain rfl : i = 6 := by omega
      have d6 : wr.cell? ⟨w.heap.size, 6, none⟩ = some (.int .u8 (z 6)) := (cell_of_row wr _ 6 _ _ _ HN.out).trans rfl
      go_wp2_with (first
        | (at_builtin; refine app_s rfl (.tmp 16) (.tmp 19) rfl w u3 6 _ rfl (HO.out.1.alloc _) (HW.out.alloc HW.out.size _) ⟨wr.heap.size, 0, none⟩ 1 1 [.int .u8 (z 6)] rfl rfl (cell_one_new wr _ _) (u8_one _) (by omega) ?_; intro v3 w3 ho3 hb3 hs3 hk3))
      rw [vals_snoc] at ho3
      go_ret
      exact ⟨_, rfl, ⟨ho3, HZ.out⟩, hb3⟩
end Go.Proofs.Ytigkmcbkckfhbaa
