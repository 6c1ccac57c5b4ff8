/- pdu's fields, size, ahead, head, isState. Each theorem states its conditions. -/
import Derived.Test.YtigkmcbkckfhbaaDPd
namespace Go.Proofs.Ytigkmcbkckfhbaa
open Go.RowKit
set_option linter.unusedVariables false

theorem fields_any (k : Int) (q : Nat) (hk : cls k = q) (hq : q ≤ 4) (w : World) : Calls Try.prog 30 #[.int .u8 k] w fun e w' => e = .returned (.slice (some ⟨w.heap.size, 0, none⟩) (flC q).length (flC q).length) ∧ w'.heap[w.heap.size]? = some (.cells (flA q) 78 (0, 0)) ∧ Below w.heap.size w w' := by
  subst hk
  have hk : k = 17 ∨ k = 15 ∨ k = 16 ∨ k = 18 ∨ k = 20 ∨ k = 24 ∨ k = 25 ∨ k = 26 ∨ k = 27 := by unfold cls at hq; (repeat' split at hq) <;> omega
  clear hq
  rcases hk with rfl | rfl | rfl | rfl | rfl | rfl | rfl | rfl | rfl
  · go_enter Try.func30, Try.ntmps30
    go_wp2
    go_ret
    exact ⟨rfl, heap_alloc_new w _, (bself w).alloc (Nat.le_refl _) _⟩
  · go_enter Try.func30, Try.ntmps30
    go_wp2
    go_ret
    exact ⟨rfl, heap_alloc_new w _, (bself w).alloc (Nat.le_refl _) _⟩
  · go_enter Try.func30, Try.ntmps30
    go_wp2
    go_ret
    exact ⟨rfl, heap_alloc_new w _, (bself w).alloc (Nat.le_refl _) _⟩
  · go_enter Try.func30, Try.ntmps30
    go_wp2
    go_ret
    exact ⟨rfl, heap_alloc_new w _, (bself w).alloc (Nat.le_refl _) _⟩
  · go_enter Try.func30, Try.ntmps30
    go_wp2
    go_ret
    exact ⟨rfl, heap_alloc_new w _, (bself w).alloc (Nat.le_refl _) _⟩
  · go_enter Try.func30, Try.ntmps30
    go_wp2
    go_ret
    exact ⟨rfl, heap_alloc_new w _, (bself w).alloc (Nat.le_refl _) _⟩
  · go_enter Try.func30, Try.ntmps30
    go_wp2
    go_ret
    exact ⟨rfl, heap_alloc_new w _, (bself w).alloc (Nat.le_refl _) _⟩
  · go_enter Try.func30, Try.ntmps30
    go_wp2
    go_ret
    exact ⟨rfl, heap_alloc_new w _, (bself w).alloc (Nat.le_refl _) _⟩
  · go_enter Try.func30, Try.ntmps30
    go_wp2
    go_ret
    exact ⟨rfl, heap_alloc_new w _, (bself w).alloc (Nat.le_refl _) _⟩
theorem fields_none (k : Int) (hk : cls k = 5) (w : World) : Calls Try.prog 30 #[.int .u8 k] w fun e w' => e = .returned (.slice none 0 0) ∧ w = w' := by
  have h : ¬ (k = 17 ∨ k = 15 ∨ k = 16 ∨ k = 18 ∨ k = 20 ∨ k = 24 ∨ k = 25 ∨ k = 26 ∨ k = 27) := by unfold cls at hk; (repeat' split at hk) <;> omega
  clear hk
  have h17 : (k == 17) = false := by simp; omega
  have h15 : (k == 15) = false := by simp; omega
  have h16 : (k == 16) = false := by simp; omega
  have h18 : (k == 18) = false := by simp; omega
  have h20 : (k == 20) = false := by simp; omega
  have h24 : (k == 24) = false := by simp; omega
  have h25 : (k == 25) = false := by simp; omega
  have h26 : (k == 26) = false := by simp; omega
  have h27 : (k == 27) = false := by simp; omega
  clear h
  go_enter Try.func30, Try.ntmps30
  go_wp2
  go_ret
  exact ⟨rfl, rfl⟩
theorem size_any (f : Nat) (hf : f ≤ 14) (w : World) : Calls Try.prog 52 #[.int .i64 (f : Int)] w fun e w' => e = .returned (.int .i64 (fsz f : Nat)) ∧ w = w' := by
  rcases (by omega : f = 0 ∨ f = 1 ∨ f = 2 ∨ f = 3 ∨ f = 4 ∨ f = 5 ∨ f = 6 ∨ f = 7 ∨ f = 8 ∨ f = 9 ∨ f = 10 ∨ f = 11 ∨ f = 12 ∨ f = 13 ∨ f = 14) with rfl | rfl | rfl | rfl | rfl | rfl | rfl | rfl | rfl | rfl | rfl | rfl | rfl | rfl | rfl <;>
  · go_enter Try.func52, Try.ntmps52
    go_wp2
    go_ret
    exact ⟨rfl, rfl⟩
/-- the list of a kind's fields lies at g -/
def FlAt (w : World) (g q : Nat) : Prop := w.heap[g]? = some (.cells (flA q) 78 (0, 0))
theorem FlAt.cell {w : World} {g q i : Nat} (h : FlAt w g q) (hi : i < (flC q).length) : w.cell? ⟨g, i, none⟩ = some (.int .i64 ((fAt q i : Nat) : Int)) := by
  rw [cell_of_row w g i _ _ _ h]
  exact flA_at q i hi
theorem FlAt.below {w w' : World} {g q : Nat} (h : FlAt w g q) (hb : Below w.heap.size w w') : FlAt w' g q := (hb.block g (Array.getElem?_eq_some_iff.1 h).1).trans h
theorem ahead_any (g q : Nat) (hq : q ≤ 4) (w : World) (h : FlAt w g q) : Calls Try.prog 33 #[.slice (some ⟨g, 0, none⟩) (flC q).length (flC q).length] w fun e w' => e = .returned (.int .i64 (hdN q : Nat)) ∧ w = w' := by
  have HF := Lib.hid h
  have hl := fl_len q hq
  have HD : Hid (accN q (flC q).length = hdN q) := Lib.hid rfl
  obtain ⟨n, hn⟩ : ∃ n, (flC q).length = n := ⟨_, rfl⟩
  have HN := Lib.hid hn
  rw [hn] at hl HD ⊢
  clear h hn
  go_enter Try.func33, Try.ntmps33
  go_wp2_with fail
  go_loop [3, 8] (fun s t => ∃ i : Nat, i ≤ n ∧ t = .int .i64 i ∧ s = .int .i64 (accN q i : Nat)) (fun _ t => n - (intOf t).toNat)
  case atStart => exact ⟨0, Nat.zero_le _, rfl, rfl⟩
  case round =>
    obtain ⟨i, hi, rfl, rfl⟩ := hrel
    by_cases hlt : i < n
    · have ci := HF.out.cell (i := i) (by rw [HN.out]; exact hlt)
      have hb := accN_bd q i
      have hs : Hid (accN q (i + 1) = accN q i + fsz (fAt q i)) := Lib.hid rfl
      have hf := fAt_le q i hq
      have hfz := fsz_bd (fAt q i)
      obtain ⟨f, hf'⟩ : ∃ f, fAt q i = f := ⟨_, rfl⟩
      rw [hf'] at ci hs hf hfz
      clear hf'
      have HS := Lib.hid (size_any f hf)
      go_wp2_with fail
      refine (HS.out _).mono ?_
      rintro e w1 ⟨rfl, rfl⟩
      go_wp2_with fail
      go_round
      case rel => exact ⟨i + 1, by omega, by go_num, by rw [hs.out]; go_num⟩
      case measure => simp [intOf]; omega
    · obtain rfl : i = n := by omega
      rw [HD.out]
      go_wp2_with fail
      go_ret
      exact ⟨rfl, rfl⟩
theorem head_new (w : World) (k : Int) (n : Nat) : Own8 (w.alloc (.cells #[.int .u8 131, .int .u8 (n : Int), .int .u8 1, .int .u8 0, .int .u8 k, .int .u8 1, .int .u8 0, .int .u8 0] 5)) w.heap.size 8 8 (headZ k n) ↔ ∀ j, 0 ≤ headZ k n j ∧ headZ k n j ≤ 255 := by
  refine ⟨fun h => h.2, fun h => ⟨⟨_, heap_alloc_new w _, Nat.le_refl _, by decide, rfl, fun j hj => ?_⟩, h⟩⟩
  rcases (by omega : j = 0 ∨ j = 1 ∨ j = 2 ∨ j = 3 ∨ j = 4 ∨ j = 5 ∨ j = 6 ∨ j = 7) with rfl | rfl | rfl | rfl | rfl | rfl | rfl | rfl <;> rfl
theorem head_any (k : Int) (n : Nat) (hk : by1 k) (hn : n ≤ 255) (w : World) : Calls Try.prog 34 #[.int .u8 k, .int .i64 (n : Int)] w fun e w' => e = .returned (.slice (some ⟨w.heap.size, 0, none⟩) 8 8) ∧ Own8 w' w.heap.size 8 8 (headZ k n) ∧ Below w.heap.size w w' := by
  have H := Lib.hid ((head_new w k n).2 (headZ_bd k n hk hn))
  clear hk
  go_enter Try.func34, Try.ntmps34
  go_wp2_with fail
  go_ret
  exact ⟨rfl, H.out, (bself w).alloc (Nat.le_refl _) _⟩
theorem isState_any (k : Int) (w : World) : Calls Try.prog 36 #[.int .u8 k] w fun e w' => e = .returned (.bool (decide (cls k = 2))) ∧ w = w' := by
  by_cases h1 : k = 18
  · subst h1
    go_enter Try.func36, Try.ntmps36
    go_wp2
    go_ret
    exact ⟨rfl, rfl⟩
  · by_cases h2 : k = 20
    · subst h2
      go_enter Try.func36, Try.ntmps36
      go_wp2
      go_ret
      exact ⟨rfl, rfl⟩
    · have h3 : (k == 18) = false := by simpa using h1
      have h4 : (k == 20) = false := by simpa using h2
      have h5 : Hid (decide (cls k = 2) = false) := Lib.hid (by unfold cls; simp only [decide_eq_false_iff_not]; (repeat' split) <;> omega)
      clear h1 h2
      go_enter Try.func36, Try.ntmps36
      go_wp2
      go_ret
      exact ⟨ret_bool h5.out.symm, rfl⟩
end Go.Proofs.Ytigkmcbkckfhbaa
