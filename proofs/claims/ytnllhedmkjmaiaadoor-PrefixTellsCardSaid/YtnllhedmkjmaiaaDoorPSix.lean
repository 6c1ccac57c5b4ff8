/- The text of the address of IPv6 whose bytes are all nought: two colons. Conditions: the library's table of math/bits holds 4 at its place 15. -/
import Derived.Test.YtnllhedmkjmaiaaDoorPLeft
namespace Go.Proofs.YtnllhedmkjmaiaaDoor
open Go.RowKit
set_option linter.unusedVariables false

theorem join_none (a : Option Addr) (c : Nat) (sep : ByteArray) (w : World) :
    Calls Tryd.prog 46 #[.slice a 0 c, .string sep] w fun e w' => e = .returned (.string ⟨#[]⟩) ∧ Below w.heap.size w w' :=
  (Tryd.strings_Join_none a c sep w).mono fun e w' h => ⟨h.1, h.2 ▸ Below.refl _ _⟩

set_option maxHeartbeats 1000000 in
set_option maxRecDepth 100000 in
theorem six_ex (w : World) (hs : 5 < w.heap.size) (h : w.cell? ⟨5, 15, none⟩ = some (.int .u8 4)) :
    Calls Tryd.prog 36 #[.agg (agC (fun _ => 0))] w fun e w' => e = .returned (.string ⟨#[58, 58]⟩) ∧ Below w.heap.size w w' := by
  obtain ⟨i0, hi, hz0, hz1, hz2⟩ := info_parts info_str
  go_enter Tryd.func36, Tryd.ntmps36
  go_wp2_with fail
  go_loopw [3, 4] (fun v i wr => ∃ k : Nat, k ≤ 8 ∧ i = .int .i64 ((2 * k : Nat) : Int) ∧ wr.ownsRow (w.heap.size + 1) 9 1 v k (strs (fun _ => ⟨#[48]⟩) k) ∧ wr.heap[w.heap.size]? = some (.cells (agC (fun _ => 0)) 22 (0, 0)) ∧ Below w.heap.size w wr)
    (fun _ i _ => 16 - (intOf i).toNat)
  case atStart => exact ⟨0, by omega, rfl, World.ownsRow_nil _ _ _ _, heap_alloc_new w _, (bself w).alloc (Nat.le_refl _) _⟩
  case round =>
    obtain ⟨k, hk, rfl, hown, hA, hb⟩ := hrel
    have hbs := hb.size
    by_cases hk8 : k < 8
    · generalize hm : 2 * k = m
      have c : wr.cell? ⟨w.heap.size, m, none⟩ = some (.int .u8 0) := (cell_of_row wr w.heap.size m _ _ _ hA).trans (agC_at _ m (by omega))
      have c1 : wr.cell? ⟨w.heap.size, m + 1, none⟩ = some (.int .u8 0) := (cell_of_row wr w.heap.size (m + 1) _ _ _ hA).trans (agC_at _ (m + 1) (by omega))
      have hwb : w.heap.size < wr.heap.size := (Array.getElem?_eq_some_iff.1 hA).1
      have HO := Lib.hid hown
      have m1 : k + 1 ≤ maxLen := by unfold maxLen; omega
      have m2 : m < 16 := by omega
      clear hown
      have e0 : bits BinOp.or IntKind.u64 0 0 = 0 := by kernel_rfl
      go_wp2_with fail
      go_region
      go_wp2_with fail
      refine (fmt0 _ (by simp; omega) (by exact (hb.cell (by simp; omega)).trans h)).mono ?_
      rintro e w1 ⟨rfl, hb1⟩
      have hbx : Below wr.heap.size wr w1 := (bself wr).drew.trans hb1
      have hw1 := hbx.size
      have HO1 := Lib.hid (ownsRow_below HO.out hbx)
      have HA1 := Lib.hid ((hbx.block _ hwb).trans hA)
      have HB1 := Lib.hid (hb.trans (hbx.mono hbs))
      clear hb1 hbx HO hA hb c c1
      go_wp2_with (at_builtin; refine wpList_append_own_at _ rfl (.tmp 23) (.tmp 26) 74 rfl (w.heap.size + 1) 9 i0 (.string ⟨#[]⟩) 1 16 Tryd.underlying74 hi hz0 hz1 hz2 rfl (by decide) u3 k _ rfl (HO1.out.alloc _) ⟨w1.heap.size, 0, none⟩ 1 1 [.string ⟨#[48]⟩] rfl rfl (one_new w1 _ _) (str_one _) m1 (by omega) (by simp; omega) ?_; intro v2 w2 hown2 hgrow2 hnil2 hat2)
      have HB := Lib.hid ((HB1.out.alloc (by omega) _).grown hgrow2 (by simp; omega) (fun x e => by have := (HO1.out.lt x e).1; omega))
      have HA := Lib.hid ((hgrow2.block w.heap.size (by simp; omega) (fun e => by have := (HO1.out.lt _ e.symm).1; omega)).trans ((Below.heap_alloc _ _ _ (by omega)).trans HA1.out))
      clear hgrow2 hnil2 hat2
      subst hm
      go_wp2
      go_roundw
      case rel => exact ⟨k + 1, by omega, by go_num, hown2, HA.out, HB.out⟩
      case measure => simp only [intOf]; omega
    · obtain rfl : k = 8 := by omega
      obtain ⟨g, cap, rfl, hg, hlt, hc1, hc2, hcs⟩ := own_strs hown (by omega)
      have HC := Lib.hid hcs
      clear hown hA hcs
      go_wp2_with fail
      refine (left_ex g cap _ HC.out).mono ?_
      rintro e w' ⟨rfl, rfl⟩
      go_wp2_with fail
      clear HC
      obtain ⟨e8, h8⟩ : ∃ e8 : Nat, e8 = if cap = 8 then 0 else 8 := ⟨_, rfl⟩
      refine wp_region_held_drew (S := fun w' => Hid (Below w.heap.size w w')) (by kernel_rfl) ?_ (fun hHeld => ?_)
      · exact Lib.hid hb.drew
      refine takeY (i := 0) (some 38) (v := (.slice (some ⟨g, 0, none⟩) 8 cap)) rfl rfl (by kernel_rfl) (by kernel_rfl) (by kernel_rfl) (fun _ _ _ h => h) (by rfl) (fun w' hS => by go_simp) (by assumption) ?_
      simp only [Act.put, List.setIfInBounds_toArray, List.set_cons_zero, List.set_cons_succ]
      refine takeY (i := 1) (some 39) (v := (.int .i64 0)) rfl rfl (by kernel_rfl) (by kernel_rfl) (by kernel_rfl) (fun _ _ _ h => h) (by rfl) (fun w' hS => by go_simp) (by assumption) ?_
      simp only [Act.put, List.setIfInBounds_toArray, List.set_cons_zero, List.set_cons_succ]
      refine takeY (i := 2) (some 40) (v := (.slice (some ⟨g, 0, none⟩) 0 cap)) rfl rfl (by kernel_rfl) (by kernel_rfl) (by kernel_rfl) (fun _ _ _ h => h) (by rfl) (fun w' hS => by go_simp) (by assumption) ?_
      simp only [Act.put, List.setIfInBounds_toArray, List.set_cons_zero, List.set_cons_succ]
      refine takeY (i := 5) (some 43) (v := (.slice (some ⟨g, 0, none⟩) 8 cap)) rfl rfl (by kernel_rfl) (by kernel_rfl) (by kernel_rfl) (fun _ _ _ h => h) (by rfl) (fun w' hS => by go_simp) (by assumption) ?_
      simp only [Act.put, List.setIfInBounds_toArray, List.set_cons_zero, List.set_cons_succ]
      refine takeY (i := 6) (some 44) (v := (.int .i64 8)) rfl rfl (by kernel_rfl) (by kernel_rfl) (by kernel_rfl) (fun _ _ _ h => h) (by rfl) (fun w' hS => by go_simp) (by assumption) ?_
      simp only [Act.put, List.setIfInBounds_toArray, List.set_cons_zero, List.set_cons_succ]
      refine takeY (i := 7) (some 45) (v := (.slice (some ⟨g, e8, none⟩) 0 (cap - 8))) rfl rfl (by kernel_rfl) (by kernel_rfl) (by kernel_rfl) (fun _ _ _ h => h) (by rfl) (fun w' hS => by subst h8; go_simp; split <;> rfl) (by assumption) ?_
      simp only [Act.put, List.setIfInBounds_toArray, List.set_cons_zero, List.set_cons_succ]
      refine takeC (i := 3) (some 41) 46 #[(.slice (some ⟨g, 0, none⟩) 0 cap), .string ⟨#[58]⟩] (.string ⟨#[]⟩) rfl rfl (by kernel_rfl) (by rfl) (by go_simp) (join_none _ _ _ _) (fun w1 hb1 => Lib.hid (hHeld.out.trans (hb1.mono hHeld.out.size))) (fun w3 hb3 hH3 => ?_)
      simp only [Act.put, List.setIfInBounds_toArray, List.set_cons_zero, List.set_cons_succ]
      refine takeY (i := 4) (some 42) (v := (.string ⟨#[58, 58]⟩)) rfl rfl (by kernel_rfl) (by kernel_rfl) (by kernel_rfl) (fun _ _ _ h => h) (by rfl) (fun w' hS => by go_simp; rfl) (by assumption) ?_
      simp only [Act.put, List.setIfInBounds_toArray, List.set_cons_zero, List.set_cons_succ]
      refine takeC (i := 8) (some 46) 46 #[(.slice (some ⟨g, e8, none⟩) 0 (cap - 8)), .string ⟨#[58]⟩] (.string ⟨#[]⟩) rfl rfl (by kernel_rfl) (by rfl) (by go_simp) (join_none _ _ _ _) (fun w1 hb1 => Lib.hid (hH3.out.trans (hb1.mono hH3.out.size))) (fun w4 hb4 hH4 => ?_)
      simp only [Act.put, List.setIfInBounds_toArray, List.set_cons_zero, List.set_cons_succ]
      refine takeY (i := 9) (some 47) (v := (.string ⟨#[58, 58]⟩)) rfl rfl (by kernel_rfl) (by kernel_rfl) (by kernel_rfl) (fun _ _ _ h => h) (by rfl) (fun w' hS => by go_simp; rfl) (by assumption) ?_
      simp only [Act.put, List.setIfInBounds_toArray, List.set_cons_zero, List.set_cons_succ]
      refine takeY (i := 10) (some 2) (v := (.string ⟨#[58, 58]⟩)) rfl rfl (by kernel_rfl) (by kernel_rfl) (by kernel_rfl) (fun _ _ _ h => h) (by rfl) (fun w' hS => by go_simp) (by assumption) ?_
      simp only [Act.put, List.setIfInBounds_toArray, List.set_cons_zero, List.set_cons_succ]
      refine wpAnyH_done (by kernel_rfl) ?_ _
      go_wp2
      go_ret
      exact ⟨rfl, hH4.out⟩
end Go.Proofs.YtnllhedmkjmaiaaDoor
