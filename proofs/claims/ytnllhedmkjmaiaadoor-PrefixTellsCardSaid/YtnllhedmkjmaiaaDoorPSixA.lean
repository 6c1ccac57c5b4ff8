/- The text of any address of IPv6. Conditions: the library's table of math/bits holds 4 at its place 15. -/
import Derived.Test.YtnllhedmkjmaiaaDoorPLeftA
import Derived.Test.YtnllhedmkjmaiaaDoorPSix
namespace Go.Proofs.YtnllhedmkjmaiaaDoor
open Go.RowKit
set_option linter.unusedVariables false

/-- a number of two bytes -/
def grp (y : Nat → Nat) (j : Nat) : Nat := 256 * y (2 * j) + y (2 * j + 1)
def grpT (y : Nat → Nat) (j : Nat) : ByteArray := ⟨(hexD (grp y j)).toArray⟩
theorem or_grp (a b : Nat) (ha : a < 256) (hb : b < 256) : bits .or .u64 ((a : Int) * 256) (b : Int) = ((256 * a + b : Nat) : Int) := by
  have := bits_or_u64_nat (a * 256) b (by omega) (by omega)
  rw [show (((a * 256 : Nat)) : Int) = (a : Int) * 256 by omega] at this
  rw [this]
  congr 1
  have h := Nat.shiftLeft_add_eq_or_of_lt (show b < 2 ^ 8 by omega) a
  rw [Nat.shiftLeft_eq] at h
  rw [show (2 : Nat) ^ 8 = 256 from rfl] at h
  omega
/-- n of the texts from the place a on, colons between -/
def joinT (f : Nat → ByteArray) (a n : Nat) : List UInt8 := Lib.join ((List.range n).map fun j => (f (a + j)).data.toList) [58]
theorem join_part (f : Nat → ByteArray) (g o a n c : Nat) (w : World) (hg : g < w.heap.size) (hc : n ≤ c) (hn : n ≤ 8) (h : n = 0 ∨ (o = a ∧ ∀ j, j < n → w.cell? ⟨g, a + j, none⟩ = some (.string (f (a + j))))) (hl : (joinT f a n).length ≤ 1000) :
    Calls Tryd.prog 46 #[.slice (some ⟨g, o, none⟩) n c, .string ⟨#[58]⟩] w fun e w' => e = .returned (.string ⟨(joinT f a n).toArray⟩) ∧ Below w.heap.size w w' := by
  rcases h with rfl | ⟨rfl, h⟩
  · exact join_none _ _ _ _
  · have := Tryd.strings_Join g o c ((List.range n).map fun j => f (o + j)) ⟨#[58]⟩ w (fun j x hj => by
      have hjn : j < n := by
        rcases Nat.lt_or_ge j n with h | h
        · exact h
        · rw [List.getElem?_eq_none (by simpa using h)] at hj; cases hj
      simp [hjn] at hj
      rw [← hj]
      exact h j hjn) hg (by simp; omega) (by simpa using hc) (by
      have e : (List.map (fun x : ByteArray => x.data.toList) ((List.range n).map fun j => f (o + j))) = (List.range n).map fun j => (f (o + j)).data.toList := by simp
      rw [e]
      exact Nat.le_trans hl (by decide))
    have e : (List.map (fun x : ByteArray => x.data.toList) ((List.range n).map fun j => f (o + j))) = (List.range n).map fun j => (f (o + j)).data.toList := by simp
    rw [e, List.length_map, List.length_range] at this
    exact this
theorem hexD_len (n : Nat) (h : n < 65536) : (hexD n).length ≤ 4 := by
  by_cases h1 : n < 16
  · rw [hexD_lt h1]; simp
  · rw [hexD_ge (by omega)]
    by_cases h2 : n / 16 < 16
    · rw [hexD_lt h2]; simp
    · rw [hexD_ge (by omega)]
      by_cases h3 : n / 16 / 16 < 16
      · rw [hexD_lt h3]; simp
      · rw [hexD_ge (by omega), hexD_lt (by omega)]; simp
theorem join_len (l : List (List UInt8)) (h : ∀ x ∈ l, x.length ≤ 4) : (Lib.join l [58]).length ≤ 5 * l.length := by
  induction l with
  | nil => simp [Lib.join]
  | cons x l ih =>
    have h1 := h x (by simp)
    have h2 := ih (fun y hy => h y (by simp [hy]))
    cases l with
    | nil => simp [Lib.join] at *; omega
    | cons y l => simp [Lib.join] at *; omega
theorem joinT_len (y : Nat → Nat) (hy : ∀ j, y j < 256) (a n : Nat) (hn : n ≤ 8) : (joinT (grpT y) a n).length ≤ 1000 := by
  unfold joinT
  have := join_len ((List.range n).map fun j => (grpT y (a + j)).data.toList) (fun x hx => by
    obtain ⟨j, _, rfl⟩ := List.mem_map.1 hx
    have h1 := hy (2 * (a + j))
    have h2 := hy (2 * (a + j) + 1)
    exact hexD_len (grp y (a + j)) (by unfold grp; omega))
  simp at this
  omega
/-- the text of an address of IPv6 -/
def sixT (f : Nat → ByteArray) : ByteArray := if (lst f 8).fr = (lst f 8).be then ⟨(joinT f 0 8).toArray⟩ else ⟨(joinT f 0 (lst f 8).fr).toArray⟩ ++ ⟨#[58, 58]⟩ ++ ⟨(joinT f (lst f 8).be (8 - (lst f 8).be)).toArray⟩

set_option maxHeartbeats 1000000 in
set_option maxRecDepth 100000 in
theorem six_any (y : Nat → Nat) (hy : ∀ j, y j < 256) (w : World) (hs : 5 < w.heap.size) (h : w.cell? ⟨5, 15, none⟩ = some (.int .u8 4)) :
    Calls Tryd.prog 36 #[.agg (agC (fun j => (y j : Int)))] w fun e w' => e = .returned (.string (sixT (grpT y))) ∧ Below w.heap.size w w' := by
  obtain ⟨i0, hi, hz0, hz1, hz2⟩ := info_parts info_str
  go_enter Tryd.func36, Tryd.ntmps36
  go_wp2_with fail
  go_loopw [3, 4] (fun v i wr => ∃ k : Nat, k ≤ 8 ∧ i = .int .i64 ((2 * k : Nat) : Int) ∧ wr.ownsRow (w.heap.size + 1) 9 1 v k (strs (grpT y) k) ∧ wr.heap[w.heap.size]? = some (.cells (agC (fun j => (y j : Int))) 22 (0, 0)) ∧ Below w.heap.size w wr)
    (fun _ i _ => 16 - (intOf i).toNat)
  case atStart => exact ⟨0, by omega, rfl, World.ownsRow_nil _ _ _ _, heap_alloc_new w _, (bself w).alloc (Nat.le_refl _) _⟩
  case round =>
    obtain ⟨k, hk, rfl, hown, hA, hb⟩ := hrel
    have hbs := hb.size
    by_cases hk8 : k < 8
    · generalize hm : 2 * k = m
      have c : wr.cell? ⟨w.heap.size, m, none⟩ = some (.int .u8 (y m)) := (cell_of_row wr w.heap.size m _ _ _ hA).trans (agC_at _ m (by omega))
      have c1 : wr.cell? ⟨w.heap.size, m + 1, none⟩ = some (.int .u8 (y (m + 1))) := (cell_of_row wr w.heap.size (m + 1) _ _ _ hA).trans (agC_at _ (m + 1) (by omega))
      have hwb : w.heap.size < wr.heap.size := (Array.getElem?_eq_some_iff.1 hA).1
      have HO := Lib.hid hown
      have m1 : k + 1 ≤ maxLen := by unfold maxLen; omega
      have m2 : m < 16 := by omega
      have hg : grpT y k = ⟨(hexD (256 * y m + y (m + 1))).toArray⟩ := by unfold grpT grp; rw [hm]
      have HG := Lib.hid hg
      have hya := hy m
      have hyb := hy (m + 1)
      generalize y m = ya at *
      generalize y (m + 1) = yb at *
      have e0 := or_grp ya yb hya hyb
      have hgl : 256 * ya + yb < 65536 := by omega
      clear hown hg
      go_wp2_with fail
      go_region
      go_wp2_with fail
      rw [show (256 * (ya : Int) + (yb : Int)) = ((256 * ya + yb : Nat) : Int) by omega]
      refine (fmt_any (256 * ya + yb) hgl _ (by simp; omega) (by exact (hb.cell (by simp; omega)).trans h)).mono ?_
      rintro e w1 ⟨rfl, hb1⟩
      rw [← HG.out]
      have hbx : Below wr.heap.size wr w1 := (bself wr).drew.trans hb1
      have hw1 := hbx.size
      have HO1 := Lib.hid (ownsRow_below HO.out hbx)
      have HA1 := Lib.hid ((hbx.block _ hwb).trans hA)
      have HB1 := Lib.hid (hb.trans (hbx.mono hbs))
      clear hb1 hbx HO hA hb c c1
      go_wp2_with (at_builtin; refine wpList_append_own_at _ rfl (.tmp 23) (.tmp 26) 74 rfl (w.heap.size + 1) 9 i0 (.string ⟨#[]⟩) 1 16 Tryd.underlying74 hi hz0 hz1 hz2 rfl (by decide) u3 k _ rfl (HO1.out.alloc _) ⟨w1.heap.size, 0, none⟩ 1 1 [.string (grpT y k)] rfl rfl (one_new w1 _ _) (str_one _) m1 (by omega) (by simp; omega) ?_; intro v2 w2 hown2 hgrow2 hnil2 hat2)
      have HB := Lib.hid ((HB1.out.alloc (by omega) _).grown hgrow2 (by simp; omega) (fun x e => by have := (HO1.out.lt x e).1; omega))
      have HA := Lib.hid ((hgrow2.block w.heap.size (by simp; omega) (fun e => by have := (HO1.out.lt _ e.symm).1; omega)).trans ((Below.heap_alloc _ _ _ (by omega)).trans HA1.out))
      clear hgrow2 hnil2 hat2
      subst hm
      go_wp2
      go_roundw
      case rel => exact ⟨k + 1, by omega, by go_num, hown2, HA.out, HB.out⟩
      case measure => simp only [intOf]; omega
    · obtain rfl : k = 8 := by omega
      obtain ⟨g, cap, rfl, hg, hlt, hc1, hc2, hcs⟩ := own_strs hown (by omega)
      have HC := Lib.hid hcs
      have hjl := joinT_len y hy
      have hbd := lst_bd (grpT y) 8
      clear hown hA hcs
      go_wp2_with fail
      refine (left_any (grpT y) g cap _ HC.out).mono ?_
      rintro e w' ⟨rfl, rfl⟩
      obtain ⟨fr, hfr⟩ : ∃ fr, fr = (lst (grpT y) 8).fr := ⟨_, rfl⟩
      obtain ⟨be, hbe⟩ : ∃ be, be = (lst (grpT y) 8).be := ⟨_, rfl⟩
      rw [← hfr, ← hbe]
      rw [← hfr, ← hbe] at hbd
      have hfin : sixT (grpT y) = if fr = be then ⟨(joinT (grpT y) 0 8).toArray⟩ else ⟨(joinT (grpT y) 0 fr).toArray⟩ ++ ⟨#[58, 58]⟩ ++ ⟨(joinT (grpT y) be (8 - be)).toArray⟩ := by unfold sixT; rw [← hfr, ← hbe]
      clear hfr hbe
      by_cases hfb : fr = be
      · have HF := Lib.hid (hfin.trans (if_pos hfb))
        clear hfin
        subst hfb
        have HJ := Lib.hid (join_part (grpT y) g 0 0 8 cap wr hlt hc1 (by decide) (.inr ⟨rfl, fun j hj => by rw [Nat.zero_add]; exact HC.out j hj⟩) (hjl 0 8 (by decide)))
        go_wp2_with fail
        refine HJ.out.mono ?_
        rintro e w3 ⟨rfl, hb3⟩
        go_wp2
        go_ret
        exact ⟨by rw [HF.out]; rfl, hb.trans (hb3.mono hbs)⟩
      · have HF := Lib.hid (hfin.trans (if_neg hfb))
        clear hfin
        have hfi : ¬ (fr : Int) = (be : Int) := by omega
        have hfe : ((fr : Int) == (be : Int)) = false := beq_false_of_ne hfi
        have hl1 := hjl 0 fr (by omega)
        have hl2 := hjl be (8 - be) (by omega)
        have hbc : (be : Int) ≤ (cap : Int) := by omega
        have hb8 : (be : Int) ≤ 8 := by omega
        have hf8 : (fr : Int) ≤ (cap : Int) := by omega
        go_wp2_with fail
        obtain ⟨e8, h8⟩ : ∃ e8 : Nat, e8 = if cap = be then 0 else be := ⟨_, rfl⟩
        have ho : 8 - be = 0 ∨ e8 = be := by
          rw [h8]
          split
          · left; omega
          · right; rfl
        refine wp_region_held_drew (S := fun w' => Hid (Below w.heap.size w w' ∧ ∀ j, j < 8 → w'.cell? ⟨g, j, none⟩ = some (.string (grpT y j)))) (by kernel_rfl) ?_ (fun hHeld => ?_)
        · exact Lib.hid ⟨hb.drew, HC.out⟩
        refine takeY (i := 0) (some 38) (v := (.slice (some ⟨g, 0, none⟩) 8 cap)) rfl rfl (by kernel_rfl) (by kernel_rfl) (by kernel_rfl) (fun _ _ _ h => h) (by rfl) (fun w' hS => by go_simp) (by assumption) ?_
        simp only [Act.put, List.setIfInBounds_toArray, List.set_cons_zero, List.set_cons_succ]
        refine takeY (i := 1) (some 39) (v := (.int .i64 (fr : Int))) rfl rfl (by kernel_rfl) (by kernel_rfl) (by kernel_rfl) (fun _ _ _ h => h) (by rfl) (fun w' hS => by go_simp) (by assumption) ?_
        simp only [Act.put, List.setIfInBounds_toArray, List.set_cons_zero, List.set_cons_succ]
        refine takeY (i := 2) (some 40) (v := (.slice (some ⟨g, 0, none⟩) fr cap)) rfl rfl (by kernel_rfl) (by kernel_rfl) (by kernel_rfl) (fun _ _ _ h => h) (by rfl) (fun w' hS => by go_simp) (by assumption) ?_
        simp only [Act.put, List.setIfInBounds_toArray, List.set_cons_zero, List.set_cons_succ]
        refine takeY (i := 5) (some 43) (v := (.slice (some ⟨g, 0, none⟩) 8 cap)) rfl rfl (by kernel_rfl) (by kernel_rfl) (by kernel_rfl) (fun _ _ _ h => h) (by rfl) (fun w' hS => by go_simp) (by assumption) ?_
        simp only [Act.put, List.setIfInBounds_toArray, List.set_cons_zero, List.set_cons_succ]
        refine takeY (i := 6) (some 44) (v := (.int .i64 (be : Int))) rfl rfl (by kernel_rfl) (by kernel_rfl) (by kernel_rfl) (fun _ _ _ h => h) (by rfl) (fun w' hS => by go_simp) (by assumption) ?_
        simp only [Act.put, List.setIfInBounds_toArray, List.set_cons_zero, List.set_cons_succ]
        refine takeY (i := 7) (some 45) (v := (.slice (some ⟨g, e8, none⟩) (8 - be) (cap - be))) rfl rfl (by kernel_rfl) (by kernel_rfl) (by kernel_rfl) (fun _ _ _ h => h) (by rfl) (fun w' hS => by rw [h8]; go_simp; split <;> rfl) (by assumption) ?_
        simp only [Act.put, List.setIfInBounds_toArray, List.set_cons_zero, List.set_cons_succ]
        refine takeC (i := 3) (some 41) 46 #[(.slice (some ⟨g, 0, none⟩) fr cap), .string ⟨#[58]⟩] (.string ⟨(joinT (grpT y) 0 fr).toArray⟩) rfl rfl (by kernel_rfl) (by rfl) (by go_simp) (join_part (grpT y) g 0 0 fr cap _ (cell_lt (hHeld.out.2 0 (by decide))) (by omega) (by omega) (.inr ⟨rfl, fun j hj => by rw [Nat.zero_add]; exact hHeld.out.2 j (by omega)⟩) (hjl 0 fr (by omega))) (fun w1 hb1 => Lib.hid ⟨hHeld.out.1.trans (hb1.mono hHeld.out.1.size), fun j hj => (hb1.cell (cell_lt (hHeld.out.2 j hj))).trans (hHeld.out.2 j hj)⟩) (fun w3 hb3 hH3 => ?_)
        simp only [Act.put, List.setIfInBounds_toArray, List.set_cons_zero, List.set_cons_succ]
        refine takeY (i := 4) (some 42) (v := (.string (⟨(joinT (grpT y) 0 fr).toArray⟩ ++ ⟨#[58, 58]⟩))) rfl rfl (by kernel_rfl) (by kernel_rfl) (by kernel_rfl) (fun _ _ _ h => h) (by rfl) (fun w' hS => by go_simp; omega) (by assumption) ?_
        simp only [Act.put, List.setIfInBounds_toArray, List.set_cons_zero, List.set_cons_succ]
        refine takeC (i := 8) (some 46) 46 #[(.slice (some ⟨g, e8, none⟩) (8 - be) (cap - be)), .string ⟨#[58]⟩] (.string ⟨(joinT (grpT y) be (8 - be)).toArray⟩) rfl rfl (by kernel_rfl) (by rfl) (by go_simp) (join_part (grpT y) g e8 be (8 - be) (cap - be) _ (cell_lt (hH3.out.2 0 (by decide))) (by omega) (by omega) (ho.imp id fun e => ⟨e, fun j hj => hH3.out.2 (be + j) (by omega)⟩) (hjl be (8 - be) (by omega))) (fun w1 hb1 => Lib.hid ⟨hH3.out.1.trans (hb1.mono hH3.out.1.size), fun j hj => (hb1.cell (cell_lt (hH3.out.2 j hj))).trans (hH3.out.2 j hj)⟩) (fun w4 hb4 hH4 => ?_)
        simp only [Act.put, List.setIfInBounds_toArray, List.set_cons_zero, List.set_cons_succ]
        refine takeY (i := 9) (some 47) (v := (.string (⟨(joinT (grpT y) 0 fr).toArray⟩ ++ ⟨#[58, 58]⟩ ++ ⟨(joinT (grpT y) be (8 - be)).toArray⟩))) rfl rfl (by kernel_rfl) (by kernel_rfl) (by kernel_rfl) (fun _ _ _ h => h) (by rfl) (fun w' hS => by go_simp; omega) (by assumption) ?_
        simp only [Act.put, List.setIfInBounds_toArray, List.set_cons_zero, List.set_cons_succ]
        refine takeY (i := 10) (some 2) (v := (.string (⟨(joinT (grpT y) 0 fr).toArray⟩ ++ ⟨#[58, 58]⟩ ++ ⟨(joinT (grpT y) be (8 - be)).toArray⟩))) rfl rfl (by kernel_rfl) (by kernel_rfl) (by kernel_rfl) (fun _ _ _ h => h) (by rfl) (fun w' hS => by go_simp) (by assumption) ?_
        simp only [Act.put, List.setIfInBounds_toArray, List.set_cons_zero, List.set_cons_succ]
        refine wpAnyH_done (by kernel_rfl) ?_ _
        go_wp2
        go_ret
        exact ⟨by rw [HF.out]; rfl, hH4.out.1⟩
end Go.Proofs.YtnllhedmkjmaiaaDoor
