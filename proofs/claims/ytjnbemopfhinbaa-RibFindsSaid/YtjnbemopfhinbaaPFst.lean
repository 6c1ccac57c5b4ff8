/- first answers the address's first bits. Each theorem states its conditions. -/
import Derived.Test.YtjnbemopfhinbaaSpare
import Derived.Test.YtjnbemopfhinbaaPForm
import Derived.Laws.CopyOwn
import Derived.Deep.WholeRow
namespace Go.Proofs.Ytjnbemopfhinbaa
open Go.RowKit
set_option linter.unusedVariables false

theorem info_u8s : (Try.prog.info? 5).map (·.size) = some 1 := by kernel_rfl
def zeros : List Value := [.int .u8 0, .int .u8 0, .int .u8 0, .int .u8 0, .int .u8 0, .int .u8 0, .int .u8 0, .int .u8 0, .int .u8 0, .int .u8 0, .int .u8 0, .int .u8 0, .int .u8 0, .int .u8 0, .int .u8 0, .int .u8 0]
theorem agC_one (z : Nat → Int) : ∀ v ∈ (agC z).toList, v.oneCell' = true := by
  intro v hv
  simp only [agC, ag, List.mem_cons, List.not_mem_nil, or_false] at hv
  rcases hv with rfl | rfl | rfl | rfl | rfl | rfl | rfl | rfl | rfl | rfl | rfl | rfl | rfl | rfl | rfl | rfl <;> rfl

/-- what is behind the copy -/
def cutZ (z : Nat → Int) (q : Nat) : Nat → Int := fun j => if j < q then z j else 0
theorem kept_of (z : Nat → Int) (q : Nat) (hq : q ≤ 16) : (splice zeros 0 ((agC z).toList.take q)).toArray = agC (cutZ z q) := by
  have hl : ((agC z).toList.take q).length = q := by rw [List.length_take, Array.length_toList, agC_size]; omega
  have hz : zeros.length = 16 := rfl
  apply agC_ext
  · rw [List.size_toArray, length_splice _ _ _ (by rw [hl, hz]; omega), hz]
  · intro j hj
    simp only [splice, List.take_zero, List.nil_append, Nat.zero_add, List.getElem?_toArray]
    unfold cutZ
    by_cases h : j < q
    · rw [List.getElem?_append_left (by omega), List.getElem?_take, if_pos h, if_pos h]
      simpa using agC_at z j hj
    · rw [List.getElem?_append_right (by omega), hl, if_neg h, List.getElem?_drop]
      rw [show q + (j - q) = j by omega]
      rcases (by omega : j = 0 ∨ j = 1 ∨ j = 2 ∨ j = 3 ∨ j = 4 ∨ j = 5 ∨ j = 6 ∨ j = 7 ∨ j = 8 ∨ j = 9 ∨ j = 10 ∨ j = 11 ∨ j = 12 ∨ j = 13 ∨ j = 14 ∨ j = 15) with rfl | rfl | rfl | rfl | rfl | rfl | rfl | rfl | rfl | rfl | rfl | rfl | rfl | rfl | rfl | rfl <;> rfl
/-- block b holds an address -/
def IsAg (w : World) (b : Nat) (z : Nat → Int) : Prop := w.heap[b]? = some (.cells (agC z) 23 (0, 0))
theorem IsAg.at {w : World} {b : Nat} {z : Nat → Int} (h : IsAg w b z) (j : Nat) (hj : j < 16) : w.cell? ⟨b, j, none⟩ = some (.int .u8 (z j)) := (cell_of_row w b j _ _ _ h).trans (agC_at z j hj)
theorem IsAg.free {w : World} {b : Nat} {z : Nat → Int} (h : IsAg w b z) (j : Nat) : w.frozen? ⟨b, j, none⟩ = false := by unfold IsAg at h; simp [World.frozen?, h]
theorem IsAg.lt {w : World} {b : Nat} {z : Nat → Int} (h : IsAg w b z) : b < w.heap.size := (Array.getElem?_eq_some_iff.1 h).1
theorem IsAg.range {w : World} {b : Nat} {z : Nat → Int} (h : IsAg w b z) : w.rangeAt b 0 (agC z).toList := by
  intro j v hv
  rw [Nat.zero_add, cell_of_row w b j _ _ _ h]
  simpa using hv
theorem IsAg.there {w : World} {b : Nat} {z : Nat → Int} (h : IsAg w b z) : w.there b 0 16 := by
  intro j hj
  rw [Nat.zero_add, h.at j hj]
  exact ⟨rfl, h.free j⟩
theorem IsAg.put {w : World} {b : Nat} {z : Nat → Int} (h : IsAg w b z) (k : Nat) (hk : k < 16) (v : Int) : IsAg (w.setCell ⟨b, k, none⟩ (.int .u8 v)) b (fun j => if j = k then v else z j) := by
  unfold IsAg at *
  have : ((agC z).setIfInBounds k (.int .u8 v)) = agC (fun j => if j = k then v else z j) := by
    apply agC_ext
    · simp [agC_size]
    · intro j hj
      rw [Array.getElem?_setIfInBounds]
      by_cases e : k = j
      · subst e; rw [if_pos rfl, if_pos (by rw [agC_size]; omega), if_pos rfl]
      · rw [if_neg e, if_neg (fun x => e x.symm)]; exact agC_at z j hj
  rw [← this]
  simp [World.setCell, Array.getElem?_modify, h]

set_option maxHeartbeats 2000000 in
theorem first_any (z : Nat → Int) (q r : Nat) (hq : q ≤ 16) (hr : r < 8) (hqr : 8 * q + r ≤ 128) (w : World) (hz : Bytes z) (i : Int) (hi : i = 8 * (q : Int) + r) :
    Calls Try.prog 55 #[.agg (agC z), .int .i64 i] w fun e w' => e = .returned (.agg (agC (firstZ z (8 * q + r)))) ∧ Below w.heap.size w w' := by
  have h1 : i.tdiv 8 = (q : Int) := by rw [Int.tdiv_eq_ediv_of_nonneg (by omega)]; omega
  have h2 : i.tmod 8 = (r : Int) := by rw [Int.tmod_eq_emod_of_nonneg (by omega)]; omega
  have q0 : (0 : Int) ≤ (q : Int) := by omega
  have q1 : (q : Int) ≤ 16 := by omega
  clear hi
  go_enter Try.func55, Try.ntmps55
  go_wp2_with fail
  obtain ⟨W, hW⟩ : ∃ W, ((w.alloc (.cells (agC z) 23)).alloc (.cells #[.int .u8 0, .int .u8 0, .int .u8 0, .int .u8 0, .int .u8 0, .int .u8 0, .int .u8 0, .int .u8 0, .int .u8 0, .int .u8 0, .int .u8 0, .int .u8 0, .int .u8 0, .int .u8 0, .int .u8 0, .int .u8 0] 23)).alloc (.cells #[.int .u8 0, .int .u8 0, .int .u8 0, .int .u8 0, .int .u8 0, .int .u8 0, .int .u8 0, .int .u8 0, .int .u8 0, .int .u8 0, .int .u8 0, .int .u8 0, .int .u8 0, .int .u8 0, .int .u8 0, .int .u8 0] 23) = W := ⟨_, rfl⟩
  rw [hW]
  have e0 : W.heap[w.heap.size]? = some (.cells (agC z) 23 (0, 0)) := by
    rw [← hW]
    exact (Below.heap_alloc _ _ _ (by simp <;> omega)).trans ((Below.heap_alloc _ _ _ (by simp)).trans (heap_alloc_new w _))
  have e1 : W.heap[w.heap.size + 1]? = some (.cells zeros.toArray 23 (0, 0)) := by
    rw [← hW]
    have := heap_alloc_new (w.alloc (.cells (agC z) 23)) (.cells #[.int .u8 0, .int .u8 0, .int .u8 0, .int .u8 0, .int .u8 0, .int .u8 0, .int .u8 0, .int .u8 0, .int .u8 0, .int .u8 0, .int .u8 0, .int .u8 0, .int .u8 0, .int .u8 0, .int .u8 0, .int .u8 0] 23)
    rw [World.size_alloc] at this
    exact (Below.heap_alloc _ _ _ (by simp)).trans this
  have e2 : W.heap[w.heap.size + 1 + 1]? = some (.cells zeros.toArray 23 (0, 0)) := by
    rw [← hW]
    have := heap_alloc_new ((w.alloc (.cells (agC z) 23)).alloc (.cells #[.int .u8 0, .int .u8 0, .int .u8 0, .int .u8 0, .int .u8 0, .int .u8 0, .int .u8 0, .int .u8 0, .int .u8 0, .int .u8 0, .int .u8 0, .int .u8 0, .int .u8 0, .int .u8 0, .int .u8 0, .int .u8 0] 23)) (.cells #[.int .u8 0, .int .u8 0, .int .u8 0, .int .u8 0, .int .u8 0, .int .u8 0, .int .u8 0, .int .u8 0, .int .u8 0, .int .u8 0, .int .u8 0, .int .u8 0, .int .u8 0, .int .u8 0, .int .u8 0, .int .u8 0] 23)
    rw [World.size_alloc, World.size_alloc] at this
    exact this
  have hB : Below w.heap.size w W := by rw [← hW]; exact (((bself w).alloc (Nat.le_refl _) _).alloc (by simp) _).alloc (by simp only [World.size_alloc]; omega) _
  have HB := Lib.hid hB
  have E0 := Lib.hid e0
  have E1 := Lib.hid e1
  have E2 := Lib.hid e2
  clear hW hB e0 e1 e2
  have hcs : ((agC z).toList.take q).length = Nat.min q 16 := by rw [List.length_take, Array.length_toList, agC_size]
  have HCS := Lib.hid hcs
  have hsrc := Lib.hid (fun (W' : World) (h : W'.heap = W.heap) => show ∀ j v, ((agC z).toList.take q)[j]? = some v → W'.cell? ((⟨w.heap.size, 0, none⟩ : Addr).add j) = some v from fun j v hv => by
    have hadd : (⟨w.heap.size, 0, none⟩ : Addr).add j = ⟨w.heap.size, j, none⟩ := by unfold Addr.add; split <;> simp_all
    rw [hadd, cell_of_row W' w.heap.size j _ _ (0, 0) (by rw [h]; exact E0.out)]
    rw [List.getElem?_take] at hv
    split at hv
    · simpa using hv
    · cases hv)
  have hone := Lib.hid (show ∀ v ∈ (agC z).toList.take q, v.oneCell' = true from fun v hv => agC_one z v (List.mem_of_mem_take hv))
  have hfit := Lib.hid (show 0 + ((agC z).toList.take q).length ≤ zeros.length by
    simp only [List.length_take, Array.length_toList, agC_size]; show 0 + min q 16 ≤ 16; omega)
  clear hcs
  go_region_held3 (fun w' => True) (trivial)
    ((refine step_copy_splice rfl (.tmp 12) (.tmp 14) 113 113 rfl 5 Try.underlying113 info_u8s (some ⟨w.heap.size + 1 + 1, 0, none⟩) (some ⟨w.heap.size, 0, none⟩) 16 16 q 16 (by rfl) (by rfl) (w.heap.size + 1 + 1) 0 zeros 23 (by exact E2.out) ((agC z).toList.take q) HCS.out (fun _ => ⟨rfl, _, rfl, hsrc.out _ rfl⟩) hfit.out hone.out (w.heap.size + 2) W (by exact (Below.refl _ W).drew) (Nat.le_refl _) ?_; intro w1 hc1 hb1))
  have hK1 : IsAg w1 (w.heap.size + 1 + 1) (cutZ z q) := by have := hc1.out; rw [kept_of z q hq] at this; exact this
  have hA0 : IsAg w1 w.heap.size z := (hb1.block w.heap.size (by omega)).trans E0.out
  have hR0 : w1.heap[w.heap.size + 1]? = some (.cells (agC (fun _ => 0)) 23 (0, 0)) := (hb1.block (w.heap.size + 1) (by omega)).trans E1.out
  have hB1 : Below w.heap.size w w1 := HB.out.trans (hb1.mono (by omega))
  have HK1 := Lib.hid hK1
  have HA0 := Lib.hid hA0
  have HR0 := Lib.hid (show IsAg w1 (w.heap.size + 1) (fun _ => 0) from hR0)
  have HB1 := Lib.hid hB1
  clear hc1 hK1 hA0 hR0 hb1 hB1 HCS hsrc hone hfit
  rcases (by omega : r = 0 ∨ 0 < r) with rfl | hr0
  · have hfz : agC (cutZ z q) = agC (firstZ z (8 * q + 0)) := agC_ext (agC_size _) (fun j hj => by
      rw [agC_at _ j hj]
      unfold cutZ
      by_cases h : j < q
      · rw [if_pos h, firstZ_lo (by omega)]
      · rw [if_neg h, firstZ_hi (by omega)])
    have HFZ := Lib.hid hfz
    clear hfz
    have hall := Lib.hid (show (agC (cutZ z q)).all (·.oneCell') = true by simpa using all_oneCell_toArray (agC_one (cutZ z q)))
    go_wp2_with (first | (refine wpList_load_row rfl 23 (.tmp 5) rfl (w.heap.size + 1 + 1) rfl 23 (agC (cutZ z q)) (0, 0) _ HK1.out Try.underlying23 rfl info_ag ?_) | (refine store_blk rfl (.tmp 4) (.tmp 26) rfl rfl rfl HR0.out info_ag rfl hall.out ?_; intro w2 hg2 hb2 ho2; refine Hid.out ?_))
    refine Lib.hid ?_
    have hbl : Below w.heap.size w w2 := HB1.out.trans (hb2 _ (by omega))
    go_wp2
    exact bodyPost_ret (results_cell_row rfl _ _ (w.heap.size + 1) 23 (agC (cutZ z q)) (0, 0) _ rfl hg2 Try.underlying23 rfl info_ag) rfl ⟨by rw [HFZ.out], hbl⟩
  · have hq16 : q < 16 := by omega
    have q2 : (q : Int) < 16 := by omega
    have c0 := HA0.out.at q hq16
    have c1 : w1.cell? ⟨w.heap.size + 1 + 1, q, none⟩ = some (.int .u8 0) := by
      have := HK1.out.at q hq16
      rw [this]; unfold cutZ; rw [if_neg (by omega)]
    have f1 := HK1.out.free q
    have hkp := Lib.hid (keep_andNot (z q) (hz q) r hr0 hr)
    have hfz : agC (fun j => if j = q then keep (z q) r else cutZ z q j) = agC (firstZ z (8 * q + r)) := agC_ext (agC_size _) (fun j hj => by
      rw [agC_at _ j hj]
      unfold cutZ
      by_cases e : j = q
      · subst e; rw [if_pos rfl, firstZ_mid (by omega) (by omega), show 8 * j + r - 8 * j = r by omega]
      · rw [if_neg e]
        by_cases h : j < q
        · rw [if_pos h, firstZ_lo (by omega)]
        · rw [if_neg h, firstZ_hi (by omega)])
    have HFZ := Lib.hid hfz
    have hall := Lib.hid (show (agC (fun j => if j = q then keep (z q) r else cutZ z q j)).all (·.oneCell') = true by simpa using all_oneCell_toArray (agC_one _))
    have hzq := hz q
    clear hfz
    have hkeep := Lib.hid (fun (v : Value) => show (w1.setCell ⟨w.heap.size + 1 + 1, q, none⟩ v).cell? ⟨w.heap.size, q, none⟩ = some (.int .u8 (z q)) from
      (World.cell?_of_block (Below.heap_setCell w1 _ v w.heap.size (by simp; omega))).trans c0)
    have hkeep := (fun (v : Value) => show (w1.setCell ⟨w.heap.size + 1 + 1, q, none⟩ v).cell? ⟨w.heap.size, q, none⟩ = some (.int .u8 (z q)) from
      (World.cell?_of_block (Below.heap_setCell w1 _ v w.heap.size (by simp; omega))).trans c0)
    rcases (by omega : r = 1 ∨ r = 2 ∨ r = 3 ∨ r = 4 ∨ r = 5 ∨ r = 6 ∨ r = 7) with rfl | rfl | rfl | rfl | rfl | rfl | rfl
    · have hand := hkp.out
      rw [show (255 : Int) / 2 ^ 1 = 127 by decide] at hand
      have HAND := Lib.hid hand
      clear hand
      go_wp2_with fail
      go_region_held3 (fun w' => w'.cell? ⟨w.heap.size, q, none⟩ = some (.int .u8 (z q))) (first | go_keep | exact hkeep _ | (simp [hkeep])) (fail)
      have hP := HK1.out.put q hq16 (bits .andNot .u8 (z q) 127)
      rw [HAND.out] at hP ⊢
      obtain ⟨w2, hw2⟩ : ∃ w2, (w1.setCell ⟨w.heap.size + 1 + 1, q, none⟩ (.int .u8 (keep (z q) 1))).drew = w2 := ⟨_, rfl⟩
      have HP2 := Lib.hid (show IsAg w2 (w.heap.size + 1 + 1) (fun j => if j = q then keep (z q) 1 else cutZ z q j) from hw2 ▸ hP)
      have HR2 := Lib.hid (show IsAg w2 (w.heap.size + 1) (fun _ => 0) from hw2 ▸ ((Below.heap_setCell w1 ⟨w.heap.size + 1 + 1, q, none⟩ _ (w.heap.size + 1) (by simp)).trans HR0.out))
      have HB2 := Lib.hid (show Below w.heap.size w w2 from hw2 ▸ (HB1.out.setCell (p := ⟨w.heap.size + 1 + 1, q, none⟩) (by simp <;> omega) _).drew)
      rw [hw2]
      clear hw2 hP c0 c1 f1 hkeep
      go_wp2_with (first | (refine wpList_load_row rfl 23 (.tmp 5) rfl (w.heap.size + 1 + 1) rfl 23 (agC (fun j => if j = q then keep (z q) 1 else cutZ z q j)) (0, 0) _ HP2.out Try.underlying23 rfl info_ag ?_) | (refine store_blk rfl (.tmp 4) (.tmp 26) rfl rfl rfl HR2.out info_ag rfl hall.out ?_; intro w3 hg3 hb3 ho3; refine Hid.out ?_))
      refine Lib.hid ?_
      have hbl : Below w.heap.size w w3 := HB2.out.trans (hb3 _ (by omega))
      go_wp2
      exact bodyPost_ret (results_cell_row rfl _ _ (w.heap.size + 1) 23 (agC (fun j => if j = q then keep (z q) 1 else cutZ z q j)) (0, 0) _ rfl hg3 Try.underlying23 rfl info_ag) rfl ⟨by rw [HFZ.out], hbl⟩
    · have hand := hkp.out
      rw [show (255 : Int) / 2 ^ 2 = 63 by decide] at hand
      have HAND := Lib.hid hand
      clear hand
      go_wp2_with fail
      go_region_held3 (fun w' => w'.cell? ⟨w.heap.size, q, none⟩ = some (.int .u8 (z q))) (first | go_keep | exact hkeep _ | (simp [hkeep])) (fail)
      have hP := HK1.out.put q hq16 (bits .andNot .u8 (z q) 63)
      rw [HAND.out] at hP ⊢
      obtain ⟨w2, hw2⟩ : ∃ w2, (w1.setCell ⟨w.heap.size + 1 + 1, q, none⟩ (.int .u8 (keep (z q) 2))).drew = w2 := ⟨_, rfl⟩
      have HP2 := Lib.hid (show IsAg w2 (w.heap.size + 1 + 1) (fun j => if j = q then keep (z q) 2 else cutZ z q j) from hw2 ▸ hP)
      have HR2 := Lib.hid (show IsAg w2 (w.heap.size + 1) (fun _ => 0) from hw2 ▸ ((Below.heap_setCell w1 ⟨w.heap.size + 1 + 1, q, none⟩ _ (w.heap.size + 1) (by simp)).trans HR0.out))
      have HB2 := Lib.hid (show Below w.heap.size w w2 from hw2 ▸ (HB1.out.setCell (p := ⟨w.heap.size + 1 + 1, q, none⟩) (by simp <;> omega) _).drew)
      rw [hw2]
      clear hw2 hP c0 c1 f1 hkeep
      go_wp2_with (first | (refine wpList_load_row rfl 23 (.tmp 5) rfl (w.heap.size + 1 + 1) rfl 23 (agC (fun j => if j = q then keep (z q) 2 else cutZ z q j)) (0, 0) _ HP2.out Try.underlying23 rfl info_ag ?_) | (refine store_blk rfl (.tmp 4) (.tmp 26) rfl rfl rfl HR2.out info_ag rfl hall.out ?_; intro w3 hg3 hb3 ho3; refine Hid.out ?_))
      refine Lib.hid ?_
      have hbl : Below w.heap.size w w3 := HB2.out.trans (hb3 _ (by omega))
      go_wp2
      exact bodyPost_ret (results_cell_row rfl _ _ (w.heap.size + 1) 23 (agC (fun j => if j = q then keep (z q) 2 else cutZ z q j)) (0, 0) _ rfl hg3 Try.underlying23 rfl info_ag) rfl ⟨by rw [HFZ.out], hbl⟩
    · have hand := hkp.out
      rw [show (255 : Int) / 2 ^ 3 = 31 by decide] at hand
      have HAND := Lib.hid hand
      clear hand
      go_wp2_with fail
      go_region_held3 (fun w' => w'.cell? ⟨w.heap.size, q, none⟩ = some (.int .u8 (z q))) (first | go_keep | exact hkeep _ | (simp [hkeep])) (fail)
      have hP := HK1.out.put q hq16 (bits .andNot .u8 (z q) 31)
      rw [HAND.out] at hP ⊢
      obtain ⟨w2, hw2⟩ : ∃ w2, (w1.setCell ⟨w.heap.size + 1 + 1, q, none⟩ (.int .u8 (keep (z q) 3))).drew = w2 := ⟨_, rfl⟩
      have HP2 := Lib.hid (show IsAg w2 (w.heap.size + 1 + 1) (fun j => if j = q then keep (z q) 3 else cutZ z q j) from hw2 ▸ hP)
      have HR2 := Lib.hid (show IsAg w2 (w.heap.size + 1) (fun _ => 0) from hw2 ▸ ((Below.heap_setCell w1 ⟨w.heap.size + 1 + 1, q, none⟩ _ (w.heap.size + 1) (by simp)).trans HR0.out))
      have HB2 := Lib.hid (show Below w.heap.size w w2 from hw2 ▸ (HB1.out.setCell (p := ⟨w.heap.size + 1 + 1, q, none⟩) (by simp <;> omega) _).drew)
      rw [hw2]
      clear hw2 hP c0 c1 f1 hkeep
      go_wp2_with (first | (refine wpList_load_row rfl 23 (.tmp 5) rfl (w.heap.size + 1 + 1) rfl 23 (agC (fun j => if j = q then keep (z q) 3 else cutZ z q j)) (0, 0) _ HP2.out Try.underlying23 rfl info_ag ?_) | (refine store_blk rfl (.tmp 4) (.tmp 26) rfl rfl rfl HR2.out info_ag rfl hall.out ?_; intro w3 hg3 hb3 ho3; refine Hid.out ?_))
      refine Lib.hid ?_
      have hbl : Below w.heap.size w w3 := HB2.out.trans (hb3 _ (by omega))
      go_wp2
      exact bodyPost_ret (results_cell_row rfl _ _ (w.heap.size + 1) 23 (agC (fun j => if j = q then keep (z q) 3 else cutZ z q j)) (0, 0) _ rfl hg3 Try.underlying23 rfl info_ag) rfl ⟨by rw [HFZ.out], hbl⟩
    · have hand := hkp.out
      rw [show (255 : Int) / 2 ^ 4 = 15 by decide] at hand
      have HAND := Lib.hid hand
      clear hand
      go_wp2_with fail
      go_region_held3 (fun w' => w'.cell? ⟨w.heap.size, q, none⟩ = some (.int .u8 (z q))) (first | go_keep | exact hkeep _ | (simp [hkeep])) (fail)
      have hP := HK1.out.put q hq16 (bits .andNot .u8 (z q) 15)
      rw [HAND.out] at hP ⊢
      obtain ⟨w2, hw2⟩ : ∃ w2, (w1.setCell ⟨w.heap.size + 1 + 1, q, none⟩ (.int .u8 (keep (z q) 4))).drew = w2 := ⟨_, rfl⟩
      have HP2 := Lib.hid (show IsAg w2 (w.heap.size + 1 + 1) (fun j => if j = q then keep (z q) 4 else cutZ z q j) from hw2 ▸ hP)
      have HR2 := Lib.hid (show IsAg w2 (w.heap.size + 1) (fun _ => 0) from hw2 ▸ ((Below.heap_setCell w1 ⟨w.heap.size + 1 + 1, q, none⟩ _ (w.heap.size + 1) (by simp)).trans HR0.out))
      have HB2 := Lib.hid (show Below w.heap.size w w2 from hw2 ▸ (HB1.out.setCell (p := ⟨w.heap.size + 1 + 1, q, none⟩) (by simp <;> omega) _).drew)
      rw [hw2]
      clear hw2 hP c0 c1 f1 hkeep
      go_wp2_with (first | (refine wpList_load_row rfl 23 (.tmp 5) rfl (w.heap.size + 1 + 1) rfl 23 (agC (fun j => if j = q then keep (z q) 4 else cutZ z q j)) (0, 0) _ HP2.out Try.underlying23 rfl info_ag ?_) | (refine store_blk rfl (.tmp 4) (.tmp 26) rfl rfl rfl HR2.out info_ag rfl hall.out ?_; intro w3 hg3 hb3 ho3; refine Hid.out ?_))
      refine Lib.hid ?_
      have hbl : Below w.heap.size w w3 := HB2.out.trans (hb3 _ (by omega))
      go_wp2
      exact bodyPost_ret (results_cell_row rfl _ _ (w.heap.size + 1) 23 (agC (fun j => if j = q then keep (z q) 4 else cutZ z q j)) (0, 0) _ rfl hg3 Try.underlying23 rfl info_ag) rfl ⟨by rw [HFZ.out], hbl⟩
    · have hand := hkp.out
      rw [show (255 : Int) / 2 ^ 5 = 7 by decide] at hand
      have HAND := Lib.hid hand
      clear hand
      go_wp2_with fail
      go_region_held3 (fun w' => w'.cell? ⟨w.heap.size, q, none⟩ = some (.int .u8 (z q))) (first | go_keep | exact hkeep _ | (simp [hkeep])) (fail)
      have hP := HK1.out.put q hq16 (bits .andNot .u8 (z q) 7)
      rw [HAND.out] at hP ⊢
      obtain ⟨w2, hw2⟩ : ∃ w2, (w1.setCell ⟨w.heap.size + 1 + 1, q, none⟩ (.int .u8 (keep (z q) 5))).drew = w2 := ⟨_, rfl⟩
      have HP2 := Lib.hid (show IsAg w2 (w.heap.size + 1 + 1) (fun j => if j = q then keep (z q) 5 else cutZ z q j) from hw2 ▸ hP)
      have HR2 := Lib.hid (show IsAg w2 (w.heap.size + 1) (fun _ => 0) from hw2 ▸ ((Below.heap_setCell w1 ⟨w.heap.size + 1 + 1, q, none⟩ _ (w.heap.size + 1) (by simp)).trans HR0.out))
      have HB2 := Lib.hid (show Below w.heap.size w w2 from hw2 ▸ (HB1.out.setCell (p := ⟨w.heap.size + 1 + 1, q, none⟩) (by simp <;> omega) _).drew)
      rw [hw2]
      clear hw2 hP c0 c1 f1 hkeep
      go_wp2_with (first | (refine wpList_load_row rfl 23 (.tmp 5) rfl (w.heap.size + 1 + 1) rfl 23 (agC (fun j => if j = q then keep (z q) 5 else cutZ z q j)) (0, 0) _ HP2.out Try.underlying23 rfl info_ag ?_) | (refine store_blk rfl (.tmp 4) (.tmp 26) rfl rfl rfl HR2.out info_ag rfl hall.out ?_; intro w3 hg3 hb3 ho3; refine Hid.out ?_))
      refine Lib.hid ?_
      have hbl : Below w.heap.size w w3 := HB2.out.trans (hb3 _ (by omega))
      go_wp2
      exact bodyPost_ret (results_cell_row rfl _ _ (w.heap.size + 1) 23 (agC (fun j => if j = q then keep (z q) 5 else cutZ z q j)) (0, 0) _ rfl hg3 Try.underlying23 rfl info_ag) rfl ⟨by rw [HFZ.out], hbl⟩
    · have hand := hkp.out
      rw [show (255 : Int) / 2 ^ 6 = 3 by decide] at hand
      have HAND := Lib.hid hand
      clear hand
      go_wp2_with fail
      go_region_held3 (fun w' => w'.cell? ⟨w.heap.size, q, none⟩ = some (.int .u8 (z q))) (first | go_keep | exact hkeep _ | (simp [hkeep])) (fail)
      have hP := HK1.out.put q hq16 (bits .andNot .u8 (z q) 3)
      rw [HAND.out] at hP ⊢
      obtain ⟨w2, hw2⟩ : ∃ w2, (w1.setCell ⟨w.heap.size + 1 + 1, q, none⟩ (.int .u8 (keep (z q) 6))).drew = w2 := ⟨_, rfl⟩
      have HP2 := Lib.hid (show IsAg w2 (w.heap.size + 1 + 1) (fun j => if j = q then keep (z q) 6 else cutZ z q j) from hw2 ▸ hP)
      have HR2 := Lib.hid (show IsAg w2 (w.heap.size + 1) (fun _ => 0) from hw2 ▸ ((Below.heap_setCell w1 ⟨w.heap.size + 1 + 1, q, none⟩ _ (w.heap.size + 1) (by simp)).trans HR0.out))
      have HB2 := Lib.hid (show Below w.heap.size w w2 from hw2 ▸ (HB1.out.setCell (p := ⟨w.heap.size + 1 + 1, q, none⟩) (by simp <;> omega) _).drew)
      rw [hw2]
      clear hw2 hP c0 c1 f1 hkeep
      go_wp2_with (first | (refine wpList_load_row rfl 23 (.tmp 5) rfl (w.heap.size + 1 + 1) rfl 23 (agC (fun j => if j = q then keep (z q) 6 else cutZ z q j)) (0, 0) _ HP2.out Try.underlying23 rfl info_ag ?_) | (refine store_blk rfl (.tmp 4) (.tmp 26) rfl rfl rfl HR2.out info_ag rfl hall.out ?_; intro w3 hg3 hb3 ho3; refine Hid.out ?_))
      refine Lib.hid ?_
      have hbl : Below w.heap.size w w3 := HB2.out.trans (hb3 _ (by omega))
      go_wp2
      exact bodyPost_ret (results_cell_row rfl _ _ (w.heap.size + 1) 23 (agC (fun j => if j = q then keep (z q) 6 else cutZ z q j)) (0, 0) _ rfl hg3 Try.underlying23 rfl info_ag) rfl ⟨by rw [HFZ.out], hbl⟩
    · have hand := hkp.out
      rw [show (255 : Int) / 2 ^ 7 = 1 by decide] at hand
      have HAND := Lib.hid hand
      clear hand
      go_wp2_with fail
      go_region_held3 (fun w' => w'.cell? ⟨w.heap.size, q, none⟩ = some (.int .u8 (z q))) (first | go_keep | exact hkeep _ | (simp [hkeep])) (fail)
      have hP := HK1.out.put q hq16 (bits .andNot .u8 (z q) 1)
      rw [HAND.out] at hP ⊢
      obtain ⟨w2, hw2⟩ : ∃ w2, (w1.setCell ⟨w.heap.size + 1 + 1, q, none⟩ (.int .u8 (keep (z q) 7))).drew = w2 := ⟨_, rfl⟩
      have HP2 := Lib.hid (show IsAg w2 (w.heap.size + 1 + 1) (fun j => if j = q then keep (z q) 7 else cutZ z q j) from hw2 ▸ hP)
      have HR2 := Lib.hid (show IsAg w2 (w.heap.size + 1) (fun _ => 0) from hw2 ▸ ((Below.heap_setCell w1 ⟨w.heap.size + 1 + 1, q, none⟩ _ (w.heap.size + 1) (by simp)).trans HR0.out))
      have HB2 := Lib.hid (show Below w.heap.size w w2 from hw2 ▸ (HB1.out.setCell (p := ⟨w.heap.size + 1 + 1, q, none⟩) (by simp <;> omega) _).drew)
      rw [hw2]
      clear hw2 hP c0 c1 f1 hkeep
      go_wp2_with (first | (refine wpList_load_row rfl 23 (.tmp 5) rfl (w.heap.size + 1 + 1) rfl 23 (agC (fun j => if j = q then keep (z q) 7 else cutZ z q j)) (0, 0) _ HP2.out Try.underlying23 rfl info_ag ?_) | (refine store_blk rfl (.tmp 4) (.tmp 26) rfl rfl rfl HR2.out info_ag rfl hall.out ?_; intro w3 hg3 hb3 ho3; refine Hid.out ?_))
      refine Lib.hid ?_
      have hbl : Below w.heap.size w w3 := HB2.out.trans (hb3 _ (by omega))
      go_wp2
      exact bodyPost_ret (results_cell_row rfl _ _ (w.heap.size + 1) 23 (agC (fun j => if j = q then keep (z q) 7 else cutZ z q j)) (0, 0) _ rfl hg3 Try.underlying23 rfl info_ag) rfl ⟨by rw [HFZ.out], hbl⟩
end Go.Proofs.Ytjnbemopfhinbaa
