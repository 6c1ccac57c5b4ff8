/- prefix.Cmp once more, with the draws counted. Each theorem states its conditions. -/
import Derived.Test.YtjnbemopfhinbaaTrK
import Derived.Sort.Grow
namespace Go.Proofs.Ytjnbemopfhinbaa
open Go.RowKit
set_option linter.unusedVariables false
set_option linter.unusedSimpArgs false

/-- nothing below B has turned, and no draw is undone -/
structure BelowD (B : Nat) (w w' : World) : Prop where
  b : Below B w w'
  dr : w.drawn ≤ w'.drawn
instance {B : Nat} {w w' : World} : Coe (BelowD B w w') (Below B w w') := ⟨BelowD.b⟩
theorem BelowD.size {B : Nat} {w w' : World} (h : BelowD B w w') : w.heap.size ≤ w'.heap.size := h.b.size
theorem BelowD.block {B : Nat} {w w' : World} (h : BelowD B w w') : ∀ k, k < B → w'.heap[k]? = w.heap[k]? := h.b.block
theorem BelowD.refl (B : Nat) (w : World) : BelowD B w w := ⟨Below.refl B w, Nat.le_refl _⟩
theorem BelowD.trans {B : Nat} {a b c : World} (h : BelowD B a b) (k : BelowD B b c) : BelowD B a c := ⟨h.b.trans k.b, Nat.le_trans h.dr k.dr⟩
theorem BelowD.mono {B B' : Nat} {a b : World} (h : BelowD B a b) (k : B' ≤ B) : BelowD B' a b := ⟨h.b.mono k, h.dr⟩
theorem BelowD.drew {B : Nat} {a b : World} (h : BelowD B a b) : BelowD B a b.drew := ⟨h.b.drew, Nat.le_succ_of_le h.dr⟩
theorem BelowD.alloc {B : Nat} {a b : World} (h : BelowD B a b) (k : B ≤ b.heap.size) (o : Obj) : BelowD B a (b.alloc o) := ⟨h.b.alloc k o, h.dr⟩
theorem BelowD.setCell {B : Nat} {a w : World} (h : BelowD B a w) {p : Addr} (hp : B ≤ p.block) (u : Value) : BelowD B a (w.setCell p u) := ⟨h.b.setCell hp u, h.dr⟩
theorem BelowD.grow {w w' : World} (h : BelowD w.heap.size w w') : ∃ q os, w' = Go.Sort.grow (w.drewN q) os := by
  obtain ⟨heap, tape, drawn, os, output⟩ := w
  obtain ⟨heap', tape', drawn', os', output'⟩ := w'
  obtain ⟨⟨h1, h2, h3, h4, h5⟩, h6⟩ := h
  simp only at h1 h2 h3 h4 h5 h6
  subst h1 h2 h3
  refine ⟨drawn' - drawn, heap'.extract heap.size heap'.size, ?_⟩
  have e : heap' = heap ++ heap'.extract heap.size heap'.size := by
    apply Array.ext_getElem?
    intro i
    rcases Nat.lt_or_ge i heap.size with h | h
    · rw [Array.getElem?_append_left h, h5 i h]
    · rw [Array.getElem?_append_right h, Array.getElem?_extract]
      by_cases h9 : i < heap'.size
      · rw [if_pos (by omega)]; congr 1; omega
      · rw [if_neg (by omega), Array.getElem?_eq_none (by omega)]
  unfold Go.Sort.grow World.drewN
  simp only
  rw [← e, show drawn + (drawn' - drawn) = drawn' by omega]
/-- copy of bytes into a row of the call's own: draws nothing -/
theorem copy_dr {o : Oper} {a : Act} {w w0 : World} {ops : Array Oper} {K : Act → World → Prop} {Q : Exit → Act → World → Prop} {E : Prop} {B g off : Nat} {t : TypeId} {cur cs : List Value} {dp sp : Option Addr} {n1 c1 n2 c2 : Nat} (d s : Operand) (hgd : o.guard = none)
    (ho : o.op = .call { callee := .builtin .copy, args := #[d, s], argTypes := #[113, 113] }) (hd : a.eval d = .slice dp n1 c1) (hs : a.eval s = .slice sp n2 c2) (hg : w.heap[g]? = some (.cells cur.toArray t (0, 0))) (hn : cs.length = Nat.min n2 n1)
    (hp : 0 < cs.length → dp = some ⟨g, off, none⟩ ∧ ∃ ad, sp = some ad ∧ ∀ j v, cs[j]? = some v → w.cell? (ad.add j) = some v) (hf : off + cs.length ≤ cur.length) (h1 : ∀ v ∈ cs, v.oneCell' = true) (hb : BelowD B w0 w) (hB : B ≤ g)
    (h : ∀ w', Hid (w'.heap[g]? = some (.cells (splice cur off cs).toArray t (0, 0))) → BelowD B w0 w' → K (a.put o.dst (goInt cs.length)) w') : if Region.wanted o (yielded ops a.tmps) = true then Oper.wp Try.prog o a w K Q else E := by
  rw [if_pos (show Region.wanted o (yielded ops a.tmps) = true by unfold Region.wanted; rw [hgd])]
  unfold Oper.wp
  rcases Nat.eq_zero_or_pos cs.length with h0 | h0
  · have e := List.eq_nil_of_length_eq_zero h0
    subst e
    have hr := run_copy_none (P := Try.prog) w 113 113 o.type 5 dp sp n1 c1 n2 c2 Try.underlying113 info_u8s (by rw [← hn]; rfl)
    simp [execOp, ho, resolve, invoke, builtin, hd, hs, hr, Result.andThen]
    exact h w (show _ = _ by simpa [splice] using hg) hb
  · obtain ⟨e1, ad, e2, hc⟩ := hp h0
    subst e1 e2
    have hr := run_copy_row (P := Try.prog) w 113 113 o.type 5 g off n1 c1 ad n2 c2 cur.toArray t cs Try.underlying113 info_u8s hg hn hc (by simpa using hf) h1
    simp [execOp, ho, resolve, invoke, builtin, hd, hs, hr, Result.andThen]
    exact h _ (show _ = _ by simpa [splice] using setRow_heap w g _ _ t _ hg) ⟨below_setRow hb.b hB _, hb.dr⟩
theorem bselfD (w : World) : BelowD w.heap.size w w := BelowD.refl _ _
set_option maxHeartbeats 1000000 in
theorem hasLength_anyD (fam len : Int) (z : Nat → Int) (w : World) :
    Calls Try.prog 54 #[pv fam len z] w fun e w' => e = .returned (.bool (decide (Sized fam len))) ∧ BelowD w.heap.size w w' := by
  unfold pv
  by_cases h4 : fam = 4
  · subst h4
    go_enter Try.func54, Try.ntmps54
    go_wp2
    all_goals go_ret
    all_goals refine ⟨ret_bool ?_, (bselfD w).alloc (Nat.le_refl _) _⟩
    all_goals (simp [Sized] <;> omega)
  · by_cases h6 : fam = 6
    · subst h6
      go_enter Try.func54, Try.ntmps54
      go_wp2
      all_goals go_ret
      all_goals refine ⟨ret_bool ?_, (bselfD w).alloc (Nat.le_refl _) _⟩
      all_goals (simp [Sized] <;> omega)
    · go_enter Try.func54, Try.ntmps54
      go_wp2
      go_ret
      refine ⟨ret_bool ?_, (bselfD w).alloc (Nat.le_refl _) _⟩
      simp [Sized, h4, h6]
set_option maxHeartbeats 4000000 in
set_option maxRecDepth 100000 in
section
variable {ops : Array Oper} {rest : List Oper} {op : Oper} {a : Act} {w : World} {Q : Exit → Act → World → Prop} {b : Nat}
/-- a whole variable of the call's own is written -/
theorem store_blkD {ty : TypeId} {cells old : Array Value} (hgd : op.guard = none) (x y : Operand) (ho : op.op = .store ty x y) (hx : a.eval x = .pointer (some ⟨b, 0, none⟩)) (hy : a.eval y = .agg cells)
    (hg : w.heap[b]? = some (.cells old ty (0, 0))) (hi : (Try.prog.info? ty).map (·.size) = some cells.size) (hs : old.size = cells.size) (h1 : cells.all (·.oneCell') = true)
    (h : ∀ w', w'.heap[b]? = some (.cells cells ty (0, 0)) → (∀ B, B ≤ b → BelowD B w w') → (∀ k, k ≠ b → w'.heap[k]? = w.heap[k]?) → wpList Try.prog ops Q rest (a.put op.dst undef) w') : wpList Try.prog ops Q (op :: rest) a w := by
  refine wpList_plain hgd fun K hK => ?_
  have hrun := run_storeVar_row (P := Try.prog) w b ty ty old cells hg hi hs h1
  unfold Oper.wp execOp
  simp only [ho, hx, hy, Instr.storeAt, Instr.sureAddr, Sem.run_bind, Sem.run_pure, Result.andThen_ok, hrun]
  exact hK _ _ (h _ (setRow_heap w b old cells ty (0, 0) hg) (fun B hB => ⟨⟨rfl, rfl, rfl, by simp [World.setRow], fun k hk => setRow_other w b k cells (by omega)⟩, Nat.le_refl _⟩) (fun k hk => setRow_other w b k cells hk))
end
set_option maxHeartbeats 2000000 in
theorem first_anyD (z : Nat → Int) (q r : Nat) (hq : q ≤ 16) (hr : r < 8) (hqr : 8 * q + r ≤ 128) (w : World) (hz : Bytes z) (i : Int) (hi : i = 8 * (q : Int) + r) :
    Calls Try.prog 55 #[.agg (agC z), .int .i64 i] w fun e w' => e = .returned (.agg (agC (firstZ z (8 * q + r)))) ∧ BelowD w.heap.size w w' := by
  have h1 : i.tdiv 8 = (q : Int) := by rw [Int.tdiv_eq_ediv_of_nonneg (by omega)]; omega
  have h2 : i.tmod 8 = (r : Int) := by rw [Int.tmod_eq_emod_of_nonneg (by omega)]; omega
  have q0 : (0 : Int) ≤ (q : Int) := by omega
  have q1 : (q : Int) ≤ 16 := by omega
  clear hi
  go_enter Try.func55, Try.ntmps55
  go_wp2_with fail
  obtain ⟨W, hW⟩ : ∃ W, ((w.alloc (.cells (agC z) 23)).alloc (.cells #[.int .u8 0, .int .u8 0, .int .u8 0, .int .u8 0, .int .u8 0, .int .u8 0, .int .u8 0, .int .u8 0, .int .u8 0, .int .u8 0, .int .u8 0, .int .u8 0, .int .u8 0, .int .u8 0, .int .u8 0, .int .u8 0] 23)).alloc (.cells #[.int .u8 0, .int .u8 0, .int .u8 0, .int .u8 0, .int .u8 0, .int .u8 0, .int .u8 0, .int .u8 0, .int .u8 0, .int .u8 0, .int .u8 0, .int .u8 0, .int .u8 0, .int .u8 0, .int .u8 0, .int .u8 0] 23) = W := ⟨_, rfl⟩
  rw [hW]
  have e0 : W.heap[w.heap.size]? = some (.cells (agC z) 23 (0, 0)) := by
    rw [← hW]
    exact (Below.heap_alloc _ _ _ (by simp <;> omega)).trans ((Below.heap_alloc _ _ _ (by simp)).trans (heap_alloc_new w _))
  have e1 : W.heap[w.heap.size + 1]? = some (.cells zeros.toArray 23 (0, 0)) := by
    rw [← hW]
    have := heap_alloc_new (w.alloc (.cells (agC z) 23)) (.cells #[.int .u8 0, .int .u8 0, .int .u8 0, .int .u8 0, .int .u8 0, .int .u8 0, .int .u8 0, .int .u8 0, .int .u8 0, .int .u8 0, .int .u8 0, .int .u8 0, .int .u8 0, .int .u8 0, .int .u8 0, .int .u8 0] 23)
    rw [World.size_alloc] at this
    exact (Below.heap_alloc _ _ _ (by simp)).trans this
  have e2 : W.heap[w.heap.size + 1 + 1]? = some (.cells zeros.toArray 23 (0, 0)) := by
    rw [← hW]
    have := heap_alloc_new ((w.alloc (.cells (agC z) 23)).alloc (.cells #[.int .u8 0, .int .u8 0, .int .u8 0, .int .u8 0, .int .u8 0, .int .u8 0, .int .u8 0, .int .u8 0, .int .u8 0, .int .u8 0, .int .u8 0, .int .u8 0, .int .u8 0, .int .u8 0, .int .u8 0, .int .u8 0] 23)) (.cells #[.int .u8 0, .int .u8 0, .int .u8 0, .int .u8 0, .int .u8 0, .int .u8 0, .int .u8 0, .int .u8 0, .int .u8 0, .int .u8 0, .int .u8 0, .int .u8 0, .int .u8 0, .int .u8 0, .int .u8 0, .int .u8 0] 23)
    rw [World.size_alloc, World.size_alloc] at this
    exact this
  have hB : BelowD w.heap.size w W := by rw [← hW]; exact (((bselfD w).alloc (Nat.le_refl _) _).alloc (by simp) _).alloc (by simp only [World.size_alloc]; omega) _
  have HB := Lib.hid hB
  have E0 := Lib.hid e0
  have E1 := Lib.hid e1
  have E2 := Lib.hid e2
  clear hW hB e0 e1 e2
  have hcs : ((agC z).toList.take q).length = Nat.min q 16 := by rw [List.length_take, Array.length_toList, agC_size]
  have HCS := Lib.hid hcs
  have hsrc := Lib.hid (fun (W' : World) (h : W'.heap = W.heap) => show ∀ j v, ((agC z).toList.take q)[j]? = some v → W'.cell? ((⟨w.heap.size, 0, none⟩ : Addr).add j) = some v from fun j v hv => by
    have hadd : (⟨w.heap.size, 0, none⟩ : Addr).add j = ⟨w.heap.size, j, none⟩ := by unfold Addr.add; split <;> simp_all
    rw [hadd, cell_of_row W' w.heap.size j _ _ (0, 0) (by rw [h]; exact E0.out)]
    rw [List.getElem?_take] at hv
    split at hv
    · simpa using hv
    · cases hv)
  have hone := Lib.hid (show ∀ v ∈ (agC z).toList.take q, v.oneCell' = true from fun v hv => agC_one z v (List.mem_of_mem_take hv))
  have hfit := Lib.hid (show 0 + ((agC z).toList.take q).length ≤ zeros.length by
    simp only [List.length_take, Array.length_toList, agC_size]; show 0 + min q 16 ≤ 16; omega)
  clear hcs
  go_region_held3 (fun w' => True) (trivial)
    ((refine copy_dr (g := (w.heap.size + 1 + 1)) (off := 0) (cur := zeros) (t := 23) (cs := ((agC z).toList.take q)) (B := w.heap.size + 2) (w0 := W) (.tmp 12) (.tmp 14) rfl rfl (by rfl) (by rfl) (by exact E2.out) HCS.out (fun _ => ⟨rfl, _, rfl, hsrc.out _ rfl⟩) hfit.out hone.out (by exact (BelowD.refl _ W).drew) (Nat.le_refl _) ?_; intro w1 hc1 hb1))
  have hK1 : IsAg w1 (w.heap.size + 1 + 1) (cutZ z q) := by have := hc1.out; rw [kept_of z q hq] at this; exact this
  have hA0 : IsAg w1 w.heap.size z := (hb1.block w.heap.size (by omega)).trans E0.out
  have hR0 : w1.heap[w.heap.size + 1]? = some (.cells (agC (fun _ => 0)) 23 (0, 0)) := (hb1.block (w.heap.size + 1) (by omega)).trans E1.out
  have hB1 : BelowD w.heap.size w w1 := HB.out.trans (hb1.mono (by omega))
  have HK1 := Lib.hid hK1
  have HA0 := Lib.hid hA0
  have HR0 := Lib.hid (show IsAg w1 (w.heap.size + 1) (fun _ => 0) from hR0)
  have HB1 := Lib.hid hB1
  clear hc1 hK1 hA0 hR0 hb1 hB1 HCS hsrc hone hfit
  rcases (by omega : r = 0 ∨ 0 < r) with rfl | hr0
  · have hfz : agC (cutZ z q) = agC (firstZ z (8 * q + 0)) := agC_ext (agC_size _) (fun j hj => by
      rw [agC_at _ j hj]
      unfold cutZ
      by_cases h : j < q
      · rw [if_pos h, firstZ_lo (by omega)]
      · rw [if_neg h, firstZ_hi (by omega)])
    have HFZ := Lib.hid hfz
    clear hfz
    have hall := Lib.hid (show (agC (cutZ z q)).all (·.oneCell') = true by simpa using all_oneCell_toArray (agC_one (cutZ z q)))
    go_wp2_with (first | (refine wpList_load_row rfl 23 (.tmp 5) rfl (w.heap.size + 1 + 1) rfl 23 (agC (cutZ z q)) (0, 0) _ HK1.out Try.underlying23 rfl info_ag ?_) | (refine store_blkD rfl (.tmp 4) (.tmp 26) rfl rfl rfl HR0.out info_ag rfl hall.out ?_; intro w2 hg2 hb2 ho2; refine Hid.out ?_))
    refine Lib.hid ?_
    have hbl : BelowD w.heap.size w w2 := HB1.out.trans (hb2 _ (by omega))
    go_wp2
    exact bodyPost_ret (results_cell_row rfl _ _ (w.heap.size + 1) 23 (agC (cutZ z q)) (0, 0) _ rfl hg2 Try.underlying23 rfl info_ag) rfl ⟨by rw [HFZ.out], hbl⟩
  · have hq16 : q < 16 := by omega
    have q2 : (q : Int) < 16 := by omega
    have c0 := HA0.out.at q hq16
    have c1 : w1.cell? ⟨w.heap.size + 1 + 1, q, none⟩ = some (.int .u8 0) := by
      have := HK1.out.at q hq16
      rw [this]; unfold cutZ; rw [if_neg (by omega)]
    have f1 := HK1.out.free q
    have hkp := Lib.hid (keep_andNot (z q) (hz q) r hr0 hr)
    have hfz : agC (fun j => if j = q then keep (z q) r else cutZ z q j) = agC (firstZ z (8 * q + r)) := agC_ext (agC_size _) (fun j hj => by
      rw [agC_at _ j hj]
      unfold cutZ
      by_cases e : j = q
      · subst e; rw [if_pos rfl, firstZ_mid (by omega) (by omega), show 8 * j + r - 8 * j = r by omega]
      · rw [if_neg e]
        by_cases h : j < q
        · rw [if_pos h, firstZ_lo (by omega)]
        · rw [if_neg h, firstZ_hi (by omega)])
    have HFZ := Lib.hid hfz
    have hall := Lib.hid (show (agC (fun j => if j = q then keep (z q) r else cutZ z q j)).all (·.oneCell') = true by simpa using all_oneCell_toArray (agC_one _))
    have hzq := hz q
    clear hfz
    have hkeep := Lib.hid (fun (v : Value) => show (w1.setCell ⟨w.heap.size + 1 + 1, q, none⟩ v).cell? ⟨w.heap.size, q, none⟩ = some (.int .u8 (z q)) from
      (World.cell?_of_block (Below.heap_setCell w1 _ v w.heap.size (by simp; omega))).trans c0)
    have hkeep := (fun (v : Value) => show (w1.setCell ⟨w.heap.size + 1 + 1, q, none⟩ v).cell? ⟨w.heap.size, q, none⟩ = some (.int .u8 (z q)) from
      (World.cell?_of_block (Below.heap_setCell w1 _ v w.heap.size (by simp; omega))).trans c0)
    rcases (by omega : r = 1 ∨ r = 2 ∨ r = 3 ∨ r = 4 ∨ r = 5 ∨ r = 6 ∨ r = 7) with rfl | rfl | rfl | rfl | rfl | rfl | rfl
    · have hand := hkp.out
      rw [show (255 : Int) / 2 ^ 1 = 127 by decide] at hand
      have HAND := Lib.hid hand
      clear hand
      go_wp2_with fail
      go_region_held3 (fun w' => w'.cell? ⟨w.heap.size, q, none⟩ = some (.int .u8 (z q))) (first | go_keep | exact hkeep _ | (simp [hkeep])) (fail)
      have hP := HK1.out.put q hq16 (bits .andNot .u8 (z q) 127)
      rw [HAND.out] at hP ⊢
      obtain ⟨w2, hw2⟩ : ∃ w2, (w1.setCell ⟨w.heap.size + 1 + 1, q, none⟩ (.int .u8 (keep (z q) 1))).drew = w2 := ⟨_, rfl⟩
      have HP2 := Lib.hid (show IsAg w2 (w.heap.size + 1 + 1) (fun j => if j = q then keep (z q) 1 else cutZ z q j) from hw2 ▸ hP)
      have HR2 := Lib.hid (show IsAg w2 (w.heap.size + 1) (fun _ => 0) from hw2 ▸ ((Below.heap_setCell w1 ⟨w.heap.size + 1 + 1, q, none⟩ _ (w.heap.size + 1) (by simp)).trans HR0.out))
      have HB2 := Lib.hid (show BelowD w.heap.size w w2 from hw2 ▸ (HB1.out.setCell (p := ⟨w.heap.size + 1 + 1, q, none⟩) (by simp <;> omega) _).drew)
      rw [hw2]
      clear hw2 hP c0 c1 f1 hkeep
      go_wp2_with (first | (refine wpList_load_row rfl 23 (.tmp 5) rfl (w.heap.size + 1 + 1) rfl 23 (agC (fun j => if j = q then keep (z q) 1 else cutZ z q j)) (0, 0) _ HP2.out Try.underlying23 rfl info_ag ?_) | (refine store_blkD rfl (.tmp 4) (.tmp 26) rfl rfl rfl HR2.out info_ag rfl hall.out ?_; intro w3 hg3 hb3 ho3; refine Hid.out ?_))
      refine Lib.hid ?_
      have hbl : BelowD w.heap.size w w3 := HB2.out.trans (hb3 _ (by omega))
      go_wp2
      exact bodyPost_ret (results_cell_row rfl _ _ (w.heap.size + 1) 23 (agC (fun j => if j = q then keep (z q) 1 else cutZ z q j)) (0, 0) _ rfl hg3 Try.underlying23 rfl info_ag) rfl ⟨by rw [HFZ.out], hbl⟩
    · have hand := hkp.out
      rw [show (255 : Int) / 2 ^ 2 = 63 by decide] at hand
      have HAND := Lib.hid hand
      clear hand
      go_wp2_with fail
      go_region_held3 (fun w' => w'.cell? ⟨w.heap.size, q, none⟩ = some (.int .u8 (z q))) (first | go_keep | exact hkeep _ | (simp [hkeep])) (fail)
      have hP := HK1.out.put q hq16 (bits .andNot .u8 (z q) 63)
      rw [HAND.out] at hP ⊢
      obtain ⟨w2, hw2⟩ : ∃ w2, (w1.setCell ⟨w.heap.size + 1 + 1, q, none⟩ (.int .u8 (keep (z q) 2))).drew = w2 := ⟨_, rfl⟩
      have HP2 := Lib.hid (show IsAg w2 (w.heap.size + 1 + 1) (fun j => if j = q then keep (z q) 2 else cutZ z q j) from hw2 ▸ hP)
      have HR2 := Lib.hid (show IsAg w2 (w.heap.size + 1) (fun _ => 0) from hw2 ▸ ((Below.heap_setCell w1 ⟨w.heap.size + 1 + 1, q, none⟩ _ (w.heap.size + 1) (by simp)).trans HR0.out))
      have HB2 := Lib.hid (show BelowD w.heap.size w w2 from hw2 ▸ (HB1.out.setCell (p := ⟨w.heap.size + 1 + 1, q, none⟩) (by simp <;> omega) _).drew)
      rw [hw2]
      clear hw2 hP c0 c1 f1 hkeep
      go_wp2_with (first | (refine wpList_load_row rfl 23 (.tmp 5) rfl (w.heap.size + 1 + 1) rfl 23 (agC (fun j => if j = q then keep (z q) 2 else cutZ z q j)) (0, 0) _ HP2.out Try.underlying23 rfl info_ag ?_) | (refine store_blkD rfl (.tmp 4) (.tmp 26) rfl rfl rfl HR2.out info_ag rfl hall.out ?_; intro w3 hg3 hb3 ho3; refine Hid.out ?_))
      refine Lib.hid ?_
      have hbl : BelowD w.heap.size w w3 := HB2.out.trans (hb3 _ (by omega))
      go_wp2
      exact bodyPost_ret (results_cell_row rfl _ _ (w.heap.size + 1) 23 (agC (fun j => if j = q then keep (z q) 2 else cutZ z q j)) (0, 0) _ rfl hg3 Try.underlying23 rfl info_ag) rfl ⟨by rw [HFZ.out], hbl⟩
    · have hand := hkp.out
      rw [show (255 : Int) / 2 ^ 3 = 31 by decide] at hand
      have HAND := Lib.hid hand
      clear hand
      go_wp2_with fail
      go_region_held3 (fun w' => w'.cell? ⟨w.heap.size, q, none⟩ = some (.int .u8 (z q))) (first | go_keep | exact hkeep _ | (simp [hkeep])) (fail)
      have hP := HK1.out.put q hq16 (bits .andNot .u8 (z q) 31)
      rw [HAND.out] at hP ⊢
      obtain ⟨w2, hw2⟩ : ∃ w2, (w1.setCell ⟨w.heap.size + 1 + 1, q, none⟩ (.int .u8 (keep (z q) 3))).drew = w2 := ⟨_, rfl⟩
      have HP2 := Lib.hid (show IsAg w2 (w.heap.size + 1 + 1) (fun j => if j = q then keep (z q) 3 else cutZ z q j) from hw2 ▸ hP)
      have HR2 := Lib.hid (show IsAg w2 (w.heap.size + 1) (fun _ => 0) from hw2 ▸ ((Below.heap_setCell w1 ⟨w.heap.size + 1 + 1, q, none⟩ _ (w.heap.size + 1) (by simp)).trans HR0.out))
      have HB2 := Lib.hid (show BelowD w.heap.size w w2 from hw2 ▸ (HB1.out.setCell (p := ⟨w.heap.size + 1 + 1, q, none⟩) (by simp <;> omega) _).drew)
      rw [hw2]
      clear hw2 hP c0 c1 f1 hkeep
      go_wp2_with (first | (refine wpList_load_row rfl 23 (.tmp 5) rfl (w.heap.size + 1 + 1) rfl 23 (agC (fun j => if j = q then keep (z q) 3 else cutZ z q j)) (0, 0) _ HP2.out Try.underlying23 rfl info_ag ?_) | (refine store_blkD rfl (.tmp 4) (.tmp 26) rfl rfl rfl HR2.out info_ag rfl hall.out ?_; intro w3 hg3 hb3 ho3; refine Hid.out ?_))
      refine Lib.hid ?_
      have hbl : BelowD w.heap.size w w3 := HB2.out.trans (hb3 _ (by omega))
      go_wp2
      exact bodyPost_ret (results_cell_row rfl _ _ (w.heap.size + 1) 23 (agC (fun j => if j = q then keep (z q) 3 else cutZ z q j)) (0, 0) _ rfl hg3 Try.underlying23 rfl info_ag) rfl ⟨by rw [HFZ.out], hbl⟩
    · have hand := hkp.out
      rw [show (255 : Int) / 2 ^ 4 = 15 by decide] at hand
      have HAND := Lib.hid hand
      clear hand
      go_wp2_with fail
      go_region_held3 (fun w' => w'.cell? ⟨w.heap.size, q, none⟩ = some (.int .u8 (z q))) (first | go_keep | exact hkeep _ | (simp [hkeep])) (fail)
      have hP := HK1.out.put q hq16 (bits .andNot .u8 (z q) 15)
      rw [HAND.out] at hP ⊢
      obtain ⟨w2, hw2⟩ : ∃ w2, (w1.setCell ⟨w.heap.size + 1 + 1, q, none⟩ (.int .u8 (keep (z q) 4))).drew = w2 := ⟨_, rfl⟩
      have HP2 := Lib.hid (show IsAg w2 (w.heap.size + 1 + 1) (fun j => if j = q then keep (z q) 4 else cutZ z q j) from hw2 ▸ hP)
      have HR2 := Lib.hid (show IsAg w2 (w.heap.size + 1) (fun _ => 0) from hw2 ▸ ((Below.heap_setCell w1 ⟨w.heap.size + 1 + 1, q, none⟩ _ (w.heap.size + 1) (by simp)).trans HR0.out))
      have HB2 := Lib.hid (show BelowD w.heap.size w w2 from hw2 ▸ (HB1.out.setCell (p := ⟨w.heap.size + 1 + 1, q, none⟩) (by simp <;> omega) _).drew)
      rw [hw2]
      clear hw2 hP c0 c1 f1 hkeep
      go_wp2_with (first | (refine wpList_load_row rfl 23 (.tmp 5) rfl (w.heap.size + 1 + 1) rfl 23 (agC (fun j => if j = q then keep (z q) 4 else cutZ z q j)) (0, 0) _ HP2.out Try.underlying23 rfl info_ag ?_) | (refine store_blkD rfl (.tmp 4) (.tmp 26) rfl rfl rfl HR2.out info_ag rfl hall.out ?_; intro w3 hg3 hb3 ho3; refine Hid.out ?_))
      refine Lib.hid ?_
      have hbl : BelowD w.heap.size w w3 := HB2.out.trans (hb3 _ (by omega))
      go_wp2
      exact bodyPost_ret (results_cell_row rfl _ _ (w.heap.size + 1) 23 (agC (fun j => if j = q then keep (z q) 4 else cutZ z q j)) (0, 0) _ rfl hg3 Try.underlying23 rfl info_ag) rfl ⟨by rw [HFZ.out], hbl⟩
    · have hand := hkp.out
      rw [show (255 : Int) / 2 ^ 5 = 7 by decide] at hand
      have HAND := Lib.hid hand
      clear hand
      go_wp2_with fail
      go_region_held3 (fun w' => w'.cell? ⟨w.heap.size, q, none⟩ = some (.int .u8 (z q))) (first | go_keep | exact hkeep _ | (simp [hkeep])) (fail)
      have hP := HK1.out.put q hq16 (bits .andNot .u8 (z q) 7)
      rw [HAND.out] at hP ⊢
      obtain ⟨w2, hw2⟩ : ∃ w2, (w1.setCell ⟨w.heap.size + 1 + 1, q, none⟩ (.int .u8 (keep (z q) 5))).drew = w2 := ⟨_, rfl⟩
      have HP2 := Lib.hid (show IsAg w2 (w.heap.size + 1 + 1) (fun j => if j = q then keep (z q) 5 else cutZ z q j) from hw2 ▸ hP)
      have HR2 := Lib.hid (show IsAg w2 (w.heap.size + 1) (fun _ => 0) from hw2 ▸ ((Below.heap_setCell w1 ⟨w.heap.size + 1 + 1, q, none⟩ _ (w.heap.size + 1) (by simp)).trans HR0.out))
      have HB2 := Lib.hid (show BelowD w.heap.size w w2 from hw2 ▸ (HB1.out.setCell (p := ⟨w.heap.size + 1 + 1, q, none⟩) (by simp <;> omega) _).drew)
      rw [hw2]
      clear hw2 hP c0 c1 f1 hkeep
      go_wp2_with (first | (refine wpList_load_row rfl 23 (.tmp 5) rfl (w.heap.size + 1 + 1) rfl 23 (agC (fun j => if j = q then keep (z q) 5 else cutZ z q j)) (0, 0) _ HP2.out Try.underlying23 rfl info_ag ?_) | (refine store_blkD rfl (.tmp 4) (.tmp 26) rfl rfl rfl HR2.out info_ag rfl hall.out ?_; intro w3 hg3 hb3 ho3; refine Hid.out ?_))
      refine Lib.hid ?_
      have hbl : BelowD w.heap.size w w3 := HB2.out.trans (hb3 _ (by omega))
      go_wp2
      exact bodyPost_ret (results_cell_row rfl _ _ (w.heap.size + 1) 23 (agC (fun j => if j = q then keep (z q) 5 else cutZ z q j)) (0, 0) _ rfl hg3 Try.underlying23 rfl info_ag) rfl ⟨by rw [HFZ.out], hbl⟩
    · have hand := hkp.out
      rw [show (255 : Int) / 2 ^ 6 = 3 by decide] at hand
      have HAND := Lib.hid hand
      clear hand
      go_wp2_with fail
      go_region_held3 (fun w' => w'.cell? ⟨w.heap.size, q, none⟩ = some (.int .u8 (z q))) (first | go_keep | exact hkeep _ | (simp [hkeep])) (fail)
      have hP := HK1.out.put q hq16 (bits .andNot .u8 (z q) 3)
      rw [HAND.out] at hP ⊢
      obtain ⟨w2, hw2⟩ : ∃ w2, (w1.setCell ⟨w.heap.size + 1 + 1, q, none⟩ (.int .u8 (keep (z q) 6))).drew = w2 := ⟨_, rfl⟩
      have HP2 := Lib.hid (show IsAg w2 (w.heap.size + 1 + 1) (fun j => if j = q then keep (z q) 6 else cutZ z q j) from hw2 ▸ hP)
      have HR2 := Lib.hid (show IsAg w2 (w.heap.size + 1) (fun _ => 0) from hw2 ▸ ((Below.heap_setCell w1 ⟨w.heap.size + 1 + 1, q, none⟩ _ (w.heap.size + 1) (by simp)).trans HR0.out))
      have HB2 := Lib.hid (show BelowD w.heap.size w w2 from hw2 ▸ (HB1.out.setCell (p := ⟨w.heap.size + 1 + 1, q, none⟩) (by simp <;> omega) _).drew)
      rw [hw2]
      clear hw2 hP c0 c1 f1 hkeep
      go_wp2_with (first | (refine wpList_load_row rfl 23 (.tmp 5) rfl (w.heap.size + 1 + 1) rfl 23 (agC (fun j => if j = q then keep (z q) 6 else cutZ z q j)) (0, 0) _ HP2.out Try.underlying23 rfl info_ag ?_) | (refine store_blkD rfl (.tmp 4) (.tmp 26) rfl rfl rfl HR2.out info_ag rfl hall.out ?_; intro w3 hg3 hb3 ho3; refine Hid.out ?_))
      refine Lib.hid ?_
      have hbl : BelowD w.heap.size w w3 := HB2.out.trans (hb3 _ (by omega))
      go_wp2
      exact bodyPost_ret (results_cell_row rfl _ _ (w.heap.size + 1) 23 (agC (fun j => if j = q then keep (z q) 6 else cutZ z q j)) (0, 0) _ rfl hg3 Try.underlying23 rfl info_ag) rfl ⟨by rw [HFZ.out], hbl⟩
    · have hand := hkp.out
      rw [show (255 : Int) / 2 ^ 7 = 1 by decide] at hand
      have HAND := Lib.hid hand
      clear hand
      go_wp2_with fail
      go_region_held3 (fun w' => w'.cell? ⟨w.heap.size, q, none⟩ = some (.int .u8 (z q))) (first | go_keep | exact hkeep _ | (simp [hkeep])) (fail)
      have hP := HK1.out.put q hq16 (bits .andNot .u8 (z q) 1)
      rw [HAND.out] at hP ⊢
      obtain ⟨w2, hw2⟩ : ∃ w2, (w1.setCell ⟨w.heap.size + 1 + 1, q, none⟩ (.int .u8 (keep (z q) 7))).drew = w2 := ⟨_, rfl⟩
      have HP2 := Lib.hid (show IsAg w2 (w.heap.size + 1 + 1) (fun j => if j = q then keep (z q) 7 else cutZ z q j) from hw2 ▸ hP)
      have HR2 := Lib.hid (show IsAg w2 (w.heap.size + 1) (fun _ => 0) from hw2 ▸ ((Below.heap_setCell w1 ⟨w.heap.size + 1 + 1, q, none⟩ _ (w.heap.size + 1) (by simp)).trans HR0.out))
      have HB2 := Lib.hid (show BelowD w.heap.size w w2 from hw2 ▸ (HB1.out.setCell (p := ⟨w.heap.size + 1 + 1, q, none⟩) (by simp <;> omega) _).drew)
      rw [hw2]
      clear hw2 hP c0 c1 f1 hkeep
      go_wp2_with (first | (refine wpList_load_row rfl 23 (.tmp 5) rfl (w.heap.size + 1 + 1) rfl 23 (agC (fun j => if j = q then keep (z q) 7 else cutZ z q j)) (0, 0) _ HP2.out Try.underlying23 rfl info_ag ?_) | (refine store_blkD rfl (.tmp 4) (.tmp 26) rfl rfl rfl HR2.out info_ag rfl hall.out ?_; intro w3 hg3 hb3 ho3; refine Hid.out ?_))
      refine Lib.hid ?_
      have hbl : BelowD w.heap.size w w3 := HB2.out.trans (hb3 _ (by omega))
      go_wp2
      exact bodyPost_ret (results_cell_row rfl _ _ (w.heap.size + 1) 23 (agC (fun j => if j = q then keep (z q) 7 else cutZ z q j)) (0, 0) _ rfl hg3 Try.underlying23 rfl info_ag) rfl ⟨by rw [HFZ.out], hbl⟩
set_option maxHeartbeats 400000 in
set_option maxRecDepth 100000 in
theorem check_anyD (fam len : Int) (z : Nat → Int) (w : World) (hz : Bytes z) :
    Calls Try.prog 26 #[.agg (pvC fam len z)] w fun e w' => e = .returned (.int .i64 (checkI fam len z)) ∧ BelowD w.heap.size w w' := by
  have H1 := Lib.hid (fun W => hasLength_anyD fam len z W)
  rw [pv_eq] at H1
  by_cases hs : Sized fam len
  · have hsd := Lib.hid (show decide (Sized fam len) = true by simpa using hs)
    have h0 : 0 ≤ len := by unfold Sized at hs; omega
    have h1 : len ≤ 128 := by unfold Sized at hs; omega
    obtain ⟨l, rfl⟩ := Int.eq_ofNat_of_zero_le h0
    have HN := Lib.hid (IsPv.new w fam (l : Int) z)
    have hB := Lib.hid ((bselfD w).alloc (Nat.le_refl _) (.cells (pvC fam (l : Int) z) 32))
    have H2 := Lib.hid (fun W => first_anyD z (l / 8) (l % 8) (by omega) (by omega) (by omega) W hz (l : Int) (by omega))
    rw [show 8 * (l / 8) + l % 8 = l by omega] at H2
    clear h0 h1
    by_cases hF : Same16 (firstZ z l) z
    · have hf := Lib.hid (show checkI fam (l : Int) z = 0 by unfold checkI; rw [if_pos ((form_same fam l z).2 ⟨hs, hF⟩)])
      have heq := Lib.hid (fun W => eq_ag (firstZ z l) z (firstZ_bd hz l) hz W)
      rw [show decide (Same16 (firstZ z l) z) = true by simpa using hF] at heq
      clear hs hF
      go_enter Try.func26, Try.ntmps26
      go_wp2_with fail
      refine wp_region_held_drew (S := fun w' => Hid (IsPv w' w.heap.size fam (l : Int) z ∧ BelowD w.heap.size w w')) (by kernel_rfl) ?_ (fun hHeld => ?_)
      · exact Lib.hid ⟨show IsPv _ _ _ _ _ from HN.out, hB.out.drew⟩
      refine takeL (i := 0) (some 3) 32 (.tmp 1) w.heap.size 0 (pvC fam (l : Int) z) _ rfl rfl (by kernel_rfl) (by kernel_rfl) (by kernel_rfl) (fun _ _ _ h => h) (by rfl) rfl rfl (fun w' h => h.out.1.range) Try.underlying32 rfl (hi_pv fam (l : Int) z) (by assumption) ?_
      simp only [Act.put, List.setIfInBounds_toArray, List.set_cons_zero, List.set_cons_succ]
      refine takeC (i := 1) (some 4) 54 #[.agg (pvC fam (l : Int) z)] (.bool true) rfl rfl (by kernel_rfl) (by rfl) (by go_simp) (hsd.out ▸ H1.out _) (fun w1 hb1 => Lib.hid ⟨hHeld.out.1.below (BelowD.b hb1) hHeld.out.1.lt, hHeld.out.2.trans (hb1.mono hHeld.out.2.size)⟩) (fun w1 hb1 hH1 => ?_)
      simp only [Act.put, List.setIfInBounds_toArray, List.set_cons_zero, List.set_cons_succ]
      refine takeY (i := 2) (some 5) (v := (.bool false)) rfl rfl (by kernel_rfl) (by kernel_rfl) (by kernel_rfl) (fun _ _ _ h => h) (by rfl) (fun w' hS => by go_simp) (by assumption) ?_
      simp only [Act.put, List.setIfInBounds_toArray, List.set_cons_zero, List.set_cons_succ]
      refine takeY (i := 3) (some 6) (v := (.bool false)) rfl rfl (by kernel_rfl) (by kernel_rfl) (by kernel_rfl) (fun _ _ _ h => h) (by rfl) (fun w' hS => by go_simp) (by assumption) ?_
      simp only [Act.put, List.setIfInBounds_toArray, List.set_cons_zero, List.set_cons_succ]
      refine takeY (i := 4) (some 7) (v := (.pointer (some ⟨w.heap.size, 2, none⟩))) rfl rfl (by kernel_rfl) (by kernel_rfl) (by kernel_rfl) (fun _ _ _ h => h) (by rfl) (fun w' hS => by go_simp) (by assumption) ?_
      simp only [Act.put, List.setIfInBounds_toArray, List.set_cons_zero, List.set_cons_succ]
      refine takeL (i := 5) (some 8) 23 (.tmp 7) w.heap.size 2 (agC z) _ rfl rfl (by kernel_rfl) (by kernel_rfl) (by kernel_rfl) (fun _ _ _ h => h) (by rfl) rfl rfl (fun w' h => h.out.1.addr) Try.underlying23 rfl (hi_ag z) (by assumption) ?_
      simp only [Act.put, List.setIfInBounds_toArray, List.set_cons_zero, List.set_cons_succ]
      refine takeY (i := 6) (some 9) (v := (.pointer (some ⟨w.heap.size, 1, none⟩))) rfl rfl (by kernel_rfl) (by kernel_rfl) (by kernel_rfl) (fun _ _ _ h => h) (by rfl) (fun w' hS => by go_simp) (by assumption) ?_
      simp only [Act.put, List.setIfInBounds_toArray, List.set_cons_zero, List.set_cons_succ]
      refine takeY (i := 7) (some 10) (v := (.int .i64 (l : Int))) rfl rfl (by kernel_rfl) (by kernel_rfl) (by kernel_rfl) (fun _ _ _ h => h) (by rfl) (fun w' hS => by have := hS.out.1.len; go_simp) (by assumption) ?_
      simp only [Act.put, List.setIfInBounds_toArray, List.set_cons_zero, List.set_cons_succ]
      refine takeY (i := 9) (some 12) (v := (.pointer (some ⟨w.heap.size, 2, none⟩))) rfl rfl (by kernel_rfl) (by kernel_rfl) (by kernel_rfl) (fun _ _ _ h => h) (by rfl) (fun w' hS => by go_simp) (by assumption) ?_
      simp only [Act.put, List.setIfInBounds_toArray, List.set_cons_zero, List.set_cons_succ]
      refine takeL (i := 10) (some 13) 23 (.tmp 12) w.heap.size 2 (agC z) _ rfl rfl (by kernel_rfl) (by kernel_rfl) (by kernel_rfl) (fun _ _ _ h => h) (by rfl) rfl rfl (fun w' h => h.out.1.addr) Try.underlying23 rfl (hi_ag z) (by assumption) ?_
      simp only [Act.put, List.setIfInBounds_toArray, List.set_cons_zero, List.set_cons_succ]
      refine takeC (i := 8) (some 11) 55 #[.agg (agC z), .int .i64 (l : Int)] (.agg (agC (firstZ z l))) rfl rfl (by kernel_rfl) (by rfl) (by go_simp) (H2.out _) (fun w2 hb2 => Lib.hid ⟨hH1.out.1.below (BelowD.b hb2) hH1.out.1.lt, hH1.out.2.trans (hb2.mono hH1.out.2.size)⟩) (fun w2 hb2 hH2 => ?_)
      simp only [Act.put, List.setIfInBounds_toArray, List.set_cons_zero, List.set_cons_succ]
      refine takeY (i := 11) (some 14) (v := (.bool false)) rfl rfl (by kernel_rfl) (by kernel_rfl) (by kernel_rfl) (fun _ _ _ h => h) (by rfl) (fun w' hS => by have := heq.out; go_simp) (by assumption) ?_
      simp only [Act.put, List.setIfInBounds_toArray, List.set_cons_zero, List.set_cons_succ]
      refine takeY (i := 12) (some 15) (v := (.bool false)) rfl rfl (by kernel_rfl) (by kernel_rfl) (by kernel_rfl) (fun _ _ _ h => h) (by rfl) (fun w' hS => by go_simp) (by assumption) ?_
      simp only [Act.put, List.setIfInBounds_toArray, List.set_cons_zero, List.set_cons_succ]
      refine wpAnyH_done (by kernel_rfl) ?_ _
      go_wp2
      go_ret
      exact ⟨by rw [hf.out]; rfl, hH2.out.2⟩
    · have hf := Lib.hid (show checkI fam (l : Int) z = 3 by unfold checkI; rw [if_neg (fun h => hF ((form_same fam l z).1 h).2)])
      have heq := Lib.hid (fun W => eq_ag (firstZ z l) z (firstZ_bd hz l) hz W)
      rw [show decide (Same16 (firstZ z l) z) = false by simpa using hF] at heq
      clear hs hF
      go_enter Try.func26, Try.ntmps26
      go_wp2_with fail
      refine wp_region_held_drew (S := fun w' => Hid (IsPv w' w.heap.size fam (l : Int) z ∧ BelowD w.heap.size w w')) (by kernel_rfl) ?_ (fun hHeld => ?_)
      · exact Lib.hid ⟨show IsPv _ _ _ _ _ from HN.out, hB.out.drew⟩
      refine takeL (i := 0) (some 3) 32 (.tmp 1) w.heap.size 0 (pvC fam (l : Int) z) _ rfl rfl (by kernel_rfl) (by kernel_rfl) (by kernel_rfl) (fun _ _ _ h => h) (by rfl) rfl rfl (fun w' h => h.out.1.range) Try.underlying32 rfl (hi_pv fam (l : Int) z) (by assumption) ?_
      simp only [Act.put, List.setIfInBounds_toArray, List.set_cons_zero, List.set_cons_succ]
      refine takeC (i := 1) (some 4) 54 #[.agg (pvC fam (l : Int) z)] (.bool true) rfl rfl (by kernel_rfl) (by rfl) (by go_simp) (hsd.out ▸ H1.out _) (fun w1 hb1 => Lib.hid ⟨hHeld.out.1.below (BelowD.b hb1) hHeld.out.1.lt, hHeld.out.2.trans (hb1.mono hHeld.out.2.size)⟩) (fun w1 hb1 hH1 => ?_)
      simp only [Act.put, List.setIfInBounds_toArray, List.set_cons_zero, List.set_cons_succ]
      refine takeY (i := 2) (some 5) (v := (.bool false)) rfl rfl (by kernel_rfl) (by kernel_rfl) (by kernel_rfl) (fun _ _ _ h => h) (by rfl) (fun w' hS => by go_simp) (by assumption) ?_
      simp only [Act.put, List.setIfInBounds_toArray, List.set_cons_zero, List.set_cons_succ]
      refine takeY (i := 3) (some 6) (v := (.bool false)) rfl rfl (by kernel_rfl) (by kernel_rfl) (by kernel_rfl) (fun _ _ _ h => h) (by rfl) (fun w' hS => by go_simp) (by assumption) ?_
      simp only [Act.put, List.setIfInBounds_toArray, List.set_cons_zero, List.set_cons_succ]
      refine takeY (i := 4) (some 7) (v := (.pointer (some ⟨w.heap.size, 2, none⟩))) rfl rfl (by kernel_rfl) (by kernel_rfl) (by kernel_rfl) (fun _ _ _ h => h) (by rfl) (fun w' hS => by go_simp) (by assumption) ?_
      simp only [Act.put, List.setIfInBounds_toArray, List.set_cons_zero, List.set_cons_succ]
      refine takeL (i := 5) (some 8) 23 (.tmp 7) w.heap.size 2 (agC z) _ rfl rfl (by kernel_rfl) (by kernel_rfl) (by kernel_rfl) (fun _ _ _ h => h) (by rfl) rfl rfl (fun w' h => h.out.1.addr) Try.underlying23 rfl (hi_ag z) (by assumption) ?_
      simp only [Act.put, List.setIfInBounds_toArray, List.set_cons_zero, List.set_cons_succ]
      refine takeY (i := 6) (some 9) (v := (.pointer (some ⟨w.heap.size, 1, none⟩))) rfl rfl (by kernel_rfl) (by kernel_rfl) (by kernel_rfl) (fun _ _ _ h => h) (by rfl) (fun w' hS => by go_simp) (by assumption) ?_
      simp only [Act.put, List.setIfInBounds_toArray, List.set_cons_zero, List.set_cons_succ]
      refine takeY (i := 7) (some 10) (v := (.int .i64 (l : Int))) rfl rfl (by kernel_rfl) (by kernel_rfl) (by kernel_rfl) (fun _ _ _ h => h) (by rfl) (fun w' hS => by have := hS.out.1.len; go_simp) (by assumption) ?_
      simp only [Act.put, List.setIfInBounds_toArray, List.set_cons_zero, List.set_cons_succ]
      refine takeY (i := 9) (some 12) (v := (.pointer (some ⟨w.heap.size, 2, none⟩))) rfl rfl (by kernel_rfl) (by kernel_rfl) (by kernel_rfl) (fun _ _ _ h => h) (by rfl) (fun w' hS => by go_simp) (by assumption) ?_
      simp only [Act.put, List.setIfInBounds_toArray, List.set_cons_zero, List.set_cons_succ]
      refine takeL (i := 10) (some 13) 23 (.tmp 12) w.heap.size 2 (agC z) _ rfl rfl (by kernel_rfl) (by kernel_rfl) (by kernel_rfl) (fun _ _ _ h => h) (by rfl) rfl rfl (fun w' h => h.out.1.addr) Try.underlying23 rfl (hi_ag z) (by assumption) ?_
      simp only [Act.put, List.setIfInBounds_toArray, List.set_cons_zero, List.set_cons_succ]
      refine takeC (i := 8) (some 11) 55 #[.agg (agC z), .int .i64 (l : Int)] (.agg (agC (firstZ z l))) rfl rfl (by kernel_rfl) (by rfl) (by go_simp) (H2.out _) (fun w2 hb2 => Lib.hid ⟨hH1.out.1.below (BelowD.b hb2) hH1.out.1.lt, hH1.out.2.trans (hb2.mono hH1.out.2.size)⟩) (fun w2 hb2 hH2 => ?_)
      simp only [Act.put, List.setIfInBounds_toArray, List.set_cons_zero, List.set_cons_succ]
      refine takeY (i := 11) (some 14) (v := (.bool true)) rfl rfl (by kernel_rfl) (by kernel_rfl) (by kernel_rfl) (fun _ _ _ h => h) (by rfl) (fun w' hS => by have := heq.out; go_simp) (by assumption) ?_
      simp only [Act.put, List.setIfInBounds_toArray, List.set_cons_zero, List.set_cons_succ]
      refine takeY (i := 12) (some 15) (v := (.bool true)) rfl rfl (by kernel_rfl) (by kernel_rfl) (by kernel_rfl) (fun _ _ _ h => h) (by rfl) (fun w' hS => by go_simp) (by assumption) ?_
      simp only [Act.put, List.setIfInBounds_toArray, List.set_cons_zero, List.set_cons_succ]
      refine wpAnyH_done (by kernel_rfl) ?_ _
      go_wp2
      go_ret
      exact ⟨by rw [hf.out]; rfl, hH2.out.2⟩
  · have HN := Lib.hid (IsPv.new w fam len z)
    have hB := Lib.hid ((bselfD w).alloc (Nat.le_refl _) (.cells (pvC fam len z) 32))
    have hsd := Lib.hid (show decide (Sized fam len) = false by simpa using hs)
    have hf := Lib.hid (show checkI fam len z = 3 by unfold checkI; rw [if_neg (fun h => hs h.1)])
    clear hs
    go_enter Try.func26, Try.ntmps26
    go_wp2_with fail
    refine wp_region_held_drew (S := fun w' => Hid (IsPv w' w.heap.size fam len z ∧ BelowD w.heap.size w w')) (by kernel_rfl) ?_ (fun hHeld => ?_)
    · exact Lib.hid ⟨show IsPv _ _ _ _ _ from HN.out, hB.out.drew⟩
    refine takeL (i := 0) (some 3) 32 (.tmp 1) w.heap.size 0 (pvC fam len z) _ rfl rfl (by kernel_rfl) (by kernel_rfl) (by kernel_rfl) (fun _ _ _ h => h) (by rfl) rfl rfl (fun w' h => h.out.1.range) Try.underlying32 rfl (hi_pv fam len z) (by assumption) ?_
    simp only [Act.put, List.setIfInBounds_toArray, List.set_cons_zero, List.set_cons_succ]
    refine takeC (i := 1) (some 4) 54 #[.agg (pvC fam len z)] (.bool false) rfl rfl (by kernel_rfl) (by rfl) (by go_simp) (hsd.out ▸ H1.out _) (fun w1 hb1 => Lib.hid ⟨hHeld.out.1.below (BelowD.b hb1) hHeld.out.1.lt, hHeld.out.2.trans (hb1.mono hHeld.out.2.size)⟩) (fun w1 hb1 hH1 => ?_)
    simp only [Act.put, List.setIfInBounds_toArray, List.set_cons_zero, List.set_cons_succ]
    refine takeY (i := 2) (some 5) (v := (.bool true)) rfl rfl (by kernel_rfl) (by kernel_rfl) (by kernel_rfl) (fun _ _ _ h => h) (by rfl) (fun w' hS => by go_simp) (by assumption) ?_
    simp only [Act.put, List.setIfInBounds_toArray, List.set_cons_zero, List.set_cons_succ]
    refine takeY (i := 3) (some 6) (v := (.bool true)) rfl rfl (by kernel_rfl) (by kernel_rfl) (by kernel_rfl) (fun _ _ _ h => h) (by rfl) (fun w' hS => by go_simp) (by assumption) ?_
    simp only [Act.put, List.setIfInBounds_toArray, List.set_cons_zero, List.set_cons_succ]
    refine takeN (i := 4) (some 7) rfl rfl (by kernel_rfl) (by kernel_rfl) (by kernel_rfl) (fun _ _ _ h => h) (by rfl) (by assumption) ?_
    simp only [Act.put, List.setIfInBounds_toArray, List.set_cons_zero, List.set_cons_succ]
    refine takeN (i := 5) (some 8) rfl rfl (by kernel_rfl) (by kernel_rfl) (by kernel_rfl) (fun _ _ _ h => h) (by rfl) (by assumption) ?_
    simp only [Act.put, List.setIfInBounds_toArray, List.set_cons_zero, List.set_cons_succ]
    refine takeN (i := 6) (some 9) rfl rfl (by kernel_rfl) (by kernel_rfl) (by kernel_rfl) (fun _ _ _ h => h) (by rfl) (by assumption) ?_
    simp only [Act.put, List.setIfInBounds_toArray, List.set_cons_zero, List.set_cons_succ]
    refine takeN (i := 7) (some 10) rfl rfl (by kernel_rfl) (by kernel_rfl) (by kernel_rfl) (fun _ _ _ h => h) (by rfl) (by assumption) ?_
    simp only [Act.put, List.setIfInBounds_toArray, List.set_cons_zero, List.set_cons_succ]
    refine takeN (i := 8) (some 11) rfl rfl (by kernel_rfl) (by kernel_rfl) (by kernel_rfl) (fun _ _ _ h => h) (by rfl) (by assumption) ?_
    simp only [Act.put, List.setIfInBounds_toArray, List.set_cons_zero, List.set_cons_succ]
    refine takeN (i := 9) (some 12) rfl rfl (by kernel_rfl) (by kernel_rfl) (by kernel_rfl) (fun _ _ _ h => h) (by rfl) (by assumption) ?_
    simp only [Act.put, List.setIfInBounds_toArray, List.set_cons_zero, List.set_cons_succ]
    refine takeN (i := 10) (some 13) rfl rfl (by kernel_rfl) (by kernel_rfl) (by kernel_rfl) (fun _ _ _ h => h) (by rfl) (by assumption) ?_
    simp only [Act.put, List.setIfInBounds_toArray, List.set_cons_zero, List.set_cons_succ]
    refine takeN (i := 11) (some 14) rfl rfl (by kernel_rfl) (by kernel_rfl) (by kernel_rfl) (fun _ _ _ h => h) (by rfl) (by assumption) ?_
    simp only [Act.put, List.setIfInBounds_toArray, List.set_cons_zero, List.set_cons_succ]
    refine takeY (i := 12) (some 15) (v := (.bool true)) rfl rfl (by kernel_rfl) (by kernel_rfl) (by kernel_rfl) (fun _ _ _ h => h) (by rfl) (fun w' hS => by go_simp) (by assumption) ?_
    simp only [Act.put, List.setIfInBounds_toArray, List.set_cons_zero, List.set_cons_succ]
    refine wpAnyH_done (by kernel_rfl) ?_ _
    go_wp2
    go_ret
    exact ⟨by rw [hf.out]; rfl, hH1.out.2⟩
theorem v2_belowD (fam len : Int) (z : Nat → Int) (fam' len' : Int) (z' : Nat → Int) (w : World) : BelowD w.heap.size w (V2 fam len z fam' len' z' w) := ((bselfD w).alloc (Nat.le_refl _) _).alloc (by simp) _
set_option maxHeartbeats 400000 in
set_option maxRecDepth 100000 in
theorem both_anyD (fam len : Int) (z : Nat → Int) (fam' len' : Int) (z' : Nat → Int) (w : World) (hz : Bytes z) (hz' : Bytes z') :
    Calls Try.prog 56 #[.agg (pvC fam len z), .agg (pvC fam' len' z')] w fun e w' => e = .returned (.int .i64 (bothI fam len z fam' len' z')) ∧ BelowD w.heap.size w w' := by
  have HP := Lib.hid (v2_p fam len z fam' len' z' w)
  have HQ := Lib.hid (v2_q fam len z fam' len' z' w)
  have hB := Lib.hid (v2_belowD fam len z fam' len' z' w)
  have H1 := Lib.hid (fun W => check_anyD fam len z W hz)
  have H2 := Lib.hid (fun W => check_anyD fam' len' z' W hz')
  have HM := Lib.hid (show (if checkI fam len z < checkI fam' len' z' then checkI fam' len' z' else checkI fam len z) = bothI fam len z fam' len' z' by
    unfold checkI bothI
    by_cases a : Form fam len z <;> by_cases b : Form fam' len' z' <;> simp [a, b])
  go_enter Try.func56, Try.ntmps56
  go_wp2_with fail
  refine wp_region_held_drew (S := fun w' => Hid (IsPv w' w.heap.size fam len z ∧ IsPv w' (w.heap.size + 1) fam' len' z' ∧ BelowD w.heap.size w w')) (by kernel_rfl) ?_ (fun hHeld => ?_)
  · exact Lib.hid ⟨show IsPv _ _ _ _ _ from HP.out, show IsPv _ _ _ _ _ from HQ.out, hB.out.drew⟩
  refine takeL (i := 0) (some 5) 32 (.tmp 2) w.heap.size 0 (pvC fam len z) _ rfl rfl (by kernel_rfl) (by kernel_rfl) (by kernel_rfl) (fun _ _ _ h => h) (by rfl) rfl rfl (fun w' h => h.out.1.range) Try.underlying32 rfl (hi_pv fam len z) (by assumption) ?_
  simp only [Act.put, List.setIfInBounds_toArray, List.set_cons_zero, List.set_cons_succ]
  refine takeL (i := 2) (some 7) 32 (.tmp 3) (w.heap.size + 1) 0 (pvC fam' len' z') _ rfl rfl (by kernel_rfl) (by kernel_rfl) (by kernel_rfl) (fun _ _ _ h => h) (by rfl) rfl rfl (fun w' h => h.out.2.1.range) Try.underlying32 rfl (hi_pv fam' len' z') (by assumption) ?_
  simp only [Act.put, List.setIfInBounds_toArray, List.set_cons_zero, List.set_cons_succ]
  refine takeC (i := 1) (some 6) 26 #[.agg (pvC fam len z)] (.int .i64 (checkI fam len z)) rfl rfl (by kernel_rfl) (by rfl) (by go_simp) (H1.out _) (fun w1 hb1 => Lib.hid ⟨hHeld.out.1.below (BelowD.b hb1) hHeld.out.1.lt, hHeld.out.2.1.below (BelowD.b hb1) hHeld.out.2.1.lt, hHeld.out.2.2.trans (hb1.mono hHeld.out.2.2.size)⟩) (fun w3 hb3 hH3 => ?_)
  simp only [Act.put, List.setIfInBounds_toArray, List.set_cons_zero, List.set_cons_succ]
  refine takeC (i := 3) (some 8) 26 #[.agg (pvC fam' len' z')] (.int .i64 (checkI fam' len' z')) rfl rfl (by kernel_rfl) (by rfl) (by go_simp) (H2.out _) (fun w1 hb1 => Lib.hid ⟨hH3.out.1.below (BelowD.b hb1) hH3.out.1.lt, hH3.out.2.1.below (BelowD.b hb1) hH3.out.2.1.lt, hH3.out.2.2.trans (hb1.mono hH3.out.2.2.size)⟩) (fun w4 hb4 hH4 => ?_)
  simp only [Act.put, List.setIfInBounds_toArray, List.set_cons_zero, List.set_cons_succ]
  refine takeY (i := 4) (some 9) (v := (.int .i64 (bothI fam len z fam' len' z'))) rfl rfl (by kernel_rfl) (by kernel_rfl) (by kernel_rfl) (fun _ _ _ h => h) (by rfl) (fun w' hS => by go_simp; exact HM.out) (by assumption) ?_
  simp only [Act.put, List.setIfInBounds_toArray, List.set_cons_zero, List.set_cons_succ]
  refine takeY (i := 5) (some 4) (v := (.int .i64 (bothI fam len z fam' len' z'))) rfl rfl (by kernel_rfl) (by kernel_rfl) (by kernel_rfl) (fun _ _ _ h => h) (by rfl) (fun w' hS => by go_simp) (by assumption) ?_
  simp only [Act.put, List.setIfInBounds_toArray, List.set_cons_zero, List.set_cons_succ]
  refine wpAnyH_done (by kernel_rfl) ?_ _
  go_wp2
  go_ret
  exact ⟨rfl, hH4.out.2.2⟩
theorem cmp_u8D (a b : Int) (w : World) : Calls Try.prog 58 #[.int .u8 a, .int .u8 b] w fun e w' => e = .returned (.int .i64 (cmp1 a b)) ∧ BelowD w.heap.size w w' := by
  have H1 := Lib.hid (nan_u8 a)
  have H2 := Lib.hid (nan_u8 b)
  go_enter Try.func58, Try.ntmps58
  go_wp2_with fail
  refine (H1.out _).mono ?_
  rintro e w1 ⟨rfl, rfl⟩
  go_wp2_with fail
  refine (H2.out _).mono ?_
  rintro e w2 ⟨rfl, rfl⟩
  rcases Int.lt_trichotomy a b with h | h | h
  · go_wp2
    go_ret
    exact ⟨by rw [cmp1_lt h]; rfl, bselfD _⟩
  · have h1 : ¬ a < b := by omega
    have h2 : ¬ b < a := by omega
    go_wp2
    go_ret
    exact ⟨by rw [cmp1_eq h]; rfl, bselfD _⟩
  · have h1 : ¬ a < b := by omega
    go_wp2
    go_ret
    exact ⟨by rw [cmp1_gt h]; rfl, bselfD _⟩
theorem cmp_intD (a b : Int) (w : World) : Calls Try.prog 60 #[.int .i64 a, .int .i64 b] w fun e w' => e = .returned (.int .i64 (cmp1 a b)) ∧ BelowD w.heap.size w w' := by
  have H1 := Lib.hid (nan_int a)
  have H2 := Lib.hid (nan_int b)
  go_enter Try.func60, Try.ntmps60
  go_wp2_with fail
  refine (H1.out _).mono ?_
  rintro e w1 ⟨rfl, rfl⟩
  go_wp2_with fail
  refine (H2.out _).mono ?_
  rintro e w2 ⟨rfl, rfl⟩
  rcases Int.lt_trichotomy a b with h | h | h
  · go_wp2
    go_ret
    exact ⟨by rw [cmp1_lt h]; rfl, bselfD _⟩
  · have h1 : ¬ a < b := by omega
    have h2 : ¬ b < a := by omega
    go_wp2
    go_ret
    exact ⟨by rw [cmp1_eq h]; rfl, bselfD _⟩
  · have h1 : ¬ a < b := by omega
    go_wp2
    go_ret
    exact ⟨by rw [cmp1_gt h]; rfl, bselfD _⟩
set_option maxHeartbeats 400000 in
theorem cmp_agD (b b' : Nat) (z z' : Nat → Int) (w : World) (hz : Bytes z) (hz' : Bytes z') (h : ∀ j, j < 16 → w.cell? ⟨b, 2 + j, none⟩ = some (.int .u8 (z j))) (h' : ∀ j, j < 16 → w.cell? ⟨b', 2 + j, none⟩ = some (.int .u8 (z' j))) :
    Calls Try.prog 59 #[.slice (some ⟨b, 2, none⟩) 16 16, .slice (some ⟨b', 2, none⟩) 16 16] w fun e w' => e = .returned (.int .i64 (cmp1 (keyZ z 0 16) (keyZ z' 0 16))) ∧ BelowD w.heap.size w w' := by
  have hc : (callFunc 77 #[.slice (some ⟨b, 2, none⟩) 16 16, .slice (some ⟨b', 2, none⟩) 16 16]).run Try.prog w = .ok (.value (.int .i64 (cmp1 (keyZ z 0 16) (keyZ z' 0 16)))) w := by
    rw [run_callFunc_extern (e := Extern.BytealgCompare.compare) Try.func77 (by kernel_rfl) (by kernel_rfl) (by kernel_rfl) (by kernel_rfl)]
    have hk : Extern.BytealgCompare.cmp ⟨(asBytes z).toArray⟩ ⟨(asBytes z').toArray⟩ = cmp1 (keyZ z 0 16) (keyZ z' 0 16) := by
      rw [Lib.cmp_eq, ← cmp_bytes hz hz' 16 0]
      simp [asBytes, List.range_eq_range']
    have hr : (Extern.BytealgCompare.compare #[.slice (some ⟨b, 2, none⟩) 16 16, .slice (some ⟨b', 2, none⟩) 16 16]).run Try.prog w = .ok (.int .i64 (cmp1 (keyZ z 0 16) (keyZ z' 0 16))) w := by
      change Sem.run Try.prog (do pure (goInt (Extern.BytealgCompare.cmp (← Extern.Bytes.bytesOf (.slice (some ⟨b, 2, none⟩) 16 16)) (← Extern.Bytes.bytesOf (.slice (some ⟨b', 2, none⟩) 16 16))))) w = _
      simp only [Sem.run_bind, run_bytes16 _ _ _ _ _ hz h, run_bytes16 _ _ _ _ _ hz' h', Result.andThen, Sem.run_pure]
      rw [hk]
      rfl
    rw [hr]
    rfl
  clear h h'
  go_enter Try.func59, Try.ntmps59
  go_wp2
  go_ret
  exact ⟨rfl, bselfD _⟩
set_option maxHeartbeats 400000 in
theorem or_anyD (g : Nat) (x y z : Int) (w : World) (h0 : w.cell? ⟨g, 0, none⟩ = some (.int .i64 x)) (h1 : w.cell? ⟨g, 1, none⟩ = some (.int .i64 y)) (h2 : w.cell? ⟨g, 2, none⟩ = some (.int .i64 z)) :
    Calls Try.prog 57 #[.slice (some ⟨g, 0, none⟩) 3 3] w fun e w' => e = .returned (.int .i64 (or3 x y z)) ∧ BelowD w.heap.size w w' := by
  unfold or3
  go_enter Try.func57, Try.ntmps57
  go_wp2
  by_cases hx : x = 0
  · subst hx
    by_cases hy : y = 0
    · subst hy
      by_cases hz : z = 0
      · subst hz
        refine wp_loop_rounds 4 ?_
        iterate 4 (rw [rounds_succ]; go_wp2)
        go_ret
        exact ⟨rfl, bselfD _⟩
      · refine wp_loop_rounds 3 ?_
        iterate 3 (rw [rounds_succ]; go_wp2)
        go_ret
        exact ⟨rfl, bselfD _⟩
    · refine wp_loop_rounds 2 ?_
      iterate 2 (rw [rounds_succ]; go_wp2)
      go_ret
      exact ⟨by simp, bselfD _⟩
  · refine wp_loop_rounds 1 ?_
    rw [rounds_succ]
    go_wp2
    go_ret
    exact ⟨by simp, bselfD _⟩
set_option maxHeartbeats 1000000 in
set_option maxRecDepth 100000 in
theorem cmp_okD (fam len : Int) (z : Nat → Int) (fam' len' : Int) (z' : Nat → Int) (w : World) (hz : Bytes z) (hz' : Bytes z') (hf : Form fam len z) (hf' : Form fam' len' z') :
    Calls Try.prog 28 #[.agg (pvC fam len z), .agg (pvC fam' len' z')] w fun e w' => e = .returned (.tuple #[.int .i64 (cmp1 (keyP fam len z) (keyP fam' len' z')), .int .i64 0]) ∧ BelowD w.heap.size w w' := by
  have HP := Lib.hid (v2_p fam len z fam' len' z' w)
  have HQ := Lib.hid (v2_q fam len z fam' len' z' w)
  have hB := Lib.hid (v2_belowD fam len z fam' len' z' w)
  have HC := Lib.hid (fun W => both_anyD fam len z fam' len' z' W hz hz')
  rw [show bothI fam len z fam' len' z' = 0 by unfold bothI; rw [if_pos ⟨hf, hf'⟩]] at HC
  have HK := Lib.hid (or3_key (fam := fam) (fam' := fam') hz hz' (sized_le hf.1) (sized_le hf'.1))
  go_enter Try.func28, Try.ntmps28
  go_wp2_with (first | (refine load_pv rfl (.tmp 2) rfl rfl HP.out ?_) | (refine load_pv rfl (.tmp 3) rfl rfl HQ.out ?_))
  refine (HC.out _).mono ?_
  rintro e1 w1 ⟨rfl, hb1⟩
  have HP1 := Lib.hid (HP.out.below (BelowD.b hb1) HP.out.lt)
  have HQ1 := Lib.hid (HQ.out.below (BelowD.b hb1) HQ.out.lt)
  have HB1 := Lib.hid (hB.out.trans (hb1.mono hB.out.size))
  clear hb1 HP HQ hB HC hf hf'
  go_wp2_with fail
  refine wp_region_held_drew (S := fun w' => Hid (IsPv w' w.heap.size fam len z ∧ IsPv w' (w.heap.size + 1) fam' len' z' ∧ BelowD w.heap.size w w')) (by kernel_rfl) ?_ (fun hHeld => ?_)
  · exact Lib.hid ⟨show IsPv _ _ _ _ _ from HP1.out, show IsPv _ _ _ _ _ from HQ1.out, HB1.out.drew⟩
  refine takeY (i := 0) (some 13) (v := (.pointer (some ⟨w.heap.size, 0, none⟩))) rfl rfl (by kernel_rfl) (by kernel_rfl) (by kernel_rfl) (fun _ _ _ h => h) (by rfl) (fun w' hS => by go_simp) (by assumption) ?_
  simp only [Act.put, List.setIfInBounds_toArray, List.set_cons_zero, List.set_cons_succ]
  refine takeY (i := 1) (some 14) (v := (.int .u8 fam)) rfl rfl (by kernel_rfl) (by kernel_rfl) (by kernel_rfl) (fun _ _ _ h => h) (by rfl) (fun w' hS => by have := hS.out.1.fam; go_simp) (by assumption) ?_
  simp only [Act.put, List.setIfInBounds_toArray, List.set_cons_zero, List.set_cons_succ]
  refine takeY (i := 2) (some 15) (v := (.pointer (some ⟨w.heap.size + 1, 0, none⟩))) rfl rfl (by kernel_rfl) (by kernel_rfl) (by kernel_rfl) (fun _ _ _ h => h) (by rfl) (fun w' hS => by go_simp) (by assumption) ?_
  simp only [Act.put, List.setIfInBounds_toArray, List.set_cons_zero, List.set_cons_succ]
  refine takeY (i := 3) (some 16) (v := (.int .u8 fam')) rfl rfl (by kernel_rfl) (by kernel_rfl) (by kernel_rfl) (fun _ _ _ h => h) (by rfl) (fun w' hS => by have := hS.out.2.1.fam; go_simp) (by assumption) ?_
  simp only [Act.put, List.setIfInBounds_toArray, List.set_cons_zero, List.set_cons_succ]
  refine takeY (i := 5) (some 18) (v := (.pointer (some ⟨w.heap.size, 2, none⟩))) rfl rfl (by kernel_rfl) (by kernel_rfl) (by kernel_rfl) (fun _ _ _ h => h) (by rfl) (fun w' hS => by go_simp) (by assumption) ?_
  simp only [Act.put, List.setIfInBounds_toArray, List.set_cons_zero, List.set_cons_succ]
  refine takeY (i := 6) (some 19) (v := (.slice (some ⟨w.heap.size, 2, none⟩) 16 16)) rfl rfl (by kernel_rfl) (by kernel_rfl) (by kernel_rfl) (fun _ _ _ h => h) (by rfl) (fun w' hS => by go_simp) (by assumption) ?_
  simp only [Act.put, List.setIfInBounds_toArray, List.set_cons_zero, List.set_cons_succ]
  refine takeY (i := 7) (some 20) (v := (.pointer (some ⟨w.heap.size + 1, 2, none⟩))) rfl rfl (by kernel_rfl) (by kernel_rfl) (by kernel_rfl) (fun _ _ _ h => h) (by rfl) (fun w' hS => by go_simp) (by assumption) ?_
  simp only [Act.put, List.setIfInBounds_toArray, List.set_cons_zero, List.set_cons_succ]
  refine takeY (i := 8) (some 21) (v := (.slice (some ⟨w.heap.size + 1, 2, none⟩) 16 16)) rfl rfl (by kernel_rfl) (by kernel_rfl) (by kernel_rfl) (fun _ _ _ h => h) (by rfl) (fun w' hS => by go_simp) (by assumption) ?_
  simp only [Act.put, List.setIfInBounds_toArray, List.set_cons_zero, List.set_cons_succ]
  refine takeY (i := 10) (some 23) (v := (.pointer (some ⟨w.heap.size, 1, none⟩))) rfl rfl (by kernel_rfl) (by kernel_rfl) (by kernel_rfl) (fun _ _ _ h => h) (by rfl) (fun w' hS => by go_simp) (by assumption) ?_
  simp only [Act.put, List.setIfInBounds_toArray, List.set_cons_zero, List.set_cons_succ]
  refine takeY (i := 11) (some 24) (v := (.int .i64 len)) rfl rfl (by kernel_rfl) (by kernel_rfl) (by kernel_rfl) (fun _ _ _ h => h) (by rfl) (fun w' hS => by have := hS.out.1.len; go_simp) (by assumption) ?_
  simp only [Act.put, List.setIfInBounds_toArray, List.set_cons_zero, List.set_cons_succ]
  refine takeY (i := 12) (some 25) (v := (.pointer (some ⟨w.heap.size + 1, 1, none⟩))) rfl rfl (by kernel_rfl) (by kernel_rfl) (by kernel_rfl) (fun _ _ _ h => h) (by rfl) (fun w' hS => by go_simp) (by assumption) ?_
  simp only [Act.put, List.setIfInBounds_toArray, List.set_cons_zero, List.set_cons_succ]
  refine takeY (i := 13) (some 26) (v := (.int .i64 len')) rfl rfl (by kernel_rfl) (by kernel_rfl) (by kernel_rfl) (fun _ _ _ h => h) (by rfl) (fun w' hS => by have := hS.out.2.1.len; go_simp) (by assumption) ?_
  simp only [Act.put, List.setIfInBounds_toArray, List.set_cons_zero, List.set_cons_succ]
  refine takeC (i := 4) (some 17) 58 #[.int .u8 fam, .int .u8 fam'] (.int .i64 (cmp1 fam fam')) rfl rfl (by kernel_rfl) (by rfl) (by go_simp) (cmp_u8D _ _ _) (fun w1 hb1 => Lib.hid ⟨hHeld.out.1.below (BelowD.b hb1) hHeld.out.1.lt, hHeld.out.2.1.below (BelowD.b hb1) hHeld.out.2.1.lt, hHeld.out.2.2.trans (hb1.mono hHeld.out.2.2.size)⟩) (fun w3 hb3 hH3 => ?_)
  simp only [Act.put, List.setIfInBounds_toArray, List.set_cons_zero, List.set_cons_succ]
  refine takeC (i := 9) (some 22) 59 #[.slice (some ⟨w.heap.size, 2, none⟩) 16 16, .slice (some ⟨w.heap.size + 1, 2, none⟩) 16 16] (.int .i64 (cmp1 (keyZ z 0 16) (keyZ z' 0 16))) rfl rfl (by kernel_rfl) (by rfl) (by go_simp) (cmp_agD _ _ z z' _ hz hz' (addr_cells hH3.out.1) (addr_cells hH3.out.2.1)) (fun w1 hb1 => Lib.hid ⟨hH3.out.1.below (BelowD.b hb1) hH3.out.1.lt, hH3.out.2.1.below (BelowD.b hb1) hH3.out.2.1.lt, hH3.out.2.2.trans (hb1.mono hH3.out.2.2.size)⟩) (fun w4 hb4 hH4 => ?_)
  simp only [Act.put, List.setIfInBounds_toArray, List.set_cons_zero, List.set_cons_succ]
  refine takeC (i := 14) (some 27) 60 #[.int .i64 len, .int .i64 len'] (.int .i64 (cmp1 len len')) rfl rfl (by kernel_rfl) (by rfl) (by go_simp) (cmp_intD _ _ _) (fun w1 hb1 => Lib.hid ⟨hH4.out.1.below (BelowD.b hb1) hH4.out.1.lt, hH4.out.2.1.below (BelowD.b hb1) hH4.out.2.1.lt, hH4.out.2.2.trans (hb1.mono hH4.out.2.2.size)⟩) (fun w5 hb5 hH5 => ?_)
  simp only [Act.put, List.setIfInBounds_toArray, List.set_cons_zero, List.set_cons_succ]
  refine takeV (i := 15) (some 28) (v := .slice (some ⟨w5.heap.size, 0, none⟩) 3 3) (w' := w5.alloc (.cells #[.int .i64 (cmp1 fam fam'), .int .i64 (cmp1 (keyZ z 0 16) (keyZ z' 0 16)), .int .i64 (cmp1 len len')] 3)) rfl rfl (by kernel_rfl) (by rfl) (by go_simp) (Lib.hid ⟨hH5.out.1.below ((bself w5).alloc (Nat.le_refl _) _) hH5.out.1.lt, hH5.out.2.1.below ((bself w5).alloc (Nat.le_refl _) _) hH5.out.2.1.lt, hH5.out.2.2.alloc hH5.out.2.2.size _⟩) ?_
  simp only [Act.put, List.setIfInBounds_toArray, List.set_cons_zero, List.set_cons_succ]
  have hH6 : Hid (IsPv (w5.alloc (.cells #[.int .i64 (cmp1 fam fam'), .int .i64 (cmp1 (keyZ z 0 16) (keyZ z' 0 16)), .int .i64 (cmp1 len len')] 3)) w.heap.size fam len z ∧ IsPv (w5.alloc (.cells #[.int .i64 (cmp1 fam fam'), .int .i64 (cmp1 (keyZ z 0 16) (keyZ z' 0 16)), .int .i64 (cmp1 len len')] 3)) (w.heap.size + 1) fam' len' z' ∧ BelowD w.heap.size w (w5.alloc (.cells #[.int .i64 (cmp1 fam fam'), .int .i64 (cmp1 (keyZ z 0 16) (keyZ z' 0 16)), .int .i64 (cmp1 len len')] 3))) := Lib.hid ⟨hH5.out.1.below ((bself w5).alloc (Nat.le_refl _) _) hH5.out.1.lt, hH5.out.2.1.below ((bself w5).alloc (Nat.le_refl _) _) hH5.out.2.1.lt, hH5.out.2.2.alloc hH5.out.2.2.size _⟩
  refine takeC (i := 16) (some 29) 57 #[.slice (some ⟨w5.heap.size, 0, none⟩) 3 3] (.int .i64 (or3 (cmp1 fam fam') (cmp1 (keyZ z 0 16) (keyZ z' 0 16)) (cmp1 len len'))) rfl rfl (by kernel_rfl) (by rfl) (by go_simp) (or_anyD _ _ _ _ _ (World.cell?_alloc_mark w5 _ _ _ 0) (World.cell?_alloc_mark w5 _ _ _ 1) (World.cell?_alloc_mark w5 _ _ _ 2)) (fun w1 hb1 => Lib.hid ⟨hH6.out.1.below (BelowD.b hb1) hH6.out.1.lt, hH6.out.2.1.below (BelowD.b hb1) hH6.out.2.1.lt, hH6.out.2.2.trans (hb1.mono hH6.out.2.2.size)⟩) (fun w7 hb7 hH7 => ?_)
  simp only [Act.put, List.setIfInBounds_toArray, List.set_cons_zero, List.set_cons_succ]
  refine takeY (i := 17) (some 4) (v := (.int .i64 (or3 (cmp1 fam fam') (cmp1 (keyZ z 0 16) (keyZ z' 0 16)) (cmp1 len len')))) rfl rfl (by kernel_rfl) (by kernel_rfl) (by kernel_rfl) (fun _ _ _ h => h) (by rfl) (fun w' hS => by go_simp) (by assumption) ?_
  simp only [Act.put, List.setIfInBounds_toArray, List.set_cons_zero, List.set_cons_succ]
  refine takeY (i := 18) (some 5) (v := (.int .i64 0)) rfl rfl (by kernel_rfl) (by kernel_rfl) (by kernel_rfl) (fun _ _ _ h => h) (by rfl) (fun w' hS => by go_simp) (by assumption) ?_
  simp only [Act.put, List.setIfInBounds_toArray, List.set_cons_zero, List.set_cons_succ]
  refine wpAnyH_done (by kernel_rfl) ?_ _
  go_wp2
  go_ret2
  exact ⟨by rw [← HK.out]; rfl, hH7.out.2.2⟩
end Go.Proofs.Ytjnbemopfhinbaa
