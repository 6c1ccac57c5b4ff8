/- What is in a set, in order: slices.AppendSeq, slices.Collect, slices.SortedFunc, set.list. Each theorem states its conditions. -/
import Derived.Test.YteamnibgeobcbaaJKeys
namespace Go.Proofs.Yteamnibgeobcbaa
open Go.RowKit Go.Shelf Go.Sort
set_option linter.unusedVariables false
attribute [local go_sem] Oper.semAt_some

theorem idt_snoc (T : List IdT) (x : IdT) : cellsR (idtA (T ++ [x])) (T ++ [x]).length = cellsR (idtA T) T.length ++ (idC x.1).toList := by
  have h1 : (T ++ [x]).length = T.length + 1 := by simp
  rw [h1]
  show cellsR (idtA (T ++ [x])) T.length ++ (idtA (T ++ [x]) T.length).toList = _
  rw [cellsR_congr (C := idtA (T ++ [x])) (C' := idtA T) T.length (fun j hj => by unfold idtA; rw [List.getElem?_append_left hj]), idtA_at (T ++ [x]) T.length x (by simp)]
theorem bs_id (W : World) (o : Oper) (e : Operand → Value) {x : Operand} (ho : o.op = .buildSlice 35 1 #[(0, x)]) (n : Nat) (h : e x = .agg (idC n)) :
    (execOp e o).run Try.prog W = .ok (.value (.slice (some ⟨W.heap.size, 0, none⟩) 1 1)) (W.alloc (.cells (idC n) 28)) := by
  unfold execOp
  simp only [ho]
  simp only [List.map_toArray, List.map_cons, List.map_nil, h]
  kernel_rfl
theorem wpListIn_bs {F : Fence} {n : Nat} {ops : Array Oper} {Q : Exit → Act → World → Prop} {rest : List Oper} {op : Oper} {a : Act} {w : World} (hgd : op.guard = none) (x : Operand) (ho : op.op = .buildSlice 35 1 #[(0, x)]) (hsem : op.semAt F.round a.eval = execOp a.eval op) (m : Nat) (hx : a.eval x = .agg (idC m))
    (h : wpListIn F n Try.prog ops Q rest (a.put op.dst (.slice (some ⟨w.heap.size, 0, none⟩) 1 1)) (w.alloc (.cells (idC m) 28))) : wpListIn F n Try.prog ops Q (op :: rest) a w := by
  refine wpListIn_plain hgd fun K hK => ?_
  refine ⟨fun f hf => (by simp [Oper.about, ho] at hf), ?_⟩
  rw [hsem, bs_id w op a.eval ho m hx, Oper.uponIn_value]
  exact hK _ _ h
theorem infoA_id : (Try.prog.info? 28).map (fun i => (i.zero, i.size, i.bytes)) = some (some (.agg (idC 0)), 8, 8) := by kernel_rfl
/-- what came out of the iterator, in a list of the call's own -/
def ColP (S : Nat → Bool) (k : Nat) (w : World) (e : Ending) (w' : World) : Prop :=
  ∃ (v : Value) (T : List IdT), e = .returned v ∧ OwnR w' w.heap.size 28 8 v T.length (idtA T) ∧ T.Nodup ∧ (∀ x : IdT, x ∈ T ↔ S x.1 = true) ∧ T.length ≤ k ∧ Below w.heap.size w w'
set_option maxRecDepth 100000 in
set_option maxHeartbeats 8000000 in
theorem appendSeq_any (Bm b k : Nat) (S : Nat → Bool) (w : World) (hBm : Bm < w.heap.size) (hm : w.cell? ⟨Bm, 0, none⟩ = some (.map (some b))) (hset : SetAt w b S k) (hk : k * 8 ≤ 140737488355328) :
    Calls Try.prog 39 #[.slice none 0 0, .func (.func 35) #[] #[.pointer (some ⟨Bm, 0, none⟩)]] w (ColP S k w) := by
  obtain ⟨i0, hi, hz0, hz1, hz2⟩ := info_parts infoA_id
  refine (callsIn_wide (n := 6)).1 ?_
  refine callsIn_of_wp_marks Try.func39 rfl trivial ?_ rfl
  simp only [Try.ntmps39, List.size_toArray, List.length_cons, List.length_nil, Nat.reduceAdd, Nat.reduceSub, Array.replicate_succ, Array.replicate_zero, List.push_toArray, List.append_toArray, List.nil_append, List.cons_append]
  gi_wp2
  obtain ⟨W0, hW0⟩ : ∃ W0, w.alloc (.cells #[.slice none 0 0] 35) = W0 := ⟨_, rfl⟩
  have kb : Boxed W0 w.heap.size 35 (.slice none 0 0) := by rw [← hW0]; exact Boxed.new w _ _
  have hB0 : Below w.heap.size w W0 := by rw [← hW0]; exact (Below.refl _ _).alloc (Nat.le_refl _) _
  have hsz : W0.heap.size = w.heap.size + 1 := by rw [← hW0]; simp
  rw [hW0]
  clear hW0
  have hst := keys_stops Fence.wide 5 trivial rfl (by omega) Bm b k S W0 (by omega) ((hB0.cell (p := ⟨Bm, 0, none⟩) hBm).trans hm) (hset.below hB0 hset.lt)
  refine wpIn_rangeFunc_ownH (F := Fence.wide) (n := 6) rfl (by omega) (gf := 35) (lb := #[.pointer (some ⟨Bm, 0, none⟩)]) rfl trivial (enters_of Try.func35 (by kernel_rfl) rfl)
    hst walksK_t walksK_b (Below.refl _ _) (fun _ => rfl)
    (fun pre W => (∃ v, Boxed W w.heap.size 35 v ∧ W.ownsRow w.heap.size 28 8 v pre.length (cellsR (idtA pre) pre.length) ∧ True) ∧ Below w.heap.size w W)
    (fun c pre W => False)
    ?hI ?hIx ⟨⟨_, kb, World.ownsRow_nil _ _ _ _, trivial⟩, hB0⟩
    (fun x a' W => ∃ Bx, w.heap.size < Bx ∧ Blk 28 W Bx (idC x.1) ∧ a' = { tmps := #[.slice none 0 0, .func (.func 35) #[] #[.pointer (some ⟨Bm, 0, none⟩)], .pointer (some ⟨w.heap.size, 0, none⟩), undef, .slice none 0 0, .pointer (some ⟨Bx, 0, none⟩), .func (.func 35) #[] #[.pointer (some ⟨Bm, 0, none⟩)], .agg (idC x.1), undef, undef, undef, undef, undef], defers := [] })
    ?hAx ?assign ?body ?done ?stop
  case hI =>
    rintro s X Y row ⟨h1, h2⟩ hg hr
    exact ⟨(holdsRow_own (β := List IdT) w.heap.size w.heap.size 35 28 8 (fun s => s.length) (fun s => cellsR (idtA s) s.length) (fun _ _ => True)) s X Y row h1 hg (fun r e => (hr r e).2), (ownFrom_below (β := Unit) (Nat.le_refl _) (by omega)) () X Y row h2 hg hr⟩
  case hIx => rintro c s X Y row h hg hr; exact h
  case hAx =>
    rintro x a' _ X Y row ⟨Bx, h1, h2, h3⟩ hg hr
    exact ⟨Bx, h1, h2.grown hg (fun r e => (hr r e).2), h3⟩
  case assign =>
    rintro l pre x W K ⟨⟨v, h1, h2, _⟩, h5⟩ hK
    have HK := Lib.hid hK
    clear hK
    have hs5 := h1.lt
    gi_wp2_with (refine wpListIn_new (op := ⟨some 5, _, _, _, _, _⟩) rfl 28 rfl rfl (idC 0) zero_id ?_; intro W1 q1 q2 q3; refine Hid.out ?_)
    refine Lib.hid ?_
    refine wpListIn_st rfl 28 (.tmp 5) (.tmp 7) rfl rfl W.heap.size 0 rfl (.agg (idC x.1)) (idC x.1) rfl rfl info_id (idC_one _) q1 (Nat.le_of_ble_eq_true rfl) (C' := idC x.1) (by kernel_rfl) ?_
    intro W2 p1 p2
    gi_wp2
    have hp : Below W.heap.size W W2 := q2.trans (p1.2.1 _ (Nat.le_refl _))
    have hpw : Below w.heap.size W W2 := hp.mono h5.size
    have hkw : KeepsWalks W W2 := ⟨hp.size, fun i o hi _ => (hp.block i (Array.getElem?_eq_some_iff.1 hi).1).trans hi⟩
    exact HK.out _ _ ((q3.trans p2).from _) hkw ⟨⟨v, Blk.below (C := #[_]) h1 hp h1.lt, ownsRow_below' h2 hp, trivial⟩, h5.trans hpw⟩ ⟨W.heap.size, hs5, p1.1, rfl⟩
  case body =>
    rintro l pre x a' W hl ⟨r, hr⟩ ⟨⟨v, h1, h2, _⟩, h5⟩ ⟨Bx, hBx, bX, rfl⟩ hlt
    have c8 := h1.cell
    gi_wp2_with (refine wpListIn_ld (op := ⟨some 9, _, _, _, _, _⟩) rfl 28 (.tmp 5) rfl rfl Bx 0 rfl (idC x.1) _ bX.all Try.underlying28 rfl info_id ?_; refine Hid.out ?_)
    refine Lib.hid ?_
    gi_wp2_with (refine wpListIn_bs (op := ⟨some 10, _, _, _, _, _⟩) rfl (.tmp 9) rfl rfl x.1 rfl ?_; refine Hid.out ?_)
    refine Lib.hid ?_
    have hnew : ∀ j u, (idC x.1).toList[j]? = some u → (W.alloc (.cells (idC x.1) 28)).cell? ((⟨W.heap.size, 0, none⟩ : Addr).add j) = some u := by
      intro j u hj
      rw [add_none, cell_of_row _ _ _ _ _ _ (heap_alloc_new W (.cells (idC x.1) 28)), Nat.zero_add]
      simpa using hj
    have hml : maxLen = 9223372036854775807 := rfl
    have hb1 : pre.length + 1 ≤ maxLen := by omega
    have hb2 : (pre.length + 1) * 8 ≤ 140737488355328 := by omega
    have hb3 : w.heap.size ≤ (W.alloc (.cells (idC x.1) 28)).heap.size := by have := h5.size; simp; omega
    have HX := Lib.hid (idC_ones x.1)
    have HN := Lib.hid hnew
    have HML := Lib.hid hb1
    clear hnew hml hb1
    gi_wp2_with (gi_at_builtin; refine wpListIn_append_own _ rfl _ _ 35 rfl w.heap.size 28 i0 (.agg (idC 0)) 8 8 Try.underlying35 hi hz0 hz1 hz2 rfl (by decide) _ _ _ rfl (h2.alloc _) ⟨W.heap.size, 0, none⟩ 1 1 (idC x.1).toList rfl rfl HN.out HX.out HML.out hb2 hb3 ?_; intro v' w1 hown' hgrow _; obtain ⟨g', cap', rfl⟩ := ownsRow_succ hown'; obtain ⟨hv1, hv2, hr2, hk2, hb2⟩ := h1.appended (by decide) h2 h5.size (Nat.le_refl _) hown' hgrow; have hc1 := hv1.cell; have hf1 := hv1.frozen)
    gi_wp2
    have hkw : KeepsWalks W (w1.setCell ⟨w.heap.size, 0, none⟩ (.slice (some ⟨g', 0, none⟩) (pre.length + 1) cap')) := ⟨hk2.size, fun i o hi ho => hk2.same i o hi (by cases o <;> first | rfl | cases ho)⟩
    refine ⟨hk2.from _, hkw, ⟨_, hv2, ?_, trivial⟩, h5.trans hb2⟩
    rw [idt_snoc]
    simpa using hr2
  case done =>
    rintro D ys W hD ⟨hnd, hall, hlen⟩ ⟨⟨v, h1, h2, _⟩, h5⟩ hK
    have c8 := h1.cell
    have HP := Lib.hid hnd
    have HA := Lib.hid (fun x : IdT => hall x)
    have HL := Lib.hid hlen
    clear hnd hall hlen
    gi_wp2
    refine ⟨by simp, .inl ⟨_, _, rfl, run_takeDeferred hK, ?_⟩⟩
    refine ⟨_, results_tmp rfl _ _ _, v, ys, rfl, ?_, HP.out, fun x => HA.out x, HL.out, h5.trans (belowK_b (w := w) (Nat.le_refl _) W D _ _ (by omega) hK rfl rfl)⟩
    exact ownsRow_putObj h2 (.deferred none) hK rfl
  case stop => rintro D c pre W hD _ h hK; exact h.elim
theorem collect_any (Bm b k : Nat) (S : Nat → Bool) (w : World) (hBm : Bm < w.heap.size) (hm : w.cell? ⟨Bm, 0, none⟩ = some (.map (some b))) (hset : SetAt w b S k) (hk : k * 8 ≤ 140737488355328) :
    Calls Try.prog 33 #[.func (.func 35) #[] #[.pointer (some ⟨Bm, 0, none⟩)]] w (ColP S k w) := by
  have hc := appendSeq_any Bm b k S w hBm hm hset hk
  clear hBm hm hset hk
  go_enter Try.func33, Try.ntmps33
  go_wp2_with (go_at_call 39; refine hc.mono ?_; rintro e w' ⟨v, T, rfl, HT⟩)
  go_ret
  exact ⟨v, T, rfl, HT⟩
/-- what is in a set, in order, in a list of the call's own -/
def ListP (S : Nat → Bool) (k : Nat) (w : World) (e : Ending) (w' : World) : Prop :=
  ∃ (v : Value) (T : List IdT), e = .returned v ∧ OwnR w' w.heap.size 28 8 v T.length (idtA T) ∧ T.Pairwise (fun x y => x.1 < y.1) ∧ (∀ x : IdT, x ∈ T ↔ S x.1 = true) ∧ T.length ≤ k ∧ Below w.heap.size w w'
theorem rising_of {T : List IdT} (hn : T.Nodup) (ha : Asc T) : T.Pairwise (fun x y => x.1 < y.1) := by
  rw [List.pairwise_iff_getElem]
  intro i j hi hj hij
  have h1 := ha i j hij hj
  rw [List.getElem?_eq_getElem hi, List.getElem?_eq_getElem hj] at h1
  have h2 : T[i] ≠ T[j] := List.pairwise_iff_getElem.1 hn i j hi hj hij
  have h3 : T[i].1 ≠ T[j].1 := fun e => h2 (Subtype.ext e)
  simp only [Option.getD_some, nmT] at h1
  omega
theorem sorted_any (Bm b k : Nat) (S : Nat → Bool) (w : World) (hBm : Bm < w.heap.size) (hm : w.cell? ⟨Bm, 0, none⟩ = some (.map (some b))) (hset : SetAt w b S k) (hk : k * 8 ≤ 140737488355328) :
    Calls Try.prog 30 #[.func (.func 35) #[] #[.pointer (some ⟨Bm, 0, none⟩)], .func (.func 32) #[] #[]] w (ListP S k w) := by
  have hc := collect_any Bm b k S w hBm hm hset hk
  have HK := Lib.hid hk
  clear hBm hm hset hk
  go_enter Try.func30, Try.ntmps30
  go_wp2_with (go_at_call 33; refine hc.mono ?_; rintro e w1 ⟨v, T, rfl, ho, hnd, hall, hlen, hb⟩; refine Hid.out ?_)
  refine Lib.hid ?_
  have HA := Lib.hid (fun x : IdT => hall x)
  have HL := Lib.hid hlen
  have HB := Lib.hid hb
  have HN := Lib.hid hnd
  clear hall hlen hb hnd hc
  rcases ho.2 with ⟨rfl, hz⟩ | ⟨g, cap, cur, rfl, hbase, hgb, r1, r2, r3, r4⟩
  · have hT : T = [] := List.eq_nil_of_length_eq_zero hz
    subst hT
    have hs := fun W => sort_none W
    go_wp2_with (first | (go_at_call 34; refine (hs _).mono ?_; rintro e w' ⟨rfl, rfl⟩) | go_in)
    go_ret
    exact ⟨_, [], rfl, ho, List.Pairwise.nil, fun x => HA.out x, HL.out, HB.out⟩
  · have hsr := sort_row g cap T w1 cur hgb r4 (by have := HL.out; have := HK.out; omega) ()
    have HO := Lib.hid (show w.heap.size ≤ g ∧ w1.heap[g]? = some (.cells cur 28 (0, 0)) ∧ T.length ≤ cap ∧ cap ≤ maxLen ∧ cur.size = cap * 8 from ⟨hbase, hgb, r1, r2, r3⟩)
    clear ho hbase hgb r1 r2 r3 r4
    go_wp2_with (first | (go_at_call 34; refine hsr.mono ?_; rintro e w2 ⟨rfl, T', n, os, hp, ha, hw2⟩; refine Hid.out ?_) | go_in)
    refine Lib.hid ?_
    have HP := Lib.hid hp
    have HS := Lib.hid ha
    have HW := Lib.hid hw2
    clear hp ha hw2 hsr
    go_wp2_with fail
    go_ret
    obtain ⟨o1, o2, o3, o4, o5⟩ := HO.out
    have hlen : T'.length = T.length := HP.out.length_eq
    have hown := own_sorted (n := n) (os := os) (T := T') hlen o1 o2 o3 o4 o5
    have hgr : w1.grownBy (grow (putRowK enc8 8 (Sort.ahead w1 n) g 0 T'.toArray) os) (some g) := grownBy_sortedK T'.toArray
    refine ⟨_, T', rfl, hown, rising_of (HP.out.nodup_iff.2 HN.out) HS.out, fun x => (HP.out.mem_iff).trans (HA.out x), by rw [hlen]; exact HL.out, HB.out.grown hgr HB.out.size (fun k e => by cases e; exact o1)⟩
theorem list_any (b k : Nat) (S : Nat → Bool) (w : World) (hset : SetAt w b S k) (hk : k * 8 ≤ 140737488355328) :
    Calls Try.prog 28 #[.map (some b)] w (ListP S k w) := by
  have hK : ∀ W, Calls Try.prog 31 #[.map (some b)] W fun e w' => e = .returned (.func (.func 35) #[] #[.pointer (some ⟨W.heap.size, 0, none⟩)]) ∧ w' = W.alloc (.cells #[.map (some b)] 62) := fun W => (callsIn_wide (n := 6)).1 (keys_in Fence.wide 6 trivial rfl _ W)
  obtain ⟨W1, hW1⟩ : ∃ W1, w.alloc (.cells #[.map (some b)] 62) = W1 := ⟨_, rfl⟩
  have hb : Below w.heap.size w W1 := by rw [← hW1]; exact (Below.refl _ _).alloc (Nat.le_refl _) _
  have hc : W1.cell? ⟨w.heap.size, 0, none⟩ = some (.map (some b)) := by rw [← hW1]; exact (Boxed.new w _ _).cell
  have hs := sorted_any w.heap.size b k S W1 (by rw [← hW1]; simp) hc (hset.below hb hset.lt) hk
  have HB := Lib.hid hb
  have HW := Lib.hid hW1
  clear hb hc hset hk hW1
  go_enter Try.func28, Try.ntmps28
  go_wp2_with (first
    | (go_at_call 31; refine (hK _).mono ?_; rintro e w' ⟨rfl, rfl⟩; rw [HW.out])
    | (go_at_call 30; refine hs.mono ?_; rintro e w' ⟨v, T, rfl, ho, hr, ha, hl, hbl⟩; refine Hid.out ?_)
    | go_in)
  refine Lib.hid ?_
  have HO := Lib.hid ho
  have HR := Lib.hid hr
  have HA := Lib.hid (fun x : IdT => ha x)
  have HL := Lib.hid hl
  have HBL := Lib.hid hbl
  clear ho hr ha hl hbl hs
  go_wp2_with fail
  go_ret
  exact ⟨v, T, rfl, ownsRow_mono HO.out HB.out.size, HR.out, fun x => HA.out x, HL.out, HB.out.trans (HBL.out.mono HB.out.size)⟩
end Go.Proofs.Yteamnibgeobcbaa
