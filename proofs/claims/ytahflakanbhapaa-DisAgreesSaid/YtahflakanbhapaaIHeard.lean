/- dis.Heard. Each theorem states its conditions. -/
import Derived.Test.YtahflakanbhapaaIMacs
namespace Go.Proofs.Ytahflakanbhapaa
open Go.RowKit Go.Shelf
set_option linter.unusedVariables false
attribute [local go_sem] Oper.semAt_some

theorem Blk.grown {t : TypeId} {w w' : World} {g : Nat} {C : Array Value} {row : Option Nat} (h : Blk t w g C) (hg : w.grownBy w' row) (hr : ∀ r, row = some r → ∃ o : Obj, w.heap[r]? = some o ∧ o.isCells = false) : Blk t w' g C := by
  refine (hg.block g h.lt (fun e => ?_)).trans h
  obtain ⟨o, ho, hc⟩ := hr g e.symm
  rw [show w.heap[g]? = _ from h] at ho
  cases ho
  cases hc
theorem blk_own {β : Type} (B : Nat) (t : TypeId) (g : Nat) (C : Array Value) : OwnFrom B (fun (_ : β) W => Blk t W g C) := fun s X Y row hs hg hr => hs.grown hg (fun r e => (hr r e).2)
theorem wpListIn_gv {F : Fence} {n : Nat} {ops : Array Oper} {Q : Exit → Act → World → Prop} {rest : List Oper} {op : Oper} {a : Act} {w w' : World} (v : Value) (hw : Region.wanted op (yielded ops a.tmps) = true) (hab : op.about Try.prog w a.eval = none) (hsem : op.semAt F.round a.eval = execOp a.eval op) (hx : (execOp a.eval op).run Try.prog w = .ok (.value v) w')
    (h : wpListIn F n Try.prog ops Q rest (a.put op.dst v) w') : wpListIn F n Try.prog ops Q (op :: rest) a w := by
  refine wpListIn_step fun K hK => ?_
  rw [if_pos hw]
  refine ⟨fun f hf => (by rw [hab] at hf; cases hf), ?_⟩
  rw [hsem, hx, Oper.uponIn_value]
  exact hK _ _ h
theorem wpListIn_ld {F : Fence} {n : Nat} {ops : Array Oper} {Q : Exit → Act → World → Prop} {rest : List Oper} {op : Oper} {a : Act} {w : World} (hgd : op.guard = none) (ty : TypeId) (x : Operand) (ho : op.op = .load ty x) (hsem : op.semAt F.round a.eval = execOp a.eval op) (b off : Nat) (hx : a.eval x = .pointer (some ⟨b, off, none⟩)) (cs : Array Value) (d : TypeDesc) (hc : w.rangeAt b off cs.toList) (hu : Try.prog.underlying ty = some d) (hd : d.isRow = true) (hi : (Try.prog.info? ty).map (·.size) = some cs.toList.length)
    (h : wpListIn F n Try.prog ops Q rest (a.put op.dst (.agg cs)) w) : wpListIn F n Try.prog ops Q (op :: rest) a w := by
  refine wpListIn_plain hgd fun K hK => ?_
  refine ⟨fun f hf => (by simp [Oper.about, ho] at hf), ?_⟩
  rw [hsem, load_rng op a.eval ty x ho b off hx cs.toList d hc hu hd hi, Oper.uponIn_value]
  exact hK _ _ (by simpa using h)
theorem wpListIn_new {F : Fence} {n : Nat} {ops : Array Oper} {Q : Exit → Act → World → Prop} {rest : List Oper} {op : Oper} {a : Act} {w : World} (hgd : op.guard = none) (t : TypeId) (ho : op.op = .alloc t) (hsem : op.semAt F.round a.eval = execOp a.eval op) (C : Array Value) (hz : (Try.prog.info? t).map (·.zero) = some (some (.agg C)))
    (h : ∀ w', Blk t w' w.heap.size C → Below w.heap.size w w' → KeepsOthers w w' → wpListIn F n Try.prog ops Q rest (a.put op.dst (.pointer (some ⟨w.heap.size, 0, none⟩))) w') : wpListIn F n Try.prog ops Q (op :: rest) a w := by
  refine wpListIn_plain hgd fun K hK => ?_
  refine ⟨fun f hf => (by simp [Oper.about, ho] at hf), ?_⟩
  rw [hsem, alloc_run op a.eval t ho C hz w, Oper.uponIn_value]
  exact hK _ _ (h _ (heap_alloc_new w _) ((Below.refl _ _).alloc (Nat.le_refl _) _) (KeepsOthers.alloc _ _))
theorem stored_keeps {W W' : World} {b : Nat} {C C' : Array Value} {t u : TypeId} (hg : Blk t W b C) (hs : Stored W W' b C' u) : KeepsOthers W W' := by
  refine ⟨(hs.2.1 b (Nat.le_refl _)).size, fun k o hk ho => ?_⟩
  refine (hs.2.2 k (fun e => ?_)).trans hk
  subst e
  rw [show W.heap[k]? = _ from hg] at hk
  cases hk
  cases ho
theorem wpListIn_st {F : Fence} {n : Nat} {ops : Array Oper} {Q : Exit → Act → World → Prop} {rest : List Oper} {op : Oper} {a : Act} {w : World} (hgd : op.guard = none) (ty : TypeId) (x y : Operand) (ho : op.op = .store ty x y) (hsem : op.semAt F.round a.eval = execOp a.eval op) (b off : Nat) (hx : a.eval x = .pointer (some ⟨b, off, none⟩)) (v : Value) (cells : Array Value) (hy : a.eval y = v) (hv : v.cells = cells)
    (hi : (Try.prog.info? ty).map (·.size) = some cells.size) (h1 : cells.all (·.oneCell') = true) {C C' : Array Value} {t : TypeId} (hg : Blk t w b C) (hfit : off + cells.size ≤ C.size) (hC : putMany C off cells.toList = C')
    (h : ∀ w', Stored w w' b C' t → KeepsOthers w w' → wpListIn F n Try.prog ops Q rest (a.put op.dst undef) w') : wpListIn F n Try.prog ops Q (op :: rest) a w := by
  obtain ⟨w', hr, hs⟩ := run_store_blk op a.eval ty x y ho b off hx v cells hy hv hi h1 hg hfit hC
  refine wpListIn_plain hgd fun K hK => ?_
  refine ⟨fun f hf => (by simp [Oper.about, ho] at hf), ?_⟩
  rw [hsem, hr, Oper.uponIn_skip]
  exact hK _ _ (h w' hs (stored_keeps hg hs))
def HeaE (q : Bool) (r : Int) (w : World) (e : Ending) (w' : World) : Prop := e = .returned (.tuple #[.bool q, .int .i64 r]) ∧ Below w.heap.size w w'
set_option maxRecDepth 100000 in
set_option maxHeartbeats 4000000 in
theorem heard_long (a : Nat → Int) (A : Option Addr) (n c : Nat) (w : World) (h255 : 255 < n) :
    Calls Try.prog 15 #[.agg (syC a), .slice A n c] w (HeaE false 2 w) := by
  have i1 : (255 : Int) < (n : Int) := by omega
  have HB := Lib.hid (fun C1 C2 C3 => (((Below.refl w.heap.size w).alloc (Nat.le_refl _) (.cells C1 36)).alloc (by simp) (.cells C2 4)).alloc (by simp; omega) (.cells C3 26))
  go_enter Try.func15, Try.ntmps15
  go_wp2_with fail
  refine bodyPost_ret (v := .tuple #[.bool false, .int .i64 2]) (by simp [results, Try.f15, go_sem]) rfl ?_
  exact ⟨rfl, HB.out _ _ _⟩
set_option maxRecDepth 100000 in
set_option maxHeartbeats 4000000 in
theorem heard_form (a : Nat → Int) (A : Option Addr) (n c : Nat) (w : World) (h255 : n ≤ 255) (h6 : n % 6 ≠ 0) :
    Calls Try.prog 15 #[.agg (syC a), .slice A n c] w (HeaE false 3 w) := by
  have i1 : ¬ (255 : Int) < (n : Int) := by omega
  have i3 : ¬ (n : Int) % 6 = 0 := by omega
  have HB := Lib.hid (fun C1 C2 C3 => (((Below.refl w.heap.size w).alloc (Nat.le_refl _) (.cells C1 36)).alloc (by simp) (.cells C2 4)).alloc (by simp; omega) (.cells C3 26))
  clear h6
  go_enter Try.func15, Try.ntmps15
  go_wp2_with fail
  refine bodyPost_ret (v := .tuple #[.bool false, .int .i64 3]) (by simp [results, Try.f15, go_sem]) rfl ?_
  exact ⟨rfl, HB.out _ _ _⟩
set_option maxRecDepth 100000 in
set_option maxHeartbeats 8000000 in
theorem heard_in (a : Nat → Int) (A : Option Addr) (M c : Nat) (z : Nat → Int) (w : World) (ha : byte6 a) (hr : Rd w A (6 * M) z) (hn : 6 * M ≤ 255) (hc : 6 * M ≤ c) (hcm : c ≤ 9223372036854775807) :
    Calls Try.prog 15 #[.agg (syC a), .slice A (6 * M) c] w (fun e w' => ∃ q : Bool, HB (Hd a z M) q ∧ HeaE q 0 w e w') := by
  have hz := hr.2
  have hA0 : ∃ b off, 0 < M → A = some ⟨b, off, none⟩ ∧ b < w.heap.size ∧ ∀ j, j < 6 * M → w.cell? ⟨b, off + j, none⟩ = some (.int .u8 (z j)) := by
    rcases Nat.eq_zero_or_pos M with h0 | h0
    · exact ⟨0, 0, fun h => by omega⟩
    · obtain ⟨b, off, rfl, h⟩ := hr.row (by omega)
      exact ⟨b, off, fun _ => ⟨rfl, h.1, h.2.1⟩⟩
  obtain ⟨b, off, hA0⟩ := hA0
  have HA := Lib.hid hA0
  clear hr hA0
  refine (callsIn_wide (n := 6)).1 ?_
  obtain ⟨T, hT⟩ : ∃ T, 6 * M = T := ⟨_, rfl⟩
  rw [hT] at HA hc hn ⊢
  have HT := Lib.hid hT
  have i1 : ¬ (255 : Int) < (T : Int) := by omega
  have i3 : (T : Int) % 6 = 0 := by omega
  clear hT
  refine callsIn_of_wp_marks Try.func15 rfl trivial ?_ rfl
  simp only [Try.ntmps15, List.size_toArray, List.length_cons, List.length_nil, Nat.reduceAdd, Nat.reduceSub, Array.replicate_succ, Array.replicate_zero, List.push_toArray, List.append_toArray, List.nil_append, List.cons_append]
  have : Fence.wide.fn 23 := trivial
  gi_wp2_with (gi_at_call 23; refine (macs_in Fence.wide 5 trivial rfl _ _ _ _).mono ?_; rintro e w' ⟨rfl, rfl⟩)
  obtain ⟨W0, hW0⟩ : ∃ W0, (((w.alloc (.cells (syC a) 36)).alloc (.cells #[.bool false] 4)).alloc (.cells #[.int .i64 0] 26)).alloc (.cells #[.slice A T c] 43) = W0 := ⟨_, rfl⟩
  have k2 : Blk 36 W0 w.heap.size (syC a) := by
    rw [← hW0]
    exact (Below.heap_alloc _ _ _ (by simp; omega)).trans ((Below.heap_alloc _ _ _ (by simp; omega)).trans ((Below.heap_alloc _ _ _ (by simp)).trans (heap_alloc_new w _)))
  have k4 : Boxed W0 (w.heap.size + 1) 4 (.bool false) := by
    rw [← hW0]
    have h := ((Boxed.new (w.alloc (.cells (syC a) 36)) 4 (.bool false)).alloc (.cells #[.int .i64 0] 26)).alloc (.cells #[.slice A T c] 43)
    simpa using h
  have k5 : Boxed W0 (w.heap.size + 1 + 1) 26 (.int .i64 0) := by
    rw [← hW0]
    have h := (Boxed.new ((w.alloc (.cells (syC a) 36)).alloc (.cells #[.bool false] 4)) 26 (.int .i64 0)).alloc (.cells #[.slice A T c] 43)
    simpa using h
  have kb : Boxed W0 (w.heap.size + 1 + 1 + 1) 43 (.slice A T c) := by
    rw [← hW0]
    have h := Boxed.new (((w.alloc (.cells (syC a) 36)).alloc (.cells #[.bool false] 4)).alloc (.cells #[.int .i64 0] 26)) 43 (.slice A T c)
    simpa using h
  have hB0 : Below w.heap.size w W0 := by
    rw [← hW0]
    exact ((((Below.refl w.heap.size w).alloc (Nat.le_refl _) _).alloc (by simp) _).alloc (by simp; omega) _).alloc (by simp; omega) _
  have hsz : W0.heap.size = w.heap.size + 4 := by rw [← hW0]; simp
  rw [hW0]
  clear hW0
  have hst := macs_stops Fence.wide 5 trivial rfl (by omega) (w.heap.size + 1 + 1 + 1) w.heap.size b off M c z hz A (fun h => ⟨(HA.out h).1, (HA.out h).2.1⟩) (by rw [HT.out]; exact hc) hcm W0 (by omega) (by omega) (by rw [HT.out]; exact kb.cell)
    (fun j hj => (hB0.cell (p := ⟨b, off + j, none⟩) (HA.out (by omega)).2.1).trans ((HA.out (by omega)).2.2 j (by have := HT.out; omega)))
  refine wpIn_rangeFunc_ownH (F := Fence.wide) (n := 6) rfl (by omega) (gf := 30) (lb := #[.pointer (some ⟨w.heap.size + 1 + 1 + 1, 0, none⟩)]) rfl trivial (enters_of Try.func30 (by kernel_rfl) rfl)
    hst belowK_t (belowK_b (by omega)) (Below.refl _ _) (fun _ => rfl)
    (fun pre W => ((Blk 36 W w.heap.size (syC a) ∧ Boxed W (w.heap.size + 1) 4 (.bool false) ∧ Boxed W (w.heap.size + 1 + 1) 26 (.int .i64 0)) ∧ ∀ y ∈ pre, eq6 y.1 a = false) ∧ Below w.heap.size w W)
    (fun c pre W => (c = .ret ∧ (∃ y ∈ pre, eq6 y.1 a = true) ∧ Boxed W (w.heap.size + 1) 4 (.bool true) ∧ Boxed W (w.heap.size + 1 + 1) 26 (.int .i64 0)) ∧ Below w.heap.size w W)
    ?hI ?hIx ⟨⟨⟨k2, k4, k5⟩, by simp⟩, hB0⟩
    (fun x a' W => ∃ Bx, w.heap.size + 1 + 1 < Bx ∧ Blk 36 W Bx (syC x.1) ∧ a' = { tmps := #[.agg (syC a), .slice A T c, .pointer (some ⟨w.heap.size, 0, none⟩), undef, .pointer (some ⟨w.heap.size + 1, 0, none⟩), .pointer (some ⟨w.heap.size + 1 + 1, 0, none⟩), .pointer (some ⟨Bx, 0, none⟩), .bool false, .slice A T c, .int .i64 (T : Int), .bool false, .bool false, .slice A T c, .int .i64 (T : Int), .int .i64 0, .bool false, .slice A T c, .func (.func 30) #[] #[.pointer (some ⟨w.heap.size + 1 + 1 + 1, 0, none⟩)], .agg (syC x.1), undef, undef, undef], defers := [] })
    ?hAx ?assign ?body ?done ?stop
  case hI =>
    rintro s X Y row ⟨⟨⟨h1, h2, h3⟩, h4⟩, h5⟩ hg hr
    exact ⟨⟨⟨h1.grown hg (fun r e => (hr r e).2), Blk.grown h2 hg (fun r e => (hr r e).2), Blk.grown h3 hg (fun r e => (hr r e).2)⟩, h4⟩, (ownFrom_below (β := Unit) (Nat.le_refl _) (by omega)) () X Y row h5 hg hr⟩
  case hIx =>
    rintro c s X Y row ⟨⟨h1, h2, h3, h4⟩, h5⟩ hg hr
    exact ⟨⟨h1, h2, Blk.grown h3 hg (fun r e => (hr r e).2), Blk.grown h4 hg (fun r e => (hr r e).2)⟩, (ownFrom_below (β := Unit) (Nat.le_refl _) (by omega)) () X Y row h5 hg hr⟩
  case hAx =>
    rintro x a' _ X Y row ⟨Bx, h1, h2, h3⟩ hg hr
    exact ⟨Bx, h1, h2.grown hg (fun r e => (hr r e).2), h3⟩
  case assign =>
    rintro l pre x W K ⟨⟨⟨h1, h2, h3⟩, h4⟩, h5⟩ hK
    have HK := Lib.hid hK
    clear hK
    have hs5 := h3.lt
    gi_wp2_with (refine wpListIn_new (op := ⟨some 6, _, _, _, _, _⟩) rfl 36 rfl rfl (syC z0) zero_mac ?_; intro W1 q1 q2 q3; refine Hid.out ?_)
    refine Lib.hid ?_
    refine wpListIn_st rfl 36 (.tmp 6) (.tmp 18) rfl rfl W.heap.size 0 rfl (.agg (syC x.1)) (syC x.1) rfl rfl info_mac (syC_one _) q1 (Nat.le_of_ble_eq_true rfl) (C' := syC x.1) (by kernel_rfl) ?_
    intro W2 p1 p2
    gi_wp2
    have hp : Below W.heap.size W W2 := q2.trans (p1.2.1 _ (Nat.le_refl _))
    have hpw : Below w.heap.size W W2 := hp.mono h5.size
    exact HK.out _ _ ((q3.trans p2).from _) hpw ⟨⟨⟨h1.below hp h1.lt, Blk.below (C := #[_]) h2 hp h2.lt, Blk.below (C := #[_]) h3 hp h3.lt⟩, h4⟩, h5.trans hpw⟩ ⟨W.heap.size, hs5, p1.1, rfl⟩
  case body =>
    rintro l pre x a' W hl ⟨r, hr⟩ ⟨⟨⟨h1, h2, h3⟩, h4⟩, h5⟩ ⟨Bx, hBx, bX, rfl⟩ hlt
    obtain ⟨q, hq⟩ : ∃ q, eq6 x.1 a = q := ⟨_, rfl⟩
    have HQ := Lib.hid hq
    clear hq
    gi_wp2_with (refine wpListIn_ld (op := ⟨some 19, _, _, _, _, _⟩) rfl 36 (.tmp 6) rfl rfl Bx 0 rfl (syC x.1) _ bX.all Try.underlying36 rfl info_mac ?_; refine Hid.out ?_)
    refine Lib.hid ?_
    gi_wp2_with (refine wpListIn_ld (op := ⟨some 20, _, _, _, _, _⟩) rfl 36 (.tmp 2) rfl rfl w.heap.size 0 rfl (syC a) _ h1.all Try.underlying36 rfl info_mac ?_; refine Hid.out ?_)
    refine Lib.hid ?_
    gi_wp2_with (refine wpListIn_gv (op := ⟨some 21, _, _, _, _, _⟩) (.bool q) (by rfl) rfl rfl (eql6 _ _ _ _ 36 _ rfl rfl guard_mac Try.underlying36 x.1 a x.2 ha rfl rfl q HQ.out _) ?_; refine Hid.out ?_)
    refine Lib.hid ?_
    have c4 := h2.cell
    have f4 := h2.frozen
    have c5 := h3.cell
    have f5 := h3.frozen
    cases q
    · gi_wp2
      exact ⟨KeepsFrom.refl _ _, Below.refl _ _, ⟨⟨⟨h1, h2, h3⟩, fun y hy => (List.mem_append.1 hy).elim (h4 y) (fun e => by simp at e; subst e; exact HQ.out)⟩, h5⟩⟩
    · gi_wp2
      have hk : KeepsOthers W ((W.setCell ⟨w.heap.size + 1, 0, none⟩ (.bool true)).setCell ⟨w.heap.size + 1 + 1, 0, none⟩ (.int .i64 0)) := (KeepsOthers.setCell _ _ _).trans (KeepsOthers.setCell _ _ _)
      have g4 := (h2.set (.bool true)).other (B' := w.heap.size + 1 + 1) (by omega) (.int .i64 0)
      have g5 := (h3.other (B' := w.heap.size + 1) (by omega) (.bool true)).set (.int .i64 0)
      have hb := (h5.setCell (p := ⟨w.heap.size + 1, 0, none⟩) (by simp) (.bool true)).setCell (p := ⟨w.heap.size + 1 + 1, 0, none⟩) (by simp; omega) (.int .i64 0)
      exact ⟨hk.from _, ⟨rfl, ⟨x, List.mem_append.2 (.inr (by simp)), HQ.out⟩, g4, g5⟩, hb⟩
  case done =>
    rintro D ys W hD rfl ⟨⟨⟨h1, h2, h3⟩, h4⟩, h5⟩ hK
    have c4 := h2.cell
    have f4 := h2.frozen
    have c5 := h3.cell
    have f5 := h3.frozen
    gi_wp2
    have g4 := (h2.set (.bool false)).other (B' := w.heap.size + 1 + 1) (by omega) (.int .i64 0)
    have g5 := (h3.other (B' := w.heap.size + 1) (by omega) (.bool false)).set (.int .i64 0)
    have hb := (h5.setCell (p := ⟨w.heap.size + 1, 0, none⟩) (by simp) (.bool false)).setCell (p := ⟨w.heap.size + 1 + 1, 0, none⟩) (by simp; omega) (.int .i64 0)
    have hK1 := (KeepsOthers.setCell W ⟨w.heap.size + 1, 0, none⟩ (.bool false)).same D _ hK rfl
    have hK' := (KeepsOthers.setCell _ ⟨w.heap.size + 1 + 1, 0, none⟩ (.int .i64 0)).same D _ hK1 rfl
    refine ⟨by simp, .inl ⟨_, _, rfl, run_takeDeferred hK', ?_⟩⟩
    have b4 := Blk.grown (C := #[_]) g4 (grownBy_putObj' _ D (.deferred none)) (fun r e => by cases e; exact ⟨_, hK', rfl⟩)
    have b5 := Blk.grown (C := #[_]) g5 (grownBy_putObj' _ D (.deferred none)) (fun r e => by cases e; exact ⟨_, hK', rfl⟩)
    have c4' := Boxed.cell b4
    have c5' := Boxed.cell b5
    refine ⟨.tuple #[.bool false, .int .i64 0], ?_, false, ?_, rfl, hb.trans (belowK_b (w := w) (Nat.le_refl _) _ D _ _ (by omega) hK' rfl rfl)⟩
    · simp [results, Try.f15, go_sem, c4', c5']
    · refine ⟨fun e => (by cases e), fun ⟨i, hi, g⟩ => ?_⟩
      have h9 := h4 (mcB z hz i) ((upto_mem _ _ _).2 ⟨i, hi, rfl⟩)
      rw [(eq6_iff (mcB z hz i).2 ha).2 (fun j hj => g j hj)] at h9
      cases h9
  case stop =>
    rintro D cc pre W hD hpre ⟨⟨rfl, hin, h2, h3⟩, h5⟩ hK
    gi_wp2
    refine ⟨by simp, .inl ⟨_, _, rfl, run_takeDeferred hK, ?_⟩⟩
    have b4 := Blk.grown (C := #[_]) h2 (grownBy_putObj' _ D (.deferred none)) (fun r e => by cases e; exact ⟨_, hK, rfl⟩)
    have b5 := Blk.grown (C := #[_]) h3 (grownBy_putObj' _ D (.deferred none)) (fun r e => by cases e; exact ⟨_, hK, rfl⟩)
    have c4 := Boxed.cell b4
    have c5 := Boxed.cell b5
    refine ⟨.tuple #[.bool true, .int .i64 0], ?_, true, ?_, rfl, h5.trans (belowK_b (w := w) (Nat.le_refl _) W D _ _ (by omega) hK rfl rfl)⟩
    · simp [results, Try.f15, go_sem, c4, c5]
    · obtain ⟨y, hy, he⟩ := hin
      obtain ⟨i, hi, rfl⟩ := (upto_mem _ _ _).1 (hpre.subset hy)
      refine ⟨fun _ => ⟨i, hi, fun j hj => ?_⟩, fun _ => rfl⟩
      exact (eq6_iff (mcB z hz i).2 ha).1 he j hj
theorem heard_any (a : Nat → Int) (A : Option Addr) (n c : Nat) (z : Nat → Int) (w : World) (ha : byte6 a) (hr : Rd w A n z) (hc : n ≤ c) (hcm : c ≤ 9223372036854775807) :
    Calls Try.prog 15 #[.agg (syC a), .slice A n c] w (HeaP a z n w) := by
  by_cases h255 : 255 < n
  · exact (heard_long a A n c w h255).mono fun e w' h => ⟨false, 2, h.1, .inl ⟨h255, rfl, rfl⟩, h.2⟩
  · by_cases h6 : n % 6 = 0
    · obtain ⟨M, rfl⟩ : ∃ M, n = 6 * M := ⟨n / 6, by omega⟩
      refine (heard_in a A M c z w ha hr (by omega) hc hcm).mono fun e w' ⟨q, hq, h⟩ => ⟨q, 0, h.1, .inr (.inr ⟨by omega, h6, rfl, ?_⟩), h.2⟩
      rw [show 6 * M / 6 = M by omega]
      exact hq
    · exact (heard_form a A n c w (by omega) h6).mono fun e w' h => ⟨false, 3, h.1, .inr (.inl ⟨by omega, h6, rfl, rfl⟩), h.2⟩
end Go.Proofs.Ytahflakanbhapaa
