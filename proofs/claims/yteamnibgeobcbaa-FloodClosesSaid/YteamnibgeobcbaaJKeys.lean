/- maps.Keys over a set: each ID once, in some order. Each theorem states its conditions. -/
import Derived.Test.YteamnibgeobcbaaJSort
import Derived.RangeFuncNested
import Derived.RangeFuncBound
import Derived.RangeFuncCalls
import Derived.RangeFuncLeaves
import Derived.Shelf.Abstract
import Derived.Shelf.RegionOpen
import Derived.Sort.MapsRangeIn
import Derived.WalkKit
import Derived.OwnWalkIn
import Derived.TacticsInMore
import Derived.LoopNIn
import Derived.LoopIn
namespace Go.Proofs.Yteamnibgeobcbaa
open Go.RowKit Go.Shelf Go.MapKept
open Go.ChangeMaps (setBlock)
set_option linter.unusedVariables false
attribute [local go_sem] Oper.semAt_some

theorem Blk.grown {t : TypeId} {w w' : World} {g : Nat} {C : Array Value} {row : Option Nat} (h : Blk t w g C) (hg : w.grownBy w' row) (hr : ∀ r, row = some r → ∃ o : Obj, w.heap[r]? = some o ∧ o.isCells = false) : Blk t w' g C := by
  refine (hg.block g h.lt (fun e => ?_)).trans h
  obtain ⟨o, ho, hc⟩ := hr g e.symm
  rw [show w.heap[g]? = _ from h] at ho
  cases ho
  cases hc
theorem blk_own {β : Type} (B : Nat) (t : TypeId) (g : Nat) (C : Array Value) : OwnFrom B (fun (_ : β) W => Blk t W g C) := fun s X Y row hs hg hr => hs.grown hg (fun r e => (hr r e).2)
theorem wpListIn_gv {F : Fence} {n : Nat} {ops : Array Oper} {Q : Exit → Act → World → Prop} {rest : List Oper} {op : Oper} {a : Act} {w w' : World} (v : Value) (hw : Region.wanted op (yielded ops a.tmps) = true) (hab : op.about Try.prog w a.eval = none) (hsem : op.semAt F.round a.eval = execOp a.eval op) (hx : (execOp a.eval op).run Try.prog w = .ok (.value v) w')
    (h : wpListIn F n Try.prog ops Q rest (a.put op.dst v) w') : wpListIn F n Try.prog ops Q (op :: rest) a w := by
  refine wpListIn_step fun K hK => ?_
  rw [if_pos hw]
  refine ⟨fun f hf => (by rw [hab] at hf; cases hf), ?_⟩
  rw [hsem, hx, Oper.uponIn_value]
  exact hK _ _ h
theorem wpListIn_ld {F : Fence} {n : Nat} {ops : Array Oper} {Q : Exit → Act → World → Prop} {rest : List Oper} {op : Oper} {a : Act} {w : World} (hgd : op.guard = none) (ty : TypeId) (x : Operand) (ho : op.op = .load ty x) (hsem : op.semAt F.round a.eval = execOp a.eval op) (b off : Nat) (hx : a.eval x = .pointer (some ⟨b, off, none⟩)) (cs : Array Value) (d : TypeDesc) (hc : w.rangeAt b off cs.toList) (hu : Try.prog.underlying ty = some d) (hd : d.isRow = true) (hi : (Try.prog.info? ty).map (·.size) = some cs.toList.length)
    (h : wpListIn F n Try.prog ops Q rest (a.put op.dst (.agg cs)) w) : wpListIn F n Try.prog ops Q (op :: rest) a w := by
  refine wpListIn_plain hgd fun K hK => ?_
  refine ⟨fun f hf => (by simp [Oper.about, ho] at hf), ?_⟩
  rw [hsem, load_rng op a.eval ty x ho b off hx cs.toList d hc hu hd hi, Oper.uponIn_value]
  exact hK _ _ (by simpa using h)
theorem wpListIn_new {F : Fence} {n : Nat} {ops : Array Oper} {Q : Exit → Act → World → Prop} {rest : List Oper} {op : Oper} {a : Act} {w : World} (hgd : op.guard = none) (t : TypeId) (ho : op.op = .alloc t) (hsem : op.semAt F.round a.eval = execOp a.eval op) (C : Array Value) (hz : (Try.prog.info? t).map (·.zero) = some (some (.agg C)))
    (h : ∀ w', Blk t w' w.heap.size C → Below w.heap.size w w' → KeepsOthers w w' → wpListIn F n Try.prog ops Q rest (a.put op.dst (.pointer (some ⟨w.heap.size, 0, none⟩))) w') : wpListIn F n Try.prog ops Q (op :: rest) a w := by
  refine wpListIn_plain hgd fun K hK => ?_
  refine ⟨fun f hf => (by simp [Oper.about, ho] at hf), ?_⟩
  rw [hsem, alloc_run op a.eval t ho C hz w, Oper.uponIn_value]
  exact hK _ _ (h _ (heap_alloc_new w _) ((Below.refl _ _).alloc (Nat.le_refl _) _) (KeepsOthers.alloc _ _))
theorem stored_keeps {W W' : World} {b : Nat} {C C' : Array Value} {t u : TypeId} (hg : Blk t W b C) (hs : Stored W W' b C' u) : KeepsOthers W W' := by
  refine ⟨(hs.2.1 b (Nat.le_refl _)).size, fun k o hk ho => ?_⟩
  refine (hs.2.2 k (fun e => ?_)).trans hk
  subst e
  rw [show W.heap[k]? = _ from hg] at hk
  cases hk
  cases ho
theorem wpListIn_st {F : Fence} {n : Nat} {ops : Array Oper} {Q : Exit → Act → World → Prop} {rest : List Oper} {op : Oper} {a : Act} {w : World} (hgd : op.guard = none) (ty : TypeId) (x y : Operand) (ho : op.op = .store ty x y) (hsem : op.semAt F.round a.eval = execOp a.eval op) (b off : Nat) (hx : a.eval x = .pointer (some ⟨b, off, none⟩)) (v : Value) (cells : Array Value) (hy : a.eval y = v) (hv : v.cells = cells)
    (hi : (Try.prog.info? ty).map (·.size) = some cells.size) (h1 : cells.all (·.oneCell') = true) {C C' : Array Value} {t : TypeId} (hg : Blk t w b C) (hfit : off + cells.size ≤ C.size) (hC : putMany C off cells.toList = C')
    (h : ∀ w', Stored w w' b C' t → KeepsOthers w w' → wpListIn F n Try.prog ops Q rest (a.put op.dst undef) w') : wpListIn F n Try.prog ops Q (op :: rest) a w := by
  obtain ⟨w', hr, hs⟩ := run_store_blk op a.eval ty x y ho b off hx v cells hy hv hi h1 hg hfit hC
  refine wpListIn_plain hgd fun K hK => ?_
  refine ⟨fun f hf => (by simp [Oper.about, ho] at hf), ?_⟩
  rw [hsem, hr, Oper.uponIn_skip]
  exact hK _ _ (h w' hs (stored_keeps hg hs))

/-- a set that is gone through: what has come, and how many are still to come -/
def Rng (w : World) (b r k : Nat) (S : Nat → Bool) (ss : List IdT) (cnt : Nat) : Prop :=
  ∃ es clock since seen c0, w.heap[b]? = some (.map es clock) ∧ Stamped es clock ∧ es.size ≤ k ∧ (∀ e ∈ es.toList, ∃ n, IdOk n ∧ e.key = .agg (idC n) ∧ e.val = .agg #[] ∧ S n = true) ∧ (∀ n, S n = true → IdOk n ∧ ∃ e ∈ es.toList, e.key = .agg (idC n)) ∧
    w.heap[r]? = some (.mapIter (some b) since seen c0) ∧ (∀ x ∈ es.toList, x.born < since) ∧ since ≤ c0 ∧ since ≤ clock ∧ (leftOf es seen).size = cnt ∧ ss.length + cnt ≤ es.size ∧ ss.Nodup ∧ (∀ x : IdT, x ∈ ss ↔ ∃ e ∈ es.toList, e.key = .agg (idC x.1) ∧ seen.contains e.born = true)
section
variable {w w' : World} {b r k cnt : Nat} {S : Nat → Bool} {ss : List IdT}
theorem Rng.set (h : Rng w b r k S ss cnt) : SetAt w b S k := by
  obtain ⟨es, clock, since, seen, c0, h1, h2, h3, h4, h5, _⟩ := h
  exact ⟨es, clock, h1, h2, h3, h4, h5⟩
theorem Rng.walks (h : Rng w b r k S ss cnt) (hk : KeepsWalks w w') : Rng w' b r k S ss cnt := by
  obtain ⟨es, clock, since, seen, c0, h1, h2, h3, h4, h5, h6, rest⟩ := h
  exact ⟨es, clock, since, seen, c0, hk.same b _ h1 rfl, h2, h3, h4, h5, hk.same r _ h6 rfl, rest⟩
theorem Rng.iter (h : Rng w b r k S ss cnt) : ∃ o : Obj, w.heap[r]? = some o ∧ o.isWalk = true := by
  obtain ⟨es, clock, since, seen, c0, _, _, _, _, _, h6, _⟩ := h
  exact ⟨_, h6, rfl⟩
theorem Rng.cnt_lt (h : Rng w b r k S ss cnt) (hc : 0 < cnt) : ss.length < k := by
  obtain ⟨es, clock, since, seen, c0, h1, h2, h3, h4, h5, h6, h7, h8, h9, h10, h11, _⟩ := h
  omega
/-- how many are still to come, read off the world -/
def left (w : World) (b r : Nat) : Nat :=
  match w.heap[b]?, w.heap[r]? with
  | some (.map es _), some (.mapIter _ _ seen _) => (leftOf es seen).size
  | _, _ => 0
theorem Rng.left_eq (h : Rng w b r k S ss cnt) : left w b r = cnt := by
  obtain ⟨es, clock, since, seen, c0, h1, _, _, _, _, h6, _, _, _, h10, _⟩ := h
  simp only [left, h1, h6]
  exact h10
theorem Rng.start (h : SetAt w b S k) : ∃ w' cnt, (Instr.range 62 (.map (some b))).run Try.prog w = .ok (.pointer (some ⟨w.heap.size, 0, none⟩)) w' ∧ Rng w' b w.heap.size k S [] cnt ∧ w.grownBy w' none := by
  have hlt := h.lt
  obtain ⟨es, clock, h1, h2, h3, h4, h5⟩ := h
  refine ⟨_, _, run_range_map (P := Try.prog) w 62 28 75 b es clock Try.underlying62 h1, ⟨es, clock, clock, #[], clock, ((heap_alloc w _).2 b hlt).trans h1, h2, h3, h4, h5, (heap_alloc w _).1, ((stamped_iff es clock).1 h2).1, Nat.le_refl _, Nat.le_refl _, rfl, ?_, List.nodup_nil, ?_⟩, World.grownBy_alloc w _ none⟩
  · simp only [leftOf, List.length_nil, Nat.zero_add]; exact Array.size_filter_le
  · intro x; simp
theorem Rng.next (h : Rng w b r k S ss cnt) (ty : TypeId) :
    (cnt = 0 ∧ (∀ x : IdT, x ∈ ss ↔ S x.1 = true) ∧ (Instr.next (.pointer (some ⟨r, 0, none⟩)) false ty).run Try.prog w = .ok (.tuple #[.bool false]) w) ∨
    ∃ (x : IdT) (w' : World) (cnt' : Nat), (Instr.next (.pointer (some ⟨r, 0, none⟩)) false ty).run Try.prog w = .ok (.tuple #[.bool true, .agg (idC x.1), .agg #[]]) w' ∧ Rng w' b r k S (ss ++ [x]) cnt' ∧ cnt' < cnt ∧ w.grownBy w' (some r) ∧ w'.heap.size = w.heap.size ∧
      (Instr.entry (.pointer (some ⟨r, 0, none⟩))).run Try.prog w' = .ok (.tuple #[.agg (idC x.1), .agg #[]]) w' := by
  obtain ⟨es, clock, since, seen, c0, h1, h2, h3, h4, h5, h6, h7, h8, h9, h10, h11, h12, h13⟩ := h
  have hne : r ≠ b := by intro e; rw [e, h1] at h6; cases h6
  have hst := (stamped_iff es clock).1 h2
  rcases run_next_at (P := Try.prog) w ty r b since c0 seen es clock h6 h1 h7 h8 with ⟨z0, hrun⟩ | ⟨e, he, w1, hal, hrun⟩
  · refine .inl ⟨by omega, fun x => ?_, hrun⟩
    rw [h13 x]
    constructor
    · rintro ⟨e, he, hk, _⟩
      obtain ⟨n, n1, n2, _, n4⟩ := h4 e he
      rw [idC_inj x.2 n1 (Value.agg.inj (hk.symm.trans n2))]
      exact n4
    · intro hs
      obtain ⟨_, e, he, hk⟩ := h5 x.1 hs
      exact ⟨e, he, hk, all_seen es seen z0 e he⟩
  · obtain ⟨hem, hes⟩ := mem_left he
    obtain ⟨n, n1, n2, n3, n4⟩ := h4 e hem
    have hr1 : w1.heap[r]? = some (.mapIter (some b) since seen c0) := by rcases hal with rfl | rfl <;> exact h6
    have hb1 : w1.heap[b]? = some (.map es clock) := by rcases hal with rfl | rfl <;> exact h1
    have hset := heap_set (o' := .mapIter (some b) since (seen.push e.born) clock) hr1
    have hb' : (setBlock w1 r (.mapIter (some b) since (seen.push e.born) clock)).heap[b]? = some (.map es clock) := (hset.2 b (fun e1 => hne e1.symm)).trans hb1
    have hsh := left_shrinks es seen e he
    refine .inr ⟨⟨n, n1⟩, _, (leftOf es (seen.push e.born)).size, by rw [hrun, n2, n3], ⟨es, clock, since, seen.push e.born, clock, hb', h2, h3, h4, h5, hset.1, h7, h9, h9, rfl, ?_, ?_, ?_⟩, by omega, ?_, ?_, ?_⟩
    · simp; omega
    · refine List.nodup_append.2 ⟨h12, by simp, fun a ha b' hb' => ?_⟩
      simp only [List.mem_singleton] at hb'
      subst hb'
      rintro rfl
      obtain ⟨e2, he2, hk2, hs2⟩ := (h13 _).1 ha
      have : e2 = e := entry_eq_of_key hst.2.2 he2 hem (by rw [hk2, n2])
      subst this
      rw [hes] at hs2
      cases hs2
    · intro x
      simp only [List.mem_append, List.mem_singleton]
      constructor
      · rintro (hx | rfl)
        · obtain ⟨e2, he2, hk2, hs2⟩ := (h13 x).1 hx
          exact ⟨e2, he2, hk2, by rw [contains_push, hs2]; rfl⟩
        · exact ⟨e, hem, n2, by rw [contains_push]; simp⟩
      · rintro ⟨e2, he2, hk2, hs2⟩
        rw [contains_push] at hs2
        simp only [Bool.or_eq_true, beq_iff_eq] at hs2
        rcases hs2 with hs2 | hs2
        · exact .inl ((h13 x).2 ⟨e2, he2, hk2, hs2⟩)
        · have : e2 = e := born_inj hst.2.1 he2 hem hs2
          subst this
          exact .inr (Subtype.ext (idC_inj x.2 n1 (Value.agg.inj (hk2.symm.trans n2))))
    · rcases hal with rfl | rfl <;> exact ⟨rfl, rfl, rfl, by simp [setBlock], fun i _ hi => hset.2 i (fun e1 => hi (by rw [e1]))⟩
    · rcases hal with rfl | rfl <;> simp [setBlock]
    · rw [run_entry_at _ r b since seen es clock e hset.1 hb' hem hst.2.1, n2, n3]
end
section
variable {F : Fence} {n : Nat} {w : World} {ops : Array Oper} {rest : List Oper} {o : Oper} {a : Act} {Q : Exit → Act → World → Prop}
theorem wpListIn_rangeId (hg : o.guard = none) (m : Operand) (hop : o.op = Op.range 62 m) (b k : Nat) (S : Nat → Bool) (hm : a.eval m = .map (some b)) (h : SetAt w b S k)
    (hK : ∀ w' cnt, Rng w' b w.heap.size k S [] cnt → w.grownBy w' none → wpListIn F n Try.prog ops Q rest (a.put o.dst (.pointer (some ⟨w.heap.size, 0, none⟩))) w') : wpListIn F n Try.prog ops Q (o :: rest) a w := by
  refine wpListIn_plain hg fun K' hK' => ?_
  obtain ⟨w', cnt, hrun, r1, r2⟩ := Rng.start h
  unfold Oper.wpIn
  refine ⟨?_, ?_⟩
  · simp [Oper.about, hop]
  · rw [Oper.semAt_plain F _ _ (by rw [hop]; intro c hc'; cases hc')]
    simp [execOp, hop, hm, hrun, Result.andThen]
    exact hK' _ _ (hK w' cnt r1 r2)
theorem wpListIn_nextId (hg : o.guard = none) (it : Operand) (hop : o.op = Op.next it false) (b r k cnt : Nat) (S : Nat → Bool) (ss : List IdT) (hit : a.eval it = .pointer (some ⟨r, 0, none⟩)) (h : Rng w b r k S ss cnt)
    (hDone : Hid (∀ x : IdT, x ∈ ss ↔ S x.1 = true) → wpListIn F n Try.prog ops Q rest (a.put o.dst (.tuple #[.bool false])) w)
    (hMore : ∀ (m : Nat) (hm : IdOk m) (w' : World) (cnt' : Nat), Hid (Rng w' b r k S (ss ++ [⟨m, hm⟩]) cnt') → cnt' < cnt → w.grownBy w' (some r) → w'.heap.size = w.heap.size → (Instr.entry (.pointer (some ⟨r, 0, none⟩))).run Try.prog w' = .ok (.tuple #[.agg (idC m), .agg #[]]) w' →
      wpListIn F n Try.prog ops Q rest (a.put o.dst (.tuple #[.bool true, .agg (idC m), .agg #[]])) w') : wpListIn F n Try.prog ops Q (o :: rest) a w := by
  refine wpListIn_plain hg fun K' hK' => ?_
  unfold Oper.wpIn
  refine ⟨by simp [Oper.about, hop], ?_⟩
  rw [Oper.semAt_plain F _ _ (by rw [hop]; intro c hc'; cases hc')]
  rcases h.next o.type with ⟨h0, hl, hrun⟩ | ⟨x, w', cnt', hrun, hrg, hlt, hgr, hsz, hen⟩
  · simp [execOp, hop, hit, hrun, Result.andThen]
    exact hK' _ _ (hDone (Lib.hid hl))
  · simp [execOp, hop, hit, hrun, Result.andThen]
    exact hK' _ _ (hMore x.1 x.2 w' cnt' (Lib.hid hrg) hlt hgr hsz hen)
end
set_option maxRecDepth 100000 in
set_option maxHeartbeats 4000000 in
theorem keys1_in (F : Fence) (n : Nat) (h35 : F.fn 35) (hro : F.round = none) (hn : 1 ≤ n) (l Bm b k : Nat) (S : Nat → Bool) (J Jx : List IdT → World → Prop)
    (hY : ∀ pre x W, J pre W → pre.length < k → YieldAt F (n - 1) Try.prog l #[.agg (idC x.1)] W fun e W' =>
      (e = .returned (.bool true) ∧ J (pre ++ [x]) W' ∧ KeepsWalks W W') ∨ (e = .returned (.bool false) ∧ Jx (pre ++ [x]) W'))
    (W : World) (hJ : AbidesFrom W.heap.size J) (hm : W.cell? ⟨Bm, 0, none⟩ = some (.map (some b))) (hset : SetAt W b S k) (h0 : J [] W) :
    CallsIn F n Try.prog 35 #[.func (.yield l) #[] #[], .pointer (some ⟨Bm, 0, none⟩)] W fun e W' => (∃ v, e = .returned v) ∧
      ((∃ xs, (xs.Nodup ∧ (∀ x : IdT, x ∈ xs ↔ S x.1 = true) ∧ xs.length ≤ k) ∧ J xs W') ∨ (∃ pre, True ∧ Jx pre W')) := by
  refine callsIn_of_wp Try.func35 rfl h35 ?_ hro
  simp only [Try.ntmps35, List.size_toArray, List.length_cons, List.length_nil, Nat.reduceAdd, Nat.reduceSub, Array.replicate_succ, Array.replicate_zero, List.push_toArray, List.append_toArray, List.nil_append, List.cons_append]
  gi_wp2_with (first
    | (gi_at_range; refine wpListIn_rangeId rfl _ rfl b k S rfl hset ?_; intro w0 cnt0 hrg0 hg0)
    | gi_in)
  go_frame
  gi_loopw [3] (fun _ wr => ∃ (cnt : Nat) (ss : List IdT), Rng wr b W.heap.size k S ss cnt ∧ J ss wr) (fun _ wr => left wr b W.heap.size)
  case atStart =>
    exact ⟨_, [], hrg0, hJ [] W w0 none h0 hg0 (fun r e => by cases e)⟩
  case round =>
    obtain ⟨cnt, ss, hrg, hJs⟩ := hrel
    gi_wp2_with (first
      | (gi_at_next; refine wpListIn_nextId rfl _ rfl b W.heap.size k cnt S ss rfl hrg ?_ ?_)
      | gi_in)
    · intro hall
      gi_wp2
      go_end0
      refine ⟨⟨_, rfl⟩, .inl ⟨ss, ⟨?_, fun x => hall.out x.1 x.2, ?_⟩, hJs⟩⟩
      · obtain ⟨es, clock, since, seen, c0, _, _, _, _, _, _, _, _, _, _, _, h12, _⟩ := hrg; exact h12
      · obtain ⟨es, clock, since, seen, c0, h1, h2, h3, h4, h5, h6, h7, h8, h9, h10, h11, _⟩ := hrg; omega
    · intro m hm2 w2 cnt2 HRG2 hlt hg2 hs2 hen
      obtain ⟨x, hx⟩ : ∃ x : IdT, (⟨m, hm2⟩ : IdT) = x := ⟨_, rfl⟩
      have hrg2 := HRG2.out
      rw [hx] at hrg2
      obtain rfl : x.1 = m := by rw [← hx]
      clear HRG2 hx
      have hJ2 : J ss w2 := hJ ss wr w2 (some W.heap.size) hJs hg2 (fun r e => by cases e; exact ⟨Nat.le_refl _, hrg.iter⟩)
      clear hs2
      gi_wp2_with (refine wpListIn_new (op := ⟨some 3, _, _, _, _, _⟩) rfl 28 rfl (Oper.semAt_plain F _ _ (fun c h => by cases h)) (idC 0) zero_id ?_; intro W1 q1 q2 q3; refine Hid.out ?_)
      refine Lib.hid ?_
      refine wpListIn_st rfl 28 (.tmp 3) (.tmp 9) rfl (Oper.semAt_plain F _ _ (fun c h => by cases h)) w2.heap.size 0 rfl (.agg (idC x.1)) (idC x.1) rfl rfl info_id (idC_one _) q1 (Nat.le_of_ble_eq_true rfl) (C' := idC x.1) (by kernel_rfl) ?_
      intro W2 p1 p2
      have hb2 : Below w2.heap.size w2 W2 := q2.trans (p1.2.1 _ (Nat.le_refl _))
      have hJ3 : J ss W2 := hJ ss w2 W2 none hJ2 ⟨hb2.os, hb2.tape, hb2.output, hb2.size, fun i hi _ => hb2.block i hi⟩ (fun r e => by cases e)
      have hkw : KeepsWalks w2 W2 := ⟨hb2.size, fun i o hi _ => (hb2.block i (Array.getElem?_eq_some_iff.1 hi).1).trans hi⟩
      have hrg3 := hrg2.walks hkw
      have kx : Blk 28 W2 w2.heap.size (idC x.1) := p1.1
      have hlk : ss.length < k := hrg.cnt_lt (by omega)
      obtain ⟨fn, tmps, assign, body, hy, hR⟩ := hY ss x W2 hJ3 hlk
      have HLT := Lib.hid hlt
      clear q1 q2 q3 p1 p2 hb2 hJ2 hen hlt
      gi_wp2_with (refine wpListIn_ld (op := ⟨some 11, _, _, _, _, _⟩) rfl 28 (.tmp 3) rfl (Oper.semAt_plain F _ _ (fun c h => by cases h)) w2.heap.size 0 rfl (idC x.1) _ kx.all Try.underlying28 rfl info_id ?_; refine Hid.out ?_)
      refine Lib.hid ?_
      gi_wp2
      refine hR.mono ?_
      rintro e W3 (⟨rfl, hJ4, hk4⟩ | ⟨rfl, hJx⟩)
      · gi_wp2
        have hrg4 := hrg3.walks hk4
        go_roundw
        case rel => exact ⟨cnt2, ss ++ [x], hrg4, hJ4⟩
        case measure => rw [hrg4.left_eq, hrg.left_eq]; exact HLT.out
      · gi_wp2
        refine bodyPost_ret (results_none rfl _ _ _) rfl ?_
        exact ⟨⟨_, rfl⟩, .inr ⟨_, trivial, hJx⟩⟩
theorem keys_in (F : Fence) (n : Nat) (h31 : F.fn 31) (hro : F.round = none) (mb : Option Nat) (w : World) :
    CallsIn F n Try.prog 31 #[.map mb] w fun e w' => e = .returned (.func (.func 35) #[] #[.pointer (some ⟨w.heap.size, 0, none⟩)]) ∧ w' = w.alloc (.cells #[.map mb] 62) := by
  refine callsIn_of_wp Try.func31 rfl h31 ?_ hro
  simp only [Try.ntmps31, List.size_toArray, List.length_cons, List.length_nil, Nat.reduceAdd, Nat.reduceSub, Array.replicate_succ, Array.replicate_zero, List.push_toArray, List.append_toArray, List.nil_append, List.cons_append]
  gi_wp2
  go_ret
  exact ⟨rfl, rfl⟩
theorem keys_stops (F : Fence) (n : Nat) (h35 : F.fn 35) (hro : F.round = none) (hn : 1 ≤ n) (Bm b k : Nat) (S : Nat → Bool) (w : World) (hBm : Bm < w.heap.size) (hm : w.cell? ⟨Bm, 0, none⟩ = some (.map (some b))) (hset : SetAt w b S k) :
    SeqStopsK F n Try.prog 35 #[.pointer (some ⟨Bm, 0, none⟩)] (fun x : IdT => #[Value.agg (idC x.1)]) KeepsWalks (fun xs => xs.Nodup ∧ (∀ x : IdT, x ∈ xs ↔ S x.1 = true) ∧ xs.length ≤ k) (fun _ => True) k w :=
  fun l J Jx W hW hJ _ hY h0 => keys1_in F n h35 hro hn l Bm b k S J Jx hY W hJ ((hW.cell (p := ⟨Bm, 0, none⟩) hBm).trans hm) (hset.below hW hset.lt) h0
end Go.Proofs.Yteamnibgeobcbaa
