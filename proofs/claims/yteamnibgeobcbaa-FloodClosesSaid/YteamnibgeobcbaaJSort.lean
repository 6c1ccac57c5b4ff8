/- Lists of IDs that a call appends to; what the library's sort leaves in one. Each theorem states its conditions. -/
import Derived.Test.YteamnibgeobcbaaJOrd
namespace Go.Proofs.Yteamnibgeobcbaa
open Go.RowKit Go.Sort
set_option linter.unusedVariables false

/-- m records of the call's own -/
def OwnR (w : World) (base : Nat) (e : TypeId) (s : Nat) (v : Value) (m : Nat) (C : Nat → Array Value) : Prop := w.ownsRow base e s v m (cellsR C m)
theorem OwnR.below {w w' : World} {base s m : Nat} {e : TypeId} {v : Value} {C : Nat → Array Value} (h : OwnR w base e s v m C) (hb : Below w.heap.size w w') : OwnR w' base e s v m C := ownsRow_below' h hb
theorem OwnR.nil (w : World) (base : Nat) (e : TypeId) (s : Nat) (C : Nat → Array Value) : OwnR w base e s (.slice none 0 0) 0 C := World.ownsRow_nil _ _ _ _
theorem OwnR.shape {w : World} {base s m : Nat} {e : TypeId} {v : Value} {C : Nat → Array Value} (h : OwnR w base e s v m C) (hC : Recs s C) (hs : 0 < s) : ∃ A c, v = .slice A m c ∧ m ≤ c ∧ c ≤ maxLen ∧ (A = none → m = 0 ∧ c = 0) ∧ RdR w A m s C := ownR_shape hC hs h
theorem rdR_blk {w : World} {B s : Nat} {C : Array Value} {t : TypeId} (h : Blk t w B C) : RdR w (some ⟨B, 0, none⟩) 1 s (fun _ => C) := by
  refine .inr ⟨B, 0, rfl, h.lt, fun j hj i u hu => ?_⟩
  obtain rfl : j = 0 := by omega
  rw [Nat.zero_mul, Nat.zero_add, h.cell i]
  simpa using hu
section
variable {ops : Array Oper} {Q : Exit → Act → World → Prop}
/-- a slice of one value is made -/
theorem wpList_bs {rest : List Oper} {op : Oper} {a : Act} {w : World} (hgd : op.guard = none) (t : TypeId) (C : Array Value) (hx : (execOp a.eval op).run Try.prog w = .ok (.value (.slice (some ⟨w.heap.size, 0, none⟩) 1 1)) (w.alloc (.cells C t)))
    (N : Nat) (hN : w.heap.size = N) (h : ∀ w', Blk t w' N C → Below w.heap.size w w' → N + 1 ≤ w'.heap.size → wpList Try.prog ops Q rest (a.put op.dst (.slice (some ⟨N, 0, none⟩) 1 1)) w') : wpList Try.prog ops Q (op :: rest) a w := by
  subst hN
  refine wpList_plain hgd fun K hK => ?_
  unfold Oper.wp
  rw [hx, Oper.upon_value]
  exact hK _ _ (h _ (heap_alloc_new w _) ((Below.refl _ _).alloc (Nat.le_refl _) _) (by simp))
/-- an append of a list of records to a list of the call's own -/
theorem app_X {rest : List Oper} {o : Oper} {a : Act} {w : World} (T E : TypeId) (s bs : Nat) (z : Value) (hT : Try.prog.underlying T = some (.slice E)) (hI : (Try.prog.info? E).map (fun i => (i.zero, i.size, i.bytes)) = some (some z, s, bs)) (hzs : z.cells.size = s) (hs0 : 0 < s)
    (hgd : o.guard = none) (y x : Operand) (ho : o.op = .call { callee := .builtin .append, args := #[y, x], argTypes := #[T, T] })
    (w0 : World) (v : Value) (n : Nat) (C : Nat → Array Value) (hs : a.eval y = v) (hown : OwnR w w0.heap.size E s v n C) (hb : Below w0.heap.size w0 w)
    (ad : Addr) (m c : Nat) (D : Nat → Array Value) (hx : a.eval x = .slice (some ad) m c) (hR : RdR w (some ad) m s D) (hD : Recs s D) (h63 : n + m ≤ maxLen) (hbd : (n + m) * bs ≤ 140737488355328)
    (h : ∀ v' w', OwnR w' w0.heap.size E s v' (n + m) (catR C n D) → Below w0.heap.size w0 w' → (∀ k, k < w.heap.size → v.ownBlock ≠ some k → w'.heap[k]? = w.heap[k]?) → w.heap.size ≤ w'.heap.size → wpList Try.prog ops Q rest (a.put o.dst v') w') :
    wpList Try.prog ops Q (o :: rest) a w := by
  obtain ⟨i0, hi, hz0, hz1, hz2⟩ := info_parts hI
  refine wpList_append_own_at w hgd y x _ ho w0.heap.size E i0 z s bs hT hi hz0 hz1 hz2 hzs hs0 v n _ hs hown ad m c (cellsR D m) hx (cellsR_len hD m) (recs_news hD hs0 hR) (cellsR_one hD m) h63 hbd hb.size ?_
  intro v' w' h2 h3 h4 h5
  rw [cellsR_cat] at h2
  exact h v' w' h2 (hb.grown h3 hb.size (fun k e => (hown.lt k e).1)) (fun k hk hne => h3.block k hk (fun e => hne e.symm)) h3.size
end

/-- the cells of a list of IDs -/
def idtA (S : List IdT) : Nat → Array Value := fun j => idC (S[j]?.getD default).1
theorem recs_idt (S : List IdT) : Recs 8 (idtA S) := fun j => ⟨rfl, idC_ones _⟩
theorem idtA_at (S : List IdT) (j : Nat) (x : IdT) (h : S[j]? = some x) : idtA S j = idC x.1 := by unfold idtA; rw [h]; rfl
def enc8 (x : IdT) : List Value := (idC x.1).toList
theorem flat_cells (S : List IdT) : (flatK enc8 8 S.toArray).toList = cellsR (idtA S) S.length := by
  apply List.ext_getElem?
  intro t
  have hl := cellsR_len (recs_idt S) S.length
  have hs : (flatK enc8 8 S.toArray).size = S.length * 8 := by simp
  rcases Nat.lt_or_ge t (S.length * 8) with h | h
  · have hq : t / 8 < S.length := by omega
    have hr : t % 8 < 8 := Nat.mod_lt _ (by decide)
    have e := cellsR_at (recs_idt S) S.length (t / 8) (t % 8) hq hr
    rw [show t / 8 * 8 + t % 8 = t by omega] at e
    rw [e, Array.getElem?_toList, Array.getElem?_eq_getElem (by omega)]
    have g := get_flatK enc8 8 S.toArray t (by simpa using h)
    rw [getElem!_pos _ t (by omega)] at g
    rw [g]
    have hx : S[t / 8]? = some S[t / 8] := List.getElem?_eq_getElem hq
    rw [idtA_at S _ _ hx]
    have h2 : S.toArray[t / 8]! = S[t / 8] := by rw [getElem!_pos _ _ (by simpa using hq)]; simp
    rw [h2, ← Array.getElem?_toList]
    unfold enc8
    have h3 : t % 8 < (idC S[t / 8].1).toList.length := by rw [Array.length_toList, idC_size]; exact hr
    rw [List.getElem?_eq_getElem h3]
    exact congrArg some (getElem!_pos (idC S[t / 8].1).toList (t % 8) h3)
  · rw [List.getElem?_eq_none (by rw [Array.length_toList]; omega), List.getElem?_eq_none (by omega)]
section
variable {w : World} {g cap n base : Nat} {e : TypeId} {os : Array Obj} {cur : Array Value} {S T : List IdT}
theorem holds_own (hb : w.heap[g]? = some (.cells cur e (0, 0))) (ht : cur.toList.take (S.length * 8) = cellsR (idtA S) S.length) : HoldsK enc8 8 w g 0 S.toArray := by
  intro j hj
  have hj' : j < S.length * 8 := by simpa using hj
  refine ⟨?_, by simp [World.frozen?, hb]⟩
  rw [← flat_cells] at ht
  have h1 : (cur.toList.take (S.length * 8))[j]? = (flatK enc8 8 S.toArray).toList[j]? := by rw [ht]
  rw [List.getElem?_take_of_lt hj', Array.getElem?_toList, Array.getElem?_toList] at h1
  rw [Nat.zero_add, cell_of_row w g j cur e (0, 0) hb, h1, Array.getElem?_eq_getElem (by simpa using hj'), getElem!_pos _ j (by simpa using hj')]
  rfl
theorem heap_sortedK (d : Array IdT) (hb : w.heap[g]? = some (.cells cur e (0, 0))) : (grow (putRowK enc8 8 (Sort.ahead w n) g 0 d) os).heap[g]? = some (.cells (putCells id 0 (flatK enc8 8 d) cur) e (0, 0)) := by
  have hg : g < w.heap.size := (Array.getElem?_eq_some_iff.1 hb).1
  rw [heap_grow_old _ _ (by simpa [putRowK] using hg)]
  simp [putRowK, putRow, mapBlock, Sort.ahead, Array.getElem?_modify, hb, onCells]
theorem grownBy_sortedK (d : Array IdT) : w.grownBy (grow (putRowK enc8 8 (Sort.ahead w n) g 0 d) os) (some g) := by
  refine ⟨rfl, rfl, rfl, by simp [putRowK], fun k hk hne => ?_⟩
  rw [heap_grow_old _ _ (by simpa [putRowK] using hk)]
  have : g ≠ k := fun e => hne (by rw [e])
  simp [putRowK, putRow, mapBlock, Sort.ahead, Array.getElem?_modify, this]
theorem take_putK (h : T.length * 8 ≤ cur.size) : (putCells id 0 (flatK enc8 8 T.toArray) cur).toList.take (T.length * 8) = cellsR (idtA T) T.length := by
  rw [← flat_cells]
  apply List.ext_getElem?
  intro j
  by_cases hj : j < T.length * 8
  · rw [List.getElem?_take_of_lt hj, Array.getElem?_toList, Array.getElem?_toList]
    simp [putCells, hj, show j < cur.size by omega]
  · rw [List.getElem?_take_eq_none (by omega), List.getElem?_eq_none (by simp; omega)]
/-- behind the sort the same slice owns the sorted list -/
theorem own_sorted (hl : T.length = S.length) (hbase : base ≤ g) (hb : w.heap[g]? = some (.cells cur e (0, 0))) (h1 : S.length ≤ cap) (h2 : cap ≤ maxLen) (h3 : cur.size = cap * 8) :
    OwnR (grow (putRowK enc8 8 (Sort.ahead w n) g 0 T.toArray) os) base e 8 (.slice (some ⟨g, 0, none⟩) S.length cap) T.length (idtA T) :=
  ⟨by rw [cellsR_len (recs_idt T)], .inr ⟨g, cap, _, by rw [hl], hbase, heap_sortedK _ hb, by omega, h2, by simp [putCells, h3], take_putK (by omega)⟩⟩
end
def nmT (x : IdT) : Int := (x.1 : Int)
def cfT (x y : IdT) : Int := cmp3 (nmT x) (nmT y)
theorem cfT_lt (x y : IdT) : decide (cfT x y < 0) = decide (nmT x < nmT y) := by
  unfold cfT cmp3
  by_cases h1 : nmT x < nmT y
  · simp [h1]
  · rw [if_neg h1]
    by_cases h2 : nmT y < nmT x
    · rw [if_pos h2]; simp; omega
    · rw [if_neg h2]; simp; omega
/-- in order -/
def Asc (S : List IdT) : Prop := ∀ i j, i < j → j < S.length → nmT (S[i]?.getD default) ≤ nmT (S[j]?.getD default)
theorem perm_all {S T : List IdT} (h : PermIn 0 S.toArray.size S.toArray T.toArray) : T.Perm S := by
  obtain ⟨h1, _, h3⟩ := h
  have e1 : S.toArray.extract 0 S.toArray.size = S.toArray := by simp
  have e2 : T.toArray.extract 0 S.toArray.size = T.toArray := by rw [← h1]; simp
  rw [e1, e2] at h3
  simpa using h3
theorem agg_id (w : World) : (isAgg 28).run Try.prog w = .ok true w := by kernel_rfl
theorem sz_id (w : World) : (Go.sizeOf 28).run Try.prog w = .ok 8 w := by kernel_rfl
theorem swo_id : SWO (ltOf cfT) := by
  have e : ∀ x y, ltOf cfT x y = decide (nmT x < nmT y) := fun x y => cfT_lt x y
  refine ⟨fun x => ?_, fun x y z h1 h2 => ?_, fun x y z h1 h2 => ?_⟩
  · rw [e]; simp
  · rw [e] at h1 h2 ⊢
    have := of_decide_eq_true h1
    have := of_decide_eq_true h2
    exact decide_eq_true (by omega)
  · rw [e] at h1 h2 ⊢
    have := of_decide_eq_false h1
    have := of_decide_eq_false h2
    exact decide_eq_false (by omega)
theorem asc_of {T : List IdT} {n : Nat} (hn : T.length = n) (h : SortedIn (ltOf cfT) 0 n T.toArray) : Asc T := by
  intro i j hij hj
  have h9 := h i j (Nat.zero_le _) hij (by omega)
  have e : ∀ x y, ltOf cfT x y = decide (nmT x < nmT y) := fun x y => cfT_lt x y
  rw [e] at h9
  have h8 := of_decide_eq_false h9
  have g : ∀ k, k < T.length → T.toArray[k]! = T[k]?.getD default := fun k hk => by
    rw [getElem!_pos _ k (by simpa using hk), List.getElem?_eq_getElem hk]; simp
  rw [g i (by omega), g j hj] at h8
  omega
theorem sort_row (g cap : Nat) (S : List IdT) (w : World) (cur : Array Value) (hb : w.heap[g]? = some (.cells cur 28 (0, 0))) (ht : cur.toList.take (S.length * 8) = cellsR (idtA S) S.length) (hn : S.length < 4611686018427387904) (u : Unit) :
    Calls Try.prog 34 #[.slice (some ⟨g, 0, none⟩) S.length cap, .func (.func 32) #[] #[]] w fun e w' => e = .returned (.tuple #[]) ∧ ∃ T n os, T.Perm S ∧ Asc T ∧ w' = grow (putRowK enc8 8 (Sort.ahead w n) g 0 T.toArray) os := by
  have eg : ∀ args w, (callFunc 32 args).run Try.prog w = .ok (.enter 32 args) w := enters_of Try.func32 (by kernel_rfl) rfl
  have hcon := AnyQ.slices_SortFunc Try.sortS 8 agg_id sz_id enc8 (fun _ => rfl) (fun x v hv => idC_ones _ v hv) cfT swo_id 32 #[] g 0 cap S.toArray w eg (fun m os dk _ x y => order_any x.1 y.1 _ x.2 y.2) (holds_own hb ht) (Array.getElem?_eq_some_iff.1 hb).1 (by simpa using hn)
  have hc2 : S.toArray.size = S.length := by simp
  rw [hc2] at hcon
  change Calls Try.prog 34 #[.slice (some ⟨g, 0, none⟩) S.length cap, .func (.func 32) #[] #[]] w _ at hcon
  refine hcon.mono ?_
  rintro e w' ⟨he, d', n, os, h1, h2, h3⟩
  obtain ⟨T⟩ := d'
  have hl : T.length = S.length := by have := h1.1; simpa using this
  exact ⟨he, T, n, os, perm_all (by rw [hc2]; exact h1), asc_of hl h2, h3⟩
theorem ins_none (fv : Value) (w : World) : Calls Try.prog 44 #[.slice none 0 0, .int .i64 0, .int .i64 0, fv] w fun e w' => e = .returned (.tuple #[]) ∧ w' = w := by
  go_enter Try.func44, Try.ntmps44
  go_wp2
  refine wp_loop_rounds 1 ?_
  rw [rounds_succ]
  go_wp2
  go_end0
  exact ⟨rfl, rfl⟩
set_option maxHeartbeats 8000000 in
theorem pdq_none (lim : Int) (fv : Value) (w : World) : Calls Try.prog 40 #[.slice none 0 0, .int .i64 0, .int .i64 0, .int .i64 lim, fv] w fun e w' => e = .returned (.tuple #[]) ∧ w' = w := by
  have hi := fun W => ins_none fv W
  go_enter Try.func40, Try.ntmps40
  go_wp2
  refine wp_loop_rounds 1 ?_
  rw [rounds_succ]
  go_wp2_with (go_at_call 44; refine (hi _).mono ?_; rintro e w' ⟨rfl, rfl⟩)
  (try simp only [Exit.inBlock, Exit.then]); refine bodyPost_ret (results_none rfl _ _ _) rfl ?_
  exact ⟨rfl, rfl⟩
set_option maxHeartbeats 8000000 in
theorem sort_none (w : World) : Calls Try.prog 34 #[.slice none 0 0, .func (.func 32) #[] #[]] w fun e w' => e = .returned (.tuple #[]) ∧ w' = w := by
  have hp := fun lim fv W => pdq_none lim fv W
  go_enter Try.func34, Try.ntmps34
  go_wp2_with (first | (go_at_call 40; refine (hp _ _ _).mono ?_; rintro e w' ⟨rfl, rfl⟩) | go_in)
  go_end0
  exact ⟨rfl, rfl⟩
end Go.Proofs.Yteamnibgeobcbaa
