/- What reading a list has in common for edges and prefixes: places, panics through a deferred closure. Each theorem states its conditions. -/
import Derived.Test.YtplfilghhgdffaaGEdge
import Derived.Deep.LoopGhost
namespace Go.Proofs.Ytplfilghhgdffaa
open Go.RowKit
set_option linter.unusedVariables false

theorem is_fault (v : Value) (w : World) : (Instr.typeAssert (.iface 84 v) 20 84 true).run Try.prog w = .ok (.tuple #[v, .bool true]) w := by kernel_rfl
theorem blk_cell {w : World} {b : Nat} {v : Value} {t : TypeId} (h : w.heap[b]? = some (.cells #[v] t (0, 0))) : w.cell? ⟨b, 0, none⟩ = some v := (cell_of_row w b 0 _ _ _ h).trans rfl
theorem blk_free {w : World} {b : Nat} {cs : Array Value} {t : TypeId} (h : w.heap[b]? = some (.cells cs t (0, 0))) (j : Nat) : w.frozen? ⟨b, j, none⟩ = false := by simp [World.frozen?, h]

/-- where the things of a list begin, nx telling where the next one does -/
def pos (nx : Nat → Nat) : Nat → Nat
  | 0 => 0
  | k + 1 => nx (pos nx k)
/-- m things stand there; behind them the bytes end, or a thing isn't right -/
def LEnds (nx : Nat → Nat) (ok : Nat → Prop) (n m : Nat) : Prop := (∀ k, k < m → pos nx k < n ∧ ok (pos nx k)) ∧ (pos nx m = n ∨ (pos nx m < n ∧ ¬ ok (pos nx m)))
/-- a thing that is right ends within, and is some bytes long -/
def Steps1 (nx : Nat → Nat) (ok : Nat → Prop) (n : Nat) : Prop := ∀ p, p < n → ok p → p < nx p ∧ nx p ≤ n
theorem lends (nx : Nat → Nat) (ok : Nat → Prop) (n : Nat) (h : Steps1 nx ok n) : ∃ m, LEnds nx ok n m := by
  have key : ∀ k, (∃ m, LEnds nx ok n m) ∨ ((∀ i, i < k → pos nx i < n ∧ ok (pos nx i)) ∧ pos nx k ≤ n ∧ k ≤ pos nx k) := by
    intro k
    induction k with
    | zero => exact .inr ⟨fun i hi => by omega, Nat.zero_le _, Nat.zero_le _⟩
    | succ k ih =>
      rcases ih with ih | ⟨h1, h2, h3⟩
      · exact .inl ih
      · by_cases e : pos nx k = n
        · exact .inl ⟨k, h1, .inl e⟩
        · by_cases ho : ok (pos nx k)
          · have hs := h (pos nx k) (by omega) ho
            refine .inr ⟨fun i hi => ?_, hs.2, ?_⟩
            · by_cases ei : i = k
              · subst ei; exact ⟨by omega, ho⟩
              · exact h1 i (by omega)
            · show k + 1 ≤ nx (pos nx k); omega
          · exact .inl ⟨k, h1, .inr ⟨by omega, ho⟩⟩
  rcases key (n + 1) with h1 | ⟨_, h2, h3⟩
  · exact h1
  · omega
theorem lends_le {nx : Nat → Nat} {ok : Nat → Prop} {n m : Nat} (h : Steps1 nx ok n) (hm : LEnds nx ok n m) : ∀ k, k ≤ m → k ≤ pos nx k ∧ pos nx k ≤ n := by
  intro k
  induction k with
  | zero => exact fun _ => ⟨Nat.le_refl _, Nat.zero_le _⟩
  | succ k ih =>
    intro hk
    have h1 := hm.1 k (by omega)
    have h2 := h _ h1.1 h1.2
    have h3 := ih (by omega)
    exact ⟨by show k + 1 ≤ nx (pos nx k); omega, h2.2⟩
theorem gl_bad {nx : Nat → Nat} {ok : Nat → Prop} {n m k : Nat} (h : Steps1 nx ok n) (hm : LEnds nx ok n m) (hp : pos nx k < n) (ho : ¬ ok (pos nx k)) (hk : k ≤ m) : pos nx m < n := by
  by_cases e : k = m
  · subst e; exact hp
  · exact absurd (hm.1 k (by omega)).2 ho
theorem gl_good {nx : Nat → Nat} {ok : Nat → Prop} {n m k : Nat} (h : Steps1 nx ok n) (hm : LEnds nx ok n m) (hp : pos nx k = n) (hk : k ≤ m) : k = m := by
  by_cases e : k = m
  · exact e
  · have := (hm.1 k (by omega)).1; omega
theorem cell_far2 (W : World) (g g' : Nat) (v : Value) (h : g' ≠ g) : (W.setCell ⟨g, 0, none⟩ v).cell? ⟨g', 0, none⟩ = W.cell? ⟨g', 0, none⟩ := by
  have hb := Below.heap_setCell W ⟨g, 0, none⟩ v g' h
  have h1 : ∀ (A B : World), A.heap[g']? = B.heap[g']? → A.cell? ⟨g', 0, none⟩ = B.cell? ⟨g', 0, none⟩ := by
    intro A B e
    unfold World.cell?
    simp only [e]
  exact h1 _ _ hb
theorem own_far2 {w : World} {base s m : Nat} {e : TypeId} {v : Value} {xs : List Value} (h : w.ownsRow base e s v m xs) (g j : Nat) (u : Value) (hg : g < base) : (w.setCell ⟨g, j, none⟩ u).ownsRow base e s v m xs := by
  refine ⟨h.1, ?_⟩
  rcases h.2 with h | ⟨k, cap, cur, hv, hgl, hc, r⟩
  · exact .inl h
  · exact .inr ⟨k, cap, cur, hv, hgl, (Below.heap_setCell w ⟨g, j, none⟩ u k (by show k ≠ g; omega)).trans hc, r⟩
theorem blk_news {w : World} {b : Nat} {cs : Array Value} {t : TypeId} (h : w.heap[b]? = some (.cells cs t (0, 0))) : ∀ j u, cs.toList[j]? = some u → w.cell? ((⟨b, 0, none⟩ : Addr).add j) = some u := by
  intro j u hu
  rw [add_none, Nat.zero_add, cell_of_row w b j _ _ _ h]
  simpa using hu
/-- what a reader of one thing does -/
def Reads (f : FuncId) (C : Nat → Array Value) (nx : Nat → Nat) (ok : Nat → Prop) (b off n c : Nat) (z : Nat → Int) : Prop :=
  ∀ (R p : Nat) (W : World), RS W R b off n c p → Row8 W b off n z → b ≠ R → p < n → Calls Try.prog f #[.pointer (some ⟨R, 0, none⟩)] W fun e W' =>
    (ok p ∧ e = .returned (.agg (C p)) ∧ RS W' R b off n c (nx p) ∧ W.grownBy W' (some R)) ∨ (¬ ok p ∧ e = .panicked [flt] ∧ W.grownBy W' (some R))
theorem results_le {fn : Func} {p u : Tmp} {tl : TypeId} (h : fn.results = #[.cell p tl, .cell u 32]) (hd : ∀ (W : World) (g : Nat) (v : Value), W.cell? ⟨g, 0, none⟩ = some v → (loadVar tl ⟨g, 0, none⟩).run Try.prog W = .ok v W) (tmps : Array Value) (W : World) (g g' : Nat) (v : Value) (n : Int)
    (hp : tmps.getD p undef = .pointer (some ⟨g, 0, none⟩)) (hu : tmps.getD u undef = .pointer (some ⟨g', 0, none⟩)) (hg : W.cell? ⟨g, 0, none⟩ = some v) (hc : W.cell? ⟨g', 0, none⟩ = some (.int .i64 n)) :
    (results fn tmps).run Try.prog W = .ok (.tuple #[v, .int .i64 n]) W := by
  have h1 := hd W g v hg
  have h2 : (loadVar 32 ⟨g', 0, none⟩).run Try.prog W = .ok (.int .i64 n) W := by simp [go_sem, hc]
  have h3 : (results fn tmps).run Try.prog W =
      ((asAddr (tmps.getD p undef)).run Try.prog W).andThen fun a w₁ => ((loadVar tl a).run Try.prog w₁).andThen fun v w₂ => ((asAddr (tmps.getD u undef)).run Try.prog w₂).andThen fun a' w₃ => ((loadVar 32 a').run Try.prog w₃).andThen fun v' w₄ => .ok (.tuple #[v, v']) w₄ := by
    simp only [results, h]
    simp [Sem.run_bind, Result.andThen]
  rw [h3, hp, hu]
  simp [asAddr, h1, h2, Result.andThen]
theorem leaves_congr {P : Program} {fn : Func} {tmps tmps' : Array Value} {R : Ending → World → Prop} (h : ∀ w, (results fn tmps).run P w = (results fn tmps').run P w) :
    ∀ (ds : List Deferred) (u : FrameMode) (w : World), Leaves P fn tmps R ds u w → Leaves P fn tmps' R ds u w := by
  intro ds
  induction ds with
  | nil =>
    intro u w hl
    cases u with
    | run => exact hl
    | returning => obtain ⟨v, h1, h2⟩ := hl; exact ⟨v, by rw [← h]; exact h1, h2⟩
    | panicking c => exact hl
  | cons d ds ih =>
    intro u w hl
    obtain ⟨h1, fv, cap, f, args, h2, h3, h4⟩ := hl
    refine ⟨h1, fv, cap, f, args, h2, h3, h4.mono ?_⟩
    intro e u' w' he
    cases e with
    | returned v => exact ih _ _ he
    | panicked c => exact ih _ _ he
    | outgrown => exact he
/-- what a panic finds doesn't hang on a scratch slot -/
theorem panic_put {P : Program} {fn : Func} {p u d : Tmp} {tl te : TypeId} (h : fn.results = #[.cell p tl, .cell u te]) (hp : d ≠ p) (hu : d ≠ u) {R : Ending → World → Prop} {c : List PanicEntry} {a : Act} {v : Value} {w : World}
    (hq : bodyPostD P fn R (.panic c) (a.put (some d) v) w) : bodyPostD P fn R (.panic c) a w := by
  refine leaves_congr (fun w => ?_) _ _ _ hq
  simp only [results, h]
  simp [hp, hu, Act.put, Array.getElem?_setIfInBounds]
/-- a panic goes through the only deferred closure -/
theorem panicD {P : Program} {fn : Func} {R : Ending → World → Prop} {chain : List PanicEntry} {a : Act} {w : World} {fv : Fn} {cap dargs : Array Value} {f : FuncId} {args : Array Value}
    (hd : a.defers = [{ target := .fn fv cap, args := dargs }]) (hi : (invoke (.fn fv cap) dargs).run P w = .ok (.enter f args) w)
    (h : CallsD P f args (.panicking chain) w fun e u' w' => ∃ v, e = .returned v ∧ settle u' = .returning ∧ ∃ r, (results fn a.tmps).run P w' = .ok r w' ∧ R (.returned r) w') : bodyPostD P fn R (.panic chain) a w := by
  show Leaves P fn a.tmps R a.defers (.panicking chain) w
  rw [hd]
  refine leaves_cons (by simp) hi (h.mono ?_)
  rintro e u' w' ⟨v, rfl, hs, r, h1, h2⟩
  show Leaves P fn a.tmps R [] (settle u') w'
  rw [hs]
  exact ⟨r, h1, h2⟩
/-- cells laid one by one over as many -/
theorem fold_set {α : Type} (X A : Array α) (n : Nat) (hX : X.size = n) (hA : A.size = n) : Array.foldl (fun cs (x : α × Nat) => cs.setIfInBounds x.snd x.fst) A X.zipIdx 0 n = X := by
  have hz : X.zipIdx.size = n := by simpa using hX
  have key : (Array.foldl (fun cs (x : α × Nat) => cs.setIfInBounds x.snd x.fst) A X.zipIdx).size = n ∧ ∀ j, j < X.zipIdx.size → (Array.foldl (fun cs (x : α × Nat) => cs.setIfInBounds x.snd x.fst) A X.zipIdx)[j]? = X[j]? := by
    refine Array.foldl_induction (motive := fun (i : Nat) (acc : Array α) => acc.size = n ∧ ∀ j, j < i → acc[j]? = X[j]?) ⟨hA, fun j hj => by omega⟩ (fun i b hb => ?_)
    refine ⟨by simpa using hb.1, fun j hj => ?_⟩
    have hi : i.1 < X.size := by have := i.2; simpa using this
    simp only [Fin.getElem_fin, Array.getElem_zipIdx, Nat.zero_add]
    rw [Array.getElem?_setIfInBounds]
    by_cases e : i.1 = j
    · subst e
      rw [if_pos rfl, if_pos (by rw [hb.1]; omega), Array.getElem?_eq_getElem hi]
    · rw [if_neg e]
      exact hb.2 j (by omega)
  rw [hz] at key
  apply Array.ext_getElem?
  intro j
  by_cases hj : j < n
  · exact key.2 j hj
  · rw [Array.getElem?_eq_none (by omega), Array.getElem?_eq_none (by omega)]
section
variable {P : Program} {ops : Array Oper} {Q : Exit → Act → World → Prop} {md : Region.Mode} {S : World → Prop}
/-- one alone may come up: it yields v and turns the world -/
theorem takeV {i : Nat} {oi : Oper} (d : Option Tmp) {v : Value} {w' : World} {fuel : Nat} {listed : Array Bool} {a : Act} {w : World} (hi : ops[i]? = some oi) (hd : oi.dst = d)
    (hr : Region.ready md ops listed = [i]) (hw : Region.wanted oi (yielded ops a.tmps) = true) (hx : (execOp a.eval oi).run P w = .ok (.value v) w')
    (hS : S w') (h : wpAnyH P md ops Q S fuel (listed.setIfInBounds i true) (a.put d v) w') : wpAnyH P md ops Q S (fuel + 1) listed a w := by
  subst hd
  refine wpAnyH_ready hr (by simp) (AllReadyH.cons hi (fun K hK => ?_) AllReadyH.nil)
  rw [if_pos hw]
  unfold Oper.wp
  rw [hx, Oper.upon_value]
  exact hK.out _ _ hS (fun _ => h)
/-- of several that may come up: one that yields v and turns the world -/
theorem consW {i : Nat} {oi : Oper} (d : Option Tmp) {v : Value} {w' : World} {rs : List Nat} {fuel : Nat} {listed : Array Bool} {a : Act} {w : World} (hi : ops[i]? = some oi) (hd : oi.dst = d)
    (hw : Region.wanted oi (yielded ops a.tmps) = true) (hx : (execOp a.eval oi).run P w = .ok (.value v) w') (hS : S w')
    (h : wpAnyH P md ops Q S fuel (listed.setIfInBounds i true) (a.put d v) w') (hs : AllReadyH P md ops Q S fuel listed a w rs) : AllReadyH P md ops Q S fuel listed a w (i :: rs) := by
  subst hd
  refine AllReadyH.cons hi (fun K hK => ?_) hs
  rw [if_pos hw]
  unfold Oper.wp
  rw [hx, Oper.upon_value]
  exact hK.out _ _ hS (fun _ => h)
/-- of several that may come up: a call that may panic -/
theorem consE {i : Nat} {oi : Oper} (d : Option Tmp) (f : FuncId) (args : Array Value) {R : Ending → World → Prop} {rs : List Nat} {fuel : Nat} {listed : Array Bool} {a : Act} {w : World} (hi : ops[i]? = some oi) (hd : oi.dst = d)
    (hw : Region.wanted oi (yielded ops a.tmps) = true) (hx : (execOp a.eval oi).run P w = .ok (.enter f args) w)
    (hc : Calls P f args w R) (hS : ∀ v w', R (.returned v) w' → S w') (hout : ∀ w', ¬ R .outgrown w')
    (h : ∀ v w', R (.returned v) w' → S w' → wpAnyH P md ops Q S fuel (listed.setIfInBounds i true) (a.put d v) w') (hp : ∀ c w', R (.panicked c) w' → Q (.panic c) a w')
    (hs : AllReadyH P md ops Q S fuel listed a w rs) : AllReadyH P md ops Q S fuel listed a w (i :: rs) := by
  subst hd
  refine AllReadyH.cons hi (fun K hK => ?_) hs
  rw [if_pos hw]
  unfold Oper.wp
  rw [hx, Oper.upon_enter]
  refine hc.mono ?_
  intro e w' hR
  cases e with
  | returned v => exact hK.out _ _ (hS v w' hR) (h v w' hR)
  | panicked c => exact hp c w' hR
  | outgrown => exact absurd hR (hout w')
end
end Go.Proofs.Ytplfilghhgdffaa
