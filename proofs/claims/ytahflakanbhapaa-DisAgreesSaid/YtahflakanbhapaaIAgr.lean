/- A row of members whose single cells are written; an append in a region whose order is drawn. Each theorem states its conditions. -/
import Derived.Test.YtahflakanbhapaaIRot
namespace Go.Proofs.Ytahflakanbhapaa
open Go.RowKit
set_option linter.unusedVariables false

/-- the first n members that the cells hold -/
def MbRow (cur : Array Value) (L : Nat → Mb) (n : Nat) : Prop := ∀ j, j < n → ∀ x, x < 14 → cur[j * 14 + x]? = (mbC (L j))[x]?
theorem MbRow.cell {cur : Array Value} {L : Nat → Mb} {n g : Nat} {t : TypeId} {w : World} (h : MbRow cur L n) (hB : Blk t w g cur) (j x : Nat) (hj : j < n) (hx : x < 14) : w.cell? ⟨g, j * 14 + x, none⟩ = (mbC (L j))[x]? := by
  rw [hB.cell]; exact h j hj x hx
theorem MbRow.rd {cur : Array Value} {L : Nat → Mb} {n g : Nat} {t : TypeId} {w : World} (h : MbRow cur L n) (hB : Blk t w g cur) : RdR w (some ⟨g, 0, none⟩) n 14 (mbA L) := by
  refine .inr ⟨g, 0, rfl, hB.lt, fun j hj x u hu => ?_⟩
  have hx : x < 14 := by
    rcases Nat.lt_or_ge x 14 with h | h
    · exact h
    · rw [List.getElem?_eq_none (by rw [Array.length_toList]; exact h)] at hu; cases hu
  rw [Nat.zero_add, h.cell hB j x hj hx, ← Array.getElem?_toList]
  exact hu
theorem MbRow.range {cur : Array Value} {L : Nat → Mb} {n g : Nat} {t : TypeId} {w : World} (h : MbRow cur L n) (hB : Blk t w g cur) (j : Nat) (hj : j < n) : w.rangeAt g (j * 14) (mbC (L j)).toList := by
  rcases h.rd hB with h | ⟨b, o, e, h1, h2⟩
  · omega
  · injection e with e
    injection e with e1 e2
    subst e1 e2
    have := h2 j hj
    rwa [Nat.zero_add] at this
theorem MbRow.fit {cur : Array Value} {L : Nat → Mb} {n : Nat} (h : MbRow cur L n) (j x : Nat) (hj : j < n) (hx : x < 14) : j * 14 + x < cur.size := by
  rcases Nat.lt_or_ge (j * 14 + x) cur.size with h1 | h1
  · exact h1
  · have := h j hj x hx
    rw [Array.getElem?_eq_none h1, Array.getElem?_eq_getElem (by exact hx)] at this
    cases this
theorem MbRow.set {cur : Array Value} {L L' : Nat → Mb} {n : Nat} (h : MbRow cur L n) (k i : Nat) (hk : k < n) (hi : i < 14) (v : Value) (hL : ∀ j, j < n → j ≠ k → L' j = L j) (hv : (mbC (L' k))[i]? = some v) (ho : ∀ x, x < 14 → x ≠ i → (mbC (L' k))[x]? = (mbC (L k))[x]?) :
    MbRow (cur.setIfInBounds (k * 14 + i) v) L' n := by
  intro j hj x hx
  rw [Array.getElem?_setIfInBounds]
  by_cases e : k * 14 + i = j * 14 + x
  · obtain rfl : j = k := by omega
    obtain rfl : x = i := by omega
    rw [if_pos rfl, if_pos (h.fit j x hj hx), hv]
  · rw [if_neg e, h j hj x hx]
    by_cases ej : j = k
    · subst ej
      exact (ho x hx (fun e9 => e (by rw [e9]))).symm
    · rw [hL j hj ej]
/-- the law's list is a row of members in a block of its own -/
theorem own_mbrow {w : World} {base n : Nat} {v : Value} {L : Nat → Mb} (h : OwnR w base 40 14 v (n + 1) (fullM L n)) :
    ∃ g cap cur, v = .slice (some ⟨g, 0, none⟩) (n + 1) cap ∧ base ≤ g ∧ Blk 40 w g cur ∧ n + 1 ≤ cap ∧ cap ≤ maxLen ∧ MbRow cur L n := by
  rcases h.2 with ⟨_, h0⟩ | ⟨g, cap, cur, hv, hb, hc, h1, h2, h3, h4⟩
  · omega
  refine ⟨g, cap, cur, hv, hb, hc, h1, h2, fun j hj x hx => ?_⟩
  have e9 := cellsR_at (recs_full L n) (n + 1) j x (by omega) hx
  rw [← h4, List.getElem?_take_of_lt (by omega), Array.getElem?_toList] at e9
  rw [e9]
  show (catR (mbA L) n (fun _ => mbC mb77) j)[x]? = _
  rw [catR_lo _ _ _ _ hj]
  rfl
theorem capM_zero {c : Array Value} (L : Nat → Mb) (n : Nat) : MbRow c L n → MbRow c (capM L 0) n := by
  intro h j hj x hx
  rw [h j hj x hx]
  unfold capM
  rw [if_neg (Nat.not_lt_zero _)]
theorem capM_next {cur : Array Value} {L : Nat → Mb} {n k : Nat} (h : MbRow cur (capM L k) n) (hk : k < n) (p : Int) (hp : p = if 126 < (L k).pr then 126 else (L k).pr) : MbRow (cur.setIfInBounds (k * 14 + 12) (.int .u8 p)) (capM L (k + 1)) n := by
  subst hp
  have e1 : capM L (k + 1) k = prM (L k) (if 126 < (L k).pr then 126 else (L k).pr) := by unfold capM; rw [if_pos (Nat.lt_succ_self k)]
  have e2 : capM L k k = L k := by unfold capM; rw [if_neg (Nat.lt_irrefl k)]
  refine h.set k 12 hk (by omega) _ (fun j hj e => ?_) (by rw [e1]; rfl) (fun x hx e => ?_)
  · unfold capM
    by_cases h1 : j < k
    · rw [if_pos h1, if_pos (by omega)]
    · rw [if_neg h1, if_neg (by omega)]
  · rw [e1, e2]
    rcases (by omega : x = 0 ∨ x = 1 ∨ x = 2 ∨ x = 3 ∨ x = 4 ∨ x = 5 ∨ x = 6 ∨ x = 7 ∨ x = 8 ∨ x = 9 ∨ x = 10 ∨ x = 11 ∨ x = 13) with rfl | rfl | rfl | rfl | rfl | rfl | rfl | rfl | rfl | rfl | rfl | rfl | rfl <;> rfl
theorem topM_next {cur : Array Value} {L : Nat → Mb} {n t : Nat} (h : MbRow cur (capM L n) n) (ht : t < n) : MbRow ((cur.setIfInBounds (t * 14 + 12) (.int .u8 127)).setIfInBounds (t * 14 + 13) (.bool true)) (topM L n t) n := by
  obtain ⟨M, hM⟩ : ∃ M : Nat → Mb, M = fun j => if j = t then prM (L j) 127 else capM L n j := ⟨_, rfl⟩
  have e0 : M t = prM (L t) 127 := by rw [hM]; show (if t = t then _ else _) = _; rw [if_pos rfl]
  have e1 : capM L n t = prM (L t) (if 126 < (L t).pr then 126 else (L t).pr) := by unfold capM; rw [if_pos ht]
  have e2 : topM L n t t = ⟨(L t).s, (L t).k, 127, true⟩ := by unfold topM; rw [if_pos rfl]
  have h1 : MbRow (cur.setIfInBounds (t * 14 + 12) (.int .u8 127)) M n := by
    refine h.set t 12 ht (by omega) _ (fun j hj e => ?_) (by rw [e0]; rfl) (fun x hx e => ?_)
    · rw [hM]; show (if j = t then _ else _) = _; rw [if_neg e]
    · rw [e0, e1]
      rcases (by omega : x = 0 ∨ x = 1 ∨ x = 2 ∨ x = 3 ∨ x = 4 ∨ x = 5 ∨ x = 6 ∨ x = 7 ∨ x = 8 ∨ x = 9 ∨ x = 10 ∨ x = 11 ∨ x = 13) with rfl | rfl | rfl | rfl | rfl | rfl | rfl | rfl | rfl | rfl | rfl | rfl | rfl <;> rfl
  refine h1.set t 13 ht (by omega) _ (fun j hj e => ?_) (by rw [e2]; rfl) (fun x hx e => ?_)
  · rw [hM]; unfold topM; show _ = (if j = t then _ else _); rw [if_neg e, if_neg e]
  · rw [e0, e2]
    rcases (by omega : x = 0 ∨ x = 1 ∨ x = 2 ∨ x = 3 ∨ x = 4 ∨ x = 5 ∨ x = 6 ∨ x = 7 ∨ x = 8 ∨ x = 9 ∨ x = 10 ∨ x = 11 ∨ x = 12) with rfl | rfl | rfl | rfl | rfl | rfl | rfl | rfl | rfl | rfl | rfl | rfl | rfl <;> rfl
/-- what stands from place k on -/
theorem RdR.from {w : World} {b off n s : Nat} {C : Nat → Array Value} (h : RdR w (some ⟨b, off, none⟩) n s C) (k : Nat) (hk : k ≤ n) : RdR w (some ⟨b, off + k * s, none⟩) (n - k) s (fun j => C (k + j)) := by
  rcases h with rfl | ⟨b', o', e, h1, h2⟩
  · exact .inl (by omega)
  · injection e with e
    injection e with e1 e2
    subst e1 e2
    refine .inr ⟨b, off + k * s, rfl, h1, fun j hj => ?_⟩
    have := h2 (k + j) (by omega)
    rwa [Nat.add_mul, ← Nat.add_assoc] at this
section
variable {ops : Array Oper} {Q : Exit → Act → World → Prop} {md : Region.Mode} {S : World → Prop}
/-- an append of a list of records to a list of the call's own, where it alone may come up -/
theorem takeA {i : Nat} {oi : Oper} (d : Option Tmp) {fuel : Nat} {listed : Array Bool} {a : Act} {w : World} (T E : TypeId) (s bs : Nat) (z : Value) (hT : Try.prog.underlying T = some (.slice E)) (hI : (Try.prog.info? E).map (fun i => (i.zero, i.size, i.bytes)) = some (some z, s, bs)) (hzs : z.cells.size = s) (hs0 : 0 < s)
    (hi : ops[i]? = some oi) (hd : oi.dst = d) (hr : Region.ready md ops listed = [i]) (hw : Region.wanted oi (yielded ops a.tmps) = true) (y x : Operand) (ho : oi.op = .call { callee := .builtin .append, args := #[y, x], argTypes := #[T, T] })
    (w0 : World) (v : Value) (n : Nat) (C : Nat → Array Value) (hs : a.eval y = v) (hown : OwnR w w0.heap.size E s v n C) (hb : Below w0.heap.size w0 w)
    (ad : Addr) (m c : Nat) (D : Nat → Array Value) (hx : a.eval x = .slice (some ad) m c) (hR : RdR w (some ad) m s D) (hD : Recs s D) (h63 : n + m ≤ maxLen) (hbd : (n + m) * bs ≤ 140737488355328)
    (h : ∀ v' w', OwnR w' w0.heap.size E s v' (n + m) (catR C n D) → Below w0.heap.size w0 w' → S w' ∧ wpAnyH Try.prog md ops Q S fuel (listed.setIfInBounds i true) (a.put d v') w') :
    wpAnyH Try.prog md ops Q S (fuel + 1) listed a w := by
  obtain ⟨i0, hi0, hz0, hz1, hz2⟩ := info_parts hI
  obtain ⟨v', w', hrun, h2, h3, h4, h5⟩ := run_append_own_at (P := Try.prog) w w0.heap.size T oi.type E i0 z s bs hT hi0 hz0 hz1 hz2 hzs hs0 v n _ hown ad m c (cellsR D m) (cellsR_len hD m) (recs_news hD hs0 hR) (cellsR_one hD m) h63 hbd hb.size
  rw [cellsR_cat] at h2
  obtain ⟨g1, g2⟩ := h v' w' h2 (hb.grown h3 hb.size (fun k e => (hown.lt k e).1))
  refine takeV d hi hd hr hw ?_ g1 g2
  unfold execOp
  simp only [ho, resolve, invoke, builtin, Sem.run_bind, Sem.run_pure, Result.andThen_ok, List.map_toArray, List.map_cons, List.map_nil, hs, hx, hrun]
end
/-- a slice of nothing is made -/
theorem bs_none (W : World) (o : Oper) (e : Operand → Value) (ho : o.op = .buildSlice 24 0 #[]) :
    (execOp e o).run Try.prog W = .ok (.value (.slice (some ⟨W.heap.size, 0, none⟩) 0 0)) (W.alloc (.cells #[] 40)) := by
  unfold execOp
  simp only [ho]
  kernel_rfl
theorem own_none {w : World} {N base : Nat} (C : Nat → Array Value) (h : Blk 40 w N #[]) (hb : base ≤ N) : OwnR w base 40 14 (.slice (some ⟨N, 0, none⟩) 0 0) 0 C :=
  ⟨by simp [cellsR], .inr ⟨N, 0, #[], rfl, hb, h, Nat.le_refl _, Nat.zero_le _, rfl, rfl⟩⟩
/-- a slice of nothing is made, where that alone may come up -/
theorem takeB {ops : Array Oper} {Q : Exit → Act → World → Prop} {md : Region.Mode} {S : World → Prop} {i : Nat} {oi : Oper} (d : Option Tmp) {fuel : Nat} {listed : Array Bool} {a : Act} {w : World} (hi : ops[i]? = some oi) (hd : oi.dst = d)
    (hr : Region.ready md ops listed = [i]) (hw : Region.wanted oi (yielded ops a.tmps) = true) (ho : oi.op = .buildSlice 24 0 #[]) (N : Nat) (hN : w.heap.size = N)
    (h : ∀ w', Blk 40 w' N #[] → Below w.heap.size w w' → S w' ∧ wpAnyH Try.prog md ops Q S fuel (listed.setIfInBounds i true) (a.put d (.slice (some ⟨N, 0, none⟩) 0 0)) w') : wpAnyH Try.prog md ops Q S (fuel + 1) listed a w := by
  subst hN
  obtain ⟨h1, h2⟩ := h _ (heap_alloc_new w _) ((Below.refl _ _).alloc (Nat.le_refl _) _)
  exact takeV d hi hd hr hw (bs_none w oi a.eval ho) h1 h2
/-- both appends together are the list turned -/
theorem rot_cells (L : Nat → Mb) (C : Nat → Array Value) (n k : Nat) : ∀ j, catR (catR C 0 (fun j => mbA L (k + j))) (0 + (n - k)) (mbA L) j = mbA (rotL L n k) j := by
  intro j
  unfold catR mbA rotL
  rw [Nat.zero_add]
  by_cases h : j < n - k
  · rw [if_pos h, if_pos h, if_neg (Nat.not_lt_zero _), Nat.sub_zero]
  · rw [if_neg h, if_neg h]
/-- the two that speak are one -/
theorem chk_rot {L : Nat → Mb} {n k : Nat} {r : Int} (hn : n ≤ 64) (hk : k < n) (hp : ∀ j, j < n → ¬ 127 < (L j).pr) (h : chkM (rotL L n k) n r) : r = 0 := by
  refine chkM_unique h (.inr ⟨fun j hj => ?_, .inr ⟨hn, rfl⟩⟩)
  rw [rot_at L n k j hk hj]
  exact hp _ (Nat.mod_lt _ (by omega))
theorem rot_ok {L : Nat → Mb} (hOk : ∀ j, MbOk (L j)) (n k : Nat) : ∀ j, MbOk (rotL L n k j) := by
  intro j; unfold rotL; split <;> exact hOk _
theorem turn_small {x : Int} {k : Nat} (hk : 0 < k) (hk2 : k ≤ 40) : ∃ K : Nat, K < k ∧ wrap64 ((IntKind.u64.wrap x).tmod k) = K := by
  obtain ⟨y, hy⟩ : ∃ y, IntKind.u64.wrap x = y := ⟨_, rfl⟩
  have h0 : 0 ≤ y := by rw [← hy]; simp [IntKind.wrap, IntKind.bits, IntKind.signed]; omega
  rw [hy, Int.tmod_eq_emod_of_nonneg h0]
  have h1 := Int.emod_nonneg y (show (k : Int) ≠ 0 by omega)
  have h2 := Int.emod_lt_of_pos y (show 0 < (k : Int) by omega)
  generalize y % (k : Int) = r at h1 h2
  refine ⟨r.toNat, by omega, ?_⟩
  rw [show ((r.toNat : Nat) : Int) = r by omega]
  simp [wrap64, IntKind.wrap, IntKind.bits, IntKind.signed]; omega
theorem top_small {x : Int} {k : Nat} (hx : 0 ≤ x) (hk : 0 < k) : ∃ K : Nat, K < k ∧ x.tmod k = K := by
  rw [Int.tmod_eq_emod_of_nonneg hx]
  have h1 := Int.emod_nonneg x (show (k : Int) ≠ 0 by omega)
  have h2 := Int.emod_lt_of_pos x (show 0 < (k : Int) by omega)
  generalize x % (k : Int) = r at h1 h2
  exact ⟨r.toNat, by omega, by omega⟩
theorem one_int (k : IntKind) (n : Int) : (#[Value.int k n] : Array Value).all (·.oneCell') = true := by kernel_rfl
theorem one_bool (b : Bool) : (#[Value.bool b] : Array Value).all (·.oneCell') = true := by kernel_rfl
theorem fit1 {o n : Nat} {v : Value} (h : o < n) : o + (#[v] : Array Value).size ≤ n := h
theorem infoU8 : (Try.prog.info? 5).map (·.size) = some 1 := by kernel_rfl
theorem infoBool : (Try.prog.info? 4).map (·.size) = some 1 := by kernel_rfl
end Go.Proofs.Ytahflakanbhapaa
