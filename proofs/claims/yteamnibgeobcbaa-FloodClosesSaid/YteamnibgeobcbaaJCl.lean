/- The lists that were; a slice's first part; what a circuit that was opened anew has to send. Each theorem states its conditions. -/
import Derived.Test.YteamnibgeobcbaaJMs
namespace Go.Proofs.Yteamnibgeobcbaa
open Go.RowKit
set_option linter.unusedVariables false

/-- all but rows of lists stands as it was -/
def KeptB (w w' : World) : Prop := w.heap.size ≤ w'.heap.size ∧ ∀ (k : Nat) (o : Obj), w.heap[k]? = some o → (∀ C f, o ≠ .cells C 35 f) → w'.heap[k]? = some o
theorem Blk.keptB {t : TypeId} {w w' : World} {g : Nat} {C : Array Value} (h : Blk t w g C) (hk : KeptB w w') (ht : (t == 35) = false) : Blk t w' g C := hk.2 g _ h (fun C f e => by
  cases e
  simp at ht)
theorem SetAt.keptB {w w' : World} {b k : Nat} {S : Nat → Bool} (h : SetAt w b S k) (hk : KeptB w w') : SetAt w' b S k := by
  have h9 := h
  obtain ⟨es, cl, h0, _⟩ := h9
  exact h.at (by rw [hk.2 b _ h0 (fun C f e => by cases e), h0])
theorem FlAt.keptB {w w' : World} {B g ga n k : Nat} {F : Nat → Option Cir} (h : FlAt w B g ga n F k) (hk : KeptB w w') : FlAt w' B g ga n F k :=
  ⟨h.hg, h.ha, h.hn, h.g.keptB hk (by decide), h.a.keptB hk (by decide), fun i c hi e => by
    have hc := h.cir i c hi e
    exact ⟨hc.hc, hc.hs, hc.hm, hc.ne, hc.blk.keptB hk (by decide), hc.send.keptB hk, hc.sum.keptB hk⟩, h.far⟩
theorem OwnR.keptB {w w' : World} {base s m : Nat} {e : TypeId} {v : Value} {C : Nat → Array Value} (h : OwnR w base e s v m C) (hk : KeptB w w') (ht : (e == 35) = false) : OwnR w' base e s v m C := by
  refine ⟨h.1, ?_⟩
  rcases h.2 with h | ⟨g, cap, cur, hv, hg, hc, r⟩
  · exact .inl h
  · exact .inr ⟨g, cap, cur, hv, hg, hk.2 g _ hc (fun C f e => by cases e; simp at ht), r⟩
theorem LstAt.keptB {w w' : World} {base k : Nat} {S : Nat → Bool} {v : Value} {T : List IdT} (h : LstAt w base S k v T) (hk : KeptB w w') : LstAt w' base S k v T := ⟨h.1.keptB hk (by decide), h.2⟩
theorem LstAt.base {w : World} {base base' k : Nat} {S : Nat → Bool} {v : Value} {T : List IdT} (h : LstAt w base S k v T) (hb : base' ≤ base) : LstAt w base' S k v T := ⟨h.1.mono hb, h.2⟩
theorem keptB_app {w w' : World} {base m : Nat} {v : Value} {C : Nat → Array Value} (h : OwnR w base 35 1 v m C) (h1 : ∀ k, k < w.heap.size → v.ownBlock ≠ some k → w'.heap[k]? = w.heap[k]?) (h2 : w.heap.size ≤ w'.heap.size) : KeptB w w' := by
  refine ⟨h2, fun k o ho hn => ?_⟩
  have hlt : k < w.heap.size := (Array.getElem?_eq_some_iff.1 ho).1
  rw [h1 k hlt ?_, ho]
  intro e
  rcases h.2 with ⟨h3, _⟩ | ⟨g, cap, cur, hv, hg, hc, r⟩
  · rw [h3] at e; simp [Value.ownBlock] at e
  · rw [hv] at e
    simp [Value.ownBlock] at e
    subst e
    rw [ho] at hc
    exact hn _ _ (Option.some.inj hc)
theorem KeptB.of_below {w w' : World} (h : Below w.heap.size w w') : KeptB w w' := ⟨h.size, fun k o hk _ => (h.block k (Array.getElem?_eq_some_iff.1 hk).1).trans hk⟩
/-- the lists of the first q circuits as they were -/
def WasAt (w : World) (base k : Nat) (F : Nat → Option Cir) (v : Value) (q : Nat) : Prop :=
  ∃ V : Nat → Value × List IdT, OwnR w base 35 1 v q (fun i => #[(V i).1]) ∧ ∀ i, i < q → ∃ d, F i = some d ∧ LstAt w base d.send k (V i).1 (V i).2
theorem WasAt.nil (w : World) (base k : Nat) (F : Nat → Option Cir) : WasAt w base k F (.slice none 0 0) 0 := ⟨fun _ => (undef, []), OwnR.nil _ _ _ _ _, fun i hi => by omega⟩
theorem WasAt.kept {w w' : World} {base k q : Nat} {F : Nat → Option Cir} {v : Value} (h : WasAt w base k F v q) (hk : KeptT w w') : WasAt w' base k F v q := by
  obtain ⟨V, h1, h2⟩ := h
  exact ⟨V, h1.kept hk (by decide), fun i hi => by obtain ⟨d, h3, h4⟩ := h2 i hi; exact ⟨d, h3, h4.kept hk⟩⟩
theorem WasAt.below {w w' : World} {base k q : Nat} {F : Nat → Option Cir} {v : Value} (h : WasAt w base k F v q) (hb : Below w.heap.size w w') : WasAt w' base k F v q := h.kept (KeptT.of_below hb)
theorem was_step {w w' : World} {base k q : Nat} {F : Nat → Option Cir} {v' v1 : Value} {T : List IdT} {d : Cir} (V : Nat → Value × List IdT) (h2 : ∀ i, i < q → ∃ d, F i = some d ∧ LstAt w base d.send k (V i).1 (V i).2) (hk : KeptB w w') (hd : F q = some d) (hl : LstAt w base d.send k v1 T)
    (hn : OwnR w' base 35 1 v' (q + 1) (catR (fun i => #[(V i).1]) q (fun _ => #[v1]))) : WasAt w' base k F v' (q + 1) := by
  refine ⟨fun i => if i = q then (v1, T) else V i, hn.congr (fun j hj => ?_), fun i hi => ?_⟩
  · by_cases e : j = q
    · subst e; unfold catR; rw [if_neg (by omega)]; simp
    · rw [catR_lo _ _ _ _ (by omega)]; simp [e]
  · by_cases e : i = q
    · subst e; exact ⟨d, hd, by simpa using hl.keptB hk⟩
    · obtain ⟨d', h3, h4⟩ := h2 i (by omega)
      exact ⟨d', h3, by simpa [e] using h4.keptB hk⟩
/-- the same lists, with one value for those that are not there -/
theorem was_recs {w : World} {base k q : Nat} {F : Nat → Option Cir} {v : Value} (h : WasAt w base k F v q) : ∃ V : Nat → Value × List IdT, Recs 1 (fun i => #[(V i).1]) ∧ OwnR w base 35 1 v q (fun i => #[(V i).1]) ∧ ∀ i, i < q → ∃ d A c, F i = some d ∧ (V i).1 = .slice A (V i).2.length c ∧ LstAt w base d.send k (V i).1 (V i).2 := by
  obtain ⟨V, h1, h2⟩ := h
  have h3 : ∀ i, i < q → ∃ A c, (V i).1 = .slice A (V i).2.length c := fun i hi => by
    obtain ⟨d, _, hl⟩ := h2 i hi
    obtain ⟨A, c, e, _⟩ := hl.1.slice (recs_idt _)
    exact ⟨A, c, e⟩
  refine ⟨fun i => if i < q then V i else (.slice none 0 0, []), fun j => ⟨rfl, fun u hu => ?_⟩, h1.congr (fun j hj => by simp [hj]), fun i hi => ?_⟩
  · simp at hu
    rw [hu]
    by_cases hj : j < q
    · obtain ⟨A, c, e⟩ := h3 j hj
      simp only [if_pos hj, e]
      rfl
    · simp only [if_neg hj]
      rfl
  · obtain ⟨d, hd, hl⟩ := h2 i hi
    obtain ⟨A, c, e⟩ := h3 i hi
    exact ⟨d, A, c, hd, by simpa [hi] using e, by simpa [hi] using hl⟩
theorem was_shape {w : World} {base k q : Nat} {F : Nat → Option Cir} {v : Value} (h : WasAt w base k F v q) (hq : 0 < q) : ∃ b o c, v = .slice (some ⟨b, o, none⟩) q c ∧ q ≤ c := by
  obtain ⟨V, h1, h2, _⟩ := was_recs h
  obtain ⟨A, c, rfl, hc, _, _, hr⟩ := h2.shape h1 (by decide)
  obtain ⟨b, o, rfl, _⟩ := hr.row hq
  exact ⟨b, o, c, rfl, hc⟩
theorem was_get {w : World} {base k q b o c : Nat} {F : Nat → Option Cir} (h : WasAt w base k F (.slice (some ⟨b, o, none⟩) q c) q) (i : Nat) (hi : i < q) : ∃ d A c' T, F i = some d ∧ w.cell? ⟨b, o + i, none⟩ = some (.slice A (List.length T) c') ∧ LstAt w base d.send k (.slice A (List.length T) c') T := by
  obtain ⟨V, h1, h2, h3⟩ := was_recs h
  obtain ⟨A, c2, e, _, _, _, hr⟩ := h2.shape h1 (by decide)
  cases e
  obtain ⟨b', o', e, hrow⟩ := hr.row (by omega)
  cases e
  obtain ⟨d, A1, c1, hd, e1, hl⟩ := h3 i hi
  refine ⟨d, A1, c1, (V i).2, hd, ?_, by rw [← e1]; exact hl⟩
  have h9 := hrow.2 i hi 0 (V i).1 (by simp)
  rw [Nat.mul_one, Nat.add_zero] at h9
  rw [h9, e1]
theorem recs_one (V : Nat → Value × List IdT) (hV : ∀ i, (V i).1.oneCell' = true) : Recs 1 (fun i => #[(V i).1]) := fun j => ⟨rfl, fun u hu => by
  simp at hu
  rw [hu]; exact hV j⟩
theorem infoA_sl : (Try.prog.info? 35).map (fun i => (i.zero, i.size, i.bytes)) = some (some (.slice none 0 0), 1, 24) := by kernel_rfl
theorem bs_sl (W : World) (o : Oper) (e : Operand → Value) {x : Operand} (ho : o.op = .buildSlice 50 1 #[(0, x)]) (A : Option Addr) (n c : Nat) (h : e x = .slice A n c) :
    (execOp e o).run Try.prog W = .ok (.value (.slice (some ⟨W.heap.size, 0, none⟩) 1 1)) (W.alloc (.cells #[.slice A n c] 35)) := by
  unfold execOp
  simp only [ho]
  simp only [List.map_toArray, List.map_cons, List.map_nil, h]
  kernel_rfl
/-- the first m of a slice -/
theorem run_first (W : World) (A : Option Addr) (n c m : Nat) (hA : A = none → n = 0 ∧ c = 0) (hm : m ≤ c) :
    (Instr.sliceAt 35 (.slice A n c) none (some (.int .i64 (m : Int))) none).run Try.prog W = .ok (.slice A m c) W := by
  have hu := run_underlying (w := W) Try.underlying35
  obtain ⟨i0, hi, hz0, hz1, hz2⟩ := info_parts infoA_id
  have g1 : (0 : Int) ≤ (m : Int) ∧ (m : Int) ≤ (c : Int) := by omega
  rcases A with _ | ⟨b, off, sp⟩
  · obtain ⟨rfl, rfl⟩ := hA rfl
    obtain rfl : m = 0 := by omega
    simp [Instr.sliceAt, Instr.slice, Instr.sliceBounds, Instr.sliceBound, hu, go_sem, hi, hz1]
  · simp [Instr.sliceAt, Instr.slice, Instr.sliceBounds, Instr.sliceBound, hu, go_sem, hi, hz1, g1, Addr.add]
    intro h9; omega
theorem first_op (o : Oper) (e : Operand → Value) (x y : Operand) (ho : o.op = .slice 35 x none (some y) none) (W : World) (A : Option Addr) (n c m : Nat) (hA : A = none → n = 0 ∧ c = 0) (hm : m ≤ c) (hx : e x = .slice A n c) (hy : e y = .int .i64 (m : Int)) :
    (execOp e o).run Try.prog W = .ok (.value (.slice A m c)) W := by
  have h := run_first W A n c m hA hm
  unfold execOp
  simp [ho, hx, hy, h, Result.andThen]
/-- what the circuit has to send is in the list, and no more than that -/
theorem mem_open (L : Nat → Nat) (m : Nat) (hL : ∀ j, j < m → IdOk (L j)) (T : List IdT) (h : ∀ y : IdT, y ∈ T ↔ memL L m y.1 = true) (hp : T.Pairwise (fun x y => x.1 < y.1)) : (∀ j, j < m → hasT T (L j) T.length = true) ∧ T.length ≤ m := by
  refine ⟨fun j hj => hasT_all T (L j) (hL j hj) ((h _).2 ((memL_iff L m _).2 ⟨j, hj, rfl⟩)), ?_⟩
  have hn : (T.map (·.1)).Nodup := by
    refine List.pairwise_map.2 (hp.imp (fun {a b} hab e => ?_))
    omega
  have hs : (T.map (·.1)) ⊆ (List.range m).map L := fun x hx => by
    obtain ⟨y, hy, rfl⟩ := List.mem_map.1 hx
    obtain ⟨j, hj, e⟩ := (memL_iff L m _).1 ((h y).1 hy)
    exact List.mem_map.2 ⟨j, List.mem_range.2 hj, e⟩
  have := hn.length_le_of_subset hs
  simpa using this
theorem gtr_no (o : Oper) (e : Operand → Value) (x y : Operand) (t : TypeId) (ho : o.op = .binOp .gtr 3 x y t) (a b : Nat) (h0 : e x = .int .i64 (a : Int)) (h1 : e y = .int .i64 (b : Int)) (h : a ≤ b) (W : World) :
    (execOp e o).run Try.prog W = .ok (.value (.bool false)) W := by
  have hd : decide ((b : Int) < (a : Int)) = false := by simp; omega
  rw [← hd]
  unfold execOp
  simp only [ho, h0, h1]
  rfl
end Go.Proofs.Yteamnibgeobcbaa
