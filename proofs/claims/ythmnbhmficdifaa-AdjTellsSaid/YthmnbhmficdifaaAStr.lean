/- The sides, hellos and adjacencies as cells; what lies in a block; steps in the order of the text that make or read a block. Each theorem states its conditions. -/
import Derived.Test.YthmnbhmficdifaaAHand
import Derived.Test.YthmnbhmficdifaaALst
import Derived.Laws.IdiomStrings
import Derived.Laws.BytesArg
namespace Go.Proofs.Ythmnbhmficdifaa
open Go.RowKit
set_option linter.unusedVariables false

/-- six bytes -/
def syC (z : Nat → Int) : Array Value := #[.int .u8 (z 0), .int .u8 (z 1), .int .u8 (z 2), .int .u8 (z 3), .int .u8 (z 4), .int .u8 (z 5)]
/-- a side: its name, number, level, areas -/
structure Lo where
  s : Nat → Int
  nu : Int
  lv : Int
  A : Option Addr
  m : Nat
  c : Nat
/-- an adjacency -/
structure Aj where
  st : Int
  p : Nat → Int
  nu : Int
  lv : Int
  un : Int
/-- a hello -/
structure He where
  s : Nat → Int
  nu : Int
  lv : Int
  ho : Int
  A : Option Addr
  m : Nat
  c : Nat
  st : Int
  nm : Bool
  th : Nat → Int
  tn : Int
def loC (l : Lo) : Array Value := #[.int .u8 (l.s 0), .int .u8 (l.s 1), .int .u8 (l.s 2), .int .u8 (l.s 3), .int .u8 (l.s 4), .int .u8 (l.s 5), .int .u8 l.nu, .int .i64 l.lv, .slice l.A l.m l.c]
def ajC (a : Aj) : Array Value := #[.int .i64 a.st, .int .u8 (a.p 0), .int .u8 (a.p 1), .int .u8 (a.p 2), .int .u8 (a.p 3), .int .u8 (a.p 4), .int .u8 (a.p 5), .int .u8 a.nu, .int .i64 a.lv, .int .i64 a.un]
def heC (h : He) : Array Value := #[.int .u8 (h.s 0), .int .u8 (h.s 1), .int .u8 (h.s 2), .int .u8 (h.s 3), .int .u8 (h.s 4), .int .u8 (h.s 5), .int .u8 h.nu, .int .i64 h.lv, .int .i64 h.ho, .slice h.A h.m h.c, .int .i64 h.st, .bool h.nm,
  .int .u8 (h.th 0), .int .u8 (h.th 1), .int .u8 (h.th 2), .int .u8 (h.th 3), .int .u8 (h.th 4), .int .u8 (h.th 5), .int .u8 h.tn]
def z0 : Nat → Int := fun _ => 0
def lo0 : Lo := ⟨z0, 0, 0, none, 0, 0⟩
def aj0 : Aj := ⟨0, z0, 0, 0, 0⟩
def ajD : Aj := ⟨2, z0, 0, 0, 0⟩
def he0 : He := ⟨z0, 0, 0, 0, none, 0, 0, 0, false, z0, 0⟩
theorem loC_one (l : Lo) : (loC l).all (·.oneCell') = true := by kernel_rfl
theorem ajC_one (l : Aj) : (ajC l).all (·.oneCell') = true := by kernel_rfl
theorem heC_one (l : He) : (heC l).all (·.oneCell') = true := by kernel_rfl
theorem syC_one (z : Nat → Int) : (syC z).all (·.oneCell') = true := by kernel_rfl
theorem info_sys : (Try.prog.info? 23).map (·.size) = some 6 := by kernel_rfl
theorem info_loP : (Try.prog.info? 32).map (·.size) = some 9 := by kernel_rfl
theorem info_loR : (Try.prog.info? 26).map (·.size) = some 9 := by kernel_rfl
theorem info_ajP : (Try.prog.info? 36).map (·.size) = some 10 := by kernel_rfl
theorem info_ajR : (Try.prog.info? 28).map (·.size) = some 10 := by kernel_rfl
theorem info_heP : (Try.prog.info? 34).map (·.size) = some 19 := by kernel_rfl
theorem info_heR : (Try.prog.info? 30).map (·.size) = some 19 := by kernel_rfl

/-- block g is of type t and has these cells -/
def Blk (t : TypeId) (w : World) (g : Nat) (C : Array Value) : Prop := w.heap[g]? = some (.cells C t (0, 0))
section
variable {t : TypeId} {w w' : World} {g : Nat} {C : Array Value}
theorem Blk.lt (h : Blk t w g C) : g < w.heap.size := (Array.getElem?_eq_some_iff.1 h).1
theorem Blk.below {B : Nat} (h : Blk t w g C) (hb : Below B w w') (hB : g < B) : Blk t w' g C := (hb.block g hB).trans h
theorem Blk.cell (h : Blk t w g C) (i : Nat) : w.cell? ⟨g, i, none⟩ = C[i]? := cell_of_row w g i _ _ _ h
theorem Blk.range (h : Blk t w g C) {o : Nat} {cs : List Value} (hs : ∀ j, j < cs.length → C[o + j]? = cs[j]?) : w.rangeAt g o cs := by
  intro j u hj
  rw [cell_of_row w g (o + j) _ _ _ h, hs j ?_]
  · exact hj
  · rcases Nat.lt_or_ge j cs.length with h1 | h1
    · exact h1
    · rw [List.getElem?_eq_none h1] at hj; cases hj
theorem Blk.all (h : Blk t w g C) : w.rangeAt g 0 C.toList := h.range fun j hj => by rw [Nat.zero_add, Array.getElem?_toList]
theorem Blk.far {b : Nat} {C' : Array Value} {u : TypeId} (h : Blk t w g C) (hs : Stored w w' b C' u) (hk : g ≠ b) : Blk t w' g C := (hs.2.2 g hk).trans h
theorem six {P : Nat → Prop} (h : P 0 ∧ P 1 ∧ P 2 ∧ P 3 ∧ P 4 ∧ P 5) (j : Nat) (hj : j < 6) : P j := by
  rcases (by omega : j = 0 ∨ j = 1 ∨ j = 2 ∨ j = 3 ∨ j = 4 ∨ j = 5) with rfl | rfl | rfl | rfl | rfl | rfl <;> simp_all
theorem Blk.los {l : Lo} (h : Blk t w g (loC l)) : w.rangeAt g 0 (syC l.s).toList := h.range (six ⟨rfl, rfl, rfl, rfl, rfl, rfl⟩)
theorem Blk.ajp {l : Aj} (h : Blk t w g (ajC l)) : w.rangeAt g 1 (syC l.p).toList := h.range (six ⟨rfl, rfl, rfl, rfl, rfl, rfl⟩)
theorem Blk.hes {l : He} (h : Blk t w g (heC l)) : w.rangeAt g 0 (syC l.s).toList := h.range (six ⟨rfl, rfl, rfl, rfl, rfl, rfl⟩)
theorem Blk.het {l : He} (h : Blk t w g (heC l)) : w.rangeAt g 12 (syC l.th).toList := h.range (six ⟨rfl, rfl, rfl, rfl, rfl, rfl⟩)
end
/-- a value is put into a new block -/
theorem box_run (o : Oper) (e : Operand → Value) (t : TypeId) (x : Operand) (ho : o.op = .box t x) (C : Array Value) (hx : e x = .agg C) (W : World) :
    (execOp e o).run Try.prog W = .ok (.value (.pointer (some ⟨W.heap.size, 0, none⟩))) (W.alloc (.cells C t)) := by
  unfold execOp
  simp only [ho, hx]
  rfl
theorem alloc_run (o : Oper) (e : Operand → Value) (t : TypeId) (ho : o.op = .alloc t) (C : Array Value) (hz : (Try.prog.info? t).map (·.zero) = some (some (.agg C))) (W : World) :
    (execOp e o).run Try.prog W = .ok (.value (.pointer (some ⟨W.heap.size, 0, none⟩))) (W.alloc (.cells C t)) := by
  unfold execOp
  simp only [ho]
  cases hq : Try.prog.info? t with
  | none => rw [hq] at hz; cases hz
  | some i =>
    rw [hq] at hz
    have hz' : i.zero = some (.agg C) := by simpa using hz
    simp [Instr.alloc, zeroValue, typeInfo, hq, hz', go_sem]
section
variable {ops : Array Oper} {Q : Exit → Act → World → Prop}
/-- a new block, in the order of the text -/
theorem wpList_mk {rest : List Oper} {op : Oper} {a : Act} {w : World} (hgd : op.guard = none) (t : TypeId) (C : Array Value) (hx : (execOp a.eval op).run Try.prog w = .ok (.value (.pointer (some ⟨w.heap.size, 0, none⟩))) (w.alloc (.cells C t)))
    (N : Nat) (hN : w.heap.size = N) (h : ∀ w', Blk t w' N C → Below w.heap.size w w' → N + 1 ≤ w'.heap.size → wpList Try.prog ops Q rest (a.put op.dst (.pointer (some ⟨N, 0, none⟩))) w') : wpList Try.prog ops Q (op :: rest) a w := by
  subst hN
  refine wpList_plain hgd fun K hK => ?_
  unfold Oper.wp
  rw [hx, Oper.upon_value]
  exact hK _ _ (h _ (heap_alloc_new w _) ((Below.refl _ _).alloc (Nat.le_refl _) _) (by simp))
theorem wpList_box {rest : List Oper} {op : Oper} {a : Act} {w : World} (hgd : op.guard = none) (t : TypeId) (x : Operand) (ho : op.op = .box t x) (C : Array Value) (hx : a.eval x = .agg C)
    (N : Nat) (hN : w.heap.size = N) (h : ∀ w', Blk t w' N C → Below w.heap.size w w' → N + 1 ≤ w'.heap.size → wpList Try.prog ops Q rest (a.put op.dst (.pointer (some ⟨N, 0, none⟩))) w') : wpList Try.prog ops Q (op :: rest) a w :=
  wpList_mk hgd t C (box_run op a.eval t x ho C hx w) N hN h
theorem wpList_new {rest : List Oper} {op : Oper} {a : Act} {w : World} (hgd : op.guard = none) (t : TypeId) (ho : op.op = .alloc t) (C : Array Value) (hz : (Try.prog.info? t).map (·.zero) = some (some (.agg C)))
    (N : Nat) (hN : w.heap.size = N) (h : ∀ w', Blk t w' N C → Below w.heap.size w w' → N + 1 ≤ w'.heap.size → wpList Try.prog ops Q rest (a.put op.dst (.pointer (some ⟨N, 0, none⟩))) w') : wpList Try.prog ops Q (op :: rest) a w :=
  wpList_mk hgd t C (alloc_run op a.eval t ho C hz w) N hN h
/-- a run of cells is read, in the order of the text -/
theorem wpList_ld {rest : List Oper} {op : Oper} {a : Act} {w : World} (hw : Region.wanted op (yielded ops a.tmps) = true) (ty : TypeId) (x : Operand) (ho : op.op = .load ty x) (b off : Nat) (hx : a.eval x = .pointer (some ⟨b, off, none⟩)) (cs : Array Value) (d : TypeDesc) (hc : w.rangeAt b off cs.toList) (hu : Try.prog.underlying ty = some d) (hd : d.isRow = true) (hi : (Try.prog.info? ty).map (·.size) = some cs.toList.length)
    (h : wpList Try.prog ops Q rest (a.put op.dst (.agg cs)) w) : wpList Try.prog ops Q (op :: rest) a w :=
  wpList_gv (.agg cs) hw (by have := load_rng op a.eval ty x ho b off hx cs.toList d hc hu hd hi; simpa using this) h
end
/-- a new block, where it alone may come up -/
theorem takeMk {ops : Array Oper} {Q : Exit → Act → World → Prop} {md : Region.Mode} {S : World → Prop} {i : Nat} {oi : Oper} (d : Option Tmp) {fuel : Nat} {listed : Array Bool} {a : Act} {w : World} (t : TypeId) (C : Array Value) (hi : ops[i]? = some oi) (hd : oi.dst = d)
    (hr : Region.ready md ops listed = [i]) (hw : Region.wanted oi (yielded ops a.tmps) = true) (ho : oi.op = .alloc t) (hz : (Try.prog.info? t).map (·.zero) = some (some (.agg C))) (N : Nat) (hN : w.heap.size = N)
    (h : ∀ w', Blk t w' N C → Below w.heap.size w w' → N + 1 ≤ w'.heap.size → S w' ∧ wpAnyH Try.prog md ops Q S fuel (listed.setIfInBounds i true) (a.put d (.pointer (some ⟨N, 0, none⟩))) w') : wpAnyH Try.prog md ops Q S (fuel + 1) listed a w := by
  subst hN
  obtain ⟨h1, h2⟩ := h _ (heap_alloc_new w _) ((Below.refl _ _).alloc (Nat.le_refl _) _) (by simp)
  exact takeV d hi hd hr hw (alloc_run oi a.eval t ho C hz w) h1 h2
/-- of several that may come up: a new block -/
theorem consMk {ops : Array Oper} {Q : Exit → Act → World → Prop} {md : Region.Mode} {S : World → Prop} {i : Nat} {oi : Oper} (d : Option Tmp) {rs : List Nat} {fuel : Nat} {listed : Array Bool} {a : Act} {w : World} (t : TypeId) (C : Array Value) (hi : ops[i]? = some oi) (hd : oi.dst = d)
    (hw : Region.wanted oi (yielded ops a.tmps) = true) (ho : oi.op = .alloc t) (hz : (Try.prog.info? t).map (·.zero) = some (some (.agg C))) (N : Nat) (hN : w.heap.size = N)
    (h : ∀ w', Blk t w' N C → Below w.heap.size w w' → N + 1 ≤ w'.heap.size → S w' ∧ wpAnyH Try.prog md ops Q S fuel (listed.setIfInBounds i true) (a.put d (.pointer (some ⟨N, 0, none⟩))) w') (hs : AllReadyH Try.prog md ops Q S fuel listed a w rs) : AllReadyH Try.prog md ops Q S fuel listed a w (i :: rs) := by
  subst hN
  obtain ⟨h1, h2⟩ := h _ (heap_alloc_new w _) ((Below.refl _ _).alloc (Nat.le_refl _) _) (by simp)
  exact consVW d hi hd hw (alloc_run oi a.eval t ho C hz w) h1 h2 hs
theorem zero_ajP : (Try.prog.info? 36).map (·.zero) = some (some (.agg (ajC aj0))) := by kernel_rfl
theorem zero_ajR : (Try.prog.info? 28).map (·.zero) = some (some (.agg (ajC aj0))) := by kernel_rfl
theorem zero_loP : (Try.prog.info? 32).map (·.zero) = some (some (.agg (loC lo0))) := by kernel_rfl
theorem zero_heP : (Try.prog.info? 34).map (·.zero) = some (some (.agg (heC he0))) := by kernel_rfl
theorem zero_heR : (Try.prog.info? 30).map (·.zero) = some (some (.agg (heC he0))) := by kernel_rfl
/-- a result that lies in a block -/
theorem results_1 {fn : Func} {q : Tmp} {t : TypeId} (h : fn.results = #[.cell q t]) (tmps : Array Value) (W : World) (g : Nat) (C : Array Value) {d : TypeDesc} (hu : Try.prog.underlying t = some d) (hd : d.isRow = true) (hi : (Try.prog.info? t).map (·.size) = some C.size)
    (hp : tmps.getD q undef = .pointer (some ⟨g, 0, none⟩)) (hg : Blk t W g C) : (results fn tmps).run Try.prog W = .ok (.agg C) W := by
  have h1 := run_loadVar_mid (P := Try.prog) W g 0 t C.toList _ hg.all hu hd (by simpa using hi)
  have hp' : (tmps[q]?).getD undef = .pointer (some ⟨g, 0, none⟩) := by simpa using hp
  simp only [results, h]
  simp [hp', asAddr, h1]
theorem results_2 {fn : Func} {q r : Tmp} {t : TypeId} (h : fn.results = #[.cell q t, .tmp r]) (tmps : Array Value) (W : World) (g : Nat) (C : Array Value) (v : Value) {d : TypeDesc} (hu : Try.prog.underlying t = some d) (hd : d.isRow = true) (hi : (Try.prog.info? t).map (·.size) = some C.size)
    (hp : tmps.getD q undef = .pointer (some ⟨g, 0, none⟩)) (hr : tmps.getD r undef = v) (hg : Blk t W g C) : (results fn tmps).run Try.prog W = .ok (.tuple #[.agg C, v]) W := by
  have h1 := run_loadVar_mid (P := Try.prog) W g 0 t C.toList _ hg.all hu hd (by simpa using hi)
  have hp' : (tmps[q]?).getD undef = .pointer (some ⟨g, 0, none⟩) := by simpa using hp
  have hr' : (tmps[r]?).getD undef = v := by simpa using hr
  simp only [results, h]
  simp [hp', hr', asAddr, h1]
theorem OwnS.base {w : World} {base b m : Nat} {v : Value} {L : Nat → Sl} (h : OwnS w base v m L) (hb : b ≤ base) : OwnS w b v m L := by
  refine ⟨⟨h.1.1, ?_⟩, fun j hj => ?_⟩
  · rcases h.1.2 with h | ⟨g, cap, cur, hv, hg, r⟩
    · exact .inl h
    · exact .inr ⟨g, cap, cur, hv, by omega, r⟩
  · obtain ⟨h2, h3 | ⟨g, h3, h4, h5⟩⟩ := h.2 j hj
    · exact ⟨h2, .inl h3⟩
    · exact ⟨h2, .inr ⟨g, h3, by omega, h5⟩⟩
/-- a store into a block of another type -/
theorem OwnS.farT {w w' : World} {base b m : Nat} {v : Value} {L : Nat → Sl} {C C' : Array Value} {t u : TypeId} (h : OwnS w base v m L) (hk : Blk t w b C) (h1 : t ≠ 49) (h2 : t ≠ 5) (hs : Stored w w' b C' u) : OwnS w' base v m L := by
  have ne : ∀ g cur e, w.heap[g]? = some (.cells cur e (0, 0)) → t ≠ e → g ≠ b := by
    intro g cur e hg hte heq
    subst heq
    unfold Blk at hk
    rw [hk] at hg
    simp only [Option.some.injEq, Obj.cells.injEq] at hg
    exact hte hg.2.1
  refine ⟨⟨h.1.1, ?_⟩, fun j hj => ?_⟩
  · rcases h.1.2 with h | ⟨g, cap, cur, hv, hg, hc, r⟩
    · exact .inl h
    · exact .inr ⟨g, cap, cur, hv, hg, (hs.2.2 g (ne g cur _ hc h1)).trans hc, r⟩
  · obtain ⟨k2, h3 | ⟨g, h3, h4, h5⟩⟩ := h.2 j hj
    · exact ⟨k2, .inl h3⟩
    · obtain ⟨cur, hc, _⟩ := h5.1
      exact ⟨k2, .inr ⟨g, h3, h4, h5.block (hs.2.2 g (ne g cur _ hc h2))⟩⟩
theorem OwnS.far {w w' : World} {base b m : Nat} {v : Value} {L : Nat → Sl} {C : Array Value} {u : TypeId} (h : OwnS w base v m L) (hs : Stored w w' b C u) (hb : b < base) : OwnS w' base v m L := by
  refine ⟨⟨h.1.1, ?_⟩, fun j hj => ?_⟩
  · rcases h.1.2 with h | ⟨g, cap, cur, hv, hg, hc, r⟩
    · exact .inl h
    · exact .inr ⟨g, cap, cur, hv, hg, (hs.2.2 g (by omega)).trans hc, r⟩
  · obtain ⟨h2, h3 | ⟨g, h3, h4, h5⟩⟩ := h.2 j hj
    · exact ⟨h2, .inl h3⟩
    · exact ⟨h2, .inr ⟨g, h3, h4, h5.block (hs.2.2 g (by omega))⟩⟩
end Go.Proofs.Ythmnbhmficdifaa
