/- Sets at the operations: made, added to, dropped from, cleared; what stays while they turn; the program's calls on one set. Each theorem states its conditions. -/
import Derived.Test.YteamnibgeobcbaaJSet
import Derived.LoopN
namespace Go.Proofs.Yteamnibgeobcbaa
open Go.RowKit Go.MapKept
open Go.ChangeMaps (setBlock)
set_option linter.unusedVariables false

def mine : Obj → Bool
  | .map .. => true
  | .cells _ t _ => t == 60
  | _ => false
/-- whatever is no map and no list of circuits lies as it lay -/
def KeptT (w w' : World) : Prop := w.heap.size ≤ w'.heap.size ∧ ∀ (k : Nat) (o : Obj), w.heap[k]? = some o → mine o = false → w'.heap[k]? = some o
theorem KeptT.refl (w : World) : KeptT w w := ⟨Nat.le_refl _, fun _ _ h _ => h⟩
theorem KeptT.trans {a b c : World} (h : KeptT a b) (k : KeptT b c) : KeptT a c := ⟨Nat.le_trans h.1 k.1, fun i o hi ho => k.2 i o (h.2 i o hi ho) ho⟩
theorem KeptT.of_below {w w' : World} (h : Below w.heap.size w w') : KeptT w w' := ⟨h.size, fun k o hk _ => (h.block k (Array.getElem?_eq_some_iff.1 hk).1).trans hk⟩
theorem KeptT.of_grown {w w' : World} {b : Nat} {es : Array MapEntry} {c : Nat} (h : w.grownBy w' (some b)) (hb : w.heap[b]? = some (.map es c)) : KeptT w w' :=
  ⟨h.size, fun k o hk ho => (h.block k (Array.getElem?_eq_some_iff.1 hk).1 (fun e => by cases e; rw [hb] at hk; cases hk; cases ho)).trans hk⟩
theorem SetAt.kept {w w' : World} {b k : Nat} {S : Nat → Bool} (h : SetAt w b S k) (hg : w.grownBy w' (some b)) : KeptT w w' := by
  obtain ⟨_, _, h0, _⟩ := h
  exact KeptT.of_grown hg h0
theorem Blk.kept {t : TypeId} {w w' : World} {g : Nat} {C : Array Value} (h : Blk t w g C) (hk : KeptT w w') (ht : (t == 60) = false) : Blk t w' g C := hk.2 g _ h (by simp only [mine]; exact ht)
theorem Turn.grown {w w' : World} {b : Nat} (h : Turn w w' b) : w.grownBy w' (some b) := World.mapTurned.grown h
theorem SetAt.other {w w' : World} {b d k : Nat} {S : Nat → Bool} (h : SetAt w b S k) (hg : w.grownBy w' (some d)) (hd : b ≠ d) : SetAt w' b S k := h.at (hg.block b h.lt (fun e => hd (by cases e; rfl)))
theorem SetAt.below {w w' : World} {b k B : Nat} {S : Nat → Bool} (h : SetAt w b S k) (hb : Below B w w') (hB : b < B) : SetAt w' b S k := h.at (hb.block b hB)
theorem grown_below {w w1 w2 : World} {b : Nat} (h : Below w.heap.size w w1) (k : w1.grownBy w2 (some b)) (hb : b < w.heap.size) : w.grownBy w2 (some b) :=
  ⟨k.os.trans h.os, k.tape.trans h.tape, k.output.trans h.output, Nat.le_trans h.size k.size, fun i hi hne => (k.block i (Nat.lt_of_lt_of_le hi h.size) hne).trans (h.block i hi)⟩
theorem grown_then {w w1 w2 : World} {b : Nat} (h : w.grownBy w1 (some b)) (k : w1.grownBy w2 (some b)) : w.grownBy w2 (some b) :=
  ⟨k.os.trans h.os, k.tape.trans h.tape, k.output.trans h.output, Nat.le_trans h.size k.size, fun i hi hne => (k.block i (Nat.lt_of_lt_of_le hi h.size) hne).trans (h.block i hi hne)⟩
theorem grown_refl (w : World) (b : Nat) : w.grownBy w (some b) := ⟨rfl, rfl, rfl, Nat.le_refl _, fun _ _ _ => rfl⟩
theorem below_grown {w w1 w2 : World} {b : Nat} (h : w.grownBy w1 (some b)) (k : Below w1.heap.size w1 w2) : w.grownBy w2 (some b) :=
  ⟨k.os.trans h.os, k.tape.trans h.tape, k.output.trans h.output, Nat.le_trans h.size k.size, fun i hi hne => (k.block i (Nat.lt_of_lt_of_le hi h.size)).trans (h.block i hi hne)⟩
section
variable {ops : Array Oper} {Q : Exit → Act → World → Prop} {rest : List Oper} {op : Oper} {a : Act} {w : World}
theorem wpList_add (hgd : op.guard = none) (m x v : Operand) (ho : op.op = .mapUpdate 62 m x v) (b k n : Nat) (S : Nat → Bool) (hm : a.eval m = .map (some b)) (hx : a.eval x = .agg (idC n)) (hv : a.eval v = .agg #[]) (h : SetAt w b S k) (hn : IdOk n)
    (hK : ∀ w', SetAt w' b (fun y => S y || y == n) (k + 1) → w.grownBy w' (some b) → wpList Try.prog ops Q rest (a.put op.dst undef) w') : wpList Try.prog ops Q (op :: rest) a w := by
  obtain ⟨w', hrun, h1, h2⟩ := set_add h hn
  refine wpList_plain hgd fun K' hK' => ?_
  unfold Oper.wp
  simp [execOp, ho, hm, hx, hv, hrun, Result.andThen]
  exact hK' _ _ (hK w' h1 h2.grown)
theorem wpList_drop (hgd : op.guard = none) (m x : Operand) (ho : op.op = .call { callee := .builtin .delete, args := #[m, x], argTypes := #[62, 28] }) (b k n : Nat) (S : Nat → Bool) (hm : a.eval m = .map (some b)) (hx : a.eval x = .agg (idC n)) (h : SetAt w b S k) (hn : IdOk n)
    (hK : ∀ w', SetAt w' b (fun y => S y && !(y == n)) k → w.grownBy w' (some b) → wpList Try.prog ops Q rest (a.put op.dst (.tuple #[])) w') : wpList Try.prog ops Q (op :: rest) a w := by
  obtain ⟨w', hrun, h1, h2⟩ := set_drop h hn op.type
  refine wpList_plain hgd fun K' hK' => ?_
  unfold Oper.wp
  simp [execOp, ho, resolve, invoke, builtin, hm, hx, hrun, Result.andThen]
  exact hK' _ _ (hK w' h1 h2.grown)
theorem wpList_clear (hgd : op.guard = none) (m : Operand) (ho : op.op = .call { callee := .builtin .clear, args := #[m], argTypes := #[62] }) (b k : Nat) (S : Nat → Bool) (hm : a.eval m = .map (some b)) (h : SetAt w b S k)
    (hK : ∀ w', SetAt w' b (fun _ => false) k → w.grownBy w' (some b) → wpList Try.prog ops Q rest (a.put op.dst (.tuple #[])) w') : wpList Try.prog ops Q (op :: rest) a w := by
  obtain ⟨w', hrun, h1, h2⟩ := set_clear h op.type
  refine wpList_plain hgd fun K' hK' => ?_
  unfold Oper.wp
  simp [execOp, ho, resolve, invoke, builtin, hm, hrun, Result.andThen]
  exact hK' _ _ (hK w' h1 h2.grown)
theorem mm_run (o : Oper) (e : Operand → Value) (ho : o.op = .makeMap 62 none) (W : World) : (execOp e o).run Try.prog W = .ok (.value (.map (some W.heap.size))) (W.alloc (.map #[] 0)) := by
  unfold execOp
  simp only [ho]
  rfl
theorem wpList_mm (hgd : op.guard = none) (ho : op.op = .makeMap 62 none) (N : Nat) (hN : w.heap.size = N)
    (hK : ∀ w', SetAt w' N (fun _ => false) 0 → Below w.heap.size w w' → N + 1 ≤ w'.heap.size → wpList Try.prog ops Q rest (a.put op.dst (.map (some N))) w') : wpList Try.prog ops Q (op :: rest) a w := by
  subst hN
  refine wpList_v hgd _ (mm_run op a.eval ho w) (hK _ (SetAt.new w) ((Below.refl _ _).alloc (Nat.le_refl _) _) (by simp))
end
/-- one ID is taken out -/
theorem drop_any (b k n : Nat) (S : Nat → Bool) (w : World) (h : SetAt w b S k) (hn : IdOk n) :
    Calls Try.prog 26 #[.map (some b), .agg (idC n)] w fun e w' => e = .returned (.tuple #[]) ∧ SetAt w' b (fun y => S y && !(y == n)) k ∧ w.grownBy w' (some b) := by
  have HS := Lib.hid h
  clear h
  go_enter Try.func26, Try.ntmps26
  obtain ⟨N1, hN1⟩ : ∃ N, w.heap.size = N := ⟨_, rfl⟩
  have HN1 := Lib.hid hN1
  clear hN1
  go_wp2_with (refine wpList_box (op := ⟨some 3, _, _, _, _, _⟩) rfl 28 (.tmp 1) rfl (idC n) rfl N1 HN1.out ?_; intro w1 k1 b1 s1; refine Hid.out ?_)
  refine Lib.hid ?_
  have HS1 := Lib.hid (HS.out.below b1 HS.out.lt)
  have HK := Lib.hid k1
  have HB := Lib.hid b1
  clear k1 b1 s1
  go_wp2_with (refine wpList_ld (op := ⟨some 5, _, _, _, _, _⟩) (by rfl) 28 (.tmp 3) rfl N1 0 rfl (idC n) _ HK.out.all Try.underlying28 rfl info_id ?_; refine Hid.out ?_)
  refine Lib.hid ?_
  go_wp2_with (refine wpList_drop rfl (.tmp 4) (.tmp 5) rfl b k n S rfl rfl HS1.out hn ?_; intro w2 q1 q2; refine Hid.out ?_)
  refine Lib.hid ?_
  have HQ := Lib.hid q1
  have HG := Lib.hid (grown_below HB.out q2 HS.out.lt)
  clear q1 q2
  go_wp2_with fail
  go_end0
  exact ⟨rfl, HQ.out, HG.out⟩
/-- IDs, one behind the other -/
def idA (L : Nat → Nat) : Nat → Array Value := fun j => idC (L j)
theorem recs_id (L : Nat → Nat) : Recs 8 (idA L) := fun j => ⟨rfl, idC_ones (L j)⟩
def memL (L : Nat → Nat) (m : Nat) (y : Nat) : Bool := (List.range m).any fun j => L j == y
theorem memL_iff (L : Nat → Nat) (m y : Nat) : memL L m y = true ↔ ∃ j, j < m ∧ L j = y := by simp [memL]
theorem memL_succ (L : Nat → Nat) (m y : Nat) : memL L (m + 1) y = (memL L m y || y == L m) := by
  rw [Bool.eq_iff_iff, memL_iff, Bool.or_eq_true, memL_iff, beq_iff_eq]
  constructor
  · rintro ⟨j, hj, e⟩
    by_cases h : j = m
    · subst h; exact .inr e.symm
    · exact .inl ⟨j, by omega, e⟩
  · rintro (⟨j, hj, e⟩ | e)
    · exact ⟨j, by omega, e⟩
    · exact ⟨m, by omega, e.symm⟩
set_option maxHeartbeats 8000000 in
set_option maxRecDepth 100000 in
/-- IDs are put in -/
theorem add_any (b k : Nat) (S : Nat → Bool) (A : Option Addr) (m c : Nat) (L : Nat → Nat) (w : World) (h : SetAt w b S k) (hR : RdR w A m 8 (idA L)) (hL : ∀ j, j < m → IdOk (L j)) (hm : m ≤ 9223372036854775807) :
    Calls Try.prog 27 #[.map (some b), .slice A m c] w fun e w' => e = .returned (.tuple #[]) ∧ SetAt w' b (fun y => S y || memL L m y) (k + m) ∧ w.grownBy w' (some b) := by
  have HS := Lib.hid h
  have HR := Lib.hid hR
  clear h hR
  have hbs := HS.out.lt
  go_enter Try.func27, Try.ntmps27
  go_wp2_with fail
  go_loopw [8] (fun s wr => ∃ j : Nat, j ≤ m ∧ s = .int .i64 (j : Int) ∧ Hid (SetAt wr b (fun y => S y || memL L j y) (k + j)) ∧ Hid (w.grownBy wr (some b))) (fun s _ => m - (intOf s).toNat)
  case atStart => exact ⟨0, by omega, rfl, Lib.hid (HS.out.congr (fun y => by simp [memL])), Lib.hid (grown_refl _ _)⟩
  case round =>
    obtain ⟨j, hj, rfl, HSr, HG⟩ := hrel
    by_cases hlt : j < m
    · obtain ⟨b', off, rfl, hr⟩ := HR.out.row (by omega)
      have HRR := Lib.hid hr
      clear hr
      have hji : (j : Int) < (m : Int) := by omega
      obtain ⟨x, hx⟩ : ∃ x, L j = x := ⟨_, rfl⟩
      have HX := Lib.hid hx
      clear hx
      have hne : b' ≠ b := by
        rintro rfl
        have h1 := HRR.out.2 j hlt 0 (.int .u8 (dg (L j) 0)) rfl
        obtain ⟨es, cl, h2, _⟩ := HS.out
        simp [World.cell?, h2] at h1
      have h1 : Hid (wr.rangeAt b' (off + j * 8) (idC x).toList) := Lib.hid (by
        have h9 := HRR.out.2 j hlt
        unfold idA at h9
        rw [HX.out] at h9
        intro i u hu
        exact (World.cell?_of_block (w := w) (HG.out.block b' HRR.out.1 (fun e => hne (by cases e; rfl)))).trans (h9 i u hu))
      go_wp2_with (refine wpList_ld (op := ⟨some 11, _, _, _, _, _⟩) (by rfl) 28 (.tmp 10) rfl b' (off + j * 8) rfl (idC x) _ h1.out Try.underlying28 rfl info_id ?_; refine Hid.out ?_)
      refine Lib.hid ?_
      clear h1
      obtain ⟨N1, hN1⟩ : ∃ N, wr.heap.size = N := ⟨_, rfl⟩
      have HN1 := Lib.hid hN1
      clear hN1
      go_wp2_with (refine wpList_new (op := ⟨some 5, _, _, _, _, _⟩) rfl 28 rfl (idC 0) zero_id N1 HN1.out ?_; intro w1 k1 b1 s1; refine Hid.out ?_)
      refine Lib.hid ?_
      have HS1 := Lib.hid (HSr.out.below b1 HSr.out.lt)
      have HG1 := Lib.hid (below_grown HG.out b1)
      have HK := Lib.hid k1
      have hlt1 : b < N1 := by rw [← HN1.out]; exact HSr.out.lt
      have hle1 : w.heap.size ≤ N1 := by rw [← HN1.out]; exact HG.out.size
      clear k1 b1 s1
      go_wp2_with (refine wpList_st rfl 28 (.tmp 5) (.tmp 11) rfl N1 0 rfl (.agg (idC x)) (idC x) rfl rfl info_id (idC_one x) HK.out (Nat.le_of_ble_eq_true rfl) (C' := idC x) (by kernel_rfl) ?_; intro w2 q1; refine Hid.out ?_)
      refine Lib.hid ?_
      have HS2 := Lib.hid (HS1.out.at (q1.2.2 b (by omega)))
      have HG2 : Hid (w.grownBy w2 (some b)) := Lib.hid ⟨(q1.2.1 _ (Nat.le_refl _)).os.trans HG1.out.os, (q1.2.1 _ (Nat.le_refl _)).tape.trans HG1.out.tape, (q1.2.1 _ (Nat.le_refl _)).output.trans HG1.out.output, Nat.le_trans HG1.out.size (q1.2.1 _ (Nat.le_refl _)).size, fun i hi hn => (q1.2.2 i (by omega)).trans (HG1.out.block i hi hn)⟩
      have HK2 : Hid (Blk 28 w2 N1 (idC x)) := Lib.hid q1.1
      clear q1 HS1 HG1 HK
      go_wp2_with (refine wpList_ld (op := ⟨some 13, _, _, _, _, _⟩) (by rfl) 28 (.tmp 5) rfl N1 0 rfl (idC x) _ HK2.out.all Try.underlying28 rfl info_id ?_; refine Hid.out ?_)
      refine Lib.hid ?_
      have hok : IdOk x := by rw [← HX.out]; exact hL j hlt
      go_wp2_with (refine wpList_add rfl (.tmp 12) (.tmp 13) (.tmp 14) rfl b (k + j) x _ rfl rfl rfl HS2.out hok ?_; intro w3 p1 p2; refine Hid.out ?_)
      refine Lib.hid ?_
      have HS3 := Lib.hid p1
      have HG3 := Lib.hid (grown_then HG2.out p2)
      clear p1 p2
      have hov : (j : Int) + 1 ≤ 9223372036854775807 := by omega
      go_wp2_with fail
      go_roundw
      case rel => exact ⟨j + 1, by omega, by simp, Lib.hid ((HS3.out.congr (fun y => by rw [memL_succ, HX.out, Bool.or_assoc])).mono (by omega)), HG3⟩
      case measure => simp [intOf]; omega
    · obtain rfl : j = m := by omega
      go_wp2_with fail
      go_end0
      exact ⟨rfl, HSr.out, HG.out⟩
end Go.Proofs.Yteamnibgeobcbaa
