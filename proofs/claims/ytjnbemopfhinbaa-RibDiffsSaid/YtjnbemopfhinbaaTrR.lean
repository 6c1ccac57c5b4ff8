/- Rows of prefixes; the program's list of what stands in a tree. Each theorem states its conditions. -/
import Derived.Test.YtjnbemopfhinbaaTrL
import Derived.Test.YtjnbemopfhinbaaRec
namespace Go.Proofs.Ytjnbemopfhinbaa
open Go.RowKit
set_option linter.unusedVariables false
set_option linter.unusedSimpArgs false

def OwnR (w : World) (base : Nat) (e : TypeId) (s : Nat) (v : Value) (m : Nat) (C : Nat → Array Value) : Prop := w.ownsRow base e s v m (cellsR C m)
theorem OwnR.below {w w' : World} {base s m : Nat} {e : TypeId} {v : Value} {C : Nat → Array Value} (h : OwnR w base e s v m C) (hb : Below w.heap.size w w') : OwnR w' base e s v m C := ownsRow_below' h hb
theorem OwnR.nil (w : World) (base : Nat) (e : TypeId) (s : Nat) (C : Nat → Array Value) : OwnR w base e s (.slice none 0 0) 0 C := World.ownsRow_nil _ _ _ _
theorem OwnR.mono {w : World} {base base' s m : Nat} {e : TypeId} {v : Value} {C : Nat → Array Value} (h : OwnR w base e s v m C) (hb : base' ≤ base) : OwnR w base' e s v m C := ownsRow_mono h hb
theorem OwnR.congr {w : World} {base s m : Nat} {e : TypeId} {v : Value} {C C' : Nat → Array Value} (h : OwnR w base e s v m C) (hc : ∀ j, j < m → C j = C' j) : OwnR w base e s v m C' := by
  unfold OwnR at h ⊢
  rwa [cellsR_congr m hc] at h
theorem OwnR.ow {w w' : World} {base s m r : Nat} {e : TypeId} {v : Value} {C : Nat → Array Value} (h : OwnR w base e s v m C) (hg : w.grownBy w' (some r)) (hr : r < base) : OwnR w' base e s v m C := by
  rcases h with ⟨h1, h2 | ⟨g, cap, cur, e1, e2, e3, rest⟩⟩
  · exact ⟨h1, .inl h2⟩
  · exact ⟨h1, .inr ⟨g, cap, cur, e1, e2, (hg.block g (Array.getElem?_eq_some_iff.1 e3).1 (fun e => by cases e; omega)).trans e3, rest⟩⟩
theorem OwnR.shape {w : World} {base s m : Nat} {e : TypeId} {v : Value} {C : Nat → Array Value} (h : OwnR w base e s v m C) (hC : Recs s C) (hs : 0 < s) : ∃ A c, v = .slice A m c ∧ m ≤ c ∧ c ≤ maxLen ∧ (A = none → m = 0 ∧ c = 0) ∧ RdR w A m s C := ownR_shape hC hs h
theorem rdR_blk {w : World} {B s : Nat} {C : Array Value} {t : TypeId} (h : Blk t w B C) : RdR w (some ⟨B, 0, none⟩) 1 s (fun _ => C) := by
  refine .inr ⟨B, 0, rfl, h.lt, fun j hj i u hu => ?_⟩
  obtain rfl : j = 0 := by omega
  rw [Nat.zero_mul, Nat.zero_add, h.cell i]
  simpa using hu
section
variable {ops : Array Oper} {Q : Exit → Act → World → Prop}
theorem app_Y {rest : List Oper} {o : Oper} {a : Act} {w : World} (T E : TypeId) (s bs : Nat) (z : Value) (hT : Try.prog.underlying T = some (.slice E)) (hI : (Try.prog.info? E).map (fun i => (i.zero, i.size, i.bytes)) = some (some z, s, bs)) (hzs : z.cells.size = s) (hs0 : 0 < s)
    (hgd : o.guard = none) (y x : Operand) (ho : o.op = .call { callee := .builtin .append, args := #[y, x], argTypes := #[T, T] })
    (B : Nat) (v : Value) (n : Nat) (C : Nat → Array Value) (hs : a.eval y = v) (hown : OwnR w B E s v n C) (hb : B ≤ w.heap.size)
    (ad : Addr) (m c : Nat) (D : Nat → Array Value) (hx : a.eval x = .slice (some ad) m c) (hR : RdR w (some ad) m s D) (hD : Recs s D) (h63 : n + m ≤ maxLen) (hbd : (n + m) * bs ≤ 140737488355328)
    (h : ∀ v' w', OwnR w' B E s v' (n + m) (catR C n D) → w.grownBy w' v.ownBlock → (∀ k, v.ownBlock = some k → B ≤ k) → wpList Try.prog ops Q rest (a.put o.dst v') w') :
    wpList Try.prog ops Q (o :: rest) a w := by
  obtain ⟨i0, hi, hz0, hz1, hz2⟩ := info_parts hI
  refine wpList_append_own_at w hgd y x _ ho B E i0 z s bs hT hi hz0 hz1 hz2 hzs hs0 v n _ hs hown ad m c (cellsR D m) hx (cellsR_len hD m) (recs_news hD hs0 hR) (cellsR_one hD m) h63 hbd hb ?_
  intro v' w' h2 h3 h4 h5
  rw [cellsR_cat] at h2
  exact h v' w' h2 h3 (fun k e => (hown.lt k e).1)
theorem wpList_bs {rest : List Oper} {op : Oper} {a : Act} {w : World} (hgd : op.guard = none) (t : TypeId) (C : Array Value) (hx : (execOp a.eval op).run Try.prog w = .ok (.value (.slice (some ⟨w.heap.size, 0, none⟩) 1 1)) (w.alloc (.cells C t)))
    (N : Nat) (hN : w.heap.size = N) (h : ∀ w', Blk t w' N C → Below w.heap.size w w' → N + 1 ≤ w'.heap.size → wpList Try.prog ops Q rest (a.put op.dst (.slice (some ⟨N, 0, none⟩) 1 1)) w') : wpList Try.prog ops Q (op :: rest) a w := by
  subst hN
  refine wpList_plain hgd fun K hK => ?_
  unfold Oper.wp
  rw [hx, Oper.upon_value]
  exact hK _ _ (h _ (heap_alloc_new w _) ((Below.refl _ _).alloc (Nat.le_refl _) _) (by simp))
end
/-- a prefix -/
structure Pf where
  fam : Int
  len : Int
  z : Nat → Int
def pfC (p : Pf) : Array Value := pvC p.fam p.len p.z
def pf0 : Pf := ⟨0, 0, Z0⟩
def pfB (S : List Pf) (j : Nat) : Array Value := pfC (S.getD j pf0)
theorem pfB_recs (S : List Pf) : Recs 18 (pfB S) := fun j => ⟨rfl, fun u hu => by
  simp only [pfB, pfC, pvC, List.mem_cons, List.not_mem_nil, or_false] at hu
  rcases hu with rfl | rfl | rfl | rfl | rfl | rfl | rfl | rfl | rfl | rfl | rfl | rfl | rfl | rfl | rfl | rfl | rfl | rfl <;> rfl⟩
theorem pfC_recs (p : Pf) : Recs 18 (fun _ => pfC p) := fun j => pfB_recs [p] 0
theorem pf_snoc (S : List Pf) (p : Pf) : ∀ j, j < S.length + 1 → catR (pfB S) S.length (fun _ => pfC p) j = pfB (S ++ [p]) j := by
  intro j hj
  unfold catR pfB
  by_cases h : j < S.length
  · rw [if_pos h, List.getD_eq_getElem?_getD, List.getD_eq_getElem?_getD, List.getElem?_append_left h]
  · rw [if_neg h, show j = S.length by omega]
    simp
theorem info_pfE : (Try.prog.info? 32).map (fun i => (i.zero, i.size, i.bytes)) = some (some (.agg (pvC 0 0 Z0)), 18, 32) := by kernel_rfl
theorem bs_pf (W : World) (o : Oper) (e : Operand → Value) {x : Operand} (ho : o.op = .buildSlice 42 1 #[(0, x)]) (fam len : Int) (z : Nat → Int) (h0 : e x = .agg (pvC fam len z)) :
    (execOp e o).run Try.prog W = .ok (.value (.slice (some ⟨W.heap.size, 0, none⟩) 1 1)) (W.alloc (.cells (pvC fam len z) 32)) := by
  unfold execOp
  simp only [ho]
  simp [go_sem, h0]
  kernel_rfl
/-- what stands in a tree, in its order -/
def Ht.hl (fam : Int) : Ht → List Pf
  | .nil => []
  | .nd _ n z v l r => (if v.isSome then [⟨fam, n, z⟩] else []) ++ (l.hl fam ++ r.hl fam)
theorem Ht.hl_len (fam : Int) : ∀ t : Ht, (t.hl fam).length ≤ t.sz
  | .nil => Nat.le_refl _
  | .nd g n z v l r => by
    have h1 := Ht.hl_len fam l
    have h2 := Ht.hl_len fam r
    simp only [Ht.hl, Ht.sz, List.length_append]
    split <;> simp <;> omega
theorem Ht.hl_bits (fam : Int) : ∀ t : Ht, (t.hl fam).map (fun p => btP p.len.toNat p.z) = t.bits.lst
  | .nil => rfl
  | .nd g n z v l r => by
    simp only [Ht.hl, Ht.bits, Tr.lst, List.map_append, Ht.hl_bits fam l, Ht.hl_bits fam r]
    congr 1
    cases v <;> rfl
theorem OwnR.drewR {w : World} {base s m : Nat} {e : TypeId} {v : Value} {C : Nat → Array Value} (h : OwnR w base e s v m C) : OwnR w.drew base e s v m C := h.below ((Below.refl _ w).drew)
theorem below_grown {w w' : World} {B : Nat} {row : Option Nat} (hg : w.grownBy w' row) (hB : B ≤ w.heap.size) (hr : ∀ k, row = some k → B ≤ k) : Below B w w' := (Below.refl B w).grown hg hB hr
/-- what list leaves -/
def ListP (fam : Int) (t : Ht) (S : List Pf) (B : Nat) (w : World) (e : Ending) (w' : World) : Prop := ∃ v', e = .returned v' ∧ OwnR w' B 32 18 v' (S ++ t.hl fam).length (pfB (S ++ t.hl fam)) ∧ Below B w w'
set_option maxHeartbeats 16000000 in
set_option maxRecDepth 100000 in
theorem list_nil (fam : Int) (S : List Pf) (B : Nat) (v : Value) (w : World) (ho : OwnR w B 32 18 v S.length (pfB S)) : Calls Try.prog 51 #[.pointer none, v] w (ListP fam .nil S B w) := by
  have HO := Lib.hid ho
  clear ho
  go_enter Try.func51, Try.ntmps51
  go_wp2
  refine bodyPost_ret (v := v) (by simp [results, Try.f51, go_sem]) rfl ?_
  exact ⟨v, rfl, by rw [Ht.hl, List.append_nil]; exact HO.out, Below.refl _ _⟩
set_option maxHeartbeats 16000000 in
set_option maxRecDepth 100000 in
theorem list_1 (fam : Int) (x : Int) (g0 n : Nat) (z : Nat → Int) (l r : Ht) (S : List Pf) (B : Nat) (v : Value) (hl : ∀ v S W, l.At W fam → B ≤ W.heap.size → OwnR W B 32 18 v S.length (pfB S) → S.length + l.sz ≤ 1000000 → Calls Try.prog 51 #[l.root, v] W (ListP fam l S B W)) (hr : ∀ v S W, r.At W fam → B ≤ W.heap.size → OwnR W B 32 18 v S.length (pfB S) → S.length + r.sz ≤ 1000000 → Calls Try.prog 51 #[r.root, v] W (ListP fam r S B W))
    (w : World) (hk : Blk 106 w g0 (ndC fam n z true x l.root r.root)) (hla : l.At w fam) (hra : r.At w fam) (hg : g0 < B) (hlB : ∀ k, k ∈ l.fp → k < B) (hrB : ∀ k, k ∈ r.fp → k < B) (hB : B ≤ w.heap.size) (hs : S.length + (l.sz + r.sz + 1) ≤ 1000000) (ho : OwnR w B 32 18 v S.length (pfB S)) : Calls Try.prog 51 #[.pointer (some ⟨g0, 0, none⟩), v] w (ListP fam (.nd g0 n z (some x) l r) S B w) := by
  have HO := Lib.hid ho
  have KN := Lib.hid hk
  have HLR := Lib.hid (And.intro hla hra)
  have HLB := Lib.hid hlB
  have HRB := Lib.hid hrB
  have HG := Lib.hid hg
  have HB0 := Lib.hid hB
  have HSZ := Lib.hid hs
  have HCL := Lib.hid hl
  have HCR := Lib.hid hr
  have HBB := Lib.hid (Below.refl B w)
  clear ho hk hla hra hlB hrB hg hB hs hl hr
  go_enter Try.func51, Try.ntmps51
  have c18 : w.cell? ⟨g0, 18, none⟩ = some (.bool true) := (KN.out.cell 18).trans rfl
  go_wp2_with (refine wpList_ld (op := ⟨some 16, _, _, _, _, _⟩) (by rfl) 32 (.tmp 15) rfl g0 0 rfl (pvC fam n z) _ KN.out.ndpv Try.underlying32 rfl (hi_pv fam (n : Int) z) ?_; refine Hid.out ?_)
  refine Lib.hid ?_
  clear c18
  obtain ⟨N1, hN1⟩ : ∃ N, w.heap.size = N := ⟨_, rfl⟩
  have HN1 := Lib.hid hN1
  clear hN1
  go_wp2_with (refine wpList_bs (op := ⟨some 17, _, _, _, _, _⟩) rfl 32 (pvC fam n z) (bs_pf _ _ _ rfl fam (n : Int) z rfl) N1 HN1.out ?_; intro w1 k1 b1 s1; refine Hid.out ?_)
  refine Lib.hid ?_
  have KS := Lib.hid k1
  have HOn := Lib.hid (HO.out.below b1)
  clear HO
  have HO := HOn
  clear HOn
  have KNn := Lib.hid (KN.out.below b1 KN.out.lt)
  clear KN
  have KN := KNn
  clear KNn
  have HBBn := Lib.hid (HBB.out.trans (b1.mono HB0.out))
  clear HBB
  have HBB := HBBn
  clear HBBn
  have HB1 : Hid (B ≤ w1.heap.size) := Lib.hid (Nat.le_trans HB0.out b1.size)
  clear k1 b1
  go_wp2_with (refine app_Y (o := ⟨some 18, _, _, _, _, _⟩) 42 32 18 32 (.agg (pvC 0 0 Z0)) Try.underlying42 info_pfE rfl (by decide) rfl (.tmp 12) (.tmp 17) rfl B v S.length (pfB S) rfl HO.out HB1.out ⟨N1, 0, none⟩ 1 1 (fun _ => pfC ⟨fam, n, z⟩) rfl (rdR_blk KS.out) (pfC_recs _) (by have := HSZ.out; unfold maxLen; omega) (by have := HSZ.out; omega) ?_; intro v1 w2 o1 g1 e1; refine Hid.out ?_)
  refine Lib.hid ?_
  have hb2 := below_grown g1 HB1.out e1
  have HOn : Hid (OwnR w2 B 32 18 v1 (S ++ [(⟨fam, n, z⟩ : Pf)]).length (pfB (S ++ [(⟨fam, n, z⟩ : Pf)]))) := Lib.hid (by rw [List.length_append]; exact OwnR.congr o1 (fun j hj => pf_snoc S ⟨fam, n, z⟩ j hj))
  clear HO o1 g1 e1
  have HO := HOn
  clear HOn
  have KNn := Lib.hid (KN.out.below hb2 HG.out)
  clear KN
  have KN := KNn
  clear KNn
  have HBBn := Lib.hid (HBB.out.trans hb2)
  clear HBB
  have HBB := HBBn
  clear HBBn
  have HB2 : Hid (B ≤ w2.heap.size) := Lib.hid (Nat.le_trans HB1.out hb2.size)
  clear HB1 KS hb2
  go_wp2_with fail
  have HOd := Lib.hid (OwnR.drewR HO.out)
  clear HO
  refine wp_region_held_drew (S := fun w' => Blk 106 w' g0 (ndC fam n z true x l.root r.root) ∧ Below B w w') (by kernel_rfl) ⟨KN.out, HBB.out.drew⟩ (fun hS => ?_)
  generalize hW5 : w2.drew = W5 at hS HOd ⊢
  clear hW5 KN HBB
  have KN := Lib.hid hS.1
  have HBB := Lib.hid hS.2
  have HO := HOd
  clear HOd
  have HW5 : Hid (B ≤ W5.heap.size) := Lib.hid (Nat.le_trans HB0.out HBB.out.size)
  refine takeY (i := 0) (some 19) (v := .pointer (some ⟨g0, 0, none⟩)) rfl rfl (by kernel_rfl) (by kernel_rfl) (by kernel_rfl) (fun _ _ _ h => h) (by rfl) (fun w' hS => by clear hS; go_simp) hS ?_
  simp only [Act.put, List.setIfInBounds_toArray, List.set_cons_zero, List.set_cons_succ]
  refine takeY (i := 1) (some 20) (v := .pointer (some ⟨g0, 0, none⟩)) rfl rfl (by kernel_rfl) (by kernel_rfl) (by kernel_rfl) (fun _ _ _ h => h) (by rfl) (fun w' hS => by clear hS; go_simp) hS ?_
  simp only [Act.put, List.setIfInBounds_toArray, List.set_cons_zero, List.set_cons_succ]
  refine takeY (i := 2) (some 21) (v := .pointer (some ⟨g0, 20, none⟩)) rfl rfl (by kernel_rfl) (by kernel_rfl) (by kernel_rfl) (fun _ _ _ h => h) (by rfl) (fun w' hS => by clear hS; go_simp) hS ?_
  simp only [Act.put, List.setIfInBounds_toArray, List.set_cons_zero, List.set_cons_succ]
  refine takeY (i := 3) (some 22) (v := .pointer (some ⟨g0, 21, none⟩)) rfl rfl (by kernel_rfl) (by kernel_rfl) (by kernel_rfl) (fun _ _ _ h => h) (by rfl) (fun w' hS => by clear hS; go_simp) hS ?_
  simp only [Act.put, List.setIfInBounds_toArray, List.set_cons_zero, List.set_cons_succ]
  refine takeY (i := 4) (some 23) (v := r.root) rfl rfl (by kernel_rfl) (by kernel_rfl) (by kernel_rfl) (fun _ _ _ h => h) (by rfl) (fun w' hS => by (refine load_ptr _ _ _ rfl g0 21 rfl r ?_; exact (hS.1.cell 21).trans rfl)) hS ?_
  simp only [Act.put, List.setIfInBounds_toArray, List.set_cons_zero, List.set_cons_succ]
  refine takeY (i := 5) (some 24) (v := .pointer (some ⟨g0, 0, none⟩)) rfl rfl (by kernel_rfl) (by kernel_rfl) (by kernel_rfl) (fun _ _ _ h => h) (by rfl) (fun w' hS => by clear hS; go_simp) hS ?_
  simp only [Act.put, List.setIfInBounds_toArray, List.set_cons_zero, List.set_cons_succ]
  refine takeY (i := 6) (some 25) (v := .pointer (some ⟨g0, 0, none⟩)) rfl rfl (by kernel_rfl) (by kernel_rfl) (by kernel_rfl) (fun _ _ _ h => h) (by rfl) (fun w' hS => by clear hS; go_simp) hS ?_
  simp only [Act.put, List.setIfInBounds_toArray, List.set_cons_zero, List.set_cons_succ]
  refine takeY (i := 7) (some 26) (v := .pointer (some ⟨g0, 20, none⟩)) rfl rfl (by kernel_rfl) (by kernel_rfl) (by kernel_rfl) (fun _ _ _ h => h) (by rfl) (fun w' hS => by clear hS; go_simp) hS ?_
  simp only [Act.put, List.setIfInBounds_toArray, List.set_cons_zero, List.set_cons_succ]
  refine takeY (i := 8) (some 27) (v := .pointer (some ⟨g0, 20, none⟩)) rfl rfl (by kernel_rfl) (by kernel_rfl) (by kernel_rfl) (fun _ _ _ h => h) (by rfl) (fun w' hS => by clear hS; go_simp) hS ?_
  simp only [Act.put, List.setIfInBounds_toArray, List.set_cons_zero, List.set_cons_succ]
  refine takeY (i := 9) (some 28) (v := l.root) rfl rfl (by kernel_rfl) (by kernel_rfl) (by kernel_rfl) (fun _ _ _ h => h) (by rfl) (fun w' hS => by (refine load_ptr _ _ _ rfl g0 20 rfl l ?_; exact (hS.1.cell 20).trans rfl)) hS ?_
  simp only [Act.put, List.setIfInBounds_toArray, List.set_cons_zero, List.set_cons_succ]
  refine takeY (i := 10) (some 29) (v := v1) rfl rfl (by kernel_rfl) (by kernel_rfl) (by kernel_rfl) (fun _ _ _ h => h) (by rfl) (fun w' hS => by clear hS; go_simp) hS ?_
  simp only [Act.put, List.setIfInBounds_toArray, List.set_cons_zero, List.set_cons_succ]
  refine takeCE (i := 11) (some 30) 51 #[l.root, v1] (R := fun v w' => OwnR w' B 32 18 v ((S ++ [(⟨fam, n, z⟩ : Pf)]) ++ l.hl fam).length (pfB ((S ++ [(⟨fam, n, z⟩ : Pf)]) ++ l.hl fam)) ∧ Below B W5 w') rfl rfl (by kernel_rfl) (by rfl) (by go_simp) ((HCL.out v1 (S ++ [(⟨fam, n, z⟩ : Pf)]) W5 (HLR.out.1.below HBB.out HLB.out) HW5.out HO.out (by have := HSZ.out; simp only [List.length_append, List.length_singleton]; omega)).mono (by rintro e w9 ⟨v9, rfl, h9⟩; exact ⟨v9, rfl, h9⟩)) (fun v w' h => ⟨hS.1.below h.2 HG.out, hS.2.trans h.2⟩) (fun v6 W6 h hS2 => ?_)
  simp only [Act.put, List.setIfInBounds_toArray, List.set_cons_zero, List.set_cons_succ]
  have HO6 := Lib.hid h.1
  have HBB6 := Lib.hid hS2.2
  have HW6 : Hid (B ≤ W6.heap.size) := Lib.hid (Nat.le_trans HB0.out HBB6.out.size)
  clear h KN HBB HO hS
  have hS := hS2
  clear hS2
  refine takeCE (i := 12) (some 31) 51 #[r.root, v6] (R := fun v w' => OwnR w' B 32 18 v (((S ++ [(⟨fam, n, z⟩ : Pf)]) ++ l.hl fam) ++ r.hl fam).length (pfB (((S ++ [(⟨fam, n, z⟩ : Pf)]) ++ l.hl fam) ++ r.hl fam)) ∧ Below B W6 w') rfl rfl (by kernel_rfl) (by rfl) (by go_simp) ((HCR.out v6 ((S ++ [(⟨fam, n, z⟩ : Pf)]) ++ l.hl fam) W6 (HLR.out.2.below HBB6.out HRB.out) HW6.out HO6.out (by have := HSZ.out; have := Ht.hl_len fam l; simp only [List.length_append, List.length_singleton]; omega)).mono (by rintro e w9 ⟨v9, rfl, h9⟩; exact ⟨v9, rfl, h9⟩)) (fun v w' h => ⟨hS.1.below h.2 HG.out, hS.2.trans h.2⟩) (fun v7 W7 h hS2 => ?_)
  simp only [Act.put, List.setIfInBounds_toArray, List.set_cons_zero, List.set_cons_succ]
  have HO7 := Lib.hid h.1
  have HBB7 := Lib.hid hS2.2
  clear h HBB6 HO6 hS
  have hS := hS2
  clear hS2
  refine takeY (i := 13) (some 4) (v := v7) rfl rfl (by kernel_rfl) (by kernel_rfl) (by kernel_rfl) (fun _ _ _ h => h) (by rfl) (fun w' hS => by clear hS; go_simp) hS ?_
  simp only [Act.put, List.setIfInBounds_toArray, List.set_cons_zero, List.set_cons_succ]
  clear hS
  refine wpAnyH_done (by kernel_rfl) ?_ _
  go_wp2
  refine bodyPost_ret (v := v7) (by simp [results, Try.f51, go_sem]) rfl ?_
  have e9 : S ++ (Ht.nd g0 n z (some x) l r).hl fam = ((S ++ [(⟨fam, n, z⟩ : Pf)]) ++ l.hl fam) ++ r.hl fam := by simp [Ht.hl]
  exact ⟨v7, rfl, by rw [e9]; exact HO7.out, HBB7.out⟩
set_option maxHeartbeats 16000000 in
set_option maxRecDepth 100000 in
theorem list_0 (fam : Int) (g0 n : Nat) (z : Nat → Int) (l r : Ht) (S : List Pf) (B : Nat) (v : Value) (hl : ∀ v S W, l.At W fam → B ≤ W.heap.size → OwnR W B 32 18 v S.length (pfB S) → S.length + l.sz ≤ 1000000 → Calls Try.prog 51 #[l.root, v] W (ListP fam l S B W)) (hr : ∀ v S W, r.At W fam → B ≤ W.heap.size → OwnR W B 32 18 v S.length (pfB S) → S.length + r.sz ≤ 1000000 → Calls Try.prog 51 #[r.root, v] W (ListP fam r S B W))
    (w : World) (hk : Blk 106 w g0 (ndC fam n z false 0 l.root r.root)) (hla : l.At w fam) (hra : r.At w fam) (hg : g0 < B) (hlB : ∀ k, k ∈ l.fp → k < B) (hrB : ∀ k, k ∈ r.fp → k < B) (hB : B ≤ w.heap.size) (hs : S.length + (l.sz + r.sz + 1) ≤ 1000000) (ho : OwnR w B 32 18 v S.length (pfB S)) : Calls Try.prog 51 #[.pointer (some ⟨g0, 0, none⟩), v] w (ListP fam (.nd g0 n z none l r) S B w) := by
  have HO := Lib.hid ho
  have KN := Lib.hid hk
  have HLR := Lib.hid (And.intro hla hra)
  have HLB := Lib.hid hlB
  have HRB := Lib.hid hrB
  have HG := Lib.hid hg
  have HB0 := Lib.hid hB
  have HSZ := Lib.hid hs
  have HCL := Lib.hid hl
  have HCR := Lib.hid hr
  have HBB := Lib.hid (Below.refl B w)
  clear ho hk hla hra hlB hrB hg hB hs hl hr
  go_enter Try.func51, Try.ntmps51
  have c18 : w.cell? ⟨g0, 18, none⟩ = some (.bool false) := (KN.out.cell 18).trans rfl
  go_wp2_with fail
  clear c18
  have HOd := Lib.hid (OwnR.drewR HO.out)
  clear HO
  refine wp_region_held_drew (S := fun w' => Blk 106 w' g0 (ndC fam n z false 0 l.root r.root) ∧ Below B w w') (by kernel_rfl) ⟨KN.out, HBB.out.drew⟩ (fun hS => ?_)
  generalize hW5 : w.drew = W5 at hS HOd ⊢
  clear hW5 KN HBB
  have KN := Lib.hid hS.1
  have HBB := Lib.hid hS.2
  have HO := HOd
  clear HOd
  have HW5 : Hid (B ≤ W5.heap.size) := Lib.hid (Nat.le_trans HB0.out HBB.out.size)
  refine takeY (i := 0) (some 19) (v := .pointer (some ⟨g0, 0, none⟩)) rfl rfl (by kernel_rfl) (by kernel_rfl) (by kernel_rfl) (fun _ _ _ h => h) (by rfl) (fun w' hS => by clear hS; go_simp) hS ?_
  simp only [Act.put, List.setIfInBounds_toArray, List.set_cons_zero, List.set_cons_succ]
  refine takeY (i := 1) (some 20) (v := .pointer (some ⟨g0, 0, none⟩)) rfl rfl (by kernel_rfl) (by kernel_rfl) (by kernel_rfl) (fun _ _ _ h => h) (by rfl) (fun w' hS => by clear hS; go_simp) hS ?_
  simp only [Act.put, List.setIfInBounds_toArray, List.set_cons_zero, List.set_cons_succ]
  refine takeY (i := 2) (some 21) (v := .pointer (some ⟨g0, 20, none⟩)) rfl rfl (by kernel_rfl) (by kernel_rfl) (by kernel_rfl) (fun _ _ _ h => h) (by rfl) (fun w' hS => by clear hS; go_simp) hS ?_
  simp only [Act.put, List.setIfInBounds_toArray, List.set_cons_zero, List.set_cons_succ]
  refine takeY (i := 3) (some 22) (v := .pointer (some ⟨g0, 21, none⟩)) rfl rfl (by kernel_rfl) (by kernel_rfl) (by kernel_rfl) (fun _ _ _ h => h) (by rfl) (fun w' hS => by clear hS; go_simp) hS ?_
  simp only [Act.put, List.setIfInBounds_toArray, List.set_cons_zero, List.set_cons_succ]
  refine takeY (i := 4) (some 23) (v := r.root) rfl rfl (by kernel_rfl) (by kernel_rfl) (by kernel_rfl) (fun _ _ _ h => h) (by rfl) (fun w' hS => by (refine load_ptr _ _ _ rfl g0 21 rfl r ?_; exact (hS.1.cell 21).trans rfl)) hS ?_
  simp only [Act.put, List.setIfInBounds_toArray, List.set_cons_zero, List.set_cons_succ]
  refine takeY (i := 5) (some 24) (v := .pointer (some ⟨g0, 0, none⟩)) rfl rfl (by kernel_rfl) (by kernel_rfl) (by kernel_rfl) (fun _ _ _ h => h) (by rfl) (fun w' hS => by clear hS; go_simp) hS ?_
  simp only [Act.put, List.setIfInBounds_toArray, List.set_cons_zero, List.set_cons_succ]
  refine takeY (i := 6) (some 25) (v := .pointer (some ⟨g0, 0, none⟩)) rfl rfl (by kernel_rfl) (by kernel_rfl) (by kernel_rfl) (fun _ _ _ h => h) (by rfl) (fun w' hS => by clear hS; go_simp) hS ?_
  simp only [Act.put, List.setIfInBounds_toArray, List.set_cons_zero, List.set_cons_succ]
  refine takeY (i := 7) (some 26) (v := .pointer (some ⟨g0, 20, none⟩)) rfl rfl (by kernel_rfl) (by kernel_rfl) (by kernel_rfl) (fun _ _ _ h => h) (by rfl) (fun w' hS => by clear hS; go_simp) hS ?_
  simp only [Act.put, List.setIfInBounds_toArray, List.set_cons_zero, List.set_cons_succ]
  refine takeY (i := 8) (some 27) (v := .pointer (some ⟨g0, 20, none⟩)) rfl rfl (by kernel_rfl) (by kernel_rfl) (by kernel_rfl) (fun _ _ _ h => h) (by rfl) (fun w' hS => by clear hS; go_simp) hS ?_
  simp only [Act.put, List.setIfInBounds_toArray, List.set_cons_zero, List.set_cons_succ]
  refine takeY (i := 9) (some 28) (v := l.root) rfl rfl (by kernel_rfl) (by kernel_rfl) (by kernel_rfl) (fun _ _ _ h => h) (by rfl) (fun w' hS => by (refine load_ptr _ _ _ rfl g0 20 rfl l ?_; exact (hS.1.cell 20).trans rfl)) hS ?_
  simp only [Act.put, List.setIfInBounds_toArray, List.set_cons_zero, List.set_cons_succ]
  refine takeY (i := 10) (some 29) (v := v) rfl rfl (by kernel_rfl) (by kernel_rfl) (by kernel_rfl) (fun _ _ _ h => h) (by rfl) (fun w' hS => by clear hS; go_simp) hS ?_
  simp only [Act.put, List.setIfInBounds_toArray, List.set_cons_zero, List.set_cons_succ]
  refine takeCE (i := 11) (some 30) 51 #[l.root, v] (R := fun v w' => OwnR w' B 32 18 v (S ++ l.hl fam).length (pfB (S ++ l.hl fam)) ∧ Below B W5 w') rfl rfl (by kernel_rfl) (by rfl) (by go_simp) ((HCL.out v S W5 (HLR.out.1.below HBB.out HLB.out) HW5.out HO.out (by have := HSZ.out; omega)).mono (by rintro e w9 ⟨v9, rfl, h9⟩; exact ⟨v9, rfl, h9⟩)) (fun v w' h => ⟨hS.1.below h.2 HG.out, hS.2.trans h.2⟩) (fun v6 W6 h hS2 => ?_)
  simp only [Act.put, List.setIfInBounds_toArray, List.set_cons_zero, List.set_cons_succ]
  have HO6 := Lib.hid h.1
  have HBB6 := Lib.hid hS2.2
  have HW6 : Hid (B ≤ W6.heap.size) := Lib.hid (Nat.le_trans HB0.out HBB6.out.size)
  clear h KN HBB HO hS
  have hS := hS2
  clear hS2
  refine takeCE (i := 12) (some 31) 51 #[r.root, v6] (R := fun v w' => OwnR w' B 32 18 v ((S ++ l.hl fam) ++ r.hl fam).length (pfB ((S ++ l.hl fam) ++ r.hl fam)) ∧ Below B W6 w') rfl rfl (by kernel_rfl) (by rfl) (by go_simp) ((HCR.out v6 (S ++ l.hl fam) W6 (HLR.out.2.below HBB6.out HRB.out) HW6.out HO6.out (by have := HSZ.out; have := Ht.hl_len fam l; simp only [List.length_append, List.length_singleton]; omega)).mono (by rintro e w9 ⟨v9, rfl, h9⟩; exact ⟨v9, rfl, h9⟩)) (fun v w' h => ⟨hS.1.below h.2 HG.out, hS.2.trans h.2⟩) (fun v7 W7 h hS2 => ?_)
  simp only [Act.put, List.setIfInBounds_toArray, List.set_cons_zero, List.set_cons_succ]
  have HO7 := Lib.hid h.1
  have HBB7 := Lib.hid hS2.2
  clear h HBB6 HO6 hS
  have hS := hS2
  clear hS2
  refine takeY (i := 13) (some 4) (v := v7) rfl rfl (by kernel_rfl) (by kernel_rfl) (by kernel_rfl) (fun _ _ _ h => h) (by rfl) (fun w' hS => by clear hS; go_simp) hS ?_
  simp only [Act.put, List.setIfInBounds_toArray, List.set_cons_zero, List.set_cons_succ]
  clear hS
  refine wpAnyH_done (by kernel_rfl) ?_ _
  go_wp2
  refine bodyPost_ret (v := v7) (by simp [results, Try.f51, go_sem]) rfl ?_
  have e9 : S ++ (Ht.nd g0 n z none l r).hl fam = (S ++ l.hl fam) ++ r.hl fam := by simp [Ht.hl]
  exact ⟨v7, rfl, by rw [e9]; exact HO7.out, HBB7.out⟩
theorem list_any (fam : Int) (B : Nat) : ∀ (t : Ht) (v : Value) (S : List Pf) (w : World), t.At w fam → (∀ k, k ∈ t.fp → k < B) → B ≤ w.heap.size → OwnR w B 32 18 v S.length (pfB S) → S.length + t.sz ≤ 1000000 →
    Calls Try.prog 51 #[t.root, v] w (ListP fam t S B w)
  | .nil, v, S, w, _, _, _, ho, _ => list_nil fam S B v w ho
  | .nd g n z h l r, v, S, w, hAt, hB, hw, ho, hs => by
    obtain ⟨hk, _, _, hl, hr⟩ := hAt
    have h1 : ∀ k, k ∈ l.fp → k < B := fun k hk => hB k (mem_nd.2 (.inr (.inl hk)))
    have h2 : ∀ k, k ∈ r.fp → k < B := fun k hk => hB k (mem_nd.2 (.inr (.inr hk)))
    cases h with
    | some x => exact list_1 fam x g n z l r S B v (fun v S W a b c d => list_any fam B l v S W a h1 b c d) (fun v S W a b c d => list_any fam B r v S W a h2 b c d) w hk hl hr (hB g (mem_nd.2 (.inl rfl))) h1 h2 hw hs ho
    | none => exact list_0 fam g n z l r S B v (fun v S W a b c d => list_any fam B l v S W a h1 b c d) (fun v S W a b c d => list_any fam B r v S W a h2 b c d) w hk hl hr (hB g (mem_nd.2 (.inl rfl))) h1 h2 hw hs ho
end Go.Proofs.Ytjnbemopfhinbaa
