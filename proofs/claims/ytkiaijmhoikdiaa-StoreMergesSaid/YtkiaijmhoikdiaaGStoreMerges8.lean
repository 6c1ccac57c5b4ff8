/- Texts of this claim put together; each theorem states its conditions. -/
import Derived.Test.YtkiaijmhoikdiaaGStoreMerges4
import Derived.Test.YtkiaijmhoikdiaaGStoreMerges7
import Derived.Deep.Slices
import Derived.Test.YtkiaijmhoikdiaaGStoreMerges1
import Derived.Deep.DeepCutAuto
import Derived.Deep.CutBlock
/- Lists of packets as bytes; two stores side by side. Each theorem states its conditions. -/
namespace Go.Proofs.Ytkiaijmhoikdiaa
open Go.RowKit Go.MapKept
set_option linter.unusedVariables false
set_option linter.unusedSimpArgs false

/-- a packet's bytes in a block of its own -/
structure Bw where
  g : Nat
  n : Nat
  c : Nat
  z : Nat → Int
instance : Inhabited Bw := ⟨⟨0, 0, 0, fun _ => 0⟩⟩
def bwC (x : Bw) : Array Value := #[.slice (some ⟨x.g, 0, none⟩) x.n x.c]
def bwA (S : List Bw) : Nat → Array Value := fun j => bwC (S[j]?.getD default)
def hdB (x : Bw) : Hd := hdZ x.n x.z
theorem recs_bw (S : List Bw) : Recs 1 (bwA S) := fun j => ⟨rfl, fun u hu => by
  have : u = .slice (some ⟨(S[j]?.getD default).g, 0, none⟩) (S[j]?.getD default).n (S[j]?.getD default).c := by simpa [bwA, bwC] using hu
  subst this
  rfl⟩
theorem bw_ones (x : Bw) : ∀ u ∈ (bwC x).toList, u.oneCell' = true := fun u hu => by
  have : u = .slice (some ⟨x.g, 0, none⟩) x.n x.c := by simpa [bwC] using hu
  subst this
  rfl
theorem bwA_at (S : List Bw) (j : Nat) (x : Bw) (h : S[j]? = some x) : bwA S j = bwC x := by unfold bwA; rw [h]; rfl
/-- bytes that are an LSP -/
def BwOk (w : World) (x : Bw) : Prop := Own8 w x.g x.n x.c x.z ∧ cls (x.z 4) = 2 ∧ (27 ≤ x.n ∧ x.n ≤ 1492) ∧ ∃ m, GoodZ x.z x.n m
theorem BwOk.below {w w' : World} {x : Bw} (h : BwOk w x) (hb : Below w.heap.size w w') : BwOk w' x := ⟨Own8.below h.1 hb (Own8.lt h.1), h.2⟩
theorem BwOk.lt {w : World} {x : Bw} (h : BwOk w x) : x.g < w.heap.size := Own8.lt h.1
theorem BwOk.bd {w : World} {x : Bw} (h : BwOk w x) : ∀ j, 0 ≤ x.z j ∧ x.z j ≤ 255 := h.1.2
theorem hdB_ok {w : World} {x : Bw} (h : BwOk w x) : IdOk (hdB x).id ∧ (hdB x).n = x.n ∧ (hdB x).z = x.z ∧ 0 ≤ (hdB x).li ∧ (hdB x).li ≤ 65535 := by
  refine ⟨idZ_bd x.z h.bd, rfl, rfl, ?_, ?_⟩
  · show (0 : Int) ≤ (((numZ (fun j => x.z (10 + j)) 0 2).toNat : Nat) : Int)
    omega
  · show (((numZ (fun j => x.z (10 + j)) 0 2).toNat : Nat) : Int) ≤ 65535
    have := numZ_lt (fun j => x.z (10 + j)) 0 2 (fun j => h.bd _)
    omega
/-- an append to a list of lists of bytes leaves bytes as they lie -/
theorem BwOk.grown {w w' : World} {x : Bw} {B m : Nat} {v : Value} {C : Nat → Array Value} (h : BwOk w x) (ho : OwnR w B 43 1 v m C) (hg : w.grownBy w' v.ownBlock) : BwOk w' x := by
  refine ⟨Own8.block h.1 (hg.block _ (Own8.lt h.1) (fun e => ?_)), h.2⟩
  obtain ⟨⟨cur, h1, _⟩, _⟩ := h.1
  rcases ho.2 with ⟨rfl, _⟩ | ⟨g, cap, cur2, rfl, _, h3, _⟩
  · cases e
  · have e2 : g = x.g := by simpa [Value.ownBlock] using e.symm
    rw [e2, h1] at h3
    injection h3 with h3
    injection h3 with _ h3 _
    exact absurd h3 (by decide)
/-- a store that is at work: its own block, its map -/
def Sh (w : World) (s b : Nat) : Prop := (∃ r, Blk 79 w s (stC b r)) ∧ ∃ es c, w.heap[b]? = some (.map es c)
theorem StAt.sh {w : World} {B s b k : Nat} {H : Nat → Option Hd} {r : Bool} (h : StAt w B s b H k r) : Sh w s b := ⟨⟨r, h.blk⟩, by obtain ⟨M, ⟨es, c, h1, _⟩, _⟩ := h.map; exact ⟨es, c, h1⟩⟩
theorem StAt.mono {w : World} {B B' s b k : Nat} {H : Nat → Option Hd} {r : Bool} (h : StAt w B s b H k r) (hb : B' ≤ B) : StAt w B' s b H k r := by
  obtain ⟨h1, h2, h3, M, h4, h5, h6, h7⟩ := h
  exact ⟨by omega, by omega, h3, M, h4, h5, fun i g x e1 e2 => by obtain ⟨⟨a0, ro, oa, c, a1, a2, a3, a4⟩, a5⟩ := h6 i g x e1 e2; exact ⟨⟨by omega, ro, oa, c, a1, a2, by omega, a4⟩, a5⟩, h7⟩
/-- the other store stays -/
theorem StAt.other {w w' : World} {B s b k s2 b2 : Nat} {H : Nat → Option Hd} {r : Bool} (h : StAt w B s b H k r) (hs : Sh w s2 b2) (hf : Fr w w' s2 b2) (h1 : s ≠ s2) (h2 : b ≠ b2) : StAt w' B s b H k r := by
  obtain ⟨⟨r2, hs1⟩, es2, c2, hs2⟩ := hs
  have lt_s := h.lt
  have lt_b := h.ltb
  obtain ⟨g1, g2, g3, M, ⟨es, c, g4, g4'⟩, g5, g6, g7⟩ := h
  have n1 : s ≠ b2 := by
    rintro rfl
    have e1 : w.heap[s]? = _ := g3
    rw [hs2] at e1
    cases e1
  have n2 : b ≠ s2 := by
    rintro rfl
    have e1 : w.heap[b]? = _ := hs1
    rw [g4] at e1
    cases e1
  exact ⟨g1, g2, (hf.block s lt_s h1 n1).trans g3, M, ⟨es, c, (hf.block b lt_b n2 h2).trans g4, g4'⟩, g5, fun i g x e1 e2 => by
    obtain ⟨a, c⟩ := g6 i g x e1 e2
    exact ⟨a.fr hs1 ⟨es2, c2, hs2⟩ hf, c⟩, g7⟩
theorem OwnR.fr {w w' : World} {B m s2 b2 : Nat} {v : Value} {C : Nat → Array Value} (h : OwnR w B 43 1 v m C) (hs : Sh w s2 b2) (hf : Fr w w' s2 b2) : OwnR w' B 43 1 v m C := by
  obtain ⟨⟨r2, hs1⟩, es2, c2, hs2⟩ := hs
  rcases h with ⟨h1, h2 | ⟨g, cap, cur, e1, e2, e3, rest⟩⟩
  · exact ⟨h1, .inl h2⟩
  · refine ⟨h1, .inr ⟨g, cap, cur, e1, e2, (hf.block g (Array.getElem?_eq_some_iff.1 e3).1 ?_ ?_).trans e3, rest⟩⟩
    · rintro rfl
      have e4 : w.heap[g]? = _ := hs1
      rw [e3] at e4
      injection e4 with e4
      injection e4 with _ e4 _
      exact absurd e4 (by decide)
    · rintro rfl
      rw [hs2] at e3
      cases e3
theorem infoA_bs : (Try.prog.info? 43).map (fun i => (i.zero, i.size, i.bytes)) = some (some (.slice none 0 0), 1, 24) := by kernel_rfl
theorem bs_bw0 (W : World) (o : Oper) (e : Operand → Value) (ho : o.op = .buildSlice 54 0 #[]) : (execOp e o).run Try.prog W = .ok (.value (.slice (some ⟨W.heap.size, 0, none⟩) 0 0)) (W.alloc (.cells #[] 43)) := by
  unfold execOp
  simp only [ho]
  kernel_rfl
theorem bs_bw1 (W : World) (o : Oper) (e : Operand → Value) {x : Operand} (ho : o.op = .buildSlice 54 1 #[(0, x)]) (b : Bw) (h0 : e x = .slice (some ⟨b.g, 0, none⟩) b.n b.c) : (execOp e o).run Try.prog W = .ok (.value (.slice (some ⟨W.heap.size, 0, none⟩) 1 1)) (W.alloc (.cells (bwC b) 43)) := by
  unfold execOp
  simp only [ho]
  simp only [List.map_toArray, List.map_cons, List.map_nil, h0]
  kernel_rfl
theorem bw_snoc (S : List Bw) (x : Bw) : ∀ j, j < S.length + 1 → catR (bwA S) S.length (fun _ => bwC x) j = bwA (S ++ [x]) j := by
  intro j hj
  unfold catR bwA
  by_cases h : j < S.length
  · rw [if_pos h, List.getElem?_append_left h]
  · rw [if_neg h, show j = S.length by omega, List.getElem?_append_right (Nat.le_refl _)]
    simp
theorem bw_cat (S T : List Bw) : ∀ j, j < S.length + T.length → catR (bwA S) S.length (bwA T) j = bwA (S ++ T) j := by
  intro j hj
  unfold catR bwA
  by_cases h : j < S.length
  · rw [if_pos h, List.getElem?_append_left h]
  · rw [if_neg h, List.getElem?_append_right (by omega)]
theorem bw_drop (S : List Bw) (k : Nat) : (fun j => bwA S (k + j)) = bwA (S.drop k) := by
  funext j
  unfold bwA
  rw [List.getElem?_drop]
theorem bw_take (S : List Bw) (k : Nat) : ∀ j, j < k → bwA S j = bwA (S.take k) j := by
  intro j hj
  unfold bwA
  rw [List.getElem?_take_of_lt hj]
theorem RdR.fromB {w : World} {b off n : Nat} {C : Nat → Array Value} (h : RdR w (some ⟨b, off, none⟩) n 1 C) (k : Nat) (hk : k ≤ n) : RdR w (some ⟨b, off + k, none⟩) (n - k) 1 (fun j => C (k + j)) := by
  rcases h with rfl | ⟨b', o', e, h1, h2⟩
  · exact .inl (by omega)
  · injection e with e
    injection e with e1 e2
    subst e1 e2
    refine .inr ⟨b, off + k, rfl, h1, fun j hj => ?_⟩
    have := h2 (k + j) (by omega)
    rwa [Nat.add_mul, Nat.mul_one, ← Nat.add_assoc] at this
theorem bw_cell {w : World} {A : Option Addr} {S : List Bw} {n i : Nat} {x : Bw} (h : RdR w A n 1 (bwA S)) (hi : i < n) (hx : S[i]? = some x) : ∃ b off, A = some ⟨b, off, none⟩ ∧ w.cell? ⟨b, off + i, none⟩ = some (.slice (some ⟨x.g, 0, none⟩) x.n x.c) := by
  obtain ⟨b, off, rfl, hr⟩ := h.row (by omega)
  refine ⟨b, off, rfl, ?_⟩
  have h9 := hr.2 i hi 0 (.slice (some ⟨x.g, 0, none⟩) x.n x.c) (by rw [bwA_at S i x hx]; rfl)
  rw [Nat.mul_one] at h9
  exact h9
section
variable {ops : Array Oper} {Q : Exit → Act → World → Prop}
/-- an append of what may be nil -/
theorem app_Z {rest : List Oper} {o : Oper} {a : Act} {w : World} (T E : TypeId) (s bs : Nat) (z : Value) (hT : Try.prog.underlying T = some (.slice E)) (hI : (Try.prog.info? E).map (fun i => (i.zero, i.size, i.bytes)) = some (some z, s, bs)) (hzs : z.cells.size = s) (hs0 : 0 < s)
    (hgd : o.guard = none) (y x : Operand) (ho : o.op = .call { callee := .builtin .append, args := #[y, x], argTypes := #[T, T] })
    (B : Nat) (v : Value) (n : Nat) (C : Nat → Array Value) (hs : a.eval y = v) (hown : OwnR w B E s v n C) (hb : B ≤ w.heap.size)
    (ao : Option Addr) (m c : Nat) (D : Nat → Array Value) (hx : a.eval x = .slice ao m c) (hno : ao = none → m = 0 ∧ c = 0) (hR : RdR w ao m s D) (hD : Recs s D) (h63 : n + m ≤ maxLen) (hbd : (n + m) * bs ≤ 140737488355328)
    (h : ∀ v' w', OwnR w' B E s v' (n + m) (catR C n D) → w.grownBy w' v.ownBlock → (∀ k, v.ownBlock = some k → B ≤ k) → wpList Try.prog ops Q rest (a.put o.dst v') w') :
    wpList Try.prog ops Q (o :: rest) a w := by
  rcases ao with _ | ad
  · obtain ⟨rfl, rfl⟩ := hno rfl
    obtain ⟨i0, hi, hz0, hz1, hz2⟩ := info_parts hI
    refine wpList_append_own_none hgd y x T ho B E i0 s hT hi v n _ hs hown hx (h v w ?_ (World.grownBy.refl _ _) (fun k e => (hown.lt k e).1))
    exact OwnR.congr hown (fun j hj => by unfold catR; rw [if_pos (by omega)])
  · exact app_Y T E s bs z hT hI hzs hs0 hgd y x ho B v n C hs hown hb ad m c D hx hR hD h63 hbd h
end
section
variable {ops : Array Oper} {Q : Exit → Act → World → Prop} {md : Region.Mode} {S : World → Prop}
theorem takeYA {i : Nat} {oi : Oper} (d : Option Tmp) {fuel : Nat} {listed : Array Bool} {a : Act} {w : World} (T E : TypeId) (s bs : Nat) (z : Value) (hT : Try.prog.underlying T = some (.slice E)) (hI : (Try.prog.info? E).map (fun i => (i.zero, i.size, i.bytes)) = some (some z, s, bs)) (hzs : z.cells.size = s) (hs0 : 0 < s)
    (hi : ops[i]? = some oi) (hd : oi.dst = d) (hr : Region.ready md ops listed = [i]) (hw : Region.wanted oi (yielded ops a.tmps) = true) (y x : Operand) (ho : oi.op = .call { callee := .builtin .append, args := #[y, x], argTypes := #[T, T] })
    (B : Nat) (v : Value) (n : Nat) (C : Nat → Array Value) (hs : a.eval y = v) (hown : OwnR w B E s v n C) (hb : B ≤ w.heap.size)
    (ad : Addr) (m c : Nat) (D : Nat → Array Value) (hx : a.eval x = .slice (some ad) m c) (hR : RdR w (some ad) m s D) (hD : Recs s D) (h63 : n + m ≤ maxLen) (hbd : (n + m) * bs ≤ 140737488355328)
    (h : ∀ v' w', OwnR w' B E s v' (n + m) (catR C n D) → w.grownBy w' v.ownBlock → (∀ k, v.ownBlock = some k → B ≤ k) → S w' ∧ wpAnyH Try.prog md ops Q S fuel (listed.setIfInBounds i true) (a.put d v') w') :
    wpAnyH Try.prog md ops Q S (fuel + 1) listed a w := by
  obtain ⟨i0, hi0, hz0, hz1, hz2⟩ := info_parts hI
  obtain ⟨v', w', hrun, h2, h3, h4, h5⟩ := run_append_own_at (P := Try.prog) w B T oi.type E i0 z s bs hT hi0 hz0 hz1 hz2 hzs hs0 v n _ hown ad m c (cellsR D m) (cellsR_len hD m) (recs_news hD hs0 hR) (cellsR_one hD m) h63 hbd hb
  rw [cellsR_cat] at h2
  obtain ⟨g1, g2⟩ := h v' w' h2 h3 (fun k e => (hown.lt k e).1)
  refine takeV d hi hd hr hw ?_ g1 g2
  unfold execOp
  simp only [ho, resolve, invoke, builtin, Sem.run_bind, Sem.run_pure, Result.andThen_ok, List.map_toArray, List.map_cons, List.map_nil, hs, hx, hrun]
theorem takeB0 {i : Nat} {oi : Oper} (d : Option Tmp) {fuel : Nat} {listed : Array Bool} {a : Act} {w : World} (hi : ops[i]? = some oi) (hd : oi.dst = d)
    (hr : Region.ready md ops listed = [i]) (hw : Region.wanted oi (yielded ops a.tmps) = true) (ho : oi.op = .buildSlice 54 0 #[]) (N : Nat) (hN : w.heap.size = N)
    (h : ∀ w', Blk 43 w' N #[] → Below w.heap.size w w' → S w' ∧ wpAnyH Try.prog md ops Q S fuel (listed.setIfInBounds i true) (a.put d (.slice (some ⟨N, 0, none⟩) 0 0)) w') : wpAnyH Try.prog md ops Q S (fuel + 1) listed a w := by
  subst hN
  obtain ⟨h1, h2⟩ := h _ (heap_alloc_new w _) ((Below.refl _ _).alloc (Nat.le_refl _) _)
  exact takeV d hi hd hr hw (bs_bw0 w oi a.eval ho) h1 h2
end
/-- a slice of nothing is a list of the call's own -/
theorem own_empty {w : World} {N : Nat} (h : Blk 43 w N #[]) (C : Nat → Array Value) : OwnR w N 43 1 (.slice (some ⟨N, 0, none⟩) 0 0) 0 C := ⟨rfl, .inr ⟨N, 0, #[], rfl, Nat.le_refl _, h, Nat.le_refl _, by decide, rfl, rfl⟩⟩
end Go.Proofs.Ytkiaijmhoikdiaa

/- The document's order of IDs, and its ends. Each theorem states its conditions. -/
namespace Go.Proofs.Ytkiaijmhoikdiaa
open Go.RowKit
set_option linter.unusedVariables false
set_option linter.unusedSimpArgs false

def mxI : Nat := 18446744073709551615
theorem mx_ok : IdOk mxI := by unfold IdOk mxI; decide
theorem le_mx {n : Nat} (h : IdOk n) : n ≤ mxI := by unfold IdOk at h; unfold mxI; omega
theorem buildF_id0 (o : Oper) (e : Operand → Value) (ho : o.op = .build 28 #[]) (W : World) : (execOp e o).run Try.prog W = .ok (.value (.agg (iC 0))) W := by
  unfold execOp
  simp only [ho]
  kernel_rfl
theorem iC_mx : iC mxI = #[.int .u8 255, .int .u8 255, .int .u8 255, .int .u8 255, .int .u8 255, .int .u8 255, .int .u8 255, .int .u8 255] := by kernel_rfl
set_option maxHeartbeats 8000000 in
set_option maxRecDepth 100000 in
theorem first_any (w : World) : Calls Try.prog 17 #[] w fun e w' => e = .returned (.agg (iC 0)) ∧ Below w.heap.size w w' := by
  go_enter Try.func17, Try.ntmps17
  have HB := Lib.hid (Below.refl w.heap.size w)
  obtain ⟨N1, hN1⟩ : ∃ N, w.heap.size = N := ⟨_, rfl⟩
  have HN1 := Lib.hid hN1
  clear hN1
  go_wp2_with (refine wpList_new (op := ⟨some 0, _, _, _, _, _⟩) rfl 28 rfl (iC 0) zero_idS N1 HN1.out ?_; intro w1 k1 b1 s1; refine Hid.out ?_)
  refine Lib.hid ?_
  have K0 := Lib.hid k1
  clear k1
  have le_HB_N1 : w.heap.size ≤ N1 := by rw [← HN1.out]; exact HB.out.size
  have HBn := Lib.hid (HB.out.trans (b1.mono HB.out.size))
  clear HB
  have HB := HBn
  clear HBn
  clear b1 HN1
  go_wp2_with (refine wpList_v (op := ⟨some 1, _, _, _, _, _⟩) rfl (.agg (iC 0)) (buildF_id0 _ _ rfl _) ?_; refine Hid.out ?_)
  refine Lib.hid ?_
  go_wp2_with (refine wpList_st rfl 28 (.tmp 0) (.tmp 1) rfl N1 0 rfl (.agg (iC 0)) (iC 0) rfl rfl info_iC (idC_one _) K0.out (Nat.le_of_ble_eq_true rfl) (C' := iC 0) (id_over _ _) ?_; intro w2 q1; refine Hid.out ?_)
  refine Lib.hid ?_
  have HBn := Lib.hid (HB.out.trans (q1.2.1 _ (by omega)))
  clear HB
  have HB := HBn
  clear HBn
  have K0n : Hid (Blk 28 w2 N1 (iC 0)) := Lib.hid q1.1
  clear K0
  have K0 := K0n
  clear K0n q1
  go_wp2_with fail
  exact bodyPost_ret (results_1 rfl _ w2 N1 (iC 0) Try.underlying28 rfl info_iC rfl K0.out) rfl ⟨rfl, HB.out⟩
set_option maxHeartbeats 8000000 in
set_option maxRecDepth 100000 in
theorem last_any (w : World) : Calls Try.prog 18 #[] w fun e w' => e = .returned (.agg (iC mxI)) ∧ Below w.heap.size w w' := by
  go_enter Try.func18, Try.ntmps18
  have HB := Lib.hid (Below.refl w.heap.size w)
  obtain ⟨N1, hN1⟩ : ∃ N, w.heap.size = N := ⟨_, rfl⟩
  have HN1 := Lib.hid hN1
  clear hN1
  go_wp2_with (refine wpList_new (op := ⟨some 0, _, _, _, _, _⟩) rfl 28 rfl (iC 0) zero_idS N1 HN1.out ?_; intro w1 k1 b1 s1; refine Hid.out ?_)
  refine Lib.hid ?_
  have K0 := Lib.hid k1
  clear k1
  have le_HB_N1 : w.heap.size ≤ N1 := by rw [← HN1.out]; exact HB.out.size
  have HBn := Lib.hid (HB.out.trans (b1.mono HB.out.size))
  clear HB
  have HB := HBn
  clear HBn
  clear b1 HN1
  go_wp2_with (refine wpList_st rfl 28 (.tmp 0) (.tmp 3) rfl N1 0 rfl (.agg (iC mxI)) (iC mxI) (by rw [iC_mx]; rfl) rfl info_iC (idC_one _) K0.out (Nat.le_of_ble_eq_true rfl) (C' := iC mxI) (id_over _ _) ?_; intro w2 q1; refine Hid.out ?_)
  refine Lib.hid ?_
  have HBn := Lib.hid (HB.out.trans (q1.2.1 _ (by omega)))
  clear HB
  have HB := HBn
  clear HBn
  have K0n : Hid (Blk 28 w2 N1 (iC mxI)) := Lib.hid q1.1
  clear K0
  have K0 := K0n
  clear K0n q1
  go_wp2_with fail
  exact bodyPost_ret (results_1 rfl _ w2 N1 (iC mxI) Try.underlying28 rfl info_iC rfl K0.out) rfl ⟨rfl, HB.out⟩
end Go.Proofs.Ytkiaijmhoikdiaa

/- A list of packets that came in as an argument can be read. No condition. -/
namespace Go.Proofs.Ytkiaijmhoikdiaa
open Go.RowKit Go.ChangeShapes Go.WideShapes
set_option linter.unusedVariables false

theorem open_recsW {α : Type} {t e : TypeId} {s bs : Nat} {C : α → Array Value} {Ok : α → Prop} (ht : Try.prog.underlying t = some (.slice e)) (hs : Try.prog.cellsOf e = s) (hbs : Try.prog.bytesOf e = bs) (hs1 : 0 < s) (hC : ∀ r, (C r).size = s)
    {H : Type} {enc : TypeId × Value → H} {w : World} {base : Nat} {held : Bool} {fuel : Nat} {cs0 : List Value} {y : DataW H × List MemPlace}
    (hel : ∀ (n : Nat) (cs : List Value) (x : DataW H × List MemPlace), DataW.trod enc Try.prog w base (fun _ => true) held n e cs = some x → (∀ k ∈ x.1.weights Try.prog e, k ≤ 140737488351232) → ∃ r, cs = (C r).toList ∧ Ok r) (h0 : ∃ r, Ok r)
    (hf : DataW.trod enc Try.prog w base (fun _ => true) held fuel t cs0 = some y) (hsz : ∀ n ∈ y.1.weights Try.prog t, n ≤ 140737488351232) :
    ∃ (a : Option Addr) (len cap : Nat) (L : Nat → α), cs0 = [.slice a len cap] ∧ RdR w a len s (fun j => C (L j)) ∧ (∀ j, Ok (L j)) ∧ (a = none → len = 0 ∧ cap = 0) ∧ len ≤ cap ∧ cap * bs ≤ 140737488351232 := by
  obtain ⟨r0, hr0⟩ := h0
  rcases Deep.open_slice ht hf with ⟨hcs, _⟩ | ⟨x, len, cap, mm, n, D, Pl, hcs, _, hl, hm, hmm, rfl, hcell⟩
  · exact ⟨none, 0, 0, fun _ => r0, hcs, .inl rfl, fun _ => hr0, fun _ => ⟨rfl, rfl⟩, Nat.le_refl _, by omega⟩
  · rw [if_pos rfl] at hmm
    subst hmm
    have hw0 := hsz ((len + (mm - len)) * bs) (by
      simp only [DataW.weights, ht, List.length_map, List.length_range, hbs]
      exact List.mem_cons_self ..)
    have each : ∀ i, i < len → ∃ r : α, Ok r ∧ ∀ j u, (C r).toList[j]? = some u → w.cell? ((x.add (i * s)).add j) = some u := by
      intro i hi
      obtain ⟨cs', hc, ht'⟩ := hcell i (by omega)
      rw [hs] at hc
      obtain ⟨_, hcl, hat⟩ := World.cells?_some hc
      have hwi : ∀ k ∈ (D i).weights Try.prog e, k ≤ 140737488351232 := by
        intro k hk
        refine hsz k ?_
        simp only [DataW.weights, ht]
        exact List.mem_cons_of_mem _ (List.mem_append_left _ (mem_weightsAll (d := D i) (List.mem_map.2 ⟨i, by simpa using hi, rfl⟩) k hk))
      obtain ⟨r, rfl, hr⟩ := hel n cs' _ ht' hwi
      refine ⟨r, hr, fun j u hu => ?_⟩
      have hj : j < s := by
        rcases Nat.lt_or_ge j s with h | h
        · exact h
        · rw [List.getElem?_eq_none (by rw [Array.length_toList, hC]; exact h)] at hu; cases hu
      rw [hat j hj, hu]
    haveI : Inhabited α := ⟨r0⟩
    obtain ⟨f, hf'⟩ := Deep.choose_lt each
    refine ⟨some x, len, mm, fun i => if i < len then f i else r0, hcs, ?_, fun j => ?_, fun e => (by cases e), hl, ?_⟩
    · rcases Nat.eq_zero_or_pos len with h0 | h0
      · exact .inl h0
      · obtain ⟨b, off, spot⟩ := x
        have hc0 := (hf' 0 h0).2 0 ((C (f 0))[0]'(by rw [hC]; exact hs1)) (by rw [Array.getElem?_toList]; exact Array.getElem?_eq_getElem _)
        have hs : spot = none := by simpa [Addr.add] using World.cell?_spot hc0
        subst hs
        refine .inr ⟨b, off, rfl, by have := cell_lt hc0; simpa [add_none] using this, fun j hj k u hu => ?_⟩
        dsimp only at hu
        rw [if_pos hj] at hu
        have := (hf' j hj).2 k u hu
        rw [add_none, add_none] at this
        exact this
    · dsimp only
      split
      · rename_i h; exact (hf' j h).1
      · exact hr0
    · have : len + (mm - len) = mm := by omega
      rwa [this] at hw0

theorem tolS (A : Array Value) (i : Nat) : A.toList[i]? = A[i]? := by simp
set_option maxRecDepth 100000 in
set_option maxHeartbeats 2000000 in
theorem pdu_cells {H : Type} {enc : TypeId × Value → H} {w : World} {base : Nat} {held : Bool} {fuel : Nat} {cs : List Value} {d : DataW H} {ps : List MemPlace}
    (hf : DataW.trod enc Try.prog w base (fun _ => true) held fuel 42 cs = some (d, ps)) (hsz : ∀ n ∈ d.weights Try.prog 42, n ≤ 140737488351232) :
    ∃ y : Pd × (Nat → It), cs = (pdC y.1).toList ∧ InP w y.1 y.2 := by
  obtain ⟨xs, m1, _, hxd, hl, hn, hel⟩ := DataW.trod_struct Try.underlying42 hf
  have hn : xs.length = 14 := hn
  have hl : cs.length = 47 := by rw [hl]; kernel_rfl
  have hd : d = .agg (xs.map (·.1)) := by have := congrArg Prod.fst hxd; simpa using this
  have hc_b : Try.prog.cellsOf 5 = 1 := by kernel_rfl
  have hc_n : Try.prog.cellsOf 26 = 7 := by kernel_rfl
  have hc_i : Try.prog.cellsOf 3 = 1 := by kernel_rfl
  have hc_d : Try.prog.cellsOf 28 = 8 := by kernel_rfl
  have hc_u : Try.prog.cellsOf 29 = 1 := by kernel_rfl
  have hc_t : Try.prog.cellsOf 40 = 1 := by kernel_rfl
  have e0 : DataW.trod enc Try.prog w base (fun _ => true) held m1 5 ((cs.drop 0).take (Try.prog.cellsOf 5)) = xs[0]? := hel 0 _ rfl
  rw [hc_b] at e0
  obtain ⟨kd, hkd, bkd⟩ := cell_u8 e0 (by rw [List.getElem?_eq_getElem (by omega)]; rfl)
  have e1 : DataW.trod enc Try.prog w base (fun _ => true) held m1 5 ((cs.drop 1).take (Try.prog.cellsOf 5)) = xs[1]? := hel 1 _ rfl
  rw [hc_b] at e1
  obtain ⟨ci, hci, bci⟩ := cell_u8 e1 (by rw [List.getElem?_eq_getElem (by omega)]; rfl)
  have e2 : DataW.trod enc Try.prog w base (fun _ => true) held m1 26 ((cs.drop 2).take (Try.prog.cellsOf 26)) = xs[2]? := hel 2 _ rfl
  rw [hc_n] at e2
  obtain ⟨so, hso, bso⟩ := node_run e2 (by rw [List.getElem?_eq_getElem (by omega)]; rfl)
  have e3 : DataW.trod enc Try.prog w base (fun _ => true) held m1 3 ((cs.drop 9).take (Try.prog.cellsOf 3)) = xs[3]? := hel 3 _ rfl
  rw [hc_i] at e3
  obtain ⟨ho, hho, bho⟩ := cell_i64 e3 (by rw [List.getElem?_eq_getElem (by omega)]; rfl)
  have e4 : DataW.trod enc Try.prog w base (fun _ => true) held m1 5 ((cs.drop 10).take (Try.prog.cellsOf 5)) = xs[4]? := hel 4 _ rfl
  rw [hc_b] at e4
  obtain ⟨nu, hnu, bnu⟩ := cell_u8 e4 (by rw [List.getElem?_eq_getElem (by omega)]; rfl)
  have e5 : DataW.trod enc Try.prog w base (fun _ => true) held m1 5 ((cs.drop 11).take (Try.prog.cellsOf 5)) = xs[5]? := hel 5 _ rfl
  rw [hc_b] at e5
  obtain ⟨pr, hpr, bpr⟩ := cell_u8 e5 (by rw [List.getElem?_eq_getElem (by omega)]; rfl)
  have e6 : DataW.trod enc Try.prog w base (fun _ => true) held m1 26 ((cs.drop 12).take (Try.prog.cellsOf 26)) = xs[6]? := hel 6 _ rfl
  rw [hc_n] at e6
  obtain ⟨la, hla, bla⟩ := node_run e6 (by rw [List.getElem?_eq_getElem (by omega)]; rfl)
  have e7 : DataW.trod enc Try.prog w base (fun _ => true) held m1 3 ((cs.drop 19).take (Try.prog.cellsOf 3)) = xs[7]? := hel 7 _ rfl
  rw [hc_i] at e7
  obtain ⟨li, hli, bli⟩ := cell_i64 e7 (by rw [List.getElem?_eq_getElem (by omega)]; rfl)
  have e8 : DataW.trod enc Try.prog w base (fun _ => true) held m1 28 ((cs.drop 20).take (Try.prog.cellsOf 28)) = xs[8]? := hel 8 _ rfl
  rw [hc_d] at e8
  obtain ⟨id, hid, bid⟩ := id_run e8 (by rw [List.getElem?_eq_getElem (by omega)]; rfl)
  have e9 : DataW.trod enc Try.prog w base (fun _ => true) held m1 29 ((cs.drop 28).take (Try.prog.cellsOf 29)) = xs[9]? := hel 9 _ rfl
  rw [hc_u] at e9
  obtain ⟨sq, hsq, bsq⟩ := cell_u32 e9 (by rw [List.getElem?_eq_getElem (by omega)]; rfl)
  have e10 : DataW.trod enc Try.prog w base (fun _ => true) held m1 5 ((cs.drop 29).take (Try.prog.cellsOf 5)) = xs[10]? := hel 10 _ rfl
  rw [hc_b] at e10
  obtain ⟨bi, hbi, bbi⟩ := cell_u8 e10 (by rw [List.getElem?_eq_getElem (by omega)]; rfl)
  have e11 : DataW.trod enc Try.prog w base (fun _ => true) held m1 28 ((cs.drop 30).take (Try.prog.cellsOf 28)) = xs[11]? := hel 11 _ rfl
  rw [hc_d] at e11
  obtain ⟨st, hst, bst⟩ := id_run e11 (by rw [List.getElem?_eq_getElem (by omega)]; rfl)
  have e12 : DataW.trod enc Try.prog w base (fun _ => true) held m1 28 ((cs.drop 38).take (Try.prog.cellsOf 28)) = xs[12]? := hel 12 _ rfl
  rw [hc_d] at e12
  obtain ⟨en, hen, ben⟩ := id_run e12 (by rw [List.getElem?_eq_getElem (by omega)]; rfl)
  have e13 : DataW.trod enc Try.prog w base (fun _ => true) held m1 40 ((cs.drop 46).take (Try.prog.cellsOf 40)) = xs[13]? := hel 13 _ rfl
  rw [hc_t] at e13
  have hx13 : xs[13]? = some xs[13] := List.getElem?_eq_getElem (by omega)
  rw [hx13] at e13
  have hsl : ∃ a len cap, cs[46]? = some (.slice a len cap) := by
    have hone : (cs.drop 46).take 1 = [cs[46]] := by
      rw [List.drop_eq_getElem_cons (by omega), List.take_succ_cons, List.take_zero]
    rcases Deep.open_slice_pairs Try.underlying40 Try.underlying105 (by kernel_rfl) rfl rfl (by kernel_rfl) (by kernel_rfl) e13 with ⟨hcs', _⟩ | ⟨x, l, c, _, _, _, _, _, _, _, _, hcs', _⟩
    · rw [hone] at hcs'
      injection hcs' with hcs' _
      exact ⟨_, _, _, by rw [List.getElem?_eq_getElem (by omega), hcs']⟩
    · rw [hone] at hcs'
      injection hcs' with hcs' _
      exact ⟨_, _, _, by rw [List.getElem?_eq_getElem (by omega), hcs']⟩
  obtain ⟨a, len, cap, htl⟩ := hsl
  have h13 : DataW.Trod enc Try.prog w base (fun _ => true) held 40 (.slice a len cap) xs[13].1 xs[13].2 := by
    refine ⟨m1, ?_⟩
    have hone : (cs.drop 46).take 1 = [.slice a len cap] := by
      rw [List.drop_eq_getElem_cons (by omega), List.take_succ_cons, List.take_zero]
      rw [List.getElem?_eq_getElem (by omega)] at htl
      injection htl with htl
      rw [htl]
    rw [hone] at e13
    exact e13
  obtain ⟨L, hL1, hL2, hL3, hL4⟩ := open_tlvs h13 (fun n hn' => hsz n (by
    rw [hd]
    simp only [DataW.weights, Try.underlying42]
    exact DataW.weights_mem_each (j := 13) (t := 40) (d := xs[13].1) rfl (by simp [hx13]) n hn'))
  refine ⟨(⟨kd, ci, so, ho, nu, pr, la, li, id, sq.toNat, bi, st, en, a, len, cap⟩, L), ?_, ⟨⟨bkd, bci, bso, bho, bnu, bpr, bla⟩, bli, bid, (by show sq.toNat ≤ _; omega), bbi, bst, ben⟩, hL1, hL2, hL3, hL4⟩
  apply List.ext_getElem?
  intro i
  refine Eq.trans ?_ (tolS _ _).symm
  rcases Nat.lt_or_ge i 47 with h | h
  · rcases (by omega : i = 0 ∨ i = 1 ∨ i = 2 ∨ i = 3 ∨ i = 4 ∨ i = 5 ∨ i = 6 ∨ i = 7 ∨ i = 8 ∨ i = 9 ∨ i = 10 ∨ i = 11 ∨ i = 12 ∨ i = 13 ∨ i = 14 ∨ i = 15 ∨ i = 16 ∨ i = 17 ∨ i = 18 ∨ i = 19 ∨ i = 20 ∨ i = 21 ∨ i = 22 ∨ i = 23 ∨ i = 24 ∨ i = 25 ∨ i = 26 ∨ i = 27 ∨ i = 28 ∨ i = 29 ∨ i = 30 ∨ i = 31 ∨ i = 32 ∨ i = 33 ∨ i = 34 ∨ i = 35 ∨ i = 36 ∨ i = 37 ∨ i = 38 ∨ i = 39 ∨ i = 40 ∨ i = 41 ∨ i = 42 ∨ i = 43 ∨ i = 44 ∨ i = 45 ∨ i = 46) with rfl | rfl | rfl | rfl | rfl | rfl | rfl | rfl | rfl | rfl | rfl | rfl | rfl | rfl | rfl | rfl | rfl | rfl | rfl | rfl | rfl | rfl | rfl | rfl | rfl | rfl | rfl | rfl | rfl | rfl | rfl | rfl | rfl | rfl | rfl | rfl | rfl | rfl | rfl | rfl | rfl | rfl | rfl | rfl | rfl | rfl | rfl
    · exact hkd
    · exact hci
    · exact hso 0 (by omega)
    · exact hso 1 (by omega)
    · exact hso 2 (by omega)
    · exact hso 3 (by omega)
    · exact hso 4 (by omega)
    · exact hso 5 (by omega)
    · exact hso 6 (by omega)
    · exact hho
    · exact hnu
    · exact hpr
    · exact hla 0 (by omega)
    · exact hla 1 (by omega)
    · exact hla 2 (by omega)
    · exact hla 3 (by omega)
    · exact hla 4 (by omega)
    · exact hla 5 (by omega)
    · exact hla 6 (by omega)
    · exact hli
    · exact hid 0 (by omega)
    · exact hid 1 (by omega)
    · exact hid 2 (by omega)
    · exact hid 3 (by omega)
    · exact hid 4 (by omega)
    · exact hid 5 (by omega)
    · exact hid 6 (by omega)
    · exact hid 7 (by omega)
    · rw [hsq]
      show _ = some (Value.int .u32 ((sq.toNat : Nat) : Int))
      rw [Int.toNat_of_nonneg bsq.1]
    · exact hbi
    · exact hst 0 (by omega)
    · exact hst 1 (by omega)
    · exact hst 2 (by omega)
    · exact hst 3 (by omega)
    · exact hst 4 (by omega)
    · exact hst 5 (by omega)
    · exact hst 6 (by omega)
    · exact hst 7 (by omega)
    · exact hen 0 (by omega)
    · exact hen 1 (by omega)
    · exact hen 2 (by omega)
    · exact hen 3 (by omega)
    · exact hen 4 (by omega)
    · exact hen 5 (by omega)
    · exact hen 6 (by omega)
    · exact hen 7 (by omega)
    · exact htl
  · rw [List.getElem?_eq_none (by omega), Array.getElem?_eq_none (by rw [pdC_size]; exact h)]

theorem pd0_okS : PdOk pd0 := by
  have zb : ∀ j, 0 ≤ z0 j ∧ z0 j ≤ 255 := fun j => (⟨Int.le_refl 0, by decide⟩ : (0 : Int) ≤ 0 ∧ (0 : Int) ≤ 255)
  have b0 : by1 0 := ⟨Int.le_refl 0, by decide⟩
  have i0 : in64 0 := ⟨by decide, by decide⟩
  exact ⟨⟨b0, b0, zb, i0, b0, b0, zb⟩, i0, zb, Nat.zero_le _, b0, zb, zb⟩
def pdA (P : Nat → Pd × (Nat → It)) : Nat → Array Value := fun j => pdC (P j).1
/-- a list of packets as an argument -/
def InPs (w : World) (a : Option Addr) (len cap : Nat) (P : Nat → Pd × (Nat → It)) : Prop := RdR w a len 47 (pdA P) ∧ (∀ j, InP w (P j).1 (P j).2) ∧ (a = none → len = 0 ∧ cap = 0) ∧ len ≤ cap ∧ cap ≤ 140737488351232
set_option maxRecDepth 100000 in
theorem open_pdus {H : Type} {enc : TypeId × Value → H} {w : World} {base : Nat} {held : Bool} {a : Option Addr} {len cap : Nat} {d : DataW H} {ps : List MemPlace} (h : DataW.Trod enc Try.prog w base (fun _ => true) held 22 (.slice a len cap) d ps) (hsz : ∀ n ∈ d.weights Try.prog 22, n ≤ 140737488351232) : ∃ P, InPs w a len cap P := by
  obtain ⟨fuel, hf⟩ := h
  obtain ⟨a', len', cap', L, he, r1, r2, r3, r4, r5⟩ := open_recsW (C := fun y : Pd × (Nat → It) => pdC y.1) (Ok := fun y => InP w y.1 y.2) Try.underlying22 (s := 47) (bs := Try.prog.bytesOf 42) (by kernel_rfl) rfl (by decide) (fun y => pdC_size y.1) (fun n cs x hx hw => pdu_cells hx hw)
    ⟨(pd0, fun _ => ⟨0, none, 0, 0, fun _ => 0⟩), by refine ⟨pd0_okS, .inl rfl, fun _ => ⟨rfl, rfl⟩, Nat.le_refl _, by decide⟩⟩ hf hsz
  simp [Value.cells] at he
  obtain ⟨rfl, rfl, rfl⟩ := he
  have hb : 1 ≤ Try.prog.bytesOf 42 := of_decide_eq_true (by kernel_rfl)
  exact ⟨L, r1, r2, r3, r4, by have := Nat.mul_le_mul_left cap hb; omega⟩
end Go.Proofs.Ytkiaijmhoikdiaa

/- IDs as arguments. No condition. -/
namespace Go.Proofs.Ytkiaijmhoikdiaa
open Go.RowKit Go.ChangeShapes Go.WideShapes
set_option linter.unusedVariables false

def blC (L : Nat → Bool) : Nat → Array Value := fun j => #[.bool (L j)]
/-- a list of truths as an argument -/
def InBls (w : World) (a : Option Addr) (len cap : Nat) (L : Nat → Bool) : Prop := RdR w a len 1 (blC L) ∧ (a = none → len = 0 ∧ cap = 0) ∧ len ≤ cap ∧ cap ≤ 140737488351232
theorem open_bools {H : Type} {enc : TypeId × Value → H} {w : World} {base : Nat} {held : Bool} {a : Option Addr} {len cap : Nat} {d : DataW H} {ps : List MemPlace} (h : DataW.Trod enc Try.prog w base (fun _ => true) held 53 (.slice a len cap) d ps) (hsz : ∀ n ∈ d.weights Try.prog 53, n ≤ 140737488351232) : ∃ L, InBls w a len cap L := by
  obtain ⟨fuel, hf⟩ := h
  obtain ⟨a', len', cap', L, he, r1, r2, r3, r4, r5⟩ := open_recsW (C := fun b : Bool => #[Value.bool b]) (Ok := fun _ => True) Try.underlying53 (s := 1) (bs := 1) (by kernel_rfl) (by kernel_rfl) (by decide) (fun _ => rfl) (fun n cs x hx hw => by
    obtain ⟨d, ed, _⟩ := DataW.trod_bool Try.underlying4 hx
    exact ⟨d, ed, trivial⟩) ⟨false, trivial⟩ hf hsz
  simp [Value.cells] at he
  obtain ⟨rfl, rfl, rfl⟩ := he
  exact ⟨L, r1, r3, r4, by omega⟩
end Go.Proofs.Ytkiaijmhoikdiaa

/- The walk of StoreMerges: for every input the law returns true, and nothing that was there is written. No condition. -/
namespace Go.Proofs.Ytkiaijmhoikdiaa
open Go.RowKit Go.MapKept
set_option linter.unusedVariables false
set_option linter.unusedSimpArgs false

/-- a packet as an LSP of level 1, if it is none of level 2 -/
def kdM (x : Pd) : Pd := ⟨if x.kd = 20 then 20 else 18, x.ci, x.so, x.ho, x.nu, x.pr, x.la, x.li, x.id, x.sq, x.bi, x.st, x.en, x.A, x.m, x.c⟩
theorem kdM_ok {x : Pd} (h : PdOk x) : PdOk (kdM x) := by
  obtain ⟨⟨h1, h2⟩, h3⟩ := h
  refine ⟨⟨?_, h2⟩, h3⟩
  show by1 (if x.kd = 20 then 20 else 18)
  split
  · exact ⟨by decide, by decide⟩
  · exact ⟨by decide, by decide⟩
theorem kdM_cls (x : Pd) : cls (kdM x).kd = 2 := by
  show cls (if x.kd = 20 then 20 else 18) = 2
  split <;> rfl
theorem kdM_yes {x : Pd} (h : x.kd = 20) : kdM x = x := by
  unfold kdM
  rw [if_pos h, ← h]
theorem pd_kdM {p : Pd} (h : ¬ p.kd = 20) : putMany (pdC p) 0 [.int .u8 18] = pdC (kdM p) := by
  unfold kdM
  rw [if_neg h]
  kernel_rfl
theorem info_u8M : (Try.prog.info? 5).map (·.size) = some 1 := by kernel_rfl
theorem one_u8M (k : Int) : (#[Value.int .u8 k] : Array Value).all (·.oneCell') = true := by kernel_rfl
/-- what the bytes of these tell -/
def OfB (S : List Bw) (h : Hd) : Prop := ∃ x ∈ S, hdB x = h
theorem ofB_nil (h : Hd) : OfB [] h ↔ False := ⟨fun ⟨x, hx, _⟩ => by simp at hx, fun h => h.elim⟩
theorem ofB_snoc (S : List Bw) (x : Bw) (h : Hd) : (OfB S h ∨ h = hdB x) ↔ OfB (S ++ [x]) h := by
  constructor
  · rintro (⟨y, hy, e⟩ | e)
    · exact ⟨y, List.mem_append.2 (.inl hy), e⟩
    · exact ⟨x, List.mem_append.2 (.inr (List.mem_singleton.2 rfl)), e.symm⟩
  · rintro ⟨y, hy, e⟩
    rcases List.mem_append.1 hy with hy | hy
    · exact .inl ⟨y, hy, e⟩
    · obtain rfl := List.mem_singleton.1 hy
      exact .inr e.symm
theorem ofB_at {S : List Bw} {i : Nat} {x : Bw} (hx : S[i]? = some x) (h : Hd) : (OfB (S.take i) h ∨ h = hdB x) ↔ OfB (S.take (i + 1)) h := by
  rw [List.take_add_one, hx]
  exact ofB_snoc _ _ _
/-- one taken out -/
theorem ofB_out {S : List Bw} {k : Nat} {x : Bw} (hx : S[k]? = some x) (T : Hd → Prop) (h : Hd) : ((T h ∨ h = hdB x) ∨ OfB (S.take k ++ S.drop (k + 1)) h) ↔ (T h ∨ OfB S h) := by
  have hk : k < S.length := by
    rcases Nat.lt_or_ge k S.length with h | h
    · exact h
    · rw [List.getElem?_eq_none h] at hx; cases hx
  have hS : S = S.take k ++ x :: S.drop (k + 1) := by
    have e : S.drop k = x :: S.drop (k + 1) := by
      rw [List.drop_eq_getElem_cons hk]
      rw [List.getElem?_eq_getElem hk] at hx
      rw [Option.some.inj hx]
    rw [← e, List.take_append_drop]
  constructor
  · rintro ((h1 | h1) | ⟨y, hy, e⟩)
    · exact .inl h1
    · exact .inr ⟨x, List.mem_of_getElem? hx, h1.symm⟩
    · refine .inr ⟨y, ?_, e⟩
      rw [hS]
      rcases List.mem_append.1 hy with hy | hy
      · exact List.mem_append.2 (.inl hy)
      · exact List.mem_append.2 (.inr (List.mem_cons_of_mem _ hy))
  · rintro (h1 | ⟨y, hy, e⟩)
    · exact .inl (.inl h1)
    · rw [hS] at hy
      rcases List.mem_append.1 hy with hy | hy
      · exact .inr ⟨y, List.mem_append.2 (.inl hy), e⟩
      · rcases List.mem_cons.1 hy with rfl | hy
        · exact .inl (.inr e.symm)
        · exact .inr ⟨y, List.mem_append.2 (.inr hy), e⟩
theorem mem_out {S : List Bw} {k : Nat} {x : Bw} (h : x ∈ S.take k ++ S.drop (k + 1)) : x ∈ S := by
  rcases List.mem_append.1 h with h | h
  · exact List.mem_of_mem_take h
  · exact List.mem_of_mem_drop h
theorem len_out {S : List Bw} {k : Nat} (h : k < S.length) : (S.take k ++ S.drop (k + 1)).length + 1 = S.length := by
  rw [List.length_append, List.length_take, List.length_drop]
  omega
theorem own_keeps {w w' : World} {B m k : Nat} {v : Value} {C : Nat → Array Value} {o : Obj} (ho : OwnR w B 43 1 v m C) (hg : w.grownBy w' v.ownBlock) (hk : w.heap[k]? = some o) (hn : ∀ cur, o ≠ .cells cur 43 (0, 0)) : w'.heap[k]? = w.heap[k]? := by
  refine hg.block k (Array.getElem?_eq_some_iff.1 hk).1 (fun e => ?_)
  rcases ho.2 with ⟨rfl, _⟩ | ⟨g, cap, cur2, rfl, _, h3, _⟩
  · cases e
  · have e2 : g = k := by simpa [Value.ownBlock] using e.symm
    rw [e2, hk] at h3
    exact hn _ (Option.some.inj h3)
theorem StAt.grownB {w w' : World} {B NL s b k m : Nat} {H : Nat → Option Hd} {r : Bool} {v : Value} {C : Nat → Array Value} (h : StAt w B s b H k r) (hg : w.grownBy w' v.ownBlock) (_ : ∀ k, v.ownBlock = some k → NL ≤ k) (ho : OwnR w NL 43 1 v m C) : StAt w' B s b H k r := by
  obtain ⟨g1, g2, g3, M, ⟨es, c, g4, g4'⟩, g5, g6, g7⟩ := h
  have e3 : w.heap[s]? = _ := g3
  refine ⟨g1, g2, (own_keeps ho hg e3 (fun cur e => ?_)).trans g3, M, ⟨es, c, (own_keeps ho hg g4 (fun cur e => by cases e)).trans g4, g4'⟩, g5, fun i g x e1 e2 => ?_, g7⟩
  · injection e with _ e _
    exact absurd e (by decide)
  · obtain ⟨⟨a0, ro, oa, c9, a1, a2, a3, a4⟩, a5⟩ := g6 i g x e1 e2
    have e4 : w.heap[g]? = _ := a1
    obtain ⟨cur9, hc9⟩ := a2.2
    refine ⟨⟨a0, ro, oa, c9, (own_keeps ho hg e4 (fun cur e => ?_)).trans a1, a2.block (own_keeps ho hg hc9 (fun cur e => ?_)), a3, a4⟩, a5⟩
    · injection e with _ e _
      exact absurd e (by decide)
    · injection e with _ e _
      exact absurd e (by decide)
theorem rem_run (o : Oper) (e : Operand → Value) (x y : Operand) {t u : TypeId} (ho : o.op = .binOp .rem t x y u) (a b : Nat) (h0 : e x = .int .i64 (a : Int)) (h1 : e y = .int .i64 (b : Int)) (hb : 0 < b) (ha : a ≤ 255) (hb2 : b ≤ 25) (W : World) : (execOp e o).run Try.prog W = .ok (.value (.int .i64 ((a % b : Nat) : Int))) W := by
  unfold execOp
  simp only [ho, h0, h1]
  have hne : ¬ (b : Int) = 0 := by omega
  have hm : (a : Int).tmod (b : Int) = ((a % b : Nat) : Int) := by rw [Int.tmod_eq_emod_of_nonneg (by omega)]; omega
  have hlt := Nat.mod_lt a hb
  simp [go_sem, hne, hm, IntKind.wrap, IntKind.signed, IntKind.bits]
  try omega
theorem slice_loB (o : Oper) (e : Operand → Value) (x y : Operand) (ho : o.op = .slice 54 x (some y) none none) (b off l c k : Nat) (h0 : e x = .slice (some ⟨b, off, none⟩) l c) (h1 : e y = .int .i64 ((k : Int) + 1)) (hk : k + 1 ≤ l) (hl : l ≤ c) (o2 : Nat) (ho2 : o2 = if c = k + 1 then off else off + (k + 1)) (W : World) : (execOp e o).run Try.prog W = .ok (.value (.slice (some ⟨b, o2, none⟩) (l - (k + 1)) (c - (k + 1)))) W := by
  unfold execOp
  simp only [ho, h0, h1, Option.map_none, Option.map_some]
  have e3 : ¬ ((l : Int) < (k : Int) + 1) := by omega
  have e4 : ¬ ((c : Int) < (l : Int)) := by omega
  have e5 : ¬ ((k : Int) + 1 < 0) := by omega
  have e6 : ((k : Int) + 1).toNat = k + 1 := by omega
  have e7 : 0 ≤ (k : Int) + 1 ∧ (k : Int) + 1 ≤ (l : Int) := by omega
  simp [go_sem, e3, e4, e5, e6, e7]
  by_cases h9 : c = k + 1
  · simp [ho2, h9]
  · simp [ho2, h9]
theorem rd_tail {w : World} {b off l c k : Nat} {C : Nat → Array Value} (h : RdR w (some ⟨b, off, none⟩) l 1 C) (hk : k + 1 ≤ l) (hl : l ≤ c) (o2 : Nat) (ho2 : o2 = if c = k + 1 then off else off + (k + 1)) : RdR w (some ⟨b, o2, none⟩) (l - (k + 1)) 1 (fun j => C ((k + 1) + j)) := by
  by_cases h9 : c = k + 1
  · exact .inl (by omega)
  · rw [if_neg h9] at ho2
    subst ho2
    exact RdR.fromB h (k + 1) hk
def RdM (w : World) (A : Option Addr) (m : Nat) (C : Nat → Array Value) : Prop := RdR w A m 11 C
theorem RdM.below {w w' : World} {A : Option Addr} {m : Nat} {C : Nat → Array Value} (h : RdM w A m C) (hb : Below w.heap.size w w') : RdM w' A m C := by
  rcases h with h | ⟨b, off, e, hr⟩
  · exact .inl h
  · exact .inr ⟨b, off, e, hr.below hb hr.1⟩
theorem ent_rng {w : World} {b o : Nat} {h : Hd} (k : w.rangeAt b o (enC (hdE h)).toList) : w.rangeAt b o (iC h.id).toList := fun j v hv => k j v (by
  have hj : j < 8 := by
    rcases Nat.lt_or_ge j 8 with h | h
    · exact h
    · rw [List.getElem?_eq_none (by show 8 ≤ j; exact h)] at hv; cases hv
  rw [← hv]
  rcases (by omega : j = 0 ∨ j = 1 ∨ j = 2 ∨ j = 3 ∨ j = 4 ∨ j = 5 ∨ j = 6 ∨ j = 7) with rfl | rfl | rfl | rfl | rfl | rfl | rfl | rfl <;> rfl)
theorem own8_cell {w : World} {g n c j : Nat} {z : Nat → Int} (h : Own8 w g n c z) (hj : j < n) : w.cell? ⟨g, j, none⟩ = some (.int .u8 (z j)) := by
  obtain ⟨⟨cur, h1, h2, h3, h4, h5⟩, h6⟩ := h
  rw [cell_of_row w g j _ _ _ h1]
  exact h5 j hj
set_option maxHeartbeats 160000000 in
set_option maxRecDepth 100000 in
theorem walkStoreMerges (A : Option Addr) (n c : Nat) (P : Nat → Pd × (Nat → It)) (Ao : Option Addr) (no co : Nat) (zs : List Int) (At : Option Addr) (nt ct : Nat) (Lt : Nat → Bool) (w : World) (hp : InPs w A n c P) (w1 : IsRow .u8 w Ao no co zs) (ht : InBls w At nt ct Lt) : Calls Try.prog 4 #[.slice A n c, .slice Ao no co, .slice At nt ct] w fun e w' => e = .returned (.bool true) ∧ Below w.heap.size w w' := by
  obtain ⟨hR, hA⟩ := isRow_rd w1
  obtain ⟨hlc, hcm⟩ := isRow_len w1
  have hno : (no : Int) ≤ 9223372036854775807 := by have : maxLen = 9223372036854775807 := rfl; omega
  obtain ⟨zo, hz⟩ : ∃ z : Nat → Int, (fun j => zs.getD j 0) = z := ⟨_, rfl⟩
  rw [hz] at hR
  have HRO := Lib.hid hR
  have HRT := Lib.hid ht
  have HP := Lib.hid hp
  have hnt : (nt : Int) ≤ 9223372036854775807 := by have := ht.2.2.1; have := ht.2.2.2; omega
  have hn63 : (n : Int) ≤ 9223372036854775807 := by have := hp.2.2.2.1; have := hp.2.2.2.2; omega
  clear hp ht hR hA hlc hcm hz w1
  go_enter Try.func4, Try.ntmps4
  have HB := Lib.hid (Below.refl w.heap.size w)
  go_wp2_with fail
  refine (awake_any w).mono ?_
  rintro e w1 ⟨rfl, b1⟩
  have HBn := Lib.hid (HB.out.trans (b1.mono HB.out.size))
  clear HB
  have HB := HBn
  clear HBn
  clear b1
  go_upto_block 0 with fail
  go_cut [7] (fun v wc => ∃ S, Hid (OwnR wc w.heap.size 43 1 v S.length (bwA S)) ∧ Hid (∀ x ∈ S, BwOk wc x) ∧ Hid (S.length ≤ 25) ∧ Hid (Below w.heap.size w wc))
  case first =>
    go_wp2_with fail
    go_loopw [7, 38] (fun v t wr => ∃ (i : Nat) (S : List Bw), i ≤ n ∧ i ≤ 25 ∧ t = .int .i64 i ∧ Hid (OwnR wr w.heap.size 43 1 v S.length (bwA S)) ∧ Hid (∀ x ∈ S, BwOk wr x) ∧ Hid (S.length ≤ i) ∧ Hid (Below w.heap.size w wr)) (fun _ t _ => n - (intOf t).toNat)
    case atStart => exact ⟨0, [], by omega, by omega, rfl, Lib.hid (OwnR.nil _ _ _ _ _), Lib.hid (fun x hx => by cases hx), Lib.hid (Nat.le_refl _), HB⟩
    case round =>
      clear HB
      obtain ⟨i, S, hi, hi25, rfl, HO, HW, HL, HB⟩ := hrel
      by_cases hlt : i < n
      · skip
        obtain ⟨bA, off, rfl, hr⟩ := HP.out.1.row (by omega)
        have hki : (i : Int) < (n : Int) := by omega
        obtain ⟨p, hpp⟩ : ∃ p, (P i).1 = p := ⟨_, rfl⟩
        obtain ⟨L, hLL⟩ : ∃ L, (P i).2 = L := ⟨_, rfl⟩
        have HIN : Hid (InP w p L) := Lib.hid (by rw [← hpp, ← hLL]; exact HP.out.2.1 i)
        have h1 : Hid (wr.rangeAt bA (off + i * 47) (pdC p).toList) := Lib.hid (by have h9 := rangeAt_below (hr.2 i hlt) HB.out hr.1; unfold pdA at h9; rw [hpp] at h9; exact h9)
        clear hr hpp hLL
        go_wp2_with (refine wpList_ld (op := ⟨some 42, _, _, _, _, _⟩) (by rfl) 42 (.tmp 41) rfl bA (off + i * 47) rfl (pdC p) _ h1.out Try.underlying42 rfl info_pdR ?_; refine Hid.out ?_)
        refine Lib.hid ?_
        clear h1
        obtain ⟨N9, hN9⟩ : ∃ N, wr.heap.size = N := ⟨_, rfl⟩
        have HN9 := Lib.hid hN9
        clear hN9
        go_wp2_with (refine wpList_new (op := ⟨some 9, _, _, _, _, _⟩) rfl 42 rfl (pdC pd0) zero_pdR N9 HN9.out ?_; intro w5 k1 b1 s1; refine Hid.out ?_)
        refine Lib.hid ?_
        have K9 := Lib.hid k1
        have HB1 := Lib.hid b1
        clear k1 b1 s1
        go_wp2_with (refine wpList_st rfl 42 (.tmp 9) (.tmp 42) rfl N9 0 rfl (.agg (pdC p)) (pdC p) rfl rfl info_pdR (pdC_one _) K9.out (Nat.le_of_ble_eq_true rfl) (C' := pdC p) (pd_over' _ _) ?_; intro w6 q1; refine Hid.out ?_)
        refine Lib.hid ?_
        have HB2 : Hid (Below wr.heap.size wr w6) := Lib.hid (HB1.out.trans (q1.2.1 _ (by rw [HN9.out]; exact Nat.le_refl _)))
        clear HB1
        have HB1 := HB2
        clear HB2
        have K9n : Hid (Blk 42 w6 N9 (pdC p)) := Lib.hid q1.1
        clear K9
        have K9 := K9n
        clear K9n q1
        by_cases h25 : i < 25
        · have h25i : (i : Int) < 25 := by omega
          have c0 : w6.cell? ⟨N9, 0, none⟩ = some (.int .u8 p.kd) := (K9.out.cell 0).trans rfl
          obtain ⟨bk, hbk⟩ : ∃ q, (p.kd != 20) = q := ⟨_, rfl⟩
          go_upto_if 47 with fail
          have HBK := Lib.hid hbk
          clear hbk c0
          go_cut [] (fun wc => Hid (Blk 42 wc N9 (pdC (kdM p))) ∧ Hid (Below wr.heap.size wr wc))
          case first =>
            cases bk with
            | false =>
              have hq : p.kd = 20 := by simpa using HBK.out
              have K9n : Hid (Blk 42 w6 N9 (pdC (kdM p))) := Lib.hid (by rw [kdM_yes hq]; exact K9.out)
              clear hq
              go_wp2_with fail
              go_meet
              case rel => exact ⟨K9n, HB1⟩
            | true =>
              have HQ : Hid (¬ p.kd = 20) := Lib.hid (by simpa using HBK.out)
              go_wp2_with (refine wpList_st rfl 5 (.tmp 48) (.const (.int .u8 18)) rfl N9 0 rfl (.int .u8 18) (#[.int .u8 18]) rfl rfl info_u8M (one_u8M _) K9.out (Nat.le_of_ble_eq_true rfl) (C' := pdC (kdM p)) (pd_kdM HQ.out) ?_; intro w7 q1; refine Hid.out ?_)
              refine Lib.hid ?_
              have HB2 : Hid (Below wr.heap.size wr w7) := Lib.hid (HB1.out.trans (q1.2.1 _ (by rw [HN9.out]; exact Nat.le_refl _)))
              clear HB1
              have HB1 := HB2
              clear HB2
              have K9n : Hid (Blk 42 w7 N9 (pdC (kdM p))) := Lib.hid q1.1
              clear K9
              have K9 := K9n
              clear K9n q1
              clear HQ
              go_wp2_with fail
              go_meet
              case rel => exact ⟨K9, HB1⟩
          case rest =>
            clear K9 HB1
            obtain ⟨K9, HB1⟩ := hcut
            obtain ⟨w8, hw8⟩ : ∃ x, x = wc := ⟨_, rfl⟩
            subst hw8
            go_wp2_with (refine wpList_ld (op := ⟨some 50, _, _, _, _, _⟩) (by rfl) 42 (.tmp 9) rfl N9 0 rfl (pdC (kdM p)) _ K9.out.all Try.underlying42 rfl info_pdR ?_; refine Hid.out ?_)
            refine Lib.hid ?_
            have b1 := HB1.out
            have HOn := Lib.hid (HO.out.below b1)
            clear HO
            have HO := HOn
            clear HOn
            have HWn := Lib.hid (fun x hx => (HW.out x hx).below b1)
            clear HW
            have HW := HWn
            clear HWn
            have HBn := Lib.hid (HB.out.trans (b1.mono HB.out.size))
            clear HB
            have HB := HBn
            clear HBn
            clear b1 HB1 HN9 K9 HBK
            have HOK : Hid (PdOk (kdM p)) := Lib.hid (kdM_ok HIN.out.1)
            obtain ⟨m0, hm0⟩ := jends L (kdM p).m
            have HM := Lib.hid hm0
            clear hm0
            have HRD : Hid (RdT w8 p.A (kdM p).m L) := Lib.hid (HIN.out.2.1.below HB.out)
            have HWOK : Hid (wrX (kdM p) L m0 = 0 → WOk (kdM p) (wrN (kdM p) L m0) (wrZ (kdM p) L m0)) := Lib.hid (fun h => wr_ok (w := w8) HOK.out HM.out HRD.out h)
            go_wp2_with fail
            refine (docWrite_any (kdM p) HOK.out L m0 HM.out w8 ⟨HRD.out, HIN.out.2.2.2.1, by have := HIN.out.2.2.2.2; show p.c ≤ _; omega⟩).mono ?_
            rintro e w9 ⟨A8, c8, rfl, hrd, hc1, hc2, b1, hown⟩
            obtain ⟨x8, hx8⟩ : ∃ v, wrX (kdM p) L m0 = v := ⟨_, rfl⟩
            obtain ⟨n8, hn8⟩ : ∃ v, wrN (kdM p) L m0 = v := ⟨_, rfl⟩
            obtain ⟨z8, hz8⟩ : ∃ v, wrZ (kdM p) L m0 = v := ⟨_, rfl⟩
            rw [hx8, hn8, hz8] at HWOK
            rw [hx8, hn8, hz8] at hown
            rw [hx8, hn8]
            have HOWN := Lib.hid hown
            have HOn := Lib.hid (HO.out.below b1)
            clear HO
            have HO := HOn
            clear HOn
            have HWn := Lib.hid (fun x hx => (HW.out x hx).below b1)
            clear HW
            have HW := HWn
            clear HWn
            have HBn := Lib.hid (HB.out.trans (b1.mono HB.out.size))
            clear HB
            have HB := HBn
            clear HBn
            clear hx8 hn8 hz8 hrd hc1 hc2 hown b1 HRD HOK
            by_cases hx0 : x8 = 0
            · subst hx0
              obtain ⟨g8, rfl, hg8, hO8⟩ := HOWN.out rfl
              have HO8 := Lib.hid hO8
              have HWK := Lib.hid (HWOK.out rfl)
              clear HOWN HWOK hO8 hg8
              obtain ⟨x, hx⟩ : ∃ x : Bw, x = ⟨g8, n8, c8, z8⟩ := ⟨_, rfl⟩
              have HX : Hid (x.g = g8 ∧ x.n = n8 ∧ x.c = c8) := Lib.hid (by rw [hx]; exact ⟨rfl, rfl, rfl⟩)
              have HXW : Hid (BwOk w9 x) := Lib.hid (by rw [hx]; exact ⟨HO8.out, HWK.out.h4.trans (kdM_cls p), ⟨HWK.out.n27 (HWK.out.h4.trans (kdM_cls p)), HWK.out.hn.2⟩, _, HWK.out.good⟩)
              clear hx HO8 HWK
              obtain ⟨rfl, rfl, rfl⟩ := HX.out
              clear HX
              obtain ⟨N57, hN57⟩ : ∃ N, w9.heap.size = N := ⟨_, rfl⟩
              have HN57 := Lib.hid hN57
              clear hN57
              go_wp2_with (refine wpList_bsn (op := ⟨some 58, _, _, _, _, _⟩) 1 rfl 43 (bwC x) (bs_bw1 _ _ _ rfl x rfl) N57 HN57.out ?_; intro w10 k1 b1 s1; refine Hid.out ?_)
              refine Lib.hid ?_
              have HRD : Hid (RdR w10 (some ⟨N57, 0, none⟩) 1 1 (fun _ => bwC x)) := Lib.hid (rdR_blk k1)
              clear k1 s1
              have HOn := Lib.hid (HO.out.below b1)
              clear HO
              have HO := HOn
              clear HOn
              have HWn := Lib.hid (fun x hx => (HW.out x hx).below b1)
              clear HW
              have HW := HWn
              clear HWn
              have HBn := Lib.hid (HB.out.trans (b1.mono HB.out.size))
              clear HB
              have HB := HBn
              clear HBn
              have HXn := Lib.hid (HXW.out.below b1)
              clear HXW
              have HXW := HXn
              clear HXn b1 HN57
              have hml : maxLen = 9223372036854775807 := rfl
              have HML := Lib.hid hml
              clear hml
              have HSL : Hid (S.length ≤ 25) := Lib.hid (by have := HL.out; omega)
              go_wp2_with (at_builtin; refine app_Y 54 43 1 24 _ Try.underlying54 infoA_bs rfl (by decide) rfl (.tmp 56) (.tmp 58) rfl w.heap.size _ S.length (bwA S) rfl HO.out HB.out.size ⟨N57, 0, none⟩ 1 1 (fun _ => bwC x) rfl HRD.out (fun _ => ⟨rfl, bw_ones _⟩) (by have := HSL.out; rw [HML.out]; omega) (by have := HSL.out; omega) ?_; intro v11 w11 ho9 hg9 hk9; refine Hid.out ?_)
              refine Lib.hid ?_
              have HWn : Hid (∀ y ∈ S ++ [x], BwOk w11 y) := Lib.hid (fun y hy => by
                rcases List.mem_append.1 hy with hy | hy
                · exact (HW.out y hy).grown HO.out hg9
                · obtain rfl := List.mem_singleton.1 hy; exact HXW.out.grown HO.out hg9)
              have HOn : Hid (OwnR w11 w.heap.size 43 1 v11 (S ++ [x]).length (bwA (S ++ [x]))) := Lib.hid (by rw [List.length_append]; exact OwnR.congr ho9 (fun j hj => bw_snoc S x j hj))
              have HBn : Hid (Below w.heap.size w w11) := Lib.hid (HB.out.grown hg9 HB.out.size (fun k e => hk9 k e))
              clear HO HW HB ho9 hg9 hk9
              have HO := HOn
              have HW := HWn
              have HB := HBn
              clear HOn HWn HBn
              go_wp2_with fail
              go_roundw
              case rel => exact ⟨i + 1, (S ++ [x]), by omega, by omega, by go_num, HO, HW, Lib.hid (by have := HL.out; rw [List.length_append, List.length_singleton]; omega), HB⟩
              case measure => simp only [intOf]; omega
            · have hxb : (x8 == 0) = false := by simpa using hx0
              clear hx0
              go_wp2_with fail
              go_roundw
              case rel => exact ⟨i + 1, S, by omega, by omega, by go_num, HO, HW, Lib.hid (by have := HL.out; omega), HB⟩
              case measure => simp only [intOf]; omega
        · obtain rfl : i = 25 := by omega
          have b1 := HB1.out
          have HOn := Lib.hid (HO.out.below b1)
          clear HO
          have HO := HOn
          clear HOn
          have HWn := Lib.hid (fun x hx => (HW.out x hx).below b1)
          clear HW
          have HW := HWn
          clear HWn
          have HBn := Lib.hid (HB.out.trans (b1.mono HB.out.size))
          clear HB
          have HB := HBn
          clear HBn
          clear b1 HB1 HN9 K9
          go_wp2_with fail
          go_meet
          case rel => exact ⟨S, HO, HW, Lib.hid HL.out, HB⟩
      · obtain rfl : i = n := by omega
        go_wp2_with fail
        go_meet
        case rel => exact ⟨S, HO, HW, Lib.hid (by have := HL.out; omega), HB⟩
  case rest =>
    clear HB
    obtain ⟨S, HO, HW, HL25, HB⟩ := hcut
    obtain ⟨A7, c7, hv7, h71, h72, h73, h74⟩ := HO.out.shape (recs_bw S) (by decide)
    subst hv7
    obtain ⟨lS, hlS⟩ : ∃ l, S.length = l := ⟨_, rfl⟩
    rw [hlS] at h74 h71 h73 ⊢
    have HRA := Lib.hid h74
    have HLS := Lib.hid hlS
    have hl25 : lS ≤ 25 := by rw [← hlS]; exact HL25.out
    have HNO := Lib.hid h73
    clear h71 h72 h73 h74 hlS HO HL25
    obtain ⟨w5, hw5⟩ : ∃ x, x = wc := ⟨_, rfl⟩
    subst hw5
    obtain ⟨B, hB⟩ : ∃ N, w5.heap.size = N := ⟨_, rfl⟩
    have HBB := Lib.hid hB
    have le_B : w.heap.size ≤ B := by rw [← hB]; exact HB.out.size
    go_wp2_with fail
    refine (new_any w5).mono ?_
    rintro e w6 ⟨s1, m1, rfl, hst1, b1⟩
    rw [hB] at hst1
    have HA := Lib.hid hst1
    have HQ : Hid (Below B w5 w6) := Lib.hid (by rw [← hB]; exact b1)
    clear b1 hst1
    go_wp2_with fail
    refine (new_any w6).mono ?_
    rintro e w7 ⟨s2, m2, rfl, hst2, b1⟩
    have hle6 : B ≤ w6.heap.size := by rw [← hB]; have := HQ.out.size; exact this
    have HN2 := Lib.hid (show s1 ≠ s2 ∧ m1 ≠ m2 from ⟨fun e => by have := HA.out.lt; have := hst2.hs; omega, fun e => by have := HA.out.ltb; have := hst2.hb; omega⟩)
    have HS := Lib.hid (hst2.mono hle6)
    have HAn := Lib.hid (HA.out.below b1)
    clear HA
    have HA := HAn
    clear HAn
    have HQn : Hid (Below B w5 w7) := Lib.hid (HQ.out.trans (b1.mono hle6))
    clear HQ
    have HQ := HQn
    clear HQn b1 hst2 hle6 hB
    have hlI : (lS : Int) ≤ 9223372036854775807 := by omega
    go_wp2_with fail
    go_loopw [65] (fun t wr => ∃ (i : Nat) (Ha : Nat → Option Hd) (ka : Nat) (ra : Bool), i ≤ lS ∧ t = .int .i64 i ∧ Hid (StAt wr B s1 m1 Ha ka ra) ∧ Hid (ka ≤ i) ∧ Hid (Mx (OfB (S.take i)) Ha) ∧ Hid (StAt wr B s2 m2 noH 0 false) ∧ Hid (Below B w5 wr)) (fun t _ => lS - (intOf t).toNat)
    case atStart => exact ⟨0, noH, 0, false, by omega, rfl, HA, Lib.hid (Nat.le_refl _), Lib.hid (Mx.zero.congr (fun x => (ofB_nil x).symm)), HS, HQ⟩
    case round =>
      clear HA HS HQ
      obtain ⟨i, Ha, ka, ra, hi, rfl, HA, HKA, HMA, HS, HQ⟩ := hrel
      by_cases hlt : i < lS
      · skip
        have hki : (i : Int) < (lS : Int) := by omega
        obtain ⟨x, hx⟩ : ∃ x, S[i]? = some x := ⟨_, List.getElem?_eq_getElem (by rw [HLS.out]; exact hlt)⟩
        have HX := Lib.hid hx
        have HXW : Hid (BwOk wr x) := Lib.hid (by have h9 := HW.out x (List.mem_of_getElem? hx); exact ⟨Own8.below h9.1 HQ.out (by have := h9.lt; rw [HBB.out] at this; exact this), h9.2⟩)
        obtain ⟨bA, off, rfl, hc⟩ := bw_cell HRA.out hlt hx
        have cx : wr.cell? ⟨bA, off + i, none⟩ = some (.slice (some ⟨x.g, 0, none⟩) x.n x.c) := (HQ.out.cell (p := ⟨bA, off + i, none⟩) (by rw [← HBB.out]; exact cell_lt hc)).trans hc
        clear hx hc
        go_wp2_with fail
        refine (twin_any (some ⟨x.g, 0, none⟩) x.n x.c x.z wr (Own8.rd HXW.out.1) (fun e => by cases e) (by have := HXW.out.2.2.1; omega)).mono ?_
        rintro e y1 ⟨g9, c9, rfl, hg9, hO9, b1⟩
        have HO9 := Lib.hid hO9
        have HAn := Lib.hid (HA.out.below b1)
        clear HA
        have HA := HAn
        clear HAn
        have HSn := Lib.hid (HS.out.below b1)
        clear HS
        have HS := HSn
        clear HSn
        have HXn := Lib.hid (HXW.out.below b1)
        clear HXW
        have HXW := HXn
        clear HXn
        have HQn : Hid (Below B w5 y1) := Lib.hid (HQ.out.trans (b1.mono (by have := HQ.out.size; rw [HBB.out] at this; exact this)))
        clear HQ
        have HQ := HQn
        clear HQn b1 hg9 hO9
        clear cx
        obtain ⟨mg, hgood⟩ := HXW.out.2.2.2
        have HPUT : Hid (Calls Try.prog 14 #[.pointer (some ⟨s1, 0, none⟩), .slice (some ⟨g9, 0, none⟩) x.n c9] y1 (PutM y1 B s1 m1 Ha ka (OfB (S.take i)) (hdB x))) := Lib.hid ((put_good g9 x.n c9 x.z mg B s1 m1 ka Ha ra y1 HA.out (by have := HKA.out; omega) HXW.out.2.1 HXW.out.2.2.1 HO9.out hgood).mono (fun e w' h => put_mx h (by have := HKA.out; omega) HMA.out))
        clear hgood
        go_wp2_with fail
        refine HPUT.out.mono ?_
        rintro e y2 ⟨x9, H9, k9, r9, rfl, hf, hst, hk9, hmx, _⟩
        have HS9 := Lib.hid (HS.out.other HA.out.sh hf HN2.out.1.symm HN2.out.2.symm)
        have HQ9 : Hid (Below B w5 y2) := Lib.hid (HQ.out.trans (hf.below HA.out.hs HA.out.hb HA.out.ltB))
        have HA9 := Lib.hid hst
        have HM9 : Hid (Mx (OfB (S.take (i + 1))) H9) := Lib.hid (hmx.congr (fun h => ofB_at HX.out h))
        have HK9 := Lib.hid hk9
        clear hf hst hk9 hmx HPUT HA HS HQ HO9 HXW
        go_wp2_with fail
        go_roundw
        case rel => exact ⟨i + 1, H9, k9, r9, by omega, by go_num, HA9, Lib.hid (by have := HKA.out; have := HK9.out; omega), HM9, HS9, HQ9⟩
        case measure => simp only [intOf]; omega
      · obtain rfl : lS = i := by omega
        have HMn : Hid (Mx (OfB S) Ha) := Lib.hid (by have h9 := HMA.out; rw [List.take_of_length_le (by rw [HLS.out]; exact Nat.le_refl _)] at h9; exact h9)
        clear HMA
        have HMA := HMn
        clear HMn
        have hbl : B ≤ wr.heap.size := HA.out.ltB
        obtain ⟨NL, hNL⟩ : ∃ N, wr.heap.size = N := ⟨_, rfl⟩
        have HNL := Lib.hid hNL
        have le_BN : B ≤ NL := by rw [← hNL]; exact hbl
        clear hbl
        clear hNL
        go_wp2_with (refine wpList_bsn (op := ⟨some 79, _, _, _, _, _⟩) 0 rfl 43 #[] (bs_bw0 _ _ _ rfl) NL HNL.out ?_; intro x1 k1 b1 s9; refine Hid.out ?_)
        refine Lib.hid ?_
        have HE : Hid (OwnR x1 NL 43 1 (.slice (some ⟨NL, 0, none⟩) 0 0) 0 (bwA [])) := Lib.hid (own_empty k1 _)
        have HSZ : Hid (NL ≤ x1.heap.size) := Lib.hid (Nat.le_of_lt k1.lt)
        have HAn := Lib.hid (HA.out.below b1)
        clear HA
        have HA := HAn
        clear HAn
        have HSn := Lib.hid (HS.out.below b1)
        clear HS
        have HS := HSn
        clear HSn
        have HQn : Hid (Below B w5 x1) := Lib.hid (HQ.out.trans (b1.mono (by have := HQ.out.size; rw [HBB.out] at this; exact this)))
        clear HQ
        have HQ := HQn
        clear HQn k1 b1 s9
        have HRx : Hid (RdR x1 A7 lS 1 (bwA S)) := Lib.hid (by rcases HRA.out with h | ⟨b, off, e, hr⟩; exact .inl h; exact .inr ⟨b, off, e, hr.below HQ.out (by rw [← HBB.out]; exact hr.1)⟩)
        have hml : maxLen = 9223372036854775807 := rfl
        have HML := Lib.hid hml
        clear hml
        go_wp2_with (at_builtin; refine app_Z 54 43 1 24 _ Try.underlying54 infoA_bs rfl (by decide) rfl (.tmp 79) (.tmp 80) rfl NL _ 0 (bwA []) rfl HE.out HSZ.out A7 lS c7 (bwA S) rfl HNO.out HRx.out (recs_bw S) (by rw [HML.out]; omega) (by omega) ?_; intro v2 x2 ho9 hg9 hk9; refine Hid.out ?_)
        refine Lib.hid ?_
        have HO : Hid (OwnR x2 NL 43 1 v2 S.length (bwA S)) := Lib.hid (by rw [HLS.out]; have h9 := ho9; rw [Nat.zero_add] at h9; exact OwnR.congr h9 (fun j hj => by have := bw_cat [] S j (by rw [HLS.out]; simpa using hj); simpa using this))
        have hfar : Below NL x1 x2 := (Below.refl _ _).grown hg9 HSZ.out (fun k e => hk9 k e)
        have HAn : Hid (StAt x2 B s1 m1 Ha ka ra) := Lib.hid (HA.out.grownB hg9 hk9 HE.out)
        have HSn : Hid (StAt x2 B s2 m2 noH 0 false) := Lib.hid (HS.out.grownB hg9 hk9 HE.out)
        clear HA HS
        have HA := HAn
        have HS := HSn
        have HQn : Hid (Below B w5 x2) := Lib.hid (HQ.out.trans (hfar.mono le_BN))
        clear HQ
        have HQ := HQn
        have HSZ2 : Hid (NL ≤ x2.heap.size) := Lib.hid (Nat.le_trans HSZ.out hg9.size)
        clear HAn HSn HQn ho9 hg9 hk9 hfar HE HSZ HRx
        go_wp2_with fail
        go_loopw [18, 19] (fun v t wr => ∃ (i : Nat) (S2 : List Bw) (Hb : Nat → Option Hd) (kb : Nat) (rb : Bool) (T : Hd → Prop), t = .int .i64 i ∧ Hid (OwnR wr NL 43 1 v S2.length (bwA S2)) ∧ i + S2.length = lS ∧ Hid (StAt wr B s2 m2 Hb kb rb) ∧ Hid (kb + 2 * S2.length ≤ 50) ∧ Hid (Mx T Hb) ∧ Hid (∀ h, (T h ∨ OfB S2 h) ↔ OfB S h) ∧ Hid (∀ x ∈ S2, x ∈ S) ∧ Hid (StAt wr B s1 m1 Ha ka ra) ∧ Hid (Below B w5 wr) ∧ Hid (NL ≤ wr.heap.size)) (fun _ t _ => lS - (intOf t).toNat)
        case atStart => exact ⟨0, S, noH, 0, false, fun _ => False, rfl, HO, by rw [HLS.out]; omega, HS, Lib.hid (by rw [HLS.out]; omega), Lib.hid Mx.zero, Lib.hid (fun h => ⟨fun e => e.elim False.elim id, .inr⟩), Lib.hid (fun x hx => hx), HA, HQ, HSZ2⟩
        case round =>
          clear HO HA HS HQ HSZ2
          obtain ⟨i, S2, Hb, kb, rb, T, rfl, HO, hil, HS, HKB, HMB, HEQ, HSUB, HA, HQ, HSZ⟩ := hrel
          obtain ⟨A2, c2, hv2, h21, h22, h23, h24⟩ := HO.out.shape (recs_bw S2) (by decide)
          subst hv2
          obtain ⟨l2, hl2⟩ : ∃ l, S2.length = l := ⟨_, rfl⟩
          have HL2 := Lib.hid hl2
          rw [hl2] at h21 h23 h24 hil ⊢
          have HR2 := Lib.hid h24
          have HC2 := Lib.hid (And.intro h21 h22)
          have HOl : Hid (OwnR wr NL 43 1 (.slice A2 l2 c2) l2 (bwA S2)) := Lib.hid (by have h9 := HO.out; rw [hl2] at h9; exact h9)
          clear HO
          have HO := HOl
          clear HOl h21 h22 h23 h24 hl2
          by_cases hlt : 0 < l2
          · skip
            have hlI2 : (0 : Int) < (l2 : Int) := by omega
            have hl225 : l2 ≤ 25 := by omega
            obtain ⟨bA, off, rfl, hr⟩ := HR2.out.row hlt
            have HRW := Lib.hid hr
            clear hr
            have hil1 : (i : Int) < (lS : Int) := by omega
            go_upto_if 90 with fail
            go_cut [20] (fun s wx => ∃ k : Nat, k < l2 ∧ s = .int .i64 k ∧ wr = wx)
            case first =>
              by_cases hio : i < no
              · have hioI : (i : Int) < (no : Int) := by omega
                obtain ⟨bo, oo, rfl, hro⟩ := HRO.out.row (by omega)
                have hzb := hro.2.2 i
                have co : wr.cell? ⟨bo, oo + i, none⟩ = some (.int .u8 (zo i)) := (HQ.out.cell (p := ⟨bo, oo + i, none⟩) (by have h8 := hro.1; show bo < B; omega)).trans ((HB.out.cell (p := ⟨bo, oo + i, none⟩) hro.1).trans (hro.2.1 i hio))
                obtain ⟨zi, hzi⟩ : ∃ z : Nat, zo i = (z : Int) := ⟨(zo i).toNat, by omega⟩
                rw [hzi] at co hzb
                clear hro
                have hz255 : (zi : Int) ≤ 255 := hzb.2
                clear hzb hzi
                have HREM : Hid ((zi : Int).tmod (l2 : Int) = ((zi % l2 : Nat) : Int)) := Lib.hid (by rw [Int.tmod_eq_emod_of_nonneg (by omega)]; omega)
                have HREML : Hid (zi % l2 < l2) := Lib.hid (Nat.mod_lt _ hlt)
                go_wp2_with (refine wpList_v (op := ⟨some 98, _, _, _, _, _⟩) rfl (.int .i64 ((zi % l2 : Nat) : Int)) (rem_run _ _ _ _ rfl zi l2 rfl rfl hlt (by omega) (by omega) _) ?_; refine Hid.out ?_)
                refine Lib.hid ?_
                go_wp2_with fail
                go_meet
                case rel => exact ⟨zi % l2, HREML.out, rfl, rfl⟩
              · have hioI : ¬ (i : Int) < (no : Int) := by omega
                go_wp2_with fail
                go_meet
                case rel => exact ⟨0, hlt, rfl, rfl⟩
            case rest =>
              obtain ⟨k, hk, rfl, hwx⟩ := hcut
              subst hwx
              have hkI : (k : Int) < (l2 : Int) := by omega
              obtain ⟨x, hx⟩ : ∃ x, S2[k]? = some x := ⟨_, List.getElem?_eq_getElem (by rw [HL2.out]; exact hk)⟩
              have HX := Lib.hid hx
              have HXW : Hid (BwOk wr x) := Lib.hid (by have h9 := HW.out x (HSUB.out x (List.mem_of_getElem? hx)); exact ⟨Own8.below h9.1 HQ.out (by have := h9.lt; rw [HBB.out] at this; exact this), h9.2⟩)
              have HCX : Hid (wr.cell? ⟨bA, off + k, none⟩ = some (.slice (some ⟨x.g, 0, none⟩) x.n x.c)) := Lib.hid (by obtain ⟨b9, o9, e9, hc⟩ := bw_cell HR2.out hk hx; cases e9; exact hc)
              clear hx
              have cx := HCX.out
              go_wp2_with fail
              refine (twin_any (some ⟨x.g, 0, none⟩) x.n x.c x.z wr (Own8.rd HXW.out.1) (fun e => by cases e) (by have := HXW.out.2.2.1; omega)).mono ?_
              rintro e y1 ⟨g9, c9, rfl, hg9, hO9, b1⟩
              have HTB := Lib.hid b1
              have HO9 := Lib.hid hO9
              have HAn := Lib.hid (HA.out.below b1)
              clear HA
              have HA := HAn
              clear HAn
              have HSn := Lib.hid (HS.out.below b1)
              clear HS
              have HS := HSn
              clear HSn
              have HXn := Lib.hid (HXW.out.below b1)
              clear HXW
              have HXW := HXn
              clear HXn
              have HQn : Hid (Below B w5 y1) := Lib.hid (HQ.out.trans (b1.mono (by have := HQ.out.size; rw [HBB.out] at this; exact this)))
              clear HQ
              have HQ := HQn
              clear HQn b1 hg9 hO9
              have HOn : Hid (OwnR y1 NL 43 1 (.slice (some ⟨bA, off, none⟩) l2 c2) l2 (bwA S2)) := Lib.hid (HO.out.below HTB.out)
              clear HO
              have HO := HOn
              clear HOn
              have HSZn : Hid (NL ≤ y1.heap.size) := Lib.hid (Nat.le_trans HSZ.out HTB.out.size)
              clear HSZ
              have HSZ := HSZn
              clear HSZn HTB cx HCX
              obtain ⟨mg, hgood⟩ := HXW.out.2.2.2
              have HGD := Lib.hid hgood
              clear hgood
              have hkb : kb ≤ 50 := by have := HKB.out; omega
              have HPUT : Hid (Calls Try.prog 14 #[.pointer (some ⟨s2, 0, none⟩), .slice (some ⟨g9, 0, none⟩) x.n c9] y1 (PutM y1 B s2 m2 Hb kb T (hdB x))) := Lib.hid ((put_good g9 x.n c9 x.z mg B s2 m2 kb Hb rb y1 HS.out (by omega) HXW.out.2.1 HXW.out.2.2.1 HO9.out HGD.out).mono (fun e w' h => put_mx h (by omega) HMB.out))
              go_wp2_with fail
              refine HPUT.out.mono ?_
              rintro e y2 ⟨x9, H1, k1, r1, rfl, hf, hst, hk9, hmx, hle⟩
              have HAn : Hid (StAt y2 B s1 m1 Ha ka ra) := Lib.hid (HA.out.other HS.out.sh hf HN2.out.1 HN2.out.2)
              have HQn : Hid (Below B w5 y2) := Lib.hid (HQ.out.trans (hf.below HS.out.hs HS.out.hb HS.out.ltB))
              have HOn : Hid (OwnR y2 NL 43 1 (.slice (some ⟨bA, off, none⟩) l2 c2) l2 (bwA S2)) := Lib.hid (HO.out.fr HS.out.sh hf)
              have HSZn : Hid (NL ≤ y2.heap.size) := Lib.hid (Nat.le_trans HSZ.out hf.size)
              have HXn : Hid (BwOk y2 x) := Lib.hid (by have h9 := HW.out x (HSUB.out x (List.mem_of_getElem? HX.out)); exact ⟨Own8.below h9.1 HQn.out (by have := h9.lt; rw [HBB.out] at this; exact this), h9.2⟩)
              have HLE := Lib.hid hle
              have HMn := Lib.hid hmx
              have HSn := Lib.hid hst
              have HKn := Lib.hid hk9
              clear hf hst hk9 hmx hle HPUT HA HQ HO HSZ HXW HS HO9
              have HA := HAn
              clear HAn
              have HQ := HQn
              clear HQn
              have HO := HOn
              clear HOn
              have HSZ := HSZn
              clear HSZn
              have HS := HSn
              clear HSn
              have HXW := HXn
              clear HXn
              have HM1 := HMn
              have HK1 := HKn
              clear HMn HKn
              have HGOT : Hid (∃ h, H1 (hdB x).id = some h ∧ relH (hdB x) h ≤ 0) := Lib.hid (HM1.out.1 (hdB x) (.inr rfl))
              obtain ⟨tw, htw⟩ : ∃ q, (decide (i < nt) && Lt i) = q := ⟨_, rfl⟩
              have HTW := Lib.hid htw
              clear htw
              go_upto_region 32 with (fail)
              go_cut [120] (fun s wx => s = .bool tw ∧ y2 = wx)
              case first =>
                by_cases hit : i < nt
                · have hitI : (i : Int) < (nt : Int) := by omega
                  obtain ⟨bt, ot, rfl, hrt⟩ := HRT.out.1.row (by omega)
                  have ct9 : y2.cell? ⟨bt, ot + i, none⟩ = some (.bool (Lt i)) := (HQ.out.cell (p := ⟨bt, ot + i, none⟩) (by have h8 := hrt.1; show bt < B; omega)).trans ((HB.out.cell (p := ⟨bt, ot + i, none⟩) hrt.1).trans (by have h9 := hrt.2 i hit 0 (.bool (Lt i)) rfl; rw [Nat.mul_one] at h9; exact h9))
                  have HT9 : Hid (Lt i = tw) := Lib.hid (by rw [← HTW.out]; simp [hit])
                  rw [HT9.out] at ct9
                  clear hrt
                  go_wp2_with fail
                  go_meet
                  case rel => exact ⟨rfl, rfl⟩
                · have hitI : ¬ (i : Int) < (nt : Int) := by omega
                  have HT9 : Hid (tw = false) := Lib.hid (by rw [← HTW.out]; simp [hit])
                  have e9 := HT9.out; subst e9
                  go_wp2_with fail
                  go_meet
                  case rel => exact ⟨rfl, rfl⟩
              case rest =>
                obtain ⟨rfl, hwx⟩ := hcut
                subst hwx
                go_upto_if 120 with fail
                go_cut [] (fun wc => ∃ H2 k2 r2 T2, Hid (StAt wc B s2 m2 H2 k2 r2) ∧ Hid (k2 ≤ k1 + 1) ∧ Hid (Mx T2 H2) ∧ Hid (∀ h, T2 h ↔ (T h ∨ h = hdB x)) ∧ Hid (StAt wc B s1 m1 Ha ka ra) ∧ Hid (Below B w5 wc) ∧ Hid (OwnR wc NL 43 1 (.slice (some ⟨bA, off, none⟩) l2 c2) l2 (bwA S2)) ∧ Hid (NL ≤ wc.heap.size))
                case first =>
                  cases tw with
                  | false =>
                    go_wp2_with fail
                    go_meet
                    case rel => exact ⟨H1, k1, r1, _, HS, Lib.hid (Nat.le_succ _), HM1, Lib.hid (fun h => Iff.rfl), HA, HQ, HO, HSZ⟩
                  | true =>
                    have cx : y2.cell? ⟨bA, off + k, none⟩ = some (.slice (some ⟨x.g, 0, none⟩) x.n x.c) := by obtain ⟨A9, c9, e9, _, _, _, hr9⟩ := HO.out.shape (recs_bw S2) (by decide); cases e9; obtain ⟨b9, o9, e9, hc⟩ := bw_cell hr9 hk HX.out; cases e9; exact hc
                    go_wp2_with fail
                    refine (twin_any (some ⟨x.g, 0, none⟩) x.n x.c x.z y2 (Own8.rd HXW.out.1) (fun e => by cases e) (by have := HXW.out.2.2.1; omega)).mono ?_
                    rintro e y3 ⟨g9, c9, rfl, hg9, hO9, b1⟩
                    have HTB := Lib.hid b1
                    have HO9 := Lib.hid hO9
                    have HAn := Lib.hid (HA.out.below b1)
                    clear HA
                    have HA := HAn
                    clear HAn
                    have HSn := Lib.hid (HS.out.below b1)
                    clear HS
                    have HS := HSn
                    clear HSn
                    have HXn := Lib.hid (HXW.out.below b1)
                    clear HXW
                    have HXW := HXn
                    clear HXn
                    have HQn : Hid (Below B w5 y3) := Lib.hid (HQ.out.trans (b1.mono (by have := HQ.out.size; rw [HBB.out] at this; exact this)))
                    clear HQ
                    have HQ := HQn
                    clear HQn b1 hg9 hO9
                    have HOn : Hid (OwnR y3 NL 43 1 (.slice (some ⟨bA, off, none⟩) l2 c2) l2 (bwA S2)) := Lib.hid (HO.out.below HTB.out)
                    clear HO
                    have HO := HOn
                    clear HOn
                    have HSZn : Hid (NL ≤ y3.heap.size) := Lib.hid (Nat.le_trans HSZ.out HTB.out.size)
                    clear HSZ
                    have HSZ := HSZn
                    clear HSZn HTB cx
                    have hk1 : k1 ≤ 51 := by have := HK1.out; omega
                    have HPUT : Hid (Calls Try.prog 14 #[.pointer (some ⟨s2, 0, none⟩), .slice (some ⟨g9, 0, none⟩) x.n c9] y3 (PutM y3 B s2 m2 H1 k1 (fun h => T h ∨ h = hdB x) (hdB x))) := Lib.hid ((put_good g9 x.n c9 x.z mg B s2 m2 k1 H1 r1 y3 HS.out (by omega) HXW.out.2.1 HXW.out.2.2.1 HO9.out HGD.out).mono (fun e w' h => put_mx h (by omega) HM1.out))
                    go_wp2_with fail
                    refine HPUT.out.mono ?_
                    rintro e y4 ⟨x9, H2, k2, r2, rfl, hf, hst, hk9, hmx, hle⟩
                    have HAn : Hid (StAt y4 B s1 m1 Ha ka ra) := Lib.hid (HA.out.other HS.out.sh hf HN2.out.1 HN2.out.2)
                    have HQn : Hid (Below B w5 y4) := Lib.hid (HQ.out.trans (hf.below HS.out.hs HS.out.hb HS.out.ltB))
                    have HOn : Hid (OwnR y4 NL 43 1 (.slice (some ⟨bA, off, none⟩) l2 c2) l2 (bwA S2)) := Lib.hid (HO.out.fr HS.out.sh hf)
                    have HSZn : Hid (NL ≤ y4.heap.size) := Lib.hid (Nat.le_trans HSZ.out hf.size)
                    have HXn : Hid (BwOk y4 x) := Lib.hid (by have h9 := HW.out x (HSUB.out x (List.mem_of_getElem? HX.out)); exact ⟨Own8.below h9.1 HQn.out (by have := h9.lt; rw [HBB.out] at this; exact this), h9.2⟩)
                    have HLE := Lib.hid hle
                    have HMn := Lib.hid hmx
                    have HSn := Lib.hid hst
                    have HKn := Lib.hid hk9
                    clear hf hst hk9 hmx hle HPUT HA HQ HO HSZ HXW HS HO9
                    have HA := HAn
                    clear HAn
                    have HQ := HQn
                    clear HQn
                    have HO := HOn
                    clear HOn
                    have HSZ := HSZn
                    clear HSZn
                    have HS := HSn
                    clear HSn
                    have HXW := HXn
                    clear HXn
                    have hx9 : x9 ≤ 0 := HLE.out HGOT.out
                    have hx9b : ¬ (0 : Int) < x9 := by omega
                    go_wp2_with fail
                    go_meet
                    case rel => exact ⟨H2, k2, r2, _, HS, HKn, HMn, Lib.hid (fun h => ⟨fun e => e.elim id .inr, .inl⟩), HA, HQ, HO, HSZ⟩
                case rest =>
                  clear HS HM1 HA HQ HO HSZ HXW HGOT HLE
                  obtain ⟨H2, k2, r2, T2, HS, HK2, HM2, HT2, HA, HQ, HO, HSZ⟩ := hcut
                  obtain ⟨y5, hy5⟩ : ∃ x, x = wc := ⟨_, rfl⟩
                  subst hy5
                  have HWR : Hid (IntKind.i64.wrap ((k : Int) + 1) = (k : Int) + 1) := Lib.hid (by simp [IntKind.wrap, IntKind.signed, IntKind.bits]; omega)
                  have hlI3 : (l2 : Int) ≤ 9223372036854775807 := by omega
                  obtain ⟨A9, c9, e9, hc21, hc22, _, hr9⟩ := HO.out.shape (recs_bw S2) (by decide)
                  cases e9
                  have HR9 := Lib.hid hr9
                  have HC9 := Lib.hid (And.intro hc21 hc22)
                  clear hr9 hc21 hc22
                  have hkc : (k : Int) ≤ (c2 : Int) := by have := HC9.out; omega
                  have hkc1 : (k : Int) + 1 ≤ (l2 : Int) := by omega
                  have hlc9 : (l2 : Int) ≤ (c2 : Int) := by have := HC9.out; omega
                  have hcM : (c2 : Int) ≤ 9223372036854775807 := by have := HC9.out.2; have h9 : maxLen = 9223372036854775807 := rfl; omega
                  go_wp2_with fail
                  have HBd : Hid (Below y5.heap.size y5 y5.drew) := Lib.hid ((Below.refl _ _).drew)
                  have HSn : Hid (StAt y5.drew B s2 m2 H2 k2 r2) := Lib.hid (HS.out.below HBd.out)
                  clear HS
                  have HS := HSn
                  clear HSn
                  have HAn : Hid (StAt y5.drew B s1 m1 Ha ka ra) := Lib.hid (HA.out.below HBd.out)
                  clear HA
                  have HA := HAn
                  clear HAn
                  have HOn : Hid (OwnR y5.drew NL 43 1 (.slice (some ⟨bA, off, none⟩) l2 c2) l2 (bwA S2)) := Lib.hid (HO.out.below HBd.out)
                  clear HO
                  have HO := HOn
                  clear HOn
                  have HQn : Hid (Below B w5 y5.drew) := Lib.hid HQ.out.drew
                  clear HQ
                  have HQ := HQn
                  clear HQn
                  have HSZn : Hid (NL ≤ y5.drew.heap.size) := Lib.hid HSZ.out
                  clear HSZ
                  have HSZ := HSZn
                  clear HSZn
                  refine wp_region_held_drew (S := fun w' => Below B w5 w') (by kernel_rfl) HQ.out (fun hS => ?_)
                  generalize hY6 : y5.drew = Y6 at hS HS HA HO HQ HSZ HBd ⊢
                  clear hY6 HBd
                  refine takeY (i := 1) (some 138) (v := .slice (some ⟨bA, off, none⟩) l2 c2) rfl rfl (by kernel_rfl) (by kernel_rfl) (by kernel_rfl) (fun _ _ _ h => h) (by rfl) (fun w' hS => by clear hS; go_simp) hS ?_
                  simp only [Act.put, List.setIfInBounds_toArray, List.set_cons_zero, List.set_cons_succ]
                  refine takeY (i := 2) (some 139) (v := .int .i64 (k : Int)) rfl rfl (by kernel_rfl) (by kernel_rfl) (by kernel_rfl) (fun _ _ _ h => h) (by rfl) (fun w' hS => by clear hS; go_simp) hS ?_
                  simp only [Act.put, List.setIfInBounds_toArray, List.set_cons_zero, List.set_cons_succ]
                  refine takeY (i := 3) (some 140) (v := .slice (some ⟨bA, off, none⟩) k c2) rfl rfl (by kernel_rfl) (by kernel_rfl) (by kernel_rfl) (fun _ _ _ h => h) (by rfl) (fun w' hS => by clear hS; go_simp) hS ?_
                  simp only [Act.put, List.setIfInBounds_toArray, List.set_cons_zero, List.set_cons_succ]
                  refine takeY (i := 5) (some 142) (v := .slice (some ⟨bA, off, none⟩) l2 c2) rfl rfl (by kernel_rfl) (by kernel_rfl) (by kernel_rfl) (fun _ _ _ h => h) (by rfl) (fun w' hS => by clear hS; go_simp) hS ?_
                  simp only [Act.put, List.setIfInBounds_toArray, List.set_cons_zero, List.set_cons_succ]
                  refine takeY (i := 6) (some 143) (v := .int .i64 (k : Int)) rfl rfl (by kernel_rfl) (by kernel_rfl) (by kernel_rfl) (fun _ _ _ h => h) (by rfl) (fun w' hS => by clear hS; go_simp) hS ?_
                  simp only [Act.put, List.setIfInBounds_toArray, List.set_cons_zero, List.set_cons_succ]
                  refine takeY (i := 7) (some 144) (v := .int .i64 ((k : Int) + 1)) rfl rfl (by kernel_rfl) (by kernel_rfl) (by kernel_rfl) (fun _ _ _ h => h) (by rfl) (fun w' hS => by clear hS; go_simp; exact HWR.out) hS ?_
                  simp only [Act.put, List.setIfInBounds_toArray, List.set_cons_zero, List.set_cons_succ]
                  obtain ⟨o2, ho2⟩ : ∃ o, o = if c2 = k + 1 then off else off + (k + 1) := ⟨_, rfl⟩
                  have HO2 := Lib.hid ho2
                  clear ho2
                  refine takeY (i := 8) (some 145) (v := .slice (some ⟨bA, o2, none⟩) (l2 - (k + 1)) (c2 - (k + 1))) rfl rfl (by kernel_rfl) (by kernel_rfl) (by kernel_rfl) (fun _ _ _ h => h) (by rfl) (fun w' hS => by exact slice_loB _ _ _ _ rfl bA off l2 c2 k rfl rfl (by omega) HC9.out.1 o2 HO2.out _) hS ?_
                  simp only [Act.put, List.setIfInBounds_toArray, List.set_cons_zero, List.set_cons_succ]
                  obtain ⟨N6, hN6⟩ : ∃ N, Y6.heap.size = N := ⟨_, rfl⟩
                  have HN6 := Lib.hid hN6
                  have le_LN6 : NL ≤ N6 := by rw [← hN6]; exact HSZ.out
                  have le_BN6 : B ≤ N6 := by omega
                  clear hN6
                  refine takeB0 (i := 0) (some 137) rfl rfl (by kernel_rfl) (by rfl) rfl N6 HN6.out (fun Y7 k7 b7 => ⟨hS.trans (b7.mono (by rw [HN6.out]; exact le_BN6)), ?_⟩)
                  simp only [Act.put, List.setIfInBounds_toArray, List.set_cons_zero, List.set_cons_succ]
                  have HE : Hid (OwnR Y7 N6 43 1 (.slice (some ⟨N6, 0, none⟩) 0 0) 0 (bwA [])) := Lib.hid (own_empty k7 _)
                  have HZ7 : Hid (N6 ≤ Y7.heap.size) := Lib.hid (Nat.le_of_lt k7.lt)
                  have HB7 : Hid (Below N6 Y6 Y7) := Lib.hid (by rw [← HN6.out]; exact b7)
                  have HS7 : Hid (StAt Y7 B s2 m2 H2 k2 r2) := Lib.hid (HS.out.below b7)
                  have HA7 : Hid (StAt Y7 B s1 m1 Ha ka ra) := Lib.hid (HA.out.below b7)
                  have HQ7 : Hid (Below B w5 Y7) := Lib.hid (HQ.out.trans (b7.mono (by rw [HN6.out]; exact le_BN6)))
                  clear b7 k7 HS HA HQ hS
                  have HRr : ∀ Wx, Below N6 Y6 Wx → RdR Wx (some ⟨bA, off, none⟩) l2 1 (bwA S2) := fun Wx hb => by obtain ⟨A9, c9, e9, _, _, _, hr9⟩ := HO.out.shape (recs_bw S2) (by decide); cases e9; exact hr9.below hb HN6.out.symm
                  have HRR := Lib.hid HRr
                  clear HRr
                  refine takeYA (i := 4) (some 141) 54 43 1 24 _ Try.underlying54 infoA_bs rfl (by decide) rfl rfl (by kernel_rfl) (by rfl) (.tmp 137) (.tmp 140) rfl N6 _ 0 (bwA []) rfl HE.out HZ7.out ⟨bA, off, none⟩ k c2 (bwA S2) rfl ((HRR.out Y7 HB7.out).cut k (by omega)) (recs_bw S2) (by rw [HML.out]; omega) (by omega) (fun v8 Y8 ho8 hg8 hk8 => ⟨HQ7.out.trans ((((Below.refl _ _).grown hg8 HZ7.out (fun k e => hk8 k e)) : Below N6 Y7 Y8).mono le_BN6), ?_⟩)
                  simp only [Act.put, List.setIfInBounds_toArray, List.set_cons_zero, List.set_cons_succ]
                  have HB8 : Hid (Below N6 Y7 Y8) := Lib.hid ((Below.refl _ _).grown hg8 HZ7.out (fun k e => hk8 k e))
                  have HS8 : Hid (StAt Y8 B s2 m2 H2 k2 r2) := Lib.hid (HS7.out.grownB hg8 hk8 HE.out)
                  have HA8 : Hid (StAt Y8 B s1 m1 Ha ka ra) := Lib.hid (HA7.out.grownB hg8 hk8 HE.out)
                  have HZ8 : Hid (N6 ≤ Y8.heap.size) := Lib.hid (Nat.le_trans HZ7.out hg8.size)
                  have HO8 : Hid (OwnR Y8 N6 43 1 v8 (0 + k) (catR (bwA []) 0 (bwA S2))) := Lib.hid ho8
                  clear ho8 hg8 hk8
                  have HQ8 : Hid (Below B w5 Y8) := Lib.hid (HQ7.out.trans (HB8.out.mono le_BN6))
                  have HBY : Hid (Below N6 Y6 Y8) := Lib.hid (HB7.out.trans HB8.out)
                  have hS : Below B w5 Y8 := HQ8.out
                  refine takeYA (i := 9) (some 146) 54 43 1 24 _ Try.underlying54 infoA_bs rfl (by decide) rfl rfl (by kernel_rfl) (by rfl) (.tmp 141) (.tmp 145) rfl N6 v8 (0 + k) (catR (bwA []) 0 (bwA S2)) rfl HO8.out HZ8.out ⟨bA, o2, none⟩ (l2 - (k + 1)) (c2 - (k + 1)) (fun j => bwA S2 ((k + 1) + j)) rfl (rd_tail (HRR.out Y8 HBY.out) (by omega) HC9.out.1 o2 HO2.out) (fun j => recs_bw S2 _) (by rw [HML.out]; omega) (by omega) (fun v9 Y9 ho9 hg9 hk9 => ⟨HQ8.out.trans ((((Below.refl _ _).grown hg9 HZ8.out (fun k e => hk9 k e)) : Below N6 Y8 Y9).mono le_BN6), ?_⟩)
                  simp only [Act.put, List.setIfInBounds_toArray, List.set_cons_zero, List.set_cons_succ]
                  have HS9 : Hid (StAt Y9 B s2 m2 H2 k2 r2) := Lib.hid (HS8.out.grownB hg9 hk9 HO8.out)
                  have HA9 : Hid (StAt Y9 B s1 m1 Ha ka ra) := Lib.hid (HA8.out.grownB hg9 hk9 HO8.out)
                  have HQ9 : Hid (Below B w5 Y9) := Lib.hid (HQ8.out.trans ((((Below.refl _ _).grown hg9 HZ8.out (fun k e => hk9 k e)) : Below N6 Y8 Y9).mono le_BN6))
                  have HZ9 : Hid (NL ≤ Y9.heap.size) := Lib.hid (by have := HZ8.out; have := hg9.size; omega)
                  obtain ⟨S3, hS3⟩ : ∃ T, S2.take k ++ S2.drop (k + 1) = T := ⟨_, rfl⟩
                  have HS3L : Hid (S3.length + 1 = l2) := Lib.hid (by rw [← hS3, ← HL2.out]; exact len_out (by rw [HL2.out]; exact hk))
                  have HO9 : Hid (OwnR Y9 NL 43 1 v9 S3.length (bwA S3)) := Lib.hid (by
                    have e1 : 0 + k + (l2 - (k + 1)) = S3.length := by have := HS3L.out; omega
                    rw [e1] at ho9
                    refine (OwnR.mono ho9 le_LN6).congr (fun j hj => ?_)
                    rw [← hS3, ← bw_cat _ _ j (by rw [← List.length_append, hS3]; exact hj)]
                    have hlk : (S2.take k).length = k := by rw [List.length_take, HL2.out]; omega
                    unfold catR
                    rw [hlk, Nat.zero_add]
                    by_cases h9 : j < k
                    · rw [if_pos h9, if_pos h9, if_neg (Nat.not_lt_zero _), Nat.sub_zero, bw_take S2 k j h9]
                    · rw [if_neg h9, if_neg h9, ← bw_drop])
                  have HEQ9 : Hid (∀ h, (T2 h ∨ OfB S3 h) ↔ OfB S h) := Lib.hid (fun h => by rw [← HEQ.out h, ← ofB_out HX.out T h, HT2.out h, hS3])
                  have HSUB9 : Hid (∀ y ∈ S3, y ∈ S) := Lib.hid (fun y hy => HSUB.out y (mem_out (k := k) (by rw [hS3]; exact hy)))
                  clear ho9 hg9 hk9 HS8 HA8 HQ8 HO8 HBY HB8 HZ8 hS3 HE hS
                  have hS : Below B w5 Y9 := HQ9.out
                  refine takeY (i := 10) (some 18) (v := v9) rfl rfl (by kernel_rfl) (by kernel_rfl) (by kernel_rfl) (fun _ _ _ h => h) (by rfl) (fun w' hS => by clear hS; go_simp) hS ?_
                  simp only [Act.put, List.setIfInBounds_toArray, List.set_cons_zero, List.set_cons_succ]
                  clear hS
                  refine wpAnyH_done (by kernel_rfl) ?_ _
                  go_wp2_with fail
                  go_roundw
                  case rel => exact ⟨i + 1, S3, H2, k2, r2, T2, by go_num, HO9, by have := HS3L.out; omega, HS9, Lib.hid (by have := HS3L.out; have := HK2.out; have := HK1.out; have := HKB.out; have := HL2.out; omega), HM2, HEQ9, HSUB9, HA9, HQ9, HZ9⟩
                  case measure => simp only [intOf]; omega
          · obtain rfl : l2 = 0 := by omega
            have e2 : S2 = [] := List.eq_nil_of_length_eq_zero HL2.out
            subst e2
            have HMX : Hid (Mx (OfB S) Hb) := Lib.hid (HMB.out.congr (fun h => ⟨fun e => (HEQ.out h).1 (.inl e), fun e => ((HEQ.out h).2 e).elim id (fun e => ((ofB_nil h).1 e).elim)⟩))
            have hkb : kb ≤ 50 := by have := HKB.out; omega
            have hka : ka ≤ 25 := by have := HKA.out; omega
            have HOK : Hid (∀ h, OfB S h → (IdOk h.id ∧ h.id ≤ mxI) ∧ (27 ≤ h.n ∧ h.n ≤ 1492) ∧ (0 ≤ h.li ∧ h.li ≤ 65535)) := Lib.hid (fun h ⟨x, hx, e⟩ => by
              have h9 := hdB_ok (HW.out x hx)
              subst e
              exact ⟨⟨h9.1, le_mx h9.1⟩, by rw [h9.2.1]; exact (HW.out x hx).2.2.1, h9.2.2.2⟩)
            clear HO HR2 HC2 HKB HMB HEQ HSUB HSZ
            go_wp2_with fail
            refine (first_any wr).mono ?_
            rintro e z1 ⟨rfl, b1⟩
            have HSn := Lib.hid (HS.out.below b1)
            clear HS
            have HS := HSn
            clear HSn
            have HAn := Lib.hid (HA.out.below b1)
            clear HA
            have HA := HAn
            clear HAn
            have HQn : Hid (Below B w5 z1) := Lib.hid (HQ.out.trans (b1.mono (by have := HQ.out.size; rw [HBB.out] at this; exact this)))
            clear HQ
            have HQ := HQn
            clear HQn
            clear b1
            go_wp2_with fail
            refine (last_any z1).mono ?_
            rintro e z2 ⟨rfl, b1⟩
            have HSn := Lib.hid (HS.out.below b1)
            clear HS
            have HS := HSn
            clear HSn
            have HAn := Lib.hid (HA.out.below b1)
            clear HA
            have HA := HAn
            clear HAn
            have HQn : Hid (Below B w5 z2) := Lib.hid (HQ.out.trans (b1.mono (by have := HQ.out.size; rw [HBB.out] at this; exact this)))
            clear HQ
            have HQ := HQn
            clear HQn
            clear b1
            go_wp2_with fail
            refine (list_any B s1 m1 ka 0 mxI Ha ra z2 HA.out (by unfold IdOk; decide) mx_ok (by omega)).mono ?_
            rintro e z3 ⟨v9, TX, rfl, ho9, hi9, hl9, b1⟩
            obtain ⟨AX, cX, rfl, _, _, _, hrd9⟩ := ho9.shape (recs_hd _) (by decide)
            have HIX := Lib.hid hi9
            have HRX : Hid (RdM z3 AX TX.length (enB TX)) := Lib.hid hrd9
            have HSn := Lib.hid (HS.out.below b1)
            clear HS
            have HS := HSn
            clear HSn
            have HAn := Lib.hid (HA.out.below b1)
            clear HA
            have HA := HAn
            clear HAn
            have HQn : Hid (Below B w5 z3) := Lib.hid (HQ.out.trans (b1.mono (by have := HQ.out.size; rw [HBB.out] at this; exact this)))
            clear HQ
            have HQ := HQn
            clear HQn
            have hbX : TX.length ≤ 25 := by omega
            clear ho9 hi9 hl9 hrd9 b1
            go_wp2_with fail
            refine (first_any z3).mono ?_
            rintro e z4 ⟨rfl, b1⟩
            have HSn := Lib.hid (HS.out.below b1)
            clear HS
            have HS := HSn
            clear HSn
            have HAn := Lib.hid (HA.out.below b1)
            clear HA
            have HA := HAn
            clear HAn
            have HRXn := Lib.hid (HRX.out.below b1)
            clear HRX
            have HRX := HRXn
            clear HRXn
            have HQn : Hid (Below B w5 z4) := Lib.hid (HQ.out.trans (b1.mono (by have := HQ.out.size; rw [HBB.out] at this; exact this)))
            clear HQ
            have HQ := HQn
            clear HQn
            clear b1
            go_wp2_with fail
            refine (last_any z4).mono ?_
            rintro e z5 ⟨rfl, b1⟩
            have HSn := Lib.hid (HS.out.below b1)
            clear HS
            have HS := HSn
            clear HSn
            have HAn := Lib.hid (HA.out.below b1)
            clear HA
            have HA := HAn
            clear HAn
            have HRXn := Lib.hid (HRX.out.below b1)
            clear HRX
            have HRX := HRXn
            clear HRXn
            have HQn : Hid (Below B w5 z5) := Lib.hid (HQ.out.trans (b1.mono (by have := HQ.out.size; rw [HBB.out] at this; exact this)))
            clear HQ
            have HQ := HQn
            clear HQn
            clear b1
            go_wp2_with fail
            refine (list_any B s2 m2 kb 0 mxI Hb rb z5 HS.out (by unfold IdOk; decide) mx_ok (by omega)).mono ?_
            rintro e z6 ⟨v9, TY, rfl, ho9, hi9, hl9, b1⟩
            obtain ⟨AY, cY, rfl, _, _, _, hrd9⟩ := ho9.shape (recs_hd _) (by decide)
            have HIY := Lib.hid hi9
            have HRY : Hid (RdM z6 AY TY.length (enB TY)) := Lib.hid hrd9
            have HSn := Lib.hid (HS.out.below b1)
            clear HS
            have HS := HSn
            clear HSn
            have HAn := Lib.hid (HA.out.below b1)
            clear HA
            have HA := HAn
            clear HAn
            have HRXn := Lib.hid (HRX.out.below b1)
            clear HRX
            have HRX := HRXn
            clear HRXn
            have HQn : Hid (Below B w5 z6) := Lib.hid (HQ.out.trans (b1.mono (by have := HQ.out.size; rw [HBB.out] at this; exact this)))
            clear HQ
            have HQ := HQn
            clear HQn
            have hbY : TY.length ≤ 50 := by omega
            clear ho9 hi9 hl9 hrd9 b1
            have hlist := mx_lists HMA.out HMX.out (fun h hh => (HOK.out h hh).1) HIX.out HIY.out
            obtain ⟨lX, hlX⟩ : ∃ l, TX.length = l := ⟨_, rfl⟩
            have hlY : TY.length = lX := by rw [← hlist.1, hlX]
            have HEACH := Lib.hid hlist.2
            have HLX := Lib.hid hlX
            have HLY := Lib.hid hlY
            rw [hlX] at HRX hbX
            rw [hlY] at HRY
            simp only [hlX, hlY]
            clear hlist hlX hlY hbY
            have hlXI : (lX : Int) ≤ 9223372036854775807 := by omega
            go_wp2_with fail
            obtain ⟨N9, hN9⟩ : ∃ N, z6.heap.size = N := ⟨_, rfl⟩
            have HN9 := Lib.hid hN9
            have le_BN9 : B ≤ N9 := by rw [← hN9]; exact HA.out.ltB
            clear hN9
            go_loopw [162] (fun t wr => ∃ i : Nat, i ≤ lX ∧ t = .int .i64 i ∧ Hid (Below N9 z6 wr)) (fun t _ => lX - (intOf t).toNat)
            case atStart => exact ⟨0, by omega, rfl, Lib.hid (Below.refl _ _)⟩
            case round =>
              obtain ⟨i, hi, rfl, HZ⟩ := hrel
              by_cases hlt : i < lX
              · skip
                have hki : (i : Int) < (lX : Int) := by omega
                obtain ⟨xX, hxX⟩ : ∃ x, TX[i]? = some x := ⟨_, List.getElem?_eq_getElem (by rw [HLX.out]; exact hlt)⟩
                obtain ⟨xY, hxY⟩ : ∃ x, TY[i]? = some x := ⟨_, List.getElem?_eq_getElem (by rw [HLY.out]; exact hlt)⟩
                have hev := HEACH.out i xX xY hxX hxY
                obtain ⟨hX, hhX⟩ : ∃ h, xX.1 = h := ⟨_, rfl⟩
                obtain ⟨hY, hhY⟩ : ∃ h, xY.1 = h := ⟨_, rfl⟩
                rw [hhX, hhY] at hev
                have HEV := Lib.hid hev
                have HGX : Hid (Ha hX.id = some hX) := Lib.hid (by rw [← hhX]; exact ((HIX.out.2 xX).1 (List.mem_of_getElem? hxX)).1)
                have HGY : Hid (Hb hY.id = some hY) := Lib.hid (by rw [← hhY]; exact ((HIY.out.2 xY).1 (List.mem_of_getElem? hxY)).1)
                obtain ⟨bX, oX, rfl, hrX⟩ := RdR.row HRX.out (by omega)
                have HEX : Hid (z6.rangeAt bX (oX + i * 11) (iC hX.id).toList ∧ bX < z6.heap.size) := Lib.hid ⟨ent_rng (by have h9 := hrX.2 i hlt; rw [enB_at TX i xX hxX, hhX] at h9; exact h9), hrX.1⟩
                have HIXd : Hid (IdOk hX.id) := Lib.hid (by rw [← hhX]; exact xX.2)
                obtain ⟨bY, oY, rfl, hrY⟩ := RdR.row HRY.out (by omega)
                have HEY : Hid (z6.rangeAt bY (oY + i * 11) (iC hY.id).toList ∧ bY < z6.heap.size) := Lib.hid ⟨ent_rng (by have h9 := hrY.2 i hlt; rw [enB_at TY i xY hxY, hhY] at h9; exact h9), hrY.1⟩
                have HIYd : Hid (IdOk hY.id) := Lib.hid (by rw [← hhY]; exact xY.2)
                have hrel0 := relH_zero hev.2.1
                have HR0 := Lib.hid hrel0
                have HnX := Lib.hid (HOK.out hX hev.2.2.1).2
                have HnY := Lib.hid (HOK.out hY hev.2.2.2).2
                clear hxX hxY hev hhX hhY hrX hrY hrel0
                have HEw : Hid (wr.rangeAt bX (oX + i * 11) (iC hX.id).toList) := Lib.hid (rangeAt_below HEX.out.1 HZ.out (by rw [← HN9.out]; exact HEX.out.2))
                go_wp2_with (refine wpList_ld (op := ⟨some 171, _, _, _, _, _⟩) (by rfl) 28 (.tmp 170) rfl bX (oX + i * 11) rfl (iC hX.id) _ HEw.out Try.underlying28 rfl info_iC ?_; refine Hid.out ?_)
                refine Lib.hid ?_
                clear HEw
                have HG9 := Lib.hid (stGet_any B s1 m1 ka hX.id Ha ra wr (HA.out.below (by rw [HN9.out]; exact HZ.out)) HIXd.out (fun h e => by rw [HGX.out] at e; cases e; exact HnX.out.2))
                go_wp2_with fail
                refine HG9.out.mono ?_
                rintro e y1 ⟨b1, hc⟩
                rcases hc with ⟨hn9, _⟩ | ⟨h9, gX, cX2, hh9, rfl, hg9, ho9⟩
                · rw [HGX.out] at hn9; cases hn9
                obtain rfl : hX = h9 := Option.some.inj (HGX.out.symm.trans hh9)
                have HP1 := Lib.hid ho9
                have hgX : wr.heap.size ≤ gX := hg9
                have HgX0 : Hid (N9 ≤ gX) := Lib.hid (by have := HZ.out.size; rw [HN9.out] at this; omega)
                have HZn : Hid (Below N9 z6 y1) := Lib.hid (HZ.out.trans (b1.mono (by have := HZ.out.size; rw [HN9.out] at this; exact this)))
                clear HZ
                have HZ := HZn
                clear HZn b1 hh9 hg9 ho9 HG9
                obtain ⟨N29, hN29⟩ : ∃ N, y1.heap.size = N := ⟨_, rfl⟩
                have HN29 := Lib.hid hN29
                clear hN29
                go_wp2_with (refine wpList_new (op := ⟨some 29, _, _, _, _, _⟩) rfl 32 rfl (enC en0) zero_enW N29 HN29.out ?_; intro y2 k1 b1 s9; refine Hid.out ?_)
                refine Lib.hid ?_
                have K29 := Lib.hid k1
                have HB1 := Lib.hid b1
                clear k1 b1 s9
                go_wp2_with (refine wpList_st rfl 32 (.tmp 29) (.tmp 174) rfl N29 0 rfl (.agg (enC (hdE hX))) (enC (hdE hX)) rfl rfl info_enP (enC_all _) K29.out (Nat.le_of_ble_eq_true rfl) (C' := enC (hdE hX)) (en_over _ _) ?_; intro y3 q1; refine Hid.out ?_)
                refine Lib.hid ?_
                have b1 : Below y1.heap.size y1 y3 := HB1.out.trans (q1.2.1 _ (by rw [HN29.out]; exact Nat.le_refl _))
                have K29n : Hid (Blk 32 y3 N29 (enC (hdE hX))) := Lib.hid q1.1
                clear K29
                have K29 := K29n
                clear K29n q1 HB1
                have HP1n := Lib.hid (Own8.below HP1.out b1 (Own8.lt HP1.out))
                clear HP1
                have HP1 := HP1n
                clear HP1n
                have HZn : Hid (Below N9 z6 y3) := Lib.hid (HZ.out.trans (b1.mono (by have := HZ.out.size; rw [HN9.out] at this; exact this)))
                clear HZ
                have HZ := HZn
                clear HZn b1
                have HEw : Hid (y3.rangeAt bY (oY + i * 11) (iC hY.id).toList) := Lib.hid (rangeAt_below HEY.out.1 HZ.out (by rw [← HN9.out]; exact HEY.out.2))
                go_wp2_with (refine wpList_ld (op := ⟨some 182, _, _, _, _, _⟩) (by rfl) 28 (.tmp 181) rfl bY (oY + i * 11) rfl (iC hY.id) _ HEw.out Try.underlying28 rfl info_iC ?_; refine Hid.out ?_)
                refine Lib.hid ?_
                clear HEw
                have HG9 := Lib.hid (stGet_any B s2 m2 kb hY.id Hb rb y3 (HS.out.below (by rw [HN9.out]; exact HZ.out)) HIYd.out (fun h e => by rw [HGY.out] at e; cases e; exact HnY.out.2))
                go_wp2_with fail
                refine HG9.out.mono ?_
                rintro e y4 ⟨b1, hc⟩
                rcases hc with ⟨hn9, _⟩ | ⟨h9, gY, cY2, hh9, rfl, hg9, ho9⟩
                · rw [HGY.out] at hn9; cases hn9
                obtain rfl : hY = h9 := Option.some.inj (HGY.out.symm.trans hh9)
                have HP2 := Lib.hid ho9
                have HP1n := Lib.hid (Own8.below HP1.out b1 (Own8.lt HP1.out))
                have HgXY : Hid (gX < gY) := Lib.hid (Nat.lt_of_lt_of_le (Own8.lt HP1.out) hg9)
                clear HP1
                have HP1 := HP1n
                have K29n := Lib.hid (K29.out.below b1 K29.out.lt)
                clear K29
                have K29 := K29n
                have HZn : Hid (Below N9 z6 y4) := Lib.hid (HZ.out.trans (b1.mono (by have := HZ.out.size; rw [HN9.out] at this; exact this)))
                clear HZ
                have HZ := HZn
                clear HZn HP1n K29n b1 hh9 hg9 ho9 HG9
                obtain ⟨N32, hN32⟩ : ∃ N, y4.heap.size = N := ⟨_, rfl⟩
                have HN32 := Lib.hid hN32
                clear hN32
                go_wp2_with (refine wpList_new (op := ⟨some 32, _, _, _, _, _⟩) rfl 32 rfl (enC en0) zero_enW N32 HN32.out ?_; intro y5 k1 b1 s9; refine Hid.out ?_)
                refine Lib.hid ?_
                have K32 := Lib.hid k1
                have HB1 := Lib.hid b1
                clear k1 b1 s9
                go_wp2_with (refine wpList_st rfl 32 (.tmp 32) (.tmp 185) rfl N32 0 rfl (.agg (enC (hdE hY))) (enC (hdE hY)) rfl rfl info_enP (enC_all _) K32.out (Nat.le_of_ble_eq_true rfl) (C' := enC (hdE hY)) (en_over _ _) ?_; intro y6 q1; refine Hid.out ?_)
                refine Lib.hid ?_
                have b1 : Below y4.heap.size y4 y6 := HB1.out.trans (q1.2.1 _ (by rw [HN32.out]; exact Nat.le_refl _))
                have K32n : Hid (Blk 32 y6 N32 (enC (hdE hY))) := Lib.hid q1.1
                clear K32
                have K32 := K32n
                clear K32n q1 HB1
                have HP1n := Lib.hid (Own8.below HP1.out b1 (Own8.lt HP1.out))
                clear HP1
                have HP1 := HP1n
                clear HP1n
                have HP2n := Lib.hid (Own8.below HP2.out b1 (Own8.lt HP2.out))
                clear HP2
                have HP2 := HP2n
                clear HP2n
                have K29n := Lib.hid (K29.out.below b1 K29.out.lt)
                clear K29
                have K29 := K29n
                clear K29n
                have HZn : Hid (Below N9 z6 y6) := Lib.hid (HZ.out.trans (b1.mono (by have := HZ.out.size; rw [HN9.out] at this; exact this)))
                clear HZ
                have HZ := HZn
                clear HZn b1
                have hnXY : hY.n = hX.n := by have h8 := HR0.out.1.2; have := HnX.out.1; have := HnY.out.1; omega
                have HNXY := Lib.hid hnXY
                rw [hnXY]
                clear hnXY
                obtain ⟨nX, hnX⟩ : ∃ n, hX.n = n := ⟨_, rfl⟩
                rw [hnX]
                have HNX := Lib.hid hnX
                have hn27 : 27 ≤ nX := by rw [← hnX]; exact HnX.out.1.1
                have hn1492 : nX ≤ 1492 := by rw [← hnX]; exact HnX.out.1.2
                clear hnX
                obtain ⟨lx, hlx⟩ : ∃ l, hX.li = l := ⟨_, rfl⟩
                obtain ⟨ly, hly⟩ : ∃ l, hY.li = l := ⟨_, rfl⟩
                have cX9 : y6.cell? ⟨N29, 9, none⟩ = some (.int .i64 lx) := (K29.out.cell 9).trans (by rw [← hlx]; rfl)
                have cY9 : y6.cell? ⟨N32, 9, none⟩ = some (.int .i64 ly) := (K32.out.cell 9).trans (by rw [← hly]; rfl)
                have HLI : Hid ((lx == 0) = (ly == 0)) := Lib.hid (by have h9 := HR0.out.1.1; rw [hlx, hly] at h9; rw [Bool.eq_iff_iff]; simpa using h9)
                clear hlx hly
                have hnI : (nX : Int) ≤ 9223372036854775807 := by omega
                obtain ⟨q0, hq0⟩ : ∃ q, (lx == 0) = q := ⟨_, rfl⟩
                have hq1 : (ly == 0) = q0 := by rw [← HLI.out, hq0]
                have HFIN : Hid (∀ j, j < nX → (fun j => if j = 10 then (lfZ hY 10) else if j = 11 then (lfZ hY 11) else lfZ hX j) j = lfZ hY j) := Lib.hid (fun j hj => by
                  have h8 := HNX.out
                  show (if j = 10 then (lfZ hY 10) else if j = 11 then (lfZ hY 11) else lfZ hX j) = lfZ hY j
                  by_cases e10 : j = 10
                  · subst e10; rw [if_pos rfl]
                  · by_cases e11 : j = 11
                    · subst e11; rw [if_neg (by decide), if_pos rfl]
                    · rw [if_neg e10, if_neg e11]
                      unfold lfZ
                      rw [if_neg e10, if_neg e11, if_neg e10, if_neg e11]
                      by_cases h10 : j < 10
                      · exact HR0.out.2.1 j h10
                      · have h9 := HR0.out.2.2 (j - 12) (by omega); rw [show 12 + (j - 12) = j by omega] at h9; exact h9)
                have HP1m : Hid (Own8 y6 gX nX cX2 (lfZ hX)) := Lib.hid (by rw [← HNX.out]; exact HP1.out)
                have HP2m : Hid (Own8 y6 gY nX cY2 (lfZ hY)) := Lib.hid (by rw [← HNX.out, ← HNXY.out]; exact HP2.out)
                clear HP1 HP2 K29 K32 HLI
                cases q0 with
                | false =>
                  go_upto_region 47 with (fail)
                  clear hq0 hq1 cX9 cY9
                  obtain ⟨cur, hcur, hsz, hfin⟩ := own_two HP1m.out (by omega)
                  have KC := Lib.hid hcur
                  have HFI := Lib.hid hfin
                  have HSZC := Lib.hid hsz
                  clear hcur hsz hfin HP1m
                  have h10 : (10 : Int) < (nX : Int) := by omega
                  have h11 : (11 : Int) < (nX : Int) := by omega
                  have HPd : Hid (Own8 y6.drew gY nX cY2 (lfZ hY)) := Lib.hid (Own8.below HP2m.out ((Below.refl _ _).drew) (Own8.lt HP2m.out))
                  clear HP2m
                  obtain ⟨a10, ha10⟩ : ∃ a, lfZ hY 10 = a := ⟨_, rfl⟩
                  obtain ⟨a11, ha11⟩ : ∃ a, lfZ hY 11 = a := ⟨_, rfl⟩
                  have HA1 := Lib.hid (And.intro ha10 ha11)
                  clear ha10 ha11
                  have ne_gYX : gY ≠ gX := by have := HgXY.out; omega
                  refine wp_region_held_drew (S := fun w' => Own8 w' gY nX cY2 (lfZ hY) ∧ Below N9 z6 w') (by kernel_rfl) ⟨HPd.out, HZ.out.drew⟩ (fun hS => ?_)
                  have KCd : Hid (Blk 5 y6.drew gX cur) := Lib.hid KC.out
                  clear KC
                  have KC := KCd
                  clear KCd HPd
                  generalize hY7 : y6.drew = Y7 at hS KC ⊢
                  clear hY7
                  refine takeY (i := 0) (some 209) (v := .slice (some ⟨gX, 0, none⟩) nX cX2) rfl rfl (by kernel_rfl) (by kernel_rfl) (by kernel_rfl) (fun _ _ _ h => h) (by rfl) (fun w' hS => by clear hS; go_simp) hS ?_
                  simp only [Act.put, List.setIfInBounds_toArray, List.set_cons_zero, List.set_cons_succ]
                  refine takeY (i := 1) (some 210) (v := .slice (some ⟨gX, 0, none⟩) nX cX2) rfl rfl (by kernel_rfl) (by kernel_rfl) (by kernel_rfl) (fun _ _ _ h => h) (by rfl) (fun w' hS => by clear hS; go_simp) hS ?_
                  simp only [Act.put, List.setIfInBounds_toArray, List.set_cons_zero, List.set_cons_succ]
                  refine takeY (i := 2) (some 211) (v := .slice (some ⟨gY, 0, none⟩) nX cY2) rfl rfl (by kernel_rfl) (by kernel_rfl) (by kernel_rfl) (fun _ _ _ h => h) (by rfl) (fun w' hS => by clear hS; go_simp) hS ?_
                  simp only [Act.put, List.setIfInBounds_toArray, List.set_cons_zero, List.set_cons_succ]
                  refine takeY (i := 3) (some 212) (v := .pointer (some ⟨gY, 10, none⟩)) rfl rfl (by kernel_rfl) (by kernel_rfl) (by kernel_rfl) (fun _ _ _ h => h) (by rfl) (fun w' hS => by clear hS; go_simp) hS ?_
                  simp only [Act.put, List.setIfInBounds_toArray, List.set_cons_zero, List.set_cons_succ]
                  refine takeY (i := 4) (some 213) (v := .int .u8 a10) rfl rfl (by kernel_rfl) (by kernel_rfl) (by kernel_rfl) (fun _ _ _ h => h) (by rfl) (fun w' hS => by (have c9 : w'.cell? ⟨gY, 10, none⟩ = some (.int .u8 a10) := by rw [← HA1.out.1]; exact own8_cell hS.1 (by omega)); clear hS; go_simp) hS ?_
                  simp only [Act.put, List.setIfInBounds_toArray, List.set_cons_zero, List.set_cons_succ]
                  refine takeY (i := 5) (some 214) (v := .slice (some ⟨gY, 0, none⟩) nX cY2) rfl rfl (by kernel_rfl) (by kernel_rfl) (by kernel_rfl) (fun _ _ _ h => h) (by rfl) (fun w' hS => by clear hS; go_simp) hS ?_
                  simp only [Act.put, List.setIfInBounds_toArray, List.set_cons_zero, List.set_cons_succ]
                  refine takeY (i := 6) (some 215) (v := .pointer (some ⟨gY, 11, none⟩)) rfl rfl (by kernel_rfl) (by kernel_rfl) (by kernel_rfl) (fun _ _ _ h => h) (by rfl) (fun w' hS => by clear hS; go_simp) hS ?_
                  simp only [Act.put, List.setIfInBounds_toArray, List.set_cons_zero, List.set_cons_succ]
                  refine takeY (i := 7) (some 216) (v := .int .u8 a11) rfl rfl (by kernel_rfl) (by kernel_rfl) (by kernel_rfl) (fun _ _ _ h => h) (by rfl) (fun w' hS => by (have c9 : w'.cell? ⟨gY, 11, none⟩ = some (.int .u8 a11) := by rw [← HA1.out.2]; exact own8_cell hS.1 (by omega)); clear hS; go_simp) hS ?_
                  simp only [Act.put, List.setIfInBounds_toArray, List.set_cons_zero, List.set_cons_succ]
                  refine takeY (i := 8) (some 217) (v := .pointer (some ⟨gX, 10, none⟩)) rfl rfl (by kernel_rfl) (by kernel_rfl) (by kernel_rfl) (fun _ _ _ h => h) (by rfl) (fun w' hS => by clear hS; go_simp) hS ?_
                  simp only [Act.put, List.setIfInBounds_toArray, List.set_cons_zero, List.set_cons_succ]
                  have le_N9X : N9 ≤ gX := by have h9 := HgX0.out; omega
                  refine takeSt (i := 9) 5 (.tmp 217) (.tmp 213) gX 10 (.int .u8 (a10)) #[.int .u8 (a10)] (putMany cur 10 [.int .u8 a10]) rfl rfl (by kernel_rfl) (by rfl) rfl rfl rfl rfl info_u8M (one_u8M _) KC.out (by have := HSZC.out; simp; omega) rfl ?_
                  intro p1 q1
                  refine ⟨⟨Own8.block hS.1 (q1.2.2 gY ne_gYX), hS.2.trans (q1.2.1 _ (by omega))⟩, ?_⟩
                  simp only [Act.put, List.setIfInBounds_toArray, List.set_cons_zero, List.set_cons_succ]
                  have hSn : Own8 p1 gY nX cY2 (lfZ hY) ∧ Below N9 z6 p1 := ⟨Own8.block hS.1 (q1.2.2 gY ne_gYX), hS.2.trans (q1.2.1 _ (by omega))⟩
                  have KCn : Hid (Blk 5 p1 gX (putMany cur 10 [.int .u8 a10])) := Lib.hid q1.1
                  clear KC
                  have KC := KCn
                  clear KCn q1 hS
                  have hS := hSn
                  clear hSn
                  refine takeY (i := 10) (some 218) (v := .pointer (some ⟨gX, 11, none⟩)) rfl rfl (by kernel_rfl) (by kernel_rfl) (by kernel_rfl) (fun _ _ _ h => h) (by rfl) (fun w' hS => by clear hS; go_simp) hS ?_
                  simp only [Act.put, List.setIfInBounds_toArray, List.set_cons_zero, List.set_cons_succ]
                  refine takeSt (i := 11) 5 (.tmp 218) (.tmp 216) gX 11 (.int .u8 (a11)) #[.int .u8 (a11)] (putMany (putMany cur 10 [.int .u8 a10]) 11 [.int .u8 a11]) rfl rfl (by kernel_rfl) (by rfl) rfl rfl rfl rfl info_u8M (one_u8M _) KC.out (by have := HSZC.out; simp [putMany]; omega) rfl ?_
                  intro p2 q1
                  refine ⟨⟨Own8.block hS.1 (q1.2.2 gY ne_gYX), hS.2.trans (q1.2.1 _ (by omega))⟩, ?_⟩
                  simp only [Act.put, List.setIfInBounds_toArray, List.set_cons_zero, List.set_cons_succ]
                  have hSn : Own8 p2 gY nX cY2 (lfZ hY) ∧ Below N9 z6 p2 := ⟨Own8.block hS.1 (q1.2.2 gY ne_gYX), hS.2.trans (q1.2.1 _ (by omega))⟩
                  have KCn : Hid (Blk 5 p2 gX (putMany (putMany cur 10 [.int .u8 a10]) 11 [.int .u8 a11])) := Lib.hid q1.1
                  clear KC
                  have KC := KCn
                  clear KCn q1 hS
                  have hS := hSn
                  clear hSn
                  have HP2 := Lib.hid hS.1
                  have HZ2 := Lib.hid hS.2
                  clear hS HZ
                  refine wpAnyH_done (by kernel_rfl) ?_ _
                  have HP1 : Hid (Own8 p2 gX nX cX2 (fun j => if j = 10 then a10 else if j = 11 then a11 else lfZ hX j)) := Lib.hid (HFI.out p2 a10 a11 (by rw [← HA1.out.1]; exact HP2.out.2 10) (by rw [← HA1.out.2]; exact HP2.out.2 11) KC.out)
                  go_wp2_with fail
                  refine (same_yes (some ⟨gX, 0, none⟩) (some ⟨gY, 0, none⟩) nX cX2 cY2 _ (lfZ hY) p2 (Own8.rd HP1.out) (Own8.rd HP2.out) (fun j hj => by have h9 := HFIN.out j hj; rw [HA1.out.1, HA1.out.2] at h9; exact h9) (by omega)).mono ?_
                  rintro e p3 ⟨rfl, m9, hp3⟩
                  have HZ3 : Hid (Below N9 z6 p3) := Lib.hid (by rw [hp3]; exact ⟨HZ2.out.os, HZ2.out.tape, HZ2.out.output, HZ2.out.size, HZ2.out.block⟩)
                  clear hp3
                  go_wp2_with fail
                  go_roundw
                  case rel => exact ⟨i + 1, by omega, by go_num, HZ3⟩
                  case measure => simp only [intOf]; omega
                | true =>
                  go_upto_region 47 with (fail)
                  clear hq0 hq1 cX9 cY9
                  obtain ⟨cur, hcur, hsz, hfin⟩ := own_two HP1m.out (by omega)
                  have KC := Lib.hid hcur
                  have HFI := Lib.hid hfin
                  have HSZC := Lib.hid hsz
                  clear hcur hsz hfin HP1m
                  have h10 : (10 : Int) < (nX : Int) := by omega
                  have h11 : (11 : Int) < (nX : Int) := by omega
                  have HPd : Hid (Own8 y6.drew gY nX cY2 (lfZ hY)) := Lib.hid (Own8.below HP2m.out ((Below.refl _ _).drew) (Own8.lt HP2m.out))
                  clear HP2m
                  obtain ⟨a10, ha10⟩ : ∃ a, lfZ hY 10 = a := ⟨_, rfl⟩
                  obtain ⟨a11, ha11⟩ : ∃ a, lfZ hY 11 = a := ⟨_, rfl⟩
                  have HA1 := Lib.hid (And.intro ha10 ha11)
                  clear ha10 ha11
                  have ne_gYX : gY ≠ gX := by have := HgXY.out; omega
                  refine wp_region_held_drew (S := fun w' => Own8 w' gY nX cY2 (lfZ hY) ∧ Below N9 z6 w') (by kernel_rfl) ⟨HPd.out, HZ.out.drew⟩ (fun hS => ?_)
                  have KCd : Hid (Blk 5 y6.drew gX cur) := Lib.hid KC.out
                  clear KC
                  have KC := KCd
                  clear KCd HPd
                  generalize hY7 : y6.drew = Y7 at hS KC ⊢
                  clear hY7
                  refine takeY (i := 0) (some 209) (v := .slice (some ⟨gX, 0, none⟩) nX cX2) rfl rfl (by kernel_rfl) (by kernel_rfl) (by kernel_rfl) (fun _ _ _ h => h) (by rfl) (fun w' hS => by clear hS; go_simp) hS ?_
                  simp only [Act.put, List.setIfInBounds_toArray, List.set_cons_zero, List.set_cons_succ]
                  refine takeY (i := 1) (some 210) (v := .slice (some ⟨gX, 0, none⟩) nX cX2) rfl rfl (by kernel_rfl) (by kernel_rfl) (by kernel_rfl) (fun _ _ _ h => h) (by rfl) (fun w' hS => by clear hS; go_simp) hS ?_
                  simp only [Act.put, List.setIfInBounds_toArray, List.set_cons_zero, List.set_cons_succ]
                  refine takeY (i := 2) (some 211) (v := .slice (some ⟨gY, 0, none⟩) nX cY2) rfl rfl (by kernel_rfl) (by kernel_rfl) (by kernel_rfl) (fun _ _ _ h => h) (by rfl) (fun w' hS => by clear hS; go_simp) hS ?_
                  simp only [Act.put, List.setIfInBounds_toArray, List.set_cons_zero, List.set_cons_succ]
                  refine takeY (i := 3) (some 212) (v := .pointer (some ⟨gY, 10, none⟩)) rfl rfl (by kernel_rfl) (by kernel_rfl) (by kernel_rfl) (fun _ _ _ h => h) (by rfl) (fun w' hS => by clear hS; go_simp) hS ?_
                  simp only [Act.put, List.setIfInBounds_toArray, List.set_cons_zero, List.set_cons_succ]
                  refine takeY (i := 4) (some 213) (v := .int .u8 a10) rfl rfl (by kernel_rfl) (by kernel_rfl) (by kernel_rfl) (fun _ _ _ h => h) (by rfl) (fun w' hS => by (have c9 : w'.cell? ⟨gY, 10, none⟩ = some (.int .u8 a10) := by rw [← HA1.out.1]; exact own8_cell hS.1 (by omega)); clear hS; go_simp) hS ?_
                  simp only [Act.put, List.setIfInBounds_toArray, List.set_cons_zero, List.set_cons_succ]
                  refine takeY (i := 5) (some 214) (v := .slice (some ⟨gY, 0, none⟩) nX cY2) rfl rfl (by kernel_rfl) (by kernel_rfl) (by kernel_rfl) (fun _ _ _ h => h) (by rfl) (fun w' hS => by clear hS; go_simp) hS ?_
                  simp only [Act.put, List.setIfInBounds_toArray, List.set_cons_zero, List.set_cons_succ]
                  refine takeY (i := 6) (some 215) (v := .pointer (some ⟨gY, 11, none⟩)) rfl rfl (by kernel_rfl) (by kernel_rfl) (by kernel_rfl) (fun _ _ _ h => h) (by rfl) (fun w' hS => by clear hS; go_simp) hS ?_
                  simp only [Act.put, List.setIfInBounds_toArray, List.set_cons_zero, List.set_cons_succ]
                  refine takeY (i := 7) (some 216) (v := .int .u8 a11) rfl rfl (by kernel_rfl) (by kernel_rfl) (by kernel_rfl) (fun _ _ _ h => h) (by rfl) (fun w' hS => by (have c9 : w'.cell? ⟨gY, 11, none⟩ = some (.int .u8 a11) := by rw [← HA1.out.2]; exact own8_cell hS.1 (by omega)); clear hS; go_simp) hS ?_
                  simp only [Act.put, List.setIfInBounds_toArray, List.set_cons_zero, List.set_cons_succ]
                  refine takeY (i := 8) (some 217) (v := .pointer (some ⟨gX, 10, none⟩)) rfl rfl (by kernel_rfl) (by kernel_rfl) (by kernel_rfl) (fun _ _ _ h => h) (by rfl) (fun w' hS => by clear hS; go_simp) hS ?_
                  simp only [Act.put, List.setIfInBounds_toArray, List.set_cons_zero, List.set_cons_succ]
                  have le_N9X : N9 ≤ gX := by have h9 := HgX0.out; omega
                  refine takeSt (i := 9) 5 (.tmp 217) (.tmp 213) gX 10 (.int .u8 (a10)) #[.int .u8 (a10)] (putMany cur 10 [.int .u8 a10]) rfl rfl (by kernel_rfl) (by rfl) rfl rfl rfl rfl info_u8M (one_u8M _) KC.out (by have := HSZC.out; simp; omega) rfl ?_
                  intro p1 q1
                  refine ⟨⟨Own8.block hS.1 (q1.2.2 gY ne_gYX), hS.2.trans (q1.2.1 _ (by omega))⟩, ?_⟩
                  simp only [Act.put, List.setIfInBounds_toArray, List.set_cons_zero, List.set_cons_succ]
                  have hSn : Own8 p1 gY nX cY2 (lfZ hY) ∧ Below N9 z6 p1 := ⟨Own8.block hS.1 (q1.2.2 gY ne_gYX), hS.2.trans (q1.2.1 _ (by omega))⟩
                  have KCn : Hid (Blk 5 p1 gX (putMany cur 10 [.int .u8 a10])) := Lib.hid q1.1
                  clear KC
                  have KC := KCn
                  clear KCn q1 hS
                  have hS := hSn
                  clear hSn
                  refine takeY (i := 10) (some 218) (v := .pointer (some ⟨gX, 11, none⟩)) rfl rfl (by kernel_rfl) (by kernel_rfl) (by kernel_rfl) (fun _ _ _ h => h) (by rfl) (fun w' hS => by clear hS; go_simp) hS ?_
                  simp only [Act.put, List.setIfInBounds_toArray, List.set_cons_zero, List.set_cons_succ]
                  refine takeSt (i := 11) 5 (.tmp 218) (.tmp 216) gX 11 (.int .u8 (a11)) #[.int .u8 (a11)] (putMany (putMany cur 10 [.int .u8 a10]) 11 [.int .u8 a11]) rfl rfl (by kernel_rfl) (by rfl) rfl rfl rfl rfl info_u8M (one_u8M _) KC.out (by have := HSZC.out; simp [putMany]; omega) rfl ?_
                  intro p2 q1
                  refine ⟨⟨Own8.block hS.1 (q1.2.2 gY ne_gYX), hS.2.trans (q1.2.1 _ (by omega))⟩, ?_⟩
                  simp only [Act.put, List.setIfInBounds_toArray, List.set_cons_zero, List.set_cons_succ]
                  have hSn : Own8 p2 gY nX cY2 (lfZ hY) ∧ Below N9 z6 p2 := ⟨Own8.block hS.1 (q1.2.2 gY ne_gYX), hS.2.trans (q1.2.1 _ (by omega))⟩
                  have KCn : Hid (Blk 5 p2 gX (putMany (putMany cur 10 [.int .u8 a10]) 11 [.int .u8 a11])) := Lib.hid q1.1
                  clear KC
                  have KC := KCn
                  clear KCn q1 hS
                  have hS := hSn
                  clear hSn
                  have HP2 := Lib.hid hS.1
                  have HZ2 := Lib.hid hS.2
                  clear hS HZ
                  refine wpAnyH_done (by kernel_rfl) ?_ _
                  have HP1 : Hid (Own8 p2 gX nX cX2 (fun j => if j = 10 then a10 else if j = 11 then a11 else lfZ hX j)) := Lib.hid (HFI.out p2 a10 a11 (by rw [← HA1.out.1]; exact HP2.out.2 10) (by rw [← HA1.out.2]; exact HP2.out.2 11) KC.out)
                  go_wp2_with fail
                  refine (same_yes (some ⟨gX, 0, none⟩) (some ⟨gY, 0, none⟩) nX cX2 cY2 _ (lfZ hY) p2 (Own8.rd HP1.out) (Own8.rd HP2.out) (fun j hj => by have h9 := HFIN.out j hj; rw [HA1.out.1, HA1.out.2] at h9; exact h9) (by omega)).mono ?_
                  rintro e p3 ⟨rfl, m9, hp3⟩
                  have HZ3 : Hid (Below N9 z6 p3) := Lib.hid (by rw [hp3]; exact ⟨HZ2.out.os, HZ2.out.tape, HZ2.out.output, HZ2.out.size, HZ2.out.block⟩)
                  clear hp3
                  go_wp2_with fail
                  go_roundw
                  case rel => exact ⟨i + 1, by omega, by go_num, HZ3⟩
                  case measure => simp only [intOf]; omega
              · obtain rfl : lX = i := by omega
                have HF : Hid (Below w.heap.size w wr) := Lib.hid (HB.out.trans ((HQ.out.trans (HZ.out.mono le_BN9)).mono le_B))
                go_wp2_with fail
                go_ret
                exact ⟨rfl, HF.out⟩
end Go.Proofs.Ytkiaijmhoikdiaa
