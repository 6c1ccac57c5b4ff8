/- Routes as values, and as they lie in memory. Each theorem states its conditions. -/
import Derived.Test.YtjnbemopfhinbaaTrRx
import Derived.Test.YtjnbemopfhinbaaTrAp
namespace Go.Proofs.Ytjnbemopfhinbaa
open Go.RowKit
set_option linter.unusedVariables false
set_option linter.unusedSimpArgs false

/-- a hop -/
structure Hp where
  c : Int
  y : Nat → Int
def hopC (h : Hp) : Array Value := #[.int .i64 h.c, .int .u8 (h.y 0), .int .u8 (h.y 1), .int .u8 (h.y 2), .int .u8 (h.y 3), .int .u8 (h.y 4), .int .u8 (h.y 5)]
def hp0 : Hp := ⟨0, fun _ => 0⟩
/-- a route -/
structure Rt where
  p : Pf
  k : Int
  m : Int
  n : Nat
  h : Nat → Hp
/-- a route in memory: where its hops lie -/
structure Rx where
  r : Rt
  A : Option Addr
  c : Nat
def rt0 : Rt := ⟨⟨0, 0, Z0⟩, 0, 0, 0, fun _ => hp0⟩
def rx0 : Rx := ⟨rt0, none, 0⟩
def rtC (p : Pf) (k m : Int) (v : Value) : Array Value := #[.int .u8 p.fam, .int .i64 p.len, .int .u8 (p.z 0), .int .u8 (p.z 1), .int .u8 (p.z 2), .int .u8 (p.z 3), .int .u8 (p.z 4), .int .u8 (p.z 5), .int .u8 (p.z 6), .int .u8 (p.z 7), .int .u8 (p.z 8), .int .u8 (p.z 9), .int .u8 (p.z 10), .int .u8 (p.z 11), .int .u8 (p.z 12), .int .u8 (p.z 13), .int .u8 (p.z 14), .int .u8 (p.z 15), .int .i64 k, .int .u32 m, v]
def rxC (x : Rx) : Array Value := rtC x.r.p x.r.k x.r.m (.slice x.A x.r.n x.c)
def rxB (S : List Rx) (j : Nat) : Array Value := rxC (S.getD j rx0)
theorem hopC_ones (h : Hp) : ∀ u ∈ (hopC h).toList, u.oneCell' = true := fun u hu => by
  simp only [hopC, List.mem_cons, List.not_mem_nil, or_false] at hu
  rcases hu with rfl | rfl | rfl | rfl | rfl | rfl | rfl <;> rfl
theorem recs_hop (H : Nat → Hp) : Recs 7 (fun j => hopC (H j)) := fun j => ⟨rfl, hopC_ones _⟩
theorem rxC_ones (x : Rx) : ∀ u ∈ (rxC x).toList, u.oneCell' = true := fun u hu => by
  simp only [rxC, rtC, List.mem_cons, List.not_mem_nil, or_false] at hu
  rcases hu with rfl | rfl | rfl | rfl | rfl | rfl | rfl | rfl | rfl | rfl | rfl | rfl | rfl | rfl | rfl | rfl | rfl | rfl | rfl | rfl | rfl <;> rfl
theorem recs_rx (X : Nat → Rx) : Recs 21 (fun j => rxC (X j)) := fun j => ⟨rfl, rxC_ones _⟩
theorem rxB_recs (S : List Rx) : Recs 21 (rxB S) := fun j => ⟨rfl, rxC_ones _⟩
theorem rx_one (x : Rx) : (rxC x).all (·.oneCell') = true := by kernel_rfl
theorem rx_snoc (S : List Rx) (x : Rx) : ∀ j, j < S.length + 1 → catR (rxB S) S.length (fun _ => rxC x) j = rxB (S ++ [x]) j := by
  intro j hj
  unfold catR rxB
  by_cases h : j < S.length
  · rw [if_pos h, List.getD_eq_getElem?_getD, List.getD_eq_getElem?_getD, List.getElem?_append_left h]
  · rw [if_neg h, show j = S.length by omega]
    simp
theorem info_rtE : (Try.prog.info? 70).map (fun i => (i.zero, i.size, i.bytes)) = some (some (.agg (rxC rx0)), 21, 72) := by kernel_rfl
theorem info_rt : (Try.prog.info? 70).map (·.size) = some 21 := by kernel_rfl
theorem zero_rt : (Try.prog.info? 70).map (·.zero) = some (some (.agg (rxC rx0))) := by kernel_rfl
theorem info_hopE : (Try.prog.info? 74).map (fun i => (i.zero, i.size, i.bytes)) = some (some (.agg (hopC hp0)), 7, 16) := by kernel_rfl
theorem info_hop : (Try.prog.info? 74).map (·.size) = some 7 := by kernel_rfl
theorem info_lh : (Try.prog.info? 68).map (·.size) = some 1 := by kernel_rfl
theorem one_lh {A : Option Addr} {n c : Nat} : (#[Value.slice A n c] : Array Value).all (·.oneCell') = true := by kernel_rfl
theorem rx_over (x y : Rx) : putMany (rxC x) 0 (rxC y).toList = rxC y := by kernel_rfl
theorem rx_put (x : Rx) (A : Option Addr) (c : Nat) : putMany (rxC x) 20 [.slice A x.r.n c] = rxC ⟨x.r, A, c⟩ := by kernel_rfl
theorem bs_rt (W : World) (o : Oper) (e : Operand → Value) {x : Operand} (ho : o.op = .buildSlice 60 1 #[(0, x)]) (r : Rx) (h0 : e x = .agg (rxC r)) : (execOp e o).run Try.prog W = .ok (.value (.slice (some ⟨W.heap.size, 0, none⟩) 1 1)) (W.alloc (.cells (rxC r) 70)) := by
  unfold execOp
  simp only [ho]
  simp only [List.map_toArray, List.map_cons, List.map_nil, h0]
  kernel_rfl
theorem rx_pre (x : Rx) (j : Nat) (hj : j < 18) : (rxC x)[j]? = (pfC x.r.p)[j]? := by
  rcases (by omega : j = 0 ∨ j = 1 ∨ j = 2 ∨ j = 3 ∨ j = 4 ∨ j = 5 ∨ j = 6 ∨ j = 7 ∨ j = 8 ∨ j = 9 ∨ j = 10 ∨ j = 11 ∨ j = 12 ∨ j = 13 ∨ j = 14 ∨ j = 15 ∨ j = 16 ∨ j = 17) with rfl | rfl | rfl | rfl | rfl | rfl | rfl | rfl | rfl | rfl | rfl | rfl | rfl | rfl | rfl | rfl | rfl | rfl <;> rfl
theorem rx_pfr {w : World} {b off : Nat} {x : Rx} (h : w.rangeAt b off (rxC x).toList) : w.rangeAt b off (pfC x.r.p).toList := by
  intro j u hu
  have h18 : j < 18 := (List.getElem?_eq_some_iff.1 hu).1
  refine h j u ?_
  have e := rx_pre x j h18
  rw [← Array.getElem?_toList, ← Array.getElem?_toList] at e
  rw [e]; exact hu
theorem Blk.rxpf {w : World} {g : Nat} {x : Rx} (h : Blk 70 w g (rxC x)) : w.rangeAt g 0 (pfC x.r.p).toList := rx_pfr h.all

/-- a route's hops, wherever they lie -/
structure HopAt (w : World) (x : Rx) : Prop where
  rd : RdR w x.A x.r.n 7 (fun j => hopC (x.r.h j))
  le : x.r.n ≤ 8796093021952
  nl : x.A = none → x.r.n = 0 ∧ x.c = 0
theorem HopAt.below {w w' : World} {x : Rx} (h : HopAt w x) (hb : Below w.heap.size w w') : HopAt w' x := ⟨h.rd.below hb rfl, h.le, h.nl⟩
/-- hops of the call's own -/
def HopOwn (w : World) (B : Nat) (x : Rx) : Prop := OwnR w B 74 7 (.slice x.A x.r.n x.c) x.r.n (fun j => hopC (x.r.h j)) ∧ x.r.n ≤ 8796093021952
theorem HopOwn.at {w : World} {B : Nat} {x : Rx} (h : HopOwn w B x) : HopAt w x := by
  obtain ⟨A, c, e, _, _, h3, h4⟩ := h.1.shape (recs_hop _) (by decide)
  cases e
  exact ⟨h4, h.2, h3⟩
theorem HopOwn.below {w w' : World} {B : Nat} {x : Rx} (h : HopOwn w B x) (hb : Below w.heap.size w w') : HopOwn w' B x := ⟨h.1.below hb, h.2⟩
theorem HopOwn.mono {w : World} {B B' : Nat} {x : Rx} (h : HopOwn w B x) (hb : B' ≤ B) : HopOwn w B' x := ⟨h.1.mono hb, h.2⟩
/-- an own row stays where another one of another type grows -/
theorem OwnR.typR {w w' : World} {B B2 s s2 m m2 : Nat} {e e2 : TypeId} {v v2 : Value} {C C2 : Nat → Array Value} (h : OwnR w B e s v m C) (h2 : OwnR w B2 e2 s2 v2 m2 C2) (hne : e ≠ e2) (hg : w.grownBy w' v2.ownBlock) : OwnR w' B e s v m C := by
  rcases h with ⟨o1, o2 | ⟨g, cap, cur, o2, o3, o4, rest⟩⟩
  · exact ⟨o1, .inl o2⟩
  · have hg9 : g < w.heap.size := (Array.getElem?_eq_some_iff.1 o4).1
    refine ⟨o1, .inr ⟨g, cap, cur, o2, o3, (hg.block g hg9 (fun e9 => ?_)).trans o4, rest⟩⟩
    rcases h2 with ⟨_, ⟨p2, _⟩ | ⟨g2, cap2, cur2, p2, p3, p4, _⟩⟩
    · rw [p2] at e9; cases e9
    · rw [p2] at e9
      have e7 : some g = some g2 := e9
      have e8 : g2 = g := (Option.some.inj e7).symm
      subst e8
      rw [o4] at p4
      injection p4 with p4
      injection p4 with _ p4 _
      exact hne p4
/-- an own row stays where a block of another type is written -/
theorem OwnR.stR {w w' : World} {B s m g : Nat} {e t : TypeId} {v : Value} {C : Nat → Array Value} {D E : Array Value} (h : OwnR w B e s v m C) (hb : Blk t w g E) (ht : t ≠ e) (q : Stored w w' g D t) : OwnR w' B e s v m C := by
  rcases h with ⟨o1, o2 | ⟨g9, cap9, cur9, o2, o3, o4, rest⟩⟩
  · exact ⟨o1, .inl o2⟩
  · refine ⟨o1, .inr ⟨g9, cap9, cur9, o2, o3, (q.2.2 g9 (fun e => ?_)).trans o4, rest⟩⟩
    subst e
    have h1 : w.heap[g9]? = _ := hb
    have h2 : w.heap[g9]? = _ := o4
    rw [h1] at h2
    injection h2 with h2
    injection h2 with _ h2 _
    exact ht h2
theorem happ_run {o : Oper} {a : Act} {w : World} (s x : Operand) (ho : o.op = .call { callee := .builtin .append, args := #[s, x], argTypes := #[68, 68] })
    (base : Nat) (v : Value) (m : Nat) (C : Nat → Array Value) (hs : a.eval s = v) (h : OwnR w base 74 7 v m C) (A : Option Addr) (n c : Nat) (D : Nat → Array Value) (hx : a.eval x = .slice A n c) (hA : A = none → n = 0 ∧ c = 0) (hR : RdR w A n 7 D) (hD : Recs 7 D) (hm : m + n ≤ 8796093022208) (hb : base ≤ w.heap.size) :
    ∃ v' w', (execOp a.eval o).run Try.prog w = .ok (.value v') w' ∧ OwnR w' base 74 7 v' (m + n) (catR C m D) ∧ Below base w w' := by
  obtain ⟨i0, hi, hz0, hz1, hz2⟩ := info_parts info_hopE
  rcases A with _ | ad
  · obtain ⟨rfl, rfl⟩ := hA rfl
    have hr := run_append_owned_none (P := Try.prog) (w := w) base 68 o.type 74 i0 7 Try.underlying68 hi v m _ h
    refine ⟨v, w, ?_, h.congr fun j hj => (catR_lo _ _ _ _ hj).symm, Below.refl _ _⟩
    unfold execOp
    simp only [ho, resolve, invoke, builtin, Sem.run_bind, Sem.run_pure, Result.andThen_ok, List.map_toArray, List.map_cons, List.map_nil, hs, hx, hr]
  · obtain ⟨v', w', hr, h2, h3, h4, h5⟩ := run_append_own_at (P := Try.prog) w base 68 o.type 74 i0 _ 7 16 Try.underlying68 hi hz0 hz1 hz2 rfl (by decide) v m _ h ad n c (cellsR D n) (cellsR_len hD n) (recs_news hD (by decide) hR) (cellsR_one hD n) (by unfold maxLen; omega) (by omega) hb
    rw [cellsR_cat] at h2
    refine ⟨v', w', ?_, h2, (Below.refl _ _).grown h3 hb (fun k e => (h.lt k e).1)⟩
    unfold execOp
    simp only [ho, resolve, invoke, builtin, Sem.run_bind, Sem.run_pure, Result.andThen_ok, List.map_toArray, List.map_cons, List.map_nil, hs, hx, hr]
section
variable {ops : Array Oper} {Q : Exit → Act → World → Prop} {rest : List Oper} {o : Oper} {a : Act} {w : World}
/-- hops are appended, in an ordered region -/
theorem wpList_happ (s x : Operand) (hgd : o.guard = none) (ho : o.op = .call { callee := .builtin .append, args := #[s, x], argTypes := #[68, 68] }) (base : Nat) (v : Value) (m : Nat) (C : Nat → Array Value) (hs : a.eval s = v) (h : OwnR w base 74 7 v m C)
    (A : Option Addr) (n c : Nat) (D : Nat → Array Value) (hx : a.eval x = .slice A n c) (hA : A = none → n = 0 ∧ c = 0) (hR : RdR w A n 7 D) (hD : Recs 7 D) (hm : m + n ≤ 8796093022208) (hb : base ≤ w.heap.size)
    (k : ∀ v' w', OwnR w' base 74 7 v' (m + n) (catR C m D) → Below base w w' → wpList Try.prog ops Q rest (a.put o.dst v') w') : wpList Try.prog ops Q (o :: rest) a w := by
  obtain ⟨v', w', h1, h2, h3⟩ := happ_run s x ho base v m C hs h A n c D hx hA hR hD hm hb
  exact wpList_v hgd v' h1 (k v' w' h2 h3)
end
theorem bs_h0 (W : World) (o : Oper) (e : Operand → Value) (ho : o.op = .buildSlice 68 0 #[]) : (execOp e o).run Try.prog W = .ok (.value (.slice (some ⟨W.heap.size, 0, none⟩) 0 0)) (W.alloc (.cells #[] 74)) := by
  unfold execOp
  simp only [ho]
  kernel_rfl
theorem own_h0 {w : World} {N : Nat} (h : Blk 74 w N #[]) (C : Nat → Array Value) : OwnR w N 74 7 (.slice (some ⟨N, 0, none⟩) 0 0) 0 C := ⟨rfl, .inr ⟨N, 0, #[], rfl, Nat.le_refl _, h, Nat.le_refl _, by decide, rfl, rfl⟩⟩
/-- the appended hops are the route's -/
theorem hop_of {w : World} {B : Nat} {v : Value} {C : Nat → Array Value} {x : Rx} (h : OwnR w B 74 7 v (0 + x.r.n) (catR C 0 (fun j => hopC (x.r.h j)))) (hl : x.r.n ≤ 8796093021952) : ∃ A c, v = .slice A x.r.n c ∧ HopOwn w B ⟨x.r, A, c⟩ := by
  have h1 : OwnR w B 74 7 v x.r.n (fun j => hopC (x.r.h j)) := by
    rw [Nat.zero_add] at h
    exact h.congr fun j hj => by unfold catR; rw [if_neg (by omega), Nat.sub_zero]
  obtain ⟨A, c, rfl, _, _, _, _⟩ := h1.shape (recs_hop _) (by decide)
  exact ⟨A, c, rfl, h1, hl⟩
end Go.Proofs.Ytjnbemopfhinbaa
