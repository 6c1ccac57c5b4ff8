/- What RibFinds asks: a table stays while what lies below it is written over; what is found, told as one. Each theorem states its conditions. -/
import Derived.Test.YtjnbemopfhinbaaRbFd
import Derived.Test.YtjnbemopfhinbaaRbMu
import Derived.Test.YtjnbemopfhinbaaRbSw
import Derived.Test.YtjnbemopfhinbaaRbLd
namespace Go.Proofs.Ytjnbemopfhinbaa
open Go.RowKit
set_option linter.unusedVariables false
set_option linter.unusedSimpArgs false

theorem range_no {M b : Nat} (h : M ≤ b) : b ∉ List.range M := fun hm => by have := List.mem_range.1 hm; omega
theorem RdR.kpM {w w' : World} {M n sz : Nat} {A : Option Addr} {C : Nat → Array Value} (h : RdR w A n sz C) (hA : ∀ b o, A = some ⟨b, o, none⟩ → 0 < n → M ≤ b) (k : Kp (List.range M) w w') : RdR w' A n sz C := by
  rcases h with h | ⟨b, off, e, hlt, hr⟩
  · exact .inl h
  · by_cases hn : n = 0
    · exact .inl hn
    · exact .inr ⟨b, off, e, Nat.lt_of_lt_of_le hlt k.size, fun j hj i u hu => (World.cell?_of_block (a := ⟨b, off + j * sz + i, none⟩) (k.block b hlt (range_no (hA b off e (by omega))))).trans (hr j hj i u hu)⟩
theorem HopW.hiA {w : World} {B : Nat} {y : Rx} (h : HopW w B y) : ∀ b o, y.A = some ⟨b, o, none⟩ → 0 < y.r.n → B ≤ b := fun b o e hn => by
  obtain ⟨g, cur, h1, h2, _⟩ := h hn
  rw [h1] at e
  cases e
  exact h2
theorem TabAt.kpM {w w' : World} {M t s n c : Nat} {A : Option Addr} {S : List Rx} {T : Ts} (h : TabAt w t s n A c S T) (hi : HiT w M t s A n S) (k : Kp (List.range M) w w') : TabAt w' t s n A c S T :=
  ⟨h.blk.kp k (range_no hi.t), h.len, h.le, h.row.kpM hi.row k, fun y hy => ⟨(h.hop y hy).rd.kpM (hi.hop y hy).hiA k, (h.hop y hy).le, (h.hop y hy).nl⟩, h.tr.kp k (range_no hi.s) (fun x hx => range_no (Nat.le_trans hi.s (h.tr.lo x hx))), h.ix, h.all⟩
/-- a row of routes that is the caller's own, whatever its metrics are -/
def RowW (w : World) (B : Nat) (A : Option Addr) (n : Nat) (S : List Rx) : Prop := 0 < n → ∃ g cur, A = some ⟨g, 0, none⟩ ∧ B ≤ g ∧ Blk 70 w g cur ∧ n * 21 ≤ cur.size ∧ ∀ j, j < n → (∃ u : Int, cur[j * 21 + 19]? = some (.int .u32 u)) ∧ cur[j * 21 + 20]? = some (.slice (S.getD j rx0).A (S.getD j rx0).r.n (S.getD j rx0).c)
theorem own_rw {w : World} {B n c : Nat} {A : Option Addr} {S : List Rx} (h : OwnR w B 70 21 (.slice A n c) n (rxB S)) : RowW w B A n S := fun hn => by
  obtain ⟨A', c', e9, _, _, _, hr⟩ := h.shape (rxB_recs _) (by decide)
  cases e9
  rcases h.2 with ⟨o1, o2⟩ | ⟨g, cap, cur, o2, o3, o4, o5, o6, o7, o8⟩
  · omega
  · have e1 : A = some ⟨g, 0, none⟩ := by injection o2
    refine ⟨g, cur, e1, o3, o4, ?_, fun j hj => ?_⟩
    · rw [o7]; exact Nat.mul_le_mul_right 21 o5
    · rcases hr with h9 | ⟨b, off, e, hr⟩
      · omega
      · rw [e1] at e
        cases e
        have hc : ∀ i v, (rxC (S.getD j rx0)).toList[i]? = some v → cur[j * 21 + i]? = some v := fun i v hv => by
          have h9 := hr.2 j hj i v hv
          have h8 : w.cell? ⟨g, 0 + j * 21 + i, none⟩ = cur[j * 21 + i]? := by
            rw [Nat.zero_add]
            simp [World.cell?, o4]
          rw [← h8]; exact h9
        exact ⟨⟨_, hc 19 _ rfl⟩, hc 20 _ rfl⟩
theorem blk_ne {t u : TypeId} {w : World} {g g2 : Nat} {C D : Array Value} (h : Blk t w g C) (k : Blk u w g2 D) (hne : t ≠ u) : g ≠ g2 := fun e => by
  subst e
  have h1 : w.heap[g]? = _ := h
  have h2 : w.heap[g]? = _ := k
  rw [h1] at h2
  injection h2 with h2
  injection h2 with _ h2 _
  exact hne h2
theorem Blk.farN {t u : TypeId} {w w' : World} {g g2 : Nat} {C D E : Array Value} (h : Blk t w g C) (k : Blk u w g2 D) (hne : t ≠ u) (q : Stored w w' g2 E u) : Blk t w' g C := (q.2.2 g (blk_ne h k hne)).trans h
theorem RowW.hop {w w' : World} {B n g : Nat} {A : Option Addr} {S : List Rx} {cur E : Array Value} (h : RowW w B A n S) (hb : Blk 74 w g cur) (q : Stored w w' g E 74) : RowW w' B A n S := fun hn => by
  obtain ⟨g2, cur2, h1, h2, h3, h4⟩ := h hn
  exact ⟨g2, cur2, h1, h2, h3.farN hb (by decide) q, h4⟩
theorem RowW.below {w w' : World} {B n : Nat} {A : Option Addr} {S : List Rx} (h : RowW w B A n S) (hb : Below w.heap.size w w') : RowW w' B A n S := fun hn => by
  obtain ⟨g, cur, h1, h2, h3, h4⟩ := h hn
  exact ⟨g, cur, h1, h2, h3.below hb h3.lt, h4⟩
theorem HopW.row {w w' : World} {B g : Nat} {y : Rx} {cur E : Array Value} (h : HopW w B y) (hb : Blk 70 w g cur) (q : Stored w w' g E 70) : HopW w' B y := fun hn => by
  obtain ⟨g2, cur2, h1, h2, h3, h4⟩ := h hn
  exact ⟨g2, cur2, h1, h2, h3.farN hb (by decide) q, h4⟩
/-- another metric -/
theorem RowW.put {w w' : World} {B n g j : Nat} {A : Option Addr} {S : List Rx} {cur : Array Value} {u : Int} (h : RowW w B A n S) (hA : A = some ⟨g, 0, none⟩) (hb : Blk 70 w g cur) (q : Stored w w' g (putMany cur (j * 21 + 19) [.int .u32 u]) 70) : RowW w' B A n S := fun hn => by
  obtain ⟨g2, cur2, h1, h2, h3, h4, h5⟩ := h hn
  rw [hA] at h1
  cases h1
  have e : cur2 = cur := by
    have a1 : w.heap[g]? = some (.cells cur2 70 (0, 0)) := h3
    have a2 : w.heap[g]? = some (.cells cur 70 (0, 0)) := hb
    rw [a1] at a2
    injection a2 with a2
    injection a2
  subst e
  refine ⟨g, _, hA, h2, q.1, by rw [put1_size]; exact h4, fun k hk => ⟨?_, ?_⟩⟩
  · rw [put1_get _ _ _ _ (by omega)]
    split
    · exact ⟨u, rfl⟩
    · exact (h5 k hk).1
  · rw [put1_get _ _ _ _ (by omega), if_neg (by omega)]
    exact (h5 k hk).2
theorem xoru_run (o : Oper) (e : Operand → Value) {x : Operand} {k : Int} (ho : o.op = .binOp .xor 67 x (.const (.int .u32 k)) 67) (z : Int) (hx : e x = .int .u32 z) (hc : e (.const (.int .u32 k)) = .int .u32 k) (W : World) : (execOp e o).run Try.prog W = .ok (.value (.int .u32 (bits .xor .u32 z k))) W := by
  unfold execOp
  simp only [ho, hx, hc]
  simp [go_sem]
theorem u32_one (z : Int) : (#[Value.int .u32 z] : Array Value).all (·.oneCell') = true := by kernel_rfl
theorem info_u4 : (Try.prog.info? 67).map (·.size) = some 1 := by kernel_rfl
theorem rx0_at (w : World) : HopAt w rx0 := ⟨.inl rfl, by decide, fun _ => ⟨rfl, rfl⟩⟩
theorem rx0_b : RtB rx0.r := ⟨fun j => show (0 : Int) ≤ 0 ∧ (0 : Int) ≤ 255 from by omega, fun j i => show (0 : Int) ≤ 0 ∧ (0 : Int) ≤ 255 from by omega⟩
theorem rx0_w (w : World) (B : Nat) : HopW w B rx0 := fun h => absurd h (by decide)
/-- what Find answers: a route, whether there is one, and an error -/
def Found (S : List Rx) (Q : Pf × Int × Bool × Int) (bq : Bool) (y : Rx) (er : Int) : Prop := (bq = false ∧ Q = (pf0, 0, false, er) ∧ y = rx0) ∨ ∃ (P : Pf) (i : Nat), bq = true ∧ er = 0 ∧ Q = (P, (i : Int), true, 0) ∧ y.r = (S.getD i rx0).r
theorem tfind_e {w w' : World} {S : List Rx} {Q : Pf × Int × Bool × Int} {e : Ending} (h : TFind w S Q e w') : ∃ (bq : Bool) (y : Rx) (er : Int), e = .returned (.tuple #[.agg (rxC y), .bool bq, .int .i64 er]) ∧ HopAt w' y ∧ HopW w' w.heap.size y ∧ Found S Q bq y er := by
  rcases h.2 with ⟨er, h1, h2⟩ | ⟨P, i, y, h1, h2, h3, h4⟩
  · exact ⟨false, rx0, er, h2, rx0_at _, rx0_w _ _, .inl ⟨rfl, h1, rfl⟩⟩
  · exact ⟨true, y, 0, h4, h3.at, h3.w, .inr ⟨P, i, rfl, rfl, h1, h2⟩⟩
theorem found_bad {S : List Rx} {T : Ts} {fam : Int} {z : Nat → Int} {bq : Bool} {y : Rx} {er : Int} (h : Found S (T.FA fam z) bq y er) (hf : fam ≠ 4 ∧ fam ≠ 6) : bq = false ∧ y = rx0 ∧ er = 1 := by
  have hQ : T.FA fam z = (pf0, 0, false, 1) := by unfold Ts.FA; rw [if_neg hf.1, if_neg hf.2]
  rw [hQ] at h
  rcases h with ⟨h1, h2, h3⟩ | ⟨P, i, _, _, h2, _⟩
  · have := congrArg (fun q : Pf × Int × Bool × Int => q.2.2.2) h2
    exact ⟨h1, h3, this.symm⟩
  · have : false = true := congrArg (fun q : Pf × Int × Bool × Int => q.2.2.1) h2
    cases this
theorem found_best {w : World} {t s n c : Nat} {A : Option Addr} {S : List Rx} {T : Ts} {X : Nat → Rx} {pl : Bool} {z : Nat → Int} (h : TabAt w t s n A c S T) (p : PermX n X S) (hx : ErrX n X 0) (hb : ∀ i, RtB (X i).r) {b : Option Nat} (hB : BestX pl z X n b) {bq : Bool} {y : Rx} {er : Int} (hf : Found S (T.FA (famB pl) z) bq y er) :
    er = 0 ∧ bq = b.isSome ∧ y.r = (bestR X b).r := by
  rcases find_same h p hx hb hB with ⟨rfl, hQ⟩ | ⟨q, i, P, rfl, hq, hQ, hi, he⟩
  · rw [hQ] at hf
    rcases hf with ⟨h1, h2, rfl⟩ | ⟨P, i, _, _, h2, _⟩
    · have := congrArg (fun q : Pf × Int × Bool × Int => q.2.2.2) h2
      exact ⟨this.symm, h1, rfl⟩
    · have : false = true := congrArg (fun q : Pf × Int × Bool × Int => q.2.2.1) h2
      cases this
  · rw [hQ] at hf
    rcases hf with ⟨_, h2, _⟩ | ⟨P2, i2, h1, h3, h2, h4⟩
    · have : true = false := congrArg (fun q : Pf × Int × Bool × Int => q.2.2.1) h2
      cases this
    · have hii : i = i2 := Int.ofNat.inj (congrArg (fun q : Pf × Int × Bool × Int => q.2.1) h2)
      subst hii
      exact ⟨h3, h1, by rw [h4, he]; rfl⟩
theorem bestR_b {n : Nat} {X : Nat → Rx} (hb : ∀ i, RtB (X i).r) (b : Option Nat) : RtB (bestR X b).r := by
  cases b with
  | none => exact rx0_b
  | some q => exact hb q
theorem bestR_at {w : World} {n : Nat} {X : Nat → Rx} {pl : Bool} {z : Nat → Int} (hh : ∀ j, j < n → HopAt w (X j)) {b : Option Nat} (h : BestX pl z X n b) : HopAt w (bestR X b) := by
  cases b with
  | none => exact rx0_at w
  | some q => exact hh q h.1
/-- SameRoute of two that are alike -/
theorem sameRoute_r {x y : Rx} {w : World} (e : x.r = y.r) (hb : RtB y.r) (h1 : HopAt w x) (h2 : HopAt w y) : Calls Try.prog 35 #[.agg (rxC x), .agg (rxC y)] w fun e w' => e = .returned (.bool true) ∧ Below w.heap.size w w' := by
  obtain ⟨r, A1, c1⟩ := x
  obtain ⟨r2, A2, c2⟩ := y
  simp only at e
  subst e
  exact sameRoute_any r A1 A2 c1 c2 hb w h1 h2
theorem ErrX.congr {n : Nat} {X Y : Nat → Rx} {e : Int} (hs : ∀ j, j < n → (X j).r = (Y j).r) (h : ErrX n X e) : ErrX n Y e := by
  rcases h with ⟨a, i, hi, b⟩ | ⟨a, b, i, j, hij, hj, d⟩ | ⟨a, b, d⟩
  · exact .inl ⟨a, i, hi, by rw [← hs i hi]; exact b⟩
  · exact .inr (.inl ⟨a, fun i hi => by rw [← hs i hi]; exact b i hi, i, j, hij, hj, by rw [← hs i (by omega), ← hs j hj]; exact d⟩)
  · exact .inr (.inr ⟨a, fun i hi => by rw [← hs i hi]; exact b i hi, fun i j hij hj => by rw [← hs i (by omega), ← hs j hj]; exact d i j hij hj⟩)
/-- the table's list and the document's order, place by place -/
theorem ord_at {w : World} {n t s c : Nat} {A : Option Addr} {S : List Rx} {T : Ts} {X : Nat → Rx} (h : TabAt w t s n A c S T) (p : PermX n X S) (a : AscX S) (hx : ErrX n X 0) (hc : ∀ i, Can (X i).r) (hb : ∀ i, RtB (X i).r) : ∀ j, j < n → (S.getD j rx0).r = ((ordL X n).getD j rx0).r := fun j hj => (map_at (ord_same h p a hx hc hb)).2 j (by rw [h.len]; exact hj)
theorem ord_x {n : Nat} {X : Nat → Rx} {j : Nat} (hj : j < n) : ∃ q, q < n ∧ (ordL X n).getD j rx0 = X q := by
  obtain ⟨q, hq, e⟩ := ordL_mem.1 (S_mem (S := ordL X n) (ordL_len X n) hj)
  exact ⟨q, hq, e.symm⟩
end Go.Proofs.Ytjnbemopfhinbaa
