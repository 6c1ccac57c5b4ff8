/- What RibCatches asks for: Build of a copy, Find told shortly, a route appended. Each theorem states its conditions. -/
import Derived.Test.YtjnbemopfhinbaaRbCt
import Derived.Test.YtjnbemopfhinbaaRbO
import Derived.Test.YtjnbemopfhinbaaRbAw
import Derived.Test.YtjnbemopfhinbaaPKey
namespace Go.Proofs.Ytjnbemopfhinbaa
open Go.RowKit
set_option linter.unusedVariables false
set_option linter.unusedSimpArgs false

theorem bld_pv1 (o : Oper) (e : Operand → Value) (x : Operand) (ho : o.op = .build 32 #[(0, x)]) (f : Int) (h0 : e x = .int .u8 f) (W : World) : (execOp e o).run Try.prog W = .ok (.value (.agg (pvC f 0 Z0))) W := by
  unfold execOp
  simp only [ho]
  simp only [List.map_toArray, List.map_cons, List.map_nil, h0]
  kernel_rfl
theorem bld_all (o : Oper) (e : Operand → Value) (x : Operand) (ho : o.op = .build 70 #[(0, x), (1, .const (.int .i64 4)), (2, .const (.int .u32 7))]) (f : Int) (h0 : e x = .agg (pvC f 0 Z0)) (h1 : e (.const (.int .i64 4)) = .int .i64 4) (h2 : e (.const (.int .u32 7)) = .int .u32 7) (W : World) : (execOp e o).run Try.prog W = .ok (.value (.agg (rxC (xall f)))) W := by
  unfold execOp
  simp only [ho]
  simp only [List.map_toArray, List.map_cons, List.map_nil, h0, h1, h2]
  kernel_rfl
theorem min40 (o : Oper) (e : Operand → Value) (x : Operand) (ho : o.op = .call { callee := .builtin .min, args := #[x, .const (.int .i64 40)], argTypes := #[3, 3] }) (m : Nat) (h0 : e x = .int .i64 (m : Int)) (hc : e (.const (.int .i64 40)) = .int .i64 40) (W : World) : (execOp e o).run Try.prog W = .ok (.value (.int .i64 ((min m 40 : Nat) : Int))) W :=
  min_runN o e x _ ho m 40 h0 hc W
theorem slice_rt (o : Oper) (e : Operand → Value) (x y : Operand) (ho : o.op = .slice 60 x none (some y) none) (A : Option Addr) (m c k : Nat) (hA : m = 0 ∨ ∃ b off, A = some ⟨b, off, none⟩) (h0 : e x = .slice A m c) (h1 : e y = .int .i64 (k : Int)) (hk : k ≤ m) (hm : m ≤ c) (W : World) :
    (execOp e o).run Try.prog W = .ok (.value (.slice A k c)) W := by
  unfold execOp
  simp only [ho, h0, h1, Option.map_none, Option.map_some]
  have e3 : ¬ ((c : Int) < (k : Int)) := by omega
  have e4 : ¬ (c < k) := by omega
  rcases A with _ | A
  · have hk0 : k = 0 := by
      rcases hA with h | ⟨b, off, h⟩
      · omega
      · cases h
    subst hk0
    simp [go_sem]
  · simp [go_sem, e3, e4]
theorem PermX.congr {n : Nat} {X X' : Nat → Rx} {S : List Rx} (h : PermX n X S) (he : ∀ j, j < n → (X j).r = (X' j).r) : PermX n X' S := by
  obtain ⟨R, h1, h2, h3⟩ := h
  exact ⟨R, h1, h2, fun j hj => (h3 j hj).trans (he j hj)⟩
theorem PermX.back {n : Nat} {X : Nat → Rx} {S : List Rx} (h : PermX n X S) (hx : ∀ i j, i < j → j < n → kyF (S.getD i rx0).r.p ≠ kyF (S.getD j rx0).r.p) : ∀ i j, i < j → j < n → kyF (X i).r.p ≠ kyF (X j).r.p := by
  have hl := h.len
  obtain ⟨R, h1, h2, h3⟩ := h
  have h4 : PermX n (fun j => S.getD j rx0) R := ⟨S, h1.symm, hl, fun j _ => rfl⟩
  intro i j hij hj
  have h5 := h4.nodup hx i j hij hj
  rw [h3 i (by omega), h3 j hj] at h5
  exact h5
theorem TabAt.nodup {w : World} {t s n c : Nat} {A : Option Addr} {S : List Rx} {T : Ts} (h : TabAt w t s n A c S T) : ∀ i j, i < j → j < n → kyF (S.getD i rx0).r.p ≠ kyF (S.getD j rx0).r.p := fun i j hij hj e => by
  obtain ⟨k, h1, h2⟩ := h.all i (by omega)
  obtain ⟨k', h3, h4⟩ := h.all j hj
  rw [h1, h3] at e
  cases e
  rw [h2] at h4
  have := Int.ofNat.inj (Option.some.inj h4)
  omega
/-- what Build answers to a copy -/
def BuildQ (w : World) (n : Nat) (X : Nat → Rx) (e : Ending) (w' : World) : Prop := Below w.heap.size w w' ∧
  ((∃ er : Int, (er = 3 ∨ er = 7) ∧ e = .returned (.tuple #[.pointer none, .int .i64 er])) ∨
    ∃ (t s : Nat) (A : Option Addr) (c : Nat) (S : List Rx) (T : Ts), e = .returned (.tuple #[.pointer (some ⟨t, 0, none⟩), .int .i64 0]) ∧ TabAt w' t s n A c S T ∧ PermX n X S ∧ (∀ i, i < n → Form (X i).r.p.fam (X i).r.p.len (X i).r.p.z) ∧ ∀ i j, i < j → j < n → kyF (X i).r.p ≠ kyF (X j).r.p)
theorem build_cpy {w : World} {B n : Nat} {X : Nat → Rx} {v : Value} {S : List Rx} (h : Cpy w B n X v S) (hz : ∀ j, j < n → Bytes (X j).r.p.z) (hn : n ≤ 1000) : Calls Try.prog 31 #[v] w (BuildQ w n X) := by
  obtain ⟨A, c, rfl, _, _, _, hr⟩ := h.own.shape (rxB_recs _) (by decide)
  refine (build_any (fun j => S.getD j rx0) A n c w hr (fun j hj => (h.hop _ (S_mem h.len hj)).at) (fun j hj => by rw [h.same j hj]; exact hz j hj) hn).mono ?_
  rintro e w' ⟨b, h9⟩
  refine ⟨b, ?_⟩
  rcases h9 with ⟨_, e1⟩ | ⟨hf, S2, hp, _, ⟨_, e1⟩ | ⟨t, s, A2, c2, T, _, e1, ht⟩⟩
  · exact .inl ⟨3, .inl rfl, e1⟩
  · exact .inl ⟨7, .inr rfl, e1⟩
  · have hp2 := hp.congr (X' := X) (fun j hj => h.same j hj)
    exact .inr ⟨t, s, A2, c2, S2, T, e1, ht, hp2, fun i hi => by have := hf i hi; rw [h.same i hi] at this; exact this, hp2.back ht.nodup⟩
theorem build_sure {w : World} {B n : Nat} {X : Nat → Rx} {v : Value} {S : List Rx} (h : Cpy w B n X v S) (hz : ∀ j, j < n → Bytes (X j).r.p.z) (hn : n ≤ 1000) (hf : ∀ i, i < n → Form (X i).r.p.fam (X i).r.p.len (X i).r.p.z) (hx : ∀ i j, i < j → j < n → kyF (X i).r.p ≠ kyF (X j).r.p) : Calls Try.prog 31 #[v] w fun e w' => ∃ v', e = .returned v' ∧ Below w.heap.size w w' ∧ ∃ (t s : Nat) (A : Option Addr) (c : Nat) (S : List Rx) (T : Ts), v' = .tuple #[.pointer (some ⟨t, 0, none⟩), .int .i64 0] ∧ TabAt w' t s n A c S T ∧ PermX n X S := by
  obtain ⟨A, c, rfl, _, _, _, hr⟩ := h.own.shape (rxB_recs _) (by decide)
  refine (build_any (fun j => S.getD j rx0) A n c w hr (fun j hj => (h.hop _ (S_mem h.len hj)).at) (fun j hj => by rw [h.same j hj]; exact hz j hj) hn).mono ?_
  rintro e w' ⟨b, h9⟩
  rcases h9 with ⟨⟨i, hi, hb⟩, _⟩ | ⟨_, S2, hp, _, ⟨⟨i, j, hij, hj, he⟩, _⟩ | ⟨t, s, A2, c2, T, _, e1, ht⟩⟩
  · rw [h.same i hi] at hb; exact absurd (hf i hi) hb
  · exact absurd he ((hp.congr (X' := X) (fun j hj => h.same j hj)).nodup hx i j hij hj)
  · exact ⟨_, e1, b, t, s, A2, c2, S2, T, rfl, ht, hp.congr (X' := X) (fun j hj => h.same j hj)⟩
/-- what Find answers, told shortly -/
def FindQ (w' : World) (S : List Rx) (T : Ts) (pl : Bool) (z : Nat → Int) (bq : Bool) (y : Rx) : Prop := HopAt w' y ∧ (bq = true → ∃ (P : Pf) (i : Nat), T.FA (famB pl) z = (P, (i : Int), true, 0) ∧ i < S.length ∧ y.r = (S.getD i rx0).r) ∧ (bq = false → T.FA (famB pl) z = (pf0, 0, false, 0))
theorem tfind_P (t s n : Nat) (A : Option Addr) (c : Nat) (S : List Rx) (T : Ts) (pl : Bool) (z : Nat → Int) (hz : Bytes z) (w : World) (h : TabAt w t s n A c S T) : Calls Try.prog 34 #[.pointer (some ⟨t, 0, none⟩), .int .u8 (famB pl), .agg (agC z)] w fun e w' => ∃ (bq : Bool) (y : Rx), e = .returned (.tuple #[.agg (rxC y), .bool bq, .int .i64 0]) ∧ FindQ w' S T pl z bq y ∧ Below w.heap.size w w' := by
  refine (tfind_any t s n A c S T (famB pl) z hz w h).mono ?_
  rintro e w' ⟨b, ⟨er, h1, h2⟩ | ⟨P, i, y, h1, hy, ho, h2⟩⟩
  · have he := FA_er h1
    subst he
    exact ⟨false, rx0, h2, ⟨⟨.inl rfl, by decide, fun _ => ⟨rfl, rfl⟩⟩, (fun h => by cases h), fun _ => h1⟩, b⟩
  · refine ⟨true, y, h2, ⟨ho.at, fun _ => ⟨P, i, h1, ?_, hy⟩, (fun h => by cases h)⟩, b⟩
    rcases FA_cases h.tr (fun k v hv => by obtain ⟨i, a, b, _⟩ := h.ix k v hv; exact ⟨i, a, b⟩) (famB pl) z with ⟨er, h3⟩ | ⟨P2, i2, h3, h4⟩
    · rw [h1] at h3
      have : true = false := congrArg (fun q : Pf × Int × Bool × Int => q.2.2.1) h3
      cases this
    · rw [h1] at h3
      have h5 := congrArg (fun q : Pf × Int × Bool × Int => q.2.1) h3
      have : i = i2 := Int.ofNat.inj h5
      rw [h.len]; omega
/-- a list with the root's route behind it -/
def addX (X : Nat → Rx) (m : Nat) (f : Int) (j : Nat) : Rx := if j < m then X j else xall f
theorem addX_lo (X : Nat → Rx) (f : Int) {m j : Nat} (h : j < m) : addX X m f j = X j := if_pos h
theorem addX_at (X : Nat → Rx) (m : Nat) (f : Int) : addX X m f m = xall f := if_neg (by omega)
theorem xall_own (w : World) (B : Nat) (f : Int) : HopOwn w B (xall f) := ⟨OwnR.nil _ _ _ _ _, show (0 : Nat) ≤ 8796093021952 from by omega⟩
theorem Cpy.all {w w' : World} {B m : Nat} {X : Nat → Rx} {v v' : Value} {S : List Rx} {f : Int} (h : Cpy w B m X v S) (ho : OwnR w' B 70 21 v' (m + 1) (catR (rxB S) m (fun _ => rxC (xall f)))) (hg : w.grownBy w' v.ownBlock) : Cpy w' B (m + 1) (addX X m f) v' (S ++ [xall f]) := by
  have h1 : Cpy w B m (addX X m f) v S := ⟨h.len, fun j hj => by rw [addX_lo X f hj]; exact h.same j hj, h.own, h.hop⟩
  exact h1.snoc (xall_own w B f) (by rw [addX_at]) ho hg
theorem addX_form {X : Nat → Rx} {m : Nat} {pl : Bool} (h : ∀ i, i < m → Form (X i).r.p.fam (X i).r.p.len (X i).r.p.z) : ∀ i, i < m + 1 → Form (addX X m (famB pl) i).r.p.fam (addX X m (famB pl) i).r.p.len (addX X m (famB pl) i).r.p.z := fun i hi => by
  by_cases h9 : i < m
  · rw [addX_lo X _ h9]; exact h i h9
  · have : i = m := by omega
    subst this
    rw [addX_at]; exact root_form pl
theorem addX_b {X : Nat → Rx} {m : Nat} {f : Int} (h : ∀ i, i < m → RtB (X i).r) : ∀ i, i < m + 1 → RtB (addX X m f i).r := fun i hi => by
  by_cases h9 : i < m
  · rw [addX_lo X _ h9]; exact h i h9
  · have : i = m := by omega
    subst this
    rw [addX_at]
    exact ⟨fun j => show (0 : Int) ≤ 0 ∧ (0 : Int) ≤ 255 from by omega, fun j i => show (0 : Int) ≤ 0 ∧ (0 : Int) ≤ 255 from by omega⟩
theorem addX_nd {X : Nat → Rx} {m : Nat} {pl : Bool} (h : ∀ i j, i < j → j < m → kyF (X i).r.p ≠ kyF (X j).r.p) (hb : ∀ i, i < m → Bytes (X i).r.p.z) (hr : ∀ j, j < m → ¬ ((X j).r.p.fam = famB pl ∧ (X j).r.p.len = 0 ∧ Same16 (X j).r.p.z Z0)) : ∀ i j, i < j → j < m + 1 → kyF (addX X m (famB pl) i).r.p ≠ kyF (addX X m (famB pl) j).r.p := fun i j hij hj => by
  rw [addX_lo X _ (by omega : i < m)]
  by_cases h9 : j < m
  · rw [addX_lo X _ h9]; exact h i j hij h9
  · have : j = m := by omega
    subst this
    rw [addX_at]
    intro e
    exact root_not (hb i hij) (hr i hij) (e.trans (root_key pl))
theorem rapp_run {o : Oper} {a : Act} {w : World} (s x : Operand) (ho : o.op = .call { callee := .builtin .append, args := #[s, x], argTypes := #[60, 60] })
    (base : Nat) (v : Value) (m : Nat) (C : Nat → Array Value) (hs : a.eval s = v) (h : OwnR w base 70 21 v m C) (N : Nat) (y : Rx) (hx : a.eval x = .slice (some ⟨N, 0, none⟩) 1 1) (hR : Blk 70 w N (rxC y)) (hm : m ≤ 1000) (hb : base ≤ w.heap.size) :
    ∃ v' w', (execOp a.eval o).run Try.prog w = .ok (.value v') w' ∧ OwnR w' base 70 21 v' (m + 1) (catR C m (fun _ => rxC y)) ∧ w.grownBy w' v.ownBlock ∧ ∀ k, v.ownBlock = some k → base ≤ k := by
  obtain ⟨i0, hi, hz0, hz1, hz2⟩ := info_parts info_rtE
  have hD := recs_rx (fun _ => y)
  obtain ⟨v', w', hr, h2, h3, h4, h5⟩ := run_append_own_at (P := Try.prog) w base 60 o.type 70 i0 _ 21 72 Try.underlying60 hi hz0 hz1 hz2 rfl (by decide) v m _ h ⟨N, 0, none⟩ 1 1 (cellsR (fun _ => rxC y) 1) (cellsR_len hD 1) (recs_news hD (by decide) (rdR_blk hR)) (cellsR_one hD 1) (by unfold maxLen; omega) (by omega) hb
  rw [cellsR_cat] at h2
  refine ⟨v', w', ?_, h2, h3, fun k e => (h.lt k e).1⟩
  unfold execOp
  simp only [ho, resolve, invoke, builtin, Sem.run_bind, Sem.run_pure, Result.andThen_ok, List.map_toArray, List.map_cons, List.map_nil, hs, hx, hr]
section
variable {ops : Array Oper} {Q : Exit → Act → World → Prop} {md : Region.Mode} {S : World → Prop}
theorem takeRa {i : Nat} {oi : Oper} (d : Option Tmp) {fuel : Nat} {listed : Array Bool} {a : Act} {w : World} (s x : Operand) (hi : ops[i]? = some oi) (hd : oi.dst = d)
    (hr : Region.ready md ops listed = [i]) (hw : Region.wanted oi (yielded ops a.tmps) = true)
    (ho : oi.op = .call { callee := .builtin .append, args := #[s, x], argTypes := #[60, 60] })
    {base : Nat} {v : Value} {m : Nat} {C : Nat → Array Value} (hs : a.eval s = v) (h : OwnR w base 70 21 v m C) {N : Nat} {y : Rx} (hx : a.eval x = .slice (some ⟨N, 0, none⟩) 1 1) (hR : Blk 70 w N (rxC y)) (hm : m ≤ 1000) (hb : base ≤ w.heap.size)
    (k : ∀ v' w', OwnR w' base 70 21 v' (m + 1) (catR C m (fun _ => rxC y)) → w.grownBy w' v.ownBlock → (∀ k, v.ownBlock = some k → base ≤ k) → S w' ∧ wpAnyH Try.prog md ops Q S fuel (listed.setIfInBounds i true) (a.put d v') w') :
    wpAnyH Try.prog md ops Q S (fuel + 1) listed a w := by
  obtain ⟨v', w', h1, h2, h3, h4⟩ := rapp_run s x ho base v m C hs h N y hx hR hm hb
  obtain ⟨h7, h8⟩ := k v' w' h2 h3 h4
  exact takeV d hi hd hr hw h1 h7 h8
end
end Go.Proofs.Ytjnbemopfhinbaa
