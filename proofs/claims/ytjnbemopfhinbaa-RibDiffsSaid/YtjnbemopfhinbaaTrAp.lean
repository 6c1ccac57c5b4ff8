/- Rows of prefixes, cut and put together. Each theorem states its conditions. -/
import Derived.Test.YtjnbemopfhinbaaTrOd
import Derived.Test.YtjnbemopfhinbaaTrO
namespace Go.Proofs.Ytjnbemopfhinbaa
open Go.RowKit
set_option linter.unusedVariables false
set_option linter.unusedSimpArgs false

theorem bs_p0 (W : World) (o : Oper) (e : Operand → Value) (ho : o.op = .buildSlice 42 0 #[]) : (execOp e o).run Try.prog W = .ok (.value (.slice (some ⟨W.heap.size, 0, none⟩) 0 0)) (W.alloc (.cells #[] 32)) := by
  unfold execOp
  simp only [ho]
  kernel_rfl
/-- a slice of nothing is a row of the call's own -/
theorem own_p0 {w : World} {N : Nat} (h : Blk 32 w N #[]) (C : Nat → Array Value) : OwnR w N 32 18 (.slice (some ⟨N, 0, none⟩) 0 0) 0 C := ⟨rfl, .inr ⟨N, 0, #[], rfl, Nat.le_refl _, h, Nat.le_refl _, by decide, rfl, rfl⟩⟩
theorem rdR_tail {w : World} {b off m k c s : Nat} {C : Nat → Array Value} (h : RdR w (some ⟨b, off, none⟩) m s C) (hk : k ≤ m) (hm : m ≤ c) : RdR w (some ⟨b, if c = k then off else off + k * s, none⟩) (m - k) s (fun j => C (k + j)) := by
  by_cases h9 : m = k
  · exact .inl (by omega)
  · rw [if_neg (by omega)]
    rcases h with h | ⟨b', o', e, h1, h2⟩
    · omega
    · injection e with e
      injection e with e1 e2
      subst e1 e2
      refine .inr ⟨b, off + k * s, rfl, h1, fun j hj => ?_⟩
      have h3 := h2 (k + j) (by omega)
      rw [Nat.add_mul, ← Nat.add_assoc] at h3
      exact h3
/-- list[k:] -/
def tlA (A : Option Addr) (k c : Nat) : Option Addr := A.map fun ad => if c = k then ad else ad.add (k * 18)
/-- where the list lies -/
def Lies (A : Option Addr) (m c : Nat) : Prop := (A = none → m = 0 ∧ c = 0) ∧ (m = 0 ∨ ∃ b off, A = some ⟨b, off, none⟩)
theorem slice_pfl (o : Oper) (e : Operand → Value) (x y : Operand) (ho : o.op = .slice 42 x (some y) none none) (A : Option Addr) (m c k : Nat) (h0 : e x = .slice A m c) (h1 : e y = .int .i64 (k : Int)) (hk : k ≤ m) (hm : m ≤ c) (hA : Lies A m c) (W : World) :
    (execOp e o).run Try.prog W = .ok (.value (.slice (tlA A k c) (m - k) (c - k))) W := by
  rcases A with _ | ad
  · obtain ⟨rfl, rfl⟩ := hA.1 rfl
    obtain rfl : k = 0 := by omega
    unfold execOp
    simp only [ho, h0, h1, Option.map_none, Option.map_some]
    simp [go_sem, tlA]
  · unfold execOp
    simp only [ho, h0, h1, Option.map_none, Option.map_some]
    have e3 : ¬ ((m : Int) < (k : Int)) := by omega
    have e4 : ¬ ((c : Int) < (m : Int)) := by omega
    have e7 : (k : Int) ≤ (m : Int) := by omega
    simp [go_sem, e3, e4, e7, tlA]
    by_cases h9 : c = k
    · simp [h9]
    · simp [h9]
theorem tlA_none {A : Option Addr} {m c k : Nat} (hA : Lies A m c) : tlA A k c = none → m - k = 0 ∧ c - k = 0 := fun h => by
  rcases A with _ | ad
  · have := hA.1 rfl; omega
  · cases h
theorem tlA_rd {A : Option Addr} {m c k : Nat} (hA : Lies A m c) (hk : k ≤ m) (hm : m ≤ c) {w : World} {C : Nat → Array Value} (h : RdR w A m 18 C) : RdR w (tlA A k c) (m - k) 18 (fun j => C (k + j)) := by
  rcases hA.2 with h0 | ⟨b, off, rfl⟩
  · exact .inl (by omega)
  · have h1 := rdR_tail h hk hm
    have e : tlA (some ⟨b, off, none⟩) k c = some ⟨b, if c = k then off else off + k * 18, none⟩ := by
      unfold tlA
      by_cases h9 : c = k
      · simp [h9]
      · simp [h9, add_none]
    rw [e]; exact h1
theorem papp_run {o : Oper} {a : Act} {w : World} (s x : Operand) (ho : o.op = .call { callee := .builtin .append, args := #[s, x], argTypes := #[42, 42] })
    (base : Nat) (v : Value) (m : Nat) (C : Nat → Array Value) (hs : a.eval s = v) (h : OwnR w base 32 18 v m C) (A : Option Addr) (n c : Nat) (D : Nat → Array Value) (hx : a.eval x = .slice A n c) (hA : A = none → n = 0 ∧ c = 0) (hR : RdR w A n 18 D) (hD : Recs 18 D) (hm : (m + n) * 32 ≤ 140737488355328) (hb : base ≤ w.heap.size) :
    ∃ v' w', (execOp a.eval o).run Try.prog w = .ok (.value v') w' ∧ OwnR w' base 32 18 v' (m + n) (catR C m D) ∧ Below base w w' := by
  obtain ⟨i0, hi, hz0, hz1, hz2⟩ := info_parts info_pfE
  rcases A with _ | ad
  · obtain ⟨rfl, rfl⟩ := hA rfl
    have hr := run_append_owned_none (P := Try.prog) (w := w) base 42 o.type 32 i0 18 Try.underlying42 hi v m _ h
    refine ⟨v, w, ?_, h.congr fun j hj => (catR_lo _ _ _ _ hj).symm, Below.refl _ _⟩
    unfold execOp
    simp only [ho, resolve, invoke, builtin, Sem.run_bind, Sem.run_pure, Result.andThen_ok, List.map_toArray, List.map_cons, List.map_nil, hs, hx, hr]
  · obtain ⟨v', w', hr, h2, h3, h4, h5⟩ := run_append_own_at (P := Try.prog) w base 42 o.type 32 i0 _ 18 32 Try.underlying42 hi hz0 hz1 hz2 rfl (by decide) v m _ h ad n c (cellsR D n) (cellsR_len hD n) (recs_news hD (by decide) hR) (cellsR_one hD n) (by unfold maxLen; omega) hm hb
    rw [cellsR_cat] at h2
    refine ⟨v', w', ?_, h2, (Below.refl _ _).grown h3 hb (fun k e => (h.lt k e).1)⟩
    unfold execOp
    simp only [ho, resolve, invoke, builtin, Sem.run_bind, Sem.run_pure, Result.andThen_ok, List.map_toArray, List.map_cons, List.map_nil, hs, hx, hr]
section
variable {ops : Array Oper} {Q : Exit → Act → World → Prop} {md : Region.Mode} {S : World → Prop}
theorem takeB0 {i : Nat} {oi : Oper} (d : Option Tmp) {fuel : Nat} {listed : Array Bool} {a : Act} {w : World} (hi : ops[i]? = some oi) (hd : oi.dst = d)
    (hr : Region.ready md ops listed = [i]) (hw : Region.wanted oi (yielded ops a.tmps) = true) (ho : oi.op = .buildSlice 42 0 #[]) (N : Nat) (hN : w.heap.size = N)
    (h : ∀ w', Blk 32 w' N #[] → Below w.heap.size w w' → S w' ∧ wpAnyH Try.prog md ops Q S fuel (listed.setIfInBounds i true) (a.put d (.slice (some ⟨N, 0, none⟩) 0 0)) w') : wpAnyH Try.prog md ops Q S (fuel + 1) listed a w := by
  subst hN
  obtain ⟨h1, h2⟩ := h _ (heap_alloc_new w _) ((Below.refl _ _).alloc (Nat.le_refl _) _)
  exact takeV d hi hd hr hw (bs_p0 w oi a.eval ho) h1 h2
theorem takePa {i : Nat} {oi : Oper} (d : Option Tmp) {fuel : Nat} {listed : Array Bool} {a : Act} {w : World} (s x : Operand) (hi : ops[i]? = some oi) (hd : oi.dst = d)
    (hr : Region.ready md ops listed = [i]) (hw : Region.wanted oi (yielded ops a.tmps) = true)
    (ho : oi.op = .call { callee := .builtin .append, args := #[s, x], argTypes := #[42, 42] })
    {base : Nat} {v : Value} {m : Nat} {C : Nat → Array Value} (hs : a.eval s = v) (h : OwnR w base 32 18 v m C) {A : Option Addr} {n c : Nat} {D : Nat → Array Value} (hx : a.eval x = .slice A n c) (hA : A = none → n = 0 ∧ c = 0) (hR : RdR w A n 18 D) (hD : Recs 18 D) (hm : (m + n) * 32 ≤ 140737488355328) (hb : base ≤ w.heap.size)
    (k : ∀ v' w', OwnR w' base 32 18 v' (m + n) (catR C m D) → Below base w w' → S w' ∧ wpAnyH Try.prog md ops Q S fuel (listed.setIfInBounds i true) (a.put d v') w') :
    wpAnyH Try.prog md ops Q S (fuel + 1) listed a w := by
  obtain ⟨v', w', h1, h2, h3⟩ := papp_run s x ho base v m C hs h A n c D hx hA hR hD hm hb
  obtain ⟨h7, h8⟩ := k v' w' h2 h3
  exact takeV d hi hd hr hw h1 h7 h8
end
theorem recs_pf (L : Nat → Pf) : Recs 18 (fun j => pfC (L j)) := fun j => pfC_recs (L j) 0
/-- the two parts of a list behind one another -/
theorem rot_cat (L : Nat → Pf) (n k : Nat) (C : Nat → Array Value) : ∀ j, j < (0 + (n - k)) + k → catR (catR C 0 (fun j => pfC (L (k + j)))) (0 + (n - k)) (fun j => pfC (L j)) j = pfC (rotL L n k j) := fun j hj => by
  unfold catR rotL
  by_cases h : j < n - k
  · rw [if_pos (by omega), if_neg (by omega), if_pos h]; rfl
  · rw [if_neg (by omega), if_neg h, Nat.zero_add]
theorem rem_run (o : Oper) (e : Operand → Value) (x y : Operand) (ho : o.op = .binOp .rem 3 x y 3) (a n : Nat) (ha : a < 9223372036854775808) (hn : 0 < n) (h0 : e x = .int .i64 (a : Int)) (h1 : e y = .int .i64 (n : Int)) (W : World) : (execOp e o).run Try.prog W = .ok (.value (.int .i64 ((a % n : Nat) : Int))) W := by
  unfold execOp
  simp only [ho, h0, h1]
  have h2 : (a : Int).tmod (n : Int) = ((a % n : Nat) : Int) := by rw [Int.tmod_eq_emod_of_nonneg (by omega)]; rfl
  have h4 : a % n ≤ a := Nat.mod_le _ _
  have h5 : ¬ n = 0 := by omega
  simp [go_sem, h2, h5, IntKind.wrap_i64]
  try omega
theorem conv8_run (o : Oper) (e : Operand → Value) (x : Operand) (ho : o.op = .convert 5 3 x) (a : Int) (ha : 0 ≤ a ∧ a ≤ 255) (h0 : e x = .int .u8 a) (W : World) : (execOp e o).run Try.prog W = .ok (.value (.int .i64 a)) W := by
  unfold execOp
  simp only [ho, h0]
  simp [go_sem, IntKind.wrap_i64]
  try omega
theorem addw_run (o : Oper) (e : Operand → Value) (x y : Operand) (ho : o.op = .binOp .add 3 x y 3) (a b : Int) (h0 : e x = .int .i64 a) (h1 : e y = .int .i64 b) (W : World) : (execOp e o).run Try.prog W = .ok (.value (.int .i64 (IntKind.i64.wrap (a + b)))) W := by
  unfold execOp
  simp only [ho, h0, h1]
  simp [go_sem]
theorem min60 (o : Oper) (e : Operand → Value) (x : Operand) (ho : o.op = .call { callee := .builtin .min, args := #[x, .const (.int .i64 60)], argTypes := #[3, 3] }) (m : Nat) (h0 : e x = .int .i64 (m : Int)) (hc : e (.const (.int .i64 60)) = .int .i64 60) (W : World) : (execOp e o).run Try.prog W = .ok (.value (.int .i64 ((min m 60 : Nat) : Int))) W :=
  min_runN o e x _ ho m 60 h0 hc W
theorem lenS_run (o : Oper) (e : Operand → Value) (x : Operand) (ho : o.op = .call { callee := .builtin .len, args := #[x], argTypes := #[42] }) (A : Option Addr) (n c : Nat) (h0 : e x = .slice A n c) (W : World) : (execOp e o).run Try.prog W = .ok (.value (.int .i64 (n : Int))) W := by
  unfold execOp
  simp only [ho, h0]
  simp [go_sem, h0]
theorem in_pf {w : World} {A : Option Addr} {n c m : Nat} {L : Nat → Pf} (h : InPf w A n c L) (hm : m ≤ n) : Lies A m c := by
  refine ⟨fun e => ?_, ?_⟩
  · have := h.2.2.1 e; omega
  · rcases h.1 with h0 | ⟨b, o, e, _⟩
    · exact .inl (by omega)
    · exact .inr ⟨b, o, e⟩
theorem in_pf3 {A : Option Addr} {m c k : Nat} (h : Lies A m c) (hk : k ≤ m) : A = none → k = 0 ∧ c = 0 := fun e => by
  have := h.1 e; omega
theorem RdR.belowS {w w' : World} {A : Option Addr} {m s B : Nat} {C : Nat → Array Value} (h : RdR w A m s C) (hA : ∀ b o, A = some ⟨b, o, none⟩ → 0 < m → b < B) (hb : Below B w w') : RdR w' A m s C := by
  rcases Nat.eq_zero_or_pos m with h0 | h0
  · exact .inl h0
  · obtain ⟨b, o, e, h1⟩ := h.row h0
    exact .inr ⟨b, o, e, h1.below hb (hA b o e h0)⟩
def rotS (L : Nat → Pf) (n k : Nat) (j : Nat) : Pf := ((List.range n).map (rotL L n k)).getD j pf0
theorem rotS_at (L : Nat → Pf) {n k j : Nat} (hj : j < n) : rotS L n k j = rotL L n k j := by
  unfold rotS
  rw [List.getD_eq_getElem?_getD, List.getElem?_map, List.getElem?_range hj]
  rfl
theorem rotS_b {L : Nat → Pf} {n k : Nat} (hL : ∀ j, Bytes (L j).z) (j : Nat) : Bytes (rotS L n k j).z := by
  by_cases h : j < n
  · rw [rotS_at L h]
    unfold rotL
    split
    · exact hL _
    · exact hL _
  · unfold rotS
    rw [List.getD_eq_getElem?_getD, List.getElem?_eq_none (by simp; omega), Option.getD_none]
    intro i
    show (0 : Int) ≤ 0 ∧ (0 : Int) ≤ 255
    omega
theorem rotS_1 (L : Nat → Pf) {n k : Nat} (hk : k ≤ n) : ∀ j, j < n → ∃ i, i < n ∧ rotS L n k j = L i := fun j hj => by
  rw [rotS_at L hj]; exact rot_1 L hk j hj
theorem rotS_2 (L : Nat → Pf) {n k : Nat} (hk : k ≤ n) : ∀ j, j < n → ∃ i, i < n ∧ L j = rotS L n k i := fun j hj => by
  obtain ⟨i, h1, h2⟩ := rot_2 L hk j hj
  exact ⟨i, h1, by rw [rotS_at L h1]; exact h2⟩
theorem rot_row {w : World} {B n k : Nat} {v : Value} {L : Nat → Pf} {C : Nat → Array Value} (h : OwnR w B 32 18 v (0 + (n - k) + k) (catR (catR C 0 (fun j => pfC (L (k + j)))) (0 + (n - k)) (fun j => pfC (L j)))) (hk : k ≤ n) : ∃ A c, v = .slice A n c ∧ Hid (RowF w A n (fun j => rotS L n k j)) := by
  have e : 0 + (n - k) + k = n := by omega
  have h2 := h.congr (C' := pfB ((List.range n).map (rotL L n k))) fun j hj => by
    rw [rot_cat L n k C j hj]
    show _ = pfC (rotS L n k j)
    rw [rotS_at L (by omega)]
  rw [e] at h2
  exact row_of h2
theorem index_p (o : Oper) (e : Operand → Value) (x y : Operand) (ho : o.op = .indexAddr 42 x y) (b off m c f : Nat) (h0 : e x = .slice (some ⟨b, off, none⟩) m c) (h1 : e y = .int .i64 (f : Int)) (hf : f < m) (W : World) :
    (execOp e o).run Try.prog W = .ok (.value (.pointer (some ⟨b, off + f * 18, none⟩))) W := by
  unfold execOp
  simp only [ho, h0, h1]
  have e1 : (f : Int) < (m : Int) := by omega
  simp [go_sem, e1, hf]
  try omega
theorem sub1_run (o : Oper) (e : Operand → Value) (x : Operand) (ho : o.op = .binOp .sub 3 x (.const (.int .i64 1)) 3) (a : Nat) (h0 : e x = .int .i64 ((a : Int) + 1)) (hc : e (.const (.int .i64 1)) = .int .i64 1) (hb : a ≤ 1000000) (W : World) : (execOp e o).run Try.prog W = .ok (.value (.int .i64 (a : Int))) W := by
  unfold execOp
  simp only [ho, h0, hc]
  have e1 : IntKind.i64.wrap ((a : Int) + 1 - 1) = (a : Int) := by rw [IntKind.wrap_i64]; omega
  simp [go_sem, e1]
  try (rw [IntKind.wrap_i64]; omega)
end Go.Proofs.Ytjnbemopfhinbaa
