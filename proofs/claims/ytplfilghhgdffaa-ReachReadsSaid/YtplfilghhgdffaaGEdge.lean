/- reach.getEdge reads an edge. Each theorem states its conditions. -/
import Derived.Test.YtplfilghhgdffaaRd
import Derived.Test.YtplfilghhgdffaaEd
import Derived.Test.YtplfilghhgdffaaPHand
import Derived.Laws.CopyOwn
namespace Go.Proofs.Ytplfilghhgdffaa
open Go.RowKit
set_option linter.unusedVariables false

section
variable {P : Program} {ops : Array Oper} {Q : Exit → Act → World → Prop} {md : Region.Mode} {S : World → Prop}
/-- a call alone may come up; its value is told behind it -/
theorem takeE {i : Nat} {oi : Oper} (d : Option Tmp) (f : FuncId) (args : Array Value) {R : Ending → World → Prop} {fuel : Nat} {listed : Array Bool} {a : Act} {w : World} (hi : ops[i]? = some oi) (hd : oi.dst = d)
    (hr : Region.ready md ops listed = [i]) (hw : Region.wanted oi (yielded ops a.tmps) = true) (hx : (execOp a.eval oi).run P w = .ok (.enter f args) w)
    (hc : Calls P f args w R) (hS : ∀ v w', R (.returned v) w' → S w') (hout : ∀ w', ¬ R .outgrown w')
    (h : ∀ v w', R (.returned v) w' → S w' → wpAnyH P md ops Q S fuel (listed.setIfInBounds i true) (a.put d v) w') (hp : ∀ c w', R (.panicked c) w' → Q (.panic c) a w') : wpAnyH P md ops Q S (fuel + 1) listed a w := by
  subst hd
  refine wpAnyH_ready hr (by simp) (AllReadyH.cons hi (fun K hK => ?_) AllReadyH.nil)
  rw [if_pos hw]
  unfold Oper.wp
  rw [hx, Oper.upon_enter]
  refine hc.mono ?_
  intro e w' hR
  cases e with
  | returned v => exact hK.out _ _ (hS v w' hR) (h v w' hR)
  | panicked c => exact hp c w' hR
  | outgrown => exact absurd hR (hout w')
end

theorem grown_refl (W : World) (r : Option Nat) : W.grownBy W r := ⟨rfl, rfl, rfl, Nat.le_refl _, fun _ _ _ => rfl⟩
theorem grown_below {W V V' : World} {r : Option Nat} {B : Nat} (h : W.grownBy V r) (hb : Below B V V') (hB : W.heap.size ≤ B) : W.grownBy V' r :=
  ⟨hb.os.trans h.os, hb.tape.trans h.tape, hb.output.trans h.output, Nat.le_trans h.size hb.size, fun i hi hne => (hb.block i (by omega)).trans (h.block i hi hne)⟩
theorem grown_drew {W V : World} {r : Option Nat} (h : W.grownBy V r) : W.grownBy V.drew r := ⟨h.os, h.tape, h.output, h.size, h.block⟩
theorem grown_alloc {W V : World} {r : Option Nat} (h : W.grownBy V r) (o : Obj) : W.grownBy (V.alloc o) r :=
  ⟨h.os, h.tape, h.output, by have := h.size; simp; omega, fun i hi hne => (Below.heap_alloc V o i (by have := h.size; omega)).trans (h.block i hi hne)⟩
theorem grown_set {W V : World} {r : Option Nat} (h : W.grownBy V r) (E i : Nat) (v : Value) (hE : W.heap.size ≤ E) : W.grownBy (V.setCell ⟨E, i, none⟩ v) r :=
  ⟨h.os, h.tape, h.output, by have := h.size; simp; omega, fun k hk hne => (Below.heap_setCell V ⟨E, i, none⟩ v k (by show k ≠ E; omega)).trans (h.block k hk hne)⟩
theorem RS.block {W W' : World} {R b off n c p : Nat} (h : RS W R b off n c p) (hb : W'.heap[R]? = W.heap[R]?) : RS W' R b off n c p := by
  obtain ⟨a, h1, h2⟩ := h
  exact ⟨a, hb.trans h1, h2⟩

/-- the edge whose bytes begin at p -/
def gEd (z : Nat → Int) (p : Nat) : Ed := ⟨fun j => z (p + j), (numZ (fun j => z (p + 7 + j)) 0 3).toNat⟩
def zEd : Ed := ⟨fun _ => 0, 0⟩

theorem info_u8s : (Try.prog.info? 5).map (·.size) = some 1 := by kernel_rfl
/-- an edge's block, its first bytes laid -/
def edP (e0 e1 e2 e3 e4 e5 e6 m : Int) : Array Value := #[.int .u8 e0, .int .u8 e1, .int .u8 e2, .int .u8 e3, .int .u8 e4, .int .u8 e5, .int .u8 e6, .int .u32 m]
def IsEd (W : World) (E : Nat) (cs : Array Value) : Prop := W.heap[E]? = some (.cells cs 30 (0, 0))
/-- the world behind the two allocations -/
theorem getEdge_start (W : World) (R b off n c p : Nat) (z : Nat → Int) (h : RS W R b off n c p) (hr : Row8 W b off n z) :
    ∀ V, V = (W.alloc (.cells (edP 0 0 0 0 0 0 0 0) 30)).alloc (.cells (edP 0 0 0 0 0 0 0 0) 30) →
      RS V.drew R b off n c p ∧ Row8 V.drew b off n z ∧ IsEd V.drew (W.heap.size + 1) (edP 0 0 0 0 0 0 0 0) ∧ IsEd V.drew W.heap.size (edP 0 0 0 0 0 0 0 0) ∧ W.grownBy V.drew (some R) ∧ V.drew.heap.size = W.heap.size + 2 := by
  rintro V rfl
  have hb : Below W.heap.size W ((W.alloc (.cells (edP 0 0 0 0 0 0 0 0) 30)).alloc (.cells (edP 0 0 0 0 0 0 0 0) 30)) := ((bself W).alloc (Nat.le_refl _) _).alloc (by simp) _
  refine ⟨h.block (hb.block R h.lt), hr.below hb.drew hr.1, ?_, ?_, grown_drew (grown_alloc (grown_alloc (grown_refl W _) _) _), by show _ = _; simp⟩
  · have := heap_alloc_new (W.alloc (.cells (edP 0 0 0 0 0 0 0 0) 30)) (.cells (edP 0 0 0 0 0 0 0 0) 30)
    rw [World.size_alloc] at this
    exact this
  · exact (Below.heap_alloc _ _ _ (by simp)).trans (heap_alloc_new W _)
theorem info_ed : (Try.prog.info? 30).map (·.size) = some 8 := by kernel_rfl
theorem results_ed {fn : Func} {p : Tmp} (h : fn.results = #[.cell p 30]) (tmps : Array Value) (W : World) (g : Nat) (e0 e1 e2 e3 e4 e5 e6 m : Int)
    (hp : tmps.getD p undef = .pointer (some ⟨g, 0, none⟩)) (hg : IsEd W g (edP e0 e1 e2 e3 e4 e5 e6 m)) : (results fn tmps).run Try.prog W = .ok (.agg (edP e0 e1 e2 e3 e4 e5 e6 m)) W := by
  have h1 := run_loadVar_row (P := Try.prog) W g 30 30 (edP e0 e1 e2 e3 e4 e5 e6 m) (0, 0) _ hg Try.underlying30 rfl info_ed
  have hp' : (tmps[p]?).getD undef = .pointer (some ⟨g, 0, none⟩) := by simpa using hp
  simp only [results, h]
  simp [hp', asAddr, h1]
theorem six_src {W : World} {b off n p : Nat} {z : Nat → Int} (h : Row8 W b off n z) (hp : p + 6 ≤ n) :
    ∀ j v, [Value.int .u8 (z p), .int .u8 (z (p + 1)), .int .u8 (z (p + 2)), .int .u8 (z (p + 3)), .int .u8 (z (p + 4)), .int .u8 (z (p + 5))][j]? = some v → W.cell? ((⟨b, off + p, none⟩ : Addr).add j) = some v := by
  intro j v hj
  rw [add_none]
  have hc := fun i hi => h.2.1 (p + i) (by omega : p + i < n)
  match j, hj with
  | 0, hj => simp at hj; subst hj; exact h.2.1 p (by omega)
  | 1, hj => simp at hj; subst hj; rw [Nat.add_assoc]; exact h.2.1 (p + 1) (by omega)
  | 2, hj => simp at hj; subst hj; rw [Nat.add_assoc]; exact h.2.1 (p + 2) (by omega)
  | 3, hj => simp at hj; subst hj; rw [Nat.add_assoc]; exact h.2.1 (p + 3) (by omega)
  | 4, hj => simp at hj; subst hj; rw [Nat.add_assoc]; exact h.2.1 (p + 4) (by omega)
  | 5, hj => simp at hj; subst hj; rw [Nat.add_assoc]; exact h.2.1 (p + 5) (by omega)
theorem isEd_cell {W : World} {E : Nat} {cs : Array Value} (h : IsEd W E cs) (j : Nat) : W.cell? ⟨E, j, none⟩ = cs[j]? := cell_of_row W E j _ _ _ h
theorem isEd_free {W : World} {E : Nat} {cs : Array Value} (h : IsEd W E cs) (j : Nat) : W.frozen? ⟨E, j, none⟩ = false := by unfold IsEd at h; simp [World.frozen?, h]
theorem isEd_set6 {W : World} {E : Nat} {e0 e1 e2 e3 e4 e5 e6 m : Int} (h : IsEd W E (edP e0 e1 e2 e3 e4 e5 e6 m)) (v : Int) : IsEd (W.setCell ⟨E, 6, none⟩ (.int .u8 v)) E (edP e0 e1 e2 e3 e4 e5 v m) := by
  unfold IsEd at *; simp [World.setCell, Array.getElem?_modify, h, edP]
theorem isEd_set7 {W : World} {E : Nat} {e0 e1 e2 e3 e4 e5 e6 m : Int} (h : IsEd W E (edP e0 e1 e2 e3 e4 e5 e6 m)) (v : Int) : IsEd (W.setCell ⟨E, 7, none⟩ (.int .u32 v)) E (edP e0 e1 e2 e3 e4 e5 e6 v) := by
  unfold IsEd at *; simp [World.setCell, Array.getElem?_modify, h, edP]

theorem take_any (R b off n c p k : Nat) (W : World) (h : RS W R b off n c p) (hp : p ≤ n) (hn : n ≤ c) (hc : c ≤ 9223372036854775807) (hk2 : k ≤ 255) :
    Calls Try.prog 42 #[.pointer (some ⟨R, 0, none⟩), .int .i64 k] W fun e W' =>
      (p + k ≤ n ∧ ∃ a, e = .returned (.slice (some a) k (c - p)) ∧ (p < n → a = ⟨b, off + p, none⟩) ∧ RS W' R b off n c (p + k) ∧ W.grownBy W' (some R)) ∨ (n < p + k ∧ e = .panicked [flt] ∧ W' = W) := by
  by_cases hk : p + k ≤ n
  · exact (take_ok R b off n c p k W h hp hn hc hk hk2).mono fun e W' h => .inl ⟨hk, h⟩
  · exact (take_bad R b off n c p k W h hp hn hc (by omega) hk2).mono fun e W' h => .inr ⟨by omega, h⟩
/-- what getEdge leaves -/
def GPost (W : World) (R b off n c p v : Nat) (z : Nat → Int) (e : Ending) (W' : World) : Prop :=
  (p + 11 + v ≤ n ∧ e = .returned (.agg (edC (gEd z p))) ∧ RS W' R b off n c (p + 11 + v) ∧ W.grownBy W' (some R)) ∨
  (n < p + 11 + v ∧ e = .panicked [flt] ∧ W.grownBy W' (some R))

set_option maxHeartbeats 4000000 in
set_option maxRecDepth 100000 in
theorem getEdge_any (R b off n c p v : Nat) (z : Nat → Int) (W : World) (h : RS W R b off n c p) (hr : Row8 W b off n z) (hbR : b ≠ R) (hn : n ≤ c) (hc : c ≤ 9223372036854775807) (hv : z (p + 10) = v) (hp : p < n) :
    Calls Try.prog 27 #[.pointer (some ⟨R, 0, none⟩)] W (GPost W R b off n c p v z) := by
  have hRl := h.lt
  have hbl := hr.1
  have H0 := Lib.hid (getEdge_start W R b off n c p z h hr)
  have hz := hr.2.2
  clear h hr
  go_enter Try.func27, Try.ntmps27
  go_wp2_with fail
  refine wp_region_held_drew (S := fun w' => True) (by kernel_rfl) trivial (fun _ => ?_)
  refine takeY (i := 0) (some 4) (v := (.pointer (some ⟨W.heap.size + 1, 0, none⟩))) rfl rfl (by kernel_rfl) (by kernel_rfl) (by kernel_rfl) (fun _ _ _ h => h) (by rfl) (fun w' hS => by go_simp) trivial ?_
  simp only [Act.put, List.setIfInBounds_toArray, List.set_cons_zero, List.set_cons_succ]
  refine takeY (i := 1) (some 5) (v := (.pointer (some ⟨W.heap.size + 1, 0, none⟩))) rfl rfl (by kernel_rfl) (by kernel_rfl) (by kernel_rfl) (fun _ _ _ h => h) (by rfl) (fun w' hS => by go_simp) trivial ?_
  simp only [Act.put, List.setIfInBounds_toArray, List.set_cons_zero, List.set_cons_succ]
  refine takeY (i := 2) (some 6) (v := (.slice (some ⟨W.heap.size + 1, 0, none⟩) 6 6)) rfl rfl (by kernel_rfl) (by kernel_rfl) (by kernel_rfl) (fun _ _ _ h => h) (by rfl) (fun w' hS => by go_simp) trivial ?_
  simp only [Act.put, List.setIfInBounds_toArray, List.set_cons_zero, List.set_cons_succ]
  refine takeY (i := 3) (some 7) (v := (.pointer (some ⟨R, 0, none⟩))) rfl rfl (by kernel_rfl) (by kernel_rfl) (by kernel_rfl) (fun _ _ _ h => h) (by rfl) (fun w' hS => by go_simp) trivial ?_
  simp only [Act.put, List.setIfInBounds_toArray, List.set_cons_zero, List.set_cons_succ]
  obtain ⟨f1, f2, f3, f4, f5, f6⟩ := H0.out _ rfl
  refine takeE (i := 4) (some 8) 42 #[.pointer (some ⟨R, 0, none⟩), .int .i64 6] rfl rfl (by kernel_rfl) (by rfl) (by go_simp) (take_any R b off n c p 6 _ f1 (by omega) hn hc (by omega)) (fun _ _ _ => trivial) (fun w' h => by rcases h with ⟨_, a, h, _⟩ | ⟨_, h, _⟩ <;> cases h) (fun v1 w4 h4 _ => ?_) (fun ch w' h => ?_)
  rotate_left
  · rcases h with ⟨_, a, h, _⟩ | ⟨hlt, h, hw⟩
    · cases h
    · injection h with h
      subst h
      subst hw
      exact ends_panicked (P := Try.prog) (fn := Try.f27) rfl (.inr ⟨by omega, rfl, f5⟩)
  simp only [Act.put, List.setIfInBounds_toArray, List.set_cons_zero, List.set_cons_succ]
  rcases h4 with ⟨hp6, a, he, ha, hs, hg⟩ | ⟨_, h, _⟩
  rotate_left
  · cases h
  injection he with he
  subst he
  obtain rfl := ha (by omega)
  change World.grownBy (World.drew ((W.alloc (.cells (edP 0 0 0 0 0 0 0 0) 30)).alloc (.cells (edP 0 0 0 0 0 0 0 0) 30))) w4 (some R) at hg
  have hR4 : Row8 w4 b off n z := f2.grown hg (fun e => hbR (by injection e))
  have hE4 : IsEd w4 (W.heap.size + 1) (edP 0 0 0 0 0 0 0 0) := (hg.block _ (by rw [f6]; omega) (fun e => by injection e; omega)).trans f3
  have hX4 : IsEd w4 W.heap.size (edP 0 0 0 0 0 0 0 0) := (hg.block _ (by rw [f6]; omega) (fun e => by injection e; omega)).trans f4
  have hG4 : W.grownBy w4 (some R) := f5.trans hg
  have hs4 : W.heap.size + 2 ≤ w4.heap.size := by have := hg.size; rwa [f6] at this
  clear f1 f2 f3 f4 f5 f6 hg ha H0
  refine wpAnyH_ready (rs := [5]) (by kernel_rfl) (by simp) (AllReadyH.cons rfl (fun K hK => ?_) AllReadyH.nil)
  refine step_copy_splice rfl (.tmp 6) (.tmp 8) 31 31 rfl 5 Try.underlying31 info_u8s (some ⟨W.heap.size + 1, 0, none⟩) (some ⟨b, off + p, none⟩) 6 6 6 (c - p) rfl rfl (W.heap.size + 1) 0 (edP 0 0 0 0 0 0 0 0).toList 30 (by have := hE4; unfold IsEd at this; simpa using this) [Value.int .u8 (z p), .int .u8 (z (p + 1)), .int .u8 (z (p + 2)), .int .u8 (z (p + 3)), .int .u8 (z (p + 4)), .int .u8 (z (p + 5))] rfl (fun _ => ⟨rfl, _, rfl, six_src hR4 (by omega)⟩) (show 0 + 6 ≤ 8 by decide) (u8_six _ _ _ _ _ _) (W.heap.size + 1) w4 (Below.refl _ _) (Nat.le_refl _) ?_
  intro w5 hc5 hb5
  have hE5 : IsEd w5 (W.heap.size + 1) (edP (z p) (z (p + 1)) (z (p + 2)) (z (p + 3)) (z (p + 4)) (z (p + 5)) 0 0) := hc5.out
  have hX5 : IsEd w5 W.heap.size (edP 0 0 0 0 0 0 0 0) := (hb5.block _ (by omega)).trans hX4
  have hG5 : W.grownBy w5 (some R) := grown_below hG4 hb5 (by omega)
  have hR5 := hR4.below hb5 (by omega)
  have hs5 := hs.block (hb5.block R (by omega))
  have hz5 : W.heap.size + 2 ≤ w5.heap.size := by have := hb5.size; omega
  clear hc5 hb5 hE4 hX4 hG4 hR4 hs hs4
  have HE5 := Lib.hid hE5
  have HX5 := Lib.hid hX5
  have HG5 := Lib.hid hG5
  have HR5 := Lib.hid hR5
  have HS5 := Lib.hid hs5
  clear hE5 hX5 hG5 hR5 hs5
  refine hK.out _ _ trivial (fun _ => ?_)
  refine wpAnyH_done (by kernel_rfl) ?_ _
  go_wp2_with fail
  by_cases hp7 : p + 7 ≤ n
  rotate_left
  · obtain rfl : n = p + 6 := by omega
    refine (byte_bad R b off (p + 6) c _ HS5.out hn hc).mono ?_
    rintro e w6 ⟨rfl, rfl⟩
    go_wp2
    exact ends_panicked rfl (.inr ⟨by omega, rfl, HG5.out⟩)
  refine (byte_ok R b off n c (p + 6) z _ HS5.out HR5.out hbR hn hc (by omega)).mono ?_
  rintro e w6 ⟨rfl, hs, hg⟩
  have hE6 : IsEd w6 (W.heap.size + 1) (edP (z p) (z (p + 1)) (z (p + 2)) (z (p + 3)) (z (p + 4)) (z (p + 5)) 0 0) := (hg.block _ (by omega) (fun e => by injection e; omega)).trans HE5.out
  have c6 : w6.cell? ⟨W.heap.size + 1, 6, none⟩ = some (.int .u8 0) := isEd_cell hE6 6
  have f6 := isEd_free hE6 6
  have HE7 := Lib.hid (isEd_set6 hE6 (z (p + 6)))
  have HX7 : Hid (IsEd (w6.setCell ⟨W.heap.size + 1, 6, none⟩ (.int .u8 (z (p + 6)))) W.heap.size (edP 0 0 0 0 0 0 0 0)) := Lib.hid ((Below.heap_setCell w6 ⟨W.heap.size + 1, 6, none⟩ _ W.heap.size (by show _ ≠ W.heap.size + 1; omega)).trans ((hg.block _ (by omega) (fun e => by injection e; omega)).trans HX5.out))
  have HG7 := Lib.hid (grown_set (HG5.out.trans hg) (W.heap.size + 1) 6 (.int .u8 (z (p + 6))) (by omega))
  have HS7 : Hid (RS (w6.setCell ⟨W.heap.size + 1, 6, none⟩ (.int .u8 (z (p + 6)))) R b off n c (p + 6 + 1)) := Lib.hid (hs.block (Below.heap_setCell w6 ⟨W.heap.size + 1, 6, none⟩ _ R (by show _ ≠ W.heap.size + 1; omega)))
  have HR7 : Hid (Row8 (w6.setCell ⟨W.heap.size + 1, 6, none⟩ (.int .u8 (z (p + 6)))) b off n z) := Lib.hid ((HR5.out.grown hg (fun e => hbR (by injection e))).below ((Below.refl (W.heap.size + 1) w6).setCell (p := ⟨W.heap.size + 1, 6, none⟩) (Nat.le_refl _) _) (by omega))
  have hz6 : W.heap.size + 2 ≤ w6.heap.size := by have := hg.size; omega
  clear hs hg hE6 HE5 HX5 HG5 HR5 HS5
  go_wp2_with fail
  by_cases hp10 : p + 10 ≤ n
  rotate_left
  · refine (metric_bad R b off n c (p + 6 + 1) 3 _ HS7.out (by omega) hn hc (by omega) (by omega)).mono ?_
    rintro e w8 ⟨rfl, rfl⟩
    go_wp2
    exact ends_panicked rfl (.inr ⟨by omega, rfl, HG7.out⟩)
  refine (metric_ok R b off n c (p + 6 + 1) 3 z _ HS7.out HR7.out hbR hn hc (by omega) (by omega) (by omega)).mono ?_
  rintro e w8 ⟨rfl, hs, hg⟩
  have hM := numZ_lt (fun j => z (p + 6 + 1 + j)) 0 3 (fun j => hz _)
  have hgE : gEd z p = ⟨fun j => z (p + j), (numZ (fun j => z (p + 6 + 1 + j)) 0 3).toNat⟩ := rfl
  have hME : (((numZ (fun j => z (p + 6 + 1 + j)) 0 3).toNat : Nat) : Int) = numZ (fun j => z (p + 6 + 1 + j)) 0 3 := Int.toNat_of_nonneg hM.1
  have HGE := Lib.hid hgE
  have HME := Lib.hid hME
  clear hM hgE hME
  generalize numZ (fun j => z (p + 6 + 1 + j)) 0 3 = M at *
  have hE8 : IsEd w8 (W.heap.size + 1) (edP (z p) (z (p + 1)) (z (p + 2)) (z (p + 3)) (z (p + 4)) (z (p + 5)) (z (p + 6)) 0) := (hg.block _ (by simp; omega) (fun e => by injection e; omega)).trans HE7.out
  have c7 : w8.cell? ⟨W.heap.size + 1, 7, none⟩ = some (.int .u32 0) := isEd_cell hE8 7
  have f7 := isEd_free hE8 7
  have HE9 := Lib.hid (isEd_set7 hE8 M)
  have hz8 : W.heap.size + 2 ≤ w8.heap.size := by have := hg.size; simp at this; omega
  have HX9 : Hid (IsEd (w8.setCell ⟨W.heap.size + 1, 7, none⟩ (.int .u32 M)) W.heap.size (edP 0 0 0 0 0 0 0 0)) := Lib.hid ((Below.heap_setCell w8 ⟨W.heap.size + 1, 7, none⟩ _ W.heap.size (by show _ ≠ W.heap.size + 1; omega)).trans ((hg.block _ (by simp; omega) (fun e => by injection e; omega)).trans HX7.out))
  have HG9 := Lib.hid (grown_set (HG7.out.trans hg) (W.heap.size + 1) 7 (.int .u32 M) (by omega))
  have HS9 : Hid (RS (w8.setCell ⟨W.heap.size + 1, 7, none⟩ (.int .u32 M)) R b off n c (p + 10)) := Lib.hid (hs.block (Below.heap_setCell w8 ⟨W.heap.size + 1, 7, none⟩ _ R (by show _ ≠ W.heap.size + 1; omega)))
  have HR9 : Hid (Row8 (w8.setCell ⟨W.heap.size + 1, 7, none⟩ (.int .u32 M)) b off n z) := Lib.hid ((HR7.out.grown hg (fun e => hbR (by injection e))).below ((Below.refl (W.heap.size + 1) w8).setCell (p := ⟨W.heap.size + 1, 7, none⟩) (Nat.le_refl _) _) (by omega))
  clear hs hg hE8 HE7 HX7 HG7 HR7 HS7 c6 f6
  go_wp2_with fail
  by_cases hp11 : p + 11 + v ≤ n
  rotate_left
  · refine (skip_bad R b off n c (p + 10) v z _ HS9.out HR9.out hbR hn hc hv (by omega) (by omega)).mono ?_
    rintro e w10 ⟨rfl, hg⟩
    have HG10 := Lib.hid (HG9.out.trans hg)
    clear hg
    go_wp2
    exact ends_panicked rfl (.inr ⟨by omega, rfl, HG10.out⟩)
  refine (skip_ok R b off n c (p + 10) v z _ HS9.out HR9.out hbR hn hc hv (by omega)).mono ?_
  rintro e w10 ⟨rfl, hs, hg⟩
  have hE10 : IsEd w10 (W.heap.size + 1) (edP (z p) (z (p + 1)) (z (p + 2)) (z (p + 3)) (z (p + 4)) (z (p + 5)) (z (p + 6)) M) := (hg.block _ (by simp; omega) (fun e => by injection e; omega)).trans HE9.out
  have hX10 : IsEd w10 W.heap.size (edP 0 0 0 0 0 0 0 0) := (hg.block _ (by simp; omega) (fun e => by injection e; omega)).trans HX9.out
  have HX := Lib.hid hX10
  have hrange : Hid (w10.rangeAt (W.heap.size + 1) 0 (edP (z p) (z (p + 1)) (z (p + 2)) (z (p + 3)) (z (p + 4)) (z (p + 5)) (z (p + 6)) M).toList) := Lib.hid (fun j u hu => by rw [Nat.zero_add, isEd_cell hE10]; simpa using hu)
  have HG := Lib.hid (HG9.out.trans hg)
  have HS := Lib.hid hs
  have hall := Lib.hid (show (edP (z p) (z (p + 1)) (z (p + 2)) (z (p + 3)) (z (p + 4)) (z (p + 5)) (z (p + 6)) M).all (·.oneCell') = true by simp [edP, Value.oneCell'])
  have hR0 : R ≠ W.heap.size := by omega
  clear hs hg hE10 hX10 HE9 HX9 HG9 HS9 HR9 c7 f7
  go_wp2_with (first
    | (refine wpList_load_mid rfl 30 (.tmp 3) rfl (W.heap.size + 1) 0 rfl _ _ hrange.out Try.underlying30 rfl info_ed ?_)
    | (refine store_blk rfl (.tmp 2) (.tmp 19) (cells := edP (z p) (z (p + 1)) (z (p + 2)) (z (p + 3)) (z (p + 4)) (z (p + 5)) (z (p + 6)) M) rfl rfl rfl HX.out info_ed rfl hall.out ?_; intro w11 hg11 hb11 ho11; refine Hid.out ?_))
  refine Lib.hid ?_
  have HQ := Lib.hid hg11
  have HG11 := Lib.hid (grown_below HG.out (hb11 W.heap.size (Nat.le_refl _)) (Nat.le_refl _))
  have HS11 := Lib.hid (HS.out.block (ho11 R (by omega)))
  clear hg11 hb11 ho11 hall hrange
  go_wp2_with fail
  refine bodyPost_ret (results_ed rfl _ w11 W.heap.size (z p) (z (p + 1)) (z (p + 2)) (z (p + 3)) (z (p + 4)) (z (p + 5)) (z (p + 6)) M rfl HQ.out) rfl (.inl ⟨hp11, ?_, ?_, HG11.out⟩)
  · rw [HGE.out]
    show _ = Ending.returned (.agg #[.int .u8 (z (p + 0)), .int .u8 (z (p + 1)), .int .u8 (z (p + 2)), .int .u8 (z (p + 3)), .int .u8 (z (p + 4)), .int .u8 (z (p + 5)), .int .u8 (z (p + 6)), .int .u32 ((M.toNat : Nat) : Int)])
    rw [HME.out]
    rfl
  · have := HS11.out
    rwa [show p + 10 + 1 + v = p + 11 + v by omega] at this
end Go.Proofs.Ytplfilghhgdffaa
