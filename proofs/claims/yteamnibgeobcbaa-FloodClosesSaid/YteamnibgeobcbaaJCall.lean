/- A call of a script: what it leaves. Each theorem states its conditions. -/
import Derived.Test.YteamnibgeobcbaaJEq
import Derived.Test.YteamnibgeobcbaaJAwk
namespace Go.Proofs.Yteamnibgeobcbaa
open Go.RowKit
set_option linter.unusedVariables false

structure OpR where
  kd : Int
  c : Int
  nn : Int
  id : Nat
  A : Option Addr
  m : Nat
  cc : Nat
  L : Nat → Nat
def opC (o : OpR) : Array Value := #[.int .u8 o.kd, .int .i64 o.c, .int .i64 o.nn, .int .u8 (dg o.id 0), .int .u8 (dg o.id 1), .int .u8 (dg o.id 2), .int .u8 (dg o.id 3), .int .u8 (dg o.id 4), .int .u8 (dg o.id 5), .int .u8 (dg o.id 6), .int .u8 (dg o.id 7), .slice o.A o.m o.cc]
structure OpOk (w : World) (o : OpR) : Prop where
  id : IdOk o.id
  rd : RdR w o.A o.m 8 (idA o.L)
  ok : ∀ j, j < o.m → IdOk (o.L j)
  nl : o.A = none → o.m = 0 ∧ o.cc = 0
  le : o.m ≤ o.cc
  sz : o.cc * 8 ≤ 140737488351232
theorem OpOk.below {w w' : World} {o : OpR} (h : OpOk w o) (hb : Below w.heap.size w w') : OpOk w' o := ⟨h.id, h.rd.below hb rfl, h.ok, h.nl, h.le, h.sz⟩
theorem opC_one (o : OpR) : (opC o).all (·.oneCell') = true := by kernel_rfl
theorem info_op : (Try.prog.info? 37).map (·.size) = some 12 := by kernel_rfl
theorem Blk.opid {t : TypeId} {w : World} {g : Nat} {o : OpR} (h : Blk t w g (opC o)) : w.rangeAt g 3 (idC o.id).toList := by
  intro j u hj
  have hj8 : j < 8 := by
    rcases Nat.lt_or_ge j 8 with h1 | h1
    · exact h1
    · rw [List.getElem?_eq_none (by rw [Array.length_toList, idC_size]; exact h1)] at hj; cases hj
  rw [h.cell (3 + j)]
  rcases (by omega : j = 0 ∨ j = 1 ∨ j = 2 ∨ j = 3 ∨ j = 4 ∨ j = 5 ∨ j = 6 ∨ j = 7) with rfl | rfl | rfl | rfl | rfl | rfl | rfl | rfl <;> exact hj
/-- all circuits are open, of no mesh group -/
def AllOpen (F : Nat → Option Cir) (n : Nat) : Prop := ∀ i, i < n → ∃ c, F i = some c ∧ c.mesh = 0
/-- nothing goes from what is to send, but q -/
def Keeps (q : Option Nat) (F F' : Nat → Option Cir) (n : Nat) : Prop := ∀ i, i < n → ∀ c, F i = some c → ∃ c', F' i = some c' ∧ c'.mesh = c.mesh ∧ ∀ y, q ≠ some y → c.send y = true → c'.send y = true
theorem Keeps.refl (q : Option Nat) (F : Nat → Option Cir) (n : Nat) : Keeps q F F n := fun i hi c hc => ⟨c, hc, rfl, fun _ _ h => h⟩
theorem Keeps.trans {q : Option Nat} {F G H : Nat → Option Cir} {n : Nat} (h : Keeps q F G n) (k : Keeps q G H n) : Keeps q F H n := fun i hi c hc => by
  obtain ⟨c1, h1, h2, h3⟩ := h i hi c hc
  obtain ⟨c2, k1, k2, k3⟩ := k i hi c1 h1
  exact ⟨c2, k1, k2.trans h2, fun y hy hs => k3 y hy (h3 y hy hs)⟩
theorem Keeps.all {q : Option Nat} {F G : Nat → Option Cir} {n : Nat} (h : Keeps q F G n) (ha : AllOpen F n) : AllOpen G n := fun i hi => by
  obtain ⟨c, hc, hm⟩ := ha i hi
  obtain ⟨c', h1, h2, _⟩ := h i hi c hc
  exact ⟨c', h1, by rw [h2, hm]⟩
theorem Keeps.one {q : Option Nat} {F : Nat → Option Cir} {n i : Nat} {d d' : Cir} (hd : F i = some d) (hm : d'.mesh = d.mesh) (hs : ∀ y, q ≠ some y → d.send y = true → d'.send y = true) : Keeps q F (updF F i (some d')) n := fun j hj c hc => by
  by_cases e : j = i
  · subst e
    rw [hd] at hc
    cases hc
    exact ⟨d', updF_same _ _ _, hm, hs⟩
  · exact ⟨c, by rw [updF_other _ _ e]; exact hc, rfl, fun _ _ h => h⟩
theorem Keeps.map {q : Option Nat} {F G : Nat → Option Cir} {n : Nat} (f : Nat → Cir → Cir) (hG : ∀ i, i < n → G i = (F i).map (f i)) (hm : ∀ i c, (f i c).mesh = c.mesh) (hs : ∀ i c y, q ≠ some y → c.send y = true → (f i c).send y = true) : Keeps q F G n := fun i hi c hc => by
  exact ⟨f i c, by rw [hG i hi, hc]; rfl, hm i c, hs i c⟩
theorem ne_q {x y : Nat} (h : some x ≠ some y) : ¬ y = x := fun e => h (by rw [e])
theorem spr_keeps (F : Nat → Option Cir) (x : Nat) (fr : Option Nat) (fm : Option Int) (n : Nat) : Keeps (some x) F (sprJ F x fr fm n) n :=
  Keeps.map (spread1 x fr fm) (fun i hi => by unfold sprJ; rw [if_pos hi]) (fun i c => by unfold spread1; split; rfl; split <;> rfl) (fun i c y hq h => by
    have hy := ne_q hq
    unfold spread1
    split
    · exact h
    · split
      · simp [cDrS, cDrM, h, hy]
      · simp [cAdS, cDrM, h])
theorem fgt_keeps (F : Nat → Option Cir) (x n : Nat) : Keeps (some x) F (fgtJ F x n) n :=
  Keeps.map (fun _ c => cDrM (cDrS c x) x) (fun i hi => by unfold fgtJ; rw [if_pos hi]) (fun i c => rfl) (fun i c y hq h => by simp [cDrS, cDrM, h, ne_q hq])
/-- what a call leaves -/
def KpP (B g ga n k : Nat) (q : Option Nat) (F : Nat → Option Cir) (w w' : World) : Prop := ∃ F', FlAt w' B g ga n F' (k + 512) ∧ Keeps q F F' n ∧ Below B w w' ∧ KeptT w w'
section
variable {B g ga n k : Nat} {F : Nat → Option Cir}
theorem took_any (w : World) (h : FlAt w B g ga n F k) (ha : AllOpen F n) (c r : Int) (x : Nat) (hx : IdOk x) :
    Calls Try.prog 11 #[.pointer (some ⟨g, 0, none⟩), .int .i64 c, .agg (idC x), .int .i64 r] w fun e w' => ∃ z, e = .returned (.int .i64 z) ∧ KpP B g ga n k (some x) F w w' := by
  have hn := h.hn
  by_cases hr : -1 ≤ r ∧ r ≤ 1
  · by_cases hc : 0 ≤ c ∧ c < n
    · obtain ⟨i, rfl⟩ : ∃ i : Nat, c = i := ⟨c.toNat, by omega⟩
      have hi : i < n := by omega
      obtain ⟨d, hd, hm⟩ := ha i hi
      rcases (by omega : r = 1 ∨ r = 0 ∨ r = -1) with rfl | rfl | rfl
      · exact (took_new w h i hi d hd x hx).mono fun e w' ⟨he, hf, hb, ht⟩ => ⟨0, he, _, hf.mono (by omega), (spr_keeps F x (some i) (some d.mesh) n).trans (Keeps.one (d := d) (by unfold sprJ; rw [hd, if_pos hi]; simp [spread1]) rfl (fun y hq hs => by simp [cAdM, cDrS, hs, ne_q hq])), hb, ht⟩
      · exact (took_same w h i hi d hd x hx).mono fun e w' ⟨he, hf, hb, ht⟩ => ⟨0, he, _, hf.mono (by omega), Keeps.one hd rfl (fun y hq hs => by simp [cAdM, cDrS, hs, ne_q hq]), hb, ht⟩
      · exact (took_old w h i hi d hd x hx).mono fun e w' ⟨he, hf, hb, ht⟩ => ⟨0, he, _, hf.mono (by omega), Keeps.one hd rfl (fun y hq hs => by simp [cDrM, cAdS, hs]), hb, ht⟩
    · by_cases ho : c = -1 ∧ r = 1
      · obtain ⟨rfl, rfl⟩ := ho
        exact (took_own w h x hx).mono fun e w' ⟨he, hf, hb, ht⟩ => ⟨0, he, _, hf.mono (by omega), spr_keeps F x none none n, hb, ht⟩
      · exact (took_bad w h c r x (.inr ⟨hc, by omega⟩)).mono fun e w' ⟨he, hf, hb, ht⟩ => ⟨1, he, _, hf.mono (by omega), Keeps.refl _ _ _, hb, ht⟩
  · exact (took_bad w h c r x (.inl hr)).mono fun e w' ⟨he, hf, hb, ht⟩ => ⟨1, he, _, hf.mono (by omega), Keeps.refl _ _ _, hb, ht⟩
theorem heard_any (w : World) (h : FlAt w B g ga n F k) (ha : AllOpen F n) (c r : Int) (x : Nat) (hx : IdOk x) :
    Calls Try.prog 12 #[.pointer (some ⟨g, 0, none⟩), .int .i64 c, .agg (idC x), .int .i64 r] w fun e w' => ∃ z, e = .returned (.int .i64 z) ∧ KpP B g ga n k (some x) F w w' := by
  by_cases hr : -1 ≤ r ∧ r ≤ 1
  · by_cases hc : 0 ≤ c ∧ c < n
    · obtain ⟨i, rfl⟩ : ∃ i : Nat, c = i := ⟨c.toNat, by omega⟩
      have hi : i < n := by omega
      obtain ⟨d, hd, hm⟩ := ha i hi
      rcases (by omega : r = 1 ∨ r = 0 ∨ r = -1) with rfl | rfl | rfl
      · exact (heard_new w h i hi d hd x hx).mono fun e w' ⟨he, hf, hb, ht⟩ => ⟨0, he, _, hf.mono (by omega), Keeps.one hd rfl (fun y hq hs => by simp [cAdM, cDrS, hs, ne_q hq]), hb, ht⟩
      · exact (heard_same w h i hi d hd x hx).mono fun e w' ⟨he, hf, hb, ht⟩ => ⟨0, he, _, hf.mono (by omega), Keeps.one hd rfl (fun y hq hs => by simp [cDrS, hs, ne_q hq]), hb, ht⟩
      · exact (heard_old w h i hi d hd x hx).mono fun e w' ⟨he, hf, hb, ht⟩ => ⟨0, he, _, hf.mono (by omega), Keeps.one hd rfl (fun y hq hs => by simp [cDrM, cAdS, hs]), hb, ht⟩
    · exact (heard_bad w h c r x (.inr hc)).mono fun e w' ⟨he, hf, hb, ht⟩ => ⟨1, he, _, hf.mono (by omega), Keeps.refl _ _ _, hb, ht⟩
  · exact (heard_bad w h c r x (.inl hr)).mono fun e w' ⟨he, hf, hb, ht⟩ => ⟨1, he, _, hf.mono (by omega), Keeps.refl _ _ _, hb, ht⟩
theorem missing_any (w : World) (h : FlAt w B g ga n F k) (ha : AllOpen F n) (c : Int) (A : Option Addr) (m cc : Nat) (L : Nat → Nat) (hR : RdR w A m 8 (idA L)) (hL : ∀ j, j < m → IdOk (L j)) :
    Calls Try.prog 20 #[.pointer (some ⟨g, 0, none⟩), .int .i64 c, .slice A m cc] w fun e w' => ∃ z, e = .returned (.int .i64 z) ∧ KpP B g ga n k none F w w' := by
  by_cases hc : (0 ≤ c ∧ c < n) ∧ m ≤ 512
  · obtain ⟨i, rfl⟩ : ∃ i : Nat, c = i := ⟨c.toNat, by omega⟩
    have hi : i < n := by omega
    obtain ⟨d, hd, hm⟩ := ha i hi
    exact (missing_at w h i hi d hd A m cc L hR hL hc.2).mono fun e w' ⟨he, hf, hb, ht⟩ => ⟨0, he, _, hf.mono (by omega), Keeps.one hd rfl (fun y hq hs => by simp [hs]), hb, ht⟩
  · exact (missing_bad w h c A m cc (by omega)).mono fun e w' ⟨z, he, hf, hb, ht⟩ => ⟨z, he, _, hf.mono (by omega), Keeps.refl _ _ _, hb, ht⟩
theorem sums_any (w : World) (h : FlAt w B g ga n F k) (ha : AllOpen F n) (c : Int) (hk : k * 8 ≤ 140737488355328) :
    Calls Try.prog 17 #[.pointer (some ⟨g, 0, none⟩), .int .i64 c] w fun e w' => ∃ z, e = .returned z ∧ KpP B g ga n k none F w w' := by
  by_cases hc : 0 ≤ c ∧ c < n
  · obtain ⟨i, rfl⟩ : ∃ i : Nat, c = i := ⟨c.toNat, by omega⟩
    have hi : i < n := by omega
    obtain ⟨d, hd, hm⟩ := ha i hi
    exact (sums_at w h i hi d hd hk).mono fun e w' ⟨v, T, he, hl, hf, hb, ht⟩ => ⟨_, he, _, hf.mono (by omega), Keeps.one hd rfl (fun y hq hs => hs), hb, ht⟩
  · exact (sums_bad w h c hc).mono fun e w' ⟨he, hw⟩ => ⟨_, he, F, by rw [hw]; exact h.mono (by omega), Keeps.refl _ _ _, by rw [hw]; exact Below.refl _ _, by rw [hw]; exact KeptT.refl _⟩
end
/-- which ID a call speaks of -/
def opQ (o : OpR) : Option Nat := if o.kd = 2 ∨ o.kd = 3 ∨ o.kd = 6 then some o.id else none
set_option maxHeartbeats 40000000 in
set_option maxRecDepth 100000 in
theorem call2_any {B g ga n k : Nat} {F : Nat → Option Cir} (w : World) (h : FlAt w B g ga n F k) (ha : AllOpen F n) (o : OpR) (ho : OpOk w o) (hk : k * 8 ≤ 140737488355328) :
    Calls Try.prog 10 #[.pointer (some ⟨g, 0, none⟩), .agg (opC o)] w fun e w' => e = .returned (.tuple #[]) ∧ KpP B g ga n k (opQ o) F w w' := by
  have HF := Lib.hid h
  have hbs := Lib.hid (show B ≤ w.heap.size by have := h.hg; have := h.g.lt; omega)
  have HO := Lib.hid ho
  have HA := Lib.hid ha
  clear h ho ha
  go_enter Try.func10, Try.ntmps10
  obtain ⟨N1, hN1⟩ : ∃ N, w.heap.size = N := ⟨_, rfl⟩
  have HN1 := Lib.hid hN1
  clear hN1
  go_wp2_with (refine wpList_box (op := ⟨some 3, _, _, _, _, _⟩) rfl 37 (.tmp 1) rfl (opC o) rfl N1 HN1.out ?_; intro w1 k1 b1 s1; refine Hid.out ?_)
  refine Lib.hid ?_
  have HFn := Lib.hid (HF.out.below b1)
  have HOn := Lib.hid (HO.out.below b1)
  have HK := Lib.hid k1
  have HB := Lib.hid (b1.mono hbs.out)
  have HT := Lib.hid (KeptT.of_below b1)
  clear k1 b1 s1 HF HO HN1
  have HF := HFn
  have HO := HOn
  clear HFn HOn
  have c0 : w1.cell? ⟨N1, 0, none⟩ = some (.int .u8 o.kd) := (HK.out.cell 0).trans rfl
  have c1 : w1.cell? ⟨N1, 1, none⟩ = some (.int .i64 o.c) := (HK.out.cell 1).trans rfl
  have c2 : w1.cell? ⟨N1, 2, none⟩ = some (.int .i64 o.nn) := (HK.out.cell 2).trans rfl
  have c11 : w1.cell? ⟨N1, 11, none⟩ = some (.slice o.A o.m o.cc) := (HK.out.cell 11).trans rfl
  by_cases h2 : o.kd = 2
  · skip
    have hq := Lib.hid (show opQ o = some o.id from by unfold opQ; rw [if_pos (by omega)])
    rw [h2] at c0
    clear h2
    go_wp2_with (refine wpList_ld (op := ⟨some 12, _, _, _, _, _⟩) (by rfl) 28 (.tmp 11) rfl N1 3 rfl (idC o.id) _ HK.out.opid Try.underlying28 rfl info_id ?_; refine Hid.out ?_)
    refine Lib.hid ?_
    go_wp2_with fail
    refine (took_any w1 HF.out HA.out o.c o.nn o.id HO.out.id).mono ?_
    rintro e w9 ⟨z, rfl, F2, p1, p2, p3, p4⟩
    have HZ : Hid (KpP B g ga n k (opQ o) F w w9) := Lib.hid ⟨F2, p1, by rw [hq.out]; exact p2, HB.out.trans p3, HT.out.trans p4⟩
    clear p1 p2 p3 p4
    go_wp2_with fail
    go_end0
    exact ⟨rfl, HZ.out⟩
  by_cases h3 : o.kd = 3
  · skip
    have hq := Lib.hid (show opQ o = some o.id from by unfold opQ; rw [if_pos (by omega)])
    rw [h3] at c0
    clear h3
    go_wp2_with (refine wpList_ld (op := ⟨some 22, _, _, _, _, _⟩) (by rfl) 28 (.tmp 21) rfl N1 3 rfl (idC o.id) _ HK.out.opid Try.underlying28 rfl info_id ?_; refine Hid.out ?_)
    refine Lib.hid ?_
    go_wp2_with fail
    refine (heard_any w1 HF.out HA.out o.c o.nn o.id HO.out.id).mono ?_
    rintro e w9 ⟨z, rfl, F2, p1, p2, p3, p4⟩
    have HZ : Hid (KpP B g ga n k (opQ o) F w w9) := Lib.hid ⟨F2, p1, by rw [hq.out]; exact p2, HB.out.trans p3, HT.out.trans p4⟩
    clear p1 p2 p3 p4
    go_wp2_with fail
    go_end0
    exact ⟨rfl, HZ.out⟩
  by_cases h4 : o.kd = 4
  · skip
    have hq := Lib.hid (show opQ o = none from by unfold opQ; rw [if_neg (by omega)])
    rw [h4] at c0
    clear h4
    go_wp2_with fail
    refine wp_region_held_drew (S := fun w' => Blk 37 w' N1 (opC o)) (by kernel_rfl) HK.out (fun hS => ?_)
    have HFd := Lib.hid HF.out.drew
    have HOd := Lib.hid (HO.out.below (Below.refl _ _).drew)
    have HBd := Lib.hid HB.out.drew
    have HTd : Hid (KeptT w w1.drew) := Lib.hid HT.out
    clear HF HO HB HT HK c0 c1 c2 c11
    generalize hW : w1.drew = W at hS HFd HOd HBd HTd ⊢
    clear hW
    refine takeY (i := 0) (some 28) (v := .pointer (some ⟨g, 0, none⟩)) rfl rfl (by kernel_rfl) (by kernel_rfl) (by kernel_rfl) (fun _ _ _ h => h) (by rfl) (fun w' hS => by clear hS; go_simp) hS ?_
    simp only [Act.put, List.setIfInBounds_toArray, List.set_cons_zero, List.set_cons_succ]
    refine takeY (i := 1) (some 29) (v := .pointer (some ⟨N1, 1, none⟩)) rfl rfl (by kernel_rfl) (by kernel_rfl) (by kernel_rfl) (fun _ _ _ h => h) (by rfl) (fun w' hS => by clear hS; go_simp) hS ?_
    simp only [Act.put, List.setIfInBounds_toArray, List.set_cons_zero, List.set_cons_succ]
    refine takeY (i := 2) (some 30) (v := .int .i64 o.c) rfl rfl (by kernel_rfl) (by kernel_rfl) (by kernel_rfl) (fun _ _ _ h => h) (by rfl) (fun w' hS => by (have c9 : w'.cell? ⟨N1, 1, none⟩ = some (.int .i64 o.c) := (hS.cell 1).trans rfl; clear hS; go_simp)) hS ?_
    simp only [Act.put, List.setIfInBounds_toArray, List.set_cons_zero, List.set_cons_succ]
    refine takeY (i := 3) (some 31) (v := .pointer (some ⟨N1, 11, none⟩)) rfl rfl (by kernel_rfl) (by kernel_rfl) (by kernel_rfl) (fun _ _ _ h => h) (by rfl) (fun w' hS => by clear hS; go_simp) hS ?_
    simp only [Act.put, List.setIfInBounds_toArray, List.set_cons_zero, List.set_cons_succ]
    refine takeY (i := 4) (some 32) (v := .slice o.A o.m o.cc) rfl rfl (by kernel_rfl) (by kernel_rfl) (by kernel_rfl) (fun _ _ _ h => h) (by rfl) (fun w' hS => by (have c9 : w'.cell? ⟨N1, 11, none⟩ = some (.slice o.A o.m o.cc) := (hS.cell 11).trans rfl; clear hS; go_simp)) hS ?_
    simp only [Act.put, List.setIfInBounds_toArray, List.set_cons_zero, List.set_cons_succ]
    refine takeY (i := 6) (some 34) (v := .pointer (some ⟨N1, 11, none⟩)) rfl rfl (by kernel_rfl) (by kernel_rfl) (by kernel_rfl) (fun _ _ _ h => h) (by rfl) (fun w' hS => by clear hS; go_simp) hS ?_
    simp only [Act.put, List.setIfInBounds_toArray, List.set_cons_zero, List.set_cons_succ]
    refine takeY (i := 7) (some 35) (v := .slice o.A o.m o.cc) rfl rfl (by kernel_rfl) (by kernel_rfl) (by kernel_rfl) (fun _ _ _ h => h) (by rfl) (fun w' hS => by (have c9 : w'.cell? ⟨N1, 11, none⟩ = some (.slice o.A o.m o.cc) := (hS.cell 11).trans rfl; clear hS; go_simp)) hS ?_
    simp only [Act.put, List.setIfInBounds_toArray, List.set_cons_zero, List.set_cons_succ]
    refine takeY (i := 8) (some 36) (v := .int .i64 (o.m : Int)) rfl rfl (by kernel_rfl) (by kernel_rfl) (by kernel_rfl) (fun _ _ _ h => h) (by rfl) (fun w' hS => by clear hS; go_simp) hS ?_
    simp only [Act.put, List.setIfInBounds_toArray, List.set_cons_zero, List.set_cons_succ]
    refine takeCE (i := 5) (some 33) 15 #[.slice o.A o.m o.cc] (R := fun v w' => OwnR w' W.heap.size 28 8 v (o.m + 1) (spL o.L o.m) ∧ Below W.heap.size W w') rfl rfl (by kernel_rfl) (by rfl) (by go_simp) ((spare_any o.A o.m o.cc o.L W HOd.out.rd HOd.out.nl (by have := HOd.out.sz; have := HOd.out.le; omega)).mono (fun e w' h => h)) (fun v w' h => hS.below h.2 hS.lt) (fun v w2 h hS2 => ?_)
    simp only [Act.put, List.setIfInBounds_toArray, List.set_cons_zero, List.set_cons_succ]
    obtain ⟨A2, c2, rfl, q1, q2, q3, q4⟩ := h.1.slice (recs_sp _ _)
    have HFn := Lib.hid (HFd.out.below h.2)
    have HBn := Lib.hid (HBd.out.trans (h.2.mono (by have := HBd.out.size; have := hbs.out; omega)))
    have HTn := Lib.hid (HTd.out.trans (KeptT.of_below h.2))
    have HOk := Lib.hid HOd.out.ok
    have hq4 : RdR w2 A2 o.m 8 (idA o.L) := (q4.cut o.m (by omega)).congr (fun j hj => by unfold spL; rw [if_pos hj]; rfl)
    obtain ⟨b2, o2, rfl, _⟩ := q4.row (by omega)
    have hm2 : o.m ≤ c2 := by omega
    clear h hS HFd HBd HTd HOd q1 q2 q3 q4
    have hS := hS2
    clear hS2
    refine takeY (i := 9) (some 37) (v := .slice (some ⟨b2, o2, none⟩) o.m c2) rfl rfl (by kernel_rfl) (by kernel_rfl) (by kernel_rfl) (fun _ _ _ h => h) (by rfl) (fun w' hS => by (have h0 : (0 : Int) ≤ (o.m : Int) := (by omega); have h1 : (o.m : Int) ≤ (c2 : Int) := (by omega); clear hS; go_simp)) hS ?_
    simp only [Act.put, List.setIfInBounds_toArray, List.set_cons_zero, List.set_cons_succ]
    refine takeCE (i := 10) (some 38) 20 #[.pointer (some ⟨g, 0, none⟩), .int .i64 o.c, .slice (some ⟨b2, o2, none⟩) o.m c2] (R := fun v w' => KpP B g ga n k none F w2 w') rfl rfl (by kernel_rfl) (by rfl) (by go_simp) ((missing_any w2 HFn.out HA.out o.c _ o.m c2 o.L hq4 HOk.out).mono (fun e w' h => by obtain ⟨z, he, hz⟩ := h; exact ⟨_, he, hz⟩)) (fun v w' h => by obtain ⟨F2, p1, p2, p3, p4⟩ := h; exact hS.kept p4 (by decide)) (fun v w9 h hS2 => ?_)
    simp only [Act.put, List.setIfInBounds_toArray, List.set_cons_zero, List.set_cons_succ]
    obtain ⟨F2, p1, p2, p3, p4⟩ := h
    have HZ : Hid (KpP B g ga n k (opQ o) F w w9) := Lib.hid ⟨F2, p1, by rw [hq.out]; exact p2, HBn.out.trans p3, HTn.out.trans p4⟩
    clear p1 p2 p3 p4 hS hS2 hq4
    refine wpAnyH_done (by kernel_rfl) ?_ _
    go_wp2_with fail
    go_end0
    exact ⟨rfl, HZ.out⟩
  by_cases h5 : o.kd = 5
  · skip
    have hq := Lib.hid (show opQ o = none from by unfold opQ; rw [if_neg (by omega)])
    rw [h5] at c0
    clear h5
    go_wp2_with fail
    refine (sums_any w1 HF.out HA.out o.c hk).mono ?_
    rintro e w9 ⟨z, rfl, F2, p1, p2, p3, p4⟩
    have HZ : Hid (KpP B g ga n k (opQ o) F w w9) := Lib.hid ⟨F2, p1, by rw [hq.out]; exact p2, HB.out.trans p3, HT.out.trans p4⟩
    clear p1 p2 p3 p4
    go_wp2_with fail
    go_end0
    exact ⟨rfl, HZ.out⟩
  by_cases h6 : o.kd = 6
  · skip
    have hq := Lib.hid (show opQ o = some o.id from by unfold opQ; rw [if_pos (by omega)])
    rw [h6] at c0
    clear h6
    go_wp2_with (refine wpList_ld (op := ⟨some 49, _, _, _, _, _⟩) (by rfl) 28 (.tmp 48) rfl N1 3 rfl (idC o.id) _ HK.out.opid Try.underlying28 rfl info_id ?_; refine Hid.out ?_)
    refine Lib.hid ?_
    go_wp2_with fail
    refine (forget_any w1 HF.out o.id HO.out.id).mono ?_
    rintro e w9 ⟨rfl, p1, p3, p4⟩
    have HZ : Hid (KpP B g ga n k (opQ o) F w w9) := Lib.hid ⟨_, p1.mono (by omega), by rw [hq.out]; exact fgt_keeps F o.id n, HB.out.trans p3, HT.out.trans p4⟩
    clear p1 p3 p4
    go_wp2_with fail
    go_end0
    exact ⟨rfl, HZ.out⟩
  have HZ : Hid (KpP B g ga n k (opQ o) F w w1) := Lib.hid ⟨F, HF.out.mono (by omega), Keeps.refl _ _ _, HB.out, HT.out⟩
  go_wp2_with fail
  go_end0
  exact ⟨rfl, HZ.out⟩
end Go.Proofs.Yteamnibgeobcbaa
