/- A flood in memory: its circuits, each with two sets; which circuit there is; which is open; what mesh groups hold back. Each theorem states its conditions. -/
import Derived.Test.YteamnibgeobcbaaJOp
namespace Go.Proofs.Yteamnibgeobcbaa
open Go.RowKit
set_option linter.unusedVariables false

structure Cir where
  mesh : Int
  cb : Nat
  sb : Nat
  mb : Nat
  send : Nat → Bool
  sum : Nat → Bool
def ptrC : Option Cir → Value
  | none => .pointer none
  | some c => .pointer (some ⟨c.cb, 0, none⟩)
def arC (F : Nat → Option Cir) (n : Nat) : Array Value := ((List.range n).map fun i => ptrC (F i)).toArray
theorem arC_size (F : Nat → Option Cir) (n : Nat) : (arC F n).size = n := by simp [arC]
theorem arC_at (F : Nat → Option Cir) {n i : Nat} (hi : i < n) : (arC F n)[i]? = some (ptrC (F i)) := by simp [arC, hi]
theorem arC_congr {F G : Nat → Option Cir} {n : Nat} (h : ∀ i, i < n → ptrC (F i) = ptrC (G i)) : arC F n = arC G n := by
  unfold arC
  rw [List.map_congr_left (fun i hi => h i (List.mem_range.1 hi))]
def cirC (c : Cir) : Array Value := #[.int .i64 c.mesh, .map (some c.sb), .map (some c.mb)]
structure CirAt (w : World) (B k : Nat) (c : Cir) : Prop where
  hc : B ≤ c.cb
  hs : B ≤ c.sb
  hm : B ≤ c.mb
  ne : c.sb ≠ c.mb
  blk : Blk 65 w c.cb (cirC c)
  send : SetAt w c.sb c.send k
  sum : SetAt w c.mb c.sum k
def Far (c d : Cir) : Prop := c.cb ≠ d.cb ∧ c.sb ≠ d.sb ∧ c.sb ≠ d.mb ∧ c.mb ≠ d.sb ∧ c.mb ≠ d.mb
structure FlAt (w : World) (B g ga n : Nat) (F : Nat → Option Cir) (k : Nat) : Prop where
  hg : B ≤ g
  ha : B ≤ ga
  hn : n ≤ 8
  g : Blk 58 w g #[.slice (some ⟨ga, 0, none⟩) n n]
  a : Blk 60 w ga (arC F n)
  cir : ∀ i c, i < n → F i = some c → CirAt w B k c
  far : ∀ i j c d, i < n → j < n → i ≠ j → F i = some c → F j = some d → Far c d
section
variable {w w' : World} {B g ga n k : Nat} {F : Nat → Option Cir} {c : Cir}
theorem CirAt.below (h : CirAt w B k c) (hb : Below w.heap.size w w') : CirAt w' B k c :=
  ⟨h.hc, h.hs, h.hm, h.ne, h.blk.below hb h.blk.lt, h.send.below hb h.send.lt, h.sum.below hb h.sum.lt⟩
theorem CirAt.mono (h : CirAt w B k c) {k' : Nat} (hk : k ≤ k') : CirAt w B k' c := ⟨h.hc, h.hs, h.hm, h.ne, h.blk, h.send.mono hk, h.sum.mono hk⟩
theorem FlAt.below (h : FlAt w B g ga n F k) (hb : Below w.heap.size w w') : FlAt w' B g ga n F k :=
  ⟨h.hg, h.ha, h.hn, h.g.below hb h.g.lt, h.a.below hb h.a.lt, fun i c hi e => (h.cir i c hi e).below hb, h.far⟩
theorem FlAt.drew (h : FlAt w B g ga n F k) : FlAt w.drew B g ga n F k := h.below (Below.refl _ w).drew
theorem FlAt.mono (h : FlAt w B g ga n F k) {k' : Nat} (hk : k ≤ k') : FlAt w B g ga n F k' := ⟨h.hg, h.ha, h.hn, h.g, h.a, fun i c hi e => (h.cir i c hi e).mono hk, h.far⟩
theorem FlAt.congr (h : FlAt w B g ga n F k) {G : Nat → Option Cir} (e : ∀ i, i < n → F i = G i) : FlAt w B g ga n G k :=
  ⟨h.hg, h.ha, h.hn, h.g, by rw [← arC_congr (F := F) (G := G) (fun i hi => by rw [e i hi])]; exact h.a, fun i c hi x => h.cir i c hi ((e i hi).trans x), fun i j c d hi hj hne x y => h.far i j c d hi hj hne ((e i hi).trans x) ((e j hj).trans y)⟩
/-- circuit i has another set to send -/
def updF (F : Nat → Option Cir) (i : Nat) (c : Option Cir) : Nat → Option Cir := fun j => if j = i then c else F j
theorem updF_same (F : Nat → Option Cir) (i : Nat) (c : Option Cir) : updF F i c i = c := by simp [updF]
theorem updF_other (F : Nat → Option Cir) {i j : Nat} (c : Option Cir) (h : j ≠ i) : updF F i c j = F j := by simp [updF, h]
theorem FlAt.turn (h : FlAt w B g ga n F k) {i : Nat} (hi : i < n) (hF : F i = some c) {S' T' : Nat → Bool} {k' b : Nat} (hb : b = c.sb ∨ b = c.mb) (hs : SetAt w' c.sb S' k') (hm : SetAt w' c.mb T' k') (hk : k ≤ k') (hg : w.grownBy w' (some b)) :
    FlAt w' B g ga n (updF F i (some { c with send := S', sum := T' })) k' := by
  have hc := h.cir i c hi hF
  have hkp : KeptT w w' := by
    rcases hb with rfl | rfl
    · exact hc.send.kept hg
    · exact hc.sum.kept hg
  have hbm : ∃ es cl, w.heap[b]? = some (.map es cl) := by
    rcases hb with rfl | rfl
    · obtain ⟨es, cl, h0, _⟩ := hc.send; exact ⟨es, cl, h0⟩
    · obtain ⟨es, cl, h0, _⟩ := hc.sum; exact ⟨es, cl, h0⟩
  obtain ⟨es, cl, hbm⟩ := hbm
  refine ⟨h.hg, h.ha, h.hn, h.g.kept hkp (by decide), ?_, fun j d hj e => ?_, fun j l d e hj hl hne x y => ?_⟩
  · have h1 : Blk 60 w' ga (arC F n) := (hg.block ga h.a.lt (fun e => by cases e; have h9 : w.heap[ga]? = _ := h.a; rw [hbm] at h9; cases h9)).trans h.a
    rw [arC_congr (G := updF F i (some { c with send := S', sum := T' })) (fun j hj => by
      by_cases e : j = i
      · subst e; rw [updF_same, hF]; rfl
      · rw [updF_other F _ e])] at h1
    exact h1
  · by_cases e1 : j = i
    · subst e1
      rw [updF_same] at e
      cases e
      exact ⟨hc.hc, hc.hs, hc.hm, hc.ne, hc.blk.kept hkp (by decide), hs, hm⟩
    · rw [updF_other F _ e1] at e
      have hd := h.cir j d hj e
      have hf := h.far i j c d hi hj (fun e => e1 e.symm) hF e
      refine ⟨hd.hc, hd.hs, hd.hm, hd.ne, hd.blk.kept hkp (by decide), (hd.send.other hg ?_).mono hk, (hd.sum.other hg ?_).mono hk⟩
      · rcases hb with rfl | rfl
        · exact fun e => hf.2.1 e.symm
        · exact fun e => hf.2.2.2.1 e.symm
      · rcases hb with rfl | rfl
        · exact fun e => hf.2.2.1 e.symm
        · exact fun e => hf.2.2.2.2 e.symm
  · have key : ∀ j d, updF F i (some { c with send := S', sum := T' }) j = some d → ∃ d0, F j = some d0 ∧ d0.cb = d.cb ∧ d0.sb = d.sb ∧ d0.mb = d.mb := by
      intro j d e
      by_cases e1 : j = i
      · subst e1
        rw [updF_same] at e
        cases e
        exact ⟨c, hF, rfl, rfl, rfl⟩
      · rw [updF_other F _ e1] at e
        exact ⟨d, e, rfl, rfl, rfl⟩
    obtain ⟨d0, a1, a2, a3, a4⟩ := key j d x
    obtain ⟨e0, b1, b2, b3, b4⟩ := key l e y
    have := h.far j l d0 e0 hj hl hne a1 b1
    unfold Far at this ⊢
    rw [← a2, ← a3, ← a4, ← b2, ← b3, ← b4]
    exact this
end
theorem isNoRel_any (r : Int) (w : World) : Calls Try.prog 22 #[.int .i64 r] w fun e w' => e = .returned (.bool (decide (r < -1) || decide (1 < r))) ∧ w' = w := by
  go_enter Try.func22, Try.ntmps22
  by_cases h : r < -1
  · go_wp2_with fail
    go_ret
    exact ⟨by simp [h], rfl⟩
  · go_wp2_with fail
    go_ret
    exact ⟨by rw [decide_eq_false (show ¬ r < -1 by omega), Bool.false_or]; rfl, rfl⟩
section
variable {w : World} {B g ga n k : Nat} {F : Nat → Option Cir}
/-- there is no circuit x -/
theorem lacks_any (h : FlAt w B g ga n F k) (x : Int) : Calls Try.prog 18 #[.pointer (some ⟨g, 0, none⟩), .int .i64 x] w fun e w' => e = .returned (.bool (decide (x < 0) || decide ((n : Int) ≤ x))) ∧ w' = w := by
  have c0 : w.cell? ⟨g, 0, none⟩ = some (.slice (some ⟨ga, 0, none⟩) n n) := (h.g.cell 0).trans rfl
  clear h
  go_enter Try.func18, Try.ntmps18
  by_cases hx : x < 0
  · go_wp2_with fail
    go_ret
    exact ⟨by simp [hx], rfl⟩
  · go_wp2_with fail
    go_ret
    exact ⟨by rw [decide_eq_false (show ¬ x < 0 by omega), Bool.false_or]; rfl, rfl⟩
/-- what find answers -/
def findV (F : Nat → Option Cir) (n : Nat) (x : Int) : Value :=
  if 0 ≤ x ∧ x < n then (match F x.toNat with | none => .tuple #[.pointer none, .int .i64 11] | some c => .tuple #[.pointer (some ⟨c.cb, 0, none⟩), .int .i64 0]) else .tuple #[.pointer none, .int .i64 1]
theorem find_bad (h : FlAt w B g ga n F k) (x : Int) (hx : ¬ (0 ≤ x ∧ x < n)) : Calls Try.prog 24 #[.pointer (some ⟨g, 0, none⟩), .int .i64 x] w fun e w' => e = .returned (.tuple #[.pointer none, .int .i64 1]) ∧ w' = w := by
  have hl := lacks_any h x
  have hb : (decide (x < 0) || decide ((n : Int) ≤ x)) = true := by simp; omega
  rw [hb] at hl
  clear h hx hb
  go_enter Try.func24, Try.ntmps24
  go_wp2_with (go_at_call 18; refine hl.mono ?_; rintro e w' ⟨rfl, rfl⟩)
  refine bodyPost_ret (v := .tuple #[.pointer none, .int .i64 1]) (by simp [results, Try.f24, go_sem]) rfl ?_
  exact ⟨rfl, rfl⟩
theorem find_at (h : FlAt w B g ga n F k) (i : Nat) (hi : i < n) : Calls Try.prog 24 #[.pointer (some ⟨g, 0, none⟩), .int .i64 (i : Int)] w fun e w' =>
    (e = match F i with | none => .returned (.tuple #[.pointer none, .int .i64 11]) | some c => .returned (.tuple #[.pointer (some ⟨c.cb, 0, none⟩), .int .i64 0])) ∧ w' = w := by
  have hl := lacks_any h i
  have hb : (decide ((i : Int) < 0) || decide ((n : Int) ≤ i)) = false := by simp; omega
  rw [hb] at hl
  have c0 : w.cell? ⟨g, 0, none⟩ = some (.slice (some ⟨ga, 0, none⟩) n n) := (h.g.cell 0).trans rfl
  have c1 : w.cell? ⟨ga, i, none⟩ = some (ptrC (F i)) := (h.a.cell i).trans (arC_at F hi)
  have hin : (i : Int) < (n : Int) := by omega
  clear h hi hb
  go_enter Try.func24, Try.ntmps24
  cases hF : F i with
  | none =>
    rw [hF] at c1
    simp only [ptrC] at c1
    clear hF
    go_wp2_with (first | (go_at_call 18; refine hl.mono ?_; rintro e w' ⟨rfl, rfl⟩) | go_in)
    refine bodyPost_ret (v := .tuple #[.pointer none, .int .i64 11]) (by simp [results, Try.f24, go_sem]) rfl ?_
    exact ⟨rfl, rfl⟩
  | some c =>
    rw [hF] at c1
    simp only [ptrC] at c1
    clear hF
    go_wp2_with (first | (go_at_call 18; refine hl.mono ?_; rintro e w' ⟨rfl, rfl⟩) | go_in)
    refine bodyPost_ret (v := .tuple #[.pointer (some ⟨c.cb, 0, none⟩), .int .i64 0]) (by simp [results, Try.f24, go_sem]) rfl ?_
    exact ⟨rfl, rfl⟩
end
def sparesB (m : Int) (f : Option Int) : Bool := m == -1 || (match f with | none => false | some x => decide (0 < m) && m == x)
theorem spares_none (w : World) (c : Cir) (hc : Blk 65 w c.cb (cirC c)) : Calls Try.prog 29 #[.pointer (some ⟨c.cb, 0, none⟩), .pointer none] w fun e w' => e = .returned (.bool (sparesB c.mesh none)) ∧ Below w.heap.size w w' := by
  have c0 : w.cell? ⟨c.cb, 0, none⟩ = some (.int .i64 c.mesh) := (hc.cell 0).trans rfl
  clear hc
  obtain ⟨m, hm⟩ : ∃ m, c.mesh = m := ⟨_, rfl⟩
  rw [hm] at c0 ⊢
  clear hm
  go_enter Try.func29, Try.ntmps29
  by_cases h : m = -1
  · subst h
    go_wp2_with fail
    go_region
    go_wp2_with fail
    go_ret
    exact ⟨rfl, (Below.refl _ _).drew⟩
  · have g1 : (m == -1) = false := by simp [h]
    go_wp2_with fail
    go_region
    go_wp2_with fail
    go_ret
    exact ⟨by simp [sparesB, g1], (Below.refl _ _).drew⟩
set_option maxHeartbeats 8000000 in
set_option maxRecDepth 100000 in
theorem spares_some (w : World) (c d : Cir) (hc : Blk 65 w c.cb (cirC c)) (hd : Blk 65 w d.cb (cirC d)) : Calls Try.prog 29 #[.pointer (some ⟨c.cb, 0, none⟩), .pointer (some ⟨d.cb, 0, none⟩)] w fun e w' => e = .returned (.bool (sparesB c.mesh (some d.mesh))) ∧ Below w.heap.size w w' := by
  have c0 : w.cell? ⟨c.cb, 0, none⟩ = some (.int .i64 c.mesh) := (hc.cell 0).trans rfl
  have d0 : w.cell? ⟨d.cb, 0, none⟩ = some (.int .i64 d.mesh) := (hd.cell 0).trans rfl
  clear hc hd
  obtain ⟨m, hm⟩ : ∃ m, c.mesh = m := ⟨_, rfl⟩
  obtain ⟨m', hm'⟩ : ∃ m, d.mesh = m := ⟨_, rfl⟩
  obtain ⟨cb, hcb⟩ : ∃ m, c.cb = m := ⟨_, rfl⟩
  obtain ⟨db, hdb⟩ : ∃ m, d.cb = m := ⟨_, rfl⟩
  rw [hm, hcb] at c0
  rw [hm', hdb] at d0
  rw [hm, hm', hcb, hdb]
  clear hm hm' hcb hdb
  go_enter Try.func29, Try.ntmps29
  by_cases h : m = -1
  · subst h
    go_wp2_with fail
    go_region
    go_wp2_with fail
    go_ret
    exact ⟨rfl, (Below.refl _ _).drew⟩
  · have g1 : (m == -1) = false := by simp [h]
    have HN := Lib.hid h
    clear h
    by_cases h2 : 0 < m
    · go_wp2_with fail
      refine wp_region_held_drew (S := fun w' => w'.cell? ⟨cb, 0, none⟩ = some (.int .i64 m) ∧ w'.cell? ⟨db, 0, none⟩ = some (.int .i64 m')) (by kernel_rfl) ⟨c0, d0⟩ (fun hS => ?_)
      refine takeY (i := 0) (some 5) (v := .pointer (some ⟨cb, 0, none⟩)) rfl rfl (by kernel_rfl) (by kernel_rfl) (by kernel_rfl) (fun _ _ _ h => h) (by rfl) (fun w' hS => by clear hS; go_simp) hS ?_
      simp only [Act.put, List.setIfInBounds_toArray, List.set_cons_zero, List.set_cons_succ]
      refine takeY (i := 1) (some 6) (v := .pointer (some ⟨cb, 0, none⟩)) rfl rfl (by kernel_rfl) (by kernel_rfl) (by kernel_rfl) (fun _ _ _ h => h) (by rfl) (fun w' hS => by clear hS; go_simp) hS ?_
      simp only [Act.put, List.setIfInBounds_toArray, List.set_cons_zero, List.set_cons_succ]
      refine takeY (i := 2) (some 7) (v := .pointer (some ⟨cb, 0, none⟩)) rfl rfl (by kernel_rfl) (by kernel_rfl) (by kernel_rfl) (fun _ _ _ h => h) (by rfl) (fun w' hS => by clear hS; go_simp) hS ?_
      simp only [Act.put, List.setIfInBounds_toArray, List.set_cons_zero, List.set_cons_succ]
      refine takeY (i := 3) (some 8) (v := .int .i64 m) rfl rfl (by kernel_rfl) (by kernel_rfl) (by kernel_rfl) (fun _ _ _ h => h) (by rfl) (fun w' hS => by obtain ⟨c9, d9⟩ := hS; go_simp) hS ?_
      simp only [Act.put, List.setIfInBounds_toArray, List.set_cons_zero, List.set_cons_succ]
      refine takeY (i := 4) (some 9) (v := .bool false) rfl rfl (by kernel_rfl) (by kernel_rfl) (by kernel_rfl) (fun _ _ _ h => h) (by rfl) (fun w' hS => by clear hS; go_simp) hS ?_
      simp only [Act.put, List.setIfInBounds_toArray, List.set_cons_zero, List.set_cons_succ]
      refine takeY (i := 5) (some 10) (v := .bool false) rfl rfl (by kernel_rfl) (by kernel_rfl) (by kernel_rfl) (fun _ _ _ h => h) (by rfl) (fun w' hS => by clear hS; go_simp) hS ?_
      simp only [Act.put, List.setIfInBounds_toArray, List.set_cons_zero, List.set_cons_succ]
      refine takeY (i := 6) (some 11) (v := .pointer (some ⟨db, 0, none⟩)) rfl rfl (by kernel_rfl) (by kernel_rfl) (by kernel_rfl) (fun _ _ _ h => h) (by rfl) (fun w' hS => by clear hS; go_simp) hS ?_
      simp only [Act.put, List.setIfInBounds_toArray, List.set_cons_zero, List.set_cons_succ]
      refine takeY (i := 7) (some 12) (v := .bool true) rfl rfl (by kernel_rfl) (by kernel_rfl) (by kernel_rfl) (fun _ _ _ h => h) (by rfl) (fun w' hS => by clear hS; go_simp) hS ?_
      simp only [Act.put, List.setIfInBounds_toArray, List.set_cons_zero, List.set_cons_succ]
      refine takeY (i := 8) (some 13) (v := .bool true) rfl rfl (by kernel_rfl) (by kernel_rfl) (by kernel_rfl) (fun _ _ _ h => h) (by rfl) (fun w' hS => by clear hS; go_simp) hS ?_
      simp only [Act.put, List.setIfInBounds_toArray, List.set_cons_zero, List.set_cons_succ]
      refine takeY (i := 9) (some 14) (v := .pointer (some ⟨cb, 0, none⟩)) rfl rfl (by kernel_rfl) (by kernel_rfl) (by kernel_rfl) (fun _ _ _ h => h) (by rfl) (fun w' hS => by clear hS; go_simp) hS ?_
      simp only [Act.put, List.setIfInBounds_toArray, List.set_cons_zero, List.set_cons_succ]
      refine takeY (i := 10) (some 15) (v := .pointer (some ⟨cb, 0, none⟩)) rfl rfl (by kernel_rfl) (by kernel_rfl) (by kernel_rfl) (fun _ _ _ h => h) (by rfl) (fun w' hS => by clear hS; go_simp) hS ?_
      simp only [Act.put, List.setIfInBounds_toArray, List.set_cons_zero, List.set_cons_succ]
      refine takeY (i := 11) (some 16) (v := .pointer (some ⟨cb, 0, none⟩)) rfl rfl (by kernel_rfl) (by kernel_rfl) (by kernel_rfl) (fun _ _ _ h => h) (by rfl) (fun w' hS => by clear hS; go_simp) hS ?_
      simp only [Act.put, List.setIfInBounds_toArray, List.set_cons_zero, List.set_cons_succ]
      refine takeY (i := 12) (some 17) (v := .int .i64 m) rfl rfl (by kernel_rfl) (by kernel_rfl) (by kernel_rfl) (fun _ _ _ h => h) (by rfl) (fun w' hS => by obtain ⟨c9, d9⟩ := hS; go_simp) hS ?_
      simp only [Act.put, List.setIfInBounds_toArray, List.set_cons_zero, List.set_cons_succ]
      refine takeY (i := 13) (some 18) (v := .bool true) rfl rfl (by kernel_rfl) (by kernel_rfl) (by kernel_rfl) (fun _ _ _ h => h) (by rfl) (fun w' hS => by clear hS; go_simp) hS ?_
      simp only [Act.put, List.setIfInBounds_toArray, List.set_cons_zero, List.set_cons_succ]
      refine takeY (i := 14) (some 19) (v := .bool true) rfl rfl (by kernel_rfl) (by kernel_rfl) (by kernel_rfl) (fun _ _ _ h => h) (by rfl) (fun w' hS => by clear hS; go_simp) hS ?_
      simp only [Act.put, List.setIfInBounds_toArray, List.set_cons_zero, List.set_cons_succ]
      refine takeY (i := 15) (some 20) (v := .bool true) rfl rfl (by kernel_rfl) (by kernel_rfl) (by kernel_rfl) (fun _ _ _ h => h) (by rfl) (fun w' hS => by clear hS; go_simp) hS ?_
      simp only [Act.put, List.setIfInBounds_toArray, List.set_cons_zero, List.set_cons_succ]
      refine takeY (i := 16) (some 21) (v := .pointer (some ⟨cb, 0, none⟩)) rfl rfl (by kernel_rfl) (by kernel_rfl) (by kernel_rfl) (fun _ _ _ h => h) (by rfl) (fun w' hS => by clear hS; go_simp) hS ?_
      simp only [Act.put, List.setIfInBounds_toArray, List.set_cons_zero, List.set_cons_succ]
      refine takeY (i := 17) (some 22) (v := .pointer (some ⟨cb, 0, none⟩)) rfl rfl (by kernel_rfl) (by kernel_rfl) (by kernel_rfl) (fun _ _ _ h => h) (by rfl) (fun w' hS => by clear hS; go_simp) hS ?_
      simp only [Act.put, List.setIfInBounds_toArray, List.set_cons_zero, List.set_cons_succ]
      refine takeY (i := 18) (some 23) (v := .pointer (some ⟨cb, 0, none⟩)) rfl rfl (by kernel_rfl) (by kernel_rfl) (by kernel_rfl) (fun _ _ _ h => h) (by rfl) (fun w' hS => by clear hS; go_simp) hS ?_
      simp only [Act.put, List.setIfInBounds_toArray, List.set_cons_zero, List.set_cons_succ]
      refine takeY (i := 19) (some 24) (v := .int .i64 m) rfl rfl (by kernel_rfl) (by kernel_rfl) (by kernel_rfl) (fun _ _ _ h => h) (by rfl) (fun w' hS => by obtain ⟨c9, d9⟩ := hS; go_simp) hS ?_
      simp only [Act.put, List.setIfInBounds_toArray, List.set_cons_zero, List.set_cons_succ]
      refine takeY (i := 20) (some 25) (v := .pointer (some ⟨db, 0, none⟩)) rfl rfl (by kernel_rfl) (by kernel_rfl) (by kernel_rfl) (fun _ _ _ h => h) (by rfl) (fun w' hS => by clear hS; go_simp) hS ?_
      simp only [Act.put, List.setIfInBounds_toArray, List.set_cons_zero, List.set_cons_succ]
      refine takeY (i := 21) (some 26) (v := .pointer (some ⟨db, 0, none⟩)) rfl rfl (by kernel_rfl) (by kernel_rfl) (by kernel_rfl) (fun _ _ _ h => h) (by rfl) (fun w' hS => by clear hS; go_simp) hS ?_
      simp only [Act.put, List.setIfInBounds_toArray, List.set_cons_zero, List.set_cons_succ]
      refine takeY (i := 22) (some 27) (v := .pointer (some ⟨db, 0, none⟩)) rfl rfl (by kernel_rfl) (by kernel_rfl) (by kernel_rfl) (fun _ _ _ h => h) (by rfl) (fun w' hS => by clear hS; go_simp) hS ?_
      simp only [Act.put, List.setIfInBounds_toArray, List.set_cons_zero, List.set_cons_succ]
      refine takeY (i := 23) (some 28) (v := .int .i64 m') rfl rfl (by kernel_rfl) (by kernel_rfl) (by kernel_rfl) (fun _ _ _ h => h) (by rfl) (fun w' hS => by obtain ⟨c9, d9⟩ := hS; go_simp) hS ?_
      simp only [Act.put, List.setIfInBounds_toArray, List.set_cons_zero, List.set_cons_succ]
      refine takeY (i := 24) (some 29) (v := .bool (m == m')) rfl rfl (by kernel_rfl) (by kernel_rfl) (by kernel_rfl) (fun _ _ _ h => h) (by rfl) (fun w' hS => by clear hS; go_simp) hS ?_
      simp only [Act.put, List.setIfInBounds_toArray, List.set_cons_zero, List.set_cons_succ]
      refine takeY (i := 25) (some 30) (v := .bool (m == m')) rfl rfl (by kernel_rfl) (by kernel_rfl) (by kernel_rfl) (fun _ _ _ h => h) (by rfl) (fun w' hS => by clear hS; go_simp) hS ?_
      simp only [Act.put, List.setIfInBounds_toArray, List.set_cons_zero, List.set_cons_succ]
      refine takeY (i := 26) (some 31) (v := .bool (m == m')) rfl rfl (by kernel_rfl) (by kernel_rfl) (by kernel_rfl) (fun _ _ _ h => h) (by rfl) (fun w' hS => by clear hS; go_simp) hS ?_
      simp only [Act.put, List.setIfInBounds_toArray, List.set_cons_zero, List.set_cons_succ]
      refine takeY (i := 27) (some 4) (v := .bool (m == m')) rfl rfl (by kernel_rfl) (by kernel_rfl) (by kernel_rfl) (fun _ _ _ h => h) (by rfl) (fun w' hS => by clear hS; go_simp) hS ?_
      simp only [Act.put, List.setIfInBounds_toArray, List.set_cons_zero, List.set_cons_succ]
      clear hS
      refine wpAnyH_done (by kernel_rfl) ?_ _
      go_wp2_with fail
      go_ret
      exact ⟨by simp [sparesB, g1, h2], (Below.refl _ _).drew⟩
    · go_wp2_with fail
      refine wp_region_held_drew (S := fun w' => w'.cell? ⟨cb, 0, none⟩ = some (.int .i64 m) ∧ w'.cell? ⟨db, 0, none⟩ = some (.int .i64 m')) (by kernel_rfl) ⟨c0, d0⟩ (fun hS => ?_)
      refine takeY (i := 0) (some 5) (v := .pointer (some ⟨cb, 0, none⟩)) rfl rfl (by kernel_rfl) (by kernel_rfl) (by kernel_rfl) (fun _ _ _ h => h) (by rfl) (fun w' hS => by clear hS; go_simp) hS ?_
      simp only [Act.put, List.setIfInBounds_toArray, List.set_cons_zero, List.set_cons_succ]
      refine takeY (i := 1) (some 6) (v := .pointer (some ⟨cb, 0, none⟩)) rfl rfl (by kernel_rfl) (by kernel_rfl) (by kernel_rfl) (fun _ _ _ h => h) (by rfl) (fun w' hS => by clear hS; go_simp) hS ?_
      simp only [Act.put, List.setIfInBounds_toArray, List.set_cons_zero, List.set_cons_succ]
      refine takeY (i := 2) (some 7) (v := .pointer (some ⟨cb, 0, none⟩)) rfl rfl (by kernel_rfl) (by kernel_rfl) (by kernel_rfl) (fun _ _ _ h => h) (by rfl) (fun w' hS => by clear hS; go_simp) hS ?_
      simp only [Act.put, List.setIfInBounds_toArray, List.set_cons_zero, List.set_cons_succ]
      refine takeY (i := 3) (some 8) (v := .int .i64 m) rfl rfl (by kernel_rfl) (by kernel_rfl) (by kernel_rfl) (fun _ _ _ h => h) (by rfl) (fun w' hS => by obtain ⟨c9, d9⟩ := hS; go_simp) hS ?_
      simp only [Act.put, List.setIfInBounds_toArray, List.set_cons_zero, List.set_cons_succ]
      refine takeY (i := 4) (some 9) (v := .bool false) rfl rfl (by kernel_rfl) (by kernel_rfl) (by kernel_rfl) (fun _ _ _ h => h) (by rfl) (fun w' hS => by clear hS; go_simp) hS ?_
      simp only [Act.put, List.setIfInBounds_toArray, List.set_cons_zero, List.set_cons_succ]
      refine takeY (i := 5) (some 10) (v := .bool false) rfl rfl (by kernel_rfl) (by kernel_rfl) (by kernel_rfl) (fun _ _ _ h => h) (by rfl) (fun w' hS => by clear hS; go_simp) hS ?_
      simp only [Act.put, List.setIfInBounds_toArray, List.set_cons_zero, List.set_cons_succ]
      refine takeY (i := 6) (some 11) (v := .pointer (some ⟨db, 0, none⟩)) rfl rfl (by kernel_rfl) (by kernel_rfl) (by kernel_rfl) (fun _ _ _ h => h) (by rfl) (fun w' hS => by clear hS; go_simp) hS ?_
      simp only [Act.put, List.setIfInBounds_toArray, List.set_cons_zero, List.set_cons_succ]
      refine takeY (i := 7) (some 12) (v := .bool true) rfl rfl (by kernel_rfl) (by kernel_rfl) (by kernel_rfl) (fun _ _ _ h => h) (by rfl) (fun w' hS => by clear hS; go_simp) hS ?_
      simp only [Act.put, List.setIfInBounds_toArray, List.set_cons_zero, List.set_cons_succ]
      refine takeY (i := 8) (some 13) (v := .bool true) rfl rfl (by kernel_rfl) (by kernel_rfl) (by kernel_rfl) (fun _ _ _ h => h) (by rfl) (fun w' hS => by clear hS; go_simp) hS ?_
      simp only [Act.put, List.setIfInBounds_toArray, List.set_cons_zero, List.set_cons_succ]
      refine takeY (i := 9) (some 14) (v := .pointer (some ⟨cb, 0, none⟩)) rfl rfl (by kernel_rfl) (by kernel_rfl) (by kernel_rfl) (fun _ _ _ h => h) (by rfl) (fun w' hS => by clear hS; go_simp) hS ?_
      simp only [Act.put, List.setIfInBounds_toArray, List.set_cons_zero, List.set_cons_succ]
      refine takeY (i := 10) (some 15) (v := .pointer (some ⟨cb, 0, none⟩)) rfl rfl (by kernel_rfl) (by kernel_rfl) (by kernel_rfl) (fun _ _ _ h => h) (by rfl) (fun w' hS => by clear hS; go_simp) hS ?_
      simp only [Act.put, List.setIfInBounds_toArray, List.set_cons_zero, List.set_cons_succ]
      refine takeY (i := 11) (some 16) (v := .pointer (some ⟨cb, 0, none⟩)) rfl rfl (by kernel_rfl) (by kernel_rfl) (by kernel_rfl) (fun _ _ _ h => h) (by rfl) (fun w' hS => by clear hS; go_simp) hS ?_
      simp only [Act.put, List.setIfInBounds_toArray, List.set_cons_zero, List.set_cons_succ]
      refine takeY (i := 12) (some 17) (v := .int .i64 m) rfl rfl (by kernel_rfl) (by kernel_rfl) (by kernel_rfl) (fun _ _ _ h => h) (by rfl) (fun w' hS => by obtain ⟨c9, d9⟩ := hS; go_simp) hS ?_
      simp only [Act.put, List.setIfInBounds_toArray, List.set_cons_zero, List.set_cons_succ]
      refine takeY (i := 13) (some 18) (v := .bool false) rfl rfl (by kernel_rfl) (by kernel_rfl) (by kernel_rfl) (fun _ _ _ h => h) (by rfl) (fun w' hS => by clear hS; go_simp) hS ?_
      simp only [Act.put, List.setIfInBounds_toArray, List.set_cons_zero, List.set_cons_succ]
      refine takeY (i := 14) (some 19) (v := .bool false) rfl rfl (by kernel_rfl) (by kernel_rfl) (by kernel_rfl) (fun _ _ _ h => h) (by rfl) (fun w' hS => by clear hS; go_simp) hS ?_
      simp only [Act.put, List.setIfInBounds_toArray, List.set_cons_zero, List.set_cons_succ]
      refine takeY (i := 15) (some 20) (v := .bool false) rfl rfl (by kernel_rfl) (by kernel_rfl) (by kernel_rfl) (fun _ _ _ h => h) (by rfl) (fun w' hS => by clear hS; go_simp) hS ?_
      simp only [Act.put, List.setIfInBounds_toArray, List.set_cons_zero, List.set_cons_succ]
      refine takeN (i := 16) (some 21) rfl rfl (by kernel_rfl) (by kernel_rfl) (by kernel_rfl) (fun _ _ _ h => h) (by rfl) hS ?_
      simp only [Act.put, List.setIfInBounds_toArray, List.set_cons_zero, List.set_cons_succ]
      refine takeN (i := 17) (some 22) rfl rfl (by kernel_rfl) (by kernel_rfl) (by kernel_rfl) (fun _ _ _ h => h) (by rfl) hS ?_
      simp only [Act.put, List.setIfInBounds_toArray, List.set_cons_zero, List.set_cons_succ]
      refine takeN (i := 18) (some 23) rfl rfl (by kernel_rfl) (by kernel_rfl) (by kernel_rfl) (fun _ _ _ h => h) (by rfl) hS ?_
      simp only [Act.put, List.setIfInBounds_toArray, List.set_cons_zero, List.set_cons_succ]
      refine takeN (i := 19) (some 24) rfl rfl (by kernel_rfl) (by kernel_rfl) (by kernel_rfl) (fun _ _ _ h => h) (by rfl) hS ?_
      simp only [Act.put, List.setIfInBounds_toArray, List.set_cons_zero, List.set_cons_succ]
      refine takeN (i := 20) (some 25) rfl rfl (by kernel_rfl) (by kernel_rfl) (by kernel_rfl) (fun _ _ _ h => h) (by rfl) hS ?_
      simp only [Act.put, List.setIfInBounds_toArray, List.set_cons_zero, List.set_cons_succ]
      refine takeN (i := 21) (some 26) rfl rfl (by kernel_rfl) (by kernel_rfl) (by kernel_rfl) (fun _ _ _ h => h) (by rfl) hS ?_
      simp only [Act.put, List.setIfInBounds_toArray, List.set_cons_zero, List.set_cons_succ]
      refine takeN (i := 22) (some 27) rfl rfl (by kernel_rfl) (by kernel_rfl) (by kernel_rfl) (fun _ _ _ h => h) (by rfl) hS ?_
      simp only [Act.put, List.setIfInBounds_toArray, List.set_cons_zero, List.set_cons_succ]
      refine takeN (i := 23) (some 28) rfl rfl (by kernel_rfl) (by kernel_rfl) (by kernel_rfl) (fun _ _ _ h => h) (by rfl) hS ?_
      simp only [Act.put, List.setIfInBounds_toArray, List.set_cons_zero, List.set_cons_succ]
      refine takeN (i := 24) (some 29) rfl rfl (by kernel_rfl) (by kernel_rfl) (by kernel_rfl) (fun _ _ _ h => h) (by rfl) hS ?_
      simp only [Act.put, List.setIfInBounds_toArray, List.set_cons_zero, List.set_cons_succ]
      refine takeY (i := 25) (some 30) (v := .bool false) rfl rfl (by kernel_rfl) (by kernel_rfl) (by kernel_rfl) (fun _ _ _ h => h) (by rfl) (fun w' hS => by clear hS; go_simp) hS ?_
      simp only [Act.put, List.setIfInBounds_toArray, List.set_cons_zero, List.set_cons_succ]
      refine takeY (i := 26) (some 31) (v := .bool false) rfl rfl (by kernel_rfl) (by kernel_rfl) (by kernel_rfl) (fun _ _ _ h => h) (by rfl) (fun w' hS => by clear hS; go_simp) hS ?_
      simp only [Act.put, List.setIfInBounds_toArray, List.set_cons_zero, List.set_cons_succ]
      refine takeY (i := 27) (some 4) (v := .bool false) rfl rfl (by kernel_rfl) (by kernel_rfl) (by kernel_rfl) (fun _ _ _ h => h) (by rfl) (fun w' hS => by clear hS; go_simp) hS ?_
      simp only [Act.put, List.setIfInBounds_toArray, List.set_cons_zero, List.set_cons_succ]
      clear hS
      refine wpAnyH_done (by kernel_rfl) ?_ _
      go_wp2_with fail
      go_ret
      exact ⟨by simp only [sparesB, g1, decide_eq_false (show ¬ 0 < m by omega)]; rfl, (Below.refl _ _).drew⟩
end Go.Proofs.Yteamnibgeobcbaa
