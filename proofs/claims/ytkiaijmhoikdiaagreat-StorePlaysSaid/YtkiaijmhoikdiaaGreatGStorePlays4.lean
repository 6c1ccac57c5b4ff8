/- Texts of this claim put together; each theorem states its conditions. -/
import Derived.Test.YtkiaijmhoikdiaaGreatGStorePlays3
import Derived.Shelf.SlSortCmp.WholeK
import Derived.Sort.Grow
import Derived.Sort.Statements
import Derived.Ground.SlsfProg
import Derived.Ground.NamesProg
import Derived.Test.YtkiaijmhoikdiaaGreatProg
import Derived.Maps.RangeWalk
import Derived.Deep.DeepCutAuto
/- A store in memory: New, Len, least, Put. Each theorem states its conditions. -/
namespace Go.Proofs.YtkiaijmhoikdiaaGreat
open Go.RowKit Go.MapKept
set_option linter.unusedVariables false
set_option linter.unusedSimpArgs false

def stC (b : Nat) (r : Bool) : Array Value := #[.map (some b), .bool r]
structure StAt (w : World) (B s b : Nat) (H : Nat → Option Hd) (k : Nat) (r : Bool) : Prop where
  hs : B ≤ s
  hb : B ≤ b
  blk : Blk 76 w s (stC b r)
  map : ∃ M, MapAt w b M k ∧ (∀ i, M i = none ↔ H i = none) ∧ (∀ i g h, M i = some g → H i = some h → HdAt w B g h ∧ h.id = i ∧ (27 ≤ h.n ∧ h.n ≤ 1492) ∧ (∀ j, 0 ≤ h.z j ∧ h.z j ≤ 255)) ∧ ∀ i j g, M i = some g → M j = some g → i = j
structure Fr (w w' : World) (s b : Nat) : Prop where
  os : w'.os = w.os
  tape : w'.tape = w.tape
  output : w'.output = w.output
  size : w.heap.size ≤ w'.heap.size
  block : ∀ i, i < w.heap.size → i ≠ s → i ≠ b → w'.heap[i]? = w.heap[i]?
theorem Fr.below {w w' : World} {s b B : Nat} (h : Fr w w' s b) (hs : B ≤ s) (hb : B ≤ b) (hB : B ≤ w.heap.size) : Below B w w' :=
  ⟨h.os, h.tape, h.output, h.size, fun i hi => h.block i (by omega) (by omega) (by omega)⟩
theorem Fr.of_below {w w' : World} (s b : Nat) (h : Below w.heap.size w w') : Fr w w' s b := ⟨h.os, h.tape, h.output, h.size, fun i hi _ _ => h.block i hi⟩
theorem Fr.trans {w w1 w2 : World} {s b : Nat} (h : Fr w w1 s b) (k : Fr w1 w2 s b) : Fr w w2 s b :=
  ⟨k.os.trans h.os, k.tape.trans h.tape, k.output.trans h.output, Nat.le_trans h.size k.size, fun i hi h1 h2 => (k.block i (Nat.lt_of_lt_of_le hi h.size) h1 h2).trans (h.block i hi h1 h2)⟩
theorem Fr.turn {w w' : World} {s b : Nat} (h : Turn w w' b) : Fr w w' s b := by
  have hg := h.grown
  exact ⟨hg.os, hg.tape, hg.output, hg.size, fun i hi _ h2 => hg.block i hi (fun e => h2 (by cases e; rfl))⟩
section
variable {w w' : World} {B s b k : Nat} {H : Nat → Option Hd} {r : Bool}
theorem StAt.lt (h : StAt w B s b H k r) : s < w.heap.size := h.blk.lt
theorem StAt.ltb (h : StAt w B s b H k r) : b < w.heap.size := by obtain ⟨M, h1, _⟩ := h.map; exact h1.lt
theorem StAt.ltB (h : StAt w B s b H k r) : B ≤ w.heap.size := Nat.le_of_lt (Nat.lt_of_le_of_lt h.hs h.lt)
theorem StAt.ne (h : StAt w B s b H k r) : s ≠ b := by
  rintro rfl
  obtain ⟨M, ⟨es, c, h1, _⟩, _⟩ := h.map
  have h2 : w.heap[s]? = _ := h.blk
  rw [h1] at h2
  cases h2
theorem StAt.below (h : StAt w B s b H k r) (hb : Below w.heap.size w w') : StAt w' B s b H k r := by
  obtain ⟨h1, h2, h3, M, h4, h5, h6, h7⟩ := h
  exact ⟨h1, h2, h3.below hb h3.lt, M, h4.below hb h4.lt, h5, fun i g x e1 e2 => by obtain ⟨a, c⟩ := h6 i g x e1 e2; exact ⟨a.below hb, c⟩, h7⟩
theorem HdAt.fr {g : Nat} {h : Hd} {s b : Nat} (k : HdAt w B g h) (hs : Blk 76 w s (stC b r)) (hm : ∃ es c, w.heap[b]? = some (.map es c)) (hf : Fr w w' s b) : HdAt w' B g h := by
  obtain ⟨h1, ro, oa, c, h2, h3, h4⟩ := k
  obtain ⟨es, cl, hm⟩ := hm
  have hgs : g ≠ s := by
    rintro rfl
    have e1 : w.heap[g]? = _ := h2
    have e2 : w.heap[g]? = _ := hs
    rw [e1] at e2
    injection e2 with e2
    injection e2 with _ e2 _
    exact absurd e2 (by decide)
  have hgb : g ≠ b := by
    rintro rfl
    have e1 : w.heap[g]? = _ := h2
    rw [hm] at e1
    cases e1
  obtain ⟨cur, hc⟩ := h3.2
  have hrs : ro ≠ s := by
    rintro rfl
    have e2 : w.heap[ro]? = _ := hs
    rw [hc] at e2
    injection e2 with e2
    injection e2 with _ e2 _
    exact absurd e2 (by decide)
  have hrb : ro ≠ b := by
    rintro rfl
    rw [hm] at hc
    cases hc
  exact ⟨h1, ro, oa, c, (hf.block g h2.lt hgs hgb).trans h2, h3.block (hf.block ro h3.lt hrs hrb), h4⟩
end
theorem MapAt.far {w w' : World} {b k c : Nat} {M : Nat → Option Nat} {C : Array Value} {t : TypeId} (h : MapAt w b M k) (hs : Stored w w' c C t) (hk : b ≠ c) : MapAt w' b M k := h.at (hs.2.2 b hk)
theorem build_st (o : Oper) (e : Operand → Value) (x : Operand) (ho : o.op = .build 76 #[(0, x)]) (b : Nat) (h0 : e x = .map (some b)) (W : World) : (execOp e o).run Tryz.prog W = .ok (.value (.agg (stC b false))) W := by
  unfold execOp
  simp only [ho]
  simp only [List.map_toArray, List.map_cons, List.map_nil, h0]
  kernel_rfl
theorem mm_run (o : Oper) (e : Operand → Value) (ho : o.op = .makeMap 74 none) (W : World) : (execOp e o).run Tryz.prog W = .ok (.value (.map (some W.heap.size))) (W.alloc (.map #[] 0)) := by
  unfold execOp
  simp only [ho]
  rfl
def noH : Nat → Option Hd := fun _ => none
def NewP (w : World) (e : Ending) (w' : World) : Prop := ∃ s b, e = .returned (.pointer (some ⟨s, 0, none⟩)) ∧ StAt w' w.heap.size s b noH 0 false ∧ Below w.heap.size w w'
set_option maxHeartbeats 4000000 in
set_option maxRecDepth 100000 in
theorem new_any (w : World) : Calls Tryz.prog 6 #[] w (NewP w) := by
  go_enter Tryz.func6, Tryz.ntmps6
  have HB := Lib.hid (Below.refl w.heap.size w)
  obtain ⟨N0, hN0⟩ : ∃ N, w.heap.size = N := ⟨_, rfl⟩
  obtain ⟨w1, hw1⟩ : ∃ x, w.alloc (.map #[] 0) = x := ⟨_, rfl⟩
  have HM : Hid (MapAt w1 N0 (fun _ => none) 0) := Lib.hid (by rw [← hw1, ← hN0]; exact MapAt.new w)
  have HB1 : Hid (Below w.heap.size w w1) := Lib.hid (by rw [← hw1]; exact (Below.refl _ _).alloc (Nat.le_refl _) _)
  have HR : Hid (∀ (o : Oper) (e : Operand → Value) (ho : o.op = .makeMap 74 none), (execOp e o).run Tryz.prog w = .ok (.value (.map (some N0))) w1) := Lib.hid (fun o e ho => by rw [← hw1, ← hN0]; exact mm_run o e ho w)
  have HN0 := Lib.hid hN0
  clear hN0 hw1 HB
  go_wp2_with (refine wpList_v (op := ⟨some 1, _, _, _, _, _⟩) rfl (.map (some N0)) (HR.out _ _ rfl) ?_; refine Hid.out ?_)
  refine Lib.hid ?_
  go_wp2_with (refine wpList_v (op := ⟨some 2, _, _, _, _, _⟩) rfl (.agg (stC N0 false)) (build_st _ _ _ rfl N0 rfl _) ?_; refine Hid.out ?_)
  refine Lib.hid ?_
  obtain ⟨N1, hN1⟩ : ∃ N, w1.heap.size = N := ⟨_, rfl⟩
  have HN1 := Lib.hid hN1
  clear hN1
  go_wp2_with (refine wpList_box (op := ⟨some 3, _, _, _, _, _⟩) rfl 76 (.tmp 2) rfl (stC N0 false) rfl N1 HN1.out ?_; intro w2 k1 b1 s1; refine Hid.out ?_)
  refine Lib.hid ?_
  have HK := Lib.hid k1
  have HB2 := Lib.hid b1
  clear k1 b1 s1
  go_wp2_with fail
  go_ret
  exact ⟨N1, N0, rfl, ⟨by rw [← HN1.out]; exact HB1.out.size, by rw [HN0.out]; exact Nat.le_refl _, HK.out, _, HM.out.below HB2.out HM.out.lt, fun i => ⟨fun _ => rfl, fun _ => rfl⟩, fun i g h e1 _ => (by cases e1), fun i j g e1 _ => (by cases e1)⟩, HB1.out.trans (HB2.out.mono HB1.out.size)⟩
theorem len_run (o : Oper) (e : Operand → Value) (x : Operand) (ho : o.op = .call { callee := .builtin .len, args := #[x], argTypes := #[74] }) {w : World} {b k : Nat} {M : Nat → Option Nat} (h : MapAt w b M k) (h0 : e x = .map (some b)) : (execOp e o).run Tryz.prog w = .ok (.value (.int .i64 (k : Int))) w := by
  unfold execOp
  simp only [ho]
  simp [resolve, invoke, builtin, h0, map_len h, Result.andThen]
theorem look_run (o : Oper) (e : Operand → Value) (m x : Operand) (ho : o.op = .lookup 74 m x true) {w : World} {b k n : Nat} {M : Nat → Option Nat} (h : MapAt w b M k) (hn : IdOk n) (h0 : e m = .map (some b)) (h1 : e x = .agg (iC n)) : (execOp e o).run Tryz.prog w = .ok (.value (.tuple #[ptrV (M n), .bool (M n).isSome])) w := by
  unfold execOp
  simp only [ho]
  simp [h0, h1, map_look h hn, Result.andThen]
theorem put_run (o : Oper) (e : Operand → Value) (m x v : Operand) (ho : o.op = .mapUpdate 74 m x v) {w : World} {b k n g : Nat} {M : Nat → Option Nat} (h : MapAt w b M k) (hn : IdOk n) (h0 : e m = .map (some b)) (h1 : e x = .agg (iC n)) (h2 : e v = .pointer (some ⟨g, 0, none⟩)) :
    ∃ w', (execOp e o).run Tryz.prog w = .ok .skip w' ∧ MapAt w' b (putM M n (some g)) (if (M n).isSome then k else k + 1) ∧ Turn w w' b := by
  obtain ⟨w', h3, h4, h5⟩ := map_put h hn g
  refine ⟨w', ?_, h4, h5⟩
  unfold execOp
  simp only [ho]
  simp only [ptrV] at h3
  simp [h0, h1, h2, h3, Result.andThen]
set_option maxHeartbeats 4000000 in
set_option maxRecDepth 100000 in
theorem stLen_any {w : World} {B s b k : Nat} {H : Nat → Option Hd} {r : Bool} (h : StAt w B s b H k r) : Calls Tryz.prog 21 #[.pointer (some ⟨s, 0, none⟩)] w fun e w' => e = .returned (.int .i64 (k : Int)) ∧ w' = w := by
  obtain ⟨M, hM, _⟩ := h.map
  have c0 : w.cell? ⟨s, 0, none⟩ = some (.map (some b)) := (h.blk.cell 0).trans rfl
  have HM := Lib.hid hM
  clear h hM
  go_enter Tryz.func21, Tryz.ntmps21
  go_wp2_with (refine wpList_v (op := ⟨some 9, _, _, _, _, _⟩) rfl (.int .i64 (k : Int)) (len_run _ _ _ rfl HM.out rfl) ?_; refine Hid.out ?_)
  refine Lib.hid ?_
  go_wp2_with fail
  go_ret
  exact ⟨rfl, rfl⟩
set_option maxHeartbeats 4000000 in
set_option maxRecDepth 100000 in
theorem cloneB2 (b off n c : Nat) (z : Nat → Int) (w : World) (hr : Row8 w b off n z) (hn : n ≤ 2000) :
    Calls Tryz.prog 46 #[.slice (some ⟨b, off, none⟩) n c] w fun e w' => ∃ v, e = .returned v ∧ OwnB w' w.heap.size v n z ∧ Below w.heap.size w w' := by
  have HR := Lib.hid hr
  clear hr
  have hq : ∀ W : World, (binOp BinOp.eql 40 (Value.slice (some ⟨b, off, none⟩) n c) (Value.slice none 0 0)).run Tryz.prog W = .ok (.bool false) W := fun W => by kernel_rfl
  have HM := Lib.hid (made_b w w (bself w))
  have HB := Lib.hid ((bself w).alloc (Nat.le_refl _) (.cells #[] 5))
  have HDD : Hid (Rd (w.alloc (.cells #[] 5)) (some ⟨b, off, none⟩) n z) := Lib.hid (Rd.below ⟨.inr ⟨b, off, rfl, HR.out⟩, HR.out.2.2⟩ HB.out rfl)
  go_enter Tryz.func46, Tryz.ntmps46
  go_wp2_with (first
    | (at_builtin; refine app_s rfl (.tmp 5) (.tmp 6) rfl w (.slice (some ⟨w.heap.size, 0, none⟩) 0 0) 0 [] rfl HM.out HB.out ⟨b, off, none⟩ n c (vals z n) rfl (vals_len _ _) (rd_newsB HDD.out) (vals_one _ _) (by omega) ?_; intro v2 w2 ho2 hb2 hs2 hk2))
  rw [Nat.zero_add, List.nil_append] at ho2
  go_ret
  exact ⟨_, rfl, ⟨ho2, HR.out.2.2⟩, hb2⟩
theorem takeMu {ops : Array Oper} {Q : Exit → Act → World → Prop} {md : Region.Mode} {S : World → Prop} {i : Nat} {oi : Oper} {fuel : Nat} {listed : Array Bool} {a : Act} {w : World} (m x v : Operand) (hi : ops[i]? = some oi) (hd : oi.dst = none)
    (hr : Region.ready md ops listed = [i]) (hw : Region.wanted oi (yielded ops a.tmps) = true) (ho : oi.op = .mapUpdate 74 m x v) {b k n g : Nat} {M : Nat → Option Nat} (hM : MapAt w b M k) (hn : IdOk n) (h0 : a.eval m = .map (some b)) (h1 : a.eval x = .agg (iC n)) (h2 : a.eval v = .pointer (some ⟨g, 0, none⟩))
    (h : ∀ w', MapAt w' b (putM M n (some g)) (if (M n).isSome then k else k + 1) → Turn w w' b → S w' ∧ wpAnyH Tryz.prog md ops Q S fuel (listed.setIfInBounds i true) (a.put none undef) w') : wpAnyH Tryz.prog md ops Q S (fuel + 1) listed a w := by
  obtain ⟨w', hx', h3, h4⟩ := put_run oi a.eval m x v ho hM hn h0 h1 h2
  exact takeW hi hd hr hw hx' (h w' h3 h4).1 (h w' h3 h4).2
theorem hd_id {w : World} {g : Nat} {h : Hd} {A : Option Addr} {c : Nat} (k : Blk 91 w g (hdC h A c)) : w.rangeAt g 0 (iC h.id).toList := k.range (eight8 ⟨rfl, rfl, rfl, rfl, rfl, rfl, rfl, rfl⟩)
theorem one_b (b : Bool) : (#[Value.bool b] : Array Value).all (·.oneCell') = true := by cases b <;> kernel_rfl
theorem info_bl : (Tryz.prog.info? 4).map (·.size) = some 1 := by kernel_rfl
theorem one_sl {A : Option Addr} {n c : Nat} : (#[Value.slice A n c] : Array Value).all (·.oneCell') = true := by kernel_rfl
theorem info_bs1 : (Tryz.prog.info? 40).map (·.size) = some 1 := by kernel_rfl
theorem st_ref (b : Nat) (r : Bool) : putMany (stC b r) 1 [.bool true] = stC b true := by kernel_rfl
theorem hd_put (h : Hd) (A A' : Option Addr) (c c' : Nat) : putMany (hdC h A c) 11 [.slice A' h.n c'] = hdC h A' c' := by kernel_rfl
def putH (H : Nat → Option Hd) (t : Hd) : Nat → Option Hd := fun i => if i = t.id then some t else H i
def PutP (w : World) (B s b : Nat) (H : Nat → Option Hd) (k : Nat) (r : Bool) (t : Hd) (e : Ending) (w' : World) : Prop :=
  ∃ x E : Int, e = .returned (.tuple #[.int .i64 x, .int .i64 E]) ∧ Fr w w' s b ∧
  ((H t.id = none ∧ k < 512 ∧ x = 1 ∧ E = 0 ∧ StAt w' B s b (putH H t) (k + 1) r) ∨ (H t.id = none ∧ 512 ≤ k ∧ x = 0 ∧ E = 10 ∧ StAt w' B s b H k true) ∨
   (∃ h, H t.id = some h ∧ relH t h ≤ 0 ∧ x = relH t h ∧ E = 0 ∧ StAt w' B s b H k r) ∨ (∃ h, H t.id = some h ∧ 0 < relH t h ∧ x = 1 ∧ E = 0 ∧ StAt w' B s b (putH H t) k r))
theorem hdZ_f (n : Nat) (z : Nat → Int) : (hdZ n z).id = idZ z ∧ (hdZ n z).n = n ∧ (hdZ n z).z = z ∧ (hdZ n z).pu = 0 := ⟨rfl, rfl, rfl, rfl⟩
theorem st_put {w w' : World} {B s b k g k' : Nat} {H : Nat → Option Hd} {r : Bool} {M : Nat → Option Nat} {t : Hd} (hst : StAt w B s b H k r) (hM : MapAt w b M k) (hMH : ∀ i, M i = none ↔ H i = none)
    (hMA : ∀ i g h, M i = some g → H i = some h → HdAt w B g h ∧ h.id = i ∧ (27 ≤ h.n ∧ h.n ≤ 1492) ∧ (∀ j, 0 ≤ h.z j ∧ h.z j ≤ 255)) (hMI : ∀ i j g, M i = some g → M j = some g → i = j)
    (hg : w.heap.size ≤ g) (hn : 27 ≤ t.n ∧ t.n ≤ 1492) (hz : ∀ j, 0 ≤ t.z j ∧ t.z j ≤ 255) (hf : Fr w w' s b) (hs : Blk 76 w' s (stC b r)) (hm : MapAt w' b (putM M t.id (some g)) k') (hh : HdAt w' B g t) : StAt w' B s b (putH H t) k' r := by
  refine ⟨hst.hs, hst.hb, hs, _, hm, fun i => ?_, fun i g' h e1 e2 => ?_, fun i j g' e1 e2 => ?_⟩
  · unfold putM putH
    by_cases e : i = t.id
    · rw [if_pos e, if_pos e]; simp
    · rw [if_neg e, if_neg e]; exact hMH i
  · unfold putM at e1
    unfold putH at e2
    by_cases e : i = t.id
    · rw [if_pos e] at e1 e2
      cases e1; cases e2
      exact ⟨hh, e.symm, hn, hz⟩
    · rw [if_neg e] at e1 e2
      obtain ⟨a, c⟩ := hMA i g' h e1 e2
      refine ⟨a.fr hst.blk ?_ hf, c⟩
      obtain ⟨es, cl, hb, _⟩ := hM
      exact ⟨es, cl, hb⟩
  · unfold putM at e1 e2
    have key : ∀ i, M i = some g' → g' < w.heap.size := fun i e => by
      cases hH : H i with
      | none => rw [(hMH i).2 hH] at e; cases e
      | some h => exact (hMA i g' h e hH).1.lt
    by_cases e : i = t.id
    · by_cases e' : j = t.id
      · rw [e, e']
      · rw [if_pos e] at e1; rw [if_neg e'] at e2
        cases e1
        have := key j e2
        omega
    · by_cases e' : j = t.id
      · rw [if_neg e] at e1; rw [if_pos e'] at e2
        cases e2
        have := key i e1
        omega
      · rw [if_neg e] at e1; rw [if_neg e'] at e2
        exact hMI i j g' e1 e2
theorem st_same {w w' : World} {B s b k : Nat} {H : Nat → Option Hd} {r : Bool} (hst : StAt w B s b H k r) (hb : Below w.heap.size w w') : StAt w' B s b H k r ∧ Fr w w' s b := ⟨hst.below hb, Fr.of_below s b hb⟩
theorem st_full {w w' : World} {B s b k : Nat} {H : Nat → Option Hd} {r r' : Bool} (hst : StAt w B s b H k r) (hf : Fr w w' s b) (hs : Blk 76 w' s (stC b r')) (hm : w'.heap[b]? = w.heap[b]?) : StAt w' B s b H k r' := by
  obtain ⟨h1, h2, h3, M, h4, h5, h6, h7⟩ := hst
  refine ⟨h1, h2, hs, M, h4.at hm, h5, fun i g x e1 e2 => ?_, h7⟩
  obtain ⟨a, c⟩ := h6 i g x e1 e2
  refine ⟨a.fr h3 ?_ hf, c⟩
  obtain ⟨es, cl, hb, _⟩ := h4
  exact ⟨es, cl, hb⟩
set_option maxHeartbeats 40000000 in
set_option maxRecDepth 100000 in
theorem put_yes (A : Option Addr) (n c : Nat) (z : Nat → Int) (m B s b k : Nat) (H : Nat → Option Hd) (r : Bool) (w : World) (hst : StAt w B s b H k r) (hk : k ≤ 512) (hq : cls (z 4) = 2) (hn : 27 ≤ n ∧ n ≤ 1492) (hB : Rd w A n z) (hc : n ≤ c) (hcm : c ≤ maxLen) (hrd : Calls Tryz.prog 68 #[.slice A n c] w (RdOk w 2 z m)) :
    Calls Tryz.prog 14 #[.pointer (some ⟨s, 0, none⟩), .slice A n c] w (PutP w B s b H k r (hdZ n z)) := by
  have HRD := Lib.hid (read_yes A n c z 2 m w hq hn.1 hB hc hcm hrd)
  obtain ⟨ba, oa, rfl, hra⟩ := hB.row (by omega)
  have HRA := Lib.hid hra
  have HN := Lib.hid hn
  have HC := Lib.hid (And.intro hc hcm)
  have HST := Lib.hid hst
  obtain ⟨M, hM, hMH, hMA, hMI⟩ := hst.map
  have HMH := Lib.hid hMH
  have HMA := Lib.hid hMA
  have HMI := Lib.hid hMI
  have KS := Lib.hid hst.blk
  have KM := Lib.hid hM
  have KM0 := Lib.hid hM
  have HNE := Lib.hid hst.ne
  obtain ⟨t, ht⟩ : ∃ t, hdZ n z = t := ⟨_, rfl⟩
  have HT := Lib.hid (show t.id = idZ z ∧ t.n = n ∧ t.z = z ∧ t.pu = 0 by rw [← ht]; exact hdZ_f n z)
  have HID : Hid (IdOk t.id) := Lib.hid (by rw [HT.out.1]; exact idZ_bd z hra.2.2)
  have HRD2 : Hid (Calls Tryz.prog 43 #[.slice (some ⟨ba, oa, none⟩) n c] w (fun e w' => ∃ g, e = .returned (.tuple #[.pointer (some ⟨g, 0, none⟩), .int .i64 0]) ∧ w.heap.size ≤ g ∧ Blk 91 w' g (hdC t (some ⟨ba, oa, none⟩) c) ∧ Below w.heap.size w w')) := Lib.hid (HRD.out.mono fun e w' h => by
    rw [← ht]
    rcases h with ⟨_, h⟩ | ⟨h, _⟩
    · exact h
    · exact absurd rfl h)
  rw [ht]
  clear HRD hst hq hn hB hc hcm hrd hra hM hMH hMA hMI ht
  go_enter Tryz.func14, Tryz.ntmps14
  have HB := Lib.hid (Below.refl w.heap.size w)
  go_wp2_with fail
  refine HRD2.out.mono ?_
  rintro e w1 ⟨gt, rfl, hgt, kt, b1⟩
  replace KS := Lib.hid (KS.out.below b1 KS.out.lt)
  replace KM := Lib.hid (KM.out.below b1 KM.out.lt)
  replace HB := Lib.hid (HB.out.trans (b1.mono HB.out.size))
  have KT := Lib.hid kt
  have HGT := Lib.hid hgt
  clear b1 kt hgt HRD2
  have le_HB_gt : w.heap.size ≤ gt := HGT.out
  have lt_s_gt : s < gt := Nat.lt_of_lt_of_le HST.out.lt HGT.out
  have lt_b_gt : b < gt := Nat.lt_of_lt_of_le HST.out.ltb HGT.out
  go_wp2_with fail
  have LW : Hid (w.heap.size ≤ w1.heap.size) := Lib.hid HB.out.size
  obtain ⟨mv, hmv⟩ : ∃ v, M t.id = v := ⟨_, rfl⟩
  have HMV := Lib.hid hmv
  clear hmv
  cases mv with
  | none =>
    refine wp_region_held_drew (S := fun w' => Blk 76 w' s (stC b r) ∧ MapAt w' b M k ∧ Blk 91 w' gt (hdC t (some ⟨ba, oa, none⟩) c) ∧ Below w.heap.size w w') (by kernel_rfl) ⟨KS.out, KM.out, KT.out, HB.out.drew⟩ (fun hS => ?_)
    generalize hW11 : w1.drew = W11 at hS  ⊢
    clear hW11
    clear KS
    clear KM
    clear KT
    clear HB
    have KS := Lib.hid hS.1
    have KM := Lib.hid hS.2.1
    have KT := Lib.hid hS.2.2.1
    have HB := Lib.hid hS.2.2.2
    refine tY (i := 0) (some 26) (v := .pointer (some ⟨s, 0, none⟩)) rfl rfl (fun w' hS => by clear hS; go_simp) hS ?_
    simp only [Act.put, pA, pB, pC]
    refine tY (i := 1) (some 27) (v := .pointer (some ⟨s, 0, none⟩)) rfl rfl (fun w' hS => by clear hS; go_simp) hS ?_
    simp only [Act.put, pA, pB, pC]
    refine tY (i := 2) (some 28) (v := .pointer (some ⟨s, 0, none⟩)) rfl rfl (fun w' hS => by clear hS; go_simp) hS ?_
    simp only [Act.put, pA, pB, pC]
    refine tY (i := 3) (some 29) (v := .map (some b)) rfl rfl (fun w' hS => by (have c9 : w'.cell? ⟨s, 0, none⟩ = some (.map (some b)) := (hS.1.cell 0).trans rfl; clear hS; go_simp)) hS ?_
    simp only [Act.put, pA, pB, pC]
    refine tY (i := 4) (some 30) (v := .pointer (some ⟨gt, 0, none⟩)) rfl rfl (fun w' hS => by clear hS; go_simp) hS ?_
    simp only [Act.put, pA, pB, pC]
    refine tY (i := 5) (some 31) (v := .pointer (some ⟨gt, 0, none⟩)) rfl rfl (fun w' hS => by clear hS; go_simp) hS ?_
    simp only [Act.put, pA, pB, pC]
    refine tY (i := 6) (some 32) (v := .pointer (some ⟨gt, 0, none⟩)) rfl rfl (fun w' hS => by clear hS; go_simp) hS ?_
    simp only [Act.put, pA, pB, pC]
    refine tY (i := 7) (some 33) (v := .pointer (some ⟨gt, 0, none⟩)) rfl rfl (fun w' hS => by clear hS; go_simp) hS ?_
    simp only [Act.put, pA, pB, pC]
    refine tL (i := 8) (some 34) 35 (.tmp 33) gt 0 (iC t.id) _ rfl rfl rfl rfl (fun w' hS => hd_id hS.2.2.1) Tryz.underlying35 rfl info_iC hS ?_
    simp only [Act.put, pA, pB, pC]
    refine tY (i := 9) (some 35) (v := .tuple #[.pointer none, .bool false]) rfl rfl (fun w' hS => by (refine (look_run _ _ _ _ rfl hS.2.1 HID.out rfl rfl).trans ?_; rw [HMV.out]; rfl)) hS ?_
    simp only [Act.put, pA, pB, pC]
    refine tY (i := 10) (some 25) (v := .tuple #[.pointer none, .bool false]) rfl rfl (fun w' hS => by clear hS; go_simp) hS ?_
    simp only [Act.put, pA, pB, pC]
    refine tY (i := 11) (some 36) (v := .pointer none) rfl rfl (fun w' hS => by clear hS; go_simp) hS ?_
    simp only [Act.put, pA, pB, pC]
    refine tY (i := 12) (some 37) (v := .bool false) rfl rfl (fun w' hS => by clear hS; go_simp) hS ?_
    simp only [Act.put, pA, pB, pC]
    refine tY (i := 13) (some 8) (v := .pointer none) rfl rfl (fun w' hS => by clear hS; go_simp) hS ?_
    simp only [Act.put, pA, pB, pC]
    refine tY (i := 14) (some 9) (v := .bool false) rfl rfl (fun w' hS => by clear hS; go_simp) hS ?_
    simp only [Act.put, pA, pB, pC]
    clear hS
    refine wpAnyH_done (by kernel_rfl) ?_ _
    have HHN : Hid (H t.id = none) := Lib.hid ((HMH.out t.id).1 HMV.out)
    go_wp2_with fail
    have HSTc : Hid (StAt W11 B s b H k r) := Lib.hid (HST.out.below HB.out)
    refine (stLen_any HSTc.out).mono ?_
    rintro e w20 ⟨rfl, rfl⟩
    by_cases hk5 : k < 512
    · have hk6 : ¬ (512 : Int) ≤ (k : Int) := by omega
      have HK5 := Lib.hid hk5
      clear hk5
      have LW2 : Hid (w.heap.size ≤ w20.heap.size) := Lib.hid HB.out.size
      clear LW
      have LW := LW2
      go_wp2_with fail
      refine (cloneB2 ba oa n c z w20 (HRA.out.below' HB.out) (by have := HN.out; omega)).mono ?_
      rintro e w40 ⟨v40, rfl, ho, b1⟩
      obtain ⟨g2, c2, rfl, hg2, ho2⟩ := own_ofB ho (by have := HN.out; omega)
      replace KS := Lib.hid (KS.out.below b1 KS.out.lt)
      replace KM := Lib.hid (KM.out.below b1 KM.out.lt)
      replace KT := Lib.hid (KT.out.below b1 KT.out.lt)
      replace HB := Lib.hid (HB.out.trans (b1.mono HB.out.size))
      have KO : Hid (Own8 w40 g2 n c2 z) := Lib.hid ho2
      have le_g2 : w.heap.size ≤ g2 := Nat.le_trans LW.out hg2
      have ne_g2 : g2 ≠ gt := fun e => by subst e; obtain ⟨⟨cur, h1, _⟩, _⟩ := KO.out; have h2 : w40.heap[g2]? = _ := KT.out; rw [h1] at h2; injection h2 with h2; injection h2 with _ h2 _; exact absurd h2 (by decide)
      clear ho ho2 hg2 b1
      have hvt : Value.slice (some ⟨g2, 0, none⟩) n c2 = .slice (some ⟨g2, 0, none⟩) t.n c2 := by rw [HT.out.2.1]
      rw [hvt]
      clear hvt
      go_wp2_with (refine wpList_st rfl 40 (.tmp 57) (.tmp 55) rfl gt 11 rfl (.slice (some ⟨g2, 0, none⟩) t.n c2) #[.slice (some ⟨g2, 0, none⟩) t.n c2] rfl rfl info_bs1 one_sl KT.out (Nat.le_of_ble_eq_true rfl) (C' := hdC t (some ⟨g2, 0, none⟩) c2) (hd_put _ _ _ _ _) ?_; intro w50 q1; refine Hid.out ?_)
      refine Lib.hid ?_
      have KO2 : Hid (Own8 w50 g2 n c2 z) := Lib.hid (KO.out.block (q1.2.2 g2 ne_g2))
      replace KS := Lib.hid (KS.out.far q1 (by omega))
      replace KM := Lib.hid (KM.out.far q1 (by omega))
      replace HB := Lib.hid (HB.out.trans (q1.2.1 _ (by omega)))
      replace KT : Hid (Blk 91 w50 gt (hdC t (some ⟨g2, 0, none⟩) c2)) := Lib.hid q1.1
      clear q1
      clear KO
      go_wp2_with fail
      have KMd : Hid (MapAt w50.drew b M k) := Lib.hid KM.out
      clear KM
      have HBd : Hid (Below w.heap.size w w50.drew) := Lib.hid HB.out.drew
      clear HB
      have KO2d : Hid (Own8 w50.drew g2 n c2 z) := Lib.hid KO2.out
      clear KO2
      refine wp_region_held_drew (S := fun w' => Blk 76 w' s (stC b r) ∧ Blk 91 w' gt (hdC t (some ⟨g2, 0, none⟩) c2)) (by kernel_rfl) ⟨KS.out, KT.out⟩ (fun hS => ?_)
      generalize hW12 : w50.drew = W12 at hS KMd HBd KO2d ⊢
      clear hW12
      clear KS
      clear KT
      have KM := KMd
      clear KMd
      have HB := HBd
      clear HBd
      have KO2 := KO2d
      clear KO2d
      have KS := Lib.hid hS.1
      have KT := Lib.hid hS.2
      refine tY (i := 0) (some 58) (v := .pointer (some ⟨s, 0, none⟩)) rfl rfl (fun w' hS => by clear hS; go_simp) hS ?_
      simp only [Act.put, pA, pB, pC]
      refine tY (i := 1) (some 59) (v := .pointer (some ⟨s, 0, none⟩)) rfl rfl (fun w' hS => by clear hS; go_simp) hS ?_
      simp only [Act.put, pA, pB, pC]
      refine tY (i := 2) (some 60) (v := .pointer (some ⟨s, 0, none⟩)) rfl rfl (fun w' hS => by clear hS; go_simp) hS ?_
      simp only [Act.put, pA, pB, pC]
      refine tY (i := 3) (some 61) (v := .map (some b)) rfl rfl (fun w' hS => by (have c9 : w'.cell? ⟨s, 0, none⟩ = some (.map (some b)) := (hS.1.cell 0).trans rfl; clear hS; go_simp)) hS ?_
      simp only [Act.put, pA, pB, pC]
      refine tY (i := 4) (some 62) (v := .pointer (some ⟨gt, 0, none⟩)) rfl rfl (fun w' hS => by clear hS; go_simp) hS ?_
      simp only [Act.put, pA, pB, pC]
      refine tY (i := 5) (some 63) (v := .pointer (some ⟨gt, 0, none⟩)) rfl rfl (fun w' hS => by clear hS; go_simp) hS ?_
      simp only [Act.put, pA, pB, pC]
      refine tY (i := 6) (some 64) (v := .pointer (some ⟨gt, 0, none⟩)) rfl rfl (fun w' hS => by clear hS; go_simp) hS ?_
      simp only [Act.put, pA, pB, pC]
      refine tY (i := 7) (some 65) (v := .pointer (some ⟨gt, 0, none⟩)) rfl rfl (fun w' hS => by clear hS; go_simp) hS ?_
      simp only [Act.put, pA, pB, pC]
      refine tL (i := 8) (some 66) 35 (.tmp 65) gt 0 (iC t.id) _ rfl rfl rfl rfl (fun w' hS => hd_id hS.2) Tryz.underlying35 rfl info_iC hS ?_
      simp only [Act.put, pA, pB, pC]
      refine tY (i := 9) (some 67) (v := .pointer (some ⟨gt, 0, none⟩)) rfl rfl (fun w' hS => by clear hS; go_simp) hS ?_
      simp only [Act.put, pA, pB, pC]
      refine takeMu (i := 10) (.tmp 61) (.tmp 66) (.tmp 67) rfl rfl (by kernel_rfl) (by rfl) rfl KM.out HID.out rfl rfl rfl (fun w60 hm9 ht9 => ⟨⟨(ht9.block HNE.out).trans KS.out, (ht9.block (by omega)).trans KT.out⟩, ?_⟩)
      simp only [Act.put, pA, pB, pC]
      have KS9 : Hid (Blk 76 w60 s (stC b r)) := Lib.hid ((ht9.block HNE.out).trans KS.out)
      have KT9 : Hid (Blk 91 w60 gt (hdC t (some ⟨g2, 0, none⟩) c2)) := Lib.hid ((ht9.block (by omega)).trans KT.out)
      have KM9 := Lib.hid hm9
      have ne_g2b : g2 ≠ b := fun e => by subst e; obtain ⟨⟨cur, h1, _⟩, _⟩ := KO2.out; obtain ⟨es, cl, h2, _⟩ := KM.out; rw [h1] at h2; cases h2
      have KO9 : Hid (Own8 w60 g2 n c2 z) := Lib.hid (KO2.out.block (ht9.block ne_g2b))
      have HF9 : Hid (Fr w w60 s b) := Lib.hid ((Fr.of_below s b HB.out).trans (Fr.turn ht9))
      clear hm9 ht9 hS
      refine wpAnyH_done (by kernel_rfl) ?_ _
      go_wp2_with fail
      refine bodyPost_ret (v := .tuple #[.int .i64 1, .int .i64 0]) (by simp [results, Tryz.f14, go_sem]) rfl ?_
      have hHT : HdAt w60 B gt t := ⟨Nat.le_trans HST.out.ltB HGT.out, g2, 0, c2, KT9.out, by rw [HT.out.2.1, HT.out.2.2.1]; exact RwT.of KO9.out (by have := HN.out; omega), Nat.le_trans HST.out.ltB le_g2, by rw [HT.out.2.1]; exact KO9.out.caps.1, KO9.out.caps.2⟩
      have hSA := st_put HST.out KM0.out HMH.out HMA.out HMI.out HGT.out (by rw [HT.out.2.1]; exact HN.out) (by rw [HT.out.2.2.1]; exact HRA.out.2.2) HF9.out KS9.out KM9.out hHT
      rw [HMV.out] at hSA
      exact ⟨1, 0, rfl, HF9.out, .inl ⟨HHN.out, HK5.out, rfl, rfl, hSA⟩⟩
    · have hk6 : (512 : Int) ≤ (k : Int) := by omega
      have HK5 := Lib.hid hk5
      clear hk5
      go_wp2_with (refine wpList_st rfl 4 (.tmp 52) (.const (.bool true)) rfl s 1 rfl (.bool true) #[.bool true] rfl rfl info_bl (one_b _) KS.out (Nat.le_of_ble_eq_true rfl) (C' := stC b true) (st_ref _ _) ?_; intro w30 q1; refine Hid.out ?_)
      refine Lib.hid ?_
      have HF9 : Hid (Fr w w30 s b) := Lib.hid ((Fr.of_below s b HB.out).trans ⟨(q1.2.1 0 (Nat.zero_le _)).os, (q1.2.1 0 (Nat.zero_le _)).tape, (q1.2.1 0 (Nat.zero_le _)).output, (q1.2.1 0 (Nat.zero_le _)).size, fun i _ h1 _ => q1.2.2 i h1⟩)
      have hSA := st_full HST.out HF9.out q1.1 ((q1.2.2 b HNE.out.symm).trans (HB.out.block b HST.out.ltb))
      have HSA := Lib.hid hSA
      clear hSA q1
      go_wp2_with fail
      refine bodyPost_ret (v := .tuple #[.int .i64 0, .int .i64 10]) (by simp [results, Tryz.f14, go_sem]) rfl ?_
      exact ⟨0, 10, rfl, HF9.out, .inr (.inl ⟨HHN.out, by have := HK5.out; omega, rfl, rfl, HSA.out⟩)⟩
  | some g0 =>
    refine wp_region_held_drew (S := fun w' => Blk 76 w' s (stC b r) ∧ MapAt w' b M k ∧ Blk 91 w' gt (hdC t (some ⟨ba, oa, none⟩) c) ∧ Below w.heap.size w w') (by kernel_rfl) ⟨KS.out, KM.out, KT.out, HB.out.drew⟩ (fun hS => ?_)
    generalize hW11 : w1.drew = W11 at hS  ⊢
    clear hW11
    clear KS
    clear KM
    clear KT
    clear HB
    have KS := Lib.hid hS.1
    have KM := Lib.hid hS.2.1
    have KT := Lib.hid hS.2.2.1
    have HB := Lib.hid hS.2.2.2
    refine tY (i := 0) (some 26) (v := .pointer (some ⟨s, 0, none⟩)) rfl rfl (fun w' hS => by clear hS; go_simp) hS ?_
    simp only [Act.put, pA, pB, pC]
    refine tY (i := 1) (some 27) (v := .pointer (some ⟨s, 0, none⟩)) rfl rfl (fun w' hS => by clear hS; go_simp) hS ?_
    simp only [Act.put, pA, pB, pC]
    refine tY (i := 2) (some 28) (v := .pointer (some ⟨s, 0, none⟩)) rfl rfl (fun w' hS => by clear hS; go_simp) hS ?_
    simp only [Act.put, pA, pB, pC]
    refine tY (i := 3) (some 29) (v := .map (some b)) rfl rfl (fun w' hS => by (have c9 : w'.cell? ⟨s, 0, none⟩ = some (.map (some b)) := (hS.1.cell 0).trans rfl; clear hS; go_simp)) hS ?_
    simp only [Act.put, pA, pB, pC]
    refine tY (i := 4) (some 30) (v := .pointer (some ⟨gt, 0, none⟩)) rfl rfl (fun w' hS => by clear hS; go_simp) hS ?_
    simp only [Act.put, pA, pB, pC]
    refine tY (i := 5) (some 31) (v := .pointer (some ⟨gt, 0, none⟩)) rfl rfl (fun w' hS => by clear hS; go_simp) hS ?_
    simp only [Act.put, pA, pB, pC]
    refine tY (i := 6) (some 32) (v := .pointer (some ⟨gt, 0, none⟩)) rfl rfl (fun w' hS => by clear hS; go_simp) hS ?_
    simp only [Act.put, pA, pB, pC]
    refine tY (i := 7) (some 33) (v := .pointer (some ⟨gt, 0, none⟩)) rfl rfl (fun w' hS => by clear hS; go_simp) hS ?_
    simp only [Act.put, pA, pB, pC]
    refine tL (i := 8) (some 34) 35 (.tmp 33) gt 0 (iC t.id) _ rfl rfl rfl rfl (fun w' hS => hd_id hS.2.2.1) Tryz.underlying35 rfl info_iC hS ?_
    simp only [Act.put, pA, pB, pC]
    refine tY (i := 9) (some 35) (v := .tuple #[.pointer (some ⟨g0, 0, none⟩), .bool true]) rfl rfl (fun w' hS => by (refine (look_run _ _ _ _ rfl hS.2.1 HID.out rfl rfl).trans ?_; rw [HMV.out]; rfl)) hS ?_
    simp only [Act.put, pA, pB, pC]
    refine tY (i := 10) (some 25) (v := .tuple #[.pointer (some ⟨g0, 0, none⟩), .bool true]) rfl rfl (fun w' hS => by clear hS; go_simp) hS ?_
    simp only [Act.put, pA, pB, pC]
    refine tY (i := 11) (some 36) (v := .pointer (some ⟨g0, 0, none⟩)) rfl rfl (fun w' hS => by clear hS; go_simp) hS ?_
    simp only [Act.put, pA, pB, pC]
    refine tY (i := 12) (some 37) (v := .bool true) rfl rfl (fun w' hS => by clear hS; go_simp) hS ?_
    simp only [Act.put, pA, pB, pC]
    refine tY (i := 13) (some 8) (v := .pointer (some ⟨g0, 0, none⟩)) rfl rfl (fun w' hS => by clear hS; go_simp) hS ?_
    simp only [Act.put, pA, pB, pC]
    refine tY (i := 14) (some 9) (v := .bool true) rfl rfl (fun w' hS => by clear hS; go_simp) hS ?_
    simp only [Act.put, pA, pB, pC]
    clear hS
    refine wpAnyH_done (by kernel_rfl) ?_ _
    obtain ⟨h0, hh0⟩ : ∃ h, H t.id = some h := by
      cases e : H t.id with
      | none => have := (HMH.out t.id).2 e; rw [HMV.out] at this; cases this
      | some h => exact ⟨h, rfl⟩
    have HH0 := Lib.hid hh0
    have HA0 := Lib.hid (HMA.out t.id g0 h0 HMV.out hh0)
    clear hh0
    go_wp2_with fail
    refine (compare_any t h0 gt g0 W11 ⟨_, _, KT.out, by rw [HT.out.2.1, HT.out.2.2.1]; exact .inr ⟨ba, oa, rfl, HRA.out.below' HB.out⟩ |> fun x => ⟨x, HRA.out.2.2⟩, by rw [HT.out.2.1]; exact HC.out.1, HC.out.2⟩ (HA0.out.1.below HB.out).r (by rw [HT.out.2.1]; exact HN.out) HA0.out.2.2.1).mono ?_
    rintro e w20 ⟨rfl, b1⟩
    replace KS := Lib.hid (KS.out.below b1 KS.out.lt)
    replace KM := Lib.hid (KM.out.below b1 KM.out.lt)
    replace KT := Lib.hid (KT.out.below b1 KT.out.lt)
    replace HB := Lib.hid (HB.out.trans (b1.mono HB.out.size))
    clear b1
    have HV := Lib.hid (tot_relH.val t h0)
    obtain ⟨rl, hrl⟩ : ∃ x, relH t h0 = x := ⟨_, rfl⟩
    rw [hrl] at HV ⊢
    have HRL := Lib.hid hrl
    clear hrl
    by_cases hr0 : rl ≤ 0
    · go_wp2_with fail
      refine bodyPost_ret (v := .tuple #[.int .i64 rl, .int .i64 0]) (by simp [results, Tryz.f14, go_sem]) rfl ?_
      exact ⟨rl, 0, rfl, (st_same HST.out HB.out).2, .inr (.inr (.inl ⟨h0, HH0.out, by rw [HRL.out]; exact hr0, HRL.out.symm, rfl, (st_same HST.out HB.out).1⟩))⟩
    · have HR0 := Lib.hid hr0
      have LW2 : Hid (w.heap.size ≤ w20.heap.size) := Lib.hid HB.out.size
      clear LW
      have LW := LW2
      go_wp2_with fail
      refine (cloneB2 ba oa n c z w20 (HRA.out.below' HB.out) (by have := HN.out; omega)).mono ?_
      rintro e w40 ⟨v40, rfl, ho, b1⟩
      obtain ⟨g2, c2, rfl, hg2, ho2⟩ := own_ofB ho (by have := HN.out; omega)
      replace KS := Lib.hid (KS.out.below b1 KS.out.lt)
      replace KM := Lib.hid (KM.out.below b1 KM.out.lt)
      replace KT := Lib.hid (KT.out.below b1 KT.out.lt)
      replace HB := Lib.hid (HB.out.trans (b1.mono HB.out.size))
      have KO : Hid (Own8 w40 g2 n c2 z) := Lib.hid ho2
      have le_g2 : w.heap.size ≤ g2 := Nat.le_trans LW.out hg2
      have ne_g2 : g2 ≠ gt := fun e => by subst e; obtain ⟨⟨cur, h1, _⟩, _⟩ := KO.out; have h2 : w40.heap[g2]? = _ := KT.out; rw [h1] at h2; injection h2 with h2; injection h2 with _ h2 _; exact absurd h2 (by decide)
      clear ho ho2 hg2 b1
      have hvt : Value.slice (some ⟨g2, 0, none⟩) n c2 = .slice (some ⟨g2, 0, none⟩) t.n c2 := by rw [HT.out.2.1]
      rw [hvt]
      clear hvt
      go_wp2_with (refine wpList_st rfl 40 (.tmp 57) (.tmp 55) rfl gt 11 rfl (.slice (some ⟨g2, 0, none⟩) t.n c2) #[.slice (some ⟨g2, 0, none⟩) t.n c2] rfl rfl info_bs1 one_sl KT.out (Nat.le_of_ble_eq_true rfl) (C' := hdC t (some ⟨g2, 0, none⟩) c2) (hd_put _ _ _ _ _) ?_; intro w50 q1; refine Hid.out ?_)
      refine Lib.hid ?_
      have KO2 : Hid (Own8 w50 g2 n c2 z) := Lib.hid (KO.out.block (q1.2.2 g2 ne_g2))
      replace KS := Lib.hid (KS.out.far q1 (by omega))
      replace KM := Lib.hid (KM.out.far q1 (by omega))
      replace HB := Lib.hid (HB.out.trans (q1.2.1 _ (by omega)))
      replace KT : Hid (Blk 91 w50 gt (hdC t (some ⟨g2, 0, none⟩) c2)) := Lib.hid q1.1
      clear q1
      clear KO
      go_wp2_with fail
      have KMd : Hid (MapAt w50.drew b M k) := Lib.hid KM.out
      clear KM
      have HBd : Hid (Below w.heap.size w w50.drew) := Lib.hid HB.out.drew
      clear HB
      have KO2d : Hid (Own8 w50.drew g2 n c2 z) := Lib.hid KO2.out
      clear KO2
      refine wp_region_held_drew (S := fun w' => Blk 76 w' s (stC b r) ∧ Blk 91 w' gt (hdC t (some ⟨g2, 0, none⟩) c2)) (by kernel_rfl) ⟨KS.out, KT.out⟩ (fun hS => ?_)
      generalize hW12 : w50.drew = W12 at hS KMd HBd KO2d ⊢
      clear hW12
      clear KS
      clear KT
      have KM := KMd
      clear KMd
      have HB := HBd
      clear HBd
      have KO2 := KO2d
      clear KO2d
      have KS := Lib.hid hS.1
      have KT := Lib.hid hS.2
      refine tY (i := 0) (some 58) (v := .pointer (some ⟨s, 0, none⟩)) rfl rfl (fun w' hS => by clear hS; go_simp) hS ?_
      simp only [Act.put, pA, pB, pC]
      refine tY (i := 1) (some 59) (v := .pointer (some ⟨s, 0, none⟩)) rfl rfl (fun w' hS => by clear hS; go_simp) hS ?_
      simp only [Act.put, pA, pB, pC]
      refine tY (i := 2) (some 60) (v := .pointer (some ⟨s, 0, none⟩)) rfl rfl (fun w' hS => by clear hS; go_simp) hS ?_
      simp only [Act.put, pA, pB, pC]
      refine tY (i := 3) (some 61) (v := .map (some b)) rfl rfl (fun w' hS => by (have c9 : w'.cell? ⟨s, 0, none⟩ = some (.map (some b)) := (hS.1.cell 0).trans rfl; clear hS; go_simp)) hS ?_
      simp only [Act.put, pA, pB, pC]
      refine tY (i := 4) (some 62) (v := .pointer (some ⟨gt, 0, none⟩)) rfl rfl (fun w' hS => by clear hS; go_simp) hS ?_
      simp only [Act.put, pA, pB, pC]
      refine tY (i := 5) (some 63) (v := .pointer (some ⟨gt, 0, none⟩)) rfl rfl (fun w' hS => by clear hS; go_simp) hS ?_
      simp only [Act.put, pA, pB, pC]
      refine tY (i := 6) (some 64) (v := .pointer (some ⟨gt, 0, none⟩)) rfl rfl (fun w' hS => by clear hS; go_simp) hS ?_
      simp only [Act.put, pA, pB, pC]
      refine tY (i := 7) (some 65) (v := .pointer (some ⟨gt, 0, none⟩)) rfl rfl (fun w' hS => by clear hS; go_simp) hS ?_
      simp only [Act.put, pA, pB, pC]
      refine tL (i := 8) (some 66) 35 (.tmp 65) gt 0 (iC t.id) _ rfl rfl rfl rfl (fun w' hS => hd_id hS.2) Tryz.underlying35 rfl info_iC hS ?_
      simp only [Act.put, pA, pB, pC]
      refine tY (i := 9) (some 67) (v := .pointer (some ⟨gt, 0, none⟩)) rfl rfl (fun w' hS => by clear hS; go_simp) hS ?_
      simp only [Act.put, pA, pB, pC]
      refine takeMu (i := 10) (.tmp 61) (.tmp 66) (.tmp 67) rfl rfl (by kernel_rfl) (by rfl) rfl KM.out HID.out rfl rfl rfl (fun w60 hm9 ht9 => ⟨⟨(ht9.block HNE.out).trans KS.out, (ht9.block (by omega)).trans KT.out⟩, ?_⟩)
      simp only [Act.put, pA, pB, pC]
      have KS9 : Hid (Blk 76 w60 s (stC b r)) := Lib.hid ((ht9.block HNE.out).trans KS.out)
      have KT9 : Hid (Blk 91 w60 gt (hdC t (some ⟨g2, 0, none⟩) c2)) := Lib.hid ((ht9.block (by omega)).trans KT.out)
      have KM9 := Lib.hid hm9
      have ne_g2b : g2 ≠ b := fun e => by subst e; obtain ⟨⟨cur, h1, _⟩, _⟩ := KO2.out; obtain ⟨es, cl, h2, _⟩ := KM.out; rw [h1] at h2; cases h2
      have KO9 : Hid (Own8 w60 g2 n c2 z) := Lib.hid (KO2.out.block (ht9.block ne_g2b))
      have HF9 : Hid (Fr w w60 s b) := Lib.hid ((Fr.of_below s b HB.out).trans (Fr.turn ht9))
      clear hm9 ht9 hS
      refine wpAnyH_done (by kernel_rfl) ?_ _
      go_wp2_with fail
      refine bodyPost_ret (v := .tuple #[.int .i64 1, .int .i64 0]) (by simp [results, Tryz.f14, go_sem]) rfl ?_
      have hHT : HdAt w60 B gt t := ⟨Nat.le_trans HST.out.ltB HGT.out, g2, 0, c2, KT9.out, by rw [HT.out.2.1, HT.out.2.2.1]; exact RwT.of KO9.out (by have := HN.out; omega), Nat.le_trans HST.out.ltB le_g2, by rw [HT.out.2.1]; exact KO9.out.caps.1, KO9.out.caps.2⟩
      have hSA := st_put HST.out KM0.out HMH.out HMA.out HMI.out HGT.out (by rw [HT.out.2.1]; exact HN.out) (by rw [HT.out.2.2.1]; exact HRA.out.2.2) HF9.out KS9.out KM9.out hHT
      rw [HMV.out] at hSA
      exact ⟨1, 0, rfl, HF9.out, .inr (.inr (.inr ⟨h0, HH0.out, by rw [HRL.out]; have := HR0.out; omega, rfl, rfl, hSA⟩))⟩
end Go.Proofs.YtkiaijmhoikdiaaGreat

/- store.find, Get. Each theorem states its conditions. -/
namespace Go.Proofs.YtkiaijmhoikdiaaGreat
open Go.RowKit Go.MapKept
set_option linter.unusedVariables false
set_option linter.unusedSimpArgs false

def FindP (w : World) (B : Nat) (H : Nat → Option Hd) (n : Nat) (e : Ending) (w' : World) : Prop :=
  Below w.heap.size w w' ∧ ((H n = none ∧ e = .returned (.tuple #[.pointer none, .int .i64 6])) ∨ ∃ g h, H n = some h ∧ e = .returned (.tuple #[.pointer (some ⟨g, 0, none⟩), .int .i64 0]) ∧ HdAt w' B g h ∧ (27 ≤ h.n ∧ h.n ≤ 1492) ∧ ∀ j, 0 ≤ h.z j ∧ h.z j ≤ 255)
theorem hd_ent {w : World} {g : Nat} {h : Hd} {A : Option Addr} {c : Nat} (k : Blk 91 w g (hdC h A c)) : w.rangeAt g 0 (enC (hdE h)).toList := hd_en k
theorem zero_en : (Tryz.prog.info? 58).map (·.zero) = some (some (.agg (enC ⟨fun _ => 0, 0, 0, 0⟩))) := by kernel_rfl
def en0 : En := ⟨fun _ => 0, 0, 0, 0⟩
theorem results_c {fn : Func} {p q r : Tmp} {t : TypeId} (h : fn.results = #[.tmp p, .cell q t, .tmp r]) (tmps : Array Value) (W : World) (g : Nat) (C : Array Value) (u v : Value) {d : TypeDesc} (hu : Tryz.prog.underlying t = some d) (hd : d.isRow = true) (hi : (Tryz.prog.info? t).map (·.size) = some C.size)
    (ha : tmps.getD p undef = u) (hp : tmps.getD q undef = .pointer (some ⟨g, 0, none⟩)) (hr : tmps.getD r undef = v) (hg : Blk t W g C) : (results fn tmps).run Tryz.prog W = .ok (.tuple #[u, .agg C, v]) W := by
  have h1 := run_loadVar_mid (P := Tryz.prog) W g 0 t C.toList _ hg.all hu hd (by simpa using hi)
  have ha' : (tmps[p]?).getD undef = u := by simpa using ha
  have hp' : (tmps[q]?).getD undef = .pointer (some ⟨g, 0, none⟩) := by simpa using hp
  have hr' : (tmps[r]?).getD undef = v := by simpa using hr
  simp only [results, h]
  simp [ha', hp', hr', asAddr, h1]
theorem en_over (a b : En) : putMany (enC a) 0 (enC b).toList = enC b := by kernel_rfl
theorem build_en0 (o : Oper) (e : Operand → Value) (ho : o.op = .build 58 #[]) (W : World) : (execOp e o).run Tryz.prog W = .ok (.value (.agg (enC en0))) W := by
  unfold execOp
  simp only [ho]
  kernel_rfl
def lfZ (h : Hd) : Nat → Int := fun j => if j = 10 then h.li / 256 % 256 else if j = 11 then h.li % 256 else h.z j
theorem shr_run (o : Oper) (e : Operand → Value) (x : Operand) (ho : o.op = .binOp .shr 3 x (.const (.int .u64 8)) 71) (l : Int) (hl : 0 ≤ l ∧ l ≤ 65535) (h0 : e x = .int .i64 l) (hc : e (.const (.int .u64 8)) = .int .u64 8) (W : World) : (execOp e o).run Tryz.prog W = .ok (.value (.int .i64 (l / 256))) W := by
  unfold execOp
  simp only [ho, h0, hc]
  simp [go_sem]
  try omega
theorem cu8_run (o : Oper) (e : Operand → Value) (x : Operand) (ho : o.op = .convert 3 5 x) (l : Int) (hl : 0 ≤ l ∧ l ≤ 65535) (h0 : e x = .int .i64 l) (W : World) : (execOp e o).run Tryz.prog W = .ok (.value (.int .u8 (l % 256))) W := by
  unfold execOp
  simp only [ho, h0]
  simp [go_sem, IntKind.wrap, IntKind.bits, IntKind.signed]
  try omega
theorem own_two {w : World} {g n c : Nat} {z : Nat → Int} (h : Own8 w g n c z) (h12 : 12 ≤ n) : ∃ cur, Blk 5 w g cur ∧ 12 ≤ cur.size ∧ ∀ (w' : World) (a b : Int), (0 ≤ a ∧ a ≤ 255) → (0 ≤ b ∧ b ≤ 255) → Blk 5 w' g (putMany (putMany cur 10 [.int .u8 a]) 11 [.int .u8 b]) → Own8 w' g n c (fun j => if j = 10 then a else if j = 11 then b else z j) := by
  obtain ⟨⟨cur, h1, h2, h3, h4, h5⟩, h6⟩ := h
  refine ⟨cur, h1, by omega, fun w' a b ha hb hw => ⟨⟨_, hw, h2, h3, by simp [putMany, h4], fun j hj => ?_⟩, fun j => ?_⟩⟩
  · simp only [putMany]
    by_cases e11 : j = 11
    · subst e11
      rw [Array.getElem?_setIfInBounds_self_of_lt (by simp; omega)]
      simp
    · rw [Array.getElem?_setIfInBounds_ne (fun e => e11 e.symm)]
      by_cases e10 : j = 10
      · subst e10
        rw [Array.getElem?_setIfInBounds_self_of_lt (by omega)]
        simp
      · rw [Array.getElem?_setIfInBounds_ne (fun e => e10 e.symm), h5 j hj]
        simp [e10, e11]
  · dsimp only
    split
    · exact ha
    · split
      · exact hb
      · exact h6 j
theorem info_u81 : (Tryz.prog.info? 5).map (·.size) = some 1 := by kernel_rfl
theorem one_u8v (k : Int) : (#[Value.int .u8 k] : Array Value).all (·.oneCell') = true := by kernel_rfl
set_option maxHeartbeats 8000000 in
set_option maxRecDepth 100000 in
theorem find_any (B s b k n : Nat) (H : Nat → Option Hd) (r : Bool) (w : World) (hst : StAt w B s b H k r) (hn : IdOk n) : Calls Tryz.prog 30 #[.pointer (some ⟨s, 0, none⟩), .agg (iC n)] w (FindP w B H n) := by
  obtain ⟨M, hM, hMH, hMA, _⟩ := hst.map
  have HMH := Lib.hid hMH
  have HMA := Lib.hid hMA
  have KS := Lib.hid hst.blk
  have KM := Lib.hid hM
  have HID := Lib.hid hn
  clear hst hM hMH hMA hn
  go_enter Tryz.func30, Tryz.ntmps30
  have HB := Lib.hid (Below.refl w.heap.size w)
  obtain ⟨N1, hN1⟩ : ∃ N, w.heap.size = N := ⟨_, rfl⟩
  have HN1 := Lib.hid hN1
  clear hN1
  go_wp2_with (refine wpList_box (op := ⟨some 3, _, _, _, _, _⟩) rfl 35 (.tmp 1) rfl (iC n) rfl N1 HN1.out ?_; intro w1 k1 b1 s1; refine Hid.out ?_)
  refine Lib.hid ?_
  have K3 := Lib.hid k1
  clear k1
  have lt_s_N1 : s < N1 := by rw [← HN1.out]; exact KS.out.lt
  have lt_b_N1 : b < N1 := by rw [← HN1.out]; exact KM.out.lt
  have le_HB_N1 : w.heap.size ≤ N1 := by rw [← HN1.out]; exact HB.out.size
  replace KS := Lib.hid (KS.out.below b1 KS.out.lt)
  replace KM := Lib.hid (KM.out.below b1 KM.out.lt)
  replace HB := Lib.hid (HB.out.trans (b1.mono HB.out.size))
  clear b1 HN1
  go_wp2_with fail
  obtain ⟨mv, hmv⟩ : ∃ v, M n = v := ⟨_, rfl⟩
  have HMV := Lib.hid hmv
  clear hmv
  cases mv with
  | none =>
    refine wp_region_held_drew (S := fun w' => Blk 76 w' s (stC b r) ∧ MapAt w' b M k ∧ Blk 35 w' N1 (iC n) ∧ Below w.heap.size w w') (by kernel_rfl) ⟨KS.out, KM.out, K3.out, HB.out.drew⟩ (fun hS => ?_)
    generalize hW2 : w1.drew = W2 at hS  ⊢
    clear hW2
    clear KS
    clear KM
    clear K3
    clear HB
    have KS := Lib.hid hS.1
    have KM := Lib.hid hS.2.1
    have K3 := Lib.hid hS.2.2.1
    have HB := Lib.hid hS.2.2.2
    refine tY (i := 0) (some 11) (v := .pointer (some ⟨s, 0, none⟩)) rfl rfl (fun w' hS => by clear hS; go_simp) hS ?_
    simp only [Act.put, pA, pB, pC]
    refine tY (i := 1) (some 12) (v := .pointer (some ⟨s, 0, none⟩)) rfl rfl (fun w' hS => by clear hS; go_simp) hS ?_
    simp only [Act.put, pA, pB, pC]
    refine tY (i := 2) (some 13) (v := .pointer (some ⟨s, 0, none⟩)) rfl rfl (fun w' hS => by clear hS; go_simp) hS ?_
    simp only [Act.put, pA, pB, pC]
    refine tY (i := 3) (some 14) (v := .map (some b)) rfl rfl (fun w' hS => by (have c9 : w'.cell? ⟨s, 0, none⟩ = some (.map (some b)) := (hS.1.cell 0).trans rfl; clear hS; go_simp)) hS ?_
    simp only [Act.put, pA, pB, pC]
    refine tL (i := 4) (some 15) 35 (.tmp 3) N1 0 (iC n) _ rfl rfl rfl rfl (fun w' hS => hS.2.2.1.all) Tryz.underlying35 rfl info_iC hS ?_
    simp only [Act.put, pA, pB, pC]
    refine tY (i := 5) (some 16) (v := .tuple #[.pointer none, .bool false]) rfl rfl (fun w' hS => by (refine (look_run _ _ _ _ rfl hS.2.1 HID.out rfl rfl).trans ?_; rw [HMV.out]; rfl)) hS ?_
    simp only [Act.put, pA, pB, pC]
    refine tY (i := 6) (some 10) (v := .tuple #[.pointer none, .bool false]) rfl rfl (fun w' hS => by clear hS; go_simp) hS ?_
    simp only [Act.put, pA, pB, pC]
    refine tY (i := 7) (some 17) (v := .pointer none) rfl rfl (fun w' hS => by clear hS; go_simp) hS ?_
    simp only [Act.put, pA, pB, pC]
    refine tY (i := 8) (some 18) (v := .bool false) rfl rfl (fun w' hS => by clear hS; go_simp) hS ?_
    simp only [Act.put, pA, pB, pC]
    refine tY (i := 9) (some 6) (v := .pointer none) rfl rfl (fun w' hS => by clear hS; go_simp) hS ?_
    simp only [Act.put, pA, pB, pC]
    refine tY (i := 10) (some 7) (v := .bool false) rfl rfl (fun w' hS => by clear hS; go_simp) hS ?_
    simp only [Act.put, pA, pB, pC]
    clear hS
    refine wpAnyH_done (by kernel_rfl) ?_ _
    go_wp2_with fail
    refine bodyPost_ret (v := .tuple #[.pointer none, .int .i64 6]) (by simp [results, Tryz.f30, go_sem]) rfl ?_
    exact ⟨HB.out, .inl ⟨(HMH.out n).1 HMV.out, rfl⟩⟩
  | some g0 =>
    refine wp_region_held_drew (S := fun w' => Blk 76 w' s (stC b r) ∧ MapAt w' b M k ∧ Blk 35 w' N1 (iC n) ∧ Below w.heap.size w w') (by kernel_rfl) ⟨KS.out, KM.out, K3.out, HB.out.drew⟩ (fun hS => ?_)
    generalize hW2 : w1.drew = W2 at hS  ⊢
    clear hW2
    clear KS
    clear KM
    clear K3
    clear HB
    have KS := Lib.hid hS.1
    have KM := Lib.hid hS.2.1
    have K3 := Lib.hid hS.2.2.1
    have HB := Lib.hid hS.2.2.2
    refine tY (i := 0) (some 11) (v := .pointer (some ⟨s, 0, none⟩)) rfl rfl (fun w' hS => by clear hS; go_simp) hS ?_
    simp only [Act.put, pA, pB, pC]
    refine tY (i := 1) (some 12) (v := .pointer (some ⟨s, 0, none⟩)) rfl rfl (fun w' hS => by clear hS; go_simp) hS ?_
    simp only [Act.put, pA, pB, pC]
    refine tY (i := 2) (some 13) (v := .pointer (some ⟨s, 0, none⟩)) rfl rfl (fun w' hS => by clear hS; go_simp) hS ?_
    simp only [Act.put, pA, pB, pC]
    refine tY (i := 3) (some 14) (v := .map (some b)) rfl rfl (fun w' hS => by (have c9 : w'.cell? ⟨s, 0, none⟩ = some (.map (some b)) := (hS.1.cell 0).trans rfl; clear hS; go_simp)) hS ?_
    simp only [Act.put, pA, pB, pC]
    refine tL (i := 4) (some 15) 35 (.tmp 3) N1 0 (iC n) _ rfl rfl rfl rfl (fun w' hS => hS.2.2.1.all) Tryz.underlying35 rfl info_iC hS ?_
    simp only [Act.put, pA, pB, pC]
    refine tY (i := 5) (some 16) (v := .tuple #[.pointer (some ⟨g0, 0, none⟩), .bool true]) rfl rfl (fun w' hS => by (refine (look_run _ _ _ _ rfl hS.2.1 HID.out rfl rfl).trans ?_; rw [HMV.out]; rfl)) hS ?_
    simp only [Act.put, pA, pB, pC]
    refine tY (i := 6) (some 10) (v := .tuple #[.pointer (some ⟨g0, 0, none⟩), .bool true]) rfl rfl (fun w' hS => by clear hS; go_simp) hS ?_
    simp only [Act.put, pA, pB, pC]
    refine tY (i := 7) (some 17) (v := .pointer (some ⟨g0, 0, none⟩)) rfl rfl (fun w' hS => by clear hS; go_simp) hS ?_
    simp only [Act.put, pA, pB, pC]
    refine tY (i := 8) (some 18) (v := .bool true) rfl rfl (fun w' hS => by clear hS; go_simp) hS ?_
    simp only [Act.put, pA, pB, pC]
    refine tY (i := 9) (some 6) (v := .pointer (some ⟨g0, 0, none⟩)) rfl rfl (fun w' hS => by clear hS; go_simp) hS ?_
    simp only [Act.put, pA, pB, pC]
    refine tY (i := 10) (some 7) (v := .bool true) rfl rfl (fun w' hS => by clear hS; go_simp) hS ?_
    simp only [Act.put, pA, pB, pC]
    clear hS
    refine wpAnyH_done (by kernel_rfl) ?_ _
    go_wp2_with fail
    refine bodyPost_ret (v := .tuple #[.pointer (some ⟨g0, 0, none⟩), .int .i64 0]) (by simp [results, Tryz.f30, go_sem]) rfl ?_
    obtain ⟨h0, hh0⟩ : ∃ h, H n = some h := by
      cases e : H n with
      | none => have := (HMH.out n).2 e; rw [HMV.out] at this; cases this
      | some h => exact ⟨h, rfl⟩
    have hA := HMA.out n g0 h0 HMV.out hh0
    exact ⟨HB.out, .inr ⟨g0, h0, hh0, rfl, hA.1.below HB.out, hA.2.2⟩⟩
def GetP (w : World) (H : Nat → Option Hd) (n : Nat) (e : Ending) (w' : World) : Prop :=
  Below w.heap.size w w' ∧ ((H n = none ∧ e = .returned (.tuple #[.slice none 0 0, .agg (enC en0), .int .i64 6])) ∨ ∃ h g c, H n = some h ∧ e = .returned (.tuple #[.slice (some ⟨g, 0, none⟩) h.n c, .agg (enC (hdE h)), .int .i64 0]) ∧ w.heap.size ≤ g ∧ Own8 w' g h.n c (lfZ h))
set_option maxHeartbeats 16000000 in
set_option maxRecDepth 100000 in
theorem stGet_any (B s b k n : Nat) (H : Nat → Option Hd) (r : Bool) (w : World) (hst : StAt w B s b H k r) (hn : IdOk n) (hl : ∀ h, H n = some h → 0 ≤ h.li ∧ h.li ≤ 65535) : Calls Tryz.prog 17 #[.pointer (some ⟨s, 0, none⟩), .agg (iC n)] w (GetP w H n) := by
  have HST := Lib.hid hst
  have HID := Lib.hid hn
  have HLI := Lib.hid hl
  clear hst hn hl
  go_enter Tryz.func17, Tryz.ntmps17
  have HB := Lib.hid (Below.refl w.heap.size w)
  obtain ⟨N1, hN1⟩ : ∃ N, w.heap.size = N := ⟨_, rfl⟩
  have HN1 := Lib.hid hN1
  clear hN1
  go_wp2_with (refine wpList_box (op := ⟨some 3, _, _, _, _, _⟩) rfl 35 (.tmp 1) rfl (iC n) rfl N1 HN1.out ?_; intro w1 k1 b1 s1; refine Hid.out ?_)
  refine Lib.hid ?_
  have K3 := Lib.hid k1
  clear k1
  have le_HB_N1 : w.heap.size ≤ N1 := by rw [← HN1.out]; exact HB.out.size
  replace HB := Lib.hid (HB.out.trans (b1.mono HB.out.size))
  clear b1 HN1
  obtain ⟨N2, hN2⟩ : ∃ N, w1.heap.size = N := ⟨_, rfl⟩
  have HN2 := Lib.hid hN2
  clear hN2
  go_wp2_with (refine wpList_new (op := ⟨some 5, _, _, _, _, _⟩) rfl 58 rfl (enC en0) zero_en N2 HN2.out ?_; intro w2 k1 b1 s1; refine Hid.out ?_)
  refine Lib.hid ?_
  have K5 := Lib.hid k1
  clear k1
  have lt_N1_N2 : N1 < N2 := by rw [← HN2.out]; exact K3.out.lt
  have le_HB_N2 : w.heap.size ≤ N2 := by rw [← HN2.out]; exact HB.out.size
  replace K3 := Lib.hid (K3.out.below b1 K3.out.lt)
  replace HB := Lib.hid (HB.out.trans (b1.mono HB.out.size))
  clear b1 HN2
  go_wp2_with (refine wpList_ld (op := ⟨some 12, _, _, _, _, _⟩) (by rfl) 35 (.tmp 3) rfl N1 0 rfl (iC n) _ K3.out.all Tryz.underlying35 rfl info_iC ?_; refine Hid.out ?_)
  refine Lib.hid ?_
  go_wp2_with fail
  refine (find_any B s b k n H r w2 (HST.out.below HB.out) HID.out).mono ?_
  rintro e w10 ⟨b1, hc⟩
  replace K3 := Lib.hid (K3.out.below b1 K3.out.lt)
  replace K5 := Lib.hid (K5.out.below b1 K5.out.lt)
  replace HB := Lib.hid (HB.out.trans (b1.mono HB.out.size))
  clear b1
  rcases hc with ⟨hH, rfl⟩ | ⟨g0, h, hH, rfl, hA, hN, hZ⟩
  · skip
    have HH := Lib.hid hH
    clear hH
    go_wp2_with (refine wpList_v (op := ⟨some 18, _, _, _, _, _⟩) rfl (.agg (enC en0)) (build_en0 _ _ rfl _) ?_; refine Hid.out ?_)
    refine Lib.hid ?_
    go_wp2_with (refine wpList_st rfl 58 (.tmp 5) (.tmp 18) rfl N2 0 rfl (.agg (enC en0)) (enC en0) rfl rfl info_enP (enC_all _) K5.out (Nat.le_of_ble_eq_true rfl) (C' := enC en0) (en_over _ _) ?_; intro w20 q1; refine Hid.out ?_)
    refine Lib.hid ?_
    replace K3 := Lib.hid (K3.out.far q1 (by omega))
    replace HB := Lib.hid (HB.out.trans (q1.2.1 _ (by omega)))
    replace K5 : Hid (Blk 58 w20 N2 (enC en0)) := Lib.hid q1.1
    clear q1
    go_wp2_with fail
    exact bodyPost_ret (results_c rfl _ _ N2 (enC en0) (.slice none 0 0) (.int .i64 6) Tryz.underlying58 rfl info_enP rfl rfl rfl K5.out) rfl ⟨HB.out, .inl ⟨HH.out, rfl⟩⟩
  · skip
    have HH := Lib.hid hH
    have HN := Lib.hid hN
    have HZ := Lib.hid hZ
    have HL := Lib.hid (HLI.out h hH)
    obtain ⟨_, ba, oa, c, k0, hrt, _, hnc, hcm⟩ := hA
    have hra := hrt.1
    have K0 := Lib.hid k0
    have HR := Lib.hid hra
    clear hH hN hZ k0 hrt hnc hcm hra
    have c11 : w10.cell? ⟨g0, 11, none⟩ = some (.slice (some ⟨ba, oa, none⟩) h.n c) := (K0.out.cell 11).trans rfl
    go_wp2_with fail
    clear c11
    refine (cloneB2 ba oa h.n c h.z w10 HR.out (by have := HN.out; omega)).mono ?_
    rintro e w20 ⟨v20, rfl, ho, b1⟩
    obtain ⟨g2, c2, rfl, hg2, ho2⟩ := own_ofB ho (by have := HN.out; omega)
    have hG2 : w.heap.size ≤ g2 := Nat.le_trans HB.out.size hg2
    have ne_K3 : N1 < g2 := Nat.lt_of_lt_of_le K3.out.lt hg2
    have ne_K5 : N2 < g2 := Nat.lt_of_lt_of_le K5.out.lt hg2
    have ne_K0 : g0 < g2 := Nat.lt_of_lt_of_le K0.out.lt hg2
    replace K3 := Lib.hid (K3.out.below b1 K3.out.lt)
    replace K5 := Lib.hid (K5.out.below b1 K5.out.lt)
    replace K0 := Lib.hid (K0.out.below b1 K0.out.lt)
    replace HB := Lib.hid (HB.out.trans (b1.mono HB.out.size))
    have ne05 : g0 ≠ N2 := fun e => by have h1 : w20.heap[g0]? = _ := K0.out; have h2 : w20.heap[N2]? = _ := K5.out; rw [e, h2] at h1; injection h1 with h1; injection h1 with _ h1 _; exact absurd h1 (by decide)
    obtain ⟨cur, hcur, hsz, hfin⟩ := own_two ho2 (by have := HN.out; omega)
    have KC := Lib.hid hcur
    have HFIN := Lib.hid hfin
    have HNC := Lib.hid (And.intro ho2.caps.1 ho2.caps.2)
    clear ho ho2 hg2 b1 hcur hfin
    obtain ⟨nn, hnn⟩ : ∃ m, h.n = m := ⟨_, rfl⟩
    rw [hnn]
    have HNN := Lib.hid hnn
    have h10 : (10 : Int) < (nn : Int) := by have := HN.out; omega
    have h11 : (11 : Int) < (nn : Int) := by have := HN.out; omega
    clear hnn
    go_wp2_with fail
    clear K3
    have KCd : Hid (Blk 5 w20.drew g2 cur) := Lib.hid KC.out
    clear KC
    refine wp_region_held_drew (S := fun w' => Blk 58 w' N2 (enC en0) ∧ Blk 91 w' g0 (hdC h (some ⟨ba, oa, none⟩) c) ∧ Below w.heap.size w w') (by kernel_rfl) ⟨K5.out, K0.out, HB.out.drew⟩ (fun hS => ?_)
    generalize hW31 : w20.drew = W31 at hS KCd ⊢
    clear hW31
    clear K5
    clear K0
    clear HB
    have KC := KCd
    clear KCd
    have K5 := Lib.hid hS.1
    have K0 := Lib.hid hS.2.1
    have HB := Lib.hid hS.2.2
    refine tY (i := 0) (some 25) (v := .slice (some ⟨g2, 0, none⟩) nn c2) rfl rfl (fun w' hS => by clear hS; go_simp) hS ?_
    simp only [Act.put, pA, pB, pC]
    refine tY (i := 1) (some 26) (v := .slice (some ⟨g2, 0, none⟩) nn c2) rfl rfl (fun w' hS => by clear hS; go_simp) hS ?_
    simp only [Act.put, pA, pB, pC]
    refine tY (i := 2) (some 27) (v := .pointer (some ⟨g0, 0, none⟩)) rfl rfl (fun w' hS => by clear hS; go_simp) hS ?_
    simp only [Act.put, pA, pB, pC]
    refine tY (i := 3) (some 28) (v := .pointer (some ⟨g0, 0, none⟩)) rfl rfl (fun w' hS => by clear hS; go_simp) hS ?_
    simp only [Act.put, pA, pB, pC]
    refine tY (i := 4) (some 29) (v := .pointer (some ⟨g0, 0, none⟩)) rfl rfl (fun w' hS => by clear hS; go_simp) hS ?_
    simp only [Act.put, pA, pB, pC]
    refine tY (i := 5) (some 30) (v := .pointer (some ⟨g0, 9, none⟩)) rfl rfl (fun w' hS => by clear hS; go_simp) hS ?_
    simp only [Act.put, pA, pB, pC]
    refine tY (i := 6) (some 31) (v := .int .i64 h.li) rfl rfl (fun w' hS => by (have c9 : w'.cell? ⟨g0, 9, none⟩ = some (.int .i64 h.li) := (hS.2.1.cell 9).trans rfl; clear hS; go_simp)) hS ?_
    simp only [Act.put, pA, pB, pC]
    refine tY (i := 7) (some 32) (v := .int .i64 (h.li / 256)) rfl rfl (fun w' hS => by exact shr_run _ _ _ rfl _ HL.out rfl rfl _) hS ?_
    simp only [Act.put, pA, pB, pC]
    refine tY (i := 8) (some 33) (v := .int .u8 (h.li / 256 % 256)) rfl rfl (fun w' hS => by exact cu8_run _ _ _ rfl _ (by have := HL.out; omega) rfl _) hS ?_
    simp only [Act.put, pA, pB, pC]
    refine tY (i := 9) (some 34) (v := .pointer (some ⟨g0, 0, none⟩)) rfl rfl (fun w' hS => by clear hS; go_simp) hS ?_
    simp only [Act.put, pA, pB, pC]
    refine tY (i := 10) (some 35) (v := .pointer (some ⟨g0, 0, none⟩)) rfl rfl (fun w' hS => by clear hS; go_simp) hS ?_
    simp only [Act.put, pA, pB, pC]
    refine tY (i := 11) (some 36) (v := .pointer (some ⟨g0, 0, none⟩)) rfl rfl (fun w' hS => by clear hS; go_simp) hS ?_
    simp only [Act.put, pA, pB, pC]
    refine tY (i := 12) (some 37) (v := .pointer (some ⟨g0, 9, none⟩)) rfl rfl (fun w' hS => by clear hS; go_simp) hS ?_
    simp only [Act.put, pA, pB, pC]
    refine tY (i := 13) (some 38) (v := .int .i64 h.li) rfl rfl (fun w' hS => by (have c9 : w'.cell? ⟨g0, 9, none⟩ = some (.int .i64 h.li) := (hS.2.1.cell 9).trans rfl; clear hS; go_simp)) hS ?_
    simp only [Act.put, pA, pB, pC]
    refine tY (i := 14) (some 39) (v := .int .u8 (h.li % 256)) rfl rfl (fun w' hS => by exact cu8_run _ _ _ rfl _ HL.out rfl _) hS ?_
    simp only [Act.put, pA, pB, pC]
    refine tY (i := 15) (some 40) (v := .pointer (some ⟨g2, 10, none⟩)) rfl rfl (fun w' hS => by clear hS; go_simp) hS ?_
    simp only [Act.put, pA, pB, pC]
    refine takeSt (i := 16) 5 (.tmp 40) (.tmp 33) g2 10 (.int .u8 (h.li / 256 % 256)) #[.int .u8 (h.li / 256 % 256)] (putMany cur 10 [.int .u8 (h.li / 256 % 256)]) rfl rfl (by kernel_rfl) (by rfl) rfl rfl rfl rfl info_u81 (one_u8v _) KC.out (by simp; omega) rfl ?_
    intro p1 q1
    refine ⟨⟨K5.out.far q1 (by omega), K0.out.far q1 (by omega), HB.out.trans (q1.2.1 _ (by omega))⟩, ?_⟩
    simp only [Act.put, pA, pB, pC]
    replace KC : Hid (Blk 5 p1 g2 (putMany cur 10 [.int .u8 (h.li / 256 % 256)])) := Lib.hid q1.1
    replace K5 := Lib.hid (K5.out.far q1 (by omega))
    replace K0 := Lib.hid (K0.out.far q1 (by omega))
    replace HB := Lib.hid (HB.out.trans (q1.2.1 _ (by omega)))
    clear q1 hS
    have hS := (And.intro K5.out (And.intro K0.out HB.out))
    refine tY (i := 17) (some 41) (v := .pointer (some ⟨g2, 11, none⟩)) rfl rfl (fun w' hS => by clear hS; go_simp) hS ?_
    simp only [Act.put, pA, pB, pC]
    refine takeSt (i := 18) 5 (.tmp 41) (.tmp 39) g2 11 (.int .u8 (h.li % 256)) #[.int .u8 (h.li % 256)] (putMany (putMany cur 10 [.int .u8 (h.li / 256 % 256)]) 11 [.int .u8 (h.li % 256)]) rfl rfl (by kernel_rfl) (by rfl) rfl rfl rfl rfl info_u81 (one_u8v _) KC.out (by simp [putMany]; omega) rfl ?_
    intro p2 q1
    refine ⟨⟨K5.out.far q1 (by omega), K0.out.far q1 (by omega), HB.out.trans (q1.2.1 _ (by omega))⟩, ?_⟩
    simp only [Act.put, pA, pB, pC]
    replace KC : Hid (Blk 5 p2 g2 (putMany (putMany cur 10 [.int .u8 (h.li / 256 % 256)]) 11 [.int .u8 (h.li % 256)])) := Lib.hid q1.1
    replace K5 := Lib.hid (K5.out.far q1 (by omega))
    replace K0 := Lib.hid (K0.out.far q1 (by omega))
    replace HB := Lib.hid (HB.out.trans (q1.2.1 _ (by omega)))
    clear q1 hS
    have hS := (And.intro K5.out (And.intro K0.out HB.out))
    clear hS
    refine wpAnyH_done (by kernel_rfl) ?_ _
    go_wp2_with fail
    have KCd : Hid (Blk 5 p2.drew g2 (putMany (putMany cur 10 [.int .u8 (h.li / 256 % 256)]) 11 [.int .u8 (h.li % 256)])) := Lib.hid KC.out
    clear KC
    have K5d : Hid (Blk 58 p2.drew N2 (enC en0)) := Lib.hid K5.out
    clear K5
    refine wp_region_held_drew (S := fun w' => Blk 91 w' g0 (hdC h (some ⟨ba, oa, none⟩) c) ∧ Below w.heap.size w w') (by kernel_rfl) ⟨K0.out, HB.out.drew⟩ (fun hS => ?_)
    generalize hW61 : p2.drew = W61 at hS KCd K5d ⊢
    clear hW61
    clear K0
    clear HB
    have KC := KCd
    clear KCd
    have K5 := K5d
    clear K5d
    have K0 := Lib.hid hS.1
    have HB := Lib.hid hS.2
    refine tY (i := 0) (some 42) (v := .slice (some ⟨g2, 0, none⟩) nn c2) rfl rfl (fun w' hS => by clear hS; go_simp) hS ?_
    simp only [Act.put, pA, pB, pC]
    refine tY (i := 1) (some 43) (v := .pointer (some ⟨g0, 0, none⟩)) rfl rfl (fun w' hS => by clear hS; go_simp) hS ?_
    simp only [Act.put, pA, pB, pC]
    refine tY (i := 2) (some 44) (v := .pointer (some ⟨g0, 0, none⟩)) rfl rfl (fun w' hS => by clear hS; go_simp) hS ?_
    simp only [Act.put, pA, pB, pC]
    refine tY (i := 3) (some 45) (v := .pointer (some ⟨g0, 0, none⟩)) rfl rfl (fun w' hS => by clear hS; go_simp) hS ?_
    simp only [Act.put, pA, pB, pC]
    refine tL (i := 4) (some 46) 58 (.tmp 45) g0 0 (enC (hdE h)) _ rfl rfl rfl rfl (fun w' hS => hd_en hS.1) Tryz.underlying58 rfl info_enP hS ?_
    simp only [Act.put, pA, pB, pC]
    refine tY (i := 5) (some 4) (v := .slice (some ⟨g2, 0, none⟩) nn c2) rfl rfl (fun w' hS => by clear hS; go_simp) hS ?_
    simp only [Act.put, pA, pB, pC]
    refine takeSt (i := 6) 58 (.tmp 5) (.tmp 46) N2 0 (.agg (enC (hdE h))) (enC (hdE h)) (enC (hdE h)) rfl rfl (by kernel_rfl) (by rfl) rfl rfl rfl rfl info_enP (enC_all _) K5.out (Nat.le_of_ble_eq_true rfl) (en_over _ _) ?_
    intro w90 q1
    refine ⟨⟨K0.out.far q1 (by omega), HB.out.trans (q1.2.1 _ (by omega))⟩, ?_⟩
    simp only [Act.put, pA, pB, pC]
    have K59 : Hid (Blk 58 w90 N2 (enC (hdE h))) := Lib.hid q1.1
    have KC9 : Hid (Blk 5 w90 g2 (putMany (putMany cur 10 [.int .u8 (h.li / 256 % 256)]) 11 [.int .u8 (h.li % 256)])) := Lib.hid (Blk.far KC.out q1 (by omega))
    have HB9 := Lib.hid (HB.out.trans (q1.2.1 _ (by omega)))
    have hS9 : Blk 91 w90 g0 (hdC h (some ⟨ba, oa, none⟩) c) ∧ Below w.heap.size w w90 := ⟨K0.out.far q1 (by omega), HB9.out⟩
    clear q1 hS K5 KC HB K0
    have hS := hS9
    clear hS9
    refine tY (i := 7) (some 6) (v := .int .i64 0) rfl rfl (fun w' hS => by clear hS; go_simp) hS ?_
    simp only [Act.put, pA, pB, pC]
    clear hS
    refine wpAnyH_done (by kernel_rfl) ?_ _
    go_wp2_with fail
    exact bodyPost_ret (results_c rfl _ _ N2 (enC (hdE h)) (.slice (some ⟨g2, 0, none⟩) nn c2) (.int .i64 0) Tryz.underlying58 rfl info_enP rfl rfl rfl K59.out) rfl ⟨HB9.out, .inr ⟨h, g2, c2, HH.out, by rw [HNN.out], hG2, (HFIN.out w90 _ _ (by have := HL.out; omega) (by have := HL.out; omega) KC9.out : Own8 w90 g2 h.n c2 (lfZ h))⟩⟩
end Go.Proofs.YtkiaijmhoikdiaaGreat

/- The order that List's sort is handed. Each theorem states its conditions. -/
namespace Go.Proofs.YtkiaijmhoikdiaaGreat
open Go.RowKit Go.Sort
set_option linter.unusedVariables false
set_option linter.unusedSimpArgs false

theorem ent_id {w : World} {g : Nat} {h : Hd} (k : Blk 58 w g (enC (hdE h))) : w.rangeAt g 0 (iC h.id).toList := k.range (eight8 ⟨rfl, rfl, rfl, rfl, rfl, rfl, rfl, rfl⟩)
set_option maxHeartbeats 8000000 in
set_option maxRecDepth 100000 in
theorem lst1_any (x y : Hd) (hx : IdOk x.id) (hy : IdOk y.id) (W : World) : Calls Tryz.prog 54 #[.agg (enC (hdE x)), .agg (enC (hdE y))] W fun e w' => e = .returned (.int .i64 (cmp3 (x.id : Int) (y.id : Int))) ∧ ∃ q os', w' = grow (W.drewN q) os' := by
  have HXY := Lib.hid (And.intro hx hy)
  clear hx hy
  obtain ⟨W2, hW2⟩ : ∃ W2, (W.alloc (.cells (enC (hdE x)) 58)).alloc (.cells (enC (hdE y)) 58) = W2 := ⟨_, rfl⟩
  have k1 : Blk 58 W2 W.heap.size (enC (hdE x)) := by rw [← hW2]; exact (Below.heap_alloc _ _ _ (by simp)).trans (heap_alloc_new W _)
  have k2 : Blk 58 W2 (W.heap.size + 1) (enC (hdE y)) := by
    rw [← hW2]
    have h := heap_alloc_new (W.alloc (.cells (enC (hdE x)) 58)) (.cells (enC (hdE y)) 58)
    rw [World.size_alloc] at h
    exact h
  have HW : Hid (∀ q os, ∃ os', grow (W2.drewN q) os = grow (W.drewN q) os') := Lib.hid fun q os => ⟨_, by
    rw [← hW2, alloc_eq_grow, alloc_eq_grow, grow_grow]
    exact grow_grow (W.drewN q) _ _⟩
  have K1 := Lib.hid k1
  have K2 := Lib.hid k2
  clear k1 k2
  go_enter Tryz.func54, Tryz.ntmps54
  go_upto_region 1 with (fail)
  clear hW2
  go_wp2_with (refine wpList_ld (op := ⟨some 6, _, _, _, _, _⟩) (by rfl) 35 (.tmp 5) rfl W.heap.size 0 rfl (iC x.id) _ (ent_id K1.out) Tryz.underlying35 rfl info_iC ?_; refine Hid.out ?_)
  refine Lib.hid ?_
  go_wp2_with (refine wpList_ld (op := ⟨some 8, _, _, _, _, _⟩) (by rfl) 35 (.tmp 7) rfl (W.heap.size + 1) 0 rfl (iC y.id) _ (ent_id K2.out) Tryz.underlying35 rfl info_iC ?_; refine Hid.out ?_)
  refine Lib.hid ?_
  go_wp2_with fail
  refine (order_any x.id y.id W2 HXY.out.1 HXY.out.2).mono ?_
  rintro e w' ⟨rfl, q, os', rfl⟩
  go_wp2_with fail
  go_ret
  obtain ⟨os2, h2⟩ := HW.out q os'
  exact ⟨rfl, q, os2, h2⟩
end Go.Proofs.YtkiaijmhoikdiaaGreat

/- Entries in a row of the call's own, and what the library's sort leaves there. Plain facts. Each theorem states its conditions. -/
namespace Go.Proofs.YtkiaijmhoikdiaaGreat
open Go.RowKit Go.Sort
set_option linter.unusedVariables false

def OwnR (w : World) (base : Nat) (e : TypeId) (s : Nat) (v : Value) (m : Nat) (C : Nat → Array Value) : Prop := w.ownsRow base e s v m (cellsR C m)
abbrev HdI := { h : Hd // IdOk h.id }
instance : Inhabited HdI := ⟨⟨⟨0, 0, 0, 0, 0, fun _ => 0, 0⟩, by unfold IdOk; decide⟩⟩
def enB (S : List HdI) : Nat → Array Value := fun j => enC (hdE (S[j]?.getD default).1)
theorem enC_ones (e : En) : ∀ u ∈ (enC e).toList, u.oneCell' = true := fun u hu => (Array.all_eq_true_iff_forall_mem.1 (enC_all e)) u (Array.mem_toList_iff.1 hu)
theorem recs_hd (S : List HdI) : Recs 11 (enB S) := fun j => ⟨rfl, enC_ones _⟩
theorem enB_at (S : List HdI) (j : Nat) (x : HdI) (h : S[j]? = some x) : enB S j = enC (hdE x.1) := by unfold enB; rw [h]; rfl
def enc11 (x : HdI) : List Value := (enC (hdE x.1)).toList
theorem flat_cells (S : List HdI) : (flatK enc11 11 S.toArray).toList = cellsR (enB S) S.length := by
  apply List.ext_getElem?
  intro t
  have hl := cellsR_len (recs_hd S) S.length
  have hs : (flatK enc11 11 S.toArray).size = S.length * 11 := by simp
  rcases Nat.lt_or_ge t (S.length * 11) with h | h
  · have hq : t / 11 < S.length := by omega
    have hr : t % 11 < 11 := Nat.mod_lt _ (by decide)
    have e := cellsR_at (recs_hd S) S.length (t / 11) (t % 11) hq hr
    rw [show t / 11 * 11 + t % 11 = t by omega] at e
    rw [e, Array.getElem?_toList, Array.getElem?_eq_getElem (by omega)]
    have g := get_flatK enc11 11 S.toArray t (by simpa using h)
    rw [getElem!_pos _ t (by omega)] at g
    rw [g]
    have hx : S[t / 11]? = some S[t / 11] := List.getElem?_eq_getElem hq
    rw [enB_at S _ _ hx]
    have h2 : S.toArray[t / 11]! = S[t / 11] := by rw [getElem!_pos _ _ (by simpa using hq)]; simp
    rw [h2]
    unfold enc11
    have h4 : t % 11 < (enC (hdE S[t / 11].1)).size := hr
    rw [List.getElem!_eq_getElem?_getD, Array.getElem?_toList, Array.getElem?_eq_getElem h4]
    rfl
  · rw [List.getElem?_eq_none (by rw [Array.length_toList]; omega), List.getElem?_eq_none (by omega)]
section
variable {w : World} {g cap n base : Nat} {e : TypeId} {os : Array Obj} {cur : Array Value} {S T : List HdI}
theorem holds_own (hb : w.heap[g]? = some (.cells cur e (0, 0))) (ht : cur.toList.take (S.length * 11) = cellsR (enB S) S.length) : HoldsK enc11 11 w g 0 S.toArray := by
  intro j hj
  have hj' : j < S.length * 11 := by simpa using hj
  refine ⟨?_, by simp [World.frozen?, hb]⟩
  rw [← flat_cells] at ht
  have h1 : (cur.toList.take (S.length * 11))[j]? = (flatK enc11 11 S.toArray).toList[j]? := by rw [ht]
  rw [List.getElem?_take_of_lt hj', Array.getElem?_toList, Array.getElem?_toList] at h1
  rw [Nat.zero_add, cell_of_row w g j cur e (0, 0) hb, h1, Array.getElem?_eq_getElem (by simpa using hj'), getElem!_pos _ j (by simpa using hj')]
  rfl
theorem heap_sortedK (d : Array HdI) (hb : w.heap[g]? = some (.cells cur e (0, 0))) : (grow (putRowK enc11 11 (Sort.ahead w n) g 0 d) os).heap[g]? = some (.cells (putCells id 0 (flatK enc11 11 d) cur) e (0, 0)) := by
  have hg : g < w.heap.size := (Array.getElem?_eq_some_iff.1 hb).1
  rw [heap_grow_old _ _ (by simpa [putRowK] using hg)]
  simp [putRowK, putRow, mapBlock, Sort.ahead, Array.getElem?_modify, hb, onCells]
theorem grownBy_sortedK (d : Array HdI) : w.grownBy (grow (putRowK enc11 11 (Sort.ahead w n) g 0 d) os) (some g) := by
  refine ⟨rfl, rfl, rfl, by simp [putRowK], fun k hk hne => ?_⟩
  rw [heap_grow_old _ _ (by simpa [putRowK] using hk)]
  have : g ≠ k := fun e => hne (by rw [e])
  simp [putRowK, putRow, mapBlock, Sort.ahead, Array.getElem?_modify, this]
theorem take_putK (h : T.length * 11 ≤ cur.size) : (putCells id 0 (flatK enc11 11 T.toArray) cur).toList.take (T.length * 11) = cellsR (enB T) T.length := by
  rw [← flat_cells]
  apply List.ext_getElem?
  intro j
  by_cases hj : j < T.length * 11
  · rw [List.getElem?_take_of_lt hj, Array.getElem?_toList, Array.getElem?_toList]
    simp [putCells, hj, show j < cur.size by omega]
  · rw [List.getElem?_take_eq_none (by omega), List.getElem?_eq_none (by simp; omega)]
theorem own_sorted (hl : T.length = S.length) (hbase : base ≤ g) (hb : w.heap[g]? = some (.cells cur e (0, 0))) (h1 : S.length ≤ cap) (h2 : cap ≤ maxLen) (h3 : cur.size = cap * 11) :
    OwnR (grow (putRowK enc11 11 (Sort.ahead w n) g 0 T.toArray) os) base e 11 (.slice (some ⟨g, 0, none⟩) S.length cap) T.length (enB T) :=
  ⟨by rw [cellsR_len (recs_hd T)], .inr ⟨g, cap, _, by rw [hl], hbase, heap_sortedK _ hb, by omega, h2, by simp [putCells, h3], take_putK (by omega)⟩⟩
end
theorem perm_all {S T : List HdI} (h : PermIn 0 S.toArray.size S.toArray T.toArray) : T.Perm S := by
  obtain ⟨h1, _, h3⟩ := h
  have e1 : S.toArray.extract 0 S.toArray.size = S.toArray := by simp
  have e2 : T.toArray.extract 0 S.toArray.size = T.toArray := by rw [← h1]; simp
  rw [e1, e2] at h3
  simpa using h3
def idH (x : HdI) : Int := (x.1.id : Int)
def cfH (x y : HdI) : Int := cmp3 (idH x) (idH y)
theorem cf_lt (x y : HdI) : decide (cfH x y < 0) = decide (idH x < idH y) := by
  unfold cfH cmp3
  by_cases h1 : idH x < idH y
  · simp [h1]
  · rw [if_neg h1]
    by_cases h2 : idH y < idH x
    · rw [if_pos h2]; simp; omega
    · rw [if_neg h2]; simp; omega
def Asc (S : List HdI) : Prop := ∀ i j, i < j → j < S.length → idH (S[i]?.getD default) ≤ idH (S[j]?.getD default)
end Go.Proofs.YtkiaijmhoikdiaaGreat

/-
  DERIVED: THE SHELF's CONTRACTS AT THIS DUMP, IN PLAIN WORDS (tools/lay-plain.mjs out of 'TryShelf.lean', which tools/lay-shelf.mjs wrote): THE SAME DECLARATIONS UNDER THE SAME NAMES: 'import', 'namespace', 'open', 'def', 'theorem' AND NOTHING ELSE: no command of the shelf's: FOR A HAND-IN. Each laying: the table of numbers ('.._ren') and one theorem, a field a fact of the dump's own or the kernel's comparison; each contract: ONE APPLICATION.
-/
namespace Go.Proofs
open Go.Shelf
def Tryz.sortE_ren : Go.Shelf.Ren := ⟨fun | 6 => 53 | 15 => 63 | 14 => 77 | 28 => 87 | 29 => 88 | 20 => 98 | 21 => 99 | 22 => 100 | 23 => 101 | 24 => 102 | 25 => 103 | 26 => 104 | 27 => 105 | 46 => 120 | 47 => 107 | 48 => 108 | 49 => 121 | 50 => 122 | 57 => 130 | n => n, fun | 22 => 67 | 24 => 58 | 25 => 111 | 3 => 3 | 39 => 71 | 0 => 0 | 53 => 36 | 55 => 107 | 4 => 4 | 46 => 140 | 45 => 139 | 50 => 144 | 5 => 5 | 9 => 9 | 66 => 162 | 70 => 166 | 76 => 181 | 77 => 62 | n => n, fun | n => n⟩
theorem Tryz.sortE : Go.Proofs.SlLaysF0.n6 Tryz.prog Tryz.sortE_ren := {
  mixed := by kernel_rfl
  f6 := ⟨Tryz.f53.name, by decide, Tryz.func53.trans (congrArg some (by kernel_rfl))⟩
  f14 := ⟨Tryz.f77.name, by decide, Tryz.func77.trans (congrArg some (by kernel_rfl))⟩
  f15 := Tryz.func63.trans (congrArg some (by kernel_rfl))
  f20 := ⟨Tryz.f98.name, by decide, Tryz.func98.trans (congrArg some (by kernel_rfl))⟩
  f21 := ⟨Tryz.f99.name, by decide, Tryz.func99.trans (congrArg some (by kernel_rfl))⟩
  f22 := ⟨Tryz.f100.name, by decide, Tryz.func100.trans (congrArg some (by kernel_rfl))⟩
  f23 := ⟨Tryz.f101.name, by decide, Tryz.func101.trans (congrArg some (by kernel_rfl))⟩
  f24 := ⟨Tryz.f102.name, by decide, Tryz.func102.trans (congrArg some (by kernel_rfl))⟩
  f25 := ⟨Tryz.f103.name, by decide, Tryz.func103.trans (congrArg some (by kernel_rfl))⟩
  f26 := ⟨Tryz.f104.name, by decide, Tryz.func104.trans (congrArg some (by kernel_rfl))⟩
  f27 := ⟨Tryz.f105.name, by decide, Tryz.func105.trans (congrArg some (by kernel_rfl))⟩
  f28 := Tryz.func87.trans (congrArg some (by kernel_rfl))
  f29 := Tryz.func88.trans (congrArg some (by kernel_rfl))
  f46 := ⟨Tryz.f120.name, by decide, Tryz.func120.trans (congrArg some (by kernel_rfl))⟩
  f47 := Tryz.func107.trans (congrArg some (by kernel_rfl))
  f48 := Tryz.func108.trans (congrArg some (by kernel_rfl))
  f49 := ⟨Tryz.f121.name, by decide, Tryz.func121.trans (congrArg some (by kernel_rfl))⟩
  f50 := ⟨Tryz.f122.name, by decide, Tryz.func122.trans (congrArg some (by kernel_rfl))⟩
  f57 := ⟨Tryz.f130.name, by decide, Tryz.func130.trans (congrArg some (by kernel_rfl))⟩
  t0 := Tryz.underlying0
  a0 := Tryz.isAgg0
  z0 := Tryz.sizeOf0
  v0 := Tryz.zeroValue0
  t3 := Tryz.underlying3
  a3 := Tryz.isAgg3
  z3 := Tryz.sizeOf3
  v3 := Tryz.zeroValue3
  t4 := Tryz.underlying4
  a4 := Tryz.isAgg4
  z4 := Tryz.sizeOf4
  v4 := Tryz.zeroValue4
  t5 := Tryz.underlying5
  a5 := Tryz.isAgg5
  z5 := Tryz.sizeOf5
  v5 := Tryz.zeroValue5
  t9 := Tryz.underlying9
  a9 := Tryz.isAgg9
  z9 := Tryz.sizeOf9
  v9 := Tryz.zeroValue9
  t22 := Tryz.underlying67
  a22 := Tryz.isAgg67
  z22 := Tryz.sizeOf67
  v22 := Tryz.zeroValue67
  t25 := Tryz.underlying111
  a25 := Tryz.isAgg111
  z25 := Tryz.sizeOf111
  v25 := Tryz.zeroValue111
  t39 := Tryz.underlying71
  a39 := Tryz.isAgg71
  z39 := Tryz.sizeOf71
  v39 := Tryz.zeroValue71
  t45 := Tryz.underlying139
  a45 := Tryz.isAgg139
  z45 := Tryz.sizeOf139
  v45 := Tryz.zeroValue139
  t46 := Tryz.underlying140
  a46 := Tryz.isAgg140
  z46 := Tryz.sizeOf140
  v46 := Tryz.zeroValue140
  t50 := Tryz.underlying144
  a50 := Tryz.isAgg144
  z50 := Tryz.sizeOf144
  v50 := Tryz.zeroValue144
  t53 := Tryz.underlying36
  a53 := Tryz.isAgg36
  z53 := Tryz.sizeOf36
  v53 := Tryz.zeroValue36
  t55 := Tryz.underlying107
  a55 := Tryz.isAgg107
  z55 := Tryz.sizeOf107
  v55 := Tryz.zeroValue107
  t66 := Tryz.underlying162
  a66 := Tryz.isAgg162
  z66 := Tryz.sizeOf162
  v66 := Tryz.zeroValue162
  t70 := Tryz.underlying166
  a70 := Tryz.isAgg166
  z70 := Tryz.sizeOf166
  v70 := Tryz.zeroValue166
  t76 := Tryz.underlying181
  a76 := Tryz.isAgg181
  z76 := Tryz.sizeOf181
  v76 := Tryz.zeroValue181
  t77 := Tryz.underlying62
  a77 := Tryz.isAgg62
  z77 := Tryz.sizeOf62
  v77 := Tryz.zeroValue62 }
end Go.Proofs

/- The library's sort at entries, as List calls it. Each theorem states its conditions. -/
namespace Go.Proofs.YtkiaijmhoikdiaaGreat
open Go.RowKit Go.Sort
set_option linter.unusedVariables false

theorem agg_en (w : World) : (isAgg 58).run Tryz.prog w = .ok true w := by kernel_rfl
theorem sz_en (w : World) : (Go.sizeOf 58).run Tryz.prog w = .ok 11 w := by kernel_rfl
theorem swo_hd : SWO (ltOf cfH) := by
  have e : ∀ x y, ltOf cfH x y = decide (idH x < idH y) := fun x y => cf_lt x y
  refine ⟨fun x => ?_, fun x y z h1 h2 => ?_, fun x y z h1 h2 => ?_⟩
  · rw [e]; simp
  · rw [e] at h1 h2 ⊢
    have := of_decide_eq_true h1
    have := of_decide_eq_true h2
    exact decide_eq_true (by omega)
  · rw [e] at h1 h2 ⊢
    have := of_decide_eq_false h1
    have := of_decide_eq_false h2
    exact decide_eq_false (by omega)
theorem asc_of {T : List HdI} {n : Nat} (hn : T.length = n) (h : SortedIn (ltOf cfH) 0 n T.toArray) : Asc T := by
  intro i j hij hj
  have h9 := h i j (Nat.zero_le _) hij (by omega)
  have e : ∀ x y, ltOf cfH x y = decide (idH x < idH y) := fun x y => cf_lt x y
  rw [e] at h9
  have h8 := of_decide_eq_false h9
  have g : ∀ k, k < T.length → T.toArray[k]! = T[k]?.getD default := fun k hk => by
    rw [getElem!_pos _ k (by simpa using hk), List.getElem?_eq_getElem hk]; simp
  rw [g i (by omega), g j hj] at h8
  omega
theorem sort_row (g cap : Nat) (S : List HdI) (w : World) (cur : Array Value) (hb : w.heap[g]? = some (.cells cur 58 (0, 0))) (ht : cur.toList.take (S.length * 11) = cellsR (enB S) S.length) (hn : S.length < 4611686018427387904) (u : Unit) :
    Calls Tryz.prog 53 #[.slice (some ⟨g, 0, none⟩) S.length cap, .func (.func 54) #[] #[]] w fun e w' => e = .returned (.tuple #[]) ∧ ∃ T n os, T.Perm S ∧ Asc T ∧ w' = grow (putRowK enc11 11 (Sort.ahead w n) g 0 T.toArray) os := by
  have eg : ∀ args w, (callFunc 54 args).run Tryz.prog w = .ok (.enter 54 args) w := enters_of Tryz.func54 (by kernel_rfl) rfl
  have hcon := AnyQ.slices_SortFunc Tryz.sortE 11 agg_en sz_en enc11 (fun _ => rfl) (fun x v hv => enC_ones _ v hv) cfH swo_hd 54 #[] g 0 cap S.toArray w eg (fun m os dk _ x y => lst1_any x.1 y.1 x.2 y.2 _) (holds_own hb ht) (Array.getElem?_eq_some_iff.1 hb).1 (by simpa using hn)
  have hc2 : S.toArray.size = S.length := by simp
  rw [hc2] at hcon
  change Calls Tryz.prog 53 #[.slice (some ⟨g, 0, none⟩) S.length cap, .func (.func 54) #[] #[]] w _ at hcon
  refine hcon.mono ?_
  rintro e w' ⟨he, d', n, os, h1, h2, h3⟩
  obtain ⟨T⟩ := d'
  have hl : T.length = S.length := by have := h1.1; simpa using this
  exact ⟨he, T, n, os, perm_all (by rw [hc2]; exact h1), asc_of hl h2, h3⟩
theorem ins_none (fv : Value) (w : World) : Calls Tryz.prog 98 #[.slice none 0 0, .int .i64 0, .int .i64 0, fv] w fun e w' => e = .returned (.tuple #[]) ∧ w' = w := by
  go_enter Tryz.func98, Tryz.ntmps98
  go_wp2
  refine wp_loop_rounds 1 ?_
  rw [rounds_succ]
  go_wp2
  go_end0
  exact ⟨rfl, rfl⟩
set_option maxHeartbeats 8000000 in
theorem pdq_none (lim : Int) (fv : Value) (w : World) : Calls Tryz.prog 77 #[.slice none 0 0, .int .i64 0, .int .i64 0, .int .i64 lim, fv] w fun e w' => e = .returned (.tuple #[]) ∧ w' = w := by
  have hi := fun W => ins_none fv W
  go_enter Tryz.func77, Tryz.ntmps77
  go_wp2
  refine wp_loop_rounds 1 ?_
  rw [rounds_succ]
  go_wp2_with (go_at_call 98; refine (hi _).mono ?_; rintro e w' ⟨rfl, rfl⟩)
  (try simp only [Exit.inBlock, Exit.then]); refine bodyPost_ret (results_none rfl _ _ _) rfl ?_
  exact ⟨rfl, rfl⟩
set_option maxHeartbeats 8000000 in
theorem sort_none (w : World) : Calls Tryz.prog 53 #[.slice none 0 0, .func (.func 54) #[] #[]] w fun e w' => e = .returned (.tuple #[]) ∧ w' = w := by
  have hp := fun lim fv W => pdq_none lim fv W
  go_enter Tryz.func53, Tryz.ntmps53
  go_wp2_with (first | (go_at_call 77; refine (hp _ _ _).mono ?_; rintro e w' ⟨rfl, rfl⟩) | go_in)
  go_end0
  exact ⟨rfl, rfl⟩
end Go.Proofs.YtkiaijmhoikdiaaGreat

/- A range over a map of IDs: the step, what is left. Each theorem states its conditions. -/
namespace Go.Proofs.YtkiaijmhoikdiaaGreat
open Go.RowKit Go.MapKept
open Go.ChangeMaps (setBlock)
set_option linter.unusedVariables false

def RngAt (w : World) (b : Nat) (M : Nat → Option Nat) (k r : Nat) (left : Nat → Bool) (cnt : Nat) : Prop :=
  ∃ es clock since seen c0, w.heap[b]? = some (.map es clock) ∧ Stamped es clock ∧ es.size = k ∧
    (∀ e ∈ es.toList, ∃ n g, IdOk n ∧ e.key = .agg (iC n) ∧ e.val = ptrV (some g) ∧ M n = some g ∧ left n = !seen.contains e.born) ∧ (∀ n g, M n = some g → IdOk n ∧ ∃ e ∈ es.toList, e.key = .agg (iC n) ∧ e.val = ptrV (some g)) ∧
    w.heap[r]? = some (.mapIter (some b) since seen c0) ∧ (∀ x ∈ es.toList, x.born < since) ∧ (leftOf es seen).size = cnt ∧ since ≤ c0 ∧ since ≤ clock
def rngLeft (w : World) (b r : Nat) : Nat :=
  match w.heap[b]?, w.heap[r]? with
  | some (.map es _), some (.mapIter _ _ seen _) => (leftOf es seen).size
  | _, _ => 0
section
variable {w w' : World} {b k r cnt : Nat} {M : Nat → Option Nat} {left : Nat → Bool}
theorem RngAt.left_eq (h : RngAt w b M k r left cnt) : rngLeft w b r = cnt := by
  obtain ⟨es, clock, since, seen, c0, hb, _, _, _, _, hr, _, hc, _⟩ := h
  simp only [rngLeft, hb, hr]
  exact hc
theorem RngAt.map (h : RngAt w b M k r left cnt) : MapAt w b M k := by
  obtain ⟨es, clock, since, seen, c0, hb, h1, h2, h3, h4, _⟩ := h
  exact ⟨es, clock, hb, h1, h2, fun e he => by obtain ⟨n, g, a1, a2, a3, a4, _⟩ := h3 e he; exact ⟨n, g, a1, a2, a3, a4⟩, h4⟩
theorem RngAt.ne (h : RngAt w b M k r left cnt) : r ≠ b := by
  obtain ⟨es, clock, since, seen, c0, hb, _, _, _, _, hr, _⟩ := h
  intro e
  rw [e, hb] at hr
  cases hr
theorem RngAt.lt (h : RngAt w b M k r left cnt) : r < w.heap.size := by
  obtain ⟨es, clock, since, seen, c0, _, _, _, _, _, hr, _⟩ := h
  exact (Array.getElem?_eq_some_iff.1 hr).1
theorem RngAt.ltb (h : RngAt w b M k r left cnt) : b < w.heap.size := h.map.lt
theorem RngAt.at (h : RngAt w b M k r left cnt) (h1 : w'.heap[b]? = w.heap[b]?) (h2 : w'.heap[r]? = w.heap[r]?) : RngAt w' b M k r left cnt := by
  obtain ⟨es, clock, since, seen, c0, hb, a1, a2, a3, a4, hr, rest⟩ := h
  exact ⟨es, clock, since, seen, c0, h1.trans hb, a1, a2, a3, a4, h2.trans hr, rest⟩
theorem RngAt.below (h : RngAt w b M k r left cnt) (hb : Below w.heap.size w w') : RngAt w' b M k r left cnt := h.at (hb.block b h.ltb) (hb.block r h.lt)
theorem RngAt.far {c : Nat} {C : Array Value} {t : TypeId} (h : RngAt w b M k r left cnt) (hs : Stored w w' c C t) (h1 : b ≠ c) (h2 : r ≠ c) : RngAt w' b M k r left cnt := h.at (hs.2.2 b h1) (hs.2.2 r h2)
theorem RngAt.none (h : RngAt w b M k r left 0) {n g : Nat} (hn : M n = some g) : left n = false := by
  obtain ⟨es, clock, since, seen, c0, hb, a1, a2, a3, a4, hr, a5, a6, _⟩ := h
  obtain ⟨hi, e, he, hk, hv⟩ := a4 n g hn
  obtain ⟨m, g', m1, m2, m3, m4, m5⟩ := a3 e he
  have : m = n := idC_inj m1 hi ((Value.agg.inj (hk.symm.trans m2)).symm)
  subst this
  rw [m5, all_seen es seen a6 e he]
  rfl
theorem rng_start (h : MapAt w b M k) : ∃ w', (Instr.range 74 (.map (some b))).run Tryz.prog w = .ok (.pointer (some ⟨w.heap.size, 0, none⟩)) w' ∧ RngAt w' b M k w.heap.size (fun n => (M n).isSome) k ∧ Below w.heap.size w w' ∧ w.heap.size + 1 ≤ w'.heap.size := by
  have hlt := h.lt
  obtain ⟨es, clock, hb, hst, hsz, h1, h2⟩ := h
  refine ⟨_, run_range_map w 74 35 84 b es clock Tryz.underlying74 hb, ⟨es, clock, clock, #[], clock, ((MapKept.heap_alloc w _).2 b hlt).trans hb, hst, hsz, fun e he => ?_, h2, (MapKept.heap_alloc w _).1, ((stamped_iff es clock).1 hst).1, ?_, Nat.le_refl _, Nat.le_refl _⟩, (Below.refl _ _).alloc (Nat.le_refl _) _, by simp⟩
  · obtain ⟨n, g, a1, a2, a3, a4⟩ := h1 e he
    exact ⟨n, g, a1, a2, a3, a4, by show (M n).isSome = _; rw [a4]; simp⟩
  · rw [← hsz]; simp [leftOf]
theorem rng_next (h : RngAt w b M k r left cnt) (ty : TypeId) :
    (cnt = 0 ∧ (Instr.next (.pointer (some ⟨r, 0, none⟩)) false ty).run Tryz.prog w = .ok (.tuple #[.bool false]) w) ∨
    ∃ n g w' cnt', M n = some g ∧ IdOk n ∧ left n = true ∧ (Instr.next (.pointer (some ⟨r, 0, none⟩)) false ty).run Tryz.prog w = .ok (.tuple #[.bool true, .agg (iC n), ptrV (some g)]) w' ∧
      RngAt w' b M k r (fun x => left x && !(x == n)) cnt' ∧ cnt' < cnt ∧ w.grownBy w' (some r) ∧ w'.heap.size = w.heap.size ∧ (Instr.entry (.pointer (some ⟨r, 0, none⟩))).run Tryz.prog w' = .ok (.tuple #[.agg (iC n), ptrV (some g)]) w' := by
  have hne := h.ne
  obtain ⟨es, clock, since, seen, c0, hb, hst, hsz, a3, a4, hr, hold, rfl, hsc, hsk⟩ := h
  rcases run_next_at (P := Tryz.prog) w ty r b since c0 seen es clock hr hb hold hsc with ⟨h0, hrun⟩ | ⟨e, he, w1, hal, hrun⟩
  · exact .inl ⟨h0, hrun⟩
  · obtain ⟨hem, hes⟩ := mem_left he
    obtain ⟨n, g, n1, n2, n3, n4, n5⟩ := a3 e hem
    have hr1 : w1.heap[r]? = some (.mapIter (some b) since seen c0) := by rcases hal with rfl | rfl <;> exact hr
    have hb1 : w1.heap[b]? = some (.map es clock) := by rcases hal with rfl | rfl <;> exact hb
    have hset := heap_set (o' := .mapIter (some b) since (seen.push e.born) clock) hr1
    have hb' : (setBlock w1 r (.mapIter (some b) since (seen.push e.born) clock)).heap[b]? = some (.map es clock) := (hset.2 b (fun e1 => hne e1.symm)).trans hb1
    rw [n2, n3] at hrun
    have hent := run_entry_at (P := Tryz.prog) _ r b since seen es clock e hset.1 hb' hem ((stamped_iff es clock).1 hst).2.1
    rw [n2, n3] at hent
    refine .inr ⟨n, g, _, _, n4, n1, by rw [n5, hes]; rfl, hrun, ⟨es, clock, since, seen.push e.born, clock, hb', hst, hsz, fun x hx => ?_, a4, hset.1, hold, rfl, hsk, hsk⟩, left_shrinks es seen e he, ?_, ?_, hent⟩
    · obtain ⟨m, g', m1, m2, m3, m4, m5⟩ := a3 x hx
      refine ⟨m, g', m1, m2, m3, m4, ?_⟩
      show (left m && !(m == n)) = _
      rw [m5, contains_push]
      have hap := ((stamped_iff es clock).1 hst)
      by_cases hmn : m = n
      · subst hmn
        have : x = e := entry_eq_of_key hap.2.2 hx hem (m2.trans n2.symm)
        subst this
        simp
      · have hxe : (x.born == e.born) = false := by
          cases hq : (x.born == e.born)
          · rfl
          · have := born_inj hap.2.1 hx hem (by simpa using hq)
            subst this
            exact absurd (idC_inj m1 n1 (Value.agg.inj (m2.symm.trans n2))) hmn
        simp [hmn, hxe]
    · rcases hal with rfl | rfl <;> exact ⟨rfl, rfl, rfl, by simp [setBlock], fun i _ hi => hset.2 i (fun e1 => hi (by rw [e1]))⟩
    · rcases hal with rfl | rfl <;> simp [setBlock]
end
section
variable {ops : Array Oper} {Q : Exit → Act → World → Prop} {rest : List Oper} {op : Oper} {a : Act} {w : World} {b k r cnt : Nat} {M : Nat → Option Nat} {left : Nat → Bool}
theorem wpList_rg (hgd : op.guard = none) (m : Operand) (ho : op.op = .range 74 m) (hm : a.eval m = .map (some b)) (h : MapAt w b M k) (N : Nat) (hN : w.heap.size = N)
    (hK : ∀ w', RngAt w' b M k N (fun n => (M n).isSome) k → Below w.heap.size w w' → N + 1 ≤ w'.heap.size → wpList Tryz.prog ops Q rest (a.put op.dst (.pointer (some ⟨N, 0, none⟩))) w') : wpList Tryz.prog ops Q (op :: rest) a w := by
  subst hN
  obtain ⟨w', hrun, h1, h2, h3⟩ := rng_start h
  refine wpList_plain hgd fun K' hK' => ?_
  unfold Oper.wp
  simp [execOp, ho, hm, hrun, Result.andThen]
  exact hK' _ _ (hK w' h1 h2 h3)
theorem wpList_nx (hgd : op.guard = none) (it : Operand) (ho : op.op = .next it false) (hit : a.eval it = .pointer (some ⟨r, 0, none⟩)) (h : RngAt w b M k r left cnt) (h0 : cnt = 0 → wpList Tryz.prog ops Q rest (a.put op.dst (.tuple #[.bool false])) w)
    (h1 : ∀ n g w' cnt', M n = some g → IdOk n → left n = true → RngAt w' b M k r (fun x => left x && !(x == n)) cnt' → cnt' < cnt → w.grownBy w' (some r) → w'.heap.size = w.heap.size → (Instr.entry (.pointer (some ⟨r, 0, none⟩))).run Tryz.prog w' = .ok (.tuple #[.agg (iC n), ptrV (some g)]) w' → wpList Tryz.prog ops Q rest (a.put op.dst (.tuple #[.bool true, .agg (iC n), ptrV (some g)])) w') : wpList Tryz.prog ops Q (op :: rest) a w := by
  refine wpList_plain hgd fun K' hK' => ?_
  unfold Oper.wp
  rcases rng_next h op.type with ⟨e0, hrun⟩ | ⟨n, g, w', cnt', a1, a2, a3, hrun, a4, a5, a6, a7, a8⟩
  · simp [execOp, ho, hit, hrun, Result.andThen]
    exact hK' _ _ (h0 e0)
  · simp [execOp, ho, hit, hrun, Result.andThen]
    exact hK' _ _ (h1 n g w' cnt' a1 a2 a3 a4 a5 a6 a7 a8)
theorem entry_run (o : Oper) (e : Operand → Value) (x : Operand) (ho : o.op = .entry x) (v : Value) (h0 : e x = .pointer (some ⟨r, 0, none⟩)) (h : (Instr.entry (.pointer (some ⟨r, 0, none⟩))).run Tryz.prog w = .ok v w) : (execOp e o).run Tryz.prog w = .ok (.value v) w := by
  unfold execOp
  simp [ho, h0, h, Result.andThen]
end
end Go.Proofs.YtkiaijmhoikdiaaGreat

/- Lists in the order of IDs: what a range of a store has. Plain facts. Each theorem states its conditions. -/
namespace Go.Proofs.YtkiaijmhoikdiaaGreat
open Go.RowKit Go.Sort Go.MapKept
set_option linter.unusedVariables false

def AscT (S : List HdI) : Prop := S.Pairwise (fun x y => x.1.id < y.1.id)
def InRg (H : Nat → Option Hd) (a b : Nat) (T : List HdI) : Prop := AscT T ∧ ∀ x : HdI, x ∈ T ↔ (H x.1.id = some x.1 ∧ a ≤ x.1.id ∧ x.1.id ≤ b)
theorem ascT_ext : ∀ (S T : List HdI), AscT S → AscT T → (∀ x, x ∈ S ↔ x ∈ T) → S = T
  | [], [], _, _, _ => rfl
  | [], y :: T, _, _, h => absurd ((h y).2 (List.mem_cons_self ..)) (by simp)
  | x :: S, [], _, _, h => absurd ((h x).1 (List.mem_cons_self ..)) (by simp)
  | x :: S, y :: T, hs, ht, h => by
    obtain ⟨s1, s2⟩ := List.pairwise_cons.1 hs
    obtain ⟨t1, t2⟩ := List.pairwise_cons.1 ht
    have hxy : x = y := by
      rcases List.mem_cons.1 ((h x).1 (List.mem_cons_self ..)) with e | hx
      · exact e
      · rcases List.mem_cons.1 ((h y).2 (List.mem_cons_self ..)) with e | hy
        · exact e.symm
        · have a1 := t1 x hx
          have a2 := s1 y hy
          omega
    subst hxy
    congr 1
    refine ascT_ext S T s2 t2 fun z => ⟨fun hz => ?_, fun hz => ?_⟩
    · rcases List.mem_cons.1 ((h z).1 (List.mem_cons_of_mem _ hz)) with rfl | hz'
      · have := s1 z hz; omega
      · exact hz'
    · rcases List.mem_cons.1 ((h z).2 (List.mem_cons_of_mem _ hz)) with rfl | hz'
      · have := t1 z hz; omega
      · exact hz'
theorem ascT_of {T : List HdI} (hi : ∀ x ∈ T, ∀ y ∈ T, x.1.id = y.1.id → x = y) (hn : T.Nodup) (ha : Asc T) : AscT T := by
  unfold AscT
  rw [List.pairwise_iff_getElem]
  intro i j hi' hj hij
  have h1 := ha i j hij hj
  rw [List.getElem?_eq_getElem hi', List.getElem?_eq_getElem hj] at h1
  have h2 : T[i] ≠ T[j] := List.pairwise_iff_getElem.1 hn i j hi' hj hij
  have h3 : T[i].1.id ≠ T[j].1.id := fun e => h2 (hi _ (List.getElem_mem ..) _ (List.getElem_mem ..) e)
  simp only [Option.getD_some, idH] at h1
  omega
section
variable {H : Nat → Option Hd} {a b c d : Nat} {S T U V : List HdI}
theorem inRg_filter (hs : InRg H a b S) (ht : InRg H c d T) (h1 : a ≤ c) (h2 : d ≤ b) : T = S.filter fun x => decide (c ≤ x.1.id) && decide (x.1.id ≤ d) := by
  refine ascT_ext _ _ ht.1 (List.Pairwise.filter _ hs.1) fun x => ?_
  rw [ht.2, List.mem_filter, hs.2]
  simp only [Bool.and_eq_true, decide_eq_true_eq]
  constructor
  · rintro ⟨e, g1, g2⟩; exact ⟨⟨e, by omega, by omega⟩, g1, g2⟩
  · rintro ⟨⟨e, _, _⟩, g1, g2⟩; exact ⟨e, g1, g2⟩
end
theorem map_count {w : World} {b k m : Nat} {M : Nat → Option Nat} {H : Nat → Option Hd} {T : List HdI} (h : MapAt w b M k) (hMH : ∀ i, M i = none ↔ H i = none) (hid : ∀ i h, H i = some h → h.id = i) (hm : ∀ n, IdOk n → n ≤ m) (ht : InRg H 0 m T) : T.length = k := by
  obtain ⟨es, clock, hb, hst, hsz, h1, h2⟩ := h
  have hap : es.toList.Pairwise (fun x y => x.key ≠ y.key) := ((stamped_iff es clock).1 hst).2.2
  have hn1 : (es.toList.map (fun e => e.key)).Nodup := List.pairwise_map.2 hap
  have hn2 : (T.map (fun x : HdI => Value.agg (iC x.1.id))).Nodup := by
    refine List.pairwise_map.2 (List.Pairwise.imp (fun {x y} hxy e => ?_) ht.1)
    have := idC_inj x.2 y.2 (Value.agg.inj e)
    omega
  have hp : (T.map (fun x : HdI => Value.agg (iC x.1.id))).Perm (es.toList.map (fun e => e.key)) := by
    refine (List.perm_ext_iff_of_nodup hn2 hn1).2 fun v => ⟨fun hv => ?_, fun hv => ?_⟩
    · obtain ⟨x, hx, rfl⟩ := List.mem_map.1 hv
      have hH := ((ht.2 x).1 hx).1
      cases hM : M x.1.id with
      | none => rw [(hMH _).1 hM] at hH; cases hH
      | some g =>
        obtain ⟨_, e, he, hk, _⟩ := h2 _ _ hM
        exact List.mem_map.2 ⟨e, he, hk⟩
    · obtain ⟨e, he, rfl⟩ := List.mem_map.1 hv
      obtain ⟨n, g, n1, n2, n3, n4⟩ := h1 e he
      cases hH : H n with
      | none => rw [(hMH n).2 hH] at n4; cases n4
      | some h =>
        have hi := hid n h hH
        exact List.mem_map.2 ⟨⟨h, by rw [hi]; exact n1⟩, (ht.2 _).2 ⟨by show H h.id = some h; rw [hi, hH], Nat.zero_le _, by show h.id ≤ m; rw [hi]; exact hm n n1⟩, by show Value.agg (iC h.id) = e.key; rw [hi, n2]⟩
  have := hp.length_eq
  simp only [List.length_map, Array.length_toList] at this
  omega
end Go.Proofs.YtkiaijmhoikdiaaGreat

/- store.Age over one LSP, and its parts: a LSP grows old; one is dropped; lists of at most one ID are sorted. Each theorem states its conditions. -/
namespace Go.Proofs.YtkiaijmhoikdiaaGreat
open Go.RowKit Go.MapKept
set_option linter.unusedVariables false
set_option linter.unusedSimpArgs false

theorem max_run (o : Oper) (e : Operand → Value) (x : Operand) (ho : o.op = .call { callee := .builtin .max, args := #[x, .const (.int .i64 0)], argTypes := #[3, 3] }) (m : Int) (h0 : e x = .int .i64 m) (hc : e (.const (.int .i64 0)) = .int .i64 0) (W : World) : (execOp e o).run Tryz.prog W = .ok (.value (.int .i64 (max m 0))) W := by
  unfold execOp
  simp only [ho]
  by_cases h : 0 < m
  · rw [Int.max_eq_left (by omega)]
    have h1 : ¬ m < 0 := by omega
    simp [resolve, invoke, builtin, h0, hc, go_sem, h, h1]
    try omega
  · rw [Int.max_eq_right (by omega)]
    have h1 : ¬ 0 < m := by omega
    simp [resolve, invoke, builtin, h0, hc, go_sem, h1]
    try omega
def ageH (h : Hd) (t : Int) : Hd := ⟨h.id, h.sq, max (h.li - t) 0, h.su, h.n, h.z, h.pu + max (t - h.li) 0⟩
def liH (h : Hd) (l : Int) : Hd := ⟨h.id, h.sq, l, h.su, h.n, h.z, h.pu⟩
theorem hd_li (h : Hd) (A : Option Addr) (c : Nat) (l : Int) : putMany (hdC h A c) 9 [.int .i64 l] = hdC (liH h l) A c := by kernel_rfl
theorem hd_pu (h : Hd) (t : Int) (A : Option Addr) (c : Nat) : putMany (hdC (liH h (max (h.li - t) 0)) A c) 12 [.int .i64 (h.pu + max (t - h.li) 0)] = hdC (ageH h t) A c := by kernel_rfl
theorem info_i1 : (Tryz.prog.info? 3).map (·.size) = some 1 := by kernel_rfl
theorem one_i64 (k : Int) : (#[Value.int .i64 k] : Array Value).all (·.oneCell') = true := by kernel_rfl
theorem Stored.trans {w w1 w2 : World} {b : Nat} {C1 C2 : Array Value} {t : TypeId} (h : Stored w w1 b C1 t) (k : Stored w1 w2 b C2 t) : Stored w w2 b C2 t :=
  ⟨k.1, fun B hB => (h.2.1 B hB).trans (k.2.1 B hB), fun i hi => (k.2.2 i hi).trans (h.2.2 i hi)⟩
set_option maxHeartbeats 8000000 in
set_option maxRecDepth 100000 in
theorem hAge_any (h : Hd) (g c : Nat) (A : Option Addr) (t : Int) (w : World) (hl : 0 ≤ h.li ∧ h.li ≤ 65535) (ht : 0 ≤ t ∧ t ≤ 65535) (hp : 0 ≤ h.pu ∧ h.pu ≤ 1000000) (hk : Blk 91 w g (hdC h A c)) :
    Calls Tryz.prog 34 #[.pointer (some ⟨g, 0, none⟩), .int .i64 t] w fun e w' => e = .returned (.bool (decide (0 < h.li) && (max (h.li - t) 0 == 0))) ∧ Stored w w' g (hdC (ageH h t) A c) 91 := by
  have K := Lib.hid hk
  obtain ⟨li, hli⟩ : ∃ l, h.li = l := ⟨_, rfl⟩
  obtain ⟨pu, hpu⟩ : ∃ l, h.pu = l := ⟨_, rfl⟩
  rw [hli] at hl
  rw [hpu] at hp
  obtain ⟨hl1, hl2⟩ := hl
  obtain ⟨ht1, ht2⟩ := ht
  obtain ⟨hp1, hp2⟩ := hp
  have c9 : w.cell? ⟨g, 9, none⟩ = some (.int .i64 li) := by rw [← hli]; exact (hk.cell 9).trans rfl
  have HL := Lib.hid hli
  have HP := Lib.hid hpu
  rw [hli]
  clear hk hli hpu
  go_enter Tryz.func34, Tryz.ntmps34
  go_wp2_with (refine wpList_v (op := ⟨some 15, _, _, _, _, _⟩) rfl (.int .i64 (max (li - t) 0)) (max_run _ _ _ rfl (li - t) rfl rfl _) ?_; refine Hid.out ?_)
  refine Lib.hid ?_
  go_wp2_with (refine wpList_st rfl 3 (.tmp 18) (.tmp 15) rfl g 9 rfl (.int .i64 (max (li - t) 0)) #[.int .i64 (max (li - t) 0)] rfl rfl info_i1 (one_i64 _) K.out (Nat.le_of_ble_eq_true rfl) (C' := hdC (liH h (max (h.li - t) 0)) A c) (by rw [← HL.out]; exact hd_li _ _ _ _) ?_; intro w1 q1; refine Hid.out ?_)
  refine Lib.hid ?_
  have K1 := Lib.hid q1
  have k1 : Blk 91 w1 g (hdC (liH h (max (h.li - t) 0)) A c) := q1.1
  have c12 : w1.cell? ⟨g, 12, none⟩ = some (.int .i64 pu) := (k1.cell 12).trans (by rw [← HP.out]; rfl)
  clear q1 c9 k1
  go_wp2_with (refine wpList_v (op := ⟨some 26, _, _, _, _, _⟩) rfl (.int .i64 (max (t - li) 0)) (max_run _ _ _ rfl (t - li) rfl rfl _) ?_; refine Hid.out ?_)
  refine Lib.hid ?_
  obtain ⟨mx, hmx⟩ : ∃ x, max (t - li) 0 = x := ⟨_, rfl⟩
  have hmx1 : 0 ≤ mx := by omega
  have hmx2 : mx ≤ 65535 := by omega
  rw [hmx]
  have HMX := Lib.hid hmx
  clear hmx
  go_wp2_with (refine wpList_st rfl 3 (.tmp 29) (.tmp 27) rfl g 12 rfl (.int .i64 (pu + mx)) #[.int .i64 (pu + mx)] rfl rfl info_i1 (one_i64 _) K1.out.1 (Nat.le_of_ble_eq_true rfl) (C' := hdC (ageH h t) A c) (by rw [← HMX.out, ← HL.out, ← HP.out]; exact hd_pu _ _ _ _) ?_; intro w2 q1; refine Hid.out ?_)
  refine Lib.hid ?_
  have K2 := Lib.hid (K1.out.trans q1)
  have k2 : Blk 91 w2 g (hdC (ageH h t) A c) := q1.1
  obtain ⟨lv, hlv⟩ : ∃ x, max (li - t) 0 = x := ⟨_, rfl⟩
  have c9 : w2.cell? ⟨g, 9, none⟩ = some (.int .i64 lv) := (k2.cell 9).trans (by rw [← hlv, ← HL.out]; rfl)
  have HLV := Lib.hid hlv
  clear q1 c12 k2 hlv
  by_cases h0 : 0 < li
  · have hd : decide (0 < li) = true := by simpa using h0
    have Hdd := Lib.hid hd
    go_wp2_with fail
    go_ret
    exact ⟨by first | (rw [HLV.out, Hdd.out]; rfl) | (rw [HLV.out]; simp [Hdd.out]) | simp [HLV.out, Hdd.out], K2.out⟩
  · have hd : decide (0 < li) = false := by simpa using h0
    have Hdd := Lib.hid hd
    go_wp2_with fail
    go_ret
    exact ⟨by first | (rw [HLV.out, Hdd.out]; rfl) | (rw [HLV.out]; simp [Hdd.out]) | simp [HLV.out, Hdd.out], K2.out⟩

theorem del_run (o : Oper) (e : Operand → Value) (m x : Operand) (ho : o.op = .call { callee := .builtin .delete, args := #[m, x], argTypes := #[74, 35] }) {w : World} {b k n : Nat} {M : Nat → Option Nat} (h : MapAt w b M k) (hn : IdOk n) (h0 : e m = .map (some b)) (h1 : e x = .agg (iC n)) :
    ∃ w', (execOp e o).run Tryz.prog w = .ok (.value (.tuple #[])) w' ∧ MapAt w' b (putM M n none) (if (M n).isSome then k - 1 else k) ∧ Turn w w' b := by
  obtain ⟨w', h3, h4, h5⟩ := map_drop h hn o.type
  refine ⟨w', ?_, h4, h5⟩
  unfold execOp
  simp only [ho]
  simp [resolve, invoke, builtin, h0, h1, h3, Result.andThen]
theorem takeDl {ops : Array Oper} {Q : Exit → Act → World → Prop} {md : Region.Mode} {S : World → Prop} {i : Nat} {oi : Oper} {fuel : Nat} {listed : Array Bool} {a : Act} {w : World} (m x : Operand) (hi : ops[i]? = some oi) (hd : oi.dst = none)
    (hr : Region.ready md ops listed = [i]) (hw : Region.wanted oi (yielded ops a.tmps) = true) (ho : oi.op = .call { callee := .builtin .delete, args := #[m, x], argTypes := #[74, 35] }) {b k n : Nat} {M : Nat → Option Nat} (hM : MapAt w b M k) (hn : IdOk n) (h0 : a.eval m = .map (some b)) (h1 : a.eval x = .agg (iC n))
    (h : ∀ w', MapAt w' b (putM M n none) (if (M n).isSome then k - 1 else k) → Turn w w' b → S w' ∧ wpAnyH Tryz.prog md ops Q S fuel (listed.setIfInBounds i true) (a.put none (.tuple #[])) w') : wpAnyH Tryz.prog md ops Q S (fuel + 1) listed a w := by
  obtain ⟨w', hx', h3, h4⟩ := del_run oi a.eval m x ho hM hn h0 h1
  exact takeV none hi hd hr hw hx' (h w' h3 h4).1 (h w' h3 h4).2
theorem st_refF (b : Nat) (r : Bool) : putMany (stC b r) 1 [.bool false] = stC b false := by kernel_rfl
def DropP (w : World) (s b n k : Nat) (M : Nat → Option Nat) (e : Ending) (w' : World) : Prop := e = .returned (.tuple #[]) ∧ Fr w w' s b ∧ Blk 76 w' s (stC b false) ∧ MapAt w' b (putM M n none) (if (M n).isSome then k - 1 else k)
set_option maxHeartbeats 8000000 in
set_option maxRecDepth 100000 in
theorem drop_map (s b k n : Nat) (r : Bool) (M : Nat → Option Nat) (w : World) (hs : Blk 76 w s (stC b r)) (hM : MapAt w b M k) (hne : s ≠ b) (hn : IdOk n) : Calls Tryz.prog 31 #[.pointer (some ⟨s, 0, none⟩), .agg (iC n)] w (DropP w s b n k M) := by
  have KS := Lib.hid hs
  have KM := Lib.hid hM
  have HID := Lib.hid hn
  have HNE := Lib.hid hne
  have lt_s := hs.lt
  have lt_b := hM.lt
  clear hs hM hn hne
  go_enter Tryz.func31, Tryz.ntmps31
  have HB := Lib.hid (Below.refl w.heap.size w)
  obtain ⟨N1, hN1⟩ : ∃ N, w.heap.size = N := ⟨_, rfl⟩
  have HN1 := Lib.hid hN1
  clear hN1
  go_wp2_with (refine wpList_box (op := ⟨some 3, _, _, _, _, _⟩) rfl 35 (.tmp 1) rfl (iC n) rfl N1 HN1.out ?_; intro w1 k1 b1 s1; refine Hid.out ?_)
  refine Lib.hid ?_
  have K3 := Lib.hid k1
  clear k1
  have lt_s_N1 : s < N1 := by rw [← HN1.out]; exact KS.out.lt
  have lt_b_N1 : b < N1 := by rw [← HN1.out]; exact KM.out.lt
  have le_HB_N1 : w.heap.size ≤ N1 := by rw [← HN1.out]; exact HB.out.size
  replace KS := Lib.hid (KS.out.below b1 KS.out.lt)
  replace KM := Lib.hid (KM.out.below b1 KM.out.lt)
  replace HB := Lib.hid (HB.out.trans (b1.mono HB.out.size))
  clear b1 HN1
  go_wp2_with fail
  have ns3 : s ≠ N1 := by omega
  have nb3 : b ≠ N1 := by omega
  have KMd : Hid (MapAt w1.drew b M k) := Lib.hid KM.out
  clear KM
  have HBd : Hid (Below w.heap.size w w1.drew) := Lib.hid HB.out.drew
  clear HB
  refine wp_region_held_drew (S := fun w' => Blk 76 w' s (stC b r) ∧ Blk 35 w' N1 (iC n)) (by kernel_rfl) ⟨KS.out, K3.out⟩ (fun hS => ?_)
  generalize hW2 : w1.drew = W2 at hS KMd HBd ⊢
  clear hW2
  clear KS
  clear K3
  have KM := KMd
  clear KMd
  have HB := HBd
  clear HBd
  have KS := Lib.hid hS.1
  have K3 := Lib.hid hS.2
  refine tY (i := 0) (some 4) (v := .pointer (some ⟨s, 0, none⟩)) rfl rfl (fun w' hS => by clear hS; go_simp) hS ?_
  simp only [Act.put, pA, pB, pC]
  refine tY (i := 1) (some 5) (v := .pointer (some ⟨s, 0, none⟩)) rfl rfl (fun w' hS => by clear hS; go_simp) hS ?_
  simp only [Act.put, pA, pB, pC]
  refine tY (i := 2) (some 6) (v := .pointer (some ⟨s, 0, none⟩)) rfl rfl (fun w' hS => by clear hS; go_simp) hS ?_
  simp only [Act.put, pA, pB, pC]
  refine tY (i := 3) (some 7) (v := .map (some b)) rfl rfl (fun w' hS => by (have c9 : w'.cell? ⟨s, 0, none⟩ = some (.map (some b)) := (hS.1.cell 0).trans rfl; clear hS; go_simp)) hS ?_
  simp only [Act.put, pA, pB, pC]
  refine tL (i := 4) (some 8) 35 (.tmp 3) N1 0 (iC n) _ rfl rfl rfl rfl (fun w' hS => hS.2.all) Tryz.underlying35 rfl info_iC hS ?_
  simp only [Act.put, pA, pB, pC]
  refine takeDl (i := 5) (.tmp 7) (.tmp 8) rfl rfl (by kernel_rfl) (by rfl) rfl KM.out HID.out rfl rfl (fun w60 hm9 ht9 => ⟨⟨(ht9.block HNE.out).trans KS.out, (ht9.block (fun e => nb3 e.symm)).trans K3.out⟩, ?_⟩)
  simp only [Act.put, pA, pB, pC]
  have KS9 : Hid (Blk 76 w60 s (stC b r)) := Lib.hid ((ht9.block HNE.out).trans KS.out)
  have KM9 := Lib.hid hm9
  have HF9 : Hid (Fr w w60 s b) := Lib.hid ((Fr.of_below s b HB.out).trans (Fr.turn ht9))
  clear hm9 ht9 hS
  refine wpAnyH_done (by kernel_rfl) ?_ _
  go_wp2_with (refine wpList_st rfl 4 (.tmp 11) (.const (.bool false)) rfl s 1 rfl (.bool false) #[.bool false] rfl rfl info_bl (one_b _) KS9.out (Nat.le_of_ble_eq_true rfl) (C' := stC b false) (st_refF _ _) ?_; intro w70 q1; refine Hid.out ?_)
  refine Lib.hid ?_
  have HF8 : Hid (Fr w w70 s b) := Lib.hid (HF9.out.trans ⟨(q1.2.1 0 (Nat.zero_le _)).os, (q1.2.1 0 (Nat.zero_le _)).tape, (q1.2.1 0 (Nat.zero_le _)).output, (q1.2.1 0 (Nat.zero_le _)).size, fun i _ h1 _ => q1.2.2 i h1⟩)
  have KM8 := Lib.hid (KM9.out.far q1 (fun e => HNE.out e.symm))
  have KS8 := Lib.hid q1.1
  clear q1
  go_wp2_with fail
  go_end0
  exact ⟨rfl, HF8.out, KS8.out, KM8.out⟩
set_option maxHeartbeats 8000000 in
set_option maxRecDepth 100000 in
theorem ins_small (A : Option Addr) (n c : Nat) (F : Value) (w : World) (hn : n ≤ 1) : Calls Tryz.prog 79 #[.slice A n c, .int .i64 0, .int .i64 (n : Int), F] w fun e w' => e = .returned (.tuple #[]) ∧ w' = w := by
  have h1 : ¬ (1 : Int) < (n : Int) := by omega
  go_enter Tryz.func79, Tryz.ntmps79
  go_wp2_with fail
  refine wp_loop_rounds 1 ?_
  rw [rounds_succ]
  go_wp2_with fail
  go_end0
  exact ⟨rfl, rfl⟩
set_option maxHeartbeats 8000000 in
set_option maxRecDepth 100000 in
theorem pdq_small (A : Option Addr) (n c : Nat) (l : Int) (F : Value) (w : World) (hn : n ≤ 1) : Calls Tryz.prog 62 #[.slice A n c, .int .i64 0, .int .i64 (n : Int), .int .i64 l, F] w fun e w' => e = .returned (.tuple #[]) ∧ w' = w := by
  have HI := Lib.hid (ins_small A n c F w hn)
  have h1 : (n : Int) ≤ 12 := by omega
  go_enter Tryz.func62, Tryz.ntmps62
  go_wp2_with fail
  refine wp_loop_rounds 1 ?_
  rw [rounds_succ]
  go_wp2_with fail
  refine HI.out.mono ?_
  rintro e w' ⟨rfl, rfl⟩
  go_wp2_with fail
  refine bodyPost_ret (v := .tuple #[]) (by simp [results, Tryz.f62, go_sem]) rfl ?_
  exact ⟨rfl, rfl⟩
set_option maxHeartbeats 8000000 in
set_option maxRecDepth 100000 in
theorem len64_0 (w : World) : Calls Tryz.prog 88 #[.int .u64 0] w fun e w' => ∃ l : Int, e = .returned (.int .i64 l) ∧ w' = w := by
  go_enter Tryz.func88, Tryz.ntmps88
  go_wp2_with fail
  go_ret
  exact ⟨_, rfl, rfl⟩
set_option maxHeartbeats 8000000 in
set_option maxRecDepth 100000 in
theorem len_0 (w : World) : Calls Tryz.prog 63 #[.int .u64 0] w fun e w' => ∃ l : Int, e = .returned (.int .i64 l) ∧ w' = w := by
  have H := Lib.hid (len64_0 w)
  go_enter Tryz.func63, Tryz.ntmps63
  go_wp2_with fail
  refine H.out.mono ?_
  rintro e w' ⟨l, rfl, rfl⟩
  go_wp2_with fail
  go_ret
  exact ⟨_, rfl, rfl⟩
set_option maxHeartbeats 8000000 in
set_option maxRecDepth 100000 in
theorem sort_0 (A : Option Addr) (c : Nat) (F : Value) (w : World) : Calls Tryz.prog 35 #[.slice A 0 c, F] w fun e w' => e = .returned (.tuple #[]) ∧ w' = w := by
  have H := Lib.hid (len_0 w)
  have HQ := Lib.hid (fun l => pdq_small A 0 c l F w (by decide))
  go_enter Tryz.func35, Tryz.ntmps35
  go_wp2_with fail
  refine H.out.mono ?_
  rintro e w' ⟨l, rfl, rfl⟩
  go_wp2_with fail
  refine (HQ.out l).mono ?_
  rintro e w' ⟨rfl, rfl⟩
  go_wp2_with fail
  go_end0
  exact ⟨rfl, rfl⟩
end Go.Proofs.YtkiaijmhoikdiaaGreat

/- store.Age over one LSP, and over none. Each theorem states its conditions. -/
namespace Go.Proofs.YtkiaijmhoikdiaaGreat
open Go.RowKit Go.MapKept
set_option linter.unusedVariables false
set_option linter.unusedSimpArgs false

def BeX (w' : World) (B : Nat) (w : World) : Prop := Below B w w' ∧ B < w'.heap.size
theorem BeX.lt {w w' : World} {B : Nat} (h : BeX w' B w) : B < w'.heap.size := h.2
theorem BeX.below {w w' w2 : World} {B : Nat} (h : BeX w' B w) (hb : Below w'.heap.size w' w2) (_ : B < w'.heap.size) : BeX w2 B w := ⟨h.1.trans (hb.mono (Nat.le_of_lt h.2)), Nat.lt_of_lt_of_le h.2 hb.size⟩
theorem BeX.far {w w' w2 : World} {B c : Nat} {C : Array Value} {t : TypeId} (h : BeX w' B w) (hs : Stored w' w2 c C t) (hk : B ≤ c) : BeX w2 B w := ⟨h.1.trans (hs.2.1 B hk), Nat.lt_of_lt_of_le h.2 (hs.2.1 B hk).size⟩
def mineS : Obj → Bool
  | .map .. => true
  | .cells _ t _ => t == 76 || t == 91
  | _ => false
def KpX (w' : World) (N : Nat) (w : World) : Prop := (∀ (k : Nat) (o : Obj), k < N → w.heap[k]? = some o → mineS o = false → w'.heap[k]? = some o) ∧ N < w'.heap.size
theorem KpX.lt {w w' : World} {N : Nat} (h : KpX w' N w) : N < w'.heap.size := h.2
theorem KpX.below {w w' w2 : World} {N : Nat} (h : KpX w' N w) (hb : Below w'.heap.size w' w2) (_ : N < w'.heap.size) : KpX w2 N w := ⟨fun k o hk h1 h2 => (hb.block k (Nat.lt_trans hk h.2)).trans (h.1 k o hk h1 h2), Nat.lt_of_lt_of_le h.2 hb.size⟩
theorem KpX.far {w w' w2 : World} {N c : Nat} {C : Array Value} {t : TypeId} (h : KpX w' N w) (hs : Stored w' w2 c C t) (hk : N ≤ c) : KpX w2 N w := ⟨fun k o hk' h1 h2 => (hs.2.2 k (by omega)).trans (h.1 k o hk' h1 h2), Nat.lt_of_lt_of_le h.2 (hs.2.1 0 (Nat.zero_le _)).size⟩
theorem KpX.held {w w' w2 : World} {N g : Nat} {C C0 : Array Value} {t : TypeId} (h : KpX w' N w) (hs : Stored w' w2 g C t) (hg : Blk 91 w g C0) : KpX w2 N w := ⟨fun k o hk' h1 h2 => (hs.2.2 k (fun e => by
  subst e
  rw [show w.heap[k]? = _ from hg] at h1
  cases h1
  simp [mineS] at h2)).trans (h.1 k o hk' h1 h2), Nat.lt_of_lt_of_le h.2 (hs.2.1 0 (Nat.zero_le _)).size⟩
theorem KpX.fr {w w' w2 : World} {N s b : Nat} {C0 : Array Value} {es : Array MapEntry} {cl : Nat} (h : KpX w' N w) (hf : Fr w' w2 s b) (hs : Blk 76 w s C0) (hb : w.heap[b]? = some (.map es cl)) : KpX w2 N w := ⟨fun k o hk' h1 h2 => (hf.block k (Nat.lt_trans hk' h.2) (fun e => by
  subst e
  rw [show w.heap[k]? = _ from hs] at h1
  cases h1
  simp [mineS] at h2) (fun e => by
  subst e
  rw [hb] at h1
  cases h1
  cases h2)).trans (h.1 k o hk' h1 h2), Nat.lt_of_lt_of_le h.2 hf.size⟩
theorem Blk.kpx {t : TypeId} {w w' : World} {g : Nat} {C : Array Value} (h : Blk t w g C) (hk : ∀ (k : Nat) (o : Obj), w.heap[k]? = some o → mineS o = false → w'.heap[k]? = some o) (ht : (t == 76 || t == 91) = false) : Blk t w' g C := hk g _ h (by simp only [mineS]; exact ht)
def RgA (w : World) (r b : Nat) (M : Nat → Option Nat) (k : Nat) (left : Nat → Bool) (cnt : Nat) : Prop := RngAt w b M k r left cnt
section
variable {w w' : World} {b k r cnt : Nat} {M : Nat → Option Nat} {left : Nat → Bool}
theorem RgA.lt (h : RgA w r b M k left cnt) : r < w.heap.size := RngAt.lt h
theorem RgA.below (h : RgA w r b M k left cnt) (hb : Below w.heap.size w w') (_ : r < w.heap.size) : RgA w' r b M k left cnt := RngAt.below h hb
theorem RgA.far {c : Nat} {C : Array Value} {t : TypeId} (h : RgA w r b M k left cnt) (hs : Stored w w' c C t) (hk : b ≠ c ∧ r ≠ c) : RgA w' r b M k left cnt := RngAt.far h hs hk.1 hk.2
end
theorem bs_id1 (W : World) (o : Oper) (e : Operand → Value) {x : Operand} (ho : o.op = .buildSlice 49 1 #[(0, x)]) (n : Nat) (h0 : e x = .agg (iC n)) :
    (execOp e o).run Tryz.prog W = .ok (.value (.slice (some ⟨W.heap.size, 0, none⟩) 1 1)) (W.alloc (.cells (iC n) 35)) := by
  unfold execOp
  simp only [ho]
  simp only [List.map_toArray, List.map_cons, List.map_nil, h0]
  kernel_rfl
theorem info_id3 : (Tryz.prog.info? 35).map (fun i => (i.zero, i.size, i.bytes)) = some (some (.agg (iC 0)), 8, 8) := by kernel_rfl
theorem zero_idS : (Tryz.prog.info? 35).map (·.zero) = some (some (.agg (iC 0))) := by kernel_rfl
theorem id_over (a b : Nat) : putMany (iC a) 0 (iC b).toList = iC b := by kernel_rfl
theorem wpList_bsn {ops : Array Oper} {Q : Exit → Act → World → Prop} {rest : List Oper} {op : Oper} {a : Act} {w : World} (n : Nat) (hgd : op.guard = none) (t : TypeId) (C : Array Value) (hx : (execOp a.eval op).run Tryz.prog w = .ok (.value (.slice (some ⟨w.heap.size, 0, none⟩) n n)) (w.alloc (.cells C t)))
    (N : Nat) (hN : w.heap.size = N) (h : ∀ w', Blk t w' N C → Below w.heap.size w w' → N + 1 ≤ w'.heap.size → wpList Tryz.prog ops Q rest (a.put op.dst (.slice (some ⟨N, 0, none⟩) n n)) w') : wpList Tryz.prog ops Q (op :: rest) a w := by
  subst hN
  exact wpList_v hgd _ hx (h _ (heap_alloc_new w _) ((Below.refl _ _).alloc (Nat.le_refl _) _) (by simp))
end Go.Proofs.YtkiaijmhoikdiaaGreat

/- store.List: what is held from one ID to another, in order. Each theorem states its conditions. -/
namespace Go.Proofs.YtkiaijmhoikdiaaGreat
open Go.RowKit Go.MapKept Go.Sort
set_option linter.unusedVariables false
set_option linter.unusedSimpArgs false

theorem OwnR.below {w w' : World} {base s m : Nat} {e : TypeId} {v : Value} {C : Nat → Array Value} (h : OwnR w base e s v m C) (hb : Below w.heap.size w w') : OwnR w' base e s v m C := ownsRow_below' h hb
theorem OwnR.nil (w : World) (base : Nat) (e : TypeId) (s : Nat) (C : Nat → Array Value) : OwnR w base e s (.slice none 0 0) 0 C := World.ownsRow_nil _ _ _ _
theorem OwnR.mono {w : World} {base base' s m : Nat} {e : TypeId} {v : Value} {C : Nat → Array Value} (h : OwnR w base e s v m C) (hb : base' ≤ base) : OwnR w base' e s v m C := ownsRow_mono h hb
theorem OwnR.congr {w : World} {base s m : Nat} {e : TypeId} {v : Value} {C C' : Nat → Array Value} (h : OwnR w base e s v m C) (hc : ∀ j, j < m → C j = C' j) : OwnR w base e s v m C' := by
  unfold OwnR at h ⊢
  rwa [cellsR_congr m hc] at h
theorem OwnR.ow {w w' : World} {base s m r : Nat} {e : TypeId} {v : Value} {C : Nat → Array Value} (h : OwnR w base e s v m C) (hg : w.grownBy w' (some r)) (hr : r < base) : OwnR w' base e s v m C := by
  rcases h with ⟨h1, h2 | ⟨g, cap, cur, e1, e2, e3, rest⟩⟩
  · exact ⟨h1, .inl h2⟩
  · exact ⟨h1, .inr ⟨g, cap, cur, e1, e2, (hg.block g (Array.getElem?_eq_some_iff.1 e3).1 (fun e => by cases e; omega)).trans e3, rest⟩⟩
theorem OwnR.shape {w : World} {base s m : Nat} {e : TypeId} {v : Value} {C : Nat → Array Value} (h : OwnR w base e s v m C) (hC : Recs s C) (hs : 0 < s) : ∃ A c, v = .slice A m c ∧ m ≤ c ∧ c ≤ maxLen ∧ (A = none → m = 0 ∧ c = 0) ∧ RdR w A m s C := ownR_shape hC hs h
theorem rdR_blk {w : World} {B s : Nat} {C : Array Value} {t : TypeId} (h : Blk t w B C) : RdR w (some ⟨B, 0, none⟩) 1 s (fun _ => C) := by
  refine .inr ⟨B, 0, rfl, h.lt, fun j hj i u hu => ?_⟩
  obtain rfl : j = 0 := by omega
  rw [Nat.zero_mul, Nat.zero_add, h.cell i]
  simpa using hu
theorem below_dg (W : World) (q : Nat) (os : Array Obj) : Below W.heap.size W (grow (W.drewN q) os) := ⟨rfl, rfl, rfl, by simp, fun i hi => by rw [heap_grow_old _ _ (by simpa using hi)]; rfl⟩
theorem blk_ow {t : TypeId} {w w' : World} {g r : Nat} {C : Array Value} (h : Blk t w g C) (hg : w.grownBy w' (some r)) (hr : g ≠ r) : Blk t w' g C := (hg.block g h.lt (fun e => hr (by cases e; rfl))).trans h
section
variable {ops : Array Oper} {Q : Exit → Act → World → Prop}
theorem app_Y {rest : List Oper} {o : Oper} {a : Act} {w : World} (T E : TypeId) (s bs : Nat) (z : Value) (hT : Tryz.prog.underlying T = some (.slice E)) (hI : (Tryz.prog.info? E).map (fun i => (i.zero, i.size, i.bytes)) = some (some z, s, bs)) (hzs : z.cells.size = s) (hs0 : 0 < s)
    (hgd : o.guard = none) (y x : Operand) (ho : o.op = .call { callee := .builtin .append, args := #[y, x], argTypes := #[T, T] })
    (B : Nat) (v : Value) (n : Nat) (C : Nat → Array Value) (hs : a.eval y = v) (hown : OwnR w B E s v n C) (hb : B ≤ w.heap.size)
    (ad : Addr) (m c : Nat) (D : Nat → Array Value) (hx : a.eval x = .slice (some ad) m c) (hR : RdR w (some ad) m s D) (hD : Recs s D) (h63 : n + m ≤ maxLen) (hbd : (n + m) * bs ≤ 140737488355328)
    (h : ∀ v' w', OwnR w' B E s v' (n + m) (catR C n D) → w.grownBy w' v.ownBlock → (∀ k, v.ownBlock = some k → B ≤ k) → wpList Tryz.prog ops Q rest (a.put o.dst v') w') :
    wpList Tryz.prog ops Q (o :: rest) a w := by
  obtain ⟨i0, hi, hz0, hz1, hz2⟩ := info_parts hI
  refine wpList_append_own_at w hgd y x _ ho B E i0 z s bs hT hi hz0 hz1 hz2 hzs hs0 v n _ hs hown ad m c (cellsR D m) hx (cellsR_len hD m) (recs_news hD hs0 hR) (cellsR_one hD m) h63 hbd hb ?_
  intro v' w' h2 h3 h4 h5
  rw [cellsR_cat] at h2
  exact h v' w' h2 h3 (fun k e => (hown.lt k e).1)
end
structure Col (H : Nat → Option Hd) (a b : Nat) (left : Nat → Bool) (S : List HdI) : Prop where
  mem : ∀ x ∈ S, H x.1.id = some x.1 ∧ a ≤ x.1.id ∧ x.1.id ≤ b ∧ left x.1.id = false
  all : ∀ x : HdI, H x.1.id = some x.1 → left x.1.id = false → a ≤ x.1.id → x.1.id ≤ b → x ∈ S
  nd : S.Nodup
section
variable {H : Nat → Option Hd} {a b n : Nat} {left : Nat → Bool} {S T : List HdI}
theorem Col.start {M : Nat → Option Nat} (h : ∀ i, M i = none ↔ H i = none) : Col H a b (fun n => (M n).isSome) [] := by
  refine ⟨fun x hx => ?_, fun x hx hl _ _ => ?_, List.nodup_nil⟩
  · cases hx
  · have h1 : M x.1.id = none := by simpa using hl
    rw [(h _).1 h1] at hx
    cases hx
theorem Col.step_out (h : Col H a b left S) (ho : ¬ (a ≤ n ∧ n ≤ b)) : Col H a b (fun x => left x && !(x == n)) S := by
  refine ⟨fun x hx => ?_, fun x h1 h2 h3 h4 => ?_, h.nd⟩
  · obtain ⟨h1, h2, h3, h4⟩ := h.mem x hx
    exact ⟨h1, h2, h3, by simp [h4]⟩
  · have hxn : x.1.id ≠ n := fun e => ho ⟨by omega, by omega⟩
    have h5 : (x.1.id == n) = false := by simpa using hxn
    exact h.all x h1 (by simpa [h5] using h2) h3 h4
theorem Col.step_in (h : Col H a b left S) {x : HdI} (hx : H x.1.id = some x.1) (hl : left x.1.id = true) (h1 : a ≤ x.1.id) (h2 : x.1.id ≤ b) : Col H a b (fun y => left y && !(y == x.1.id)) (S ++ [x]) := by
  refine ⟨fun y hy => ?_, fun y g1 g2 g3 g4 => ?_, ?_⟩
  · rcases List.mem_append.1 hy with hy | hy
    · obtain ⟨g1, g2, g3, g4⟩ := h.mem y hy
      exact ⟨g1, g2, g3, by simp [g4]⟩
    · obtain rfl := List.mem_singleton.1 hy
      exact ⟨hx, h1, h2, by simp⟩
  · by_cases e : y.1.id = x.1.id
    · have : y = x := by
        rw [e, hx] at g1
        exact Subtype.ext (Option.some.inj g1).symm
      exact List.mem_append.2 (.inr (List.mem_singleton.2 this))
    · have h5 : (y.1.id == x.1.id) = false := by simpa using e
      exact List.mem_append.2 (.inl (h.all y g1 (by simpa [h5] using g2) g3 g4))
  · rw [List.nodup_append]
    refine ⟨h.nd, by simp, fun y hy z hz => ?_⟩
    obtain rfl := List.mem_singleton.1 hz
    rintro rfl
    have := (h.mem _ hy).2.2.2
    rw [hl] at this
    cases this
theorem Col.done (h : Col H a b left S) (hl : ∀ n g, H n = some g → left n = false) (hp : T.Perm S) (ha : Asc T) : InRg H a b T := by
  have hT : ∀ x ∈ T, H x.1.id = some x.1 ∧ a ≤ x.1.id ∧ x.1.id ≤ b := fun x hx => by
    obtain ⟨g1, g2, g3, _⟩ := h.mem x (hp.mem_iff.1 hx)
    exact ⟨g1, g2, g3⟩
  refine ⟨ascT_of (fun x hx y hy e => ?_) (hp.nodup_iff.2 h.nd) ha, fun x => ⟨hT x, fun ⟨g1, g2, g3⟩ => hp.mem_iff.2 (h.all x g1 (hl _ _ g1) g2 g3)⟩⟩
  have e1 := (hT x hx).1
  have e2 := (hT y hy).1
  rw [e, e2] at e1
  exact Subtype.ext (Option.some.inj e1).symm
theorem cmp_le (a b : Nat) : decide (cmp3 (a : Int) (b : Int) ≤ 0) = decide (a ≤ b) := by
  unfold cmp3
  by_cases h1 : (a : Int) < (b : Int)
  · rw [if_pos h1]; simp; omega
  · rw [if_neg h1]
    by_cases h2 : (b : Int) < (a : Int)
    · rw [if_pos h2]; simp; omega
    · rw [if_neg h2]; simp; omega
end
theorem en_snoc (S : List HdI) (x : HdI) : ∀ j, j < S.length + 1 → catR (enB S) S.length (fun _ => enC (hdE x.1)) j = enB (S ++ [x]) j := by
  intro j hj
  unfold catR enB
  by_cases h : j < S.length
  · rw [if_pos h, List.getElem?_append_left h]
  · rw [if_neg h, show j = S.length by omega, List.getElem?_append_right (Nat.le_refl _)]
    simp
theorem bs_en1 (W : World) (o : Oper) (e : Operand → Value) {x : Operand} (ho : o.op = .buildSlice 67 1 #[(0, x)]) (h : Hd) (h0 : e x = .agg (enC (hdE h))) :
    (execOp e o).run Tryz.prog W = .ok (.value (.slice (some ⟨W.heap.size, 0, none⟩) 1 1)) (W.alloc (.cells (enC (hdE h)) 58)) := by
  unfold execOp
  simp only [ho]
  simp only [List.map_toArray, List.map_cons, List.map_nil, h0]
  kernel_rfl
theorem infoA_en : (Tryz.prog.info? 58).map (fun i => (i.zero, i.size, i.bytes)) = some (some (.agg (enC ⟨fun _ => 0, 0, 0, 0⟩)), 11, 32) := by kernel_rfl
def ListP (H : Nat → Option Hd) (a b k : Nat) (w : World) (e : Ending) (w' : World) : Prop :=
  ∃ v T, e = .returned v ∧ OwnR w' w.heap.size 58 11 v T.length (enB T) ∧ InRg H a b T ∧ T.length ≤ k ∧ Below w.heap.size w w'
set_option maxHeartbeats 16000000 in
set_option maxRecDepth 100000 in
theorem list_any (B s b k nf nt : Nat) (H : Nat → Option Hd) (r : Bool) (w : World) (hst : StAt w B s b H k r) (hf : IdOk nf) (ht : IdOk nt) (hk : k ≤ 512) : Calls Tryz.prog 19 #[.pointer (some ⟨s, 0, none⟩), .agg (iC nf), .agg (iC nt)] w (ListP H nf nt k w) := by
  obtain ⟨M, hM, hMH, hMA, _⟩ := hst.map
  have HMH := Lib.hid hMH
  have HMA := Lib.hid hMA
  have KS := Lib.hid hst.blk
  have KM := Lib.hid hM
  have HF := Lib.hid hf
  have HT := Lib.hid ht
  have HK := Lib.hid hk
  have lt_s := hst.lt
  have lt_b := hst.ltb
  clear hst hM hMH hMA hf ht hk
  go_enter Tryz.func19, Tryz.ntmps19
  have HB := Lib.hid (Below.refl w.heap.size w)
  obtain ⟨N1, hN1⟩ : ∃ N, w.heap.size = N := ⟨_, rfl⟩
  have HN1 := Lib.hid hN1
  clear hN1
  go_wp2_with (refine wpList_box (op := ⟨some 4, _, _, _, _, _⟩) rfl 35 (.tmp 1) rfl (iC nf) rfl N1 HN1.out ?_; intro w1 k1 b1 s1; refine Hid.out ?_)
  refine Lib.hid ?_
  have K4 := Lib.hid k1
  clear k1
  have lt_s_N1 : s < N1 := by rw [← HN1.out]; exact KS.out.lt
  have lt_b_N1 : b < N1 := by rw [← HN1.out]; exact KM.out.lt
  have le_HB_N1 : w.heap.size ≤ N1 := by rw [← HN1.out]; exact HB.out.size
  replace KS := Lib.hid (KS.out.below b1 KS.out.lt)
  replace KM := Lib.hid (KM.out.below b1 KM.out.lt)
  replace HB := Lib.hid (HB.out.trans (b1.mono HB.out.size))
  clear b1 HN1
  obtain ⟨N2, hN2⟩ : ∃ N, w1.heap.size = N := ⟨_, rfl⟩
  have HN2 := Lib.hid hN2
  clear hN2
  go_wp2_with (refine wpList_box (op := ⟨some 5, _, _, _, _, _⟩) rfl 35 (.tmp 2) rfl (iC nt) rfl N2 HN2.out ?_; intro w2 k1 b1 s1; refine Hid.out ?_)
  refine Lib.hid ?_
  have K5 := Lib.hid k1
  clear k1
  have lt_s_N2 : s < N2 := by rw [← HN2.out]; exact KS.out.lt
  have lt_b_N2 : b < N2 := by rw [← HN2.out]; exact KM.out.lt
  have lt_N1_N2 : N1 < N2 := by rw [← HN2.out]; exact K4.out.lt
  have le_HB_N2 : w.heap.size ≤ N2 := by rw [← HN2.out]; exact HB.out.size
  replace KS := Lib.hid (KS.out.below b1 KS.out.lt)
  replace KM := Lib.hid (KM.out.below b1 KM.out.lt)
  replace K4 := Lib.hid (K4.out.below b1 K4.out.lt)
  replace HB := Lib.hid (HB.out.trans (b1.mono HB.out.size))
  clear b1 HN2
  have c0 : w2.cell? ⟨s, 0, none⟩ = some (.map (some b)) := (KS.out.cell 0).trans rfl
  obtain ⟨NR, hNR⟩ : ∃ N, w2.heap.size = N := ⟨_, rfl⟩
  have lt_s_NR : s < NR := by rw [← hNR]; exact KS.out.lt
  have lt_b_NR : b < NR := by rw [← hNR]; exact KM.out.lt
  have lt_4_NR : N1 < NR := by rw [← hNR]; exact K4.out.lt
  have lt_5_NR : N2 < NR := by rw [← hNR]; exact K5.out.lt
  have le_w_NR : w.heap.size ≤ NR := by rw [← hNR]; exact HB.out.size
  have HNR := Lib.hid hNR
  clear hNR
  go_wp2_with (refine wpList_rg (op := ⟨some 16, _, _, _, _, _⟩) rfl (.tmp 15) rfl rfl KM.out NR HNR.out ?_; intro w3 hR b1 s1; refine Hid.out ?_)
  refine Lib.hid ?_
  have RG : Hid (RgA w3 NR b M k (fun x => (M x).isSome) k) := Lib.hid hR
  replace KS := Lib.hid (KS.out.below b1 KS.out.lt)
  replace KM := Lib.hid (KM.out.below b1 KM.out.lt)
  replace K4 := Lib.hid (K4.out.below b1 K4.out.lt)
  replace K5 := Lib.hid (K5.out.below b1 K5.out.lt)
  replace HB := Lib.hid (HB.out.trans (b1.mono HB.out.size))
  obtain ⟨B0, hB0⟩ : ∃ N, NR + 1 = N := ⟨_, rfl⟩
  rw [hB0] at s1
  have lt_NR : NR < B0 := by omega
  have HS1 := Lib.hid s1
  have lt_b0 := lt_b
  clear b1 hR s1 HNR c0 hB0
  go_wp2_with fail
  go_loopw [7] (fun v wr => ∃ left cnt S, Hid (OwnR wr B0 58 11 v S.length (enB S)) ∧ Hid (RgA wr NR b M k left cnt) ∧ Hid (Blk 35 wr N1 (iC nf)) ∧ Hid (Blk 35 wr N2 (iC nt)) ∧ Hid (Below w.heap.size w wr) ∧ Hid (B0 ≤ wr.heap.size) ∧ Hid (Col H nf nt left S) ∧ Hid (S.length + cnt ≤ k)) (fun _ wr => rngLeft wr b NR)
  case atStart => exact ⟨_, k, [], Lib.hid (OwnR.nil _ _ _ _ _), RG, K4, K5, HB, HS1, Lib.hid (Col.start HMH.out), Lib.hid (by simp)⟩
  case round =>
    clear KS KM K4 K5 HB HS1 RG
    obtain ⟨left, cnt, S, HO, RG, K4, K5, HB, HS1, HC, HL⟩ := hrel
    go_wp2_with (refine wpList_nx (op := ⟨some 17, _, _, _, _, _⟩) rfl (.tmp 16) rfl rfl RG.out (fun h0 => ?_) (fun n gx w4 cnt2 hMn hid hlf hR2 hlt hgr hsz hent => ?_); (all_goals refine Hid.out ?_))
    rotate_left
    · refine Lib.hid ?_
      obtain ⟨h, hHn⟩ : ∃ h, H n = some h := by
        cases e : H n with
        | none => have := (HMH.out n).2 e; rw [hMn] at this; cases this
        | some h => exact ⟨h, rfl⟩
      have HA := Lib.hid (HMA.out n gx h hMn hHn)
      have HHn := Lib.hid hHn
      have HID := Lib.hid hid
      have HLF := Lib.hid hlf
      have HENT := Lib.hid hent
      have HLT := Lib.hid hlt
      have HRL : Hid (rngLeft wr b NR = cnt) := Lib.hid (RngAt.left_eq RG.out)
      replace HB : Hid (Below w.heap.size w w4) := Lib.hid (HB.out.grown hgr HB.out.size (fun x e => by cases e; exact le_w_NR))
      replace HO : Hid (OwnR w4 B0 58 11 _ S.length (enB S)) := Lib.hid (HO.out.ow hgr lt_NR)
      replace K4 := Lib.hid (blk_ow K4.out hgr (by omega))
      replace K5 := Lib.hid (blk_ow K5.out hgr (by omega))
      replace HS1 : Hid (B0 ≤ w4.heap.size) := Lib.hid (by rw [hsz]; exact HS1.out)
      replace RG : Hid (RgA w4 NR b M k (fun x => left x && !(x == n)) cnt2) := Lib.hid hR2
      clear hMn hid hlf hR2 hlt hgr hsz hent hHn
      go_wp2_with (refine wpList_v (op := ⟨some 19, _, _, _, _, _⟩) rfl (.tuple #[.agg (iC n), .pointer (some ⟨gx, 0, none⟩)]) (entry_run _ _ _ rfl _ rfl HENT.out) ?_; refine Hid.out ?_)
      refine Lib.hid ?_
      clear HENT
      obtain ⟨N8, hN8⟩ : ∃ N, w4.heap.size = N := ⟨_, rfl⟩
      have HN8 := Lib.hid hN8
      clear hN8
      go_wp2_with (refine wpList_new (op := ⟨some 8, _, _, _, _, _⟩) rfl 35 rfl (iC 0) zero_idS N8 HN8.out ?_; intro w5 k1 b1 s1; refine Hid.out ?_)
      refine Lib.hid ?_
      have K8 := Lib.hid k1
      have HB1 := Lib.hid b1
      clear k1 b1 s1
      go_wp2_with (refine wpList_st rfl 35 (.tmp 8) (.tmp 20) rfl N8 0 rfl (.agg (iC n)) (iC n) rfl rfl info_iC (idC_one _) K8.out (Nat.le_of_ble_eq_true rfl) (C' := iC n) (id_over _ _) ?_; intro w6 q1; refine Hid.out ?_)
      refine Lib.hid ?_
      have b2 : Below w4.heap.size w4 w6 := HB1.out.trans (q1.2.1 _ (by rw [HN8.out]; exact Nat.le_refl _))
      have HS2 : Hid (B0 ≤ w6.heap.size) := Lib.hid (Nat.le_trans HS1.out b2.size)
      clear HS1
      have HS1 := HS2
      clear HS2
      have lt_NR8 : NR < N8 := by rw [← HN8.out]; exact RG.out.lt
      replace K4 := Lib.hid (K4.out.below b2 K4.out.lt)
      replace K5 := Lib.hid (K5.out.below b2 K5.out.lt)
      replace RG := Lib.hid (RG.out.below b2 RG.out.lt)
      replace HO := Lib.hid (HO.out.below b2)
      replace HB := Lib.hid (HB.out.trans (b2.mono HB.out.size))
      replace K8 : Hid (Blk 35 w6 N8 (iC n)) := Lib.hid q1.1
      clear q1 b2 HB1 HN8
      go_wp2_with (refine wpList_ld (op := ⟨some 22, _, _, _, _, _⟩) (by rfl) 35 (.tmp 4) rfl N1 0 rfl (iC nf) _ K4.out.all Tryz.underlying35 rfl info_iC ?_; refine Hid.out ?_)
      refine Lib.hid ?_
      go_wp2_with (refine wpList_ld (op := ⟨some 23, _, _, _, _, _⟩) (by rfl) 35 (.tmp 8) rfl N8 0 rfl (iC n) _ K8.out.all Tryz.underlying35 rfl info_iC ?_; refine Hid.out ?_)
      refine Lib.hid ?_
      go_wp2_with fail
      refine (order_any nf n w6 HF.out HID.out).mono ?_
      rintro e w7 ⟨rfl, q, os', hw⟩
      have b1 : Below w6.heap.size w6 w7 := by rw [hw]; exact below_dg _ _ _
      clear hw
      have HS2 : Hid (B0 ≤ w7.heap.size) := Lib.hid (Nat.le_trans HS1.out b1.size)
      clear HS1
      have HS1 := HS2
      clear HS2
      replace K4 := Lib.hid (K4.out.below b1 K4.out.lt)
      replace K5 := Lib.hid (K5.out.below b1 K5.out.lt)
      replace RG := Lib.hid (RG.out.below b1 RG.out.lt)
      replace K8 := Lib.hid (K8.out.below b1 K8.out.lt)
      replace HO := Lib.hid (HO.out.below b1)
      replace HB := Lib.hid (HB.out.trans (b1.mono HB.out.size))
      clear b1
      obtain ⟨c1, hc1⟩ : ∃ c, cmp3 (nf : Int) (n : Int) = c := ⟨_, rfl⟩
      rw [hc1]
      have HC1 : Hid (decide (c1 ≤ 0) = decide (nf ≤ n)) := Lib.hid (by rw [← hc1]; exact cmp_le nf n)
      clear hc1
      by_cases h1 : c1 ≤ 0
      · have H1 := Lib.hid h1
        have hyes : nf ≤ n := by have := HC1.out; rw [decide_eq_true H1.out] at this; exact of_decide_eq_true this.symm
        have HY := Lib.hid hyes
        clear hyes
        go_wp2_with (refine wpList_ld (op := ⟨some 27, _, _, _, _, _⟩) (by rfl) 35 (.tmp 8) rfl N8 0 rfl (iC n) _ K8.out.all Tryz.underlying35 rfl info_iC ?_; refine Hid.out ?_)
        refine Lib.hid ?_
        go_wp2_with (refine wpList_ld (op := ⟨some 28, _, _, _, _, _⟩) (by rfl) 35 (.tmp 5) rfl N2 0 rfl (iC nt) _ K5.out.all Tryz.underlying35 rfl info_iC ?_; refine Hid.out ?_)
        refine Lib.hid ?_
        go_wp2_with fail
        refine (order_any n nt w7 HID.out HT.out).mono ?_
        rintro e w8 ⟨rfl, q, os', hw⟩
        have b1 : Below w7.heap.size w7 w8 := by rw [hw]; exact below_dg _ _ _
        clear hw
        have HS2 : Hid (B0 ≤ w8.heap.size) := Lib.hid (Nat.le_trans HS1.out b1.size)
        clear HS1
        have HS1 := HS2
        clear HS2
        replace K4 := Lib.hid (K4.out.below b1 K4.out.lt)
        replace K5 := Lib.hid (K5.out.below b1 K5.out.lt)
        replace RG := Lib.hid (RG.out.below b1 RG.out.lt)
        replace K8 := Lib.hid (K8.out.below b1 K8.out.lt)
        replace HO := Lib.hid (HO.out.below b1)
        replace HB := Lib.hid (HB.out.trans (b1.mono HB.out.size))
        clear b1
        obtain ⟨c2, hc2⟩ : ∃ c, cmp3 (n : Int) (nt : Int) = c := ⟨_, rfl⟩
        rw [hc2]
        have HC2 : Hid (decide (c2 ≤ 0) = decide (n ≤ nt)) := Lib.hid (by rw [← hc2]; exact cmp_le n nt)
        clear hc2
        by_cases h2 : c2 ≤ 0
        · have H2 := Lib.hid h2
          have hyes : n ≤ nt := by have := HC2.out; rw [decide_eq_true H2.out] at this; exact of_decide_eq_true this.symm
          have HZ := Lib.hid hyes
          clear hyes
          have HG : Hid (HdAt w8 B gx h) := Lib.hid (HA.out.1.below HB.out)
          have HEQ : Hid (h.id = n) := Lib.hid HA.out.2.1
          obtain ⟨x0, hx0⟩ : ∃ x : HdI, x.1 = h := ⟨⟨h, by rw [HEQ.out]; exact HID.out⟩, rfl⟩
          have HX0 := Lib.hid hx0
          clear hx0
          have HRE : Hid (w8.rangeAt gx 0 (enC (hdE h)).toList) := Lib.hid (by obtain ⟨_, ro, oa, c, k0, _⟩ := HG.out; exact hd_ent k0)
          go_wp2_with (refine wpList_ld (op := ⟨some 36, _, _, _, _, _⟩) (by rfl) 58 (.tmp 35) rfl gx 0 rfl (enC (hdE h)) _ HRE.out Tryz.underlying58 rfl info_enP ?_; refine Hid.out ?_)
          refine Lib.hid ?_
          obtain ⟨N9, hN9⟩ : ∃ N, w8.heap.size = N := ⟨_, rfl⟩
          have HN9 := Lib.hid hN9
          clear hN9
          go_wp2_with (refine wpList_bsn (op := ⟨some 37, _, _, _, _, _⟩) 1 rfl 58 (enC (hdE h)) (bs_en1 _ _ _ rfl h rfl) N9 HN9.out ?_; intro w9 k1 b1 s1; refine Hid.out ?_)
          refine Lib.hid ?_
          have HRD : Hid (RdR w9 (some ⟨N9, 0, none⟩) 1 11 (fun _ => enC (hdE h))) := Lib.hid (rdR_blk k1)
          clear k1 s1
          have HS2 : Hid (B0 ≤ w9.heap.size) := Lib.hid (Nat.le_trans HS1.out b1.size)
          clear HS1
          have HS1 := HS2
          clear HS2
          replace K4 := Lib.hid (K4.out.below b1 K4.out.lt)
          replace K5 := Lib.hid (K5.out.below b1 K5.out.lt)
          replace RG := Lib.hid (RG.out.below b1 RG.out.lt)
          replace K8 := Lib.hid (K8.out.below b1 K8.out.lt)
          replace HO := Lib.hid (HO.out.below b1)
          replace HB := Lib.hid (HB.out.trans (b1.mono HB.out.size))
          clear b1 HN9
          have hk5 : k ≤ 512 := HK.out
          have hsl : S.length + 1 ≤ 513 := by have := HL.out; omega
          have HSL := Lib.hid hsl
          clear hk5 hsl
          have hml : maxLen = 9223372036854775807 := rfl
          have HML := Lib.hid hml
          clear hml
          go_wp2_with (at_builtin; refine app_Y 67 58 11 32 _ Tryz.underlying67 infoA_en rfl (by decide) rfl (.tmp 32) (.tmp 37) rfl B0 _ S.length (enB S) rfl HO.out HS1.out ⟨N9, 0, none⟩ 1 1 (fun _ => enC (hdE h)) rfl HRD.out (fun _ => ⟨rfl, enC_ones _⟩) (by have := HSL.out; rw [HML.out]; omega) (by have := HSL.out; omega) ?_; intro v10 w10 ho9 hg9 hk9; refine Hid.out ?_)
          refine Lib.hid ?_
          have HOy : Hid (OwnR w10 B0 58 11 v10 (S ++ [x0]).length (enB (S ++ [x0]))) := Lib.hid (by rw [List.length_append]; exact OwnR.congr ho9 (fun j hj => by have := en_snoc S x0 j hj; rw [HX0.out] at this; exact this))
          have hfar : ∀ x, x < B0 → w10.heap[x]? = w9.heap[x]? := fun x hx => hg9.block x (Nat.lt_of_lt_of_le hx HS1.out) (fun e => by have := hk9 x e.symm; omega)
          have K4n : Hid (Blk 35 w10 N1 (iC nf)) := Lib.hid ((hfar _ (by omega)).trans K4.out)
          have K5n : Hid (Blk 35 w10 N2 (iC nt)) := Lib.hid ((hfar _ (by omega)).trans K5.out)
          have RGn : Hid (RgA w10 NR b M k (fun x => left x && !(x == n)) cnt2) := Lib.hid (RngAt.at RG.out (hfar _ (by omega)) (hfar _ lt_NR))
          have HBy : Hid (Below w.heap.size w w10) := Lib.hid (HB.out.grown hg9 HB.out.size (fun k e => by have := hk9 k e; omega))
          have HSy : Hid (B0 ≤ w10.heap.size) := Lib.hid (Nat.le_trans HS1.out hg9.size)
          clear ho9 hg9 hk9 hfar HRD HO K4 K5 RG HB HS1
          have K4 := K4n
          have K5 := K5n
          have RG := RGn
          have HB := HBy
          have HS1 := HSy
          clear K4n K5n RGn HBy HSy
          have HCz : Hid (Col H nf nt (fun x => left x && !(x == n)) (S ++ [x0])) := Lib.hid (by
            have e := HX0.out
            have e2 : x0.1.id = n := by rw [e]; exact HEQ.out
            have e3 := Col.step_in (x := x0) HC.out (by rw [e2, e]; exact HHn.out) (by rw [e2]; exact HLF.out) (by rw [e2]; exact HY.out) (by rw [e2]; exact HZ.out)
            rw [e2] at e3
            exact e3)
          go_wp2_with fail
          go_roundw
          case rel => exact ⟨_, cnt2, (S ++ [x0]), HOy, RG, K4, K5, HB, HS1, Lib.hid (HCz.out), Lib.hid (by have := HL.out; have := HLT.out; rw [List.length_append, List.length_singleton]; omega)⟩
          case measure => rw [RngAt.left_eq RG.out, HRL.out]; exact HLT.out
        · have H2 := Lib.hid h2
          have hno : ¬ n ≤ nt := fun e => by have := HC2.out; rw [decide_eq_true e] at this; exact H2.out (of_decide_eq_true this)
          have HNO := Lib.hid hno
          clear hno
          go_wp2_with fail
          go_roundw
          case rel => exact ⟨_, cnt2, S, HO, RG, K4, K5, HB, HS1, Lib.hid (Col.step_out HC.out (fun e => HNO.out e.2)), Lib.hid (by have := HL.out; have := HLT.out; omega)⟩
          case measure => rw [RngAt.left_eq RG.out, HRL.out]; exact HLT.out
      · have H1 := Lib.hid h1
        have hno : ¬ nf ≤ n := fun e => by have := HC1.out; rw [decide_eq_true e] at this; exact H1.out (of_decide_eq_true this)
        have HNO := Lib.hid hno
        clear hno
        go_wp2_with fail
        go_roundw
        case rel => exact ⟨_, cnt2, S, HO, RG, K4, K5, HB, HS1, Lib.hid (Col.step_out HC.out (fun e => HNO.out e.1)), Lib.hid (by have := HL.out; have := HLT.out; omega)⟩
        case measure => rw [RngAt.left_eq RG.out, HRL.out]; exact HLT.out
    · refine Lib.hid ?_
      subst h0
      have HNN : Hid (∀ n gg, H n = some gg → left n = false) := Lib.hid (fun n gg hn => by
        cases e : M n with
        | none => have := (HMH.out n).1 e; rw [hn] at this; cases this
        | some g9 => exact RngAt.none RG.out e)
      rcases HO.out.2 with ⟨rfl, hx⟩ | ⟨gb, cap, cur, rfl, hbase, hb, h1, h2, h3, h4⟩
      · have hS0 : S = [] := List.eq_nil_of_length_eq_zero hx
        subst hS0
        have hs := fun W => sort_none W
        go_wp2_with (first | (go_at_call 53; refine (hs _).mono ?_; rintro e w9 ⟨rfl, rfl⟩) | go_in)
        go_ret
        exact ⟨_, [], rfl, OwnR.nil _ _ _ _ _, Col.done HC.out HNN.out (List.Perm.refl _) (fun i j _ hj => by simp at hj), by simp, HB.out⟩
      · have hsr := sort_row gb cap S wr cur hb h4 (by have := HL.out; have := HK.out; omega) ()
        have HQ := Lib.hid (show B0 ≤ gb ∧ wr.heap[gb]? = some (.cells cur 58 (0, 0)) ∧ S.length ≤ cap ∧ cap ≤ maxLen ∧ cur.size = cap * 11 from ⟨hbase, hb, h1, h2, h3⟩)
        clear hbase hb h1 h2 h3 h4
        go_wp2_with (first | (go_at_call 53; refine hsr.mono ?_; rintro e w9 ⟨rfl, T, n9, os, hp, ha, hw9⟩; refine Hid.out ?_) | go_in)
        refine Lib.hid ?_
        have HP := Lib.hid hp
        have HA := Lib.hid ha
        have HW := Lib.hid hw9
        clear hp ha hw9 hsr
        go_wp2_with fail
        go_ret
        obtain ⟨o1, o2, o3, o4, o5⟩ := HQ.out
        have hlen : T.length = S.length := HP.out.length_eq
        have hown := own_sorted (n := n9) (os := os) (T := T) hlen o1 o2 o3 o4 o5
        have hgr : wr.grownBy (grow (putRowK enc11 11 (Sort.ahead wr n9) gb 0 T.toArray) os) (some gb) := grownBy_sortedK T.toArray
        try rw [HW.out]
        have e9 : ∀ x, x = S.length → OwnR (grow (putRowK enc11 11 (Sort.ahead wr n9) gb 0 T.toArray) os) w.heap.size 58 11 (.slice (some ⟨gb, 0, none⟩) x cap) T.length (enB T) := fun x hx => by rw [hx]; exact hown.mono (by omega)
        exact ⟨_, T, rfl, e9 _ rfl, Col.done HC.out HNN.out HP.out HA.out, by rw [hlen]; have := HL.out; omega, HB.out.grown hgr HB.out.size (fun k e => by cases e; omega)⟩
end Go.Proofs.YtkiaijmhoikdiaaGreat
