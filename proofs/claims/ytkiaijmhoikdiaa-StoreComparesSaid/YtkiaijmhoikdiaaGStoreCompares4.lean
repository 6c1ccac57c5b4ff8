/- Texts of this claim put together; each theorem states its conditions. -/
import Derived.Test.YtkiaijmhoikdiaaGStoreCompares3
import Derived.Shelf.SlSortCmp.WholeK
import Derived.Sort.Grow
import Derived.Sort.Statements
import Derived.Ground.SlsfProg
import Derived.Ground.NamesProg
import Derived.Test.YtkiaijmhoikdiaaProg
import Derived.Maps.RangeWalk
import Derived.Deep.DeepCutAuto
import Derived.Test.YtkiaijmhoikdiaaGStoreCompares2
import Derived.Test.YtkiaijmhoikdiaaGStoreCompares1
import Derived.Laws.AppendOwnNone
/- A store in memory: New, Len, least, Put. Each theorem states its conditions. -/
namespace Go.Proofs.Ytkiaijmhoikdiaa
open Go.RowKit Go.MapKept
set_option linter.unusedVariables false
set_option linter.unusedSimpArgs false

def stC (b : Nat) (r : Bool) : Array Value := #[.map (some b), .bool r]
/-- a store at s: its map at b; what it holds; how many; has it refused? -/
structure StAt (w : World) (B s b : Nat) (H : Nat → Option Hd) (k : Nat) (r : Bool) : Prop where
  hs : B ≤ s
  hb : B ≤ b
  blk : Blk 79 w s (stC b r)
  map : ∃ M, MapAt w b M k ∧ (∀ i, M i = none ↔ H i = none) ∧ (∀ i g h, M i = some g → H i = some h → HdAt w B g h ∧ h.id = i ∧ (27 ≤ h.n ∧ h.n ≤ 1492) ∧ (∀ j, 0 ≤ h.z j ∧ h.z j ≤ 255)) ∧ ∀ i j g, M i = some g → M j = some g → i = j
/-- nothing that was there has turned but blocks s and b -/
structure Fr (w w' : World) (s b : Nat) : Prop where
  os : w'.os = w.os
  tape : w'.tape = w.tape
  output : w'.output = w.output
  size : w.heap.size ≤ w'.heap.size
  block : ∀ i, i < w.heap.size → i ≠ s → i ≠ b → w'.heap[i]? = w.heap[i]?
theorem Fr.below {w w' : World} {s b B : Nat} (h : Fr w w' s b) (hs : B ≤ s) (hb : B ≤ b) (hB : B ≤ w.heap.size) : Below B w w' :=
  ⟨h.os, h.tape, h.output, h.size, fun i hi => h.block i (by omega) (by omega) (by omega)⟩
theorem Fr.of_below {w w' : World} (s b : Nat) (h : Below w.heap.size w w') : Fr w w' s b := ⟨h.os, h.tape, h.output, h.size, fun i hi _ _ => h.block i hi⟩
theorem Fr.trans {w w1 w2 : World} {s b : Nat} (h : Fr w w1 s b) (k : Fr w1 w2 s b) : Fr w w2 s b :=
  ⟨k.os.trans h.os, k.tape.trans h.tape, k.output.trans h.output, Nat.le_trans h.size k.size, fun i hi h1 h2 => (k.block i (Nat.lt_of_lt_of_le hi h.size) h1 h2).trans (h.block i hi h1 h2)⟩
theorem Fr.turn {w w' : World} {s b : Nat} (h : Turn w w' b) : Fr w w' s b := by
  have hg := h.grown
  exact ⟨hg.os, hg.tape, hg.output, hg.size, fun i hi _ h2 => hg.block i hi (fun e => h2 (by cases e; rfl))⟩
section
variable {w w' : World} {B s b k : Nat} {H : Nat → Option Hd} {r : Bool}
theorem StAt.lt (h : StAt w B s b H k r) : s < w.heap.size := h.blk.lt
theorem StAt.ltb (h : StAt w B s b H k r) : b < w.heap.size := by obtain ⟨M, h1, _⟩ := h.map; exact h1.lt
theorem StAt.ltB (h : StAt w B s b H k r) : B ≤ w.heap.size := Nat.le_of_lt (Nat.lt_of_le_of_lt h.hs h.lt)
theorem StAt.ne (h : StAt w B s b H k r) : s ≠ b := by
  rintro rfl
  obtain ⟨M, ⟨es, c, h1, _⟩, _⟩ := h.map
  have h2 : w.heap[s]? = _ := h.blk
  rw [h1] at h2
  cases h2
theorem StAt.below (h : StAt w B s b H k r) (hb : Below w.heap.size w w') : StAt w' B s b H k r := by
  obtain ⟨h1, h2, h3, M, h4, h5, h6, h7⟩ := h
  exact ⟨h1, h2, h3.below hb h3.lt, M, h4.below hb h4.lt, h5, fun i g x e1 e2 => by obtain ⟨a, c⟩ := h6 i g x e1 e2; exact ⟨a.below hb, c⟩, h7⟩
theorem HdAt.fr {g : Nat} {h : Hd} {s b : Nat} (k : HdAt w B g h) (hs : Blk 79 w s (stC b r)) (hm : ∃ es c, w.heap[b]? = some (.map es c)) (hf : Fr w w' s b) : HdAt w' B g h := by
  obtain ⟨h1, ro, oa, c, h2, h3, h4⟩ := k
  obtain ⟨es, cl, hm⟩ := hm
  have hgs : g ≠ s := by
    rintro rfl
    have e1 : w.heap[g]? = _ := h2
    have e2 : w.heap[g]? = _ := hs
    rw [e1] at e2
    injection e2 with e2
    injection e2 with _ e2 _
    exact absurd e2 (by decide)
  have hgb : g ≠ b := by
    rintro rfl
    have e1 : w.heap[g]? = _ := h2
    rw [hm] at e1
    cases e1
  obtain ⟨cur, hc⟩ := h3.2
  have hrs : ro ≠ s := by
    rintro rfl
    have e2 : w.heap[ro]? = _ := hs
    rw [hc] at e2
    injection e2 with e2
    injection e2 with _ e2 _
    exact absurd e2 (by decide)
  have hrb : ro ≠ b := by
    rintro rfl
    rw [hm] at hc
    cases hc
  exact ⟨h1, ro, oa, c, (hf.block g h2.lt hgs hgb).trans h2, h3.block (hf.block ro h3.lt hrs hrb), h4⟩
end
theorem MapAt.far {w w' : World} {b k c : Nat} {M : Nat → Option Nat} {C : Array Value} {t : TypeId} (h : MapAt w b M k) (hs : Stored w w' c C t) (hk : b ≠ c) : MapAt w' b M k := h.at (hs.2.2 b hk)
theorem build_st (o : Oper) (e : Operand → Value) (x : Operand) (ho : o.op = .build 79 #[(0, x)]) (b : Nat) (h0 : e x = .map (some b)) (W : World) : (execOp e o).run Try.prog W = .ok (.value (.agg (stC b false))) W := by
  unfold execOp
  simp only [ho]
  simp only [List.map_toArray, List.map_cons, List.map_nil, h0]
  kernel_rfl
theorem mm_run (o : Oper) (e : Operand → Value) (ho : o.op = .makeMap 77 none) (W : World) : (execOp e o).run Try.prog W = .ok (.value (.map (some W.heap.size))) (W.alloc (.map #[] 0)) := by
  unfold execOp
  simp only [ho]
  rfl
def noH : Nat → Option Hd := fun _ => none
/-- New -/
def NewP (w : World) (e : Ending) (w' : World) : Prop := ∃ s b, e = .returned (.pointer (some ⟨s, 0, none⟩)) ∧ StAt w' w.heap.size s b noH 0 false ∧ Below w.heap.size w w'
set_option maxHeartbeats 4000000 in
set_option maxRecDepth 100000 in
theorem new_any (w : World) : Calls Try.prog 9 #[] w (NewP w) := by
  go_enter Try.func9, Try.ntmps9
  have HB := Lib.hid (Below.refl w.heap.size w)
  obtain ⟨N0, hN0⟩ : ∃ N, w.heap.size = N := ⟨_, rfl⟩
  obtain ⟨w1, hw1⟩ : ∃ x, w.alloc (.map #[] 0) = x := ⟨_, rfl⟩
  have HM : Hid (MapAt w1 N0 (fun _ => none) 0) := Lib.hid (by rw [← hw1, ← hN0]; exact MapAt.new w)
  have HB1 : Hid (Below w.heap.size w w1) := Lib.hid (by rw [← hw1]; exact (Below.refl _ _).alloc (Nat.le_refl _) _)
  have HR : Hid (∀ (o : Oper) (e : Operand → Value) (ho : o.op = .makeMap 77 none), (execOp e o).run Try.prog w = .ok (.value (.map (some N0))) w1) := Lib.hid (fun o e ho => by rw [← hw1, ← hN0]; exact mm_run o e ho w)
  have HN0 := Lib.hid hN0
  clear hN0 hw1 HB
  go_wp2_with (refine wpList_v (op := ⟨some 1, _, _, _, _, _⟩) rfl (.map (some N0)) (HR.out _ _ rfl) ?_; refine Hid.out ?_)
  refine Lib.hid ?_
  go_wp2_with (refine wpList_v (op := ⟨some 2, _, _, _, _, _⟩) rfl (.agg (stC N0 false)) (build_st _ _ _ rfl N0 rfl _) ?_; refine Hid.out ?_)
  refine Lib.hid ?_
  obtain ⟨N1, hN1⟩ : ∃ N, w1.heap.size = N := ⟨_, rfl⟩
  have HN1 := Lib.hid hN1
  clear hN1
  go_wp2_with (refine wpList_box (op := ⟨some 3, _, _, _, _, _⟩) rfl 79 (.tmp 2) rfl (stC N0 false) rfl N1 HN1.out ?_; intro w2 k1 b1 s1; refine Hid.out ?_)
  refine Lib.hid ?_
  have HK := Lib.hid k1
  have HB2 := Lib.hid b1
  clear k1 b1 s1
  go_wp2_with fail
  go_ret
  exact ⟨N1, N0, rfl, ⟨by rw [← HN1.out]; exact HB1.out.size, by rw [HN0.out]; exact Nat.le_refl _, HK.out, _, HM.out.below HB2.out HM.out.lt, fun i => ⟨fun _ => rfl, fun _ => rfl⟩, fun i g h e1 _ => (by cases e1), fun i j g e1 _ => (by cases e1)⟩, HB1.out.trans (HB2.out.mono HB1.out.size)⟩
theorem len_run (o : Oper) (e : Operand → Value) (x : Operand) (ho : o.op = .call { callee := .builtin .len, args := #[x], argTypes := #[77] }) {w : World} {b k : Nat} {M : Nat → Option Nat} (h : MapAt w b M k) (h0 : e x = .map (some b)) : (execOp e o).run Try.prog w = .ok (.value (.int .i64 (k : Int))) w := by
  unfold execOp
  simp only [ho]
  simp [resolve, invoke, builtin, h0, map_len h, Result.andThen]
theorem look_run (o : Oper) (e : Operand → Value) (m x : Operand) (ho : o.op = .lookup 77 m x true) {w : World} {b k n : Nat} {M : Nat → Option Nat} (h : MapAt w b M k) (hn : IdOk n) (h0 : e m = .map (some b)) (h1 : e x = .agg (iC n)) : (execOp e o).run Try.prog w = .ok (.value (.tuple #[ptrV (M n), .bool (M n).isSome])) w := by
  unfold execOp
  simp only [ho]
  simp [h0, h1, map_look h hn, Result.andThen]
theorem put_run (o : Oper) (e : Operand → Value) (m x v : Operand) (ho : o.op = .mapUpdate 77 m x v) {w : World} {b k n g : Nat} {M : Nat → Option Nat} (h : MapAt w b M k) (hn : IdOk n) (h0 : e m = .map (some b)) (h1 : e x = .agg (iC n)) (h2 : e v = .pointer (some ⟨g, 0, none⟩)) :
    ∃ w', (execOp e o).run Try.prog w = .ok .skip w' ∧ MapAt w' b (putM M n (some g)) (if (M n).isSome then k else k + 1) ∧ Turn w w' b := by
  obtain ⟨w', h3, h4, h5⟩ := map_put h hn g
  refine ⟨w', ?_, h4, h5⟩
  unfold execOp
  simp only [ho]
  simp only [ptrV] at h3
  simp [h0, h1, h2, h3, Result.andThen]
set_option maxHeartbeats 4000000 in
set_option maxRecDepth 100000 in
theorem stLen_any {w : World} {B s b k : Nat} {H : Nat → Option Hd} {r : Bool} (h : StAt w B s b H k r) : Calls Try.prog 23 #[.pointer (some ⟨s, 0, none⟩)] w fun e w' => e = .returned (.int .i64 (k : Int)) ∧ w' = w := by
  obtain ⟨M, hM, _⟩ := h.map
  have c0 : w.cell? ⟨s, 0, none⟩ = some (.map (some b)) := (h.blk.cell 0).trans rfl
  have HM := Lib.hid hM
  clear h hM
  go_enter Try.func23, Try.ntmps23
  go_wp2_with (refine wpList_v (op := ⟨some 9, _, _, _, _, _⟩) rfl (.int .i64 (k : Int)) (len_run _ _ _ rfl HM.out rfl) ?_; refine Hid.out ?_)
  refine Lib.hid ?_
  go_wp2_with fail
  go_ret
  exact ⟨rfl, rfl⟩
set_option maxHeartbeats 4000000 in
set_option maxRecDepth 100000 in
theorem cloneB2 (b off n c : Nat) (z : Nat → Int) (w : World) (hr : Row8 w b off n z) (hn : n ≤ 2000) :
    Calls Try.prog 42 #[.slice (some ⟨b, off, none⟩) n c] w fun e w' => ∃ v, e = .returned v ∧ OwnB w' w.heap.size v n z ∧ Below w.heap.size w w' := by
  have HR := Lib.hid hr
  clear hr
  have hq : ∀ W : World, (binOp BinOp.eql 43 (Value.slice (some ⟨b, off, none⟩) n c) (Value.slice none 0 0)).run Try.prog W = .ok (.bool false) W := fun W => by kernel_rfl
  have HM := Lib.hid (made_b w w (bself w))
  have HB := Lib.hid ((bself w).alloc (Nat.le_refl _) (.cells #[] 5))
  have HDD : Hid (Rd (w.alloc (.cells #[] 5)) (some ⟨b, off, none⟩) n z) := Lib.hid (Rd.below ⟨.inr ⟨b, off, rfl, HR.out⟩, HR.out.2.2⟩ HB.out rfl)
  go_enter Try.func42, Try.ntmps42
  go_wp2_with (first
    | (at_builtin; refine app_s rfl (.tmp 5) (.tmp 6) rfl w (.slice (some ⟨w.heap.size, 0, none⟩) 0 0) 0 [] rfl HM.out HB.out ⟨b, off, none⟩ n c (vals z n) rfl (vals_len _ _) (rd_newsB HDD.out) (vals_one _ _) (by omega) ?_; intro v2 w2 ho2 hb2 hs2 hk2))
  rw [Nat.zero_add, List.nil_append] at ho2
  go_ret
  exact ⟨_, rfl, ⟨ho2, HR.out.2.2⟩, hb2⟩
theorem takeMu {ops : Array Oper} {Q : Exit → Act → World → Prop} {md : Region.Mode} {S : World → Prop} {i : Nat} {oi : Oper} {fuel : Nat} {listed : Array Bool} {a : Act} {w : World} (m x v : Operand) (hi : ops[i]? = some oi) (hd : oi.dst = none)
    (hr : Region.ready md ops listed = [i]) (hw : Region.wanted oi (yielded ops a.tmps) = true) (ho : oi.op = .mapUpdate 77 m x v) {b k n g : Nat} {M : Nat → Option Nat} (hM : MapAt w b M k) (hn : IdOk n) (h0 : a.eval m = .map (some b)) (h1 : a.eval x = .agg (iC n)) (h2 : a.eval v = .pointer (some ⟨g, 0, none⟩))
    (h : ∀ w', MapAt w' b (putM M n (some g)) (if (M n).isSome then k else k + 1) → Turn w w' b → S w' ∧ wpAnyH Try.prog md ops Q S fuel (listed.setIfInBounds i true) (a.put none undef) w') : wpAnyH Try.prog md ops Q S (fuel + 1) listed a w := by
  obtain ⟨w', hx', h3, h4⟩ := put_run oi a.eval m x v ho hM hn h0 h1 h2
  exact takeW hi hd hr hw hx' (h w' h3 h4).1 (h w' h3 h4).2
theorem hd_id {w : World} {g : Nat} {h : Hd} {A : Option Addr} {c : Nat} (k : Blk 92 w g (hdC h A c)) : w.rangeAt g 0 (iC h.id).toList := k.range (eight8 ⟨rfl, rfl, rfl, rfl, rfl, rfl, rfl, rfl⟩)
theorem one_b (b : Bool) : (#[Value.bool b] : Array Value).all (·.oneCell') = true := by cases b <;> kernel_rfl
theorem info_bl : (Try.prog.info? 4).map (·.size) = some 1 := by kernel_rfl
theorem one_sl {A : Option Addr} {n c : Nat} : (#[Value.slice A n c] : Array Value).all (·.oneCell') = true := by kernel_rfl
theorem info_bs1 : (Try.prog.info? 43).map (·.size) = some 1 := by kernel_rfl
theorem st_ref (b : Nat) (r : Bool) : putMany (stC b r) 1 [.bool true] = stC b true := by kernel_rfl
theorem hd_put (h : Hd) (A A' : Option Addr) (c c' : Nat) : putMany (hdC h A c) 11 [.slice A' h.n c'] = hdC h A' c' := by kernel_rfl
def putH (H : Nat → Option Hd) (t : Hd) : Nat → Option Hd := fun i => if i = t.id then some t else H i
/-- what Put leaves of bytes that tell t -/
def PutP (w : World) (B s b : Nat) (H : Nat → Option Hd) (k : Nat) (r : Bool) (t : Hd) (e : Ending) (w' : World) : Prop :=
  ∃ x E : Int, e = .returned (.tuple #[.int .i64 x, .int .i64 E]) ∧ Fr w w' s b ∧
  ((H t.id = none ∧ k < 512 ∧ x = 1 ∧ E = 0 ∧ StAt w' B s b (putH H t) (k + 1) r) ∨ (H t.id = none ∧ 512 ≤ k ∧ x = 0 ∧ E = 10 ∧ StAt w' B s b H k true) ∨
   (∃ h, H t.id = some h ∧ relH t h ≤ 0 ∧ x = relH t h ∧ E = 0 ∧ StAt w' B s b H k r) ∨ (∃ h, H t.id = some h ∧ 0 < relH t h ∧ x = 1 ∧ E = 0 ∧ StAt w' B s b (putH H t) k r))
theorem hdZ_f (n : Nat) (z : Nat → Int) : (hdZ n z).id = idZ z ∧ (hdZ n z).n = n ∧ (hdZ n z).z = z ∧ (hdZ n z).pu = 0 := ⟨rfl, rfl, rfl, rfl⟩
/-- the store with another one at its place -/
theorem st_put {w w' : World} {B s b k g k' : Nat} {H : Nat → Option Hd} {r : Bool} {M : Nat → Option Nat} {t : Hd} (hst : StAt w B s b H k r) (hM : MapAt w b M k) (hMH : ∀ i, M i = none ↔ H i = none)
    (hMA : ∀ i g h, M i = some g → H i = some h → HdAt w B g h ∧ h.id = i ∧ (27 ≤ h.n ∧ h.n ≤ 1492) ∧ (∀ j, 0 ≤ h.z j ∧ h.z j ≤ 255)) (hMI : ∀ i j g, M i = some g → M j = some g → i = j)
    (hg : w.heap.size ≤ g) (hn : 27 ≤ t.n ∧ t.n ≤ 1492) (hz : ∀ j, 0 ≤ t.z j ∧ t.z j ≤ 255) (hf : Fr w w' s b) (hs : Blk 79 w' s (stC b r)) (hm : MapAt w' b (putM M t.id (some g)) k') (hh : HdAt w' B g t) : StAt w' B s b (putH H t) k' r := by
  refine ⟨hst.hs, hst.hb, hs, _, hm, fun i => ?_, fun i g' h e1 e2 => ?_, fun i j g' e1 e2 => ?_⟩
  · unfold putM putH
    by_cases e : i = t.id
    · rw [if_pos e, if_pos e]; simp
    · rw [if_neg e, if_neg e]; exact hMH i
  · unfold putM at e1
    unfold putH at e2
    by_cases e : i = t.id
    · rw [if_pos e] at e1 e2
      cases e1; cases e2
      exact ⟨hh, e.symm, hn, hz⟩
    · rw [if_neg e] at e1 e2
      obtain ⟨a, c⟩ := hMA i g' h e1 e2
      refine ⟨a.fr hst.blk ?_ hf, c⟩
      obtain ⟨es, cl, hb, _⟩ := hM
      exact ⟨es, cl, hb⟩
  · unfold putM at e1 e2
    have key : ∀ i, M i = some g' → g' < w.heap.size := fun i e => by
      cases hH : H i with
      | none => rw [(hMH i).2 hH] at e; cases e
      | some h => exact (hMA i g' h e hH).1.lt
    by_cases e : i = t.id
    · by_cases e' : j = t.id
      · rw [e, e']
      · rw [if_pos e] at e1; rw [if_neg e'] at e2
        cases e1
        have := key j e2
        omega
    · by_cases e' : j = t.id
      · rw [if_neg e] at e1; rw [if_pos e'] at e2
        cases e2
        have := key i e1
        omega
      · rw [if_neg e] at e1; rw [if_neg e'] at e2
        exact hMI i j g' e1 e2
/-- the store as it was -/
theorem st_same {w w' : World} {B s b k : Nat} {H : Nat → Option Hd} {r : Bool} (hst : StAt w B s b H k r) (hb : Below w.heap.size w w') : StAt w' B s b H k r ∧ Fr w w' s b := ⟨hst.below hb, Fr.of_below s b hb⟩
theorem st_full {w w' : World} {B s b k : Nat} {H : Nat → Option Hd} {r r' : Bool} (hst : StAt w B s b H k r) (hf : Fr w w' s b) (hs : Blk 79 w' s (stC b r')) (hm : w'.heap[b]? = w.heap[b]?) : StAt w' B s b H k r' := by
  obtain ⟨h1, h2, h3, M, h4, h5, h6, h7⟩ := hst
  refine ⟨h1, h2, hs, M, h4.at hm, h5, fun i g x e1 e2 => ?_, h7⟩
  obtain ⟨a, c⟩ := h6 i g x e1 e2
  refine ⟨a.fr h3 ?_ hf, c⟩
  obtain ⟨es, cl, hb, _⟩ := h4
  exact ⟨es, cl, hb⟩
set_option maxHeartbeats 40000000 in
set_option maxRecDepth 100000 in
theorem put_yes (A : Option Addr) (n c : Nat) (z : Nat → Int) (m B s b k : Nat) (H : Nat → Option Hd) (r : Bool) (w : World) (hst : StAt w B s b H k r) (hk : k ≤ 512) (hq : cls (z 4) = 2) (hn : 27 ≤ n ∧ n ≤ 1492) (hB : Rd w A n z) (hc : n ≤ c) (hcm : c ≤ maxLen) (hrd : Calls Try.prog 65 #[.slice A n c] w (RdOk w 2 z m)) :
    Calls Try.prog 14 #[.pointer (some ⟨s, 0, none⟩), .slice A n c] w (PutP w B s b H k r (hdZ n z)) := by
  have HRD := Lib.hid (read_yes A n c z 2 m w hq hn.1 hB hc hcm hrd)
  obtain ⟨ba, oa, rfl, hra⟩ := hB.row (by omega)
  have HRA := Lib.hid hra
  have HN := Lib.hid hn
  have HC := Lib.hid (And.intro hc hcm)
  have HST := Lib.hid hst
  obtain ⟨M, hM, hMH, hMA, hMI⟩ := hst.map
  have HMH := Lib.hid hMH
  have HMA := Lib.hid hMA
  have HMI := Lib.hid hMI
  have KS := Lib.hid hst.blk
  have KM := Lib.hid hM
  have KM0 := Lib.hid hM
  have HNE := Lib.hid hst.ne
  obtain ⟨t, ht⟩ : ∃ t, hdZ n z = t := ⟨_, rfl⟩
  have HT := Lib.hid (show t.id = idZ z ∧ t.n = n ∧ t.z = z ∧ t.pu = 0 by rw [← ht]; exact hdZ_f n z)
  have HID : Hid (IdOk t.id) := Lib.hid (by rw [HT.out.1]; exact idZ_bd z hra.2.2)
  have HRD2 : Hid (Calls Try.prog 39 #[.slice (some ⟨ba, oa, none⟩) n c] w (fun e w' => ∃ g, e = .returned (.tuple #[.pointer (some ⟨g, 0, none⟩), .int .i64 0]) ∧ w.heap.size ≤ g ∧ Blk 92 w' g (hdC t (some ⟨ba, oa, none⟩) c) ∧ Below w.heap.size w w')) := Lib.hid (HRD.out.mono fun e w' h => by
    rw [← ht]
    rcases h with ⟨_, h⟩ | ⟨h, _⟩
    · exact h
    · exact absurd rfl h)
  rw [ht]
  clear HRD hst hq hn hB hc hcm hrd hra hM hMH hMA hMI ht
  go_enter Try.func14, Try.ntmps14
  have HB := Lib.hid (Below.refl w.heap.size w)
  go_wp2_with fail
  refine HRD2.out.mono ?_
  rintro e w1 ⟨gt, rfl, hgt, kt, b1⟩
  have KSn := Lib.hid (KS.out.below b1 KS.out.lt)
  clear KS
  have KS := KSn
  clear KSn
  have KMn := Lib.hid (KM.out.below b1 KM.out.lt)
  clear KM
  have KM := KMn
  clear KMn
  have HBn := Lib.hid (HB.out.trans (b1.mono HB.out.size))
  clear HB
  have HB := HBn
  clear HBn
  have KT := Lib.hid kt
  have HGT := Lib.hid hgt
  clear b1 kt hgt HRD2
  have le_HB_gt : w.heap.size ≤ gt := HGT.out
  have lt_s_gt : s < gt := Nat.lt_of_lt_of_le HST.out.lt HGT.out
  have lt_b_gt : b < gt := Nat.lt_of_lt_of_le HST.out.ltb HGT.out
  go_wp2_with fail
  have LW : Hid (w.heap.size ≤ w1.heap.size) := Lib.hid HB.out.size
  obtain ⟨mv, hmv⟩ : ∃ v, M t.id = v := ⟨_, rfl⟩
  have HMV := Lib.hid hmv
  clear hmv
  cases mv with
  | none =>
    refine wp_region_held_drew (S := fun w' => Blk 79 w' s (stC b r) ∧ MapAt w' b M k ∧ Blk 92 w' gt (hdC t (some ⟨ba, oa, none⟩) c) ∧ Below w.heap.size w w') (by kernel_rfl) ⟨KS.out, KM.out, KT.out, HB.out.drew⟩ (fun hS => ?_)
    generalize hW11 : w1.drew = W11 at hS  ⊢
    clear hW11
    clear KS
    clear KM
    clear KT
    clear HB
    have KS := Lib.hid hS.1
    have KM := Lib.hid hS.2.1
    have KT := Lib.hid hS.2.2.1
    have HB := Lib.hid hS.2.2.2
    refine takeY (i := 0) (some 26) (v := .pointer (some ⟨s, 0, none⟩)) rfl rfl (by kernel_rfl) (by kernel_rfl) (by kernel_rfl) (fun _ _ _ h => h) (by rfl) (fun w' hS => by clear hS; go_simp) hS ?_
    simp only [Act.put, List.setIfInBounds_toArray, List.set_cons_zero, List.set_cons_succ]
    refine takeY (i := 1) (some 27) (v := .pointer (some ⟨s, 0, none⟩)) rfl rfl (by kernel_rfl) (by kernel_rfl) (by kernel_rfl) (fun _ _ _ h => h) (by rfl) (fun w' hS => by clear hS; go_simp) hS ?_
    simp only [Act.put, List.setIfInBounds_toArray, List.set_cons_zero, List.set_cons_succ]
    refine takeY (i := 2) (some 28) (v := .pointer (some ⟨s, 0, none⟩)) rfl rfl (by kernel_rfl) (by kernel_rfl) (by kernel_rfl) (fun _ _ _ h => h) (by rfl) (fun w' hS => by clear hS; go_simp) hS ?_
    simp only [Act.put, List.setIfInBounds_toArray, List.set_cons_zero, List.set_cons_succ]
    refine takeY (i := 3) (some 29) (v := .map (some b)) rfl rfl (by kernel_rfl) (by kernel_rfl) (by kernel_rfl) (fun _ _ _ h => h) (by rfl) (fun w' hS => by (have c9 : w'.cell? ⟨s, 0, none⟩ = some (.map (some b)) := (hS.1.cell 0).trans rfl; clear hS; go_simp)) hS ?_
    simp only [Act.put, List.setIfInBounds_toArray, List.set_cons_zero, List.set_cons_succ]
    refine takeY (i := 4) (some 30) (v := .pointer (some ⟨gt, 0, none⟩)) rfl rfl (by kernel_rfl) (by kernel_rfl) (by kernel_rfl) (fun _ _ _ h => h) (by rfl) (fun w' hS => by clear hS; go_simp) hS ?_
    simp only [Act.put, List.setIfInBounds_toArray, List.set_cons_zero, List.set_cons_succ]
    refine takeY (i := 5) (some 31) (v := .pointer (some ⟨gt, 0, none⟩)) rfl rfl (by kernel_rfl) (by kernel_rfl) (by kernel_rfl) (fun _ _ _ h => h) (by rfl) (fun w' hS => by clear hS; go_simp) hS ?_
    simp only [Act.put, List.setIfInBounds_toArray, List.set_cons_zero, List.set_cons_succ]
    refine takeY (i := 6) (some 32) (v := .pointer (some ⟨gt, 0, none⟩)) rfl rfl (by kernel_rfl) (by kernel_rfl) (by kernel_rfl) (fun _ _ _ h => h) (by rfl) (fun w' hS => by clear hS; go_simp) hS ?_
    simp only [Act.put, List.setIfInBounds_toArray, List.set_cons_zero, List.set_cons_succ]
    refine takeY (i := 7) (some 33) (v := .pointer (some ⟨gt, 0, none⟩)) rfl rfl (by kernel_rfl) (by kernel_rfl) (by kernel_rfl) (fun _ _ _ h => h) (by rfl) (fun w' hS => by clear hS; go_simp) hS ?_
    simp only [Act.put, List.setIfInBounds_toArray, List.set_cons_zero, List.set_cons_succ]
    refine takeL (i := 8) (some 34) 28 (.tmp 33) gt 0 (iC t.id) _ rfl rfl (by kernel_rfl) (by kernel_rfl) (by kernel_rfl) (fun _ _ _ h => h) (by rfl) rfl rfl (fun w' hS => hd_id hS.2.2.1) Try.underlying28 rfl info_iC hS ?_
    simp only [Act.put, List.setIfInBounds_toArray, List.set_cons_zero, List.set_cons_succ]
    refine takeY (i := 9) (some 35) (v := .tuple #[.pointer none, .bool false]) rfl rfl (by kernel_rfl) (by kernel_rfl) (by kernel_rfl) (fun _ _ _ h => h) (by rfl) (fun w' hS => by (refine (look_run _ _ _ _ rfl hS.2.1 HID.out rfl rfl).trans ?_; rw [HMV.out]; rfl)) hS ?_
    simp only [Act.put, List.setIfInBounds_toArray, List.set_cons_zero, List.set_cons_succ]
    refine takeY (i := 10) (some 25) (v := .tuple #[.pointer none, .bool false]) rfl rfl (by kernel_rfl) (by kernel_rfl) (by kernel_rfl) (fun _ _ _ h => h) (by rfl) (fun w' hS => by clear hS; go_simp) hS ?_
    simp only [Act.put, List.setIfInBounds_toArray, List.set_cons_zero, List.set_cons_succ]
    refine takeY (i := 11) (some 36) (v := .pointer none) rfl rfl (by kernel_rfl) (by kernel_rfl) (by kernel_rfl) (fun _ _ _ h => h) (by rfl) (fun w' hS => by clear hS; go_simp) hS ?_
    simp only [Act.put, List.setIfInBounds_toArray, List.set_cons_zero, List.set_cons_succ]
    refine takeY (i := 12) (some 37) (v := .bool false) rfl rfl (by kernel_rfl) (by kernel_rfl) (by kernel_rfl) (fun _ _ _ h => h) (by rfl) (fun w' hS => by clear hS; go_simp) hS ?_
    simp only [Act.put, List.setIfInBounds_toArray, List.set_cons_zero, List.set_cons_succ]
    refine takeY (i := 13) (some 8) (v := .pointer none) rfl rfl (by kernel_rfl) (by kernel_rfl) (by kernel_rfl) (fun _ _ _ h => h) (by rfl) (fun w' hS => by clear hS; go_simp) hS ?_
    simp only [Act.put, List.setIfInBounds_toArray, List.set_cons_zero, List.set_cons_succ]
    refine takeY (i := 14) (some 9) (v := .bool false) rfl rfl (by kernel_rfl) (by kernel_rfl) (by kernel_rfl) (fun _ _ _ h => h) (by rfl) (fun w' hS => by clear hS; go_simp) hS ?_
    simp only [Act.put, List.setIfInBounds_toArray, List.set_cons_zero, List.set_cons_succ]
    clear hS
    refine wpAnyH_done (by kernel_rfl) ?_ _
    have HHN : Hid (H t.id = none) := Lib.hid ((HMH.out t.id).1 HMV.out)
    go_wp2_with fail
    have HSTc : Hid (StAt W11 B s b H k r) := Lib.hid (HST.out.below HB.out)
    refine (stLen_any HSTc.out).mono ?_
    rintro e w20 ⟨rfl, rfl⟩
    by_cases hk5 : k < 512
    · have hk6 : ¬ (512 : Int) ≤ (k : Int) := by omega
      have HK5 := Lib.hid hk5
      clear hk5
      have LW2 : Hid (w.heap.size ≤ w20.heap.size) := Lib.hid HB.out.size
      clear LW
      have LW := LW2
      go_wp2_with fail
      refine (cloneB2 ba oa n c z w20 (HRA.out.below' HB.out) (by have := HN.out; omega)).mono ?_
      rintro e w40 ⟨v40, rfl, ho, b1⟩
      obtain ⟨g2, c2, rfl, hg2, ho2⟩ := own_ofB ho (by have := HN.out; omega)
      have KSn := Lib.hid (KS.out.below b1 KS.out.lt)
      clear KS
      have KS := KSn
      clear KSn
      have KMn := Lib.hid (KM.out.below b1 KM.out.lt)
      clear KM
      have KM := KMn
      clear KMn
      have KTn := Lib.hid (KT.out.below b1 KT.out.lt)
      clear KT
      have KT := KTn
      clear KTn
      have HBn := Lib.hid (HB.out.trans (b1.mono HB.out.size))
      clear HB
      have HB := HBn
      clear HBn
      have KO : Hid (Own8 w40 g2 n c2 z) := Lib.hid ho2
      have le_g2 : w.heap.size ≤ g2 := Nat.le_trans LW.out hg2
      have ne_g2 : g2 ≠ gt := fun e => by subst e; obtain ⟨⟨cur, h1, _⟩, _⟩ := KO.out; have h2 : w40.heap[g2]? = _ := KT.out; rw [h1] at h2; injection h2 with h2; injection h2 with _ h2 _; exact absurd h2 (by decide)
      clear ho ho2 hg2 b1
      have hvt : Value.slice (some ⟨g2, 0, none⟩) n c2 = .slice (some ⟨g2, 0, none⟩) t.n c2 := by rw [HT.out.2.1]
      rw [hvt]
      clear hvt
      go_wp2_with (refine wpList_st rfl 43 (.tmp 57) (.tmp 55) rfl gt 11 rfl (.slice (some ⟨g2, 0, none⟩) t.n c2) #[.slice (some ⟨g2, 0, none⟩) t.n c2] rfl rfl info_bs1 one_sl KT.out (Nat.le_of_ble_eq_true rfl) (C' := hdC t (some ⟨g2, 0, none⟩) c2) (hd_put _ _ _ _ _) ?_; intro w50 q1; refine Hid.out ?_)
      refine Lib.hid ?_
      have KO2 : Hid (Own8 w50 g2 n c2 z) := Lib.hid (KO.out.block (q1.2.2 g2 ne_g2))
      have KSn := Lib.hid (KS.out.far q1 (by omega))
      clear KS
      have KS := KSn
      clear KSn
      have KMn := Lib.hid (KM.out.far q1 (by omega))
      clear KM
      have KM := KMn
      clear KMn
      have HBn := Lib.hid (HB.out.trans (q1.2.1 _ (by omega)))
      clear HB
      have HB := HBn
      clear HBn
      have KTn : Hid (Blk 92 w50 gt (hdC t (some ⟨g2, 0, none⟩) c2)) := Lib.hid q1.1
      clear KT
      have KT := KTn
      clear KTn q1
      clear KO
      go_wp2_with fail
      have KMd : Hid (MapAt w50.drew b M k) := Lib.hid KM.out
      clear KM
      have HBd : Hid (Below w.heap.size w w50.drew) := Lib.hid HB.out.drew
      clear HB
      have KO2d : Hid (Own8 w50.drew g2 n c2 z) := Lib.hid KO2.out
      clear KO2
      refine wp_region_held_drew (S := fun w' => Blk 79 w' s (stC b r) ∧ Blk 92 w' gt (hdC t (some ⟨g2, 0, none⟩) c2)) (by kernel_rfl) ⟨KS.out, KT.out⟩ (fun hS => ?_)
      generalize hW12 : w50.drew = W12 at hS KMd HBd KO2d ⊢
      clear hW12
      clear KS
      clear KT
      have KM := KMd
      clear KMd
      have HB := HBd
      clear HBd
      have KO2 := KO2d
      clear KO2d
      have KS := Lib.hid hS.1
      have KT := Lib.hid hS.2
      refine takeY (i := 0) (some 58) (v := .pointer (some ⟨s, 0, none⟩)) rfl rfl (by kernel_rfl) (by kernel_rfl) (by kernel_rfl) (fun _ _ _ h => h) (by rfl) (fun w' hS => by clear hS; go_simp) hS ?_
      simp only [Act.put, List.setIfInBounds_toArray, List.set_cons_zero, List.set_cons_succ]
      refine takeY (i := 1) (some 59) (v := .pointer (some ⟨s, 0, none⟩)) rfl rfl (by kernel_rfl) (by kernel_rfl) (by kernel_rfl) (fun _ _ _ h => h) (by rfl) (fun w' hS => by clear hS; go_simp) hS ?_
      simp only [Act.put, List.setIfInBounds_toArray, List.set_cons_zero, List.set_cons_succ]
      refine takeY (i := 2) (some 60) (v := .pointer (some ⟨s, 0, none⟩)) rfl rfl (by kernel_rfl) (by kernel_rfl) (by kernel_rfl) (fun _ _ _ h => h) (by rfl) (fun w' hS => by clear hS; go_simp) hS ?_
      simp only [Act.put, List.setIfInBounds_toArray, List.set_cons_zero, List.set_cons_succ]
      refine takeY (i := 3) (some 61) (v := .map (some b)) rfl rfl (by kernel_rfl) (by kernel_rfl) (by kernel_rfl) (fun _ _ _ h => h) (by rfl) (fun w' hS => by (have c9 : w'.cell? ⟨s, 0, none⟩ = some (.map (some b)) := (hS.1.cell 0).trans rfl; clear hS; go_simp)) hS ?_
      simp only [Act.put, List.setIfInBounds_toArray, List.set_cons_zero, List.set_cons_succ]
      refine takeY (i := 4) (some 62) (v := .pointer (some ⟨gt, 0, none⟩)) rfl rfl (by kernel_rfl) (by kernel_rfl) (by kernel_rfl) (fun _ _ _ h => h) (by rfl) (fun w' hS => by clear hS; go_simp) hS ?_
      simp only [Act.put, List.setIfInBounds_toArray, List.set_cons_zero, List.set_cons_succ]
      refine takeY (i := 5) (some 63) (v := .pointer (some ⟨gt, 0, none⟩)) rfl rfl (by kernel_rfl) (by kernel_rfl) (by kernel_rfl) (fun _ _ _ h => h) (by rfl) (fun w' hS => by clear hS; go_simp) hS ?_
      simp only [Act.put, List.setIfInBounds_toArray, List.set_cons_zero, List.set_cons_succ]
      refine takeY (i := 6) (some 64) (v := .pointer (some ⟨gt, 0, none⟩)) rfl rfl (by kernel_rfl) (by kernel_rfl) (by kernel_rfl) (fun _ _ _ h => h) (by rfl) (fun w' hS => by clear hS; go_simp) hS ?_
      simp only [Act.put, List.setIfInBounds_toArray, List.set_cons_zero, List.set_cons_succ]
      refine takeY (i := 7) (some 65) (v := .pointer (some ⟨gt, 0, none⟩)) rfl rfl (by kernel_rfl) (by kernel_rfl) (by kernel_rfl) (fun _ _ _ h => h) (by rfl) (fun w' hS => by clear hS; go_simp) hS ?_
      simp only [Act.put, List.setIfInBounds_toArray, List.set_cons_zero, List.set_cons_succ]
      refine takeL (i := 8) (some 66) 28 (.tmp 65) gt 0 (iC t.id) _ rfl rfl (by kernel_rfl) (by kernel_rfl) (by kernel_rfl) (fun _ _ _ h => h) (by rfl) rfl rfl (fun w' hS => hd_id hS.2) Try.underlying28 rfl info_iC hS ?_
      simp only [Act.put, List.setIfInBounds_toArray, List.set_cons_zero, List.set_cons_succ]
      refine takeY (i := 9) (some 67) (v := .pointer (some ⟨gt, 0, none⟩)) rfl rfl (by kernel_rfl) (by kernel_rfl) (by kernel_rfl) (fun _ _ _ h => h) (by rfl) (fun w' hS => by clear hS; go_simp) hS ?_
      simp only [Act.put, List.setIfInBounds_toArray, List.set_cons_zero, List.set_cons_succ]
      refine takeMu (i := 10) (.tmp 61) (.tmp 66) (.tmp 67) rfl rfl (by kernel_rfl) (by rfl) rfl KM.out HID.out rfl rfl rfl (fun w60 hm9 ht9 => ⟨⟨(ht9.block HNE.out).trans KS.out, (ht9.block (by omega)).trans KT.out⟩, ?_⟩)
      simp only [Act.put, List.setIfInBounds_toArray, List.set_cons_zero, List.set_cons_succ]
      have KS9 : Hid (Blk 79 w60 s (stC b r)) := Lib.hid ((ht9.block HNE.out).trans KS.out)
      have KT9 : Hid (Blk 92 w60 gt (hdC t (some ⟨g2, 0, none⟩) c2)) := Lib.hid ((ht9.block (by omega)).trans KT.out)
      have KM9 := Lib.hid hm9
      have ne_g2b : g2 ≠ b := fun e => by subst e; obtain ⟨⟨cur, h1, _⟩, _⟩ := KO2.out; obtain ⟨es, cl, h2, _⟩ := KM.out; rw [h1] at h2; cases h2
      have KO9 : Hid (Own8 w60 g2 n c2 z) := Lib.hid (KO2.out.block (ht9.block ne_g2b))
      have HF9 : Hid (Fr w w60 s b) := Lib.hid ((Fr.of_below s b HB.out).trans (Fr.turn ht9))
      clear hm9 ht9 hS
      refine wpAnyH_done (by kernel_rfl) ?_ _
      go_wp2_with fail
      refine bodyPost_ret (v := .tuple #[.int .i64 1, .int .i64 0]) (by simp [results, Try.f14, go_sem]) rfl ?_
      have hHT : HdAt w60 B gt t := ⟨Nat.le_trans HST.out.ltB HGT.out, g2, 0, c2, KT9.out, by rw [HT.out.2.1, HT.out.2.2.1]; exact RwT.of KO9.out (by have := HN.out; omega), Nat.le_trans HST.out.ltB le_g2, by rw [HT.out.2.1]; exact KO9.out.caps.1, KO9.out.caps.2⟩
      have hSA := st_put HST.out KM0.out HMH.out HMA.out HMI.out HGT.out (by rw [HT.out.2.1]; exact HN.out) (by rw [HT.out.2.2.1]; exact HRA.out.2.2) HF9.out KS9.out KM9.out hHT
      rw [HMV.out] at hSA
      exact ⟨1, 0, rfl, HF9.out, .inl ⟨HHN.out, HK5.out, rfl, rfl, hSA⟩⟩
    · have hk6 : (512 : Int) ≤ (k : Int) := by omega
      have HK5 := Lib.hid hk5
      clear hk5
      go_wp2_with (refine wpList_st rfl 4 (.tmp 52) (.const (.bool true)) rfl s 1 rfl (.bool true) #[.bool true] rfl rfl info_bl (one_b _) KS.out (Nat.le_of_ble_eq_true rfl) (C' := stC b true) (st_ref _ _) ?_; intro w30 q1; refine Hid.out ?_)
      refine Lib.hid ?_
      have HF9 : Hid (Fr w w30 s b) := Lib.hid ((Fr.of_below s b HB.out).trans ⟨(q1.2.1 0 (Nat.zero_le _)).os, (q1.2.1 0 (Nat.zero_le _)).tape, (q1.2.1 0 (Nat.zero_le _)).output, (q1.2.1 0 (Nat.zero_le _)).size, fun i _ h1 _ => q1.2.2 i h1⟩)
      have hSA := st_full HST.out HF9.out q1.1 ((q1.2.2 b HNE.out.symm).trans (HB.out.block b HST.out.ltb))
      have HSA := Lib.hid hSA
      clear hSA q1
      go_wp2_with fail
      refine bodyPost_ret (v := .tuple #[.int .i64 0, .int .i64 10]) (by simp [results, Try.f14, go_sem]) rfl ?_
      exact ⟨0, 10, rfl, HF9.out, .inr (.inl ⟨HHN.out, by have := HK5.out; omega, rfl, rfl, HSA.out⟩)⟩
  | some g0 =>
    refine wp_region_held_drew (S := fun w' => Blk 79 w' s (stC b r) ∧ MapAt w' b M k ∧ Blk 92 w' gt (hdC t (some ⟨ba, oa, none⟩) c) ∧ Below w.heap.size w w') (by kernel_rfl) ⟨KS.out, KM.out, KT.out, HB.out.drew⟩ (fun hS => ?_)
    generalize hW11 : w1.drew = W11 at hS  ⊢
    clear hW11
    clear KS
    clear KM
    clear KT
    clear HB
    have KS := Lib.hid hS.1
    have KM := Lib.hid hS.2.1
    have KT := Lib.hid hS.2.2.1
    have HB := Lib.hid hS.2.2.2
    refine takeY (i := 0) (some 26) (v := .pointer (some ⟨s, 0, none⟩)) rfl rfl (by kernel_rfl) (by kernel_rfl) (by kernel_rfl) (fun _ _ _ h => h) (by rfl) (fun w' hS => by clear hS; go_simp) hS ?_
    simp only [Act.put, List.setIfInBounds_toArray, List.set_cons_zero, List.set_cons_succ]
    refine takeY (i := 1) (some 27) (v := .pointer (some ⟨s, 0, none⟩)) rfl rfl (by kernel_rfl) (by kernel_rfl) (by kernel_rfl) (fun _ _ _ h => h) (by rfl) (fun w' hS => by clear hS; go_simp) hS ?_
    simp only [Act.put, List.setIfInBounds_toArray, List.set_cons_zero, List.set_cons_succ]
    refine takeY (i := 2) (some 28) (v := .pointer (some ⟨s, 0, none⟩)) rfl rfl (by kernel_rfl) (by kernel_rfl) (by kernel_rfl) (fun _ _ _ h => h) (by rfl) (fun w' hS => by clear hS; go_simp) hS ?_
    simp only [Act.put, List.setIfInBounds_toArray, List.set_cons_zero, List.set_cons_succ]
    refine takeY (i := 3) (some 29) (v := .map (some b)) rfl rfl (by kernel_rfl) (by kernel_rfl) (by kernel_rfl) (fun _ _ _ h => h) (by rfl) (fun w' hS => by (have c9 : w'.cell? ⟨s, 0, none⟩ = some (.map (some b)) := (hS.1.cell 0).trans rfl; clear hS; go_simp)) hS ?_
    simp only [Act.put, List.setIfInBounds_toArray, List.set_cons_zero, List.set_cons_succ]
    refine takeY (i := 4) (some 30) (v := .pointer (some ⟨gt, 0, none⟩)) rfl rfl (by kernel_rfl) (by kernel_rfl) (by kernel_rfl) (fun _ _ _ h => h) (by rfl) (fun w' hS => by clear hS; go_simp) hS ?_
    simp only [Act.put, List.setIfInBounds_toArray, List.set_cons_zero, List.set_cons_succ]
    refine takeY (i := 5) (some 31) (v := .pointer (some ⟨gt, 0, none⟩)) rfl rfl (by kernel_rfl) (by kernel_rfl) (by kernel_rfl) (fun _ _ _ h => h) (by rfl) (fun w' hS => by clear hS; go_simp) hS ?_
    simp only [Act.put, List.setIfInBounds_toArray, List.set_cons_zero, List.set_cons_succ]
    refine takeY (i := 6) (some 32) (v := .pointer (some ⟨gt, 0, none⟩)) rfl rfl (by kernel_rfl) (by kernel_rfl) (by kernel_rfl) (fun _ _ _ h => h) (by rfl) (fun w' hS => by clear hS; go_simp) hS ?_
    simp only [Act.put, List.setIfInBounds_toArray, List.set_cons_zero, List.set_cons_succ]
    refine takeY (i := 7) (some 33) (v := .pointer (some ⟨gt, 0, none⟩)) rfl rfl (by kernel_rfl) (by kernel_rfl) (by kernel_rfl) (fun _ _ _ h => h) (by rfl) (fun w' hS => by clear hS; go_simp) hS ?_
    simp only [Act.put, List.setIfInBounds_toArray, List.set_cons_zero, List.set_cons_succ]
    refine takeL (i := 8) (some 34) 28 (.tmp 33) gt 0 (iC t.id) _ rfl rfl (by kernel_rfl) (by kernel_rfl) (by kernel_rfl) (fun _ _ _ h => h) (by rfl) rfl rfl (fun w' hS => hd_id hS.2.2.1) Try.underlying28 rfl info_iC hS ?_
    simp only [Act.put, List.setIfInBounds_toArray, List.set_cons_zero, List.set_cons_succ]
    refine takeY (i := 9) (some 35) (v := .tuple #[.pointer (some ⟨g0, 0, none⟩), .bool true]) rfl rfl (by kernel_rfl) (by kernel_rfl) (by kernel_rfl) (fun _ _ _ h => h) (by rfl) (fun w' hS => by (refine (look_run _ _ _ _ rfl hS.2.1 HID.out rfl rfl).trans ?_; rw [HMV.out]; rfl)) hS ?_
    simp only [Act.put, List.setIfInBounds_toArray, List.set_cons_zero, List.set_cons_succ]
    refine takeY (i := 10) (some 25) (v := .tuple #[.pointer (some ⟨g0, 0, none⟩), .bool true]) rfl rfl (by kernel_rfl) (by kernel_rfl) (by kernel_rfl) (fun _ _ _ h => h) (by rfl) (fun w' hS => by clear hS; go_simp) hS ?_
    simp only [Act.put, List.setIfInBounds_toArray, List.set_cons_zero, List.set_cons_succ]
    refine takeY (i := 11) (some 36) (v := .pointer (some ⟨g0, 0, none⟩)) rfl rfl (by kernel_rfl) (by kernel_rfl) (by kernel_rfl) (fun _ _ _ h => h) (by rfl) (fun w' hS => by clear hS; go_simp) hS ?_
    simp only [Act.put, List.setIfInBounds_toArray, List.set_cons_zero, List.set_cons_succ]
    refine takeY (i := 12) (some 37) (v := .bool true) rfl rfl (by kernel_rfl) (by kernel_rfl) (by kernel_rfl) (fun _ _ _ h => h) (by rfl) (fun w' hS => by clear hS; go_simp) hS ?_
    simp only [Act.put, List.setIfInBounds_toArray, List.set_cons_zero, List.set_cons_succ]
    refine takeY (i := 13) (some 8) (v := .pointer (some ⟨g0, 0, none⟩)) rfl rfl (by kernel_rfl) (by kernel_rfl) (by kernel_rfl) (fun _ _ _ h => h) (by rfl) (fun w' hS => by clear hS; go_simp) hS ?_
    simp only [Act.put, List.setIfInBounds_toArray, List.set_cons_zero, List.set_cons_succ]
    refine takeY (i := 14) (some 9) (v := .bool true) rfl rfl (by kernel_rfl) (by kernel_rfl) (by kernel_rfl) (fun _ _ _ h => h) (by rfl) (fun w' hS => by clear hS; go_simp) hS ?_
    simp only [Act.put, List.setIfInBounds_toArray, List.set_cons_zero, List.set_cons_succ]
    clear hS
    refine wpAnyH_done (by kernel_rfl) ?_ _
    obtain ⟨h0, hh0⟩ : ∃ h, H t.id = some h := by
      cases e : H t.id with
      | none => have := (HMH.out t.id).2 e; rw [HMV.out] at this; cases this
      | some h => exact ⟨h, rfl⟩
    have HH0 := Lib.hid hh0
    have HA0 := Lib.hid (HMA.out t.id g0 h0 HMV.out hh0)
    clear hh0
    go_wp2_with fail
    refine (compare_any t h0 gt g0 W11 ⟨_, _, KT.out, by rw [HT.out.2.1, HT.out.2.2.1]; exact .inr ⟨ba, oa, rfl, HRA.out.below' HB.out⟩ |> fun x => ⟨x, HRA.out.2.2⟩, by rw [HT.out.2.1]; exact HC.out.1, HC.out.2⟩ (HA0.out.1.below HB.out).r (by rw [HT.out.2.1]; exact HN.out) HA0.out.2.2.1).mono ?_
    rintro e w20 ⟨rfl, b1⟩
    have KSn := Lib.hid (KS.out.below b1 KS.out.lt)
    clear KS
    have KS := KSn
    clear KSn
    have KMn := Lib.hid (KM.out.below b1 KM.out.lt)
    clear KM
    have KM := KMn
    clear KMn
    have KTn := Lib.hid (KT.out.below b1 KT.out.lt)
    clear KT
    have KT := KTn
    clear KTn
    have HBn := Lib.hid (HB.out.trans (b1.mono HB.out.size))
    clear HB
    have HB := HBn
    clear HBn
    clear b1
    have HV := Lib.hid (tot_relH.val t h0)
    obtain ⟨rl, hrl⟩ : ∃ x, relH t h0 = x := ⟨_, rfl⟩
    rw [hrl] at HV ⊢
    have HRL := Lib.hid hrl
    clear hrl
    by_cases hr0 : rl ≤ 0
    · go_wp2_with fail
      refine bodyPost_ret (v := .tuple #[.int .i64 rl, .int .i64 0]) (by simp [results, Try.f14, go_sem]) rfl ?_
      exact ⟨rl, 0, rfl, (st_same HST.out HB.out).2, .inr (.inr (.inl ⟨h0, HH0.out, by rw [HRL.out]; exact hr0, HRL.out.symm, rfl, (st_same HST.out HB.out).1⟩))⟩
    · have HR0 := Lib.hid hr0
      have LW2 : Hid (w.heap.size ≤ w20.heap.size) := Lib.hid HB.out.size
      clear LW
      have LW := LW2
      go_wp2_with fail
      refine (cloneB2 ba oa n c z w20 (HRA.out.below' HB.out) (by have := HN.out; omega)).mono ?_
      rintro e w40 ⟨v40, rfl, ho, b1⟩
      obtain ⟨g2, c2, rfl, hg2, ho2⟩ := own_ofB ho (by have := HN.out; omega)
      have KSn := Lib.hid (KS.out.below b1 KS.out.lt)
      clear KS
      have KS := KSn
      clear KSn
      have KMn := Lib.hid (KM.out.below b1 KM.out.lt)
      clear KM
      have KM := KMn
      clear KMn
      have KTn := Lib.hid (KT.out.below b1 KT.out.lt)
      clear KT
      have KT := KTn
      clear KTn
      have HBn := Lib.hid (HB.out.trans (b1.mono HB.out.size))
      clear HB
      have HB := HBn
      clear HBn
      have KO : Hid (Own8 w40 g2 n c2 z) := Lib.hid ho2
      have le_g2 : w.heap.size ≤ g2 := Nat.le_trans LW.out hg2
      have ne_g2 : g2 ≠ gt := fun e => by subst e; obtain ⟨⟨cur, h1, _⟩, _⟩ := KO.out; have h2 : w40.heap[g2]? = _ := KT.out; rw [h1] at h2; injection h2 with h2; injection h2 with _ h2 _; exact absurd h2 (by decide)
      clear ho ho2 hg2 b1
      have hvt : Value.slice (some ⟨g2, 0, none⟩) n c2 = .slice (some ⟨g2, 0, none⟩) t.n c2 := by rw [HT.out.2.1]
      rw [hvt]
      clear hvt
      go_wp2_with (refine wpList_st rfl 43 (.tmp 57) (.tmp 55) rfl gt 11 rfl (.slice (some ⟨g2, 0, none⟩) t.n c2) #[.slice (some ⟨g2, 0, none⟩) t.n c2] rfl rfl info_bs1 one_sl KT.out (Nat.le_of_ble_eq_true rfl) (C' := hdC t (some ⟨g2, 0, none⟩) c2) (hd_put _ _ _ _ _) ?_; intro w50 q1; refine Hid.out ?_)
      refine Lib.hid ?_
      have KO2 : Hid (Own8 w50 g2 n c2 z) := Lib.hid (KO.out.block (q1.2.2 g2 ne_g2))
      have KSn := Lib.hid (KS.out.far q1 (by omega))
      clear KS
      have KS := KSn
      clear KSn
      have KMn := Lib.hid (KM.out.far q1 (by omega))
      clear KM
      have KM := KMn
      clear KMn
      have HBn := Lib.hid (HB.out.trans (q1.2.1 _ (by omega)))
      clear HB
      have HB := HBn
      clear HBn
      have KTn : Hid (Blk 92 w50 gt (hdC t (some ⟨g2, 0, none⟩) c2)) := Lib.hid q1.1
      clear KT
      have KT := KTn
      clear KTn q1
      clear KO
      go_wp2_with fail
      have KMd : Hid (MapAt w50.drew b M k) := Lib.hid KM.out
      clear KM
      have HBd : Hid (Below w.heap.size w w50.drew) := Lib.hid HB.out.drew
      clear HB
      have KO2d : Hid (Own8 w50.drew g2 n c2 z) := Lib.hid KO2.out
      clear KO2
      refine wp_region_held_drew (S := fun w' => Blk 79 w' s (stC b r) ∧ Blk 92 w' gt (hdC t (some ⟨g2, 0, none⟩) c2)) (by kernel_rfl) ⟨KS.out, KT.out⟩ (fun hS => ?_)
      generalize hW12 : w50.drew = W12 at hS KMd HBd KO2d ⊢
      clear hW12
      clear KS
      clear KT
      have KM := KMd
      clear KMd
      have HB := HBd
      clear HBd
      have KO2 := KO2d
      clear KO2d
      have KS := Lib.hid hS.1
      have KT := Lib.hid hS.2
      refine takeY (i := 0) (some 58) (v := .pointer (some ⟨s, 0, none⟩)) rfl rfl (by kernel_rfl) (by kernel_rfl) (by kernel_rfl) (fun _ _ _ h => h) (by rfl) (fun w' hS => by clear hS; go_simp) hS ?_
      simp only [Act.put, List.setIfInBounds_toArray, List.set_cons_zero, List.set_cons_succ]
      refine takeY (i := 1) (some 59) (v := .pointer (some ⟨s, 0, none⟩)) rfl rfl (by kernel_rfl) (by kernel_rfl) (by kernel_rfl) (fun _ _ _ h => h) (by rfl) (fun w' hS => by clear hS; go_simp) hS ?_
      simp only [Act.put, List.setIfInBounds_toArray, List.set_cons_zero, List.set_cons_succ]
      refine takeY (i := 2) (some 60) (v := .pointer (some ⟨s, 0, none⟩)) rfl rfl (by kernel_rfl) (by kernel_rfl) (by kernel_rfl) (fun _ _ _ h => h) (by rfl) (fun w' hS => by clear hS; go_simp) hS ?_
      simp only [Act.put, List.setIfInBounds_toArray, List.set_cons_zero, List.set_cons_succ]
      refine takeY (i := 3) (some 61) (v := .map (some b)) rfl rfl (by kernel_rfl) (by kernel_rfl) (by kernel_rfl) (fun _ _ _ h => h) (by rfl) (fun w' hS => by (have c9 : w'.cell? ⟨s, 0, none⟩ = some (.map (some b)) := (hS.1.cell 0).trans rfl; clear hS; go_simp)) hS ?_
      simp only [Act.put, List.setIfInBounds_toArray, List.set_cons_zero, List.set_cons_succ]
      refine takeY (i := 4) (some 62) (v := .pointer (some ⟨gt, 0, none⟩)) rfl rfl (by kernel_rfl) (by kernel_rfl) (by kernel_rfl) (fun _ _ _ h => h) (by rfl) (fun w' hS => by clear hS; go_simp) hS ?_
      simp only [Act.put, List.setIfInBounds_toArray, List.set_cons_zero, List.set_cons_succ]
      refine takeY (i := 5) (some 63) (v := .pointer (some ⟨gt, 0, none⟩)) rfl rfl (by kernel_rfl) (by kernel_rfl) (by kernel_rfl) (fun _ _ _ h => h) (by rfl) (fun w' hS => by clear hS; go_simp) hS ?_
      simp only [Act.put, List.setIfInBounds_toArray, List.set_cons_zero, List.set_cons_succ]
      refine takeY (i := 6) (some 64) (v := .pointer (some ⟨gt, 0, none⟩)) rfl rfl (by kernel_rfl) (by kernel_rfl) (by kernel_rfl) (fun _ _ _ h => h) (by rfl) (fun w' hS => by clear hS; go_simp) hS ?_
      simp only [Act.put, List.setIfInBounds_toArray, List.set_cons_zero, List.set_cons_succ]
      refine takeY (i := 7) (some 65) (v := .pointer (some ⟨gt, 0, none⟩)) rfl rfl (by kernel_rfl) (by kernel_rfl) (by kernel_rfl) (fun _ _ _ h => h) (by rfl) (fun w' hS => by clear hS; go_simp) hS ?_
      simp only [Act.put, List.setIfInBounds_toArray, List.set_cons_zero, List.set_cons_succ]
      refine takeL (i := 8) (some 66) 28 (.tmp 65) gt 0 (iC t.id) _ rfl rfl (by kernel_rfl) (by kernel_rfl) (by kernel_rfl) (fun _ _ _ h => h) (by rfl) rfl rfl (fun w' hS => hd_id hS.2) Try.underlying28 rfl info_iC hS ?_
      simp only [Act.put, List.setIfInBounds_toArray, List.set_cons_zero, List.set_cons_succ]
      refine takeY (i := 9) (some 67) (v := .pointer (some ⟨gt, 0, none⟩)) rfl rfl (by kernel_rfl) (by kernel_rfl) (by kernel_rfl) (fun _ _ _ h => h) (by rfl) (fun w' hS => by clear hS; go_simp) hS ?_
      simp only [Act.put, List.setIfInBounds_toArray, List.set_cons_zero, List.set_cons_succ]
      refine takeMu (i := 10) (.tmp 61) (.tmp 66) (.tmp 67) rfl rfl (by kernel_rfl) (by rfl) rfl KM.out HID.out rfl rfl rfl (fun w60 hm9 ht9 => ⟨⟨(ht9.block HNE.out).trans KS.out, (ht9.block (by omega)).trans KT.out⟩, ?_⟩)
      simp only [Act.put, List.setIfInBounds_toArray, List.set_cons_zero, List.set_cons_succ]
      have KS9 : Hid (Blk 79 w60 s (stC b r)) := Lib.hid ((ht9.block HNE.out).trans KS.out)
      have KT9 : Hid (Blk 92 w60 gt (hdC t (some ⟨g2, 0, none⟩) c2)) := Lib.hid ((ht9.block (by omega)).trans KT.out)
      have KM9 := Lib.hid hm9
      have ne_g2b : g2 ≠ b := fun e => by subst e; obtain ⟨⟨cur, h1, _⟩, _⟩ := KO2.out; obtain ⟨es, cl, h2, _⟩ := KM.out; rw [h1] at h2; cases h2
      have KO9 : Hid (Own8 w60 g2 n c2 z) := Lib.hid (KO2.out.block (ht9.block ne_g2b))
      have HF9 : Hid (Fr w w60 s b) := Lib.hid ((Fr.of_below s b HB.out).trans (Fr.turn ht9))
      clear hm9 ht9 hS
      refine wpAnyH_done (by kernel_rfl) ?_ _
      go_wp2_with fail
      refine bodyPost_ret (v := .tuple #[.int .i64 1, .int .i64 0]) (by simp [results, Try.f14, go_sem]) rfl ?_
      have hHT : HdAt w60 B gt t := ⟨Nat.le_trans HST.out.ltB HGT.out, g2, 0, c2, KT9.out, by rw [HT.out.2.1, HT.out.2.2.1]; exact RwT.of KO9.out (by have := HN.out; omega), Nat.le_trans HST.out.ltB le_g2, by rw [HT.out.2.1]; exact KO9.out.caps.1, KO9.out.caps.2⟩
      have hSA := st_put HST.out KM0.out HMH.out HMA.out HMI.out HGT.out (by rw [HT.out.2.1]; exact HN.out) (by rw [HT.out.2.2.1]; exact HRA.out.2.2) HF9.out KS9.out KM9.out hHT
      rw [HMV.out] at hSA
      exact ⟨1, 0, rfl, HF9.out, .inr (.inr (.inr ⟨h0, HH0.out, by rw [HRL.out]; have := HR0.out; omega, rfl, rfl, hSA⟩))⟩
end Go.Proofs.Ytkiaijmhoikdiaa

/- store.find, Get. Each theorem states its conditions. -/
namespace Go.Proofs.Ytkiaijmhoikdiaa
open Go.RowKit Go.MapKept
set_option linter.unusedVariables false
set_option linter.unusedSimpArgs false

/-- what find leaves -/
def FindP (w : World) (B : Nat) (H : Nat → Option Hd) (n : Nat) (e : Ending) (w' : World) : Prop :=
  Below w.heap.size w w' ∧ ((H n = none ∧ e = .returned (.tuple #[.pointer none, .int .i64 6])) ∨ ∃ g h, H n = some h ∧ e = .returned (.tuple #[.pointer (some ⟨g, 0, none⟩), .int .i64 0]) ∧ HdAt w' B g h ∧ (27 ≤ h.n ∧ h.n ≤ 1492) ∧ ∀ j, 0 ≤ h.z j ∧ h.z j ≤ 255)
theorem hd_ent {w : World} {g : Nat} {h : Hd} {A : Option Addr} {c : Nat} (k : Blk 92 w g (hdC h A c)) : w.rangeAt g 0 (enC (hdE h)).toList := hd_en k
theorem zero_en : (Try.prog.info? 32).map (·.zero) = some (some (.agg (enC ⟨fun _ => 0, 0, 0, 0⟩))) := by kernel_rfl
def en0 : En := ⟨fun _ => 0, 0, 0, 0⟩
theorem en_over (a b : En) : putMany (enC a) 0 (enC b).toList = enC b := by kernel_rfl
theorem info_u81 : (Try.prog.info? 5).map (·.size) = some 1 := by kernel_rfl
theorem one_u8v (k : Int) : (#[Value.int .u8 k] : Array Value).all (·.oneCell') = true := by kernel_rfl
set_option maxHeartbeats 8000000 in
set_option maxRecDepth 100000 in
theorem find_any (B s b k n : Nat) (H : Nat → Option Hd) (r : Bool) (w : World) (hst : StAt w B s b H k r) (hn : IdOk n) : Calls Try.prog 34 #[.pointer (some ⟨s, 0, none⟩), .agg (iC n)] w (FindP w B H n) := by
  obtain ⟨M, hM, hMH, hMA, _⟩ := hst.map
  have HMH := Lib.hid hMH
  have HMA := Lib.hid hMA
  have KS := Lib.hid hst.blk
  have KM := Lib.hid hM
  have HID := Lib.hid hn
  clear hst hM hMH hMA hn
  go_enter Try.func34, Try.ntmps34
  have HB := Lib.hid (Below.refl w.heap.size w)
  obtain ⟨N1, hN1⟩ : ∃ N, w.heap.size = N := ⟨_, rfl⟩
  have HN1 := Lib.hid hN1
  clear hN1
  go_wp2_with (refine wpList_box (op := ⟨some 3, _, _, _, _, _⟩) rfl 28 (.tmp 1) rfl (iC n) rfl N1 HN1.out ?_; intro w1 k1 b1 s1; refine Hid.out ?_)
  refine Lib.hid ?_
  have K3 := Lib.hid k1
  clear k1
  have lt_s_N1 : s < N1 := by rw [← HN1.out]; exact KS.out.lt
  have lt_b_N1 : b < N1 := by rw [← HN1.out]; exact KM.out.lt
  have le_HB_N1 : w.heap.size ≤ N1 := by rw [← HN1.out]; exact HB.out.size
  have KSn := Lib.hid (KS.out.below b1 KS.out.lt)
  clear KS
  have KS := KSn
  clear KSn
  have KMn := Lib.hid (KM.out.below b1 KM.out.lt)
  clear KM
  have KM := KMn
  clear KMn
  have HBn := Lib.hid (HB.out.trans (b1.mono HB.out.size))
  clear HB
  have HB := HBn
  clear HBn
  clear b1 HN1
  go_wp2_with fail
  obtain ⟨mv, hmv⟩ : ∃ v, M n = v := ⟨_, rfl⟩
  have HMV := Lib.hid hmv
  clear hmv
  cases mv with
  | none =>
    refine wp_region_held_drew (S := fun w' => Blk 79 w' s (stC b r) ∧ MapAt w' b M k ∧ Blk 28 w' N1 (iC n) ∧ Below w.heap.size w w') (by kernel_rfl) ⟨KS.out, KM.out, K3.out, HB.out.drew⟩ (fun hS => ?_)
    generalize hW2 : w1.drew = W2 at hS  ⊢
    clear hW2
    clear KS
    clear KM
    clear K3
    clear HB
    have KS := Lib.hid hS.1
    have KM := Lib.hid hS.2.1
    have K3 := Lib.hid hS.2.2.1
    have HB := Lib.hid hS.2.2.2
    refine takeY (i := 0) (some 11) (v := .pointer (some ⟨s, 0, none⟩)) rfl rfl (by kernel_rfl) (by kernel_rfl) (by kernel_rfl) (fun _ _ _ h => h) (by rfl) (fun w' hS => by clear hS; go_simp) hS ?_
    simp only [Act.put, List.setIfInBounds_toArray, List.set_cons_zero, List.set_cons_succ]
    refine takeY (i := 1) (some 12) (v := .pointer (some ⟨s, 0, none⟩)) rfl rfl (by kernel_rfl) (by kernel_rfl) (by kernel_rfl) (fun _ _ _ h => h) (by rfl) (fun w' hS => by clear hS; go_simp) hS ?_
    simp only [Act.put, List.setIfInBounds_toArray, List.set_cons_zero, List.set_cons_succ]
    refine takeY (i := 2) (some 13) (v := .pointer (some ⟨s, 0, none⟩)) rfl rfl (by kernel_rfl) (by kernel_rfl) (by kernel_rfl) (fun _ _ _ h => h) (by rfl) (fun w' hS => by clear hS; go_simp) hS ?_
    simp only [Act.put, List.setIfInBounds_toArray, List.set_cons_zero, List.set_cons_succ]
    refine takeY (i := 3) (some 14) (v := .map (some b)) rfl rfl (by kernel_rfl) (by kernel_rfl) (by kernel_rfl) (fun _ _ _ h => h) (by rfl) (fun w' hS => by (have c9 : w'.cell? ⟨s, 0, none⟩ = some (.map (some b)) := (hS.1.cell 0).trans rfl; clear hS; go_simp)) hS ?_
    simp only [Act.put, List.setIfInBounds_toArray, List.set_cons_zero, List.set_cons_succ]
    refine takeL (i := 4) (some 15) 28 (.tmp 3) N1 0 (iC n) _ rfl rfl (by kernel_rfl) (by kernel_rfl) (by kernel_rfl) (fun _ _ _ h => h) (by rfl) rfl rfl (fun w' hS => hS.2.2.1.all) Try.underlying28 rfl info_iC hS ?_
    simp only [Act.put, List.setIfInBounds_toArray, List.set_cons_zero, List.set_cons_succ]
    refine takeY (i := 5) (some 16) (v := .tuple #[.pointer none, .bool false]) rfl rfl (by kernel_rfl) (by kernel_rfl) (by kernel_rfl) (fun _ _ _ h => h) (by rfl) (fun w' hS => by (refine (look_run _ _ _ _ rfl hS.2.1 HID.out rfl rfl).trans ?_; rw [HMV.out]; rfl)) hS ?_
    simp only [Act.put, List.setIfInBounds_toArray, List.set_cons_zero, List.set_cons_succ]
    refine takeY (i := 6) (some 10) (v := .tuple #[.pointer none, .bool false]) rfl rfl (by kernel_rfl) (by kernel_rfl) (by kernel_rfl) (fun _ _ _ h => h) (by rfl) (fun w' hS => by clear hS; go_simp) hS ?_
    simp only [Act.put, List.setIfInBounds_toArray, List.set_cons_zero, List.set_cons_succ]
    refine takeY (i := 7) (some 17) (v := .pointer none) rfl rfl (by kernel_rfl) (by kernel_rfl) (by kernel_rfl) (fun _ _ _ h => h) (by rfl) (fun w' hS => by clear hS; go_simp) hS ?_
    simp only [Act.put, List.setIfInBounds_toArray, List.set_cons_zero, List.set_cons_succ]
    refine takeY (i := 8) (some 18) (v := .bool false) rfl rfl (by kernel_rfl) (by kernel_rfl) (by kernel_rfl) (fun _ _ _ h => h) (by rfl) (fun w' hS => by clear hS; go_simp) hS ?_
    simp only [Act.put, List.setIfInBounds_toArray, List.set_cons_zero, List.set_cons_succ]
    refine takeY (i := 9) (some 6) (v := .pointer none) rfl rfl (by kernel_rfl) (by kernel_rfl) (by kernel_rfl) (fun _ _ _ h => h) (by rfl) (fun w' hS => by clear hS; go_simp) hS ?_
    simp only [Act.put, List.setIfInBounds_toArray, List.set_cons_zero, List.set_cons_succ]
    refine takeY (i := 10) (some 7) (v := .bool false) rfl rfl (by kernel_rfl) (by kernel_rfl) (by kernel_rfl) (fun _ _ _ h => h) (by rfl) (fun w' hS => by clear hS; go_simp) hS ?_
    simp only [Act.put, List.setIfInBounds_toArray, List.set_cons_zero, List.set_cons_succ]
    clear hS
    refine wpAnyH_done (by kernel_rfl) ?_ _
    go_wp2_with fail
    refine bodyPost_ret (v := .tuple #[.pointer none, .int .i64 6]) (by simp [results, Try.f34, go_sem]) rfl ?_
    exact ⟨HB.out, .inl ⟨(HMH.out n).1 HMV.out, rfl⟩⟩
  | some g0 =>
    refine wp_region_held_drew (S := fun w' => Blk 79 w' s (stC b r) ∧ MapAt w' b M k ∧ Blk 28 w' N1 (iC n) ∧ Below w.heap.size w w') (by kernel_rfl) ⟨KS.out, KM.out, K3.out, HB.out.drew⟩ (fun hS => ?_)
    generalize hW2 : w1.drew = W2 at hS  ⊢
    clear hW2
    clear KS
    clear KM
    clear K3
    clear HB
    have KS := Lib.hid hS.1
    have KM := Lib.hid hS.2.1
    have K3 := Lib.hid hS.2.2.1
    have HB := Lib.hid hS.2.2.2
    refine takeY (i := 0) (some 11) (v := .pointer (some ⟨s, 0, none⟩)) rfl rfl (by kernel_rfl) (by kernel_rfl) (by kernel_rfl) (fun _ _ _ h => h) (by rfl) (fun w' hS => by clear hS; go_simp) hS ?_
    simp only [Act.put, List.setIfInBounds_toArray, List.set_cons_zero, List.set_cons_succ]
    refine takeY (i := 1) (some 12) (v := .pointer (some ⟨s, 0, none⟩)) rfl rfl (by kernel_rfl) (by kernel_rfl) (by kernel_rfl) (fun _ _ _ h => h) (by rfl) (fun w' hS => by clear hS; go_simp) hS ?_
    simp only [Act.put, List.setIfInBounds_toArray, List.set_cons_zero, List.set_cons_succ]
    refine takeY (i := 2) (some 13) (v := .pointer (some ⟨s, 0, none⟩)) rfl rfl (by kernel_rfl) (by kernel_rfl) (by kernel_rfl) (fun _ _ _ h => h) (by rfl) (fun w' hS => by clear hS; go_simp) hS ?_
    simp only [Act.put, List.setIfInBounds_toArray, List.set_cons_zero, List.set_cons_succ]
    refine takeY (i := 3) (some 14) (v := .map (some b)) rfl rfl (by kernel_rfl) (by kernel_rfl) (by kernel_rfl) (fun _ _ _ h => h) (by rfl) (fun w' hS => by (have c9 : w'.cell? ⟨s, 0, none⟩ = some (.map (some b)) := (hS.1.cell 0).trans rfl; clear hS; go_simp)) hS ?_
    simp only [Act.put, List.setIfInBounds_toArray, List.set_cons_zero, List.set_cons_succ]
    refine takeL (i := 4) (some 15) 28 (.tmp 3) N1 0 (iC n) _ rfl rfl (by kernel_rfl) (by kernel_rfl) (by kernel_rfl) (fun _ _ _ h => h) (by rfl) rfl rfl (fun w' hS => hS.2.2.1.all) Try.underlying28 rfl info_iC hS ?_
    simp only [Act.put, List.setIfInBounds_toArray, List.set_cons_zero, List.set_cons_succ]
    refine takeY (i := 5) (some 16) (v := .tuple #[.pointer (some ⟨g0, 0, none⟩), .bool true]) rfl rfl (by kernel_rfl) (by kernel_rfl) (by kernel_rfl) (fun _ _ _ h => h) (by rfl) (fun w' hS => by (refine (look_run _ _ _ _ rfl hS.2.1 HID.out rfl rfl).trans ?_; rw [HMV.out]; rfl)) hS ?_
    simp only [Act.put, List.setIfInBounds_toArray, List.set_cons_zero, List.set_cons_succ]
    refine takeY (i := 6) (some 10) (v := .tuple #[.pointer (some ⟨g0, 0, none⟩), .bool true]) rfl rfl (by kernel_rfl) (by kernel_rfl) (by kernel_rfl) (fun _ _ _ h => h) (by rfl) (fun w' hS => by clear hS; go_simp) hS ?_
    simp only [Act.put, List.setIfInBounds_toArray, List.set_cons_zero, List.set_cons_succ]
    refine takeY (i := 7) (some 17) (v := .pointer (some ⟨g0, 0, none⟩)) rfl rfl (by kernel_rfl) (by kernel_rfl) (by kernel_rfl) (fun _ _ _ h => h) (by rfl) (fun w' hS => by clear hS; go_simp) hS ?_
    simp only [Act.put, List.setIfInBounds_toArray, List.set_cons_zero, List.set_cons_succ]
    refine takeY (i := 8) (some 18) (v := .bool true) rfl rfl (by kernel_rfl) (by kernel_rfl) (by kernel_rfl) (fun _ _ _ h => h) (by rfl) (fun w' hS => by clear hS; go_simp) hS ?_
    simp only [Act.put, List.setIfInBounds_toArray, List.set_cons_zero, List.set_cons_succ]
    refine takeY (i := 9) (some 6) (v := .pointer (some ⟨g0, 0, none⟩)) rfl rfl (by kernel_rfl) (by kernel_rfl) (by kernel_rfl) (fun _ _ _ h => h) (by rfl) (fun w' hS => by clear hS; go_simp) hS ?_
    simp only [Act.put, List.setIfInBounds_toArray, List.set_cons_zero, List.set_cons_succ]
    refine takeY (i := 10) (some 7) (v := .bool true) rfl rfl (by kernel_rfl) (by kernel_rfl) (by kernel_rfl) (fun _ _ _ h => h) (by rfl) (fun w' hS => by clear hS; go_simp) hS ?_
    simp only [Act.put, List.setIfInBounds_toArray, List.set_cons_zero, List.set_cons_succ]
    clear hS
    refine wpAnyH_done (by kernel_rfl) ?_ _
    go_wp2_with fail
    refine bodyPost_ret (v := .tuple #[.pointer (some ⟨g0, 0, none⟩), .int .i64 0]) (by simp [results, Try.f34, go_sem]) rfl ?_
    obtain ⟨h0, hh0⟩ : ∃ h, H n = some h := by
      cases e : H n with
      | none => have := (HMH.out n).2 e; rw [HMV.out] at this; cases this
      | some h => exact ⟨h, rfl⟩
    have hA := HMA.out n g0 h0 HMV.out hh0
    exact ⟨HB.out, .inr ⟨g0, h0, hh0, rfl, hA.1.below HB.out, hA.2.2⟩⟩
end Go.Proofs.Ytkiaijmhoikdiaa

/- The order that List's sort is handed. Each theorem states its conditions. -/
namespace Go.Proofs.Ytkiaijmhoikdiaa
open Go.RowKit Go.Sort
set_option linter.unusedVariables false
set_option linter.unusedSimpArgs false

theorem ent_id {w : World} {g : Nat} {h : Hd} (k : Blk 32 w g (enC (hdE h))) : w.rangeAt g 0 (iC h.id).toList := k.range (eight8 ⟨rfl, rfl, rfl, rfl, rfl, rfl, rfl, rfl⟩)
end Go.Proofs.Ytkiaijmhoikdiaa

/- Entries in a row of the call's own, and what the library's sort leaves there. Plain facts. Each theorem states its conditions. -/
namespace Go.Proofs.Ytkiaijmhoikdiaa
open Go.RowKit Go.Sort
set_option linter.unusedVariables false

def OwnR (w : World) (base : Nat) (e : TypeId) (s : Nat) (v : Value) (m : Nat) (C : Nat → Array Value) : Prop := w.ownsRow base e s v m (cellsR C m)
abbrev HdI := { h : Hd // IdOk h.id }
instance : Inhabited HdI := ⟨⟨⟨0, 0, 0, 0, 0, fun _ => 0, 0⟩, by unfold IdOk; decide⟩⟩
section
variable {w : World} {g cap n base : Nat} {e : TypeId} {os : Array Obj} {cur : Array Value} {S T : List HdI}
end
def idH (x : HdI) : Int := (x.1.id : Int)
/-- in order -/
def Asc (S : List HdI) : Prop := ∀ i j, i < j → j < S.length → idH (S[i]?.getD default) ≤ idH (S[j]?.getD default)
end Go.Proofs.Ytkiaijmhoikdiaa

/-
  DERIVED: THE SHELF's CONTRACTS AT THIS DUMP, IN PLAIN WORDS (tools/lay-plain.mjs out of 'TryShelf.lean', which tools/lay-shelf.mjs wrote): THE SAME DECLARATIONS UNDER THE SAME NAMES: 'import', 'namespace', 'open', 'def', 'theorem' AND NOTHING ELSE: no command of the shelf's: FOR A HAND-IN. Each laying: the table of numbers ('.._ren') and one theorem, a field a fact of the dump's own or the kernel's comparison; each contract: ONE APPLICATION.
-/
namespace Go.Proofs
open Go.Shelf
def Try.sortE_ren : Go.Shelf.Ren := ⟨fun | 6 => 44 | 15 => 69 | 14 => 68 | 28 => 93 | 29 => 94 | 20 => 85 | 21 => 86 | 22 => 87 | 23 => 88 | 24 => 89 | 25 => 90 | 26 => 91 | 27 => 92 | 46 => 112 | 47 => 113 | 48 => 114 | 49 => 115 | 50 => 116 | 57 => 126 | n => n, fun | 22 => 57 | 24 => 32 | 25 => 90 | 3 => 3 | 39 => 103 | 0 => 0 | 53 => 29 | 55 => 115 | 4 => 4 | 46 => 149 | 45 => 148 | 50 => 72 | 5 => 5 | 9 => 9 | 66 => 172 | 70 => 176 | 76 => 185 | 77 => 50 | n => n, fun | n => n⟩
theorem Try.sortE : Go.Proofs.SlLaysF0.n6 Try.prog Try.sortE_ren := {
  mixed := by kernel_rfl
  f6 := ⟨Try.f44.name, by decide, Try.func44.trans (congrArg some (by kernel_rfl))⟩
  f14 := ⟨Try.f68.name, by decide, Try.func68.trans (congrArg some (by kernel_rfl))⟩
  f15 := Try.func69.trans (congrArg some (by kernel_rfl))
  f20 := ⟨Try.f85.name, by decide, Try.func85.trans (congrArg some (by kernel_rfl))⟩
  f21 := ⟨Try.f86.name, by decide, Try.func86.trans (congrArg some (by kernel_rfl))⟩
  f22 := ⟨Try.f87.name, by decide, Try.func87.trans (congrArg some (by kernel_rfl))⟩
  f23 := ⟨Try.f88.name, by decide, Try.func88.trans (congrArg some (by kernel_rfl))⟩
  f24 := ⟨Try.f89.name, by decide, Try.func89.trans (congrArg some (by kernel_rfl))⟩
  f25 := ⟨Try.f90.name, by decide, Try.func90.trans (congrArg some (by kernel_rfl))⟩
  f26 := ⟨Try.f91.name, by decide, Try.func91.trans (congrArg some (by kernel_rfl))⟩
  f27 := ⟨Try.f92.name, by decide, Try.func92.trans (congrArg some (by kernel_rfl))⟩
  f28 := Try.func93.trans (congrArg some (by kernel_rfl))
  f29 := Try.func94.trans (congrArg some (by kernel_rfl))
  f46 := ⟨Try.f112.name, by decide, Try.func112.trans (congrArg some (by kernel_rfl))⟩
  f47 := Try.func113.trans (congrArg some (by kernel_rfl))
  f48 := Try.func114.trans (congrArg some (by kernel_rfl))
  f49 := ⟨Try.f115.name, by decide, Try.func115.trans (congrArg some (by kernel_rfl))⟩
  f50 := ⟨Try.f116.name, by decide, Try.func116.trans (congrArg some (by kernel_rfl))⟩
  f57 := ⟨Try.f126.name, by decide, Try.func126.trans (congrArg some (by kernel_rfl))⟩
  t0 := Try.underlying0
  a0 := Try.isAgg0
  z0 := Try.sizeOf0
  v0 := Try.zeroValue0
  t3 := Try.underlying3
  a3 := Try.isAgg3
  z3 := Try.sizeOf3
  v3 := Try.zeroValue3
  t4 := Try.underlying4
  a4 := Try.isAgg4
  z4 := Try.sizeOf4
  v4 := Try.zeroValue4
  t5 := Try.underlying5
  a5 := Try.isAgg5
  z5 := Try.sizeOf5
  v5 := Try.zeroValue5
  t9 := Try.underlying9
  a9 := Try.isAgg9
  z9 := Try.sizeOf9
  v9 := Try.zeroValue9
  t22 := Try.underlying57
  a22 := Try.isAgg57
  z22 := Try.sizeOf57
  v22 := Try.zeroValue57
  t25 := Try.underlying90
  a25 := Try.isAgg90
  z25 := Try.sizeOf90
  v25 := Try.zeroValue90
  t39 := Try.underlying103
  a39 := Try.isAgg103
  z39 := Try.sizeOf103
  v39 := Try.zeroValue103
  t45 := Try.underlying148
  a45 := Try.isAgg148
  z45 := Try.sizeOf148
  v45 := Try.zeroValue148
  t46 := Try.underlying149
  a46 := Try.isAgg149
  z46 := Try.sizeOf149
  v46 := Try.zeroValue149
  t50 := Try.underlying72
  a50 := Try.isAgg72
  z50 := Try.sizeOf72
  v50 := Try.zeroValue72
  t53 := Try.underlying29
  a53 := Try.isAgg29
  z53 := Try.sizeOf29
  v53 := Try.zeroValue29
  t55 := Try.underlying115
  a55 := Try.isAgg115
  z55 := Try.sizeOf115
  v55 := Try.zeroValue115
  t66 := Try.underlying172
  a66 := Try.isAgg172
  z66 := Try.sizeOf172
  v66 := Try.zeroValue172
  t70 := Try.underlying176
  a70 := Try.isAgg176
  z70 := Try.sizeOf176
  v70 := Try.zeroValue176
  t76 := Try.underlying185
  a76 := Try.isAgg185
  z76 := Try.sizeOf185
  v76 := Try.zeroValue185
  t77 := Try.underlying50
  a77 := Try.isAgg50
  z77 := Try.sizeOf50
  v77 := Try.zeroValue50 }
end Go.Proofs

/- The library's sort at entries, as List calls it. Each theorem states its conditions. -/
namespace Go.Proofs.Ytkiaijmhoikdiaa
open Go.RowKit Go.Sort
set_option linter.unusedVariables false

end Go.Proofs.Ytkiaijmhoikdiaa

/- A range over a map of IDs: the step, what is left. Each theorem states its conditions. -/
namespace Go.Proofs.Ytkiaijmhoikdiaa
open Go.RowKit Go.MapKept
open Go.ChangeMaps (setBlock)
set_option linter.unusedVariables false

/-- a range over the map in block b is under way: its iterator lies in r; who is left; how many -/
def RngAt (w : World) (b : Nat) (M : Nat → Option Nat) (k r : Nat) (left : Nat → Bool) (cnt : Nat) : Prop :=
  ∃ es clock since seen c0, w.heap[b]? = some (.map es clock) ∧ Stamped es clock ∧ es.size = k ∧
    (∀ e ∈ es.toList, ∃ n g, IdOk n ∧ e.key = .agg (iC n) ∧ e.val = ptrV (some g) ∧ M n = some g ∧ left n = !seen.contains e.born) ∧ (∀ n g, M n = some g → IdOk n ∧ ∃ e ∈ es.toList, e.key = .agg (iC n) ∧ e.val = ptrV (some g)) ∧
    w.heap[r]? = some (.mapIter (some b) since seen c0) ∧ (∀ x ∈ es.toList, x.born < since) ∧ (leftOf es seen).size = cnt ∧ since ≤ c0 ∧ since ≤ clock
section
variable {w w' : World} {b k r cnt : Nat} {M : Nat → Option Nat} {left : Nat → Bool}
theorem RngAt.map (h : RngAt w b M k r left cnt) : MapAt w b M k := by
  obtain ⟨es, clock, since, seen, c0, hb, h1, h2, h3, h4, _⟩ := h
  exact ⟨es, clock, hb, h1, h2, fun e he => by obtain ⟨n, g, a1, a2, a3, a4, _⟩ := h3 e he; exact ⟨n, g, a1, a2, a3, a4⟩, h4⟩
theorem RngAt.ne (h : RngAt w b M k r left cnt) : r ≠ b := by
  obtain ⟨es, clock, since, seen, c0, hb, _, _, _, _, hr, _⟩ := h
  intro e
  rw [e, hb] at hr
  cases hr
theorem RngAt.lt (h : RngAt w b M k r left cnt) : r < w.heap.size := by
  obtain ⟨es, clock, since, seen, c0, _, _, _, _, _, hr, _⟩ := h
  exact (Array.getElem?_eq_some_iff.1 hr).1
theorem RngAt.ltb (h : RngAt w b M k r left cnt) : b < w.heap.size := h.map.lt
theorem RngAt.at (h : RngAt w b M k r left cnt) (h1 : w'.heap[b]? = w.heap[b]?) (h2 : w'.heap[r]? = w.heap[r]?) : RngAt w' b M k r left cnt := by
  obtain ⟨es, clock, since, seen, c0, hb, a1, a2, a3, a4, hr, rest⟩ := h
  exact ⟨es, clock, since, seen, c0, h1.trans hb, a1, a2, a3, a4, h2.trans hr, rest⟩
theorem RngAt.below (h : RngAt w b M k r left cnt) (hb : Below w.heap.size w w') : RngAt w' b M k r left cnt := h.at (hb.block b h.ltb) (hb.block r h.lt)
theorem RngAt.far {c : Nat} {C : Array Value} {t : TypeId} (h : RngAt w b M k r left cnt) (hs : Stored w w' c C t) (h1 : b ≠ c) (h2 : r ≠ c) : RngAt w' b M k r left cnt := h.at (hs.2.2 b h1) (hs.2.2 r h2)
theorem RngAt.none (h : RngAt w b M k r left 0) {n g : Nat} (hn : M n = some g) : left n = false := by
  obtain ⟨es, clock, since, seen, c0, hb, a1, a2, a3, a4, hr, a5, a6, _⟩ := h
  obtain ⟨hi, e, he, hk, hv⟩ := a4 n g hn
  obtain ⟨m, g', m1, m2, m3, m4, m5⟩ := a3 e he
  have : m = n := idC_inj m1 hi ((Value.agg.inj (hk.symm.trans m2)).symm)
  subst this
  rw [m5, all_seen es seen a6 e he]
  rfl
end
section
variable {ops : Array Oper} {Q : Exit → Act → World → Prop} {rest : List Oper} {op : Oper} {a : Act} {w : World} {b k r cnt : Nat} {M : Nat → Option Nat} {left : Nat → Bool}
end
end Go.Proofs.Ytkiaijmhoikdiaa

/- Lists in the order of IDs: what a range of a store has. Plain facts. Each theorem states its conditions. -/
namespace Go.Proofs.Ytkiaijmhoikdiaa
open Go.RowKit Go.Sort Go.MapKept
set_option linter.unusedVariables false

/-- in the order of IDs, each once -/
def AscT (S : List HdI) : Prop := S.Pairwise (fun x y => x.1.id < y.1.id)
/-- what H holds from a to b, in order -/
def InRg (H : Nat → Option Hd) (a b : Nat) (T : List HdI) : Prop := AscT T ∧ ∀ x : HdI, x ∈ T ↔ (H x.1.id = some x.1 ∧ a ≤ x.1.id ∧ x.1.id ≤ b)
theorem ascT_of {T : List HdI} (hi : ∀ x ∈ T, ∀ y ∈ T, x.1.id = y.1.id → x = y) (hn : T.Nodup) (ha : Asc T) : AscT T := by
  unfold AscT
  rw [List.pairwise_iff_getElem]
  intro i j hi' hj hij
  have h1 := ha i j hij hj
  rw [List.getElem?_eq_getElem hi', List.getElem?_eq_getElem hj] at h1
  have h2 : T[i] ≠ T[j] := List.pairwise_iff_getElem.1 hn i j hi' hj hij
  have h3 : T[i].1.id ≠ T[j].1.id := fun e => h2 (hi _ (List.getElem_mem ..) _ (List.getElem_mem ..) e)
  simp only [Option.getD_some, idH] at h1
  omega
section
variable {H : Nat → Option Hd} {a b c d : Nat} {S T U V : List HdI}
end
/-- the map's size is how many it holds -/
theorem map_count {w : World} {b k m : Nat} {M : Nat → Option Nat} {H : Nat → Option Hd} {T : List HdI} (h : MapAt w b M k) (hMH : ∀ i, M i = none ↔ H i = none) (hid : ∀ i h, H i = some h → h.id = i) (hm : ∀ n, IdOk n → n ≤ m) (ht : InRg H 0 m T) : T.length = k := by
  obtain ⟨es, clock, hb, hst, hsz, h1, h2⟩ := h
  have hap : es.toList.Pairwise (fun x y => x.key ≠ y.key) := ((stamped_iff es clock).1 hst).2.2
  have hn1 : (es.toList.map (fun e => e.key)).Nodup := List.pairwise_map.2 hap
  have hn2 : (T.map (fun x : HdI => Value.agg (iC x.1.id))).Nodup := by
    refine List.pairwise_map.2 (List.Pairwise.imp (fun {x y} hxy e => ?_) ht.1)
    have := idC_inj x.2 y.2 (Value.agg.inj e)
    omega
  have hp : (T.map (fun x : HdI => Value.agg (iC x.1.id))).Perm (es.toList.map (fun e => e.key)) := by
    refine (List.perm_ext_iff_of_nodup hn2 hn1).2 fun v => ⟨fun hv => ?_, fun hv => ?_⟩
    · obtain ⟨x, hx, rfl⟩ := List.mem_map.1 hv
      have hH := ((ht.2 x).1 hx).1
      cases hM : M x.1.id with
      | none => rw [(hMH _).1 hM] at hH; cases hH
      | some g =>
        obtain ⟨_, e, he, hk, _⟩ := h2 _ _ hM
        exact List.mem_map.2 ⟨e, he, hk⟩
    · obtain ⟨e, he, rfl⟩ := List.mem_map.1 hv
      obtain ⟨n, g, n1, n2, n3, n4⟩ := h1 e he
      cases hH : H n with
      | none => rw [(hMH n).2 hH] at n4; cases n4
      | some h =>
        have hi := hid n h hH
        exact List.mem_map.2 ⟨⟨h, by rw [hi]; exact n1⟩, (ht.2 _).2 ⟨by show H h.id = some h; rw [hi, hH], Nat.zero_le _, by show h.id ≤ m; rw [hi]; exact hm n n1⟩, by show Value.agg (iC h.id) = e.key; rw [hi, n2]⟩
  have := hp.length_eq
  simp only [List.length_map, Array.length_toList] at this
  omega
end Go.Proofs.Ytkiaijmhoikdiaa

/- store.Age over one LSP, and its parts: a LSP grows old; one is dropped; lists of at most one ID are sorted. Each theorem states its conditions. -/
namespace Go.Proofs.Ytkiaijmhoikdiaa
open Go.RowKit Go.MapKept
set_option linter.unusedVariables false
set_option linter.unusedSimpArgs false

theorem Stored.trans {w w1 w2 : World} {b : Nat} {C1 C2 : Array Value} {t : TypeId} (h : Stored w w1 b C1 t) (k : Stored w1 w2 b C2 t) : Stored w w2 b C2 t :=
  ⟨k.1, fun B hB => (h.2.1 B hB).trans (k.2.1 B hB), fun i hi => (k.2.2 i hi).trans (h.2.2 i hi)⟩
end Go.Proofs.Ytkiaijmhoikdiaa

/- store.Age over one LSP, and over none. Each theorem states its conditions. -/
namespace Go.Proofs.Ytkiaijmhoikdiaa
open Go.RowKit Go.MapKept
set_option linter.unusedVariables false
set_option linter.unusedSimpArgs false

def BeX (w' : World) (B : Nat) (w : World) : Prop := Below B w w' ∧ B < w'.heap.size
theorem BeX.lt {w w' : World} {B : Nat} (h : BeX w' B w) : B < w'.heap.size := h.2
theorem BeX.below {w w' w2 : World} {B : Nat} (h : BeX w' B w) (hb : Below w'.heap.size w' w2) (_ : B < w'.heap.size) : BeX w2 B w := ⟨h.1.trans (hb.mono (Nat.le_of_lt h.2)), Nat.lt_of_lt_of_le h.2 hb.size⟩
theorem BeX.far {w w' w2 : World} {B c : Nat} {C : Array Value} {t : TypeId} (h : BeX w' B w) (hs : Stored w' w2 c C t) (hk : B ≤ c) : BeX w2 B w := ⟨h.1.trans (hs.2.1 B hk), Nat.lt_of_lt_of_le h.2 (hs.2.1 B hk).size⟩
/-- maps, stores and what they hold -/
def mineS : Obj → Bool
  | .map .. => true
  | .cells _ t _ => t == 79 || t == 92
  | _ => false
/-- whatever was there and is none of these lies as it lay -/
def KpX (w' : World) (N : Nat) (w : World) : Prop := (∀ (k : Nat) (o : Obj), k < N → w.heap[k]? = some o → mineS o = false → w'.heap[k]? = some o) ∧ N < w'.heap.size
theorem KpX.lt {w w' : World} {N : Nat} (h : KpX w' N w) : N < w'.heap.size := h.2
theorem KpX.below {w w' w2 : World} {N : Nat} (h : KpX w' N w) (hb : Below w'.heap.size w' w2) (_ : N < w'.heap.size) : KpX w2 N w := ⟨fun k o hk h1 h2 => (hb.block k (Nat.lt_trans hk h.2)).trans (h.1 k o hk h1 h2), Nat.lt_of_lt_of_le h.2 hb.size⟩
theorem KpX.far {w w' w2 : World} {N c : Nat} {C : Array Value} {t : TypeId} (h : KpX w' N w) (hs : Stored w' w2 c C t) (hk : N ≤ c) : KpX w2 N w := ⟨fun k o hk' h1 h2 => (hs.2.2 k (by omega)).trans (h.1 k o hk' h1 h2), Nat.lt_of_lt_of_le h.2 (hs.2.1 0 (Nat.zero_le _)).size⟩
theorem KpX.held {w w' w2 : World} {N g : Nat} {C C0 : Array Value} {t : TypeId} (h : KpX w' N w) (hs : Stored w' w2 g C t) (hg : Blk 92 w g C0) : KpX w2 N w := ⟨fun k o hk' h1 h2 => (hs.2.2 k (fun e => by
  subst e
  rw [show w.heap[k]? = _ from hg] at h1
  cases h1
  simp [mineS] at h2)).trans (h.1 k o hk' h1 h2), Nat.lt_of_lt_of_le h.2 (hs.2.1 0 (Nat.zero_le _)).size⟩
theorem KpX.fr {w w' w2 : World} {N s b : Nat} {C0 : Array Value} {es : Array MapEntry} {cl : Nat} (h : KpX w' N w) (hf : Fr w' w2 s b) (hs : Blk 79 w s C0) (hb : w.heap[b]? = some (.map es cl)) : KpX w2 N w := ⟨fun k o hk' h1 h2 => (hf.block k (Nat.lt_trans hk' h.2) (fun e => by
  subst e
  rw [show w.heap[k]? = _ from hs] at h1
  cases h1
  simp [mineS] at h2) (fun e => by
  subst e
  rw [hb] at h1
  cases h1
  cases h2)).trans (h.1 k o hk' h1 h2), Nat.lt_of_lt_of_le h.2 hf.size⟩
def RgA (w : World) (r b : Nat) (M : Nat → Option Nat) (k : Nat) (left : Nat → Bool) (cnt : Nat) : Prop := RngAt w b M k r left cnt
section
variable {w w' : World} {b k r cnt : Nat} {M : Nat → Option Nat} {left : Nat → Bool}
theorem RgA.lt (h : RgA w r b M k left cnt) : r < w.heap.size := RngAt.lt h
theorem RgA.below (h : RgA w r b M k left cnt) (hb : Below w.heap.size w w') (_ : r < w.heap.size) : RgA w' r b M k left cnt := RngAt.below h hb
theorem RgA.far {c : Nat} {C : Array Value} {t : TypeId} (h : RgA w r b M k left cnt) (hs : Stored w w' c C t) (hk : b ≠ c ∧ r ≠ c) : RgA w' r b M k left cnt := RngAt.far h hs hk.1 hk.2
end
theorem wpList_bsn {ops : Array Oper} {Q : Exit → Act → World → Prop} {rest : List Oper} {op : Oper} {a : Act} {w : World} (n : Nat) (hgd : op.guard = none) (t : TypeId) (C : Array Value) (hx : (execOp a.eval op).run Try.prog w = .ok (.value (.slice (some ⟨w.heap.size, 0, none⟩) n n)) (w.alloc (.cells C t)))
    (N : Nat) (hN : w.heap.size = N) (h : ∀ w', Blk t w' N C → Below w.heap.size w w' → N + 1 ≤ w'.heap.size → wpList Try.prog ops Q rest (a.put op.dst (.slice (some ⟨N, 0, none⟩) n n)) w') : wpList Try.prog ops Q (op :: rest) a w := by
  subst hN
  exact wpList_v hgd _ hx (h _ (heap_alloc_new w _) ((Below.refl _ _).alloc (Nat.le_refl _) _) (by simp))
end Go.Proofs.Ytkiaijmhoikdiaa

/- store.List: what is held from one ID to another, in order. Each theorem states its conditions. -/
namespace Go.Proofs.Ytkiaijmhoikdiaa
open Go.RowKit Go.MapKept Go.Sort
set_option linter.unusedVariables false
set_option linter.unusedSimpArgs false

theorem OwnR.below {w w' : World} {base s m : Nat} {e : TypeId} {v : Value} {C : Nat → Array Value} (h : OwnR w base e s v m C) (hb : Below w.heap.size w w') : OwnR w' base e s v m C := ownsRow_below' h hb
theorem OwnR.nil (w : World) (base : Nat) (e : TypeId) (s : Nat) (C : Nat → Array Value) : OwnR w base e s (.slice none 0 0) 0 C := World.ownsRow_nil _ _ _ _
theorem OwnR.mono {w : World} {base base' s m : Nat} {e : TypeId} {v : Value} {C : Nat → Array Value} (h : OwnR w base e s v m C) (hb : base' ≤ base) : OwnR w base' e s v m C := ownsRow_mono h hb
theorem OwnR.congr {w : World} {base s m : Nat} {e : TypeId} {v : Value} {C C' : Nat → Array Value} (h : OwnR w base e s v m C) (hc : ∀ j, j < m → C j = C' j) : OwnR w base e s v m C' := by
  unfold OwnR at h ⊢
  rwa [cellsR_congr m hc] at h
theorem OwnR.shape {w : World} {base s m : Nat} {e : TypeId} {v : Value} {C : Nat → Array Value} (h : OwnR w base e s v m C) (hC : Recs s C) (hs : 0 < s) : ∃ A c, v = .slice A m c ∧ m ≤ c ∧ c ≤ maxLen ∧ (A = none → m = 0 ∧ c = 0) ∧ RdR w A m s C := ownR_shape hC hs h
theorem rdR_blk {w : World} {B s : Nat} {C : Array Value} {t : TypeId} (h : Blk t w B C) : RdR w (some ⟨B, 0, none⟩) 1 s (fun _ => C) := by
  refine .inr ⟨B, 0, rfl, h.lt, fun j hj i u hu => ?_⟩
  obtain rfl : j = 0 := by omega
  rw [Nat.zero_mul, Nat.zero_add, h.cell i]
  simpa using hu
section
variable {ops : Array Oper} {Q : Exit → Act → World → Prop}
theorem app_Y {rest : List Oper} {o : Oper} {a : Act} {w : World} (T E : TypeId) (s bs : Nat) (z : Value) (hT : Try.prog.underlying T = some (.slice E)) (hI : (Try.prog.info? E).map (fun i => (i.zero, i.size, i.bytes)) = some (some z, s, bs)) (hzs : z.cells.size = s) (hs0 : 0 < s)
    (hgd : o.guard = none) (y x : Operand) (ho : o.op = .call { callee := .builtin .append, args := #[y, x], argTypes := #[T, T] })
    (B : Nat) (v : Value) (n : Nat) (C : Nat → Array Value) (hs : a.eval y = v) (hown : OwnR w B E s v n C) (hb : B ≤ w.heap.size)
    (ad : Addr) (m c : Nat) (D : Nat → Array Value) (hx : a.eval x = .slice (some ad) m c) (hR : RdR w (some ad) m s D) (hD : Recs s D) (h63 : n + m ≤ maxLen) (hbd : (n + m) * bs ≤ 140737488355328)
    (h : ∀ v' w', OwnR w' B E s v' (n + m) (catR C n D) → w.grownBy w' v.ownBlock → (∀ k, v.ownBlock = some k → B ≤ k) → wpList Try.prog ops Q rest (a.put o.dst v') w') :
    wpList Try.prog ops Q (o :: rest) a w := by
  obtain ⟨i0, hi, hz0, hz1, hz2⟩ := info_parts hI
  refine wpList_append_own_at w hgd y x _ ho B E i0 z s bs hT hi hz0 hz1 hz2 hzs hs0 v n _ hs hown ad m c (cellsR D m) hx (cellsR_len hD m) (recs_news hD hs0 hR) (cellsR_one hD m) h63 hbd hb ?_
  intro v' w' h2 h3 h4 h5
  rw [cellsR_cat] at h2
  exact h v' w' h2 h3 (fun k e => (hown.lt k e).1)
end
/-- what the range has gathered -/
structure Col (H : Nat → Option Hd) (a b : Nat) (left : Nat → Bool) (S : List HdI) : Prop where
  mem : ∀ x ∈ S, H x.1.id = some x.1 ∧ a ≤ x.1.id ∧ x.1.id ≤ b ∧ left x.1.id = false
  all : ∀ x : HdI, H x.1.id = some x.1 → left x.1.id = false → a ≤ x.1.id → x.1.id ≤ b → x ∈ S
  nd : S.Nodup
section
variable {H : Nat → Option Hd} {a b n : Nat} {left : Nat → Bool} {S T : List HdI}
theorem Col.done (h : Col H a b left S) (hl : ∀ n g, H n = some g → left n = false) (hp : T.Perm S) (ha : Asc T) : InRg H a b T := by
  have hT : ∀ x ∈ T, H x.1.id = some x.1 ∧ a ≤ x.1.id ∧ x.1.id ≤ b := fun x hx => by
    obtain ⟨g1, g2, g3, _⟩ := h.mem x (hp.mem_iff.1 hx)
    exact ⟨g1, g2, g3⟩
  refine ⟨ascT_of (fun x hx y hy e => ?_) (hp.nodup_iff.2 h.nd) ha, fun x => ⟨hT x, fun ⟨g1, g2, g3⟩ => hp.mem_iff.2 (h.all x g1 (hl _ _ g1) g2 g3)⟩⟩
  have e1 := (hT x hx).1
  have e2 := (hT y hy).1
  rw [e, e2] at e1
  exact Subtype.ext (Option.some.inj e1).symm
end
end Go.Proofs.Ytkiaijmhoikdiaa

/- pdu.GetEntries and the document's: no bytes, too many, not whole entries. Each theorem states its conditions. -/
namespace Go.Proofs.Ytkiaijmhoikdiaa
open Go.RowKit
set_option linter.unusedVariables false

theorem two_own (w : World) (N : Nat) (h : N ≤ 65535) : Own8 (w.alloc (.cells #[.int .u8 ((N : Int) / 256), .int .u8 ((N : Int) % 256)] 5)) w.heap.size 2 2 (putZ N 2) := by
  have e0 : putZ N 2 0 = (N : Int) / 256 := by
    show ((N / 256 ^ 1 % 256 : Nat) : Int) = _
    rw [show (256 : Nat) ^ 1 = 256 from rfl]
    omega
  have e1 : putZ N 2 1 = (N : Int) % 256 := by
    show ((N / 256 ^ 0 % 256 : Nat) : Int) = _
    rw [show (256 : Nat) ^ 0 = 1 from rfl]
    omega
  refine ⟨⟨_, heap_alloc_new w _, Nat.le_refl _, by decide, rfl, fun j hj => ?_⟩, putZ_bd _ _⟩
  rcases (by omega : j = 0 ∨ j = 1) with rfl | rfl
  · rw [e0]; rfl
  · rw [e1]; rfl
/-- a number as two bytes -/
theorem two_any (N : Nat) (w : World) (h : N ≤ 65535) :
    Calls Try.prog 53 #[.int .i64 (N : Int)] w fun e w' => ∃ g, e = .returned (.slice (some ⟨g, 0, none⟩) 2 2) ∧ w.heap.size ≤ g ∧ Own8 w' g 2 2 (putZ N 2) ∧ Below w.heap.size w w' := by
  go_enter Try.func53, Try.ntmps53
  go_wp2_with fail
  go_ret
  exact ⟨_, rfl, Nat.le_refl _, two_own w N h, (bself w).alloc (Nat.le_refl _) _⟩
theorem sys_idx' (z : Nat → Int) (i : Nat) (hi : i < 6) (w : World) : (Instr.index 24 (.agg #[.int .u8 (z 0), .int .u8 (z 1), .int .u8 (z 2), .int .u8 (z 3), .int .u8 (z 4), .int .u8 (z 5)]) (.int .i64 (i : Int))).run Try.prog w = .ok (.int .u8 (z i)) w := by
  rcases (by omega : i = 0 ∨ i = 1 ∨ i = 2 ∨ i = 3 ∨ i = 4 ∨ i = 5) with rfl | rfl | rfl | rfl | rfl | rfl <;> kernel_rfl
set_option maxHeartbeats 2000000 in
set_option maxRecDepth 100000 in
theorem refNode_any (z : Nat → Int) (w : World) (hz : ∀ j, 0 ≤ z j ∧ z j ≤ 255) :
    Calls Try.prog 54 #[.agg (ndC z)] w fun e w' => ∃ v, e = .returned v ∧ OwnB w' w.heap.size v 7 z ∧ Below w.heap.size w w' := by
  have HZ := Lib.hid hz
  have HX := Lib.hid (heap_alloc_new w (.cells (ndC z) 26))
  have HB := Lib.hid ((bself w).alloc (Nat.le_refl _) (.cells (ndC z) 26))
  have hXI := Lib.hid (fun i hi w => sys_idx' z i hi w)
  clear hz
  unfold ndC at *
  go_enter Try.func54, Try.ntmps54
  go_wp2_with fail
  go_loopw [3, 8] (fun p t wr => ∃ i : Nat, i ≤ 6 ∧ t = .int .i64 i ∧ Hid (OwnB wr w.heap.size p i z) ∧ Hid (Below w.heap.size w wr) ∧ Hid (wr.heap[w.heap.size]? = some (.cells (ndC z) 26 (0, 0))) ∧ Hid (p.ownBlock ≠ some w.heap.size))
    (fun _ t _ => 6 - (intOf t).toNat)
  case atStart => exact ⟨0, by omega, rfl, Lib.hid (OwnB.nil _ _ HZ.out), HB, HX, Lib.hid (fun e => by simp [Value.ownBlock] at e)⟩
  case round =>
    obtain ⟨i, hi, rfl, HO, HW, HN, HF⟩ := hrel
    have hTs : w.heap.size < wr.heap.size := (Array.getElem?_eq_some_iff.1 HN.out).1
    by_cases hi6 : i < 6
    · have hx := hXI.out i hi6
      have hi6' : (i : Int) < 6 := by omega
      go_wp2_with (first | (at_builtin; refine app_s rfl (.tmp 11) (.tmp 13) rfl w u3 i _ rfl (HO.out.1.alloc _) (HW.out.alloc HW.out.size _) ⟨wr.heap.size, 0, none⟩ 1 1 [.int .u8 (z i)] rfl rfl (cell_one_new wr _ _) (u8_one _) (by omega) ?_; intro v3 w3 ho3 hb3 hs3 hk3; have hk4 := Lib.hid (hk3 w.heap.size (by simp; omega) HF.out)))
      rw [vals_snoc] at ho3
      have HO3 : Hid (OwnB w3 w.heap.size v3 (i + 1) z) := Lib.hid ⟨ho3, HZ.out⟩
      have HB3 := Lib.hid hb3
      clear ho3 hb3 hs3 hk3 hx
      go_wp2_with fail
      go_roundw
      case rel => exact ⟨i + 1, by omega, by go_num, HO3, HB3, Lib.hid (hk4.out.1.trans ((Below.heap_alloc wr _ _ hTs).trans HN.out)), Lib.hid hk4.out.2⟩
      case measure => simp only [intOf]; omega
    · obtain rfl : i = 6 := by omega
      have d6 : wr.cell? ⟨w.heap.size, 6, none⟩ = some (.int .u8 (z 6)) := (cell_of_row wr _ 6 _ _ _ HN.out).trans rfl
      go_wp2_with (first
        | (at_builtin; refine app_s rfl (.tmp 16) (.tmp 19) rfl w u3 6 _ rfl (HO.out.1.alloc _) (HW.out.alloc HW.out.size _) ⟨wr.heap.size, 0, none⟩ 1 1 [.int .u8 (z 6)] rfl rfl (cell_one_new wr _ _) (u8_one _) (by omega) ?_; intro v3 w3 ho3 hb3 hs3 hk3))
      rw [vals_snoc] at ho3
      go_ret
      exact ⟨_, rfl, ⟨ho3, HZ.out⟩, hb3⟩
end Go.Proofs.Ytkiaijmhoikdiaa

/- The document's ID writes an ID. Each theorem states its conditions. -/
namespace Go.Proofs.Ytkiaijmhoikdiaa
open Go.RowKit
set_option linter.unusedVariables false
set_option maxHeartbeats 2000000 in
set_option maxRecDepth 100000 in
/-- an ID's eight bytes -/
theorem refID_any (z : Nat → Int) (w : World) (hz : ∀ j, 0 ≤ z j ∧ z j ≤ 255) :
    Calls Try.prog 49 #[.agg (idC z)] w fun e w' => ∃ v, e = .returned v ∧ OwnB w' w.heap.size v 8 z ∧ Below w.heap.size w w' := by
  have HZ := Lib.hid hz
  have HX := Lib.hid (heap_alloc_new w (.cells (idC z) 28))
  have HB := Lib.hid ((bself w).alloc (Nat.le_refl _) (.cells (idC z) 28))
  clear hz
  unfold idC at *
  go_enter Try.func49, Try.ntmps49
  go_wp2_with fail
  refine wp_region_held_drew (S := fun w' => w'.heap[w.heap.size]? = some (.cells (idC z) 28 (0, 0)) ∧ Below w.heap.size w w') (by kernel_rfl) ⟨HX.out, HB.out.drew⟩ (fun hS0 => ?_)
  refine takeY (i := 0) (some 3) (v := .pointer (some ⟨w.heap.size, 0, none⟩)) rfl rfl (by kernel_rfl) (by kernel_rfl) (by kernel_rfl) (fun _ _ _ h => h) (by rfl) (fun w' hS => by go_simp) hS0 ?_
  simp only [Act.put, List.setIfInBounds_toArray, List.set_cons_zero, List.set_cons_succ]
  refine takeL (i := 1) (some 4) 26 (.tmp 3) w.heap.size 0 (ndC z) _ rfl rfl (by kernel_rfl) (by kernel_rfl) (by kernel_rfl) (fun _ _ _ h => h) (by rfl) rfl rfl (fun w' hS => id_range hS.1) Try.underlying26 rfl hi_nd hS0 ?_
  simp only [Act.put, List.setIfInBounds_toArray, List.set_cons_zero, List.set_cons_succ]
  refine takeY (i := 3) (some 6) (v := .pointer (some ⟨w.heap.size, 7, none⟩)) rfl rfl (by kernel_rfl) (by kernel_rfl) (by kernel_rfl) (fun _ _ _ h => h) (by rfl) (fun w' hS => by go_simp) hS0 ?_
  simp only [Act.put, List.setIfInBounds_toArray, List.set_cons_zero, List.set_cons_succ]
  refine takeY (i := 4) (some 7) (v := .int .u8 (z 7)) rfl rfl (by kernel_rfl) (by kernel_rfl) (by kernel_rfl) (fun _ _ _ h => h) (by rfl) (fun w' hS => by have c6 : w'.cell? ⟨w.heap.size, 7, none⟩ = some (.int .u8 (z 7)) := (cell_of_row w' _ 7 _ _ _ hS.1).trans rfl; clear hS; go_simp) hS0 ?_
  simp only [Act.put, List.setIfInBounds_toArray, List.set_cons_zero, List.set_cons_succ]
  obtain ⟨W0, hW0⟩ : ∃ W0, (w.alloc (.cells #[.int .u8 (z 0), .int .u8 (z 1), .int .u8 (z 2), .int .u8 (z 3), .int .u8 (z 4), .int .u8 (z 5), .int .u8 (z 6), .int .u8 (z 7)] 28)).drew = W0 := ⟨_, rfl⟩
  have hsz : W0.heap.size = w.heap.size + 1 := by rw [← hW0]; simp
  rw [hW0] at hS0
  rw [hW0]
  have HS0 := Lib.hid hS0
  clear hS0 hW0 HX HB
  refine wpAnyH_ready (rs := [2, 5]) (by kernel_rfl) (by simp) (consCE (i := 2) (some 5) 54 #[.agg (ndC z)] (R := fun v w' => OwnB w' W0.heap.size v 7 z ∧ Below W0.heap.size W0 w') rfl rfl (by rfl) (by go_simp) (refNode_any z _ HZ.out) (fun v w' h => ⟨(h.2.block _ (by omega)).trans HS0.out.1, HS0.out.2.trans (h.2.mono HS0.out.2.size)⟩) (fun v1 w1 h1 hS1 => ?_) (consVW (i := 5) (some 8) (v := .slice (some ⟨W0.heap.size, 0, none⟩) 1 1) (w' := W0.alloc (.cells #[.int .u8 (z 7)] 5)) rfl rfl (by rfl) (by go_simp) ⟨(Below.heap_alloc W0 _ _ (by omega)).trans HS0.out.1, HS0.out.2.alloc HS0.out.2.size _⟩ ?_ AllReadyH.nil))
  · simp only [Act.put, List.setIfInBounds_toArray, List.set_cons_zero, List.set_cons_succ]
    have hw1 := h1.2.size
    refine takeV (i := 5) (some 8) (v := .slice (some ⟨w1.heap.size, 0, none⟩) 1 1) (w' := w1.alloc (.cells #[.int .u8 (z 7)] 5)) rfl rfl (by kernel_rfl) (by rfl) (by clear h1 hS1; go_simp) ⟨(Below.heap_alloc w1 _ _ (by omega)).trans hS1.1, hS1.2.alloc hS1.2.size _⟩ ?_
    have HO1 := Lib.hid ((ownsRow_mono h1.1.1 HS0.out.2.size).alloc (.cells #[.int .u8 (z 7)] 5))
    have HB1 := Lib.hid (hS1.2.alloc hS1.2.size (.cells #[.int .u8 (z 7)] 5))
    have HC1 := Lib.hid (cell_one_new w1 (.int .u8 (z 7)) 5)
    have HL1 : Hid (w.heap.size < (w1.alloc (.cells #[.int .u8 (z 7)] 5)).heap.size) := Lib.hid (by simp; omega)
    have HF1 : Hid (v1.ownBlock ≠ some w.heap.size) := Lib.hid (fun e => by have := (h1.1.1.lt _ e).1; omega)
    have HN1 := Lib.hid ((Below.heap_alloc w1 (.cells #[.int .u8 (z 7)] 5) _ (by omega)).trans hS1.1)
    clear h1 hS1
    simp only [Act.put, List.setIfInBounds_toArray, List.set_cons_zero, List.set_cons_succ]
    refine takeA (i := 6) (some 9) (.tmp 5) (.tmp 8) rfl rfl (by kernel_rfl) (by rfl) rfl w v1 7 (vals z 7) rfl HO1.out HB1.out ⟨w1.heap.size, 0, none⟩ 1 1 [.int .u8 (z 7)] rfl rfl HC1.out (u8_one _) (by omega) (fun v2 w2 ho2 hb2 hs2 hk2 => ⟨⟨(hk2 w.heap.size HL1.out HF1.out).1.trans HN1.out, hb2⟩, ?_⟩)
    have HO2 : Hid (OwnB w2 w.heap.size v2 8 z) := Lib.hid ⟨by rw [vals_snoc] at ho2; exact ho2, HZ.out⟩
    have HB2 := Lib.hid hb2
    have HS2 : w2.heap[w.heap.size]? = some (.cells (idC z) 28 (0, 0)) ∧ Below w.heap.size w w2 := ⟨(hk2 w.heap.size HL1.out HF1.out).1.trans HN1.out, hb2⟩
    clear ho2 hb2 hs2 hk2
    simp only [Act.put, List.setIfInBounds_toArray, List.set_cons_zero, List.set_cons_succ]
    refine takeY (i := 7) (some 2) (v := v2) rfl rfl (by kernel_rfl) (by kernel_rfl) (by kernel_rfl) (fun _ _ _ h => h) (by rfl) (fun w' hS => by go_simp) HS2 ?_
    simp only [Act.put, List.setIfInBounds_toArray, List.set_cons_zero, List.set_cons_succ]
    refine wpAnyH_done (by kernel_rfl) ?_ _
    go_wp2_with fail
    go_ret
    exact ⟨_, rfl, HO2.out, HB2.out⟩
  · simp only [Act.put, List.setIfInBounds_toArray, List.set_cons_zero, List.set_cons_succ]
    have HS1 : Hid ((W0.alloc (.cells #[.int .u8 (z 7)] 5)).heap[w.heap.size]? = some (.cells (idC z) 28 (0, 0)) ∧ Below w.heap.size w (W0.alloc (.cells #[.int .u8 (z 7)] 5))) := Lib.hid ⟨(Below.heap_alloc W0 _ _ (by omega)).trans HS0.out.1, HS0.out.2.alloc HS0.out.2.size _⟩
    have HC0 := Lib.hid (cell_one_new W0 (.int .u8 (z 7)) 5)
    have hsz2 : (W0.alloc (.cells #[.int .u8 (z 7)] 5)).heap.size = w.heap.size + 2 := by simp; omega
    have hsB : W0.heap.size < (W0.alloc (.cells #[.int .u8 (z 7)] 5)).heap.size := by omega
    obtain ⟨B, hB⟩ : ∃ B, W0.heap.size = B := ⟨_, rfl⟩
    rw [hB] at HC0 hsB ⊢
    obtain ⟨W1, hW1⟩ : ∃ W1, W0.alloc (.cells #[.int .u8 (z 7)] 5) = W1 := ⟨_, rfl⟩
    rw [hW1] at HS1 HC0 hsz2 hsB ⊢
    clear hW1
    refine takeCE (i := 2) (some 5) 54 #[.agg (ndC z)] (R := fun v w' => OwnB w' W1.heap.size v 7 z ∧ Below W1.heap.size W1 w') rfl rfl (by kernel_rfl) (by rfl) (by go_simp) (refNode_any z _ HZ.out) (fun v w' h => ⟨(h.2.block _ (by omega)).trans HS1.out.1, HS1.out.2.trans (h.2.mono HS1.out.2.size)⟩) (fun v1 w1 h1 hS1 => ?_)
    have hw1 := h1.2.size
    have HO1 := Lib.hid (ownsRow_mono h1.1.1 HS1.out.2.size)
    have HB1 := Lib.hid hS1.2
    have HC1 : Hid (∀ j u, [Value.int .u8 (z 7)][j]? = some u → w1.cell? ((⟨B, 0, none⟩ : Addr).add j) = some u) := Lib.hid (fun j u hj => by have := HC0.out j u hj; rw [add_none] at this ⊢; rw [← this]; exact h1.2.cell hsB)
    have HL1 : Hid (w.heap.size < w1.heap.size) := Lib.hid (by omega)
    have HF1 : Hid (v1.ownBlock ≠ some w.heap.size) := Lib.hid (fun e => by have := (h1.1.1.lt _ e).1; omega)
    have HN1 := Lib.hid hS1.1
    clear h1 hS1
    simp only [Act.put, List.setIfInBounds_toArray, List.set_cons_zero, List.set_cons_succ]
    refine takeA (i := 6) (some 9) (.tmp 5) (.tmp 8) rfl rfl (by kernel_rfl) (by rfl) rfl w v1 7 (vals z 7) rfl HO1.out HB1.out ⟨B, 0, none⟩ 1 1 [.int .u8 (z 7)] rfl rfl HC1.out (u8_one _) (by omega) (fun v2 w2 ho2 hb2 hs2 hk2 => ⟨⟨(hk2 w.heap.size HL1.out HF1.out).1.trans HN1.out, hb2⟩, ?_⟩)
    have HO2 : Hid (OwnB w2 w.heap.size v2 8 z) := Lib.hid ⟨by rw [vals_snoc] at ho2; exact ho2, HZ.out⟩
    have HB2 := Lib.hid hb2
    have HS2 : w2.heap[w.heap.size]? = some (.cells (idC z) 28 (0, 0)) ∧ Below w.heap.size w w2 := ⟨(hk2 w.heap.size HL1.out HF1.out).1.trans HN1.out, hb2⟩
    clear ho2 hb2 hs2 hk2
    simp only [Act.put, List.setIfInBounds_toArray, List.set_cons_zero, List.set_cons_succ]
    refine takeY (i := 7) (some 2) (v := v2) rfl rfl (by kernel_rfl) (by kernel_rfl) (by kernel_rfl) (fun _ _ _ h => h) (by rfl) (fun w' hS => by go_simp) HS2 ?_
    simp only [Act.put, List.setIfInBounds_toArray, List.set_cons_zero, List.set_cons_succ]
    refine wpAnyH_done (by kernel_rfl) ?_ _
    go_wp2_with fail
    go_ret
    exact ⟨_, rfl, HO2.out, HB2.out⟩
end Go.Proofs.Ytkiaijmhoikdiaa

/- The document's Same of two packets: packets that are alike are the same. Each theorem states its conditions. -/
namespace Go.Proofs.Ytkiaijmhoikdiaa
open Go.RowKit
set_option linter.unusedVariables false

end Go.Proofs.Ytkiaijmhoikdiaa

/- The document's Head: how many bytes stand ahead of the TLVs. Each theorem states its conditions. -/
namespace Go.Proofs.Ytkiaijmhoikdiaa
open Go.RowKit
set_option linter.unusedVariables false

theorem refHead_of (k : Int) (n : Nat) (h : (k = 17 ∧ n = 20) ∨ (k = 15 ∧ n = 27) ∨ (k = 16 ∧ n = 27) ∨ (k = 18 ∧ n = 27) ∨ (k = 20 ∧ n = 27) ∨ (k = 24 ∧ n = 33) ∨ (k = 25 ∧ n = 33) ∨ (k = 26 ∧ n = 17) ∨ (k = 27 ∧ n = 17)) (w : World) :
    Calls Try.prog 29 #[.int .u8 k] w fun e w' => e = .returned (.int .i64 (n : Nat)) ∧ w = w' := by
  rcases h with ⟨rfl, rfl⟩ | ⟨rfl, rfl⟩ | ⟨rfl, rfl⟩ | ⟨rfl, rfl⟩ | ⟨rfl, rfl⟩ | ⟨rfl, rfl⟩ | ⟨rfl, rfl⟩ | ⟨rfl, rfl⟩ | ⟨rfl, rfl⟩ <;>
  · go_enter Try.func29, Try.ntmps29
    go_wp2
    go_ret
    exact ⟨rfl, rfl⟩
/-- of a kind that there is -/
theorem refHead_any (k : Int) (q : Nat) (hk : cls k = q) (hq : q ≤ 4) (w : World) : Calls Try.prog 29 #[.int .u8 k] w fun e w' => e = .returned (.int .i64 (hdN q : Nat)) ∧ w = w' := by
  refine refHead_of k (hdN q) ?_ w
  subst hk
  unfold cls at hq ⊢
  by_cases h0 : k = 17
  · rw [if_pos h0]; exact .inl ⟨h0, rfl⟩
  rw [if_neg h0] at hq ⊢
  by_cases h1 : k = 15 ∨ k = 16
  · rw [if_pos h1]; rcases h1 with h | h <;> simp [h, show hdN 1 = 27 from rfl]
  rw [if_neg h1] at hq ⊢
  by_cases h2 : k = 18 ∨ k = 20
  · rw [if_pos h2]; rcases h2 with h | h <;> simp [h, show hdN 2 = 27 from rfl]
  rw [if_neg h2] at hq ⊢
  by_cases h3 : k = 24 ∨ k = 25
  · rw [if_pos h3]; rcases h3 with h | h <;> simp [h, show hdN 3 = 33 from rfl]
  rw [if_neg h3] at hq ⊢
  by_cases h4 : k = 26 ∨ k = 27
  · rw [if_pos h4]; rcases h4 with h | h <;> simp [h, show hdN 4 = 17 from rfl]
  rw [if_neg h4] at hq
  exact absurd hq (by decide)
/-- of no kind -/
theorem refHead_none (k : Int) (hk : cls k = 5) (w : World) : Calls Try.prog 29 #[.int .u8 k] w fun e w' => e = .returned (.int .i64 0) ∧ w = w' := by
  have H : k ≠ 17 ∧ k ≠ 15 ∧ k ≠ 16 ∧ k ≠ 18 ∧ k ≠ 20 ∧ k ≠ 24 ∧ k ≠ 25 ∧ k ≠ 26 ∧ k ≠ 27 := by
    refine ⟨?_, ?_, ?_, ?_, ?_, ?_, ?_, ?_, ?_⟩ <;> rintro rfl <;> exact absurd hk (by decide)
  have h1 : (k == 17) = false := by simp; omega
  have h2 : (k == 15) = false := by simp; omega
  have h3 : (k == 16) = false := by simp; omega
  have h4 : (k == 18) = false := by simp; omega
  have h5 : (k == 20) = false := by simp; omega
  have h6 : (k == 24) = false := by simp; omega
  have h7 : (k == 25) = false := by simp; omega
  have h8 : (k == 26) = false := by simp; omega
  have h9 : (k == 27) = false := by simp; omega
  clear H hk
  go_enter Try.func29, Try.ntmps29
  go_wp2
  go_ret
  exact ⟨rfl, rfl⟩
end Go.Proofs.Ytkiaijmhoikdiaa

/- The document's Join and DocJoin write a list as bytes. Each theorem states its conditions. -/
namespace Go.Proofs.Ytkiaijmhoikdiaa
open Go.RowKit
set_option linter.unusedVariables false

theorem one_new (w : World) (a : Value) (t : TypeId) : ∀ j u, [a][j]? = some u → (w.alloc (.cells #[a] t)).cell? ((⟨w.heap.size, 0, none⟩ : Addr).add j) = some u := by
  intro j u hj
  match j, hj with
  | 0, hj => simp at hj; subst hj; simp [Addr.add]
theorem one_new2 (w : World) (o : Obj) (a : Value) (t : TypeId) : ∀ j u, [a][j]? = some u → ((w.alloc o).alloc (.cells #[a] t)).cell? ((⟨w.heap.size + 1, 0, none⟩ : Addr).add j) = some u := by
  have := one_new (w.alloc o) a t
  rwa [World.size_alloc] at this
theorem int_one (k : IntKind) (a : Int) : ∀ u ∈ [Value.int k a], u.oneCell' = true := by
  intro u hu; simp only [List.mem_cons, List.not_mem_nil, or_false] at hu; subst hu; rfl

theorem far_step {x n : Nat} {v v' : Value} (h : v'.ownBlock = v.ownBlock ∨ v'.ownBlock = some n) (hf : some x ≠ v.ownBlock) (hx : x < n) : some x ≠ v'.ownBlock := by
  rcases h with e | e
  · rw [e]; exact hf
  · rw [e]; intro e'; injection e' with e'; omega

def RefJoinPost (w : World) (L : Nat → It) (m : Nat) (e : Ending) (w' : World) : Prop :=
  ∃ v, e = .returned v ∧ w'.ownsRow w.heap.size 5 1 v (sz L m) (vals (J L m) (sz L m)) ∧ Below w.heap.size w w'

set_option maxHeartbeats 4000000 in
set_option maxRecDepth 100000 in
theorem refjoin_any (A : Option Addr) (m c : Nat) (L : Nat → It) (w : World) (h : RdT w A m L) (hc : m ≤ c) (hcm : c ≤ 9223372036854775807) (hm : ∀ k, k < m → ¬ bad L k) :
    Calls Try.prog 52 #[.slice A m c] w (RefJoinPost w L m) := by
  obtain ⟨i0, hi, hz0, hz1, hz2⟩ := info_parts info_u8
  have HM := Lib.hid hm
  have HR := Lib.hid h
  clear h hm
  go_enter Try.func52, Try.ntmps52
  go_wp2_with fail
  go_loopw [3, 8] (fun v i wr => ∃ k : Nat, k ≤ m ∧ i = .int .i64 k ∧ wr.ownsRow w.heap.size 5 1 v (sz L k) (vals (J L k) (sz L k)) ∧ Below w.heap.size w wr)
    (fun _ i _ => m - (intOf i).toNat)
  case atStart => exact ⟨0, by omega, rfl, World.ownsRow_nil _ _ _ _, bself w⟩
  case round =>
    obtain ⟨k, hk, rfl, hown, hb⟩ := hrel
    by_cases hkm : k < m
    · obtain ⟨b, off, rfl, hr⟩ := (HR.out.below hb).row (by omega)
      obtain ⟨c0, c1, c2⟩ := hr.2 k hkm
      have hRd : Rd w (L k).A (L k).n (L k).z := by
        obtain ⟨b', off', _, hr'⟩ := HR.out.row (by omega)
        exact (hr'.2 k hkm).2.2.2.1
      have hnone := c2.2.2.1
      have hs1 : sz L (k + 1) = sz L k + (2 + (L k).n) := rfl
      have hnb := HM.out k hkm
      unfold bad at hnb
      have q1 : ((L k).n : Int) ≤ 255 := by omega
      have q2 : sz L k + (2 + (L k).n) ≤ 1492 := by omega
      have HRd := Lib.hid hRd
      have HO := Lib.hid hown
      have hJ : vals (J L k) (sz L k) ++ [.int .u8 (L k).ty] ++ [.int .u8 ((L k).n : Int)] ++ vals (L k).z (L k).n = vals (J L (k + 1)) (sz L (k + 1)) := by
        rw [List.append_assoc _ [_] [_], show [Value.int .u8 (L k).ty] ++ [.int .u8 ((L k).n : Int)] = vals (two (L k).ty (L k).n) 2 from (vals_two _ _).symm, vals_cat, vals_cat]
        show vals _ (sz L k + 2 + (L k).n) = vals _ (sz L k + (2 + (L k).n))
        rw [Nat.add_assoc]
        rfl
      have HJ := Lib.hid hJ
      have HSE := Lib.hid hs1
      have hHN1 := Lib.hid (vals_one (L k).z (L k).n)
      have hHNL := Lib.hid (show (vals (L k).z (L k).n).length = (L k).n * 1 by rw [vals_len]; omega)
      have hbs := hb.size
      have hfar : some wr.heap.size ≠ u3.ownBlock := fun e => by have := (hown.lt _ e.symm).2; omega
      clear hr hnb hs1 hRd hown hJ c2
      generalize hty : (L k).ty = ty at *
      generalize hLA : (L k).A = LA at *
      generalize hLn : (L k).n = n at *
      generalize hLc : (L k).c = lc at *
      generalize hsk : sz L k = s at *
      have HNone := Lib.hid hnone
      have m1 : s + 1 ≤ maxLen := by unfold maxLen; omega
      have m2 : s + 1 + 1 ≤ maxLen := by unfold maxLen; omega
      have m3 : s + 1 + 1 + n ≤ maxLen := by unfold maxLen; omega
      clear hty hLA hLn hLc hsk hnone
      rcases LA with _ | ad
      · obtain ⟨rfl, rfl⟩ := HNone.out rfl
        go_wp2_with (first
          | (at_builtin; refine wpList_append_own_at _ rfl (.tmp 12) (.tmp 15) 43 rfl w.heap.size 5 i0 (.int .u8 0) 1 1 Try.underlying43 hi hz0 hz1 hz2 rfl (by decide) u3 s _ rfl ((HO.out.alloc _).alloc _) ⟨wr.heap.size + 1, 0, none⟩ 1 1 [.int .u8 ty] rfl rfl (one_new2 wr _ _ _) (int_one _ _) m1 (by omega) (by simp; omega) ?_; intro v1 w1 hown1 hgrow1 hnil1 hat1; have ct1 : w1.cell? ⟨wr.heap.size, 1, none⟩ = some (.slice none 0 0) := hgrow1.cell (by simp) hfar)
          | (at_builtin; refine wpList_append_own_at _ rfl (.tmp 17) (.tmp 22) 43 rfl w.heap.size 5 i0 (.int .u8 0) 1 1 Try.underlying43 hi hz0 hz1 hz2 rfl (by decide) v1 (s + 1) _ rfl (hown1.alloc _) ⟨w1.heap.size, 0, none⟩ 1 1 [.int .u8 ((0 : Nat) : Int)] rfl rfl (one_new w1 _ _) (int_one _ _) m2 (by omega) (by have := hgrow1.size; simp at this ⊢; omega) ?_; intro v2 w2 hown2 hgrow2 hnil2 hat2; have ct2 : w2.cell? ⟨wr.heap.size, 1, none⟩ = some (.slice none 0 0) := hgrow2.cell (by rw [World.cell?_alloc_lt _ _ _ (cell_lt ct1)]; exact ct1) (far_step hat1 hfar (by simp; omega)))
          | (at_builtin; refine wpList_append_own_none rfl (.tmp 24) (.tmp 26) 43 rfl w.heap.size 5 i0 1 Try.underlying43 hi v2 (s + 1 + 1) _ rfl hown2 rfl ?_))
        have hs1' := hgrow1.size
        have hs2' := hgrow2.size
        simp at hs1' hs2'
        have hB2 := (((((hb.alloc hbs _).alloc (by simp; omega) _).grown hgrow1 (by simp; omega) (fun x e => (HO.out.lt x e).1)).alloc (by omega) _)).grown hgrow2 (by simp; omega) (fun x e => (hown1.lt x e).1)
        have HB2 := Lib.hid hB2
        have hR : w2.ownsRow w.heap.size 5 1 v2 (sz L (k + 1)) (vals (J L (k + 1)) (sz L (k + 1))) := by
          rw [← HJ.out, HSE.out]
          simpa [vals, Nat.add_assoc] using hown2
        have HRR := Lib.hid hR
        clear hR hB2 hown2 hown1 hgrow1 hgrow2 hat1 hat2 hnil1 hnil2 ct1 ct2 c0 c1
        go_roundw
        case rel => exact ⟨k + 1, by omega, by go_num, HRR.out, HB2.out⟩
        case measure => simp only [intOf]; omega
      · have hns := HNone
        go_wp2_with (first
          | (at_builtin; refine wpList_append_own_at _ rfl (.tmp 12) (.tmp 15) 43 rfl w.heap.size 5 i0 (.int .u8 0) 1 1 Try.underlying43 hi hz0 hz1 hz2 rfl (by decide) u3 s _ rfl ((HO.out.alloc _).alloc _) ⟨wr.heap.size + 1, 0, none⟩ 1 1 [.int .u8 ty] rfl rfl (one_new2 wr _ _ _) (int_one _ _) m1 (by omega) (by simp; omega) ?_; intro v1 w1 hown1 hgrow1 hnil1 hat1; have ct1 : w1.cell? ⟨wr.heap.size, 1, none⟩ = some (.slice (some ad) n lc) := hgrow1.cell (by simp) hfar)
          | (at_builtin; refine wpList_append_own_at _ rfl (.tmp 17) (.tmp 22) 43 rfl w.heap.size 5 i0 (.int .u8 0) 1 1 Try.underlying43 hi hz0 hz1 hz2 rfl (by decide) v1 (s + 1) _ rfl (hown1.alloc _) ⟨w1.heap.size, 0, none⟩ 1 1 [.int .u8 (n : Int)] rfl rfl (one_new w1 _ _) (int_one _ _) m2 (by omega) (by have := hgrow1.size; simp at this ⊢; omega) ?_; intro v2 w2 hown2 hgrow2 hnil2 hat2; have ct2 : w2.cell? ⟨wr.heap.size, 1, none⟩ = some (.slice (some ad) n lc) := hgrow2.cell (by rw [World.cell?_alloc_lt _ _ _ (cell_lt ct1)]; exact ct1) (far_step hat1 hfar (by simp; omega)))
          | (at_builtin; refine wpList_append_own_at _ rfl (.tmp 24) (.tmp 26) 43 rfl w.heap.size 5 i0 (.int .u8 0) 1 1 Try.underlying43 hi hz0 hz1 hz2 rfl (by decide) v2 (s + 1 + 1) _ rfl hown2 ad n lc (vals (L k).z n) rfl hHNL.out (rd_news' (HRd.out.below ((((((hb.alloc hbs _).alloc (by simp; omega) _).grown hgrow1 (by simp; omega) (fun x e => (HO.out.lt x e).1)).alloc (by have := hgrow1.size; simp at this; omega) _)).grown hgrow2 (by have := hgrow1.size; simp at this ⊢; omega) (fun x e => (hown1.lt x e).1)) rfl)) hHN1.out m3 (by omega) (by have := hgrow1.size; have h2 := hgrow2.size; simp at this h2; omega) ?_; intro v3 w3 hown3 hgrow3 hnil3 hat3))
        have hs1' := hgrow1.size
        have hs2' := hgrow2.size
        simp at hs1' hs2'
        have hB2 := (((((hb.alloc hbs _).alloc (by simp; omega) _).grown hgrow1 (by simp; omega) (fun x e => (HO.out.lt x e).1)).alloc (by omega) _)).grown hgrow2 (by simp; omega) (fun x e => (hown1.lt x e).1)
        have hs3' := hgrow3.size
        have hB3 := hB2.grown hgrow3 (by omega) (fun x e => (hown2.lt x e).1)
        have HB2 := Lib.hid hB3
        have hR : w3.ownsRow w.heap.size 5 1 v3 (sz L (k + 1)) (vals (J L (k + 1)) (sz L (k + 1))) := by
          rw [← HJ.out, HSE.out, show s + (2 + n) = s + 1 + 1 + n by omega]
          exact hown3
        have HRR := Lib.hid hR
        clear hR hB2 hB3 hown2 hown1 hown3 hgrow1 hgrow2 hgrow3 hat1 hat2 hat3 hnil1 hnil2 hnil3 ct1 ct2 c0 c1
        go_roundw
        case rel => exact ⟨k + 1, by omega, by go_num, HRR.out, HB2.out⟩
        case measure => simp only [intOf]; omega
    · obtain rfl : k = m := by omega
      have ho := Lib.hid hown
      clear hown
      go_wp2
      go_ret
      exact ⟨_, rfl, ho.out, hb⟩

/-- what DocJoin leaves -/
def DocJoinPost (w : World) (L : Nat → It) (m m0 : Nat) (e : Ending) (w' : World) : Prop :=
  (m0 = m ∧ ∃ v, e = .returned (.tuple #[v, .int .i64 0]) ∧ w'.ownsRow w.heap.size 5 1 v (sz L m) (vals (J L m) (sz L m)) ∧ Below w.heap.size w w') ∨
  (m0 < m ∧ e = .returned (.tuple #[.slice none 0 0, .int .i64 2]) ∧ Below w.heap.size w w')

set_option maxHeartbeats 4000000 in
set_option maxRecDepth 100000 in
theorem docjoin_any (A : Option Addr) (m c m0 : Nat) (L : Nat → It) (w : World) (h : RdT w A m L) (hc : m ≤ c) (hcm : c ≤ 9223372036854775807) (hm : JEnds L m m0) :
    Calls Try.prog 28 #[.slice A m c] w (DocJoinPost w L m m0) := by
  obtain ⟨i0, hi, hz0, hz1, hz2⟩ := info_parts info_u8
  have HM := Lib.hid hm
  have HR := Lib.hid h
  have hm0 := hm.1
  clear h hm
  go_enter Try.func28, Try.ntmps28
  go_wp2_with fail
  go_loopw [4, 9] (fun s i wr => ∃ k : Nat, k ≤ m0 ∧ s = .int .i64 (sz L k : Nat) ∧ i = .int .i64 k ∧ Below w.heap.size w wr)
    (fun _ i _ => m - (intOf i).toNat)
  case atStart => exact ⟨0, by omega, rfl, rfl, bself w⟩
  case round =>
    obtain ⟨k, hk, rfl, rfl, hb⟩ := hrel
    by_cases hkm : k < m
    · obtain ⟨b, off, rfl, hr⟩ := (HR.out.below hb).row (by omega)
      obtain ⟨c0, c1, c2⟩ := hr.2 k hkm
      have hn := c2.2.2.2
      have hs : sz L k ≤ 1492 := by
        rcases Nat.eq_zero_or_pos k with h0 | h0
        · subst h0; simp [sz]
        · have := HM.out.2.1 (k - 1) (by omega)
          unfold bad at this
          rw [show k - 1 + 1 = k by omega] at this
          omega
      have hs1 : sz L (k + 1) = sz L k + (2 + (L k).n) := rfl
      have HB2 := Lib.hid c2
      generalize hLn : (L k).n = n at *
      generalize hLs : sz L k = s at *
      by_cases hk0 : k < m0
      · have hnb := HM.out.2.1 k hk0
        unfold bad at hnb
        rw [hs1, hLn] at hnb
        have q1 : (n : Int) ≤ 255 := by omega
        have q2 : (s : Int) + (2 + (n : Int)) ≤ 1492 := by omega
        have HS1 := Lib.hid hs1
        have HLs := Lib.hid hLs
        have HLn := Lib.hid hLn
        clear hnb hs1 hr hLn hLs c2
        go_wp2
        go_roundw
        case rel => exact ⟨k + 1, by omega, by rw [HS1.out]; go_num, by go_num, hb.alloc hb.size _⟩
        case measure => simp only [intOf]; omega
      · obtain rfl : k = m0 := by omega
        have hbad : bad L k := by
          rcases HM.out.2.2 with h | h
          · omega
          · exact h.2
        unfold bad at hbad
        rw [hs1, hLn] at hbad
        have hend : DocJoinPost w L m k (.returned (.tuple #[.slice none 0 0, .int .i64 2])) (wr.alloc (.cells #[.int .u8 (L k).ty, .slice (L k).A n (L k).c] 105)) := .inr ⟨hkm, rfl, hb.alloc hb.size _⟩
        have HE := Lib.hid hend
        have HBA := Lib.hid hbad
        clear hs1 hr hLn hLs c2 hend hbad
        by_cases h1 : 255 < n
        · have q1 : (255 : Int) < (n : Int) := by omega
          go_wp2
          go_ret2
          exact HE.out
        · have q1 : (n : Int) ≤ 255 := by omega
          have q2 : (1492 : Int) < (s : Int) + (2 + (n : Int)) := by have := HBA.out; omega
          go_wp2
          go_ret2
          exact HE.out
    · obtain rfl : k = m := by omega
      obtain rfl : m0 = k := by omega
      have H := Lib.hid (refjoin_any A m0 c L wr (HR.out.below hb) hc hcm HM.out.2.1)
      go_wp2_with fail
      refine (H.out).mono ?_
      rintro e w1 ⟨v, rfl, ho, hb1⟩
      have HO := Lib.hid (show w1.ownsRow w.heap.size 5 1 v (sz L m0) (vals (J L m0) (sz L m0)) from ⟨ho.1, ho.2.elim .inl (fun ⟨g, cap, cur, hv, hg, r⟩ => .inr ⟨g, cap, cur, hv, Nat.le_trans hb.size hg, r⟩)⟩)
      have HB := Lib.hid (hb.trans (hb1.mono hb.size))
      clear ho hb1
      go_wp2
      go_ret2
      exact .inl ⟨rfl, v, rfl, HO.out, HB.out⟩
end Go.Proofs.Ytkiaijmhoikdiaa

/- Bytes that grow by appends while other blocks stay as they are. Each theorem states its conditions. -/
namespace Go.Proofs.Ytkiaijmhoikdiaa
open Go.RowKit
set_option linter.unusedVariables false

/-- blocks that stay as they are -/
def Kp (w : World) (l : List (Nat × Obj)) : Prop := ∀ p ∈ l, w.heap[p.1]? = some p.2
/-- bytes that grow: v is a row of the call's own, apart from the blocks of l -/
def Out (w0 w : World) (v : Value) (n : Nat) (z : Nat → Int) (l : List (Nat × Obj)) : Prop :=
  OwnB w w0.heap.size v n z ∧ Below w0.heap.size w0 w ∧ Kp w l ∧ ∀ p ∈ l, v.ownBlock ≠ some p.1
theorem Kp.nil (w : World) : Kp w [] := fun p h => by cases h
theorem Kp.cons {w : World} {l : List (Nat × Obj)} {g : Nat} {o : Obj} (h : Kp w l) (hg : w.heap[g]? = some o) : Kp w ((g, o) :: l) := by
  intro p hp
  rcases List.mem_cons.1 hp with rfl | hp
  · exact hg
  · exact h p hp
theorem Kp.tail {w : World} {l : List (Nat × Obj)} {q : Nat × Obj} (h : Kp w (q :: l)) : Kp w l := fun p hp => h p (List.mem_cons_of_mem _ hp)
theorem Kp.below {w w' : World} {l : List (Nat × Obj)} (h : Kp w l) (hb : Below w.heap.size w w') : Kp w' l := fun p hp => (hb.block _ (Array.getElem?_eq_some_iff.1 (h p hp)).1).trans (h p hp)
section
variable {w0 w w' : World} {v : Value} {n : Nat} {z : Nat → Int} {l : List (Nat × Obj)}
theorem Out.kp (h : Out w0 w v n z l) : Kp w l := h.2.2.1
theorem Out.le (h : Out w0 w v n z l) : w0.heap.size ≤ w.heap.size := h.2.1.size
theorem Out.tail {q : Nat × Obj} (h : Out w0 w v n z (q :: l)) : Out w0 w v n z l := ⟨h.1, h.2.1, h.2.2.1.tail, fun p hp => h.2.2.2 p (List.mem_cons_of_mem _ hp)⟩
theorem Out.below (h : Out w0 w v n z l) (hb : Below w.heap.size w w') : Out w0 w' v n z l := ⟨h.1.below hb, h.2.1.trans (hb.mono h.le), h.2.2.1.below hb, h.2.2.2⟩
theorem Out.new (h : Out w0 w v n z l) (hb : Below w.heap.size w w') {g : Nat} {o : Obj} (hg : w.heap.size ≤ g) (ho : w'.heap[g]? = some o) : Out w0 w' v n z ((g, o) :: l) := by
  refine ⟨h.1.below hb, h.2.1.trans (hb.mono h.le), (h.2.2.1.below hb).cons ho, fun p hp => ?_⟩
  rcases List.mem_cons.1 hp with rfl | hp
  · intro e
    have := (h.1.1.lt _ e).2
    simp only at this
    omega
  · exact h.2.2.2 p hp
theorem Out.alloc (h : Out w0 w v n z l) (C : Array Value) (t : TypeId) : Out w0 (w.alloc (.cells C t)) v n z ((w.heap.size, .cells C t (0, 0)) :: l) := h.new ((bself w).alloc (Nat.le_refl _) _) (Nat.le_refl _) (heap_alloc_new w _)
end
/-- an append to bytes that grow -/
theorem out_run {o : Oper} {a : Act} {w0 w : World} {v : Value} {n : Nat} {z : Nat → Int} {l : List (Nat × Obj)} (s x : Operand)
    (ho : o.op = .call { callee := .builtin .append, args := #[s, x], argTypes := #[43, 43] })
    (hs : a.eval s = v) (h : Out w0 w v n z l) (A : Option Addr) (m c : Nat) (zx : Nat → Int) (hx : a.eval x = .slice A m c) (hR : Rd w A m zx) (hA : A = none → m = 0 ∧ c = 0) (hn : n + m ≤ 140737488355328) :
    ∃ v' w', (execOp a.eval o).run Try.prog w = .ok (.value v') w' ∧ Out w0 w' v' (n + m) (cat z n zx) l ∧ w.heap.size ≤ w'.heap.size := by
  rcases A with _ | ad
  · obtain ⟨rfl, rfl⟩ := hA rfl
    refine ⟨v, w, ?_, ⟨⟨?_, cat_bd h.1.2 hR.2⟩, h.2⟩, Nat.le_refl _⟩
    · obtain ⟨i0, hi, hz0, hz1, hz2⟩ := info_parts info_u8
      obtain ⟨g, cap, hv⟩ : ∃ A c, v = .slice A n c := by obtain ⟨A, c, h1, _⟩ := h.1.shape; exact ⟨A, c, h1⟩
      have hr := run_append_owned_none (P := Try.prog) (w := w) w0.heap.size 43 o.type 5 i0 1 Try.underlying43 hi v n _ h.1.1
      simp [execOp, ho, resolve, invoke, builtin, hs, hx, hr, Result.andThen]
    · rw [Nat.add_zero, vals_ext (z' := z) (fun j hj => by unfold cat; rw [if_pos hj])]
      exact h.1.1
  · obtain ⟨v', w', h2, h3, h4, h5, h6⟩ := app_run s x ho w0 v n _ hs h.1.1 h.2.1 ad m c (vals zx m) hx (vals_len _ _) (rd_newsB hR) (vals_one _ _) hn
    rw [vals_cat] at h3
    have hb : ∀ p ∈ l, w'.heap[p.1]? = w.heap[p.1]? ∧ v'.ownBlock ≠ some p.1 := fun p hp => h6 p.1 (Array.getElem?_eq_some_iff.1 (h.2.2.1 p hp)).1 (h.2.2.2 p hp)
    exact ⟨v', w', h2, ⟨⟨h3, cat_bd h.1.2 hR.2⟩, h4, fun p hp => (hb p hp).1.trans (h.2.2.1 p hp), fun p hp => (hb p hp).2⟩, h5⟩
section
variable {ops : Array Oper} {Q : Exit → Act → World → Prop} {md : Region.Mode} {S : World → Prop}
/-- an append alone may come up -/
theorem takeOut {i : Nat} {oi : Oper} (d : Option Tmp) {fuel : Nat} {listed : Array Bool} {a : Act} {w0 w : World} {v : Value} {n : Nat} {z : Nat → Int} {l : List (Nat × Obj)} (s x : Operand) (hi : ops[i]? = some oi) (hd : oi.dst = d)
    (hr : Region.ready md ops listed = [i]) (hw : Region.wanted oi (yielded ops a.tmps) = true)
    (ho : oi.op = .call { callee := .builtin .append, args := #[s, x], argTypes := #[43, 43] })
    (hs : a.eval s = v) (h : Out w0 w v n z l) (A : Option Addr) (m c : Nat) (zx : Nat → Int) (hx : a.eval x = .slice A m c) (hR : Rd w A m zx) (hA : A = none → m = 0 ∧ c = 0) (hn : n + m ≤ 140737488355328)
    (k : ∀ v' w', Out w0 w' v' (n + m) (cat z n zx) l → S w' ∧ wpAnyH Try.prog md ops Q S fuel (listed.setIfInBounds i true) (a.put d v') w') :
    wpAnyH Try.prog md ops Q S (fuel + 1) listed a w := by
  obtain ⟨v', w', h2, h3, _⟩ := out_run s x ho hs h A m c zx hx hR hA hn
  obtain ⟨h7, h8⟩ := k v' w' h3
  exact takeV d hi hd hr hw h2 h7 h8
/-- of several that may come up: an append -/
theorem consOut {i : Nat} {oi : Oper} (d : Option Tmp) {rs : List Nat} {fuel : Nat} {listed : Array Bool} {a : Act} {w0 w : World} {v : Value} {n : Nat} {z : Nat → Int} {l : List (Nat × Obj)} (s x : Operand) (hi : ops[i]? = some oi) (hd : oi.dst = d)
    (hw : Region.wanted oi (yielded ops a.tmps) = true)
    (ho : oi.op = .call { callee := .builtin .append, args := #[s, x], argTypes := #[43, 43] })
    (hs : a.eval s = v) (h : Out w0 w v n z l) (A : Option Addr) (m c : Nat) (zx : Nat → Int) (hx : a.eval x = .slice A m c) (hR : Rd w A m zx) (hA : A = none → m = 0 ∧ c = 0) (hn : n + m ≤ 140737488355328)
    (k : ∀ v' w', Out w0 w' v' (n + m) (cat z n zx) l → S w' ∧ wpAnyH Try.prog md ops Q S fuel (listed.setIfInBounds i true) (a.put d v') w') (hs' : AllReadyH Try.prog md ops Q S fuel listed a w rs) :
    AllReadyH Try.prog md ops Q S fuel listed a w (i :: rs) := by
  obtain ⟨v', w', h2, h3, _⟩ := out_run s x ho hs h A m c zx hx hR hA hn
  obtain ⟨h7, h8⟩ := k v' w' h3
  exact consVW d hi hd hw h2 h7 h8 hs'
/-- an append, in the order of the text -/
theorem wpList_out {rest : List Oper} {op : Oper} {a : Act} {w0 w : World} {v : Value} {n : Nat} {z : Nat → Int} {l : List (Nat × Obj)} (hgd : op.guard = none) (s x : Operand)
    (ho : op.op = .call { callee := .builtin .append, args := #[s, x], argTypes := #[43, 43] })
    (hs : a.eval s = v) (h : Out w0 w v n z l) (A : Option Addr) (m c : Nat) (zx : Nat → Int) (hx : a.eval x = .slice A m c) (hR : Rd w A m zx) (hA : A = none → m = 0 ∧ c = 0) (hn : n + m ≤ 140737488355328)
    (k : ∀ v' w', Out w0 w' v' (n + m) (cat z n zx) l → wpList Try.prog ops Q rest (a.put op.dst v') w') : wpList Try.prog ops Q (op :: rest) a w := by
  obtain ⟨v', w', h2, h3, _⟩ := out_run s x ho hs h A m c zx hx hR hA hn
  refine wpList_plain hgd fun K hK => ?_
  unfold Oper.wp
  rw [h2, Oper.upon_value]
  exact hK _ _ (k v' w' h3)
end
/-- bytes that a call made: they can be read as long as their block stays -/
theorem own_has {w : World} {base n : Nat} {v : Value} {z : Nat → Int} (h : OwnB w base v n z) : ∃ A c, ∃ l : List (Nat × Obj), v = .slice A n c ∧ n ≤ c ∧ c ≤ maxLen ∧ (A = none → n = 0 ∧ c = 0) ∧ Kp w l ∧ ∀ w', Kp w' l → Rd w' A n z := by
  rcases h.1.2 with ⟨rfl, rfl⟩ | ⟨g, cap, cur, rfl, hb, hc, h1, h2, h3, h4⟩
  · exact ⟨none, 0, [], rfl, Nat.le_refl _, by decide, fun _ => ⟨rfl, rfl⟩, Kp.nil w, fun w' _ => ⟨.inl rfl, h.2⟩⟩
  · refine ⟨some ⟨g, 0, none⟩, cap, [(g, .cells cur 5 (0, 0))], rfl, h1, h2, fun e => (by cases e), (Kp.nil w).cons hc, fun w' hk => ?_⟩
    obtain ⟨A, c, he, _, _, _, hR⟩ := h.shape
    injection he with e1 e2 e3
    subst e1
    rcases hR.1 with h0 | ⟨b, off, e, hr⟩
    · exact ⟨.inl h0, h.2⟩
    · injection e with e
      injection e with e1 e2
      subst e1 e2
      have hg := hk (g, .cells cur 5 (0, 0)) List.mem_cons_self
      exact ⟨.inr ⟨g, 0, rfl, (Array.getElem?_eq_some_iff.1 hg).1, fun j hj => by rw [← hr.2.1 j hj, cell_of_row w g _ _ _ _ hc, cell_of_row w' g _ _ _ _ hg], h.2⟩, h.2⟩
/-- the same of a row -/
theorem own8_has {w : World} {g n cap : Nat} {z : Nat → Int} (h : Own8 w g n cap z) : ∃ o : Obj, w.heap[g]? = some o ∧ ∀ w' : World, w'.heap[g]? = some o → Own8 w' g n cap z := by
  obtain ⟨⟨cur, hg, h1⟩, h2⟩ := h
  exact ⟨_, hg, fun w' hk => ⟨⟨cur, hk, h1⟩, h2⟩⟩
theorem out_first {w0 w w' : World} {g n c : Nat} {z : Nat → Int} {l : List (Nat × Obj)} (hk : Kp w l) (hb : Below w0.heap.size w0 w) (hb' : Below w.heap.size w w') (ho : Own8 w' g n c z) (hg : w.heap.size ≤ g) : Out w0 w' (.slice (some ⟨g, 0, none⟩) n c) n z l :=
  ⟨ho.ownB (Nat.le_trans hb.size hg), hb.trans (hb'.mono hb.size), hk.below hb', fun p hp e => by
    have := (Array.getElem?_eq_some_iff.1 (hk p hp)).1
    simp [Value.ownBlock] at e
    omega⟩
theorem Kp.head {w : World} {l : List (Nat × Obj)} {q : Nat × Obj} (h : Kp w (q :: l)) : w.heap[q.1]? = some q.2 := h q List.mem_cons_self
theorem rd_one {w : World} {g : Nat} {a : Int} {C : Array Value} (h : w.heap[g]? = some (.cells C 5 (0, 0))) (hC : C = #[.int .u8 a]) (ha : 0 ≤ a ∧ a ≤ 255) : Rd w (some ⟨g, 0, none⟩) 1 (fun _ => a) := by
  subst hC
  refine ⟨.inr ⟨g, 0, rfl, (Array.getElem?_eq_some_iff.1 h).1, fun j hj => ?_, fun _ => ha⟩, fun _ => ha⟩
  rw [cell_of_row w g _ _ _ _ h]
  obtain rfl : j = 0 := by omega
  rfl
theorem rd_two0 {w : World} {g : Nat} (h : w.heap[g]? = some (.cells #[.int .u8 0, .int .u8 0] 5 (0, 0))) : Rd w (some ⟨g, 0, none⟩) 2 (fun _ => 0) := by
  refine ⟨.inr ⟨g, 0, rfl, (Array.getElem?_eq_some_iff.1 h).1, fun j hj => ?_, fun _ => ⟨Int.le_refl 0, (by omega : (0 : Int) ≤ 255)⟩⟩, fun _ => ⟨Int.le_refl 0, (by omega : (0 : Int) ≤ 255)⟩⟩
  rw [cell_of_row w g _ _ _ _ h]
  rcases (by omega : j = 0 ∨ j = 1) with rfl | rfl <;> rfl
/-- a run of cells is read, in the order of the text -/
theorem wpList_ldr {ops : Array Oper} {Q : Exit → Act → World → Prop} {rest : List Oper} {op : Oper} {a : Act} {w : World} (hw : Region.wanted op (yielded ops a.tmps) = true) (ty : TypeId) (x : Operand) (ho : op.op = .load ty x) (b off : Nat) (hx : a.eval x = .pointer (some ⟨b, off, none⟩)) (cs : Array Value) (d : TypeDesc) (hc : w.rangeAt b off cs.toList) (hu : Try.prog.underlying ty = some d) (hd : d.isRow = true) (hi : (Try.prog.info? ty).map (·.size) = some cs.size)
    (h : wpList Try.prog ops Q rest (a.put op.dst (.agg cs)) w) : wpList Try.prog ops Q (op :: rest) a w :=
  wpList_gv (.agg cs) hw (by have := load_rng op a.eval ty x ho b off hx cs.toList d hc hu hd (by simpa using hi); simpa using this) h
end Go.Proofs.Ytkiaijmhoikdiaa
