/- spare: a list of IDs with another one behind; SameIDs of two lists alike. Each theorem states its conditions. -/
import Derived.Test.YteamnibgeobcbaaJMore
namespace Go.Proofs.Yteamnibgeobcbaa
open Go.RowKit
set_option linter.unusedVariables false

theorem bs_none (W : World) (o : Oper) (e : Operand → Value) (ho : o.op = .buildSlice 35 0 #[]) :
    (execOp e o).run Try.prog W = .ok (.value (.slice (some ⟨W.heap.size, 0, none⟩) 0 0)) (W.alloc (.cells #[] 28)) := by
  unfold execOp
  simp only [ho]
  kernel_rfl
theorem own_none {w : World} {N base : Nat} (C : Nat → Array Value) (h : Blk 28 w N #[]) (hb : base ≤ N) : OwnR w base 28 8 (.slice (some ⟨N, 0, none⟩) 0 0) 0 C :=
  ⟨by simp [cellsR], .inr ⟨N, 0, #[], rfl, hb, h, Nat.le_refl _, Nat.zero_le _, rfl, rfl⟩⟩
theorem OwnR.congr {w : World} {base s m : Nat} {e : TypeId} {v : Value} {C C' : Nat → Array Value} (h : OwnR w base e s v m C) (hc : ∀ j, j < m → C j = C' j) : OwnR w base e s v m C' := by
  unfold OwnR at *; rw [← cellsR_congr m hc]; exact h
/-- the list, and the marked one behind it -/
def spL (L : Nat → Nat) (m : Nat) : Nat → Array Value := fun j => if j < m then idC (L j) else idC 77
theorem recs_sp (L : Nat → Nat) (m : Nat) : Recs 8 (spL L m) := fun j => by unfold spL; split <;> exact ⟨rfl, idC_ones _⟩
def SpP (L : Nat → Nat) (m : Nat) (w : World) (e : Ending) (w' : World) : Prop := ∃ v, e = .returned v ∧ OwnR w' w.heap.size 28 8 v (m + 1) (spL L m) ∧ Below w.heap.size w w'
theorem bs77 (W : World) (o : Oper) (e : Operand → Value) {x : Operand} (ho : o.op = .buildSlice 35 1 #[(0, x)]) (h : e x = .agg (idC 77)) :
    (execOp e o).run Try.prog W = .ok (.value (.slice (some ⟨W.heap.size, 0, none⟩) 1 1)) (W.alloc (.cells (idC 77) 28)) := bs_id W o e ho 77 h
set_option maxHeartbeats 8000000 in
set_option maxRecDepth 100000 in
theorem spare_any (A : Option Addr) (m c : Nat) (L : Nat → Nat) (w : World) (hR : RdR w A m 8 (idA L)) (hA : A = none → m = 0 ∧ c = 0) (hm : m * 8 ≤ 140737488351232) :
    Calls Try.prog 15 #[.slice A m c] w (SpP L m w) := by
  have HR := Lib.hid hR
  clear hR
  have hml : maxLen = 9223372036854775807 := rfl
  have HML := Lib.hid hml
  clear hml
  have HB0 := Lib.hid (Below.refl w.heap.size w)
  go_enter Try.func15, Try.ntmps15
  obtain ⟨N1, hN1⟩ : ∃ N, w.heap.size = N := ⟨_, rfl⟩
  have HN1 := Lib.hid hN1
  go_wp2_with (refine wpList_v (op := ⟨some 3, _, _, _, _, _⟩) rfl _ (bs_none w _ _ rfl) ?_; refine Hid.out ?_)
  refine Lib.hid ?_
  have k1 : Blk 28 (w.alloc (.cells #[] 28)) N1 #[] := by rw [← hN1]; exact heap_alloc_new w _
  have b1 : Below w.heap.size w (w.alloc (.cells #[] 28)) := (Below.refl _ _).alloc (Nat.le_refl _) _
  obtain ⟨w1, hw1⟩ : ∃ W, w.alloc (.cells #[] 28) = W := ⟨_, rfl⟩
  rw [hw1] at k1 b1 ⊢
  (try rw [hN1])
  have HO := Lib.hid (own_none (base := w.heap.size) (fun _ => idC 0) k1 (by omega))
  have HB := Lib.hid b1
  clear k1 b1 hw1 HB0
  rcases A with _ | ad
  · obtain ⟨rfl, rfl⟩ := hA rfl
    obtain ⟨i0, hi0, hz0, hz1, hz2⟩ := info_parts infoA_id
    go_wp2_with (refine wpList_append_own_none (o := ⟨some 5, _, _, _, _, _⟩) rfl (.tmp 3) (.tmp 4) 35 rfl w.heap.size 28 i0 8 Try.underlying35 hi0 _ 0 _ rfl HO.out rfl ?_; refine Hid.out ?_)
    refine Lib.hid ?_
    go_wp2_with (refine wpList_v (op := ⟨some 7, _, _, _, _, _⟩) rfl _ (bs77 w1 _ _ rfl rfl) ?_; refine Hid.out ?_)
    refine Lib.hid ?_
    have k2 : RdR (w1.alloc (.cells (idC 77) 28)) (some ⟨w1.heap.size, 0, none⟩) 1 8 (fun _ => idC 77) := rdR_blk (heap_alloc_new w1 _)
    have b2 : Below w1.heap.size w1 (w1.alloc (.cells (idC 77) 28)) := (Below.refl _ _).alloc (Nat.le_refl _) _
    have HO2 := Lib.hid (HO.out.below b2)
    have HB2 := Lib.hid (HB.out.trans (b2.mono HB.out.size))
    have HR2 := Lib.hid k2
    clear k2 b2
    go_wp2_with (refine app_X (o := ⟨some 8, _, _, _, _, _⟩) 35 28 8 8 (.agg (idC 0)) Try.underlying35 infoA_id rfl (by decide) rfl (.tmp 5) (.tmp 7) rfl w _ 0 _ rfl HO2.out HB2.out ⟨w1.heap.size, 0, none⟩ 1 1 (fun _ => idC 77) rfl HR2.out (fun _ => ⟨rfl, idC_ones _⟩) (by have := HML.out; omega) (by omega) ?_; intro v2 w3 p1 p2 p3 p4; refine Hid.out ?_)
    refine Lib.hid ?_
    have HP := Lib.hid p1
    have HQ := Lib.hid p2
    clear p1 p2 p3 p4
    go_wp2_with fail
    go_ret
    exact ⟨v2, rfl, HP.out.congr (fun j hj => by obtain rfl : j = 0 := by omega
                                                 rfl), HQ.out⟩
  · go_wp2_with (refine app_X (o := ⟨some 5, _, _, _, _, _⟩) 35 28 8 8 (.agg (idC 0)) Try.underlying35 infoA_id rfl (by decide) rfl (.tmp 3) (.tmp 4) rfl w _ 0 _ rfl HO.out HB.out ad m c (idA L) rfl (HR.out.below HB.out rfl) (recs_id L) (by have := HML.out; omega) (by omega) ?_; intro v2 w2 p1 p2 p3 p4; refine Hid.out ?_)
    refine Lib.hid ?_
    have HP := Lib.hid p1
    have HQ := Lib.hid p2
    clear p1 p2 p3 p4
    go_wp2_with (refine wpList_v (op := ⟨some 7, _, _, _, _, _⟩) rfl _ (bs77 w2 _ _ rfl rfl) ?_; refine Hid.out ?_)
    refine Lib.hid ?_
    have k2 : RdR (w2.alloc (.cells (idC 77) 28)) (some ⟨w2.heap.size, 0, none⟩) 1 8 (fun _ => idC 77) := rdR_blk (heap_alloc_new w2 _)
    have b2 : Below w2.heap.size w2 (w2.alloc (.cells (idC 77) 28)) := (Below.refl _ _).alloc (Nat.le_refl _) _
    have HO2 := Lib.hid (HP.out.below b2)
    have HB2 := Lib.hid (HQ.out.trans (b2.mono HQ.out.size))
    have HR2 := Lib.hid k2
    clear k2 b2
    go_wp2_with (refine app_X (o := ⟨some 8, _, _, _, _, _⟩) 35 28 8 8 (.agg (idC 0)) Try.underlying35 infoA_id rfl (by decide) rfl (.tmp 5) (.tmp 7) rfl w _ (0 + m) _ rfl HO2.out HB2.out ⟨w2.heap.size, 0, none⟩ 1 1 (fun _ => idC 77) rfl HR2.out (fun _ => ⟨rfl, idC_ones _⟩) (by have := HML.out; omega) (by omega) ?_; intro v3 w3 p1 p2 p3 p4; refine Hid.out ?_)
    refine Lib.hid ?_
    have HP3 := Lib.hid p1
    have HQ3 := Lib.hid p2
    clear p1 p2 p3 p4
    go_wp2_with fail
    go_ret
    have hz := HP3.out
    rw [Nat.zero_add] at hz
    refine ⟨v3, rfl, hz.congr (fun j hj => ?_), HQ3.out⟩
    by_cases h : j < m
    · rw [catR_lo _ _ _ _ h]
      unfold spL
      rw [if_pos h]
      unfold catR
      rw [if_neg (by omega)]
      rfl
    · obtain rfl : j = m := by omega
      unfold spL catR
      rw [if_neg (by omega), if_neg (by omega)]
end Go.Proofs.Yteamnibgeobcbaa
