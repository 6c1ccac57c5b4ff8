/- The law's example answers true. Each theorem states its conditions. -/
import Derived.Test.YteamnibgeobcbaaJMore
namespace Go.Proofs.Yteamnibgeobcbaa
open Go.RowKit
set_option linter.unusedVariables false

theorem OwnR.slice {w : World} {base m : Nat} {v : Value} {C : Nat → Array Value} (h : OwnR w base 28 8 v m C) (hC : Recs 8 C) : ∃ A c, v = .slice A m c ∧ m ≤ c ∧ c ≤ maxLen ∧ (A = none → m = 0 ∧ c = 0) ∧ RdR w A m 8 C := ownR_shape hC (by decide) h
theorem lst_none {w : World} {base k : Nat} {S : Nat → Bool} {v : Value} {T : List IdT} (h : LstAt w base S k v T) (hS : ∀ x, S x = false) : T.length = 0 := by
  rcases T with _ | ⟨x, r⟩
  · rfl
  · have := (h.2.2.1 x).1 (by simp)
    rw [hS] at this; cases this
theorem lst_one {w : World} {base k : Nat} {S : Nat → Bool} {v : Value} {T : List IdT} (h : LstAt w base S k v T) (a : Nat) (ha : IdOk a) (hS : ∀ x, S x = (x == a)) : T.length = 1 := by
  have h1 : (⟨a, ha⟩ : IdT) ∈ T := (h.2.2.1 _).2 (by rw [hS]; simp)
  have h2 : ∀ x ∈ T, x.1 = a := fun x hx => by have := (h.2.2.1 x).1 hx; rw [hS] at this; simpa using this
  rcases T with _ | ⟨x, _ | ⟨y, r⟩⟩
  · simp at h1
  · rfl
  · have h3 := h.2.1
    rw [List.pairwise_cons] at h3
    have h4 := h3.1 y (by simp)
    have h5 := h2 x (by simp)
    have h6 := h2 y (by simp)
    omega
set_option maxHeartbeats 40000000 in
set_option maxRecDepth 100000 in
theorem awake_any (w : World) : Calls Try.prog 7 #[] w fun e w' => e = .returned (.bool true) ∧ Below w.heap.size w w' := by
  go_enter Try.func7, Try.ntmps7
  go_wp2_with fail
  refine (new_any w 3 (by decide) (by decide)).mono ?_
  rintro e w1 ⟨g, ga, rfl, hf, hb⟩
  have HF := Lib.hid hf
  have HB := Lib.hid hb
  clear hf hb
  go_wp2_with fail
  refine (open_at w1 HF.out 0 (by decide) (by rfl) 5 (by decide) none 0 0 (fun _ => 0) (.inl rfl) (fun j hj => by omega) (by decide) (by decide)).mono ?_
  rintro e w2 ⟨a0, b0, c0, rfl, hf, hb, ht⟩
  have HFn := Lib.hid hf
  have HBn := Lib.hid (HB.out.trans hb)
  clear HF HB hf hb ht
  have HF := HFn
  have HB := HBn
  clear HFn HBn
  go_wp2_with fail
  refine (open_at w2 HF.out 1 (by decide) (by rfl) 5 (by decide) none 0 0 (fun _ => 0) (.inl rfl) (fun j hj => by omega) (by decide) (by decide)).mono ?_
  rintro e w3 ⟨a1, b1, c1, rfl, hf, hb, ht⟩
  have HFn := Lib.hid hf
  have HBn := Lib.hid (HB.out.trans hb)
  clear HF HB hf hb ht
  have HF := HFn
  have HB := HBn
  clear HFn HBn
  go_wp2_with fail
  refine (open_at w3 HF.out 2 (by decide) (by rfl) 0 (by decide) none 0 0 (fun _ => 0) (.inl rfl) (fun j hj => by omega) (by decide) (by decide)).mono ?_
  rintro e w4 ⟨a2, b2, c2, rfl, hf, hb, ht⟩
  have HFn := Lib.hid hf
  have HBn := Lib.hid (HB.out.trans hb)
  clear HF HB hf hb ht
  have HF := HFn
  have HB := HBn
  clear HFn HBn
  go_wp2_with fail
  refine (took_new w4 HF.out 0 (by decide) (cirN 5 a0 b0 c0 (memL (fun _ => 0) 0)) (by rfl) 1 (by unfold IdOk; decide)).mono ?_
  rintro e w5 ⟨rfl, hf, hb, ht⟩
  have HFn := Lib.hid hf
  have HBn := Lib.hid (HB.out.trans hb)
  clear HF HB hf hb ht
  have HF := HFn
  have HB := HBn
  clear HFn HBn
  go_wp2_with fail
  refine (sends_at w5 HF.out 1 (by decide) (cDrS (cDrM (cirN 5 a1 b1 c1 (memL (fun _ => 0) 0)) 1) 1) (by rfl) (by decide)).mono ?_
  rintro e w6 ⟨v0, T0, rfl, hl, hf, hb, ht⟩
  have hl0 := lst_none hl (fun x => by simp [cDrS, cDrM, cirN, memL])
  obtain ⟨A0, q0, rfl, _⟩ := hl.1.slice (recs_idt _)
  rw [hl0]
  have HFn := Lib.hid hf
  have HBn := Lib.hid (HB.out.trans hb)
  clear HF HB hf hb ht hl hl0
  have HF := HFn
  have HB := HBn
  clear HFn HBn
  go_wp2_with fail
  refine (sends_at w6 HF.out 2 (by decide) (cAdS (cDrM (cirN 0 a2 b2 c2 (memL (fun _ => 0) 0)) 1) 1) (by rfl) (by decide)).mono ?_
  rintro e w7 ⟨v1, T1, rfl, hl, hf, hb, ht⟩
  have hl1 := lst_one hl 1 (by unfold IdOk; decide) (fun x => by simp [cAdS, cDrM, cirN, memL])
  obtain ⟨A1, q1, rfl, _⟩ := hl.1.slice (recs_idt _)
  rw [hl1]
  have HFn := Lib.hid hf
  have HBn := Lib.hid (HB.out.trans hb)
  clear HF HB hf hb ht hl hl1
  have HF := HFn
  have HB := HBn
  clear HFn HBn
  go_wp2_with fail
  refine (sums_at w7 HF.out 0 (by decide) (cAdM (cDrS (cirN 5 a0 b0 c0 (memL (fun _ => 0) 0)) 1) 1) (by rfl) (by decide)).mono ?_
  rintro e w8 ⟨v2, T2, rfl, hl, hf, hb, ht⟩
  have hl2 := lst_one hl 1 (by unfold IdOk; decide) (fun x => by simp [cAdM, cDrS, cirN])
  obtain ⟨A2, q2, rfl, _⟩ := hl.1.slice (recs_idt _)
  rw [hl2]
  have HFn := Lib.hid hf
  have HBn := Lib.hid (HB.out.trans hb)
  clear HF HB hf hb ht hl hl2
  have HF := HFn
  have HB := HBn
  clear HFn HBn
  go_wp2_with fail
  go_ret
  exact ⟨rfl, HB.out⟩
end Go.Proofs.Yteamnibgeobcbaa
