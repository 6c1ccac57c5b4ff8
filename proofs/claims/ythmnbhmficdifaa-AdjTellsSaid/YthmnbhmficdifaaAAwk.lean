/- The example of adj; Step as the laws call it; an adjacency is equal to itself. Each theorem states its conditions. -/
import Derived.Test.YthmnbhmficdifaaAStep
import Derived.Test.YthmnbhmficdifaaALoc
import Derived.Test.YthmnbhmficdifaaAOpen
namespace Go.Proofs.Ythmnbhmficdifaa
open Go.RowKit
set_option linter.unusedVariables false

theorem self_sys (d : Nat) (z : Nat → Int) (hz : byB z) : SelfEq (d + 2) 23 (.agg (syC z)) := self_bytes d 6 _ z hz Try.underlying23
theorem self_ajP (a : Aj) (ha : byB a.p) : SelfEq 10000 36 (.agg (ajC a)) := by
  refine self_struct 9999 _ _ [(3, 0), (23, 1), (5, 7), (3, 8), (2, 9)] (by kernel_rfl) (by kernel_rfl) (by kernel_rfl) (fun p hp => ?_)
  simp only [List.mem_cons, List.not_mem_nil, or_false] at hp
  rcases hp with rfl | rfl | rfl | rfl | rfl
  · exact ⟨.int .i64 a.st, fun w => by kernel_rfl, self_int 9998 _ .i64 _ Try.underlying3⟩
  · exact ⟨.agg (syC a.p), fun w => by kernel_rfl, self_sys 9997 a.p ha⟩
  · exact ⟨.int .u8 a.nu, fun w => by kernel_rfl, self_int 9998 _ .u8 _ Try.underlying5⟩
  · exact ⟨.int .i64 a.lv, fun w => by kernel_rfl, self_int 9998 _ .i64 _ Try.underlying3⟩
  · exact ⟨.int .i64 a.un, fun w => by kernel_rfl, self_int 9998 _ .i64 _ Try.underlying2⟩
theorem guard_ajP : Try.prog.eqGuardType Try.prog.depth 36 = false := by kernel_rfl
theorem self_ajR (a : Aj) (ha : byB a.p) : SelfEq 10000 28 (.agg (ajC a)) := by
  refine self_struct 9999 _ _ [(3, 0), (23, 1), (5, 7), (3, 8), (2, 9)] (by kernel_rfl) (by kernel_rfl) (by kernel_rfl) (fun p hp => ?_)
  simp only [List.mem_cons, List.not_mem_nil, or_false] at hp
  rcases hp with rfl | rfl | rfl | rfl | rfl
  · exact ⟨.int .i64 a.st, fun w => by kernel_rfl, self_int 9998 _ .i64 _ Try.underlying3⟩
  · exact ⟨.agg (syC a.p), fun w => by kernel_rfl, self_sys 9997 a.p ha⟩
  · exact ⟨.int .u8 a.nu, fun w => by kernel_rfl, self_int 9998 _ .u8 _ Try.underlying5⟩
  · exact ⟨.int .i64 a.lv, fun w => by kernel_rfl, self_int 9998 _ .i64 _ Try.underlying3⟩
  · exact ⟨.int .i64 a.un, fun w => by kernel_rfl, self_int 9998 _ .i64 _ Try.underlying2⟩
theorem guard_ajR : Try.prog.eqGuardType Try.prog.depth 28 = false := by kernel_rfl
theorem stepR_by {l : Lo} {a : Aj} {h : He} {now : Int} {s : Bool} (ha : byB a.p) (hh : byB h.s) : byB (stepR l a h now s).1.p := by
  have h0 : byB z0 := fun _ => ⟨Int.le_refl 0, (by decide : (0 : Int) ≤ 255)⟩
  unfold stepR
  split
  · exact ha
  · split
    · exact h0
    · split
      · exact ha
      · split
        · exact h0
        · exact hh
/-- a side of the law's own -/
def LocV (w : World) (l : Lo) (L : Nat → Sl) (v : Value) (w' : World) : Prop :=
  ∃ A c L', v = .agg (loC ⟨l.s, l.nu, l.lv, A, l.m, c⟩) ∧ RdS w' A l.m L' ∧ (∀ j, j < l.m → sameS (L j) (L' j)) ∧ Below w.heap.size w w'
def HelV (w : World) (l : He) (L : Nat → Sl) (v : Value) (w' : World) : Prop :=
  ∃ A c L', v = .agg (heC ⟨l.s, l.nu, l.lv, l.ho, A, l.m, c, l.st, l.nm, l.th, l.tn⟩) ∧ RdS w' A l.m L' ∧ (∀ j, j < l.m → sameS (L j) (L' j)) ∧ Below w.heap.size w w'
theorem local_v (l : Lo) (L : Nat → Sl) (w : World) (h : RdS w l.A l.m L) (hm : l.m * 24 ≤ 140737488351232) :
    Calls Try.prog 11 #[.agg (loC l)] w fun e w' => ∃ v, e = .returned v ∧ LocV w l L v w' :=
  (local_any l L w h hm).mono fun e w' ⟨A, c, L', h1, h2, _, h3, h4, h5, h6, h7⟩ => ⟨_, h1, A, c, L', rfl, h2, h6, h7⟩
theorem hello_v (l : He) (L : Nat → Sl) (w : World) (h : RdS w l.A l.m L) (hm : l.m * 24 ≤ 140737488351232) :
    Calls Try.prog 12 #[.agg (heC l)] w fun e w' => ∃ v, e = .returned v ∧ HelV w l L v w' :=
  (hello_any l L w h hm).mono fun e w' ⟨A, c, L', h1, h2, _, h3, h4, h5, h6, h7⟩ => ⟨_, h1, A, c, L', rfl, h2, h6, h7⟩
/-- a side of the law's own, in memory of its own -/
def LocO (w : World) (l : Lo) (L : Nat → Sl) (v : Value) (w' : World) : Prop :=
  ∃ A c L', v = .agg (loC ⟨l.s, l.nu, l.lv, A, l.m, c⟩) ∧ OwnS w' w.heap.size (.slice A l.m c) l.m L' ∧ (∀ j, j < l.m → sameS (L j) (L' j)) ∧ Below w.heap.size w w'
def HelO (w : World) (l : He) (L : Nat → Sl) (v : Value) (w' : World) : Prop :=
  ∃ A c L', v = .agg (heC ⟨l.s, l.nu, l.lv, l.ho, A, l.m, c, l.st, l.nm, l.th, l.tn⟩) ∧ OwnS w' w.heap.size (.slice A l.m c) l.m L' ∧ (∀ j, j < l.m → sameS (L j) (L' j)) ∧ Below w.heap.size w w'
theorem local_o (l : Lo) (L : Nat → Sl) (w : World) (h : RdS w l.A l.m L) (hm : l.m * 24 ≤ 140737488351232) :
    Calls Try.prog 11 #[.agg (loC l)] w fun e w' => ∃ v, e = .returned v ∧ LocO w l L v w' :=
  (local_any l L w h hm).mono fun e w' ⟨A, c, L', h1, _, h2, _, _, _, h6, h7⟩ => ⟨_, h1, A, c, L', rfl, h2, h6, h7⟩
theorem hello_o (l : He) (L : Nat → Sl) (w : World) (h : RdS w l.A l.m L) (hm : l.m * 24 ≤ 140737488351232) :
    Calls Try.prog 12 #[.agg (heC l)] w fun e w' => ∃ v, e = .returned v ∧ HelO w l L v w' :=
  (hello_any l L w h hm).mono fun e w' ⟨A, c, L', h1, _, h2, _, _, _, h6, h7⟩ => ⟨_, h1, A, c, L', rfl, h2, h6, h7⟩
theorem own_rd {w : World} {base : Nat} {A : Option Addr} {m c : Nat} {L : Nat → Sl} (h : OwnS w base (.slice A m c) m L) : RdS w A m L := by
  obtain ⟨A3, c3, e3, _, _, _, hrd⟩ := h.shape
  obtain ⟨rfl, rfl⟩ : A = A3 ∧ c = c3 := by injection e3 with a b d; exact ⟨a, d⟩
  exact hrd
theorem step_law (l : Lo) (a : Aj) (h : He) (now : Int) (L H L' H' : Nat → Sl) (A A2 : Option Addr) (c c2 : Nat) (w : World) (hl : byB l.s) (hp : byB a.p) (hh : byB h.s) (ht : byB h.th) (hL : RdS w A l.m L') (hH : RdS w A2 h.m H') (hlm : l.m ≤ 9223372036854775807) (hhm : h.m ≤ 9223372036854775807)
    (hLL : ∀ j, j < l.m → sameS (L j) (L' j)) (hHH : ∀ j, j < h.m → sameS (H j) (H' j)) (R : Aj × Int) (hR : stepR l a h now (shB L l.m H h.m) = R) :
    Calls Try.prog 13 #[.agg (loC ⟨l.s, l.nu, l.lv, A, l.m, c⟩), .agg (ajC a), .agg (heC ⟨h.s, h.nu, h.lv, h.ho, A2, h.m, c2, h.st, h.nm, h.th, h.tn⟩), .int .i64 now] w fun e w' => e = .returned (.tuple #[.agg (ajC R.1), .int .i64 R.2]) ∧ Below w.heap.size w w' := by
  subst hR
  have := step_any ⟨l.s, l.nu, l.lv, A, l.m, c⟩ a ⟨h.s, h.nu, h.lv, h.ho, A2, h.m, c2, h.st, h.nm, h.th, h.tn⟩ now L' H' w hl hp hh ht hL hH hlm hhm
  rw [shB_alike hLL hHH]
  exact this
theorem by_z0 : byB z0 := fun _ => ⟨Int.le_refl 0, (by decide : (0 : Int) ≤ 255)⟩
/-- an operation that yields v and leaves the world -/
theorem wpList_c {ops : Array Oper} {Q : Exit → Act → World → Prop} {rest : List Oper} {op : Oper} {a : Act} {w : World} (v : Value) (hw : Region.wanted op (yielded ops a.tmps) = true) (hx : ∀ W, (execOp a.eval op).run Try.prog W = .ok (.value v) W) (h : wpList Try.prog ops Q rest (a.put op.dst v) w) : wpList Try.prog ops Q (op :: rest) a w :=
  wpList_gv v hw (hx w) h
def zA (x : Int) : Nat → Int := fun j => match j with | 0 => x | _ => 0
theorem zA_by (x : Int) (h : 0 ≤ x ∧ x ≤ 255) : byB (zA x) := fun j => by unfold zA; split <;> omega
def loW : Lo := ⟨zA 1, 0, 2, none, 0, 0⟩
def heW : He := ⟨zA 2, 0, 2, 10, none, 0, 0, 2, false, z0, 0⟩
def ajW : Aj := ⟨1, zA 2, 0, 2, 15⟩
theorem step_wake (s : Bool) : stepR loW ajD heW 5 s = (ajW, 0) := by cases s <;> rfl
set_option maxHeartbeats 8000000 in
set_option maxRecDepth 100000 in
theorem awake_any (w : World) : Calls Try.prog 10 #[] w fun e w' => e = .returned (.bool true) ∧ Below w.heap.size w w' := by
  have HS := Lib.hid (fun (w : World) => step_any loW ajD heW 5 (fun _ => ⟨none, 0, 0, z0⟩) (fun _ => ⟨none, 0, 0, z0⟩) w (zA_by 1 (by omega)) by_z0 (zA_by 2 (by omega)) by_z0 (.inl rfl) (.inl rfl) (by decide) (by decide))
  rw [step_wake] at HS
  have HSE := Lib.hid (self_ajP ajW (zA_by 2 (by omega)))
  go_enter Try.func10, Try.ntmps10
  have HB := Lib.hid (Below.refl w.heap.size w)
  go_wp2_with (refine wpList_c (op := ⟨some 4, _, _, _, _, _⟩) (.agg (syC (zA 1))) (by rfl) (fun W => by kernel_rfl) ?_; refine Hid.out ?_)
  refine Lib.hid ?_
  go_wp2_with (refine wpList_c (op := ⟨some 5, _, _, _, _, _⟩) (.agg (loC loW)) (by rfl) (fun W => by kernel_rfl) ?_; refine Hid.out ?_)
  refine Lib.hid ?_
  obtain ⟨N1, hN1⟩ : ∃ N, w.heap.size = N := ⟨_, rfl⟩
  have HN1 := Lib.hid hN1
  clear hN1
  go_wp2_with (refine wpList_new (op := ⟨some 1, _, _, _, _, _⟩) rfl 32 rfl (loC lo0) zero_loP N1 HN1.out ?_; intro w1 k1 b1 s1; refine Hid.out ?_)
  refine Lib.hid ?_
  have K1 := Lib.hid k1
  clear k1
  have le_HB_N1 : w.heap.size ≤ N1 := by rw [← HN1.out]; exact HB.out.size
  have HBn := Lib.hid (HB.out.trans (b1.mono HB.out.size))
  clear HB
  have HB := HBn
  clear HBn
  clear b1 HN1
  go_wp2_with (refine wpList_st rfl 32 (.tmp 1) (.tmp 5) rfl N1 0 rfl (.agg (loC loW)) (loC loW) rfl rfl info_loP (loC_one _) K1.out (Nat.le_of_ble_eq_true rfl) (C' := loC loW) (by kernel_rfl) ?_; intro w2 q1; refine Hid.out ?_)
  refine Lib.hid ?_
  have HBn := Lib.hid (HB.out.trans (q1.2.1 _ (by omega)))
  clear HB
  have HB := HBn
  clear HBn
  have K1n : Hid (Blk 32 w2 N1 (loC loW)) := Lib.hid q1.1
  clear K1
  have K1 := K1n
  clear K1n q1
  go_wp2_with (refine wpList_ld (op := ⟨some 7, _, _, _, _, _⟩) (by rfl) 32 (.tmp 1) rfl N1 0 rfl (loC loW) _ K1.out.all Try.underlying32 rfl info_loP ?_; refine Hid.out ?_)
  refine Lib.hid ?_
  go_wp2_with (refine wpList_c (op := ⟨some 8, _, _, _, _, _⟩) (.agg (ajC ajD)) (by rfl) (fun W => by kernel_rfl) ?_; refine Hid.out ?_)
  refine Lib.hid ?_
  go_wp2_with (refine wpList_c (op := ⟨some 9, _, _, _, _, _⟩) (.agg (syC (zA 2))) (by rfl) (fun W => by kernel_rfl) ?_; refine Hid.out ?_)
  refine Lib.hid ?_
  go_wp2_with (refine wpList_c (op := ⟨some 10, _, _, _, _, _⟩) (.agg (heC heW)) (by rfl) (fun W => by kernel_rfl) ?_; refine Hid.out ?_)
  refine Lib.hid ?_
  go_wp2_with fail
  refine (HS.out _).mono ?_
  rintro e w3 ⟨rfl, b1⟩
  have K1n := Lib.hid (K1.out.below b1 K1.out.lt)
  clear K1
  have K1 := K1n
  clear K1n
  have HBn := Lib.hid (HB.out.trans (b1.mono HB.out.size))
  clear HB
  have HB := HBn
  clear HBn
  clear b1
  obtain ⟨N4, hN4⟩ : ∃ N, w3.heap.size = N := ⟨_, rfl⟩
  have HN4 := Lib.hid hN4
  clear hN4
  go_wp2_with (refine wpList_new (op := ⟨some 2, _, _, _, _, _⟩) rfl 36 rfl (ajC aj0) zero_ajP N4 HN4.out ?_; intro w4 k1 b1 s1; refine Hid.out ?_)
  refine Lib.hid ?_
  have K2 := Lib.hid k1
  clear k1
  have lt_N1_N4 : N1 < N4 := by rw [← HN4.out]; exact K1.out.lt
  have le_HB_N4 : w.heap.size ≤ N4 := by rw [← HN4.out]; exact HB.out.size
  have K1n := Lib.hid (K1.out.below b1 K1.out.lt)
  clear K1
  have K1 := K1n
  clear K1n
  have HBn := Lib.hid (HB.out.trans (b1.mono HB.out.size))
  clear HB
  have HB := HBn
  clear HBn
  clear b1 HN4
  go_wp2_with (refine wpList_st rfl 36 (.tmp 2) (.tmp 12) rfl N4 0 rfl (.agg (ajC ajW)) (ajC ajW) rfl rfl info_ajP (ajC_one _) K2.out (Nat.le_of_ble_eq_true rfl) (C' := ajC ajW) (by kernel_rfl) ?_; intro w5 q1; refine Hid.out ?_)
  refine Lib.hid ?_
  have K1n := Lib.hid (K1.out.far q1 (by omega))
  clear K1
  have K1 := K1n
  clear K1n
  have HBn := Lib.hid (HB.out.trans (q1.2.1 _ (by omega)))
  clear HB
  have HB := HBn
  clear HBn
  have K2n : Hid (Blk 36 w5 N4 (ajC ajW)) := Lib.hid q1.1
  clear K2
  have K2 := K2n
  clear K2n q1
  go_wp2_with (refine wpList_ld (op := ⟨some 17, _, _, _, _, _⟩) (by rfl) 36 (.tmp 2) rfl N4 0 rfl (ajC ajW) _ K2.out.all Try.underlying36 rfl info_ajP ?_; refine Hid.out ?_)
  refine Lib.hid ?_
  go_wp2_with (refine wpList_c (op := ⟨some 18, _, _, _, _, _⟩) (.agg (syC (zA 2))) (by rfl) (fun W => by kernel_rfl) ?_; refine Hid.out ?_)
  refine Lib.hid ?_
  go_wp2_with (refine wpList_c (op := ⟨some 19, _, _, _, _, _⟩) (.agg (ajC ajW)) (by rfl) (fun W => by kernel_rfl) ?_; refine Hid.out ?_)
  refine Lib.hid ?_
  go_wp2_with (refine wpList_gv (op := ⟨some 20, _, _, _, _, _⟩) _ (by rfl) (eql_self _ _ _ _ _ _ rfl rfl guard_ajP _ HSE.out rfl rfl _) ?_; refine Hid.out ?_)
  refine Lib.hid ?_
  go_wp2_with fail
  go_ret
  exact ⟨rfl, HB.out⟩
end Go.Proofs.Ythmnbhmficdifaa
