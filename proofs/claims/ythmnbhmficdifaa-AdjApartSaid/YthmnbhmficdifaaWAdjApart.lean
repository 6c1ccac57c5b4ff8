/- The walk of AdjApart: for every input the law returns true, and nothing that was there is written. No condition. -/
import Derived.Test.YthmnbhmficdifaaAThm
import Derived.Deep.DeepCutAuto
namespace Go.Proofs.Ythmnbhmficdifaa
open Go.RowKit
set_option linter.unusedVariables false

/-- the stranger's hello -/
def flipT (z s : Nat → Int) : Nat → Int := if eqY z s then (fun j => if j = 0 then bits .xor .u8 (z 0) 1 else z j) else z
def heA (h : He) (s : Nat → Int) : He := ⟨h.s, h.nu, h.lv, h.ho, h.A, h.m, h.c, h.st, true, flipT h.th s, h.tn⟩
def heB (h : He) (s : Nat → Int) : He := ⟨h.s, h.nu, h.lv, h.ho, h.A, h.m, h.c, 2, false, flipT h.th s, h.tn⟩
theorem xor_ne (x : Int) (h : 0 ≤ x ∧ x ≤ 255) : bits .xor .u8 x 1 ≠ x ∧ 0 ≤ bits .xor .u8 x 1 ∧ bits .xor .u8 x 1 ≤ 255 := by
  obtain ⟨n, rfl⟩ : ∃ n : Nat, x = n := ⟨x.toNat, by omega⟩
  have hn : n < 256 := by omega
  clear h
  have key : ∀ m : Fin 256, bits .xor .u8 (m.val : Int) 1 ≠ (m.val : Int) ∧ 0 ≤ bits .xor .u8 (m.val : Int) 1 ∧ bits .xor .u8 (m.val : Int) 1 ≤ 255 := by decide +kernel
  exact key ⟨n, hn⟩
theorem flipT_by {z s : Nat → Int} (hz : byB z) : byB (flipT z s) := by
  unfold flipT
  split
  · intro j
    show 0 ≤ (if j = 0 then bits .xor .u8 (z 0) 1 else z j) ∧ (if j = 0 then bits .xor .u8 (z 0) 1 else z j) ≤ 255
    split
    · exact (xor_ne _ (hz 0)).2
    · exact hz j
  · exact hz
theorem flipT_no {z s : Nat → Int} (hz : byB z) (hs : byB s) : eqY (flipT z s) s = false := by
  cases hq : eqY (flipT z s) s
  · rfl
  · exfalso
    have h1 := (eqY_iff (flipT_by hz) hs).1 hq
    unfold flipT at h1
    split at h1
    · rename_i h2
      have h3 := (eqY_iff hz hs).1 h2 0 (by omega)
      have h4 := h1 0 (by omega)
      simp only [if_true] at h4
      exact (xor_ne _ (hz 0)).1 (h4.trans h3.symm)
    · rename_i h2
      unfold flipT at hq
      rw [if_neg h2] at hq
      exact h2 hq
theorem stepR_apart (l : Lo) (a : Aj) (h : He) (now : Int) (s : Bool) (hl : byB l.s) (ht : byB h.th) (R : Aj × Int) (hR : stepR l a (heA h l.s) now s = R) : R.2 = 12 ∨ (R.1 = a ∧ (R.2 = 0 ∨ R.2 = 1 ∨ R.2 = 2 ∨ R.2 = 7)) := by
  subst hR
  have hq : eqY (heA h l.s).th l.s = false := flipT_no ht hl
  by_cases hk : chkS l a (heA h l.s) now ≠ 0
  · have e : stepR l a (heA h l.s) now s = (a, chkS l a (heA h l.s) now) := by unfold stepR; rw [if_pos hk]
    rw [e]
    have := chk_cases l a (heA h l.s) now
    exact .inr ⟨rfl, this⟩
  by_cases hc : comI l.lv (heA h l.s).lv s = 0
  · have e : stepR l a (heA h l.s) now s = (ajD, 12) := by unfold stepR; rw [if_neg hk, if_pos hc]
    rw [e]
    exact .inl rfl
  · have e : stepR l a (heA h l.s) now s = (a, 0) := by unfold stepR; rw [if_neg hk, if_neg hc, if_pos (by rw [hq]; rfl)]
    rw [e]
    exact .inr ⟨rfl, .inl rfl⟩
theorem stepR_apart2 (l : Lo) (a : Aj) (h : He) (now : Int) (s : Bool) (R : Aj × Int) (hR : stepR l a (heB h l.s) now s = R) (he : R.2 = 0) : R.1.st = 1 ∧ R.1.p = h.s ∧ R.1.un = now + h.ho ∧ (1 ≤ h.ho ∧ h.ho ≤ 65535) ∧ 0 ≤ now ∧ now ≤ 4611686018427387904 := by
  subst hR
  by_cases hk : chkS l a (heB h l.s) now ≠ 0
  · have e : stepR l a (heB h l.s) now s = (a, chkS l a (heB h l.s) now) := by unfold stepR; rw [if_pos hk]
    rw [e] at he
    exact absurd he hk
  have hk0 : chkS l a (heB h l.s) now = 0 := by omega
  obtain ⟨_, _, _, _, z5, z6, _⟩ := chk_zero hk0
  by_cases hc : comI l.lv (heB h l.s).lv s = 0
  · have e : stepR l a (heB h l.s) now s = (ajD, 12) := by unfold stepR; rw [if_neg hk, if_pos hc]
    rw [e] at he
    cases he
  · have e2 : behS (toS a (heB h l.s) (comI l.lv (heB h l.s).lv s)) (ofS (heB h l.s)) = 1 := rfl
    have e : stepR l a (heB h l.s) now s = (⟨1, h.s, h.nu, comI l.lv h.lv s, now + h.ho⟩, 0) := by
      unfold stepR
      rw [if_neg hk, if_neg hc, if_neg (by show ¬ (false && _) = true; simp), e2, if_neg (by omega)]
      rfl
    rw [e]
    exact ⟨rfl, rfl, rfl, z5, z6⟩
theorem neq_selfR (o : Oper) (e : Operand → Value) (x y : Operand) (t t' : TypeId) (ho : o.op = .binOp .neq t x y t') (htt : t = t') (hg : Try.prog.eqGuardType Try.prog.depth t = false) (xs : Array Value) (hs : SelfEq 10000 t (.agg xs)) (h0 : e x = .agg xs) (h1 : e y = .agg xs) (W : World) :
    (execOp e o).run Try.prog W = .ok (.value (.bool false)) W := neq_self o e x y t t' ho htt hg xs hs h0 h1 W
set_option maxHeartbeats 8000000 in
set_option maxRecDepth 100000 in
theorem walkAdjApart (l : Lo) (L : Nat → Sl) (a : Aj) (h : He) (H : Nat → Sl) (now : Int) (w : World) (w0 : InLo w l L) (w1 : InAj a) (w2 : InHe w h H) (w3 : (Lit.int .i64 now).wf = true) :
    Calls Try.prog 6 #[.agg (loC l), .agg (ajC a), .agg (heC h), .int .i64 now] w fun e w' => e = .returned (.bool true) ∧ Below w.heap.size w w' := by
  obtain ⟨⟨hyl, _, _⟩, hrl, _, hml1, hml2⟩ := w0
  obtain ⟨_, hya, _⟩ := w1
  obtain ⟨⟨hyh, _, _, _, _, hyt, _⟩, hrh, _, hmh1, hmh2⟩ := w2
  have HRL := Lib.hid hrl
  have HRH := Lib.hid hrh
  have HML : Hid (l.m * 24 ≤ 140737488351232) := Lib.hid (by omega)
  have HMH : Hid (h.m * 24 ≤ 140737488351232) := Lib.hid (by omega)
  obtain ⟨R1, hR1⟩ : ∃ R, stepR l a (heA h l.s) now (shB L l.m H h.m) = R := ⟨_, rfl⟩
  obtain ⟨R2, hR2⟩ : ∃ R, stepR l a (heB h l.s) now (shB L l.m H h.m) = R := ⟨_, rfl⟩
  have HP1 := Lib.hid (stepR_apart l a h now _ hyl hyt R1 hR1)
  have HP2 := Lib.hid (stepR_apart2 l a h now _ R2 hR2)
  have HYL := Lib.hid hyl
  have HYA1 := Lib.hid hya
  have HYA2 := Lib.hid hya
  have HYH := Lib.hid hyh
  have HYT0 := Lib.hid hyt
  have HYT : Hid (byB (flipT h.th l.s)) := Lib.hid (flipT_by hyt)
  have HR1 := Lib.hid hR1
  have HR2 := Lib.hid hR2
  have HSA := Lib.hid (self_ajP a hya)
  have HSH6 := Lib.hid (fun (w : World) => equal_sys h.s h.s hyh hyh w)
  have hx0 := hyt 0
  obtain ⟨q, hq⟩ : ∃ q, eqY h.th l.s = q := ⟨_, rfl⟩
  have HQ := Lib.hid hq
  clear hrl hrh hml1 hml2 hmh1 hmh2 hyl hya hyh hyt hR1 hR2 w3 hq
  go_enter Try.func6, Try.ntmps6
  have HB := Lib.hid (Below.refl w.heap.size w)
  obtain ⟨N1, hN1⟩ : ∃ N, w.heap.size = N := ⟨_, rfl⟩
  have HN1 := Lib.hid hN1
  clear hN1
  go_wp2_with (refine wpList_box (op := ⟨some 4, _, _, _, _, _⟩) rfl 26 (.tmp 0) rfl (loC l) rfl N1 HN1.out ?_; intro w1 k1 b1 s1; refine Hid.out ?_)
  refine Lib.hid ?_
  have K1 := Lib.hid k1
  clear k1
  have le_HB_N1 : w.heap.size ≤ N1 := by rw [← HN1.out]; exact HB.out.size
  have HBn := Lib.hid (HB.out.trans (b1.mono HB.out.size))
  clear HB
  have HB := HBn
  clear HBn
  clear b1 HN1
  obtain ⟨N2, hN2⟩ : ∃ N, w1.heap.size = N := ⟨_, rfl⟩
  have HN2 := Lib.hid hN2
  clear hN2
  go_wp2_with (refine wpList_box (op := ⟨some 5, _, _, _, _, _⟩) rfl 28 (.tmp 1) rfl (ajC a) rfl N2 HN2.out ?_; intro w2 k1 b1 s1; refine Hid.out ?_)
  refine Lib.hid ?_
  have K2 := Lib.hid k1
  clear k1
  have lt_N1_N2 : N1 < N2 := by rw [← HN2.out]; exact K1.out.lt
  have le_HB_N2 : w.heap.size ≤ N2 := by rw [← HN2.out]; exact HB.out.size
  have K1n := Lib.hid (K1.out.below b1 K1.out.lt)
  clear K1
  have K1 := K1n
  clear K1n
  have HBn := Lib.hid (HB.out.trans (b1.mono HB.out.size))
  clear HB
  have HB := HBn
  clear HBn
  clear b1 HN2
  obtain ⟨N3, hN3⟩ : ∃ N, w2.heap.size = N := ⟨_, rfl⟩
  have HN3 := Lib.hid hN3
  clear hN3
  go_wp2_with (refine wpList_box (op := ⟨some 6, _, _, _, _, _⟩) rfl 30 (.tmp 2) rfl (heC h) rfl N3 HN3.out ?_; intro w3 k1 b1 s1; refine Hid.out ?_)
  refine Lib.hid ?_
  have K3 := Lib.hid k1
  clear k1
  have lt_N1_N3 : N1 < N3 := by rw [← HN3.out]; exact K1.out.lt
  have lt_N2_N3 : N2 < N3 := by rw [← HN3.out]; exact K2.out.lt
  have le_HB_N3 : w.heap.size ≤ N3 := by rw [← HN3.out]; exact HB.out.size
  have K1n := Lib.hid (K1.out.below b1 K1.out.lt)
  clear K1
  have K1 := K1n
  clear K1n
  have K2n := Lib.hid (K2.out.below b1 K2.out.lt)
  clear K2
  have K2 := K2n
  clear K2n
  have HBn := Lib.hid (HB.out.trans (b1.mono HB.out.size))
  clear HB
  have HB := HBn
  clear HBn
  clear b1 HN3
  go_wp2_with fail
  refine (awake_any _).mono ?_
  rintro e w4 ⟨rfl, b1⟩
  have K1n := Lib.hid (K1.out.below b1 K1.out.lt)
  clear K1
  have K1 := K1n
  clear K1n
  have K2n := Lib.hid (K2.out.below b1 K2.out.lt)
  clear K2
  have K2 := K2n
  clear K2n
  have K3n := Lib.hid (K3.out.below b1 K3.out.lt)
  clear K3
  have K3 := K3n
  clear K3n
  have HBn := Lib.hid (HB.out.trans (b1.mono HB.out.size))
  clear HB
  have HB := HBn
  clear HBn
  clear b1
  go_wp2_with (refine wpList_st rfl 4 (.tmp 15) (.const (.bool true)) rfl N3 11 rfl (.bool true) (#[.bool true]) rfl rfl (by kernel_rfl) (by kernel_rfl) K3.out (Nat.le_of_ble_eq_true rfl) (C' := heC ⟨h.s, h.nu, h.lv, h.ho, h.A, h.m, h.c, h.st, true, h.th, h.tn⟩) (by kernel_rfl) ?_; intro w5 q1; refine Hid.out ?_)
  refine Lib.hid ?_
  have K1n := Lib.hid (K1.out.far q1 (by omega))
  clear K1
  have K1 := K1n
  clear K1n
  have K2n := Lib.hid (K2.out.far q1 (by omega))
  clear K2
  have K2 := K2n
  clear K2n
  have HBn := Lib.hid (HB.out.trans (q1.2.1 _ (by omega)))
  clear HB
  have HB := HBn
  clear HBn
  have K3n : Hid (Blk 30 w5 N3 (heC ⟨h.s, h.nu, h.lv, h.ho, h.A, h.m, h.c, h.st, true, h.th, h.tn⟩)) := Lib.hid q1.1
  clear K3
  have K3 := K3n
  clear K3n q1
  go_wp2_with (refine wpList_ld (op := ⟨some 17, _, _, _, _, _⟩) (by rfl) 23 (.tmp 16) rfl N3 12 rfl (syC h.th) _ K3.out.het Try.underlying23 rfl info_sys ?_; refine Hid.out ?_)
  refine Lib.hid ?_
  go_wp2_with (refine wpList_ld (op := ⟨some 19, _, _, _, _, _⟩) (by rfl) 23 (.tmp 18) rfl N1 0 rfl (syC l.s) _ K1.out.los Try.underlying23 rfl info_sys ?_; refine Hid.out ?_)
  refine Lib.hid ?_
  go_wp2_with (refine wpList_gv (op := ⟨some 20, _, _, _, _, _⟩) _ (by rfl) (sys_eql _ _ _ _ _ rfl rfl h.th l.s HYT0.out HYL.out rfl rfl _ HQ.out _) ?_; refine Hid.out ?_)
  refine Lib.hid ?_
  go_upto_if 20 with (fail)
  go_cut [] (fun wc => Hid (Blk 26 wc N1 (loC l)) ∧ Hid (Blk 28 wc N2 (ajC a)) ∧ Hid (Blk 30 wc N3 (heC (heA h l.s))) ∧ Hid (Below w.heap.size w wc))
  case first =>
    cases q
    · skip
      have hf : flipT h.th l.s = h.th := by unfold flipT; rw [HQ.out]; rfl
      have K3m : Hid (Blk 30 w5 N3 (heC (heA h l.s))) := Lib.hid (by unfold heA; rw [hf]; exact K3.out)
      clear hf
      go_wp2_with fail
      go_meet
      case rel => exact ⟨K1, K2, K3m, HB⟩
    · skip
      have hf : flipT h.th l.s = (fun j => if j = 0 then bits .xor .u8 (h.th 0) 1 else h.th j) := by unfold flipT; rw [HQ.out]; rfl
      have HF := Lib.hid hf
      clear hf
      have c12 : w5.cell? ⟨N3, 12, none⟩ = some (.int .u8 (h.th 0)) := (K3.out.cell 12).trans rfl
      go_wp2_with (refine wpList_st rfl 5 (.tmp 26) (.tmp 24) rfl N3 12 rfl (.int .u8 (bits .xor .u8 (h.th 0) 1)) (#[.int .u8 (bits .xor .u8 (h.th 0) 1)]) rfl rfl (by kernel_rfl) (by kernel_rfl) K3.out (Nat.le_of_ble_eq_true rfl) (C' := heC ⟨h.s, h.nu, h.lv, h.ho, h.A, h.m, h.c, h.st, true, (fun j => if j = 0 then bits .xor .u8 (h.th 0) 1 else h.th j), h.tn⟩) (by kernel_rfl) ?_; intro w6 q1; refine Hid.out ?_)
      refine Lib.hid ?_
      have K1n := Lib.hid (K1.out.far q1 (by omega))
      clear K1
      have K1 := K1n
      clear K1n
      have K2n := Lib.hid (K2.out.far q1 (by omega))
      clear K2
      have K2 := K2n
      clear K2n
      have HBn := Lib.hid (HB.out.trans (q1.2.1 _ (by omega)))
      clear HB
      have HB := HBn
      clear HBn
      have K3n : Hid (Blk 30 w6 N3 (heC ⟨h.s, h.nu, h.lv, h.ho, h.A, h.m, h.c, h.st, true, (fun j => if j = 0 then bits .xor .u8 (h.th 0) 1 else h.th j), h.tn⟩)) := Lib.hid q1.1
      clear K3
      have K3 := K3n
      clear K3n q1
      have K3m : Hid (Blk 30 w6 N3 (heC (heA h l.s))) := Lib.hid (by unfold heA; rw [HF.out]; exact K3.out)
      go_wp2_with fail
      go_meet
      case rel => exact ⟨K1, K2, K3m, HB⟩
  case rest =>
  clear K1 K2 K3 HB
  obtain ⟨K1, K2, K3, HB⟩ := hcut
  go_wp2_with fail
  go_cut [9, 10] (fun s1 s2 wc => ∃ N, s1 = .pointer (some ⟨N, 0, none⟩) ∧ s2 = .int .i64 R1.2 ∧ Hid (Blk 36 wc N (ajC R1.1)) ∧ N1 < N ∧ Hid (Blk 26 wc N1 (loC l)) ∧ N2 < N ∧ Hid (Blk 28 wc N2 (ajC a)) ∧ N3 < N ∧ Hid (Blk 30 wc N3 (heC (heA h l.s))) ∧ w.heap.size ≤ N ∧ Hid (Below w.heap.size w wc))
  case first =>
    refine wp_region_held_drew (S := fun w' => Blk 26 w' N1 (loC l) ∧ Blk 28 w' N2 (ajC a) ∧ Blk 30 w' N3 (heC (heA h l.s)) ∧ Below w.heap.size w w') (by kernel_rfl) ⟨K1.out, K2.out, K3.out, HB.out.drew⟩ (fun hS => ?_)
    generalize hW6 : wc.drew = W6 at hS ⊢
    clear hW6
    clear K1
    clear K2
    clear K3
    clear HB
    have K1 := Lib.hid hS.1
    have K2 := Lib.hid hS.2.1
    have K3 := Lib.hid hS.2.2.1
    have HB := Lib.hid hS.2.2.2
    refine takeL (i := 0) (some 28) 26 (.tmp 4) N1 0 (loC l) _ rfl rfl (by kernel_rfl) (by kernel_rfl) (by kernel_rfl) (fun _ _ _ h => h) (by rfl) rfl rfl (fun w' hS => hS.1.all) Try.underlying26 rfl info_loR hS ?_
    simp only [Act.put, List.setIfInBounds_toArray, List.set_cons_zero, List.set_cons_succ]
    refine takeL (i := 2) (some 30) 28 (.tmp 5) N2 0 (ajC a) _ rfl rfl (by kernel_rfl) (by kernel_rfl) (by kernel_rfl) (fun _ _ _ h => h) (by rfl) rfl rfl (fun w' hS => hS.2.1.all) Try.underlying28 rfl info_ajR hS ?_
    simp only [Act.put, List.setIfInBounds_toArray, List.set_cons_zero, List.set_cons_succ]
    refine takeL (i := 3) (some 31) 30 (.tmp 6) N3 0 (heC (heA h l.s)) _ rfl rfl (by kernel_rfl) (by kernel_rfl) (by kernel_rfl) (fun _ _ _ h => h) (by rfl) rfl rfl (fun w' hS => hS.2.2.1.all) Try.underlying30 rfl info_heR hS ?_
    simp only [Act.put, List.setIfInBounds_toArray, List.set_cons_zero, List.set_cons_succ]
    refine takeY (i := 5) (some 33) (v := .int .i64 now) rfl rfl (by kernel_rfl) (by kernel_rfl) (by kernel_rfl) (fun _ _ _ h => h) (by rfl) (fun w' hS => by go_simp) hS ?_
    simp only [Act.put, List.setIfInBounds_toArray, List.set_cons_zero, List.set_cons_succ]
    obtain ⟨M0, hM0⟩ : ∃ N, W6.heap.size = N := ⟨_, rfl⟩
    have HM0 := Lib.hid hM0
    clear hM0
    refine wpAnyH_ready (show Region.ready _ _ _ = [1, 10] from by kernel_rfl) (by simp) (consCE (i := 1) (some 29) 11 #[.agg (loC l)] (R := fun v w' => LocV W6 l L v w') rfl rfl (by rfl) (by go_simp) (local_v l L W6 (HRL.out.below HB.out) HML.out) (fun v w' h => by obtain ⟨A1, c1, L1, rfl, hr1, hs1, hb1⟩ := h; exact ⟨hS.1.below hb1 hS.1.lt, hS.2.1.below hb1 hS.2.1.lt, hS.2.2.1.below hb1 hS.2.2.1.lt, hS.2.2.2.trans (hb1.mono hS.2.2.2.size)⟩) ?_ (consMk (i := 10) (some 9) 36 (ajC aj0) rfl rfl (by rfl) rfl zero_ajP M0 HM0.out ?_ AllReadyH.nil))
    · skip
      clear HM0
      intro v W7 h hS2
      obtain ⟨A1, c1, L1, rfl, hr1, hs1, hb1⟩ := h
      simp only [Act.put, List.setIfInBounds_toArray, List.set_cons_zero, List.set_cons_succ]
      clear K1
      clear K2
      clear K3
      clear HB
      clear hS
      have hS := hS2
      clear hS2
      have K1 := Lib.hid hS.1
      have K2 := Lib.hid hS.2.1
      have K3 := Lib.hid hS.2.2.1
      have HB := Lib.hid hS.2.2.2
      have HXL := Lib.hid hr1
      have HSL := Lib.hid hs1
      clear hr1 hs1 hb1
      obtain ⟨M1, hM1⟩ : ∃ N, W7.heap.size = N := ⟨_, rfl⟩
      have HM1 := Lib.hid hM1
      clear hM1
      refine wpAnyH_ready (show Region.ready _ _ _ = [4, 10] from by kernel_rfl) (by simp) (consCE (i := 4) (some 32) 12 #[.agg (heC (heA h l.s))] (R := fun v w' => HelV W7 (heA h l.s) H v w') rfl rfl (by rfl) (by go_simp) (hello_v (heA h l.s) H W7 (HRH.out.below HB.out) HMH.out) (fun v w' h => by obtain ⟨B1, d1, H1, rfl, hr1, hs1, hb1⟩ := h; exact ⟨hS.1.below hb1 hS.1.lt, hS.2.1.below hb1 hS.2.1.lt, hS.2.2.1.below hb1 hS.2.2.1.lt, hS.2.2.2.trans (hb1.mono hS.2.2.2.size)⟩) ?_ (consMk (i := 10) (some 9) 36 (ajC aj0) rfl rfl (by rfl) rfl zero_ajP M1 HM1.out ?_ AllReadyH.nil))
      · skip
        clear HM1
        intro v W8 h hS2
        obtain ⟨B1, d1, H1, rfl, hr1, hs1, hb1⟩ := h
        simp only [Act.put, List.setIfInBounds_toArray, List.set_cons_zero, List.set_cons_succ]
        have HXLn := Lib.hid (HXL.out.below hb1)
        clear HXL
        have HXL := HXLn
        clear HXLn
        clear K1
        clear K2
        clear K3
        clear HB
        clear hS
        have hS := hS2
        clear hS2
        have K1 := Lib.hid hS.1
        have K2 := Lib.hid hS.2.1
        have K3 := Lib.hid hS.2.2.1
        have HB := Lib.hid hS.2.2.2
        have HXH := Lib.hid hr1
        have HSH := Lib.hid hs1
        clear hr1 hs1 hb1
        obtain ⟨M2, hM2⟩ : ∃ N, W8.heap.size = N := ⟨_, rfl⟩
        have HM2 := Lib.hid hM2
        clear hM2
        refine wpAnyH_ready (show Region.ready _ _ _ = [6, 10] from by kernel_rfl) (by simp) (consC (i := 6) (some 34) 13 #[.agg (loC ⟨l.s, l.nu, l.lv, A1, l.m, c1⟩), .agg (ajC a), .agg (heC ⟨(heA h l.s).s, (heA h l.s).nu, (heA h l.s).lv, (heA h l.s).ho, B1, (heA h l.s).m, d1, (heA h l.s).st, (heA h l.s).nm, (heA h l.s).th, (heA h l.s).tn⟩), .int .i64 now] (.tuple #[.agg (ajC R1.1), .int .i64 R1.2]) (R := fun w' => Below W8.heap.size W8 w') rfl rfl (by rfl) (by go_simp) (step_law l a (heA h l.s) now L H L1 H1 A1 B1 c1 d1 _ HYL.out HYA1.out HYH.out HYT.out HXL.out HXH.out (by have := HML.out; show l.m ≤ _; omega) (by have := HMH.out; show h.m ≤ _; omega) HSL.out HSH.out R1 HR1.out) (fun w' hb => ⟨hS.1.below hb hS.1.lt, hS.2.1.below hb hS.2.1.lt, hS.2.2.1.below hb hS.2.2.1.lt, hS.2.2.2.trans (hb.mono hS.2.2.2.size)⟩) ?_ (consMk (i := 10) (some 9) 36 (ajC aj0) rfl rfl (by rfl) rfl zero_ajP M2 HM2.out ?_ AllReadyH.nil))
        · skip
          clear HM2
          intro W9 hb1 hS2
          simp only [Act.put, List.setIfInBounds_toArray, List.set_cons_zero, List.set_cons_succ]
          have HXLn := Lib.hid (HXL.out.below hb1)
          clear HXL
          have HXL := HXLn
          clear HXLn
          have HXHn := Lib.hid (HXH.out.below hb1)
          clear HXH
          have HXH := HXHn
          clear HXHn
          clear K1
          clear K2
          clear K3
          clear HB
          clear hS
          have hS := hS2
          clear hS2
          have K1 := Lib.hid hS.1
          have K2 := Lib.hid hS.2.1
          have K3 := Lib.hid hS.2.2.1
          have HB := Lib.hid hS.2.2.2
          clear HXL HXH HSL HSH
          clear hb1
          obtain ⟨M3, hM3⟩ : ∃ N, W9.heap.size = N := ⟨_, rfl⟩
          have HM3 := Lib.hid hM3
          clear hM3
          refine takeY (i := 7) (some 27) (v := .tuple #[.agg (ajC R1.1), .int .i64 R1.2]) rfl rfl (by kernel_rfl) (by kernel_rfl) (by kernel_rfl) (fun _ _ _ h => h) (by rfl) (fun w' hS => by go_simp) hS ?_
          simp only [Act.put, List.setIfInBounds_toArray, List.set_cons_zero, List.set_cons_succ]
          refine takeY (i := 8) (some 35) (v := .agg (ajC R1.1)) rfl rfl (by kernel_rfl) (by kernel_rfl) (by kernel_rfl) (fun _ _ _ h => h) (by rfl) (fun w' hS => by go_simp) hS ?_
          simp only [Act.put, List.setIfInBounds_toArray, List.set_cons_zero, List.set_cons_succ]
          refine takeY (i := 9) (some 36) (v := .int .i64 R1.2) rfl rfl (by kernel_rfl) (by kernel_rfl) (by kernel_rfl) (fun _ _ _ h => h) (by rfl) (fun w' hS => by go_simp) hS ?_
          simp only [Act.put, List.setIfInBounds_toArray, List.set_cons_zero, List.set_cons_succ]
          refine takeMk (i := 10) (some 9) 36 (ajC aj0) rfl rfl (by kernel_rfl) (by rfl) rfl zero_ajP M3 HM3.out ?_
          intro W10 k1 b1 s1
          refine ⟨⟨hS.1.below b1 hS.1.lt, hS.2.1.below b1 hS.2.1.lt, hS.2.2.1.below b1 hS.2.2.1.lt, hS.2.2.2.trans (b1.mono hS.2.2.2.size)⟩, ?_⟩
          simp only [Act.put, List.setIfInBounds_toArray, List.set_cons_zero, List.set_cons_succ]
          have K4 := Lib.hid k1
          clear k1
          have lt_N1_M3 : N1 < M3 := by rw [← HM3.out]; exact K1.out.lt
          have lt_N2_M3 : N2 < M3 := by rw [← HM3.out]; exact K2.out.lt
          have lt_N3_M3 : N3 < M3 := by rw [← HM3.out]; exact K3.out.lt
          have le_HB_M3 : w.heap.size ≤ M3 := by rw [← HM3.out]; exact HB.out.size
          have K1n := Lib.hid (K1.out.below b1 K1.out.lt)
          clear K1
          have K1 := K1n
          clear K1n
          have K2n := Lib.hid (K2.out.below b1 K2.out.lt)
          clear K2
          have K2 := K2n
          clear K2n
          have K3n := Lib.hid (K3.out.below b1 K3.out.lt)
          clear K3
          have K3 := K3n
          clear K3n
          have HBn := Lib.hid (HB.out.trans (b1.mono HB.out.size))
          clear HB
          have HB := HBn
          clear HBn
          clear b1 HM3 hS
          have hS := (And.intro K1.out (And.intro K2.out (And.intro K3.out HB.out)))
          refine takeSt (i := 11) 36 (.tmp 9) (.tmp 35) M3 0 (.agg (ajC R1.1)) (ajC R1.1) (ajC R1.1) rfl rfl (by kernel_rfl) (by rfl) rfl rfl rfl rfl info_ajP (ajC_one _) K4.out (Nat.le_of_ble_eq_true rfl) (by kernel_rfl) ?_
          intro W11 q1
          refine ⟨⟨K1.out.far q1 (by omega), K2.out.far q1 (by omega), K3.out.far q1 (by omega), HB.out.trans (q1.2.1 _ (by omega))⟩, ?_⟩
          simp only [Act.put, List.setIfInBounds_toArray, List.set_cons_zero, List.set_cons_succ]
          have K4n : Hid (Blk 36 W11 M3 (ajC R1.1)) := Lib.hid q1.1
          clear K4
          have K4 := K4n
          clear K4n
          have K1n := Lib.hid (K1.out.far q1 (by omega))
          clear K1
          have K1 := K1n
          clear K1n
          have K2n := Lib.hid (K2.out.far q1 (by omega))
          clear K2
          have K2 := K2n
          clear K2n
          have K3n := Lib.hid (K3.out.far q1 (by omega))
          clear K3
          have K3 := K3n
          clear K3n
          have HBn := Lib.hid (HB.out.trans (q1.2.1 _ (by omega)))
          clear HB
          have HB := HBn
          clear HBn
          clear q1 hS
          have hS := (And.intro K1.out (And.intro K2.out (And.intro K3.out HB.out)))
          refine takeY (i := 12) (some 10) (v := .int .i64 R1.2) rfl rfl (by kernel_rfl) (by kernel_rfl) (by kernel_rfl) (fun _ _ _ h => h) (by rfl) (fun w' hS => by go_simp) hS ?_
          simp only [Act.put, List.setIfInBounds_toArray, List.set_cons_zero, List.set_cons_succ]
          clear hS
          refine wpAnyH_done (by kernel_rfl) ?_ _
          go_wp2_with fail
          go_meet
          case rel => exact ⟨M3, rfl, rfl, K4, lt_N1_M3, K1, lt_N2_M3, K2, lt_N3_M3, K3, le_HB_M3, HB⟩
        · skip
          intro W10 k1 b1 s1
          refine ⟨⟨hS.1.below b1 hS.1.lt, hS.2.1.below b1 hS.2.1.lt, hS.2.2.1.below b1 hS.2.2.1.lt, hS.2.2.2.trans (b1.mono hS.2.2.2.size)⟩, ?_⟩
          simp only [Act.put, List.setIfInBounds_toArray, List.set_cons_zero, List.set_cons_succ]
          have K4 := Lib.hid k1
          clear k1
          have lt_N1_M2 : N1 < M2 := by rw [← HM2.out]; exact K1.out.lt
          have lt_N2_M2 : N2 < M2 := by rw [← HM2.out]; exact K2.out.lt
          have lt_N3_M2 : N3 < M2 := by rw [← HM2.out]; exact K3.out.lt
          have le_HB_M2 : w.heap.size ≤ M2 := by rw [← HM2.out]; exact HB.out.size
          have HXLn := Lib.hid (HXL.out.below b1)
          clear HXL
          have HXL := HXLn
          clear HXLn
          have HXHn := Lib.hid (HXH.out.below b1)
          clear HXH
          have HXH := HXHn
          clear HXHn
          have K1n := Lib.hid (K1.out.below b1 K1.out.lt)
          clear K1
          have K1 := K1n
          clear K1n
          have K2n := Lib.hid (K2.out.below b1 K2.out.lt)
          clear K2
          have K2 := K2n
          clear K2n
          have K3n := Lib.hid (K3.out.below b1 K3.out.lt)
          clear K3
          have K3 := K3n
          clear K3n
          have HBn := Lib.hid (HB.out.trans (b1.mono HB.out.size))
          clear HB
          have HB := HBn
          clear HBn
          clear b1 HM2 hS
          have hS := (And.intro K1.out (And.intro K2.out (And.intro K3.out HB.out)))
          refine takeC (i := 6) (some 34) 13 #[.agg (loC ⟨l.s, l.nu, l.lv, A1, l.m, c1⟩), .agg (ajC a), .agg (heC ⟨(heA h l.s).s, (heA h l.s).nu, (heA h l.s).lv, (heA h l.s).ho, B1, (heA h l.s).m, d1, (heA h l.s).st, (heA h l.s).nm, (heA h l.s).th, (heA h l.s).tn⟩), .int .i64 now] (.tuple #[.agg (ajC R1.1), .int .i64 R1.2]) (R := fun w' => Below W10.heap.size W10 w') rfl rfl (by kernel_rfl) (by rfl) (by go_simp) (step_law l a (heA h l.s) now L H L1 H1 A1 B1 c1 d1 _ HYL.out HYA1.out HYH.out HYT.out HXL.out HXH.out (by have := HML.out; show l.m ≤ _; omega) (by have := HMH.out; show h.m ≤ _; omega) HSL.out HSH.out R1 HR1.out) (fun w' hb => ⟨hS.1.below hb hS.1.lt, hS.2.1.below hb hS.2.1.lt, hS.2.2.1.below hb hS.2.2.1.lt, hS.2.2.2.trans (hb.mono hS.2.2.2.size)⟩) ?_
          intro W11 hb1 hS2
          simp only [Act.put, List.setIfInBounds_toArray, List.set_cons_zero, List.set_cons_succ]
          have HXLn := Lib.hid (HXL.out.below hb1)
          clear HXL
          have HXL := HXLn
          clear HXLn
          have HXHn := Lib.hid (HXH.out.below hb1)
          clear HXH
          have HXH := HXHn
          clear HXHn
          have K4n := Lib.hid (K4.out.below hb1 K4.out.lt)
          clear K4
          have K4 := K4n
          clear K4n
          clear K1
          clear K2
          clear K3
          clear HB
          clear hS
          have hS := hS2
          clear hS2
          have K1 := Lib.hid hS.1
          have K2 := Lib.hid hS.2.1
          have K3 := Lib.hid hS.2.2.1
          have HB := Lib.hid hS.2.2.2
          clear HXL HXH HSL HSH
          clear hb1
          refine takeY (i := 7) (some 27) (v := .tuple #[.agg (ajC R1.1), .int .i64 R1.2]) rfl rfl (by kernel_rfl) (by kernel_rfl) (by kernel_rfl) (fun _ _ _ h => h) (by rfl) (fun w' hS => by go_simp) hS ?_
          simp only [Act.put, List.setIfInBounds_toArray, List.set_cons_zero, List.set_cons_succ]
          refine takeY (i := 8) (some 35) (v := .agg (ajC R1.1)) rfl rfl (by kernel_rfl) (by kernel_rfl) (by kernel_rfl) (fun _ _ _ h => h) (by rfl) (fun w' hS => by go_simp) hS ?_
          simp only [Act.put, List.setIfInBounds_toArray, List.set_cons_zero, List.set_cons_succ]
          refine takeY (i := 9) (some 36) (v := .int .i64 R1.2) rfl rfl (by kernel_rfl) (by kernel_rfl) (by kernel_rfl) (fun _ _ _ h => h) (by rfl) (fun w' hS => by go_simp) hS ?_
          simp only [Act.put, List.setIfInBounds_toArray, List.set_cons_zero, List.set_cons_succ]
          refine takeSt (i := 11) 36 (.tmp 9) (.tmp 35) M2 0 (.agg (ajC R1.1)) (ajC R1.1) (ajC R1.1) rfl rfl (by kernel_rfl) (by rfl) rfl rfl rfl rfl info_ajP (ajC_one _) K4.out (Nat.le_of_ble_eq_true rfl) (by kernel_rfl) ?_
          intro W12 q1
          refine ⟨⟨K1.out.far q1 (by omega), K2.out.far q1 (by omega), K3.out.far q1 (by omega), HB.out.trans (q1.2.1 _ (by omega))⟩, ?_⟩
          simp only [Act.put, List.setIfInBounds_toArray, List.set_cons_zero, List.set_cons_succ]
          have K4n : Hid (Blk 36 W12 M2 (ajC R1.1)) := Lib.hid q1.1
          clear K4
          have K4 := K4n
          clear K4n
          have K1n := Lib.hid (K1.out.far q1 (by omega))
          clear K1
          have K1 := K1n
          clear K1n
          have K2n := Lib.hid (K2.out.far q1 (by omega))
          clear K2
          have K2 := K2n
          clear K2n
          have K3n := Lib.hid (K3.out.far q1 (by omega))
          clear K3
          have K3 := K3n
          clear K3n
          have HBn := Lib.hid (HB.out.trans (q1.2.1 _ (by omega)))
          clear HB
          have HB := HBn
          clear HBn
          clear q1 hS
          have hS := (And.intro K1.out (And.intro K2.out (And.intro K3.out HB.out)))
          refine takeY (i := 12) (some 10) (v := .int .i64 R1.2) rfl rfl (by kernel_rfl) (by kernel_rfl) (by kernel_rfl) (fun _ _ _ h => h) (by rfl) (fun w' hS => by go_simp) hS ?_
          simp only [Act.put, List.setIfInBounds_toArray, List.set_cons_zero, List.set_cons_succ]
          clear hS
          refine wpAnyH_done (by kernel_rfl) ?_ _
          go_wp2_with fail
          go_meet
          case rel => exact ⟨M2, rfl, rfl, K4, lt_N1_M2, K1, lt_N2_M2, K2, lt_N3_M2, K3, le_HB_M2, HB⟩
      · skip
        intro W9 k1 b1 s1
        refine ⟨⟨hS.1.below b1 hS.1.lt, hS.2.1.below b1 hS.2.1.lt, hS.2.2.1.below b1 hS.2.2.1.lt, hS.2.2.2.trans (b1.mono hS.2.2.2.size)⟩, ?_⟩
        simp only [Act.put, List.setIfInBounds_toArray, List.set_cons_zero, List.set_cons_succ]
        have K4 := Lib.hid k1
        clear k1
        have lt_N1_M1 : N1 < M1 := by rw [← HM1.out]; exact K1.out.lt
        have lt_N2_M1 : N2 < M1 := by rw [← HM1.out]; exact K2.out.lt
        have lt_N3_M1 : N3 < M1 := by rw [← HM1.out]; exact K3.out.lt
        have le_HB_M1 : w.heap.size ≤ M1 := by rw [← HM1.out]; exact HB.out.size
        have HXLn := Lib.hid (HXL.out.below b1)
        clear HXL
        have HXL := HXLn
        clear HXLn
        have K1n := Lib.hid (K1.out.below b1 K1.out.lt)
        clear K1
        have K1 := K1n
        clear K1n
        have K2n := Lib.hid (K2.out.below b1 K2.out.lt)
        clear K2
        have K2 := K2n
        clear K2n
        have K3n := Lib.hid (K3.out.below b1 K3.out.lt)
        clear K3
        have K3 := K3n
        clear K3n
        have HBn := Lib.hid (HB.out.trans (b1.mono HB.out.size))
        clear HB
        have HB := HBn
        clear HBn
        clear b1 HM1 hS
        have hS := (And.intro K1.out (And.intro K2.out (And.intro K3.out HB.out)))
        refine takeCE (i := 4) (some 32) 12 #[.agg (heC (heA h l.s))] (R := fun v w' => HelV W9 (heA h l.s) H v w') rfl rfl (by kernel_rfl) (by rfl) (by go_simp) (hello_v (heA h l.s) H W9 (HRH.out.below HB.out) HMH.out) (fun v w' h => by obtain ⟨B1, d1, H1, rfl, hr1, hs1, hb1⟩ := h; exact ⟨hS.1.below hb1 hS.1.lt, hS.2.1.below hb1 hS.2.1.lt, hS.2.2.1.below hb1 hS.2.2.1.lt, hS.2.2.2.trans (hb1.mono hS.2.2.2.size)⟩) ?_
        intro v W10 h hS2
        obtain ⟨B1, d1, H1, rfl, hr1, hs1, hb1⟩ := h
        simp only [Act.put, List.setIfInBounds_toArray, List.set_cons_zero, List.set_cons_succ]
        have HXLn := Lib.hid (HXL.out.below hb1)
        clear HXL
        have HXL := HXLn
        clear HXLn
        have K4n := Lib.hid (K4.out.below hb1 K4.out.lt)
        clear K4
        have K4 := K4n
        clear K4n
        clear K1
        clear K2
        clear K3
        clear HB
        clear hS
        have hS := hS2
        clear hS2
        have K1 := Lib.hid hS.1
        have K2 := Lib.hid hS.2.1
        have K3 := Lib.hid hS.2.2.1
        have HB := Lib.hid hS.2.2.2
        have HXH := Lib.hid hr1
        have HSH := Lib.hid hs1
        clear hr1 hs1 hb1
        refine takeC (i := 6) (some 34) 13 #[.agg (loC ⟨l.s, l.nu, l.lv, A1, l.m, c1⟩), .agg (ajC a), .agg (heC ⟨(heA h l.s).s, (heA h l.s).nu, (heA h l.s).lv, (heA h l.s).ho, B1, (heA h l.s).m, d1, (heA h l.s).st, (heA h l.s).nm, (heA h l.s).th, (heA h l.s).tn⟩), .int .i64 now] (.tuple #[.agg (ajC R1.1), .int .i64 R1.2]) (R := fun w' => Below W10.heap.size W10 w') rfl rfl (by kernel_rfl) (by rfl) (by go_simp) (step_law l a (heA h l.s) now L H L1 H1 A1 B1 c1 d1 _ HYL.out HYA1.out HYH.out HYT.out HXL.out HXH.out (by have := HML.out; show l.m ≤ _; omega) (by have := HMH.out; show h.m ≤ _; omega) HSL.out HSH.out R1 HR1.out) (fun w' hb => ⟨hS.1.below hb hS.1.lt, hS.2.1.below hb hS.2.1.lt, hS.2.2.1.below hb hS.2.2.1.lt, hS.2.2.2.trans (hb.mono hS.2.2.2.size)⟩) ?_
        intro W11 hb1 hS2
        simp only [Act.put, List.setIfInBounds_toArray, List.set_cons_zero, List.set_cons_succ]
        have HXLn := Lib.hid (HXL.out.below hb1)
        clear HXL
        have HXL := HXLn
        clear HXLn
        have HXHn := Lib.hid (HXH.out.below hb1)
        clear HXH
        have HXH := HXHn
        clear HXHn
        have K4n := Lib.hid (K4.out.below hb1 K4.out.lt)
        clear K4
        have K4 := K4n
        clear K4n
        clear K1
        clear K2
        clear K3
        clear HB
        clear hS
        have hS := hS2
        clear hS2
        have K1 := Lib.hid hS.1
        have K2 := Lib.hid hS.2.1
        have K3 := Lib.hid hS.2.2.1
        have HB := Lib.hid hS.2.2.2
        clear HXL HXH HSL HSH
        clear hb1
        refine takeY (i := 7) (some 27) (v := .tuple #[.agg (ajC R1.1), .int .i64 R1.2]) rfl rfl (by kernel_rfl) (by kernel_rfl) (by kernel_rfl) (fun _ _ _ h => h) (by rfl) (fun w' hS => by go_simp) hS ?_
        simp only [Act.put, List.setIfInBounds_toArray, List.set_cons_zero, List.set_cons_succ]
        refine takeY (i := 8) (some 35) (v := .agg (ajC R1.1)) rfl rfl (by kernel_rfl) (by kernel_rfl) (by kernel_rfl) (fun _ _ _ h => h) (by rfl) (fun w' hS => by go_simp) hS ?_
        simp only [Act.put, List.setIfInBounds_toArray, List.set_cons_zero, List.set_cons_succ]
        refine takeY (i := 9) (some 36) (v := .int .i64 R1.2) rfl rfl (by kernel_rfl) (by kernel_rfl) (by kernel_rfl) (fun _ _ _ h => h) (by rfl) (fun w' hS => by go_simp) hS ?_
        simp only [Act.put, List.setIfInBounds_toArray, List.set_cons_zero, List.set_cons_succ]
        refine takeSt (i := 11) 36 (.tmp 9) (.tmp 35) M1 0 (.agg (ajC R1.1)) (ajC R1.1) (ajC R1.1) rfl rfl (by kernel_rfl) (by rfl) rfl rfl rfl rfl info_ajP (ajC_one _) K4.out (Nat.le_of_ble_eq_true rfl) (by kernel_rfl) ?_
        intro W12 q1
        refine ⟨⟨K1.out.far q1 (by omega), K2.out.far q1 (by omega), K3.out.far q1 (by omega), HB.out.trans (q1.2.1 _ (by omega))⟩, ?_⟩
        simp only [Act.put, List.setIfInBounds_toArray, List.set_cons_zero, List.set_cons_succ]
        have K4n : Hid (Blk 36 W12 M1 (ajC R1.1)) := Lib.hid q1.1
        clear K4
        have K4 := K4n
        clear K4n
        have K1n := Lib.hid (K1.out.far q1 (by omega))
        clear K1
        have K1 := K1n
        clear K1n
        have K2n := Lib.hid (K2.out.far q1 (by omega))
        clear K2
        have K2 := K2n
        clear K2n
        have K3n := Lib.hid (K3.out.far q1 (by omega))
        clear K3
        have K3 := K3n
        clear K3n
        have HBn := Lib.hid (HB.out.trans (q1.2.1 _ (by omega)))
        clear HB
        have HB := HBn
        clear HBn
        clear q1 hS
        have hS := (And.intro K1.out (And.intro K2.out (And.intro K3.out HB.out)))
        refine takeY (i := 12) (some 10) (v := .int .i64 R1.2) rfl rfl (by kernel_rfl) (by kernel_rfl) (by kernel_rfl) (fun _ _ _ h => h) (by rfl) (fun w' hS => by go_simp) hS ?_
        simp only [Act.put, List.setIfInBounds_toArray, List.set_cons_zero, List.set_cons_succ]
        clear hS
        refine wpAnyH_done (by kernel_rfl) ?_ _
        go_wp2_with fail
        go_meet
        case rel => exact ⟨M1, rfl, rfl, K4, lt_N1_M1, K1, lt_N2_M1, K2, lt_N3_M1, K3, le_HB_M1, HB⟩
    · skip
      intro W8 k1 b1 s1
      refine ⟨⟨hS.1.below b1 hS.1.lt, hS.2.1.below b1 hS.2.1.lt, hS.2.2.1.below b1 hS.2.2.1.lt, hS.2.2.2.trans (b1.mono hS.2.2.2.size)⟩, ?_⟩
      simp only [Act.put, List.setIfInBounds_toArray, List.set_cons_zero, List.set_cons_succ]
      have K4 := Lib.hid k1
      clear k1
      have lt_N1_M0 : N1 < M0 := by rw [← HM0.out]; exact K1.out.lt
      have lt_N2_M0 : N2 < M0 := by rw [← HM0.out]; exact K2.out.lt
      have lt_N3_M0 : N3 < M0 := by rw [← HM0.out]; exact K3.out.lt
      have le_HB_M0 : w.heap.size ≤ M0 := by rw [← HM0.out]; exact HB.out.size
      have K1n := Lib.hid (K1.out.below b1 K1.out.lt)
      clear K1
      have K1 := K1n
      clear K1n
      have K2n := Lib.hid (K2.out.below b1 K2.out.lt)
      clear K2
      have K2 := K2n
      clear K2n
      have K3n := Lib.hid (K3.out.below b1 K3.out.lt)
      clear K3
      have K3 := K3n
      clear K3n
      have HBn := Lib.hid (HB.out.trans (b1.mono HB.out.size))
      clear HB
      have HB := HBn
      clear HBn
      clear b1 HM0 hS
      have hS := (And.intro K1.out (And.intro K2.out (And.intro K3.out HB.out)))
      refine takeCE (i := 1) (some 29) 11 #[.agg (loC l)] (R := fun v w' => LocV W8 l L v w') rfl rfl (by kernel_rfl) (by rfl) (by go_simp) (local_v l L W8 (HRL.out.below HB.out) HML.out) (fun v w' h => by obtain ⟨A1, c1, L1, rfl, hr1, hs1, hb1⟩ := h; exact ⟨hS.1.below hb1 hS.1.lt, hS.2.1.below hb1 hS.2.1.lt, hS.2.2.1.below hb1 hS.2.2.1.lt, hS.2.2.2.trans (hb1.mono hS.2.2.2.size)⟩) ?_
      intro v W9 h hS2
      obtain ⟨A1, c1, L1, rfl, hr1, hs1, hb1⟩ := h
      simp only [Act.put, List.setIfInBounds_toArray, List.set_cons_zero, List.set_cons_succ]
      have K4n := Lib.hid (K4.out.below hb1 K4.out.lt)
      clear K4
      have K4 := K4n
      clear K4n
      clear K1
      clear K2
      clear K3
      clear HB
      clear hS
      have hS := hS2
      clear hS2
      have K1 := Lib.hid hS.1
      have K2 := Lib.hid hS.2.1
      have K3 := Lib.hid hS.2.2.1
      have HB := Lib.hid hS.2.2.2
      have HXL := Lib.hid hr1
      have HSL := Lib.hid hs1
      clear hr1 hs1 hb1
      refine takeCE (i := 4) (some 32) 12 #[.agg (heC (heA h l.s))] (R := fun v w' => HelV W9 (heA h l.s) H v w') rfl rfl (by kernel_rfl) (by rfl) (by go_simp) (hello_v (heA h l.s) H W9 (HRH.out.below HB.out) HMH.out) (fun v w' h => by obtain ⟨B1, d1, H1, rfl, hr1, hs1, hb1⟩ := h; exact ⟨hS.1.below hb1 hS.1.lt, hS.2.1.below hb1 hS.2.1.lt, hS.2.2.1.below hb1 hS.2.2.1.lt, hS.2.2.2.trans (hb1.mono hS.2.2.2.size)⟩) ?_
      intro v W10 h hS2
      obtain ⟨B1, d1, H1, rfl, hr1, hs1, hb1⟩ := h
      simp only [Act.put, List.setIfInBounds_toArray, List.set_cons_zero, List.set_cons_succ]
      have HXLn := Lib.hid (HXL.out.below hb1)
      clear HXL
      have HXL := HXLn
      clear HXLn
      have K4n := Lib.hid (K4.out.below hb1 K4.out.lt)
      clear K4
      have K4 := K4n
      clear K4n
      clear K1
      clear K2
      clear K3
      clear HB
      clear hS
      have hS := hS2
      clear hS2
      have K1 := Lib.hid hS.1
      have K2 := Lib.hid hS.2.1
      have K3 := Lib.hid hS.2.2.1
      have HB := Lib.hid hS.2.2.2
      have HXH := Lib.hid hr1
      have HSH := Lib.hid hs1
      clear hr1 hs1 hb1
      refine takeC (i := 6) (some 34) 13 #[.agg (loC ⟨l.s, l.nu, l.lv, A1, l.m, c1⟩), .agg (ajC a), .agg (heC ⟨(heA h l.s).s, (heA h l.s).nu, (heA h l.s).lv, (heA h l.s).ho, B1, (heA h l.s).m, d1, (heA h l.s).st, (heA h l.s).nm, (heA h l.s).th, (heA h l.s).tn⟩), .int .i64 now] (.tuple #[.agg (ajC R1.1), .int .i64 R1.2]) (R := fun w' => Below W10.heap.size W10 w') rfl rfl (by kernel_rfl) (by rfl) (by go_simp) (step_law l a (heA h l.s) now L H L1 H1 A1 B1 c1 d1 _ HYL.out HYA1.out HYH.out HYT.out HXL.out HXH.out (by have := HML.out; show l.m ≤ _; omega) (by have := HMH.out; show h.m ≤ _; omega) HSL.out HSH.out R1 HR1.out) (fun w' hb => ⟨hS.1.below hb hS.1.lt, hS.2.1.below hb hS.2.1.lt, hS.2.2.1.below hb hS.2.2.1.lt, hS.2.2.2.trans (hb.mono hS.2.2.2.size)⟩) ?_
      intro W11 hb1 hS2
      simp only [Act.put, List.setIfInBounds_toArray, List.set_cons_zero, List.set_cons_succ]
      have HXLn := Lib.hid (HXL.out.below hb1)
      clear HXL
      have HXL := HXLn
      clear HXLn
      have HXHn := Lib.hid (HXH.out.below hb1)
      clear HXH
      have HXH := HXHn
      clear HXHn
      have K4n := Lib.hid (K4.out.below hb1 K4.out.lt)
      clear K4
      have K4 := K4n
      clear K4n
      clear K1
      clear K2
      clear K3
      clear HB
      clear hS
      have hS := hS2
      clear hS2
      have K1 := Lib.hid hS.1
      have K2 := Lib.hid hS.2.1
      have K3 := Lib.hid hS.2.2.1
      have HB := Lib.hid hS.2.2.2
      clear HXL HXH HSL HSH
      clear hb1
      refine takeY (i := 7) (some 27) (v := .tuple #[.agg (ajC R1.1), .int .i64 R1.2]) rfl rfl (by kernel_rfl) (by kernel_rfl) (by kernel_rfl) (fun _ _ _ h => h) (by rfl) (fun w' hS => by go_simp) hS ?_
      simp only [Act.put, List.setIfInBounds_toArray, List.set_cons_zero, List.set_cons_succ]
      refine takeY (i := 8) (some 35) (v := .agg (ajC R1.1)) rfl rfl (by kernel_rfl) (by kernel_rfl) (by kernel_rfl) (fun _ _ _ h => h) (by rfl) (fun w' hS => by go_simp) hS ?_
      simp only [Act.put, List.setIfInBounds_toArray, List.set_cons_zero, List.set_cons_succ]
      refine takeY (i := 9) (some 36) (v := .int .i64 R1.2) rfl rfl (by kernel_rfl) (by kernel_rfl) (by kernel_rfl) (fun _ _ _ h => h) (by rfl) (fun w' hS => by go_simp) hS ?_
      simp only [Act.put, List.setIfInBounds_toArray, List.set_cons_zero, List.set_cons_succ]
      refine takeSt (i := 11) 36 (.tmp 9) (.tmp 35) M0 0 (.agg (ajC R1.1)) (ajC R1.1) (ajC R1.1) rfl rfl (by kernel_rfl) (by rfl) rfl rfl rfl rfl info_ajP (ajC_one _) K4.out (Nat.le_of_ble_eq_true rfl) (by kernel_rfl) ?_
      intro W12 q1
      refine ⟨⟨K1.out.far q1 (by omega), K2.out.far q1 (by omega), K3.out.far q1 (by omega), HB.out.trans (q1.2.1 _ (by omega))⟩, ?_⟩
      simp only [Act.put, List.setIfInBounds_toArray, List.set_cons_zero, List.set_cons_succ]
      have K4n : Hid (Blk 36 W12 M0 (ajC R1.1)) := Lib.hid q1.1
      clear K4
      have K4 := K4n
      clear K4n
      have K1n := Lib.hid (K1.out.far q1 (by omega))
      clear K1
      have K1 := K1n
      clear K1n
      have K2n := Lib.hid (K2.out.far q1 (by omega))
      clear K2
      have K2 := K2n
      clear K2n
      have K3n := Lib.hid (K3.out.far q1 (by omega))
      clear K3
      have K3 := K3n
      clear K3n
      have HBn := Lib.hid (HB.out.trans (q1.2.1 _ (by omega)))
      clear HB
      have HB := HBn
      clear HBn
      clear q1 hS
      have hS := (And.intro K1.out (And.intro K2.out (And.intro K3.out HB.out)))
      refine takeY (i := 12) (some 10) (v := .int .i64 R1.2) rfl rfl (by kernel_rfl) (by kernel_rfl) (by kernel_rfl) (fun _ _ _ h => h) (by rfl) (fun w' hS => by go_simp) hS ?_
      simp only [Act.put, List.setIfInBounds_toArray, List.set_cons_zero, List.set_cons_succ]
      clear hS
      refine wpAnyH_done (by kernel_rfl) ?_ _
      go_wp2_with fail
      go_meet
      case rel => exact ⟨M0, rfl, rfl, K4, lt_N1_M0, K1, lt_N2_M0, K2, lt_N3_M0, K3, le_HB_M0, HB⟩
  case rest =>
  clear K1
  clear K2
  clear K3
  clear HB
  obtain ⟨NK4, rfl, rfl, K4, lt_N1_NK4, K1, lt_N2_NK4, K2, lt_N3_NK4, K3, le_HB_NK4, HB⟩ := hcut
  obtain ⟨E, hE⟩ : ∃ E, R1.2 = E := ⟨_, rfl⟩
  have HPW := HP1.out
  rw [hE] at HPW ⊢
  have HPX := Lib.hid HPW
  clear hE HP1 HPW HR1
  have KEY : E = 12 ∨ (R1.1 = a ∧ (E = 0 ∨ E = 1 ∨ E = 2 ∨ E = 7)) := HPX.out
  clear HPX
  obtain ⟨wd, rfl⟩ : ∃ wd, wd = wc := ⟨_, rfl⟩
  go_upto_region 7 with (fail)
  go_cut [56] (fun s wx => s = .bool false ∧ wx = wd)
  case first =>
    rcases KEY with rfl | ⟨e1, hk⟩
    · skip
      go_wp2_with fail
      go_meet
      case rel => exact ⟨rfl, rfl⟩
    have HK4 := K4
    rw [e1] at HK4
    clear K4 e1
    have K4 := HK4
    clear HK4
    rcases hk with rfl | rfl | rfl | rfl
    · skip
      go_wp2_with (refine wpList_ld (op := ⟨some 52, _, _, _, _, _⟩) (by rfl) 36 (.tmp 9) rfl NK4 0 rfl (ajC a) _ K4.out.all Try.underlying36 rfl info_ajP ?_; refine Hid.out ?_)
      refine Lib.hid ?_
      go_wp2_with (refine wpList_ld (op := ⟨some 53, _, _, _, _, _⟩) (by rfl) 28 (.tmp 5) rfl N2 0 rfl (ajC a) _ K2.out.all Try.underlying28 rfl info_ajR ?_; refine Hid.out ?_)
      refine Lib.hid ?_
      go_wp2_with (refine wpList_gv (op := ⟨some 54, _, _, _, _, _⟩) _ (by rfl) (neq_self _ _ _ _ _ _ rfl rfl guard_ajP _ HSA.out rfl rfl _) ?_; refine Hid.out ?_)
      refine Lib.hid ?_
      go_wp2_with fail
      go_meet
      case rel => exact ⟨rfl, rfl⟩
    · skip
      go_wp2_with (refine wpList_ld (op := ⟨some 44, _, _, _, _, _⟩) (by rfl) 36 (.tmp 9) rfl NK4 0 rfl (ajC a) _ K4.out.all Try.underlying36 rfl info_ajP ?_; refine Hid.out ?_)
      refine Lib.hid ?_
      go_wp2_with (refine wpList_ld (op := ⟨some 45, _, _, _, _, _⟩) (by rfl) 28 (.tmp 5) rfl N2 0 rfl (ajC a) _ K2.out.all Try.underlying28 rfl info_ajR ?_; refine Hid.out ?_)
      refine Lib.hid ?_
      go_wp2_with (refine wpList_gv (op := ⟨some 46, _, _, _, _, _⟩) _ (by rfl) (neq_self _ _ _ _ _ _ rfl rfl guard_ajP _ HSA.out rfl rfl _) ?_; refine Hid.out ?_)
      refine Lib.hid ?_
      go_wp2_with fail
      go_meet
      case rel => exact ⟨rfl, rfl⟩
    · skip
      go_wp2_with (refine wpList_ld (op := ⟨some 44, _, _, _, _, _⟩) (by rfl) 36 (.tmp 9) rfl NK4 0 rfl (ajC a) _ K4.out.all Try.underlying36 rfl info_ajP ?_; refine Hid.out ?_)
      refine Lib.hid ?_
      go_wp2_with (refine wpList_ld (op := ⟨some 45, _, _, _, _, _⟩) (by rfl) 28 (.tmp 5) rfl N2 0 rfl (ajC a) _ K2.out.all Try.underlying28 rfl info_ajR ?_; refine Hid.out ?_)
      refine Lib.hid ?_
      go_wp2_with (refine wpList_gv (op := ⟨some 46, _, _, _, _, _⟩) _ (by rfl) (neq_self _ _ _ _ _ _ rfl rfl guard_ajP _ HSA.out rfl rfl _) ?_; refine Hid.out ?_)
      refine Lib.hid ?_
      go_wp2_with fail
      go_meet
      case rel => exact ⟨rfl, rfl⟩
    · skip
      go_wp2_with (refine wpList_ld (op := ⟨some 44, _, _, _, _, _⟩) (by rfl) 36 (.tmp 9) rfl NK4 0 rfl (ajC a) _ K4.out.all Try.underlying36 rfl info_ajP ?_; refine Hid.out ?_)
      refine Lib.hid ?_
      go_wp2_with (refine wpList_ld (op := ⟨some 45, _, _, _, _, _⟩) (by rfl) 28 (.tmp 5) rfl N2 0 rfl (ajC a) _ K2.out.all Try.underlying28 rfl info_ajR ?_; refine Hid.out ?_)
      refine Lib.hid ?_
      go_wp2_with (refine wpList_gv (op := ⟨some 46, _, _, _, _, _⟩) _ (by rfl) (neq_self _ _ _ _ _ _ rfl rfl guard_ajP _ HSA.out rfl rfl _) ?_; refine Hid.out ?_)
      refine Lib.hid ?_
      go_wp2_with fail
      go_meet
      case rel => exact ⟨rfl, rfl⟩
  case rest =>
  obtain ⟨rfl, hwx⟩ := hcut
  subst hwx
  go_wp2_with (refine wpList_st rfl 4 (.tmp 57) (.const (.bool false)) rfl N3 11 rfl (.bool false) (#[.bool false]) rfl rfl (by kernel_rfl) (by kernel_rfl) K3.out (Nat.le_of_ble_eq_true rfl) (C' := heC ⟨h.s, h.nu, h.lv, h.ho, h.A, h.m, h.c, h.st, false, flipT h.th l.s, h.tn⟩) (by kernel_rfl) ?_; intro w7 q1; refine Hid.out ?_)
  refine Lib.hid ?_
  have K1n := Lib.hid (K1.out.far q1 (by omega))
  clear K1
  have K1 := K1n
  clear K1n
  have K2n := Lib.hid (K2.out.far q1 (by omega))
  clear K2
  have K2 := K2n
  clear K2n
  have K4n := Lib.hid (K4.out.far q1 (by omega))
  clear K4
  have K4 := K4n
  clear K4n
  have HBn := Lib.hid (HB.out.trans (q1.2.1 _ (by omega)))
  clear HB
  have HB := HBn
  clear HBn
  have K3n : Hid (Blk 30 w7 N3 (heC ⟨h.s, h.nu, h.lv, h.ho, h.A, h.m, h.c, h.st, false, flipT h.th l.s, h.tn⟩)) := Lib.hid q1.1
  clear K3
  have K3 := K3n
  clear K3n q1
  go_wp2_with (refine wpList_st rfl 3 (.tmp 58) (.const (.int .i64 2)) rfl N3 10 rfl (.int .i64 2) (#[.int .i64 2]) rfl rfl (by kernel_rfl) (by kernel_rfl) K3.out (Nat.le_of_ble_eq_true rfl) (C' := heC (heB h l.s)) (by kernel_rfl) ?_; intro w8 q1; refine Hid.out ?_)
  refine Lib.hid ?_
  have K1n := Lib.hid (K1.out.far q1 (by omega))
  clear K1
  have K1 := K1n
  clear K1n
  have K2n := Lib.hid (K2.out.far q1 (by omega))
  clear K2
  have K2 := K2n
  clear K2n
  have K4n := Lib.hid (K4.out.far q1 (by omega))
  clear K4
  have K4 := K4n
  clear K4n
  have HBn := Lib.hid (HB.out.trans (q1.2.1 _ (by omega)))
  clear HB
  have HB := HBn
  clear HBn
  have K3n : Hid (Blk 30 w8 N3 (heC (heB h l.s))) := Lib.hid q1.1
  clear K3
  have K3 := K3n
  clear K3n q1
  go_wp2_with fail
  go_cut [11, 12] (fun s1 s2 wc => ∃ N, s1 = .pointer (some ⟨N, 0, none⟩) ∧ s2 = .int .i64 R2.2 ∧ Hid (Blk 36 wc N (ajC R2.1)) ∧ N1 < N ∧ Hid (Blk 26 wc N1 (loC l)) ∧ N2 < N ∧ Hid (Blk 28 wc N2 (ajC a)) ∧ N3 < N ∧ Hid (Blk 30 wc N3 (heC (heB h l.s))) ∧ NK4 < N ∧ Hid (Blk 36 wc NK4 (ajC R1.1)) ∧ w.heap.size ≤ N ∧ Hid (Below w.heap.size w wc))
  case first =>
    refine wp_region_held_drew (S := fun w' => Blk 26 w' N1 (loC l) ∧ Blk 28 w' N2 (ajC a) ∧ Blk 30 w' N3 (heC (heB h l.s)) ∧ Blk 36 w' NK4 (ajC R1.1) ∧ Below w.heap.size w w') (by kernel_rfl) ⟨K1.out, K2.out, K3.out, K4.out, HB.out.drew⟩ (fun hS => ?_)
    generalize hW9 : w8.drew = W9 at hS ⊢
    clear hW9
    clear K1
    clear K2
    clear K3
    clear K4
    clear HB
    have K1 := Lib.hid hS.1
    have K2 := Lib.hid hS.2.1
    have K3 := Lib.hid hS.2.2.1
    have K4 := Lib.hid hS.2.2.2.1
    have HB := Lib.hid hS.2.2.2.2
    refine takeL (i := 0) (some 60) 26 (.tmp 4) N1 0 (loC l) _ rfl rfl (by kernel_rfl) (by kernel_rfl) (by kernel_rfl) (fun _ _ _ h => h) (by rfl) rfl rfl (fun w' hS => hS.1.all) Try.underlying26 rfl info_loR hS ?_
    simp only [Act.put, List.setIfInBounds_toArray, List.set_cons_zero, List.set_cons_succ]
    refine takeL (i := 2) (some 62) 28 (.tmp 5) N2 0 (ajC a) _ rfl rfl (by kernel_rfl) (by kernel_rfl) (by kernel_rfl) (fun _ _ _ h => h) (by rfl) rfl rfl (fun w' hS => hS.2.1.all) Try.underlying28 rfl info_ajR hS ?_
    simp only [Act.put, List.setIfInBounds_toArray, List.set_cons_zero, List.set_cons_succ]
    refine takeL (i := 3) (some 63) 30 (.tmp 6) N3 0 (heC (heB h l.s)) _ rfl rfl (by kernel_rfl) (by kernel_rfl) (by kernel_rfl) (fun _ _ _ h => h) (by rfl) rfl rfl (fun w' hS => hS.2.2.1.all) Try.underlying30 rfl info_heR hS ?_
    simp only [Act.put, List.setIfInBounds_toArray, List.set_cons_zero, List.set_cons_succ]
    refine takeY (i := 5) (some 65) (v := .int .i64 now) rfl rfl (by kernel_rfl) (by kernel_rfl) (by kernel_rfl) (fun _ _ _ h => h) (by rfl) (fun w' hS => by go_simp) hS ?_
    simp only [Act.put, List.setIfInBounds_toArray, List.set_cons_zero, List.set_cons_succ]
    obtain ⟨M0, hM0⟩ : ∃ N, W9.heap.size = N := ⟨_, rfl⟩
    have HM0 := Lib.hid hM0
    clear hM0
    refine wpAnyH_ready (show Region.ready _ _ _ = [1, 10] from by kernel_rfl) (by simp) (consCE (i := 1) (some 61) 11 #[.agg (loC l)] (R := fun v w' => LocV W9 l L v w') rfl rfl (by rfl) (by go_simp) (local_v l L W9 (HRL.out.below HB.out) HML.out) (fun v w' h => by obtain ⟨A2, c2, L2, rfl, hr1, hs1, hb1⟩ := h; exact ⟨hS.1.below hb1 hS.1.lt, hS.2.1.below hb1 hS.2.1.lt, hS.2.2.1.below hb1 hS.2.2.1.lt, hS.2.2.2.1.below hb1 hS.2.2.2.1.lt, hS.2.2.2.2.trans (hb1.mono hS.2.2.2.2.size)⟩) ?_ (consMk (i := 10) (some 11) 36 (ajC aj0) rfl rfl (by rfl) rfl zero_ajP M0 HM0.out ?_ AllReadyH.nil))
    · skip
      clear HM0
      intro v W10 h hS2
      obtain ⟨A2, c2, L2, rfl, hr1, hs1, hb1⟩ := h
      simp only [Act.put, List.setIfInBounds_toArray, List.set_cons_zero, List.set_cons_succ]
      clear K1
      clear K2
      clear K3
      clear K4
      clear HB
      clear hS
      have hS := hS2
      clear hS2
      have K1 := Lib.hid hS.1
      have K2 := Lib.hid hS.2.1
      have K3 := Lib.hid hS.2.2.1
      have K4 := Lib.hid hS.2.2.2.1
      have HB := Lib.hid hS.2.2.2.2
      have HXL := Lib.hid hr1
      have HSL := Lib.hid hs1
      clear hr1 hs1 hb1
      obtain ⟨M1, hM1⟩ : ∃ N, W10.heap.size = N := ⟨_, rfl⟩
      have HM1 := Lib.hid hM1
      clear hM1
      refine wpAnyH_ready (show Region.ready _ _ _ = [4, 10] from by kernel_rfl) (by simp) (consCE (i := 4) (some 64) 12 #[.agg (heC (heB h l.s))] (R := fun v w' => HelV W10 (heB h l.s) H v w') rfl rfl (by rfl) (by go_simp) (hello_v (heB h l.s) H W10 (HRH.out.below HB.out) HMH.out) (fun v w' h => by obtain ⟨B2, d2, H2, rfl, hr1, hs1, hb1⟩ := h; exact ⟨hS.1.below hb1 hS.1.lt, hS.2.1.below hb1 hS.2.1.lt, hS.2.2.1.below hb1 hS.2.2.1.lt, hS.2.2.2.1.below hb1 hS.2.2.2.1.lt, hS.2.2.2.2.trans (hb1.mono hS.2.2.2.2.size)⟩) ?_ (consMk (i := 10) (some 11) 36 (ajC aj0) rfl rfl (by rfl) rfl zero_ajP M1 HM1.out ?_ AllReadyH.nil))
      · skip
        clear HM1
        intro v W11 h hS2
        obtain ⟨B2, d2, H2, rfl, hr1, hs1, hb1⟩ := h
        simp only [Act.put, List.setIfInBounds_toArray, List.set_cons_zero, List.set_cons_succ]
        have HXLn := Lib.hid (HXL.out.below hb1)
        clear HXL
        have HXL := HXLn
        clear HXLn
        clear K1
        clear K2
        clear K3
        clear K4
        clear HB
        clear hS
        have hS := hS2
        clear hS2
        have K1 := Lib.hid hS.1
        have K2 := Lib.hid hS.2.1
        have K3 := Lib.hid hS.2.2.1
        have K4 := Lib.hid hS.2.2.2.1
        have HB := Lib.hid hS.2.2.2.2
        have HXH := Lib.hid hr1
        have HSH := Lib.hid hs1
        clear hr1 hs1 hb1
        obtain ⟨M2, hM2⟩ : ∃ N, W11.heap.size = N := ⟨_, rfl⟩
        have HM2 := Lib.hid hM2
        clear hM2
        refine wpAnyH_ready (show Region.ready _ _ _ = [6, 10] from by kernel_rfl) (by simp) (consC (i := 6) (some 66) 13 #[.agg (loC ⟨l.s, l.nu, l.lv, A2, l.m, c2⟩), .agg (ajC a), .agg (heC ⟨(heB h l.s).s, (heB h l.s).nu, (heB h l.s).lv, (heB h l.s).ho, B2, (heB h l.s).m, d2, (heB h l.s).st, (heB h l.s).nm, (heB h l.s).th, (heB h l.s).tn⟩), .int .i64 now] (.tuple #[.agg (ajC R2.1), .int .i64 R2.2]) (R := fun w' => Below W11.heap.size W11 w') rfl rfl (by rfl) (by go_simp) (step_law l a (heB h l.s) now L H L2 H2 A2 B2 c2 d2 _ HYL.out HYA2.out HYH.out HYT.out HXL.out HXH.out (by have := HML.out; show l.m ≤ _; omega) (by have := HMH.out; show h.m ≤ _; omega) HSL.out HSH.out R2 HR2.out) (fun w' hb => ⟨hS.1.below hb hS.1.lt, hS.2.1.below hb hS.2.1.lt, hS.2.2.1.below hb hS.2.2.1.lt, hS.2.2.2.1.below hb hS.2.2.2.1.lt, hS.2.2.2.2.trans (hb.mono hS.2.2.2.2.size)⟩) ?_ (consMk (i := 10) (some 11) 36 (ajC aj0) rfl rfl (by rfl) rfl zero_ajP M2 HM2.out ?_ AllReadyH.nil))
        · skip
          clear HM2
          intro W12 hb1 hS2
          simp only [Act.put, List.setIfInBounds_toArray, List.set_cons_zero, List.set_cons_succ]
          have HXLn := Lib.hid (HXL.out.below hb1)
          clear HXL
          have HXL := HXLn
          clear HXLn
          have HXHn := Lib.hid (HXH.out.below hb1)
          clear HXH
          have HXH := HXHn
          clear HXHn
          clear K1
          clear K2
          clear K3
          clear K4
          clear HB
          clear hS
          have hS := hS2
          clear hS2
          have K1 := Lib.hid hS.1
          have K2 := Lib.hid hS.2.1
          have K3 := Lib.hid hS.2.2.1
          have K4 := Lib.hid hS.2.2.2.1
          have HB := Lib.hid hS.2.2.2.2
          clear HXL HXH HSL HSH
          clear hb1
          obtain ⟨M3, hM3⟩ : ∃ N, W12.heap.size = N := ⟨_, rfl⟩
          have HM3 := Lib.hid hM3
          clear hM3
          refine takeY (i := 7) (some 59) (v := .tuple #[.agg (ajC R2.1), .int .i64 R2.2]) rfl rfl (by kernel_rfl) (by kernel_rfl) (by kernel_rfl) (fun _ _ _ h => h) (by rfl) (fun w' hS => by go_simp) hS ?_
          simp only [Act.put, List.setIfInBounds_toArray, List.set_cons_zero, List.set_cons_succ]
          refine takeY (i := 8) (some 67) (v := .agg (ajC R2.1)) rfl rfl (by kernel_rfl) (by kernel_rfl) (by kernel_rfl) (fun _ _ _ h => h) (by rfl) (fun w' hS => by go_simp) hS ?_
          simp only [Act.put, List.setIfInBounds_toArray, List.set_cons_zero, List.set_cons_succ]
          refine takeY (i := 9) (some 68) (v := .int .i64 R2.2) rfl rfl (by kernel_rfl) (by kernel_rfl) (by kernel_rfl) (fun _ _ _ h => h) (by rfl) (fun w' hS => by go_simp) hS ?_
          simp only [Act.put, List.setIfInBounds_toArray, List.set_cons_zero, List.set_cons_succ]
          refine takeMk (i := 10) (some 11) 36 (ajC aj0) rfl rfl (by kernel_rfl) (by rfl) rfl zero_ajP M3 HM3.out ?_
          intro W13 k1 b1 s1
          refine ⟨⟨hS.1.below b1 hS.1.lt, hS.2.1.below b1 hS.2.1.lt, hS.2.2.1.below b1 hS.2.2.1.lt, hS.2.2.2.1.below b1 hS.2.2.2.1.lt, hS.2.2.2.2.trans (b1.mono hS.2.2.2.2.size)⟩, ?_⟩
          simp only [Act.put, List.setIfInBounds_toArray, List.set_cons_zero, List.set_cons_succ]
          have K5 := Lib.hid k1
          clear k1
          have lt_N1_M3 : N1 < M3 := by rw [← HM3.out]; exact K1.out.lt
          have lt_N2_M3 : N2 < M3 := by rw [← HM3.out]; exact K2.out.lt
          have lt_N3_M3 : N3 < M3 := by rw [← HM3.out]; exact K3.out.lt
          have lt_NK4_M3 : NK4 < M3 := by rw [← HM3.out]; exact K4.out.lt
          have le_HB_M3 : w.heap.size ≤ M3 := by rw [← HM3.out]; exact HB.out.size
          have K1n := Lib.hid (K1.out.below b1 K1.out.lt)
          clear K1
          have K1 := K1n
          clear K1n
          have K2n := Lib.hid (K2.out.below b1 K2.out.lt)
          clear K2
          have K2 := K2n
          clear K2n
          have K3n := Lib.hid (K3.out.below b1 K3.out.lt)
          clear K3
          have K3 := K3n
          clear K3n
          have K4n := Lib.hid (K4.out.below b1 K4.out.lt)
          clear K4
          have K4 := K4n
          clear K4n
          have HBn := Lib.hid (HB.out.trans (b1.mono HB.out.size))
          clear HB
          have HB := HBn
          clear HBn
          clear b1 HM3 hS
          have hS := (And.intro K1.out (And.intro K2.out (And.intro K3.out (And.intro K4.out HB.out))))
          refine takeSt (i := 11) 36 (.tmp 11) (.tmp 67) M3 0 (.agg (ajC R2.1)) (ajC R2.1) (ajC R2.1) rfl rfl (by kernel_rfl) (by rfl) rfl rfl rfl rfl info_ajP (ajC_one _) K5.out (Nat.le_of_ble_eq_true rfl) (by kernel_rfl) ?_
          intro W14 q1
          refine ⟨⟨K1.out.far q1 (by omega), K2.out.far q1 (by omega), K3.out.far q1 (by omega), K4.out.far q1 (by omega), HB.out.trans (q1.2.1 _ (by omega))⟩, ?_⟩
          simp only [Act.put, List.setIfInBounds_toArray, List.set_cons_zero, List.set_cons_succ]
          have K5n : Hid (Blk 36 W14 M3 (ajC R2.1)) := Lib.hid q1.1
          clear K5
          have K5 := K5n
          clear K5n
          have K1n := Lib.hid (K1.out.far q1 (by omega))
          clear K1
          have K1 := K1n
          clear K1n
          have K2n := Lib.hid (K2.out.far q1 (by omega))
          clear K2
          have K2 := K2n
          clear K2n
          have K3n := Lib.hid (K3.out.far q1 (by omega))
          clear K3
          have K3 := K3n
          clear K3n
          have K4n := Lib.hid (K4.out.far q1 (by omega))
          clear K4
          have K4 := K4n
          clear K4n
          have HBn := Lib.hid (HB.out.trans (q1.2.1 _ (by omega)))
          clear HB
          have HB := HBn
          clear HBn
          clear q1 hS
          have hS := (And.intro K1.out (And.intro K2.out (And.intro K3.out (And.intro K4.out HB.out))))
          refine takeY (i := 12) (some 12) (v := .int .i64 R2.2) rfl rfl (by kernel_rfl) (by kernel_rfl) (by kernel_rfl) (fun _ _ _ h => h) (by rfl) (fun w' hS => by go_simp) hS ?_
          simp only [Act.put, List.setIfInBounds_toArray, List.set_cons_zero, List.set_cons_succ]
          clear hS
          refine wpAnyH_done (by kernel_rfl) ?_ _
          go_wp2_with fail
          go_meet
          case rel => exact ⟨M3, rfl, rfl, K5, lt_N1_M3, K1, lt_N2_M3, K2, lt_N3_M3, K3, lt_NK4_M3, K4, le_HB_M3, HB⟩
        · skip
          intro W13 k1 b1 s1
          refine ⟨⟨hS.1.below b1 hS.1.lt, hS.2.1.below b1 hS.2.1.lt, hS.2.2.1.below b1 hS.2.2.1.lt, hS.2.2.2.1.below b1 hS.2.2.2.1.lt, hS.2.2.2.2.trans (b1.mono hS.2.2.2.2.size)⟩, ?_⟩
          simp only [Act.put, List.setIfInBounds_toArray, List.set_cons_zero, List.set_cons_succ]
          have K5 := Lib.hid k1
          clear k1
          have lt_N1_M2 : N1 < M2 := by rw [← HM2.out]; exact K1.out.lt
          have lt_N2_M2 : N2 < M2 := by rw [← HM2.out]; exact K2.out.lt
          have lt_N3_M2 : N3 < M2 := by rw [← HM2.out]; exact K3.out.lt
          have lt_NK4_M2 : NK4 < M2 := by rw [← HM2.out]; exact K4.out.lt
          have le_HB_M2 : w.heap.size ≤ M2 := by rw [← HM2.out]; exact HB.out.size
          have HXLn := Lib.hid (HXL.out.below b1)
          clear HXL
          have HXL := HXLn
          clear HXLn
          have HXHn := Lib.hid (HXH.out.below b1)
          clear HXH
          have HXH := HXHn
          clear HXHn
          have K1n := Lib.hid (K1.out.below b1 K1.out.lt)
          clear K1
          have K1 := K1n
          clear K1n
          have K2n := Lib.hid (K2.out.below b1 K2.out.lt)
          clear K2
          have K2 := K2n
          clear K2n
          have K3n := Lib.hid (K3.out.below b1 K3.out.lt)
          clear K3
          have K3 := K3n
          clear K3n
          have K4n := Lib.hid (K4.out.below b1 K4.out.lt)
          clear K4
          have K4 := K4n
          clear K4n
          have HBn := Lib.hid (HB.out.trans (b1.mono HB.out.size))
          clear HB
          have HB := HBn
          clear HBn
          clear b1 HM2 hS
          have hS := (And.intro K1.out (And.intro K2.out (And.intro K3.out (And.intro K4.out HB.out))))
          refine takeC (i := 6) (some 66) 13 #[.agg (loC ⟨l.s, l.nu, l.lv, A2, l.m, c2⟩), .agg (ajC a), .agg (heC ⟨(heB h l.s).s, (heB h l.s).nu, (heB h l.s).lv, (heB h l.s).ho, B2, (heB h l.s).m, d2, (heB h l.s).st, (heB h l.s).nm, (heB h l.s).th, (heB h l.s).tn⟩), .int .i64 now] (.tuple #[.agg (ajC R2.1), .int .i64 R2.2]) (R := fun w' => Below W13.heap.size W13 w') rfl rfl (by kernel_rfl) (by rfl) (by go_simp) (step_law l a (heB h l.s) now L H L2 H2 A2 B2 c2 d2 _ HYL.out HYA2.out HYH.out HYT.out HXL.out HXH.out (by have := HML.out; show l.m ≤ _; omega) (by have := HMH.out; show h.m ≤ _; omega) HSL.out HSH.out R2 HR2.out) (fun w' hb => ⟨hS.1.below hb hS.1.lt, hS.2.1.below hb hS.2.1.lt, hS.2.2.1.below hb hS.2.2.1.lt, hS.2.2.2.1.below hb hS.2.2.2.1.lt, hS.2.2.2.2.trans (hb.mono hS.2.2.2.2.size)⟩) ?_
          intro W14 hb1 hS2
          simp only [Act.put, List.setIfInBounds_toArray, List.set_cons_zero, List.set_cons_succ]
          have HXLn := Lib.hid (HXL.out.below hb1)
          clear HXL
          have HXL := HXLn
          clear HXLn
          have HXHn := Lib.hid (HXH.out.below hb1)
          clear HXH
          have HXH := HXHn
          clear HXHn
          have K5n := Lib.hid (K5.out.below hb1 K5.out.lt)
          clear K5
          have K5 := K5n
          clear K5n
          clear K1
          clear K2
          clear K3
          clear K4
          clear HB
          clear hS
          have hS := hS2
          clear hS2
          have K1 := Lib.hid hS.1
          have K2 := Lib.hid hS.2.1
          have K3 := Lib.hid hS.2.2.1
          have K4 := Lib.hid hS.2.2.2.1
          have HB := Lib.hid hS.2.2.2.2
          clear HXL HXH HSL HSH
          clear hb1
          refine takeY (i := 7) (some 59) (v := .tuple #[.agg (ajC R2.1), .int .i64 R2.2]) rfl rfl (by kernel_rfl) (by kernel_rfl) (by kernel_rfl) (fun _ _ _ h => h) (by rfl) (fun w' hS => by go_simp) hS ?_
          simp only [Act.put, List.setIfInBounds_toArray, List.set_cons_zero, List.set_cons_succ]
          refine takeY (i := 8) (some 67) (v := .agg (ajC R2.1)) rfl rfl (by kernel_rfl) (by kernel_rfl) (by kernel_rfl) (fun _ _ _ h => h) (by rfl) (fun w' hS => by go_simp) hS ?_
          simp only [Act.put, List.setIfInBounds_toArray, List.set_cons_zero, List.set_cons_succ]
          refine takeY (i := 9) (some 68) (v := .int .i64 R2.2) rfl rfl (by kernel_rfl) (by kernel_rfl) (by kernel_rfl) (fun _ _ _ h => h) (by rfl) (fun w' hS => by go_simp) hS ?_
          simp only [Act.put, List.setIfInBounds_toArray, List.set_cons_zero, List.set_cons_succ]
          refine takeSt (i := 11) 36 (.tmp 11) (.tmp 67) M2 0 (.agg (ajC R2.1)) (ajC R2.1) (ajC R2.1) rfl rfl (by kernel_rfl) (by rfl) rfl rfl rfl rfl info_ajP (ajC_one _) K5.out (Nat.le_of_ble_eq_true rfl) (by kernel_rfl) ?_
          intro W15 q1
          refine ⟨⟨K1.out.far q1 (by omega), K2.out.far q1 (by omega), K3.out.far q1 (by omega), K4.out.far q1 (by omega), HB.out.trans (q1.2.1 _ (by omega))⟩, ?_⟩
          simp only [Act.put, List.setIfInBounds_toArray, List.set_cons_zero, List.set_cons_succ]
          have K5n : Hid (Blk 36 W15 M2 (ajC R2.1)) := Lib.hid q1.1
          clear K5
          have K5 := K5n
          clear K5n
          have K1n := Lib.hid (K1.out.far q1 (by omega))
          clear K1
          have K1 := K1n
          clear K1n
          have K2n := Lib.hid (K2.out.far q1 (by omega))
          clear K2
          have K2 := K2n
          clear K2n
          have K3n := Lib.hid (K3.out.far q1 (by omega))
          clear K3
          have K3 := K3n
          clear K3n
          have K4n := Lib.hid (K4.out.far q1 (by omega))
          clear K4
          have K4 := K4n
          clear K4n
          have HBn := Lib.hid (HB.out.trans (q1.2.1 _ (by omega)))
          clear HB
          have HB := HBn
          clear HBn
          clear q1 hS
          have hS := (And.intro K1.out (And.intro K2.out (And.intro K3.out (And.intro K4.out HB.out))))
          refine takeY (i := 12) (some 12) (v := .int .i64 R2.2) rfl rfl (by kernel_rfl) (by kernel_rfl) (by kernel_rfl) (fun _ _ _ h => h) (by rfl) (fun w' hS => by go_simp) hS ?_
          simp only [Act.put, List.setIfInBounds_toArray, List.set_cons_zero, List.set_cons_succ]
          clear hS
          refine wpAnyH_done (by kernel_rfl) ?_ _
          go_wp2_with fail
          go_meet
          case rel => exact ⟨M2, rfl, rfl, K5, lt_N1_M2, K1, lt_N2_M2, K2, lt_N3_M2, K3, lt_NK4_M2, K4, le_HB_M2, HB⟩
      · skip
        intro W12 k1 b1 s1
        refine ⟨⟨hS.1.below b1 hS.1.lt, hS.2.1.below b1 hS.2.1.lt, hS.2.2.1.below b1 hS.2.2.1.lt, hS.2.2.2.1.below b1 hS.2.2.2.1.lt, hS.2.2.2.2.trans (b1.mono hS.2.2.2.2.size)⟩, ?_⟩
        simp only [Act.put, List.setIfInBounds_toArray, List.set_cons_zero, List.set_cons_succ]
        have K5 := Lib.hid k1
        clear k1
        have lt_N1_M1 : N1 < M1 := by rw [← HM1.out]; exact K1.out.lt
        have lt_N2_M1 : N2 < M1 := by rw [← HM1.out]; exact K2.out.lt
        have lt_N3_M1 : N3 < M1 := by rw [← HM1.out]; exact K3.out.lt
        have lt_NK4_M1 : NK4 < M1 := by rw [← HM1.out]; exact K4.out.lt
        have le_HB_M1 : w.heap.size ≤ M1 := by rw [← HM1.out]; exact HB.out.size
        have HXLn := Lib.hid (HXL.out.below b1)
        clear HXL
        have HXL := HXLn
        clear HXLn
        have K1n := Lib.hid (K1.out.below b1 K1.out.lt)
        clear K1
        have K1 := K1n
        clear K1n
        have K2n := Lib.hid (K2.out.below b1 K2.out.lt)
        clear K2
        have K2 := K2n
        clear K2n
        have K3n := Lib.hid (K3.out.below b1 K3.out.lt)
        clear K3
        have K3 := K3n
        clear K3n
        have K4n := Lib.hid (K4.out.below b1 K4.out.lt)
        clear K4
        have K4 := K4n
        clear K4n
        have HBn := Lib.hid (HB.out.trans (b1.mono HB.out.size))
        clear HB
        have HB := HBn
        clear HBn
        clear b1 HM1 hS
        have hS := (And.intro K1.out (And.intro K2.out (And.intro K3.out (And.intro K4.out HB.out))))
        refine takeCE (i := 4) (some 64) 12 #[.agg (heC (heB h l.s))] (R := fun v w' => HelV W12 (heB h l.s) H v w') rfl rfl (by kernel_rfl) (by rfl) (by go_simp) (hello_v (heB h l.s) H W12 (HRH.out.below HB.out) HMH.out) (fun v w' h => by obtain ⟨B2, d2, H2, rfl, hr1, hs1, hb1⟩ := h; exact ⟨hS.1.below hb1 hS.1.lt, hS.2.1.below hb1 hS.2.1.lt, hS.2.2.1.below hb1 hS.2.2.1.lt, hS.2.2.2.1.below hb1 hS.2.2.2.1.lt, hS.2.2.2.2.trans (hb1.mono hS.2.2.2.2.size)⟩) ?_
        intro v W13 h hS2
        obtain ⟨B2, d2, H2, rfl, hr1, hs1, hb1⟩ := h
        simp only [Act.put, List.setIfInBounds_toArray, List.set_cons_zero, List.set_cons_succ]
        have HXLn := Lib.hid (HXL.out.below hb1)
        clear HXL
        have HXL := HXLn
        clear HXLn
        have K5n := Lib.hid (K5.out.below hb1 K5.out.lt)
        clear K5
        have K5 := K5n
        clear K5n
        clear K1
        clear K2
        clear K3
        clear K4
        clear HB
        clear hS
        have hS := hS2
        clear hS2
        have K1 := Lib.hid hS.1
        have K2 := Lib.hid hS.2.1
        have K3 := Lib.hid hS.2.2.1
        have K4 := Lib.hid hS.2.2.2.1
        have HB := Lib.hid hS.2.2.2.2
        have HXH := Lib.hid hr1
        have HSH := Lib.hid hs1
        clear hr1 hs1 hb1
        refine takeC (i := 6) (some 66) 13 #[.agg (loC ⟨l.s, l.nu, l.lv, A2, l.m, c2⟩), .agg (ajC a), .agg (heC ⟨(heB h l.s).s, (heB h l.s).nu, (heB h l.s).lv, (heB h l.s).ho, B2, (heB h l.s).m, d2, (heB h l.s).st, (heB h l.s).nm, (heB h l.s).th, (heB h l.s).tn⟩), .int .i64 now] (.tuple #[.agg (ajC R2.1), .int .i64 R2.2]) (R := fun w' => Below W13.heap.size W13 w') rfl rfl (by kernel_rfl) (by rfl) (by go_simp) (step_law l a (heB h l.s) now L H L2 H2 A2 B2 c2 d2 _ HYL.out HYA2.out HYH.out HYT.out HXL.out HXH.out (by have := HML.out; show l.m ≤ _; omega) (by have := HMH.out; show h.m ≤ _; omega) HSL.out HSH.out R2 HR2.out) (fun w' hb => ⟨hS.1.below hb hS.1.lt, hS.2.1.below hb hS.2.1.lt, hS.2.2.1.below hb hS.2.2.1.lt, hS.2.2.2.1.below hb hS.2.2.2.1.lt, hS.2.2.2.2.trans (hb.mono hS.2.2.2.2.size)⟩) ?_
        intro W14 hb1 hS2
        simp only [Act.put, List.setIfInBounds_toArray, List.set_cons_zero, List.set_cons_succ]
        have HXLn := Lib.hid (HXL.out.below hb1)
        clear HXL
        have HXL := HXLn
        clear HXLn
        have HXHn := Lib.hid (HXH.out.below hb1)
        clear HXH
        have HXH := HXHn
        clear HXHn
        have K5n := Lib.hid (K5.out.below hb1 K5.out.lt)
        clear K5
        have K5 := K5n
        clear K5n
        clear K1
        clear K2
        clear K3
        clear K4
        clear HB
        clear hS
        have hS := hS2
        clear hS2
        have K1 := Lib.hid hS.1
        have K2 := Lib.hid hS.2.1
        have K3 := Lib.hid hS.2.2.1
        have K4 := Lib.hid hS.2.2.2.1
        have HB := Lib.hid hS.2.2.2.2
        clear HXL HXH HSL HSH
        clear hb1
        refine takeY (i := 7) (some 59) (v := .tuple #[.agg (ajC R2.1), .int .i64 R2.2]) rfl rfl (by kernel_rfl) (by kernel_rfl) (by kernel_rfl) (fun _ _ _ h => h) (by rfl) (fun w' hS => by go_simp) hS ?_
        simp only [Act.put, List.setIfInBounds_toArray, List.set_cons_zero, List.set_cons_succ]
        refine takeY (i := 8) (some 67) (v := .agg (ajC R2.1)) rfl rfl (by kernel_rfl) (by kernel_rfl) (by kernel_rfl) (fun _ _ _ h => h) (by rfl) (fun w' hS => by go_simp) hS ?_
        simp only [Act.put, List.setIfInBounds_toArray, List.set_cons_zero, List.set_cons_succ]
        refine takeY (i := 9) (some 68) (v := .int .i64 R2.2) rfl rfl (by kernel_rfl) (by kernel_rfl) (by kernel_rfl) (fun _ _ _ h => h) (by rfl) (fun w' hS => by go_simp) hS ?_
        simp only [Act.put, List.setIfInBounds_toArray, List.set_cons_zero, List.set_cons_succ]
        refine takeSt (i := 11) 36 (.tmp 11) (.tmp 67) M1 0 (.agg (ajC R2.1)) (ajC R2.1) (ajC R2.1) rfl rfl (by kernel_rfl) (by rfl) rfl rfl rfl rfl info_ajP (ajC_one _) K5.out (Nat.le_of_ble_eq_true rfl) (by kernel_rfl) ?_
        intro W15 q1
        refine ⟨⟨K1.out.far q1 (by omega), K2.out.far q1 (by omega), K3.out.far q1 (by omega), K4.out.far q1 (by omega), HB.out.trans (q1.2.1 _ (by omega))⟩, ?_⟩
        simp only [Act.put, List.setIfInBounds_toArray, List.set_cons_zero, List.set_cons_succ]
        have K5n : Hid (Blk 36 W15 M1 (ajC R2.1)) := Lib.hid q1.1
        clear K5
        have K5 := K5n
        clear K5n
        have K1n := Lib.hid (K1.out.far q1 (by omega))
        clear K1
        have K1 := K1n
        clear K1n
        have K2n := Lib.hid (K2.out.far q1 (by omega))
        clear K2
        have K2 := K2n
        clear K2n
        have K3n := Lib.hid (K3.out.far q1 (by omega))
        clear K3
        have K3 := K3n
        clear K3n
        have K4n := Lib.hid (K4.out.far q1 (by omega))
        clear K4
        have K4 := K4n
        clear K4n
        have HBn := Lib.hid (HB.out.trans (q1.2.1 _ (by omega)))
        clear HB
        have HB := HBn
        clear HBn
        clear q1 hS
        have hS := (And.intro K1.out (And.intro K2.out (And.intro K3.out (And.intro K4.out HB.out))))
        refine takeY (i := 12) (some 12) (v := .int .i64 R2.2) rfl rfl (by kernel_rfl) (by kernel_rfl) (by kernel_rfl) (fun _ _ _ h => h) (by rfl) (fun w' hS => by go_simp) hS ?_
        simp only [Act.put, List.setIfInBounds_toArray, List.set_cons_zero, List.set_cons_succ]
        clear hS
        refine wpAnyH_done (by kernel_rfl) ?_ _
        go_wp2_with fail
        go_meet
        case rel => exact ⟨M1, rfl, rfl, K5, lt_N1_M1, K1, lt_N2_M1, K2, lt_N3_M1, K3, lt_NK4_M1, K4, le_HB_M1, HB⟩
    · skip
      intro W11 k1 b1 s1
      refine ⟨⟨hS.1.below b1 hS.1.lt, hS.2.1.below b1 hS.2.1.lt, hS.2.2.1.below b1 hS.2.2.1.lt, hS.2.2.2.1.below b1 hS.2.2.2.1.lt, hS.2.2.2.2.trans (b1.mono hS.2.2.2.2.size)⟩, ?_⟩
      simp only [Act.put, List.setIfInBounds_toArray, List.set_cons_zero, List.set_cons_succ]
      have K5 := Lib.hid k1
      clear k1
      have lt_N1_M0 : N1 < M0 := by rw [← HM0.out]; exact K1.out.lt
      have lt_N2_M0 : N2 < M0 := by rw [← HM0.out]; exact K2.out.lt
      have lt_N3_M0 : N3 < M0 := by rw [← HM0.out]; exact K3.out.lt
      have lt_NK4_M0 : NK4 < M0 := by rw [← HM0.out]; exact K4.out.lt
      have le_HB_M0 : w.heap.size ≤ M0 := by rw [← HM0.out]; exact HB.out.size
      have K1n := Lib.hid (K1.out.below b1 K1.out.lt)
      clear K1
      have K1 := K1n
      clear K1n
      have K2n := Lib.hid (K2.out.below b1 K2.out.lt)
      clear K2
      have K2 := K2n
      clear K2n
      have K3n := Lib.hid (K3.out.below b1 K3.out.lt)
      clear K3
      have K3 := K3n
      clear K3n
      have K4n := Lib.hid (K4.out.below b1 K4.out.lt)
      clear K4
      have K4 := K4n
      clear K4n
      have HBn := Lib.hid (HB.out.trans (b1.mono HB.out.size))
      clear HB
      have HB := HBn
      clear HBn
      clear b1 HM0 hS
      have hS := (And.intro K1.out (And.intro K2.out (And.intro K3.out (And.intro K4.out HB.out))))
      refine takeCE (i := 1) (some 61) 11 #[.agg (loC l)] (R := fun v w' => LocV W11 l L v w') rfl rfl (by kernel_rfl) (by rfl) (by go_simp) (local_v l L W11 (HRL.out.below HB.out) HML.out) (fun v w' h => by obtain ⟨A2, c2, L2, rfl, hr1, hs1, hb1⟩ := h; exact ⟨hS.1.below hb1 hS.1.lt, hS.2.1.below hb1 hS.2.1.lt, hS.2.2.1.below hb1 hS.2.2.1.lt, hS.2.2.2.1.below hb1 hS.2.2.2.1.lt, hS.2.2.2.2.trans (hb1.mono hS.2.2.2.2.size)⟩) ?_
      intro v W12 h hS2
      obtain ⟨A2, c2, L2, rfl, hr1, hs1, hb1⟩ := h
      simp only [Act.put, List.setIfInBounds_toArray, List.set_cons_zero, List.set_cons_succ]
      have K5n := Lib.hid (K5.out.below hb1 K5.out.lt)
      clear K5
      have K5 := K5n
      clear K5n
      clear K1
      clear K2
      clear K3
      clear K4
      clear HB
      clear hS
      have hS := hS2
      clear hS2
      have K1 := Lib.hid hS.1
      have K2 := Lib.hid hS.2.1
      have K3 := Lib.hid hS.2.2.1
      have K4 := Lib.hid hS.2.2.2.1
      have HB := Lib.hid hS.2.2.2.2
      have HXL := Lib.hid hr1
      have HSL := Lib.hid hs1
      clear hr1 hs1 hb1
      refine takeCE (i := 4) (some 64) 12 #[.agg (heC (heB h l.s))] (R := fun v w' => HelV W12 (heB h l.s) H v w') rfl rfl (by kernel_rfl) (by rfl) (by go_simp) (hello_v (heB h l.s) H W12 (HRH.out.below HB.out) HMH.out) (fun v w' h => by obtain ⟨B2, d2, H2, rfl, hr1, hs1, hb1⟩ := h; exact ⟨hS.1.below hb1 hS.1.lt, hS.2.1.below hb1 hS.2.1.lt, hS.2.2.1.below hb1 hS.2.2.1.lt, hS.2.2.2.1.below hb1 hS.2.2.2.1.lt, hS.2.2.2.2.trans (hb1.mono hS.2.2.2.2.size)⟩) ?_
      intro v W13 h hS2
      obtain ⟨B2, d2, H2, rfl, hr1, hs1, hb1⟩ := h
      simp only [Act.put, List.setIfInBounds_toArray, List.set_cons_zero, List.set_cons_succ]
      have HXLn := Lib.hid (HXL.out.below hb1)
      clear HXL
      have HXL := HXLn
      clear HXLn
      have K5n := Lib.hid (K5.out.below hb1 K5.out.lt)
      clear K5
      have K5 := K5n
      clear K5n
      clear K1
      clear K2
      clear K3
      clear K4
      clear HB
      clear hS
      have hS := hS2
      clear hS2
      have K1 := Lib.hid hS.1
      have K2 := Lib.hid hS.2.1
      have K3 := Lib.hid hS.2.2.1
      have K4 := Lib.hid hS.2.2.2.1
      have HB := Lib.hid hS.2.2.2.2
      have HXH := Lib.hid hr1
      have HSH := Lib.hid hs1
      clear hr1 hs1 hb1
      refine takeC (i := 6) (some 66) 13 #[.agg (loC ⟨l.s, l.nu, l.lv, A2, l.m, c2⟩), .agg (ajC a), .agg (heC ⟨(heB h l.s).s, (heB h l.s).nu, (heB h l.s).lv, (heB h l.s).ho, B2, (heB h l.s).m, d2, (heB h l.s).st, (heB h l.s).nm, (heB h l.s).th, (heB h l.s).tn⟩), .int .i64 now] (.tuple #[.agg (ajC R2.1), .int .i64 R2.2]) (R := fun w' => Below W13.heap.size W13 w') rfl rfl (by kernel_rfl) (by rfl) (by go_simp) (step_law l a (heB h l.s) now L H L2 H2 A2 B2 c2 d2 _ HYL.out HYA2.out HYH.out HYT.out HXL.out HXH.out (by have := HML.out; show l.m ≤ _; omega) (by have := HMH.out; show h.m ≤ _; omega) HSL.out HSH.out R2 HR2.out) (fun w' hb => ⟨hS.1.below hb hS.1.lt, hS.2.1.below hb hS.2.1.lt, hS.2.2.1.below hb hS.2.2.1.lt, hS.2.2.2.1.below hb hS.2.2.2.1.lt, hS.2.2.2.2.trans (hb.mono hS.2.2.2.2.size)⟩) ?_
      intro W14 hb1 hS2
      simp only [Act.put, List.setIfInBounds_toArray, List.set_cons_zero, List.set_cons_succ]
      have HXLn := Lib.hid (HXL.out.below hb1)
      clear HXL
      have HXL := HXLn
      clear HXLn
      have HXHn := Lib.hid (HXH.out.below hb1)
      clear HXH
      have HXH := HXHn
      clear HXHn
      have K5n := Lib.hid (K5.out.below hb1 K5.out.lt)
      clear K5
      have K5 := K5n
      clear K5n
      clear K1
      clear K2
      clear K3
      clear K4
      clear HB
      clear hS
      have hS := hS2
      clear hS2
      have K1 := Lib.hid hS.1
      have K2 := Lib.hid hS.2.1
      have K3 := Lib.hid hS.2.2.1
      have K4 := Lib.hid hS.2.2.2.1
      have HB := Lib.hid hS.2.2.2.2
      clear HXL HXH HSL HSH
      clear hb1
      refine takeY (i := 7) (some 59) (v := .tuple #[.agg (ajC R2.1), .int .i64 R2.2]) rfl rfl (by kernel_rfl) (by kernel_rfl) (by kernel_rfl) (fun _ _ _ h => h) (by rfl) (fun w' hS => by go_simp) hS ?_
      simp only [Act.put, List.setIfInBounds_toArray, List.set_cons_zero, List.set_cons_succ]
      refine takeY (i := 8) (some 67) (v := .agg (ajC R2.1)) rfl rfl (by kernel_rfl) (by kernel_rfl) (by kernel_rfl) (fun _ _ _ h => h) (by rfl) (fun w' hS => by go_simp) hS ?_
      simp only [Act.put, List.setIfInBounds_toArray, List.set_cons_zero, List.set_cons_succ]
      refine takeY (i := 9) (some 68) (v := .int .i64 R2.2) rfl rfl (by kernel_rfl) (by kernel_rfl) (by kernel_rfl) (fun _ _ _ h => h) (by rfl) (fun w' hS => by go_simp) hS ?_
      simp only [Act.put, List.setIfInBounds_toArray, List.set_cons_zero, List.set_cons_succ]
      refine takeSt (i := 11) 36 (.tmp 11) (.tmp 67) M0 0 (.agg (ajC R2.1)) (ajC R2.1) (ajC R2.1) rfl rfl (by kernel_rfl) (by rfl) rfl rfl rfl rfl info_ajP (ajC_one _) K5.out (Nat.le_of_ble_eq_true rfl) (by kernel_rfl) ?_
      intro W15 q1
      refine ⟨⟨K1.out.far q1 (by omega), K2.out.far q1 (by omega), K3.out.far q1 (by omega), K4.out.far q1 (by omega), HB.out.trans (q1.2.1 _ (by omega))⟩, ?_⟩
      simp only [Act.put, List.setIfInBounds_toArray, List.set_cons_zero, List.set_cons_succ]
      have K5n : Hid (Blk 36 W15 M0 (ajC R2.1)) := Lib.hid q1.1
      clear K5
      have K5 := K5n
      clear K5n
      have K1n := Lib.hid (K1.out.far q1 (by omega))
      clear K1
      have K1 := K1n
      clear K1n
      have K2n := Lib.hid (K2.out.far q1 (by omega))
      clear K2
      have K2 := K2n
      clear K2n
      have K3n := Lib.hid (K3.out.far q1 (by omega))
      clear K3
      have K3 := K3n
      clear K3n
      have K4n := Lib.hid (K4.out.far q1 (by omega))
      clear K4
      have K4 := K4n
      clear K4n
      have HBn := Lib.hid (HB.out.trans (q1.2.1 _ (by omega)))
      clear HB
      have HB := HBn
      clear HBn
      clear q1 hS
      have hS := (And.intro K1.out (And.intro K2.out (And.intro K3.out (And.intro K4.out HB.out))))
      refine takeY (i := 12) (some 12) (v := .int .i64 R2.2) rfl rfl (by kernel_rfl) (by kernel_rfl) (by kernel_rfl) (fun _ _ _ h => h) (by rfl) (fun w' hS => by go_simp) hS ?_
      simp only [Act.put, List.setIfInBounds_toArray, List.set_cons_zero, List.set_cons_succ]
      clear hS
      refine wpAnyH_done (by kernel_rfl) ?_ _
      go_wp2_with fail
      go_meet
      case rel => exact ⟨M0, rfl, rfl, K5, lt_N1_M0, K1, lt_N2_M0, K2, lt_N3_M0, K3, lt_NK4_M0, K4, le_HB_M0, HB⟩
  case rest =>
  clear K1
  clear K2
  clear K3
  clear K4
  clear HB
  obtain ⟨NK5, rfl, rfl, K5, lt_N1_NK5, K1, lt_N2_NK5, K2, lt_N3_NK5, K3, lt_NK4_NK5, K4, le_HB_NK5, HB⟩ := hcut
  obtain ⟨F, hF⟩ : ∃ E, R2.2 = E := ⟨_, rfl⟩
  have HPV := HP2.out
  rw [hF] at HPV ⊢
  have HPY := Lib.hid HPV
  clear hF HP2 HPV HR2
  by_cases hf0 : F = 0
  · skip
    obtain ⟨e1, e2, e3, e4, e5⟩ := HPY.out hf0
    subst hf0
    clear HPY
    have c0 : wc.cell? ⟨NK5, 0, none⟩ = some (.int .i64 1) := by rw [← e1]; exact (K5.out.cell 0).trans rfl
    have c9 : wc.cell? ⟨NK5, 9, none⟩ = some (.int .i64 (now + h.ho)) := by rw [← e3]; exact (K5.out.cell 9).trans rfl
    have c8 : wc.cell? ⟨N3, 8, none⟩ = some (.int .i64 h.ho) := (K3.out.cell 8).trans rfl
    have HRP : Hid (wc.rangeAt NK5 1 (syC h.s).toList) := Lib.hid (by rw [← e2]; exact K5.out.ajp)
    have HS6 : Hid (eqY h.s h.s = true) := Lib.hid (by unfold eqY; simp)
    clear e1 e2 e3
    go_wp2_with (refine wpList_ld (op := ⟨some 77, _, _, _, _, _⟩) (by rfl) 23 (.tmp 76) rfl NK5 1 rfl (syC h.s) _ HRP.out Try.underlying23 rfl info_sys ?_; refine Hid.out ?_)
    refine Lib.hid ?_
    go_wp2_with (refine wpList_ld (op := ⟨some 79, _, _, _, _, _⟩) (by rfl) 23 (.tmp 78) rfl N3 0 rfl (syC h.s) _ K3.out.hes Try.underlying23 rfl info_sys ?_; refine Hid.out ?_)
    refine Lib.hid ?_
    go_wp2_with (refine wpList_gv (op := ⟨some 80, _, _, _, _, _⟩) _ (by rfl) (sys_eql _ _ _ _ _ rfl rfl h.s h.s HYH.out HYH.out rfl rfl _ HS6.out _) ?_; refine Hid.out ?_)
    refine Lib.hid ?_
    go_wp2_with fail
    go_ret
    exact ⟨rfl, HB.out⟩
  · have hfb : (F != 0) = true := by simpa using hf0
    clear HPY hf0
    go_wp2_with fail
    go_ret
    exact ⟨rfl, HB.out⟩
end Go.Proofs.Ythmnbhmficdifaa
