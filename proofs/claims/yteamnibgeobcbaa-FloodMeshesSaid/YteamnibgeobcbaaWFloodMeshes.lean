/- The walk of FloodMeshes: for every input the law returns true, and nothing that was there is written. No condition. -/
import Derived.Test.YteamnibgeobcbaaJMs
import Derived.Deep.QuietTactic
import Derived.BigQuiet
namespace Go.Proofs.Yteamnibgeobcbaa
open Go.RowKit
set_option linter.unusedVariables false

theorem mesh_n (len : Nat) : ∃ n : Nat, min (max (len : Int) 1) 8 = (n : Int) ∧ 1 ≤ n ∧ n ≤ 8 ∧ True := by
  refine ⟨min (max len 1) 8, by omega, by omega, by omega, trivial⟩
theorem xor_fin : ∀ d : Fin 256, bits BinOp.xor .u8 ((d : Nat) : Int) 1 = if (d : Nat) % 2 = 0 then ((d : Nat) : Int) + 1 else ((d : Nat) : Int) - 1 := by decide +kernel
theorem xor1 (x : Nat) : bits BinOp.xor .u8 (dg x 7) 1 = dg (own1 x) 7 := by
  rw [own1_7]
  have h := dg_bd x 7
  have h9 := xor_fin ⟨(dg x 7).toNat, by omega⟩
  simp only [Int.toNat_of_nonneg h.1] at h9
  rw [h9]
  have : ((dg x 7).toNat % 2 = 0) ↔ (dg x 7 % 2 = 0) := by omega
  simp only [this]
theorem info_u8m : (Try.prog.info? 5).map (·.size) = some 1 := by kernel_rfl
theorem one_u8m (b : Int) : (#[Value.int .u8 b]).all (·.oneCell') = true := by kernel_rfl
theorem hasT_mem (T : List IdT) (x : Nat) (hx : IdOk x) (S : Nat → Bool) (h : ∀ y : IdT, y ∈ T ↔ S y.1 = true) : hasT T x T.length = S x := by
  cases hs : S x with
  | true => exact hasT_all T x hx ((h ⟨x, hx⟩).2 hs)
  | false =>
    refine Bool.eq_false_iff.2 fun h9 => ?_
    unfold hasT at h9
    rw [List.take_length] at h9
    obtain ⟨y, hy, he⟩ := List.any_eq_true.1 h9
    have h8 := (h y).1 hy
    rw [eq_of_beq he, hs] at h8
    cases h8
def hsC (a b : Bool) : Array Value := #[.bool a, .bool b]
theorem zero_hs : (Try.prog.info? 48).map (·.zero) = some (some (.agg (hsC false false))) := by kernel_rfl
theorem info_boolm : (Try.prog.info? 4).map (·.size) = some 1 := by kernel_rfl
theorem one_boolm (b : Bool) : (#[Value.bool b]).all (·.oneCell') = true := by kernel_rfl
theorem mdrewN {B : Nat} {a w : World} (h : Below B a w) (m : Nat) : Below B a (w.drewN m) := ⟨h.os, h.tape, h.output, h.size, h.block⟩
set_option maxHeartbeats 400000000 in
set_option maxRecDepth 100000 in
theorem walkFloodMeshes (A : Option Addr) (len cap : Nat) (zs : List Int) (a1 : Int) (x : Nat) (w : World) (hI : IsRow .i8 w A len cap zs) (h1 : (Lit.int .i64 a1).wf = true) (hx : IdOk x) :
    Calls Try.prog 4 #[.slice A len cap, .int .i64 a1, .agg (idC x)] w fun e w' => e = .returned (.bool true) ∧ Below w.heap.size w w' := by
  have HX := Lib.hid hx
  clear hx
  have HZ := Lib.hid (isRow_i8 hI)
  clear hI
  obtain ⟨z, hz⟩ : ∃ z, (fun j => zs.getD j 0) = z := ⟨_, rfl⟩
  rw [hz] at HZ
  clear hz
  go_enter Try.func4, Try.ntmps4
  obtain ⟨NI, hNI⟩ : ∃ N, w.heap.size = N := ⟨_, rfl⟩
  have HNI := Lib.hid hNI
  clear hNI
  go_wp2_with (refine wpList_box (op := ⟨some 5, _, _, _, _, _⟩) rfl 28 (.tmp 2) rfl (idC x) rfl NI HNI.out ?_; intro w1 k1 b1 s1; refine Hid.out ?_)
  refine Lib.hid ?_
  have HKI := Lib.hid k1
  have HB := Lib.hid b1
  have hNI1 : w.heap.size ≤ NI := by rw [HNI.out]; exact Nat.le_refl _
  clear k1 b1 s1 HNI
  go_wp2_with fail
  refine (awake_any w1).mono ?_
  rintro e wa ⟨rfl, hb⟩
  have HBn := Lib.hid (HB.out.trans (hb.mono HB.out.size))
  have HKIn := Lib.hid (HKI.out.below hb HKI.out.lt)
  clear hb
  clear HB
  have HB := HBn
  clear HBn
  clear HKI
  have HKI := HKIn
  clear HKIn
  obtain ⟨n, hn, hn1, hn8, hnl⟩ := mesh_n len
  go_wp2_with fail
  have hnI : (n : Int) ≤ 8 := by omega
  clear hn
  refine (new_any wa n hn1 hn8).mono ?_
  rintro e wb ⟨g, ga, rfl, hf, hb⟩
  have HF := Lib.hid (hf.base (B' := w.heap.size) HB.out.size)
  have HBn := Lib.hid (HB.out.trans (hb.mono HB.out.size))
  have HKIn := Lib.hid (HKI.out.below hb HKI.out.lt)
  clear hb hf
  clear HB
  have HB := HBn
  clear HBn
  clear HKI
  have HKI := HKIn
  clear HKIn
  obtain ⟨NM, hNM⟩ : ∃ N, wb.heap.size = N := ⟨_, rfl⟩
  have HNM := Lib.hid hNM
  clear hNM
  go_wp2_with (refine wpList_new (op := ⟨some 10, _, _, _, _, _⟩) rfl 46 rfl (arM (mz z len) 0) (zero_ar _) NM HNM.out ?_; intro w3 k1 b1 s1; refine Hid.out ?_)
  refine Lib.hid ?_
  have HKM := Lib.hid k1
  have HFn := Lib.hid (HF.out.below b1)
  have HBn := Lib.hid (HB.out.trans (b1.mono HB.out.size))
  have HKIn := Lib.hid (HKI.out.below b1 HKI.out.lt)
  have hNM1 : w.heap.size ≤ NM := by rw [← HNM.out]; exact HB.out.size
  have hNIM : NI < NM := by rw [← HNM.out]; exact HKI.out.lt
  clear k1 b1 s1 HNM
  clear HF
  have HF := HFn
  clear HFn
  clear HB
  have HB := HBn
  clear HBn
  clear HKI
  have HKI := HKIn
  clear HKIn
  go_wp2_with fail
  go_loopw [34] (fun s wr => ∃ (j : Nat) (F : Nat → Option Cir), j ≤ n ∧ s = .int .i64 (j : Int) ∧ Hid (FlAt wr w.heap.size g ga n F 0) ∧ Hid (OpM F (mz z len) j n) ∧ Hid (Below w.heap.size w wr) ∧ Hid (Blk 28 wr NI (idC x)) ∧ Hid (Blk 46 wr NM (arM (mz z len) j))) (fun s _ => n - (intOf s).toNat)
  case atStart => exact ⟨0, _, by omega, rfl, HF, Lib.hid (OpM.start _ n), HB, HKI, HKM⟩
  case round =>
    clear HF HB HKI HKM
    obtain ⟨j, F, hj, rfl, HF, HO, HB, HKI, HKM⟩ := hrel
    by_cases hlt : j < n
    · skip
      have hji : (j : Int) < (n : Int) := by omega
      have hov : (j : Int) + 1 ≤ 9223372036854775807 := by omega
      have hj8 : j < 8 := by omega
      have hj8i : (j : Int) < 8 := by omega
      have hj0i : ¬ (j : Int) < 0 := by omega
      obtain ⟨m, hm⟩ : ∃ m, mz z len j = m := ⟨_, rfl⟩
      have HM := Lib.hid hm
      have hm1 : -1 ≤ m := by rw [← hm]; exact mz_ge z len j
      clear hm
      by_cases hjl : j < len
      · skip
        have hjli : (j : Int) < (len : Int) := by omega
        obtain ⟨b, off, rfl, hbs, hc⟩ := HZ.out.1 j hjl
        have cz : wr.cell? ⟨b, off + j, none⟩ = some (.int .i8 (z j)) := (HB.out.cell hbs).trans hc
        clear hbs hc
        have hzb := HZ.out.2.1 j
        obtain ⟨y, hy⟩ : ∃ y, z j = y := ⟨_, rfl⟩
        rw [hy] at cz hzb
        have hmy : max y (-1) = m := by rw [← HM.out]; unfold mz; rw [if_pos hjl, hy]; split <;> omega
        clear hy
        go_upto_region 12 with (fail)
        go_wp2_with (refine wpList_st rfl 3 (.tmp 48) (.tmp 47) rfl NM j rfl (.int .i64 m) #[.int .i64 m] rfl rfl info_int (one_int m) HKM.out (by show j + 1 ≤ 8; omega) (C' := arM (mz z len) (j + 1)) (by rw [← HM.out]; exact arM_put _ hj8) ?_; intro w4 q1; refine Hid.out ?_)
        refine Lib.hid ?_
        have HFn := Lib.hid (HF.out.far_ar HKM.out q1)
        have HBn := Lib.hid (HB.out.trans (q1.2.1 _ hNM1))
        have HKIn := Lib.hid (HKI.out.far q1 (by omega))
        have HKMn : Hid (Blk 46 w4 NM (arM (mz z len) (j + 1))) := Lib.hid q1.1
        clear q1 cz
        clear HF
        have HF := HFn
        clear HFn
        clear HB
        have HB := HBn
        clear HBn
        clear HKI
        have HKI := HKIn
        clear HKIn
        clear HKM
        have HKM := HKMn
        clear HKMn
        have cm : w4.cell? ⟨NM, j, none⟩ = some (.int .i64 m) := by rw [← HM.out]; exact (HKM.out.cell j).trans (arM_at _ _ hj8 (by omega))
        go_wp2_with fail
        have hopen : Calls Try.prog 9 #[.pointer (some ⟨g, 0, none⟩), .int .i64 (j : Int), .int .i64 m, .slice none 0 0] w4 fun e w' => e = .returned (.int .i64 0) ∧ ∃ F', FlAt w' w.heap.size g ga n F' 0 ∧ OpM F' (mz z len) (j + 1) n ∧ Below w.heap.size w4 w' ∧ KeptT w4 w' := by
          by_cases hneg : m = -1
          · subst hneg
            refine (open_blocked w4 HF.out j hlt (HO.out.2 j (Nat.le_refl _) hlt) none 0 0 (fun _ => 0) (.inl rfl) (fun j hj => by omega) (by decide) (by decide)).mono ?_
            rintro e w9 ⟨a, b, c, rfl, hf, hb, ht⟩
            exact ⟨rfl, _, hf, HO.out.step hlt HM.out.symm (fun y => rfl), hb, ht⟩
          · refine (open_at w4 HF.out j hlt (HO.out.2 j (Nat.le_refl _) hlt) m (by omega) none 0 0 (fun _ => 0) (.inl rfl) (fun j hj => by omega) (by decide) (by decide)).mono ?_
            rintro e w9 ⟨a, b, c, rfl, hf, hb, ht⟩
            exact ⟨rfl, _, hf, HO.out.step hlt HM.out.symm (openedM m a b c), hb, ht⟩
        refine hopen.mono ?_
        rintro e w9 ⟨rfl, F2, p1, p2, p3, p4⟩
        clear hopen
        have HFn := Lib.hid p1
        have HOn := Lib.hid p2
        have HBn := Lib.hid (HB.out.trans p3)
        have HKIn := Lib.hid (HKI.out.kept p4 (by decide))
        have HKMn := Lib.hid (HKM.out.kept p4 (by decide))
        clear p1 p2 p3 p4 cm HM
        clear HF
        have HF := HFn
        clear HFn
        clear HO
        have HO := HOn
        clear HOn
        clear HB
        have HB := HBn
        clear HBn
        clear HKI
        have HKI := HKIn
        clear HKIn
        clear HKM
        have HKM := HKMn
        clear HKMn
        go_wp2_with fail
        go_roundw
        case rel => exact ⟨j + 1, _, by omega, by simp, HF, HO, HB, HKI, HKM⟩
        case measure => simp [intOf]; omega
      · have hjli : ¬ (j : Int) < (len : Int) := by omega
        have HKMn : Hid (Blk 46 wr NM (arM (mz z len) (j + 1))) := Lib.hid (by rw [arM_same _ hj8 (by unfold mz; rw [if_neg hjl])]; exact HKM.out)
        clear HKM
        have HKM := HKMn
        clear HKMn
        have cm : wr.cell? ⟨NM, j, none⟩ = some (.int .i64 m) := by rw [← HM.out]; exact (HKM.out.cell j).trans (arM_at _ _ hj8 (by omega))
        go_wp2_with fail
        have hopen : Calls Try.prog 9 #[.pointer (some ⟨g, 0, none⟩), .int .i64 (j : Int), .int .i64 m, .slice none 0 0] wr fun e w' => e = .returned (.int .i64 0) ∧ ∃ F', FlAt w' w.heap.size g ga n F' 0 ∧ OpM F' (mz z len) (j + 1) n ∧ Below w.heap.size wr w' ∧ KeptT wr w' := by
          by_cases hneg : m = -1
          · subst hneg
            refine (open_blocked wr HF.out j hlt (HO.out.2 j (Nat.le_refl _) hlt) none 0 0 (fun _ => 0) (.inl rfl) (fun j hj => by omega) (by decide) (by decide)).mono ?_
            rintro e w9 ⟨a, b, c, rfl, hf, hb, ht⟩
            exact ⟨rfl, _, hf, HO.out.step hlt HM.out.symm (fun y => rfl), hb, ht⟩
          · refine (open_at wr HF.out j hlt (HO.out.2 j (Nat.le_refl _) hlt) m (by omega) none 0 0 (fun _ => 0) (.inl rfl) (fun j hj => by omega) (by decide) (by decide)).mono ?_
            rintro e w9 ⟨a, b, c, rfl, hf, hb, ht⟩
            exact ⟨rfl, _, hf, HO.out.step hlt HM.out.symm (openedM m a b c), hb, ht⟩
        refine hopen.mono ?_
        rintro e w9 ⟨rfl, F2, p1, p2, p3, p4⟩
        clear hopen
        have HFn := Lib.hid p1
        have HOn := Lib.hid p2
        have HBn := Lib.hid (HB.out.trans p3)
        have HKIn := Lib.hid (HKI.out.kept p4 (by decide))
        have HKMn := Lib.hid (HKM.out.kept p4 (by decide))
        clear p1 p2 p3 p4 cm HM
        clear HF
        have HF := HFn
        clear HFn
        clear HO
        have HO := HOn
        clear HOn
        clear HB
        have HB := HBn
        clear HBn
        clear HKI
        have HKI := HKIn
        clear HKIn
        clear HKM
        have HKM := HKMn
        clear HKMn
        go_wp2_with fail
        go_roundw
        case rel => exact ⟨j + 1, _, by omega, by simp, HF, HO, HB, HKI, HKM⟩
        case measure => simp [intOf]; omega
    · obtain rfl : j = n := by omega
      go_upto_region 17 with (fail)
      obtain ⟨c, hc, hcn⟩ := pick_c a1 j hn1 hn8
      rw [hc]
      have HC := Lib.hid hc
      clear hc
      have hc8 : c < 8 := by omega
      have hc8i : (c : Int) < 8 := by omega
      have hc0i : ¬ (c : Int) < 0 := by omega
      obtain ⟨d, hd, hdm, _⟩ := HO.out.1 c hcn
      have HD := Lib.hid hd
      clear hd
      go_wp2_with (refine wpList_ld (op := ⟨some 63, _, _, _, _, _⟩) (by rfl) 28 (.tmp 5) rfl NI 0 rfl (idC x) _ HKI.out.all Try.underlying28 rfl info_id ?_; refine Hid.out ?_)
      refine Lib.hid ?_
      obtain ⟨NO, hNO⟩ : ∃ N, wr.heap.size = N := ⟨_, rfl⟩
      have HNO := Lib.hid hNO
      clear hNO
      go_wp2_with (refine wpList_new (op := ⟨some 12, _, _, _, _, _⟩) rfl 28 rfl (idC 0) zero_id NO HNO.out ?_; intro w4 k1 b1 s1; refine Hid.out ?_)
      refine Lib.hid ?_
      go_wp2_with (refine wpList_st rfl 28 (.tmp 12) (.tmp 63) rfl NO 0 rfl (.agg (idC x)) (idC x) rfl rfl info_id (idC_one x) k1 (Nat.le_of_ble_eq_true rfl) (C' := idC x) (by kernel_rfl) ?_; intro w5 q1; refine Hid.out ?_)
      refine Lib.hid ?_
      have hb2 : Below wr.heap.size wr w5 := b1.trans (q1.2.1 _ (by rw [HNO.out]; exact Nat.le_refl _))
      have hq1 : Blk 28 w5 NO (idC x) := q1.1
      clear k1 b1 s1 q1
      have c7 : w5.cell? ⟨NO, 7, none⟩ = some (.int .u8 (dg x 7)) := (hq1.cell 7).trans rfl
      obtain ⟨d7, hd7⟩ : ∃ d7, dg x 7 = d7 := ⟨_, rfl⟩
      rw [hd7] at c7
      have hdb : 0 ≤ d7 ∧ d7 ≤ 255 := by rw [← hd7]; exact dg_bd x 7
      have H7 := Lib.hid hd7
      clear hd7
      obtain ⟨e7, he7⟩ : ∃ e7, bits BinOp.xor IntKind.u8 d7 1 = e7 := ⟨_, rfl⟩
      have HE7 : Hid (dg (own1 x) 7 = e7) := Lib.hid (by rw [← he7, ← H7.out, xor1])
      go_wp2_with (refine wpList_st rfl 5 (.tmp 67) (.tmp 66) rfl NO 7 rfl (.int .u8 e7) #[.int .u8 e7] rfl rfl info_u8m (one_u8m e7) hq1 (Nat.le_of_ble_eq_true rfl) (C' := idC (own1 x)) (by rw [← HE7.out]; exact own1_put x) ?_; intro w6 q1; refine Hid.out ?_)
      refine Lib.hid ?_
      have hb3 : Below wr.heap.size wr w6 := hb2.trans (q1.2.1 _ (by rw [HNO.out]; exact Nat.le_refl _))
      have HKO : Hid (Blk 28 w6 NO (idC (own1 x))) := Lib.hid q1.1
      have HFn := Lib.hid (HF.out.below hb3)
      have HBn := Lib.hid (HB.out.trans (hb3.mono HB.out.size))
      have HKIn := Lib.hid (HKI.out.below hb3 HKI.out.lt)
      have HKMn := Lib.hid (HKM.out.below hb3 HKM.out.lt)
      clear hb2 hb3 hq1 q1 c7 he7 HE7 H7 hdb HNO
      clear HF
      have HF := HFn
      clear HFn
      clear HB
      have HB := HBn
      clear HBn
      clear HKI
      have HKI := HKIn
      clear HKIn
      clear HKM
      have HKM := HKMn
      clear HKMn
      go_wp2_with (refine wpList_ld (op := ⟨some 70, _, _, _, _, _⟩) (by rfl) 28 (.tmp 5) rfl NI 0 rfl (idC x) _ HKI.out.all Try.underlying28 rfl info_id ?_; refine Hid.out ?_)
      refine Lib.hid ?_
      go_wp2_with fail
      refine (took_new w6 HF.out c hcn d HD.out x HX.out).mono ?_
      rintro e w7 ⟨rfl, hf, hb, ht⟩
      have HFn := Lib.hid hf
      have HBn := Lib.hid (HB.out.trans hb)
      have HKIn := Lib.hid (HKI.out.kept ht (by decide))
      have HKMn := Lib.hid (HKM.out.kept ht (by decide))
      have HKOn := Lib.hid (HKO.out.kept ht (by decide))
      clear hf hb ht
      clear HF
      have HF := HFn
      clear HFn
      clear HB
      have HB := HBn
      clear HBn
      clear HKI
      have HKI := HKIn
      clear HKIn
      clear HKM
      have HKM := HKMn
      clear HKMn
      clear HKO
      have HKO := HKOn
      clear HKOn
      go_wp2_with (refine wpList_ld (op := ⟨some 75, _, _, _, _, _⟩) (by rfl) 28 (.tmp 12) rfl NO 0 rfl (idC (own1 x)) _ HKO.out.all Try.underlying28 rfl info_id ?_; refine Hid.out ?_)
      refine Lib.hid ?_
      go_wp2_with fail
      refine (took_own w7 HF.out (own1 x) (own1_ok HX.out)).mono ?_
      rintro e w8 ⟨rfl, hf, hb, ht⟩
      have HFn := Lib.hid hf
      have HBn := Lib.hid (HB.out.trans hb)
      have HKIn := Lib.hid (HKI.out.kept ht (by decide))
      have HKMn := Lib.hid (HKM.out.kept ht (by decide))
      have HKOn := Lib.hid (HKO.out.kept ht (by decide))
      clear hf hb ht
      clear HF
      have HF := HFn
      clear HFn
      clear HB
      have HB := HBn
      clear HBn
      clear HKI
      have HKI := HKIn
      clear HKIn
      clear HKM
      have HKM := HKMn
      clear HKMn
      clear HKO
      have HKO := HKOn
      clear HKOn
      have HS := Lib.hid (snd_new HO.out hcn (own1_ne x) d HD.out)
      obtain ⟨F9, hF9⟩ : ∃ F9, sprJ (updF (sprJ F x (some c) (some d.mesh) j) c (some (cAdM (cDrS d x) x))) (own1 x) none none j = F9 := ⟨_, rfl⟩
      rw [hF9] at HF HS
      clear hF9 HO HD hdm
      go_wp2_with fail
      obtain ⟨K, hK⟩ : ∃ K, 0 + j + 1 + j = K := ⟨_, rfl⟩
      have hK8 : K * 8 ≤ 140737488355328 := by omega
      rw [hK] at HF
      clear hK
      go_loopw [80] (fun s wr => ∃ q : Nat, q ≤ j ∧ s = .int .i64 (q : Int) ∧ Hid (FlAt wr w.heap.size g ga j F9 K) ∧ Hid (Below w.heap.size w wr) ∧ Hid (Blk 28 wr NI (idC x)) ∧ Hid (Blk 46 wr NM (arM (mz z len) j)) ∧ Hid (Blk 28 wr NO (idC (own1 x)))) (fun s _ => j - (intOf s).toNat)
      case atStart => exact ⟨0, by omega, rfl, HF, HB, HKI, HKM, HKO⟩
      case round =>
        clear HF HB HKI HKM HKO
        obtain ⟨q, hq, rfl, HF, HB, HKI, HKM, HKO⟩ := hrel
        by_cases hlt : q < j
        · skip
          have hqi : (q : Int) < (j : Int) := by omega
          have hqo : (q : Int) + 1 ≤ 9223372036854775807 := by omega
          obtain ⟨dq, hdq, hs1, hs2⟩ := HS.out q hlt
          have HDQ := Lib.hid hdq
          have HS1 := Lib.hid hs1
          have HS2 := Lib.hid hs2
          clear hdq hs1 hs2
          go_wp2_with fail
          refine (sends_at wr HF.out q hlt dq HDQ.out hK8).mono ?_
          rintro e w9 ⟨v, T, rfl, hl, hf, hb, ht⟩
          have HTT := Lib.hid (show (∀ y : IdT, y ∈ T ↔ dq.send y.1 = true) ∧ T.length ≤ K from ⟨hl.2.2.1, hl.2.2.2⟩)
          obtain ⟨AT, ct, rfl, _, _, _, hrt⟩ := hl.1.slice (recs_idt _)
          have HRT := Lib.hid hrt
          have HFn := Lib.hid hf
          have HBn := Lib.hid (HB.out.trans hb)
          have HKIn := Lib.hid (HKI.out.kept ht (by decide))
          have HKMn := Lib.hid (HKM.out.kept ht (by decide))
          have HKOn := Lib.hid (HKO.out.kept ht (by decide))
          clear hf hb ht hl hrt HDQ
          clear HF
          have HF := HFn
          clear HFn
          clear HB
          have HB := HBn
          clear HBn
          clear HKI
          have HKI := HKIn
          clear HKIn
          clear HKM
          have HKM := HKMn
          clear HKMn
          clear HKO
          have HKO := HKOn
          clear HKOn
          obtain ⟨nT, hnT⟩ : ∃ m, T.length = m := ⟨_, rfl⟩
          have HNT2 := Lib.hid hnT
          rw [hnT] at HRT ⊢
          have hnk : nT ≤ K := by rw [← hnT]; exact HTT.out.2
          clear hnT
          obtain ⟨NH, hNH⟩ : ∃ N, w9.heap.size = N := ⟨_, rfl⟩
          have HNH := Lib.hid hNH
          clear hNH
          go_wp2_with (refine wpList_new (op := ⟨some 16, _, _, _, _, _⟩) rfl 48 rfl (hsC false false) zero_hs NH HNH.out ?_; intro w10 k1 b1 s1; refine Hid.out ?_)
          refine Lib.hid ?_
          have HKH : Hid (Blk 48 w10 NH (hsC (hasT T x 0) (hasT T (own1 x) 0))) := Lib.hid (by simpa [hasT] using k1)
          have HBX := Lib.hid b1
          clear k1 b1 s1
          go_wp2_with fail
          go_loopw [91] (fun s wr => ∃ p : Nat, p ≤ nT ∧ s = .int .i64 (p : Int) ∧ Hid (Blk 48 wr NH (hsC (hasT T x p) (hasT T (own1 x) p))) ∧ Hid (Below w9.heap.size w9 wr)) (fun s _ => nT - (intOf s).toNat)
          case atStart => exact ⟨0, by omega, rfl, HKH, HBX⟩
          case round =>
            clear HKH HBX
            obtain ⟨p, hp, rfl, HKH, HBX⟩ := hrel
            by_cases hpl : p < nT
            · skip
              have hpi : (p : Int) < (nT : Int) := by omega
              have hpo : (p : Int) + 1 ≤ 9223372036854775807 := by omega
              have hpT : p < T.length := by rw [HNT2.out]; exact hpl
              obtain ⟨y, hy⟩ : ∃ y : IdT, T[p] = y := ⟨_, rfl⟩
              have HY := Lib.hid hy
              obtain ⟨bt, ot, rfl, hrr⟩ := HRT.out.row (by omega)
              have hrg : Hid (wr.rangeAt bt (ot + p * 8) (idC y.1).toList) := Lib.hid (by have h9 := rangeAt_below (hrr.2 p hpl) HBX.out hrr.1; rw [idtA_at T p y (by rw [List.getElem?_eq_getElem hpT, hy])] at h9; exact h9)
              clear hrr hy
              obtain ⟨zz, hzz⟩ : ∃ zz : Nat, y.1 = zz := ⟨_, rfl⟩
              rw [hzz] at hrg
              have HZZ := Lib.hid hzz
              have hzo : IdOk zz := by rw [← hzz]; exact y.2
              clear hzz
              go_wp2_with (refine wpList_ld (op := ⟨some 94, _, _, _, _, _⟩) (by rfl) 28 (.tmp 93) rfl bt (ot + p * 8) rfl (idC zz) _ hrg.out Try.underlying28 rfl info_id ?_; refine Hid.out ?_)
              refine Lib.hid ?_
              clear hrg
              obtain ⟨N2, hN2⟩ : ∃ N, wr.heap.size = N := ⟨_, rfl⟩
              have HN2 := Lib.hid hN2
              clear hN2
              go_wp2_with (refine wpList_new (op := ⟨some 18, _, _, _, _, _⟩) rfl 28 rfl (idC 0) zero_id N2 HN2.out ?_; intro w11 k1 b1 s1; refine Hid.out ?_)
              refine Lib.hid ?_
              go_wp2_with (refine wpList_st rfl 28 (.tmp 18) (.tmp 94) rfl N2 0 rfl (.agg (idC zz)) (idC zz) rfl rfl info_id (idC_one zz) k1 (Nat.le_of_ble_eq_true rfl) (C' := idC zz) (by kernel_rfl) ?_; intro w12 q1; refine Hid.out ?_)
              refine Lib.hid ?_
              have hb2 : Below wr.heap.size wr w12 := b1.trans (q1.2.1 _ (by rw [HN2.out]; exact Nat.le_refl _))
              have HK2 : Hid (Blk 28 w12 N2 (idC zz)) := Lib.hid q1.1
              have hNH2 : NH < N2 := by rw [← HN2.out]; exact HKH.out.lt
              have HKHn := Lib.hid (HKH.out.below hb2 HKH.out.lt)
              have HBXn := Lib.hid (HBX.out.trans (hb2.mono HBX.out.size))
              clear k1 b1 s1 q1 hb2 HN2
              clear HKH
              have HKH := HKHn
              clear HKHn
              clear HBX
              have HBX := HBXn
              clear HBXn
              obtain ⟨b0, hb0⟩ : ∃ b, hasT T x p = b := ⟨_, rfl⟩
              obtain ⟨b1, hb1⟩ : ∃ b, hasT T (own1 x) p = b := ⟨_, rfl⟩
              rw [hb0, hb1] at HKH
              obtain ⟨q0, hq0⟩ : ∃ q, (zz == x) = q := ⟨_, rfl⟩
              obtain ⟨q1, hq1⟩ : ∃ q, (zz == own1 x) = q := ⟨_, rfl⟩
              have HQ0 := Lib.hid hq0
              have HQ1 := Lib.hid hq1
              have S0 : Hid (hasT T x (p + 1) = (b0 || q0)) := Lib.hid (by rw [hasT_succ T x p hpT, hb0, HY.out, HZZ.out, hq0])
              have S1 : Hid (hasT T (own1 x) (p + 1) = (b1 || q1)) := Lib.hid (by rw [hasT_succ T _ p hpT, hb1, HY.out, HZZ.out, hq1])
              clear hb0 hb1 hq0 hq1 HY HZZ
              have hxo := own1_ok HX.out
              have HXO := Lib.hid hxo
              have HZO := Lib.hid hzo
              clear hxo hzo
              have hn9 : w9.heap.size ≤ NH := by rw [HNH.out]; exact Nat.le_refl _
              have HKIw := Lib.hid (HKI.out.below (HBX.out) HKI.out.lt)
              have HKOw := Lib.hid (HKO.out.below (HBX.out) HKO.out.lt)
              have hIH : NI ≠ NH := by have := HKI.out.lt; rw [HNH.out] at this; omega
              have hOH : NO ≠ NH := by have := HKO.out.lt; rw [HNH.out] at this; omega
              go_upto_region 29 with (fail)
              have cb : w12.cell? ⟨NH, 0, none⟩ = some (.bool b0) := (HKH.out.cell 0).trans rfl
              cases b0 with
              | true =>
                go_wp2_with (refine wpList_st rfl 4 (.tmp 102) (.tmp 101) rfl NH 0 rfl (.bool true) #[.bool true] rfl rfl info_boolm (one_boolm true) HKH.out (Nat.le_of_ble_eq_true rfl) (C' := hsC true b1) (by rfl) ?_; intro w13 q2; refine Hid.out ?_)
                refine Lib.hid ?_
                have HKHn : Hid (Blk 48 w13 NH (hsC true b1)) := Lib.hid q2.1
                have HBXn := Lib.hid (HBX.out.trans (q2.2.1 _ hn9))
                have HKIwn := Lib.hid (HKIw.out.far q2 hIH)
                have HKOwn := Lib.hid (HKOw.out.far q2 hOH)
                have HK2n := Lib.hid (HK2.out.far q2 (by omega))
                clear q2 cb
                clear HKH
                have HKH := HKHn
                clear HKHn
                clear HBX
                have HBX := HBXn
                clear HBXn
                clear HKIw
                have HKIw := HKIwn
                clear HKIwn
                clear HKOw
                have HKOw := HKOwn
                clear HKOwn
                clear HK2
                have HK2 := HK2n
                clear HK2n
                obtain ⟨B0, hB0⟩ : ∃ B, (true : Bool) = B := ⟨_, rfl⟩
                have hS0 : Hid (hasT T x (p + 1) = B0) := Lib.hid (by rw [S0.out, ← hB0]; rfl)
                rw [hB0] at HKH
                clear hB0 S0
                have S0 := hS0
                clear hS0
                go_upto_region 30 with (fail)
                have cb : w13.cell? ⟨NH, 1, none⟩ = some (.bool b1) := (HKH.out.cell 1).trans rfl
                cases b1 with
                | true =>
                  go_wp2_with (refine wpList_st rfl 4 (.tmp 110) (.tmp 109) rfl NH 1 rfl (.bool true) #[.bool true] rfl rfl info_boolm (one_boolm true) HKH.out (Nat.le_of_ble_eq_true rfl) (C' := hsC B0 true) (by rfl) ?_; intro w14 q2; refine Hid.out ?_)
                  refine Lib.hid ?_
                  have HKHn : Hid (Blk 48 w14 NH (hsC B0 true)) := Lib.hid q2.1
                  have HBXn := Lib.hid (HBX.out.trans (q2.2.1 _ hn9))
                  have HKIwn := Lib.hid (HKIw.out.far q2 hIH)
                  have HKOwn := Lib.hid (HKOw.out.far q2 hOH)
                  have HK2n := Lib.hid (HK2.out.far q2 (by omega))
                  clear q2 cb
                  clear HKH
                  have HKH := HKHn
                  clear HKHn
                  clear HBX
                  have HBX := HBXn
                  clear HBXn
                  clear HKIw
                  have HKIw := HKIwn
                  clear HKIwn
                  clear HKOw
                  have HKOw := HKOwn
                  clear HKOwn
                  clear HK2
                  have HK2 := HK2n
                  clear HK2n
                  go_wp2_with fail
                  go_roundw
                  case rel => exact ⟨p + 1, by omega, by simp, by rw [S0.out, S1.out]; exact HKH, HBX⟩
                  case measure => simp [intOf]; omega
                | false =>
                  go_wp2_with (refine wpList_ld (op := ⟨some 106, _, _, _, _, _⟩) (by rfl) 28 (.tmp 18) rfl N2 0 rfl (idC zz) _ HK2.out.all Try.underlying28 rfl info_id ?_; refine Hid.out ?_)
                  refine Lib.hid ?_
                  go_wp2_with (refine wpList_ld (op := ⟨some 107, _, _, _, _, _⟩) (by rfl) 28 (.tmp 12) rfl NO 0 rfl (idC (own1 x)) _ HKOw.out.all Try.underlying28 rfl info_id ?_; refine Hid.out ?_)
                  refine Lib.hid ?_
                  go_wp2_with (refine wpList_gv (op := ⟨some 108, _, _, _, _, _⟩) (.bool q1) (by rfl) (eql_idq _ _ (.tmp 106) (.tmp 107) _ rfl rfl zz (own1 x) HZO.out HXO.out rfl rfl q1 HQ1.out _) ?_; refine Hid.out ?_)
                  refine Lib.hid ?_
                  go_wp2_with (refine wpList_st rfl 4 (.tmp 110) (.tmp 109) rfl NH 1 rfl (.bool q1) #[.bool q1] rfl rfl info_boolm (one_boolm q1) HKH.out (Nat.le_of_ble_eq_true rfl) (C' := hsC B0 q1) (by rfl) ?_; intro w14 q2; refine Hid.out ?_)
                  refine Lib.hid ?_
                  have HKHn : Hid (Blk 48 w14 NH (hsC B0 q1)) := Lib.hid q2.1
                  have HBXn := Lib.hid (HBX.out.trans (q2.2.1 _ hn9))
                  have HKIwn := Lib.hid (HKIw.out.far q2 hIH)
                  have HKOwn := Lib.hid (HKOw.out.far q2 hOH)
                  have HK2n := Lib.hid (HK2.out.far q2 (by omega))
                  clear q2 cb
                  clear HKH
                  have HKH := HKHn
                  clear HKHn
                  clear HBX
                  have HBX := HBXn
                  clear HBXn
                  clear HKIw
                  have HKIw := HKIwn
                  clear HKIwn
                  clear HKOw
                  have HKOw := HKOwn
                  clear HKOwn
                  clear HK2
                  have HK2 := HK2n
                  clear HK2n
                  go_wp2_with fail
                  go_roundw
                  case rel => exact ⟨p + 1, by omega, by simp, by rw [S0.out, S1.out]; exact HKH, HBX⟩
                  case measure => simp [intOf]; omega
              | false =>
                go_wp2_with (refine wpList_ld (op := ⟨some 98, _, _, _, _, _⟩) (by rfl) 28 (.tmp 18) rfl N2 0 rfl (idC zz) _ HK2.out.all Try.underlying28 rfl info_id ?_; refine Hid.out ?_)
                refine Lib.hid ?_
                go_wp2_with (refine wpList_ld (op := ⟨some 99, _, _, _, _, _⟩) (by rfl) 28 (.tmp 5) rfl NI 0 rfl (idC x) _ HKIw.out.all Try.underlying28 rfl info_id ?_; refine Hid.out ?_)
                refine Lib.hid ?_
                go_wp2_with (refine wpList_gv (op := ⟨some 100, _, _, _, _, _⟩) (.bool q0) (by rfl) (eql_idq _ _ (.tmp 98) (.tmp 99) _ rfl rfl zz x HZO.out HX.out rfl rfl q0 HQ0.out _) ?_; refine Hid.out ?_)
                refine Lib.hid ?_
                go_wp2_with (refine wpList_st rfl 4 (.tmp 102) (.tmp 101) rfl NH 0 rfl (.bool q0) #[.bool q0] rfl rfl info_boolm (one_boolm q0) HKH.out (Nat.le_of_ble_eq_true rfl) (C' := hsC q0 b1) (by rfl) ?_; intro w13 q2; refine Hid.out ?_)
                refine Lib.hid ?_
                have HKHn : Hid (Blk 48 w13 NH (hsC q0 b1)) := Lib.hid q2.1
                have HBXn := Lib.hid (HBX.out.trans (q2.2.1 _ hn9))
                have HKIwn := Lib.hid (HKIw.out.far q2 hIH)
                have HKOwn := Lib.hid (HKOw.out.far q2 hOH)
                have HK2n := Lib.hid (HK2.out.far q2 (by omega))
                clear q2 cb
                clear HKH
                have HKH := HKHn
                clear HKHn
                clear HBX
                have HBX := HBXn
                clear HBXn
                clear HKIw
                have HKIw := HKIwn
                clear HKIwn
                clear HKOw
                have HKOw := HKOwn
                clear HKOwn
                clear HK2
                have HK2 := HK2n
                clear HK2n
                obtain ⟨B0, hB0⟩ : ∃ B, (q0 : Bool) = B := ⟨_, rfl⟩
                have hS0 : Hid (hasT T x (p + 1) = B0) := Lib.hid (by rw [S0.out, ← hB0]; rfl)
                rw [hB0] at HKH
                clear hB0 S0
                have S0 := hS0
                clear hS0
                go_upto_region 30 with (fail)
                have cb : w13.cell? ⟨NH, 1, none⟩ = some (.bool b1) := (HKH.out.cell 1).trans rfl
                cases b1 with
                | true =>
                  go_wp2_with (refine wpList_st rfl 4 (.tmp 110) (.tmp 109) rfl NH 1 rfl (.bool true) #[.bool true] rfl rfl info_boolm (one_boolm true) HKH.out (Nat.le_of_ble_eq_true rfl) (C' := hsC B0 true) (by rfl) ?_; intro w14 q2; refine Hid.out ?_)
                  refine Lib.hid ?_
                  have HKHn : Hid (Blk 48 w14 NH (hsC B0 true)) := Lib.hid q2.1
                  have HBXn := Lib.hid (HBX.out.trans (q2.2.1 _ hn9))
                  have HKIwn := Lib.hid (HKIw.out.far q2 hIH)
                  have HKOwn := Lib.hid (HKOw.out.far q2 hOH)
                  have HK2n := Lib.hid (HK2.out.far q2 (by omega))
                  clear q2 cb
                  clear HKH
                  have HKH := HKHn
                  clear HKHn
                  clear HBX
                  have HBX := HBXn
                  clear HBXn
                  clear HKIw
                  have HKIw := HKIwn
                  clear HKIwn
                  clear HKOw
                  have HKOw := HKOwn
                  clear HKOwn
                  clear HK2
                  have HK2 := HK2n
                  clear HK2n
                  go_wp2_with fail
                  go_roundw
                  case rel => exact ⟨p + 1, by omega, by simp, by rw [S0.out, S1.out]; exact HKH, HBX⟩
                  case measure => simp [intOf]; omega
                | false =>
                  go_wp2_with (refine wpList_ld (op := ⟨some 106, _, _, _, _, _⟩) (by rfl) 28 (.tmp 18) rfl N2 0 rfl (idC zz) _ HK2.out.all Try.underlying28 rfl info_id ?_; refine Hid.out ?_)
                  refine Lib.hid ?_
                  go_wp2_with (refine wpList_ld (op := ⟨some 107, _, _, _, _, _⟩) (by rfl) 28 (.tmp 12) rfl NO 0 rfl (idC (own1 x)) _ HKOw.out.all Try.underlying28 rfl info_id ?_; refine Hid.out ?_)
                  refine Lib.hid ?_
                  go_wp2_with (refine wpList_gv (op := ⟨some 108, _, _, _, _, _⟩) (.bool q1) (by rfl) (eql_idq _ _ (.tmp 106) (.tmp 107) _ rfl rfl zz (own1 x) HZO.out HXO.out rfl rfl q1 HQ1.out _) ?_; refine Hid.out ?_)
                  refine Lib.hid ?_
                  go_wp2_with (refine wpList_st rfl 4 (.tmp 110) (.tmp 109) rfl NH 1 rfl (.bool q1) #[.bool q1] rfl rfl info_boolm (one_boolm q1) HKH.out (Nat.le_of_ble_eq_true rfl) (C' := hsC B0 q1) (by rfl) ?_; intro w14 q2; refine Hid.out ?_)
                  refine Lib.hid ?_
                  have HKHn : Hid (Blk 48 w14 NH (hsC B0 q1)) := Lib.hid q2.1
                  have HBXn := Lib.hid (HBX.out.trans (q2.2.1 _ hn9))
                  have HKIwn := Lib.hid (HKIw.out.far q2 hIH)
                  have HKOwn := Lib.hid (HKOw.out.far q2 hOH)
                  have HK2n := Lib.hid (HK2.out.far q2 (by omega))
                  clear q2 cb
                  clear HKH
                  have HKH := HKHn
                  clear HKHn
                  clear HBX
                  have HBX := HBXn
                  clear HBXn
                  clear HKIw
                  have HKIw := HKIwn
                  clear HKIwn
                  clear HKOw
                  have HKOw := HKOwn
                  clear HKOwn
                  clear HK2
                  have HK2 := HK2n
                  clear HK2n
                  go_wp2_with fail
                  go_roundw
                  case rel => exact ⟨p + 1, by omega, by simp, by rw [S0.out, S1.out]; exact HKH, HBX⟩
                  case measure => simp [intOf]; omega
            · obtain rfl : p = nT := by omega
              have hx2 : hasT T x p = dq.send x := by rw [← HNT2.out]; exact hasT_mem T x HX.out _ HTT.out.1
              have ho2 : hasT T (own1 x) p = dq.send (own1 x) := by rw [← HNT2.out]; exact hasT_mem T _ (own1_ok HX.out) _ HTT.out.1
              rw [hx2, ho2] at HKH
              clear hx2 ho2
              obtain ⟨b0, hb0⟩ : ∃ b, dq.send x = b := ⟨_, rfl⟩
              obtain ⟨b1, hb1⟩ : ∃ b, dq.send (own1 x) = b := ⟨_, rfl⟩
              rw [hb0] at HS2 HKH
              rw [hb1] at HS1 HKH
              clear hb0 hb1
              obtain ⟨mq, hmq⟩ : ∃ m, mz z len q = m := ⟨_, rfl⟩
              have hmq1 : -1 ≤ mq := by rw [← hmq]; exact mz_ge z len q
              rw [hmq] at HS1 HS2
              have hq8 : q < 8 := by omega
              have hq8i : (q : Int) < 8 := by omega
              have hq0i : ¬ (q : Int) < 0 := by omega
              have HKMw := Lib.hid (HKM.out.below (HBX.out) HKM.out.lt)
              have cq : wr.cell? ⟨NM, q, none⟩ = some (.int .i64 mq) := by rw [← hmq]; exact (HKMw.out.cell q).trans (arM_at _ _ hq8 hlt)
              have ch0 : wr.cell? ⟨NH, 0, none⟩ = some (.bool b0) := (HKH.out.cell 0).trans rfl
              have ch1 : wr.cell? ⟨NH, 1, none⟩ = some (.bool b1) := (HKH.out.cell 1).trans rfl
              have HMQ := Lib.hid hmq
              clear hmq
              by_cases hqc : q = c
              · subst hqc
                by_cases hn : mq = -1
                · subst hn
                  obtain rfl : b0 = false := Bool.eq_false_iff.2 (fun h => (HS2.out.1 h).1 rfl)
                  obtain rfl : b1 = false := Bool.eq_false_iff.2 (fun h => (HS1.out.1 h) rfl)
                  go_wp2_with fail
                  have HBY := fun r : Nat => Lib.hid (mdrewN HBX.out r)
                  go_quiet (fail)
                  go_wp2_with fail
                  go_quiet (fail)
                  go_wp2_with fail
                  go_roundw
                  case rel => exact ⟨q + 1, by omega, by simp, Lib.hid (HF.out.below (HBY _).out), Lib.hid (HB.out.trans ((HBY _).out.mono HB.out.size)), Lib.hid (HKI.out.below (HBY _).out HKI.out.lt), Lib.hid (HKM.out.below (HBY _).out HKM.out.lt), Lib.hid (HKO.out.below (HBY _).out HKO.out.lt)⟩
                  case measure => simp [intOf]; omega
                · have hn1 : (mq == -1) = false := by simp [hn]
                  have hn2 : (mq != -1) = true := by simp [hn]
                  have HN := Lib.hid hn
                  clear hn
                  by_cases hpos : 0 < mq
                  · have hpos2 : ¬ mq ≤ 0 := by omega
                    obtain rfl : b0 = false := Bool.eq_false_iff.2 (fun h => (HS2.out.1 h).1 rfl)
                    obtain rfl : b1 = true := HS1.out.2 HN.out
                    go_wp2_with fail
                    have HBY := fun r : Nat => Lib.hid (mdrewN HBX.out r)
                    go_quiet (fail)
                    go_wp2_with fail
                    go_quiet (fail)
                    go_wp2_with fail
                    go_roundw
                    case rel => exact ⟨q + 1, by omega, by simp, Lib.hid (HF.out.below (HBY _).out), Lib.hid (HB.out.trans ((HBY _).out.mono HB.out.size)), Lib.hid (HKI.out.below (HBY _).out HKI.out.lt), Lib.hid (HKM.out.below (HBY _).out HKM.out.lt), Lib.hid (HKO.out.below (HBY _).out HKO.out.lt)⟩
                    case measure => simp [intOf]; omega
                  · have hpos2 : decide (0 < mq) = false := by simp; omega
                    obtain rfl : b0 = false := Bool.eq_false_iff.2 (fun h => (HS2.out.1 h).1 rfl)
                    obtain rfl : b1 = true := HS1.out.2 HN.out
                    go_wp2_with fail
                    have HBY := fun r : Nat => Lib.hid (mdrewN HBX.out r)
                    go_quiet (fail)
                    go_wp2_with fail
                    go_quiet (fail)
                    go_wp2_with fail
                    go_roundw
                    case rel => exact ⟨q + 1, by omega, by simp, Lib.hid (HF.out.below (HBY _).out), Lib.hid (HB.out.trans ((HBY _).out.mono HB.out.size)), Lib.hid (HKI.out.below (HBY _).out HKI.out.lt), Lib.hid (HKM.out.below (HBY _).out HKM.out.lt), Lib.hid (HKO.out.below (HBY _).out HKO.out.lt)⟩
                    case measure => simp [intOf]; omega
              · have hqc1 : ((q : Int) == (c : Int)) = false := by simp; omega
                have hqc2 : ((q : Int) != (c : Int)) = true := by simp; omega
                have HQC := Lib.hid hqc
                clear hqc
                obtain ⟨mc, hmc⟩ : ∃ m, mz z len c = m := ⟨_, rfl⟩
                rw [hmc] at HS2
                have cc : wr.cell? ⟨NM, c, none⟩ = some (.int .i64 mc) := by rw [← hmc]; exact (HKMw.out.cell c).trans (arM_at _ _ hc8 hcn)
                have HMC := Lib.hid hmc
                clear hmc
                by_cases hn : mq = -1
                · subst hn
                  obtain rfl : b0 = false := Bool.eq_false_iff.2 (fun h => (HS2.out.1 h).2.1 rfl)
                  obtain rfl : b1 = false := Bool.eq_false_iff.2 (fun h => (HS1.out.1 h) rfl)
                  go_wp2_with fail
                  have HBY := fun r : Nat => Lib.hid (mdrewN HBX.out r)
                  go_quiet (fail)
                  go_wp2_with fail
                  go_quiet (fail)
                  go_wp2_with fail
                  go_roundw
                  case rel => exact ⟨q + 1, by omega, by simp, Lib.hid (HF.out.below (HBY _).out), Lib.hid (HB.out.trans ((HBY _).out.mono HB.out.size)), Lib.hid (HKI.out.below (HBY _).out HKI.out.lt), Lib.hid (HKM.out.below (HBY _).out HKM.out.lt), Lib.hid (HKO.out.below (HBY _).out HKO.out.lt)⟩
                  case measure => simp [intOf]; omega
                · have hn1 : (mq == -1) = false := by simp [hn]
                  have hn2 : (mq != -1) = true := by simp [hn]
                  have HN := Lib.hid hn
                  clear hn
                  by_cases hpos : 0 < mq
                  · have hpos2 : ¬ mq ≤ 0 := by omega
                    obtain rfl : b1 = true := HS1.out.2 HN.out
                    by_cases hs : mq = mc
                    · subst hs
                      obtain rfl : b0 = false := Bool.eq_false_iff.2 (fun h => (HS2.out.1 h).2.2 ⟨hpos, rfl⟩)
                      go_wp2_with fail
                      have HBY := fun r : Nat => Lib.hid (mdrewN HBX.out r)
                      go_quiet (fail)
                      go_wp2_with fail
                      go_quiet (fail)
                      go_wp2_with fail
                      go_roundw
                      case rel => exact ⟨q + 1, by omega, by simp, Lib.hid (HF.out.below (HBY _).out), Lib.hid (HB.out.trans ((HBY _).out.mono HB.out.size)), Lib.hid (HKI.out.below (HBY _).out HKI.out.lt), Lib.hid (HKM.out.below (HBY _).out HKM.out.lt), Lib.hid (HKO.out.below (HBY _).out HKO.out.lt)⟩
                      case measure => simp [intOf]; omega
                    · have hs1 : (mq == mc) = false := by simp [hs]
                      obtain rfl : b0 = true := HS2.out.2 ⟨HQC.out, HN.out, fun h => hs h.2⟩
                      clear hs
                      go_wp2_with fail
                      have HBY := fun r : Nat => Lib.hid (mdrewN HBX.out r)
                      go_quiet (fail)
                      go_wp2_with fail
                      go_quiet (fail)
                      go_wp2_with fail
                      go_roundw
                      case rel => exact ⟨q + 1, by omega, by simp, Lib.hid (HF.out.below (HBY _).out), Lib.hid (HB.out.trans ((HBY _).out.mono HB.out.size)), Lib.hid (HKI.out.below (HBY _).out HKI.out.lt), Lib.hid (HKM.out.below (HBY _).out HKM.out.lt), Lib.hid (HKO.out.below (HBY _).out HKO.out.lt)⟩
                      case measure => simp [intOf]; omega
                  · have hpos2 : decide (0 < mq) = false := by simp; omega
                    obtain rfl : b1 = true := HS1.out.2 HN.out
                    obtain rfl : b0 = true := HS2.out.2 ⟨HQC.out, HN.out, fun h => by omega⟩
                    go_wp2_with fail
                    have HBY := fun r : Nat => Lib.hid (mdrewN HBX.out r)
                    go_quiet (fail)
                    go_wp2_with fail
                    go_quiet (fail)
                    go_wp2_with fail
                    go_roundw
                    case rel => exact ⟨q + 1, by omega, by simp, Lib.hid (HF.out.below (HBY _).out), Lib.hid (HB.out.trans ((HBY _).out.mono HB.out.size)), Lib.hid (HKI.out.below (HBY _).out HKI.out.lt), Lib.hid (HKM.out.below (HBY _).out HKM.out.lt), Lib.hid (HKO.out.below (HBY _).out HKO.out.lt)⟩
                    case measure => simp [intOf]; omega
        · obtain rfl : q = j := by omega
          go_wp2_with fail
          go_ret
          exact ⟨rfl, HB.out⟩
end Go.Proofs.Yteamnibgeobcbaa
