/- Two texts put together; each theorem states its conditions. -/
import Derived.Test.YtldgfjcdlkbngaaTrQz
import Derived.Test.YtldgfjcdlkbngaaTrOps
import Derived.Test.YtldgfjcdlkbngaaTrRx
import Derived.Test.YtldgfjcdlkbngaaTrAw
import Derived.Deep.DeepCutAuto
import Derived.Deep.CutBlock
import Derived.Test.YtldgfjcdlkbngaaRows
import Derived.WalkKit
import Derived.ProofKit
import Derived.OpenShut
import Derived.ShutString
import Derived.ChangeOld
import Derived.Below
import Derived.SizedLaws
import Derived.Test.YtldgfjcdlkbngaaTrO
/- TriePlays, walked: a script of prefixes that come and go. No condition. -/
namespace Go.Proofs.Ytldgfjcdlkbngaa
open Go.RowKit
set_option linter.unusedVariables false
set_option linter.unusedSimpArgs false

theorem docIns_P (x : Nat) (D : List It) (fam n vv : Int) (z : Nat → Int) (hz : Bytes z) (w : World) (h : DocAt w x D) (hl : D.length ≤ 1000) : Calls Try.prog 15 #[.pointer (some ⟨x, 0, none⟩), .agg (pvC fam n z), .int .i64 vv] w fun e w' => ∃ v, e = .returned v ∧ v = .int .i64 (if kyP fam n z = none then 3 else 0) ∧ DocAt w' x (insD D (kyP fam n z) vv) ∧ Kp [x] w w' :=
  (docIns_any x D fam n vv z hz w h hl).mono fun e w' h9 => ⟨_, h9.1, rfl, h9.2.1, h9.2.2⟩
theorem docRem_P (x : Nat) (D : List It) (fam n : Int) (z : Nat → Int) (hz : Bytes z) (w : World) (h : DocAt w x D) (hl : D.length ≤ 1000) : Calls Try.prog 17 #[.pointer (some ⟨x, 0, none⟩), .agg (pvC fam n z)] w fun e w' => ∃ v, e = .returned v ∧ v = .int .i64 (match kyP fam n z with | none => 3 | some k => if lk k D = none then 6 else 0) ∧ DocAt w' x (remD D (kyP fam n z)) ∧ Kp [x] w w' :=
  (docRem_any x D fam n z hz w h hl).mono fun e w' h9 => ⟨_, h9.1, rfl, h9.2.1, h9.2.2⟩
theorem lenI_runP (o : Oper) (e : Operand → Value) (y : Operand) (ho : o.op = .call { callee := .builtin .len, args := #[y], argTypes := #[28] }) (A : Option Addr) (n c : Nat) (h0 : e y = .slice A n c) (W : World) : (execOp e o).run Try.prog W = .ok (.value (.int .i64 (n : Int))) W := lenI_run o e y ho A n c h0 W
theorem rdR_at2 {w w' : World} {b off m s B : Nat} {C : Nat → Array Value} (h : RowR w b off m s C) (hb : Below B w w') (hB : b < B) (j : Nat) (hj : j < m) : w'.rangeAt b (off + j * s) (C j).toList := rangeAt_below (h.2 j hj) hb hB
theorem Kp.s1 {s x : Nat} {a b : World} (h : Kp [x] a b) (hx : s ≤ x) (hs : s ≤ a.heap.size) : Below s a b := h.below (fun k hk => by rw [List.mem_singleton.1 hk]; exact hx) hs
set_option maxHeartbeats 64000000 in
set_option maxRecDepth 100000 in
theorem walkTriePlays (a0 : Option Addr) (len0 cap0 : Nat) (L0 : Nat → Opx) (a1 : Int) (x2 : Nat → Int) (w : World) (h0 : InOp w a0 len0 cap0 L0) (h1 : (Lit.int .u8 a1).wf = true) (h2 : Bytes x2) :
    Calls Try.prog 3 #[.slice a0 len0 cap0, .int .u8 a1, .agg (agC x2)] w fun e w' => e = .returned (.bool true) ∧ Below w.heap.size w w' := by
  have HL := Lib.hid h0
  have HX2 := Lib.hid h2
  have HAW := Lib.hid awake_any
  clear h0 h1 h2
  go_enter Try.func3, Try.ntmps3
  have HB := Lib.hid (Below.refl w.heap.size w)
  obtain ⟨N1, hN1⟩ : ∃ N, w.heap.size = N := ⟨_, rfl⟩
  have HN1 := Lib.hid hN1
  clear hN1
  go_wp2_with (refine wpList_box (op := ⟨some 5, _, _, _, _, _⟩) rfl 23 (.tmp 2) rfl (agC x2) rfl N1 HN1.out ?_; intro w1 k1 b1 s1; refine Hid.out ?_)
  refine Lib.hid ?_
  have K5 := Lib.hid k1
  clear k1
  have le_HB_N1 : w.heap.size ≤ N1 := by rw [← HN1.out]; exact HB.out.size
  have HBn := Lib.hid (HB.out.trans (b1.mono HB.out.size))
  clear HB
  have HB := HBn
  clear HBn
  clear b1 HN1
  go_wp2_with fail
  refine (HAW.out _).mono ?_
  rintro e w2 ⟨rfl, b1⟩
  have K5n := Lib.hid (K5.out.below b1 K5.out.lt)
  clear K5
  have K5 := K5n
  clear K5n
  have HBn := Lib.hid (HB.out.trans (b1.mono HB.out.size))
  clear HB
  have HB := HBn
  clear HBn
  clear b1
  have HLB := Lib.hid (fun j => (HL.out.2.1 j).2.2)
  go_wp2_with fail
  refine (new_any w2).mono ?_
  rintro e w5 ⟨rfl, ht, hb⟩
  obtain ⟨s, hs⟩ : ∃ s, w2.heap.size = s := ⟨_, rfl⟩
  rw [hs] at ht ⊢
  have lt5 : N1 < s := by rw [← hs]; exact K5.out.lt
  have HS0 : Hid (w.heap.size ≤ s) := Lib.hid (by rw [← hs]; exact HB.out.size)
  have HT := Lib.hid ht
  have K5n := Lib.hid (K5.out.below hb K5.out.lt)
  clear K5
  have K5 := K5n
  clear K5n
  have HBn := Lib.hid (HB.out.trans (hb.mono HB.out.size))
  clear HB
  have HB := HBn
  clear HBn
  clear hs ht hb
  have HL5 : Hid (RdR w5 a0 len0 20 (fun j => opxC (L0 j))) := Lib.hid (HL.out.1.below HB.out rfl)
  have HRS : Hid (∀ b o, a0 = some ⟨b, o, none⟩ → 0 < len0 → b < s) := Lib.hid (fun b o h h9 => by obtain ⟨b2, o2, e1, r1⟩ := HL.out.1.row h9; rw [h] at e1; cases e1; exact Nat.lt_of_lt_of_le r1.1 HS0.out)
  have hl0 : (len0 : Int) ≤ 9223372036854775807 := by have := HL.out.2.2.2; omega
  go_wp2_with (refine wpList_v (op := ⟨some 17, _, _, _, _, _⟩) rfl (.agg #[.slice none 0 0]) (bld_rt _ _ rfl _) ?_; refine Hid.out ?_)
  refine Lib.hid ?_
  obtain ⟨x, hx⟩ : ∃ x, w5.heap.size = x := ⟨_, rfl⟩
  have HXN := Lib.hid hx
  have HSX : Hid (s ≤ x) := Lib.hid (by rw [← hx]; exact Nat.le_of_lt HT.out.lt)
  clear hx
  go_wp2_with (refine wpList_box (op := ⟨some 18, _, _, _, _, _⟩) rfl 30 (.tmp 17) rfl (#[.slice none 0 0]) rfl x HXN.out ?_; intro w6 k1 b1 s1; refine Hid.out ?_)
  refine Lib.hid ?_
  have HX : Hid (DocAt w6 x (⟨.nil, .nil⟩ : Ts).doc) := Lib.hid (doc_of (B := 0) (A := none) (c := 0) (D := []) k1 (OwnR.nil _ _ _ _ _) (fun y hy => by cases hy))
  have HBs : Hid (Below s w5 w6) := Lib.hid (b1.mono (Nat.le_of_lt HT.out.lt))
  have HTn := Lib.hid (HT.out.below b1 HT.out.lt)
  clear HT
  have HT := HTn
  clear HTn
  clear k1 b1 HXN
  go_upto_block 0 with fail
  go_cut [] (fun wc => ∃ T : Ts, Hid (TsAt wc s s T) ∧ Hid (DocAt wc x T.doc) ∧ Hid (T.sz ≤ 302) ∧ Hid (Below s w5 wc))
  case first =>
    go_wp2_with fail
    go_loopw [21] (fun t wr => ∃ (i : Nat) (T : Ts), i ≤ len0 ∧ t = .int .i64 i ∧ Hid (TsAt wr s s T) ∧ Hid (DocAt wr x T.doc) ∧ Hid (T.sz ≤ 2 * i) ∧ Hid (i ≤ 150) ∧ Hid (Below s w5 wr)) (fun t _ => len0 - (intOf t).toNat)
    case atStart => exact ⟨0, ⟨.nil, .nil⟩, by omega, rfl, HT, HX, Lib.hid (by decide), Lib.hid (by omega), HBs⟩
    case round =>
      obtain ⟨i, T, hi, rfl, ht, hx, hsz, h15, hb⟩ := hrel
      clear HT HX HBs
      have HT := ht
      have HX := hx
      have HSZ := hsz
      have H15 := h15
      have HBs := hb
      clear ht hx hsz h15 hb
      by_cases hin : i < len0
      · have HIN := Lib.hid hin
        have hii : (i : Int) < (len0 : Int) := by omega
        have hi0 : (0 : Int) ≤ (i : Int) := by omega
        have hib : (i : Int) < 1000 := by have := H15.out; omega
        clear hin hi
        obtain ⟨b0, o0, rfl, r0⟩ := HL5.out.row (by omega)
        have R0 := Lib.hid r0
        have HB0 := Lib.hid (HRS.out b0 o0 rfl (by omega))
        clear r0
        obtain ⟨o1, ho1⟩ : ∃ o, L0 i = o := ⟨_, rfl⟩
        have HPB : Hid (Bytes o1.p.z) := Lib.hid (by rw [← ho1]; exact HLB.out i)
        have h9 : wr.rangeAt b0 (o0 + i * 20) (opxC (L0 i)).toList := rdR_at2 R0.out HBs.out HB0.out i HIN.out
        rw [ho1] at h9
        obtain ⟨kd, p, vv⟩ := o1
        have HRG : Hid (wr.rangeAt b0 (o0 + i * 20) (opC kd p vv).toList) := Lib.hid h9
        clear h9 ho1
        go_wp2_with (refine wpList_ld (op := ⟨some 25, _, _, _, _, _⟩) (by rfl) 34 (.tmp 24) rfl b0 (o0 + i * 20) rfl (opC kd p vv) _ HRG.out Try.underlying34 rfl info_op ?_; refine Hid.out ?_)
        refine Lib.hid ?_
        obtain ⟨NO, hNO⟩ : ∃ N, wr.heap.size = N := ⟨_, rfl⟩
        have HNO := Lib.hid hNO
        have ne_x : x ≠ NO := by have := HX.out.lt; omega
        clear hNO HRG
        go_wp2_with (refine wpList_new (op := ⟨some 10, _, _, _, _, _⟩) rfl 34 rfl (opC 0 ⟨0, 0, Z0⟩ 0) zero_op NO HNO.out ?_; intro w7 k1 b1 s9; refine Hid.out ?_)
        refine Lib.hid ?_
        have K10 := Lib.hid k1
        have HB1 := Lib.hid b1
        clear k1 b1 s9
        go_wp2_with (refine wpList_st rfl 34 (.tmp 10) (.tmp 25) rfl NO 0 rfl (.agg (opC kd p vv)) (opC kd p vv) rfl rfl info_op (op_one _ _ _) K10.out (Nat.le_of_ble_eq_true rfl) (C' := opC kd p vv) (op_over _ _ _) ?_; intro w8 q1; refine Hid.out ?_)
        refine Lib.hid ?_
        have b1 : Below wr.heap.size wr w8 := HB1.out.trans (q1.2.1 _ (by rw [HNO.out]; exact Nat.le_refl _))
        have K10n : Hid (Blk 34 w8 NO (opC kd p vv)) := Lib.hid q1.1
        clear K10
        have K10 := K10n
        clear K10n q1 HB1 HNO
        have HBsn := Lib.hid (HBs.out.trans (b1.mono (Nat.le_of_lt HT.out.lt)))
        clear HBs
        have HBs := HBsn
        clear HBsn
        have HXn := Lib.hid (HX.out.below b1)
        clear HX
        have HX := HXn
        clear HXn
        have HTn := Lib.hid (HT.out.below b1 HT.out.lt)
        clear HT
        have HT := HTn
        clear HTn
        clear b1
        by_cases h150 : 150 ≤ i
        · have h150i : (150 : Int) ≤ (i : Int) := by omega
          go_wp2_with fail
          go_meet
          case rel => exact ⟨T, HT, HX, Lib.hid (by have := HSZ.out; have := H15.out; omega), HBs⟩
        · have h150i : ¬ (150 : Int) ≤ (i : Int) := by omega
          have H15b : Hid (i + 1 ≤ 150) := Lib.hid (by omega)
          clear h150
          have HDL : Hid (T.doc.length ≤ 1000) := Lib.hid (by rw [doc_len]; have := T.cnt_sz; have := HSZ.out; have := H15b.out; omega)
          have c0 : w8.cell? ⟨NO, 0, none⟩ = some (.int .u8 kd) := (K10.out.cell 0).trans rfl
          go_upto_block 2 with fail
          clear c0
          go_cut [] (fun wc => ∃ T1 : Ts, Hid (TsAt wc s s T1) ∧ Hid (DocAt wc x T1.doc) ∧ Hid (T1.sz ≤ 2 * (i + 1)) ∧ Hid (Blk 34 wc NO (opC kd p vv)) ∧ Hid (Below s w5 wc))
          case first =>
            by_cases hk0 : kd = 0
            · subst hk0
              go_wp2_with fail
              obtain ⟨E, hE⟩ : ∃ E : Int, (if Form p.fam p.len p.z then (0 : Int) else 3) = E := ⟨_, rfl⟩
              have HE := Lib.hid hE
              clear hE
              have HBsd := Lib.hid HBs.out.drew
              clear HBs
              have HXd := Lib.hid HX.out.drew
              clear HX
              have HTd := Lib.hid HT.out.drew
              clear HT
              refine wp_region_held_drew (S := fun w' => Blk 34 w' NO (opC 0 p vv)) (by kernel_rfl) K10.out (fun hS => ?_)
              generalize hW61 : w8.drew = W61 at hS HBsd HXd HTd ⊢
              clear hW61
              clear K10
              have HBs := HBsd
              clear HBsd
              have HX := HXd
              clear HXd
              have HT := HTd
              clear HTd
              have K10 := Lib.hid hS
              refine takeY (i := 0) (some 32) (v := .pointer (some ⟨s, 0, none⟩)) rfl rfl (by kernel_rfl) (by kernel_rfl) (by kernel_rfl) (fun _ _ _ h => h) (by rfl) (fun w' hS => by clear hS; go_simp) hS ?_
              simp only [Act.put, List.setIfInBounds_toArray, List.set_cons_zero, List.set_cons_succ]
              refine takeY (i := 1) (some 33) (v := .pointer (some ⟨NO, 1, none⟩)) rfl rfl (by kernel_rfl) (by kernel_rfl) (by kernel_rfl) (fun _ _ _ h => h) (by rfl) (fun w' hS => by clear hS; go_simp) hS ?_
              simp only [Act.put, List.setIfInBounds_toArray, List.set_cons_zero, List.set_cons_succ]
              refine takeL (i := 2) (some 34) 32 (.tmp 33) NO 1 (pfC p) _ rfl rfl (by kernel_rfl) (by kernel_rfl) (by kernel_rfl) (fun _ _ _ h => h) (by rfl) rfl rfl (fun w' hS => hS.oppv) Try.underlying32 rfl (hi_pv _ _ _) hS ?_
              simp only [Act.put, List.setIfInBounds_toArray, List.set_cons_zero, List.set_cons_succ]
              refine takeY (i := 3) (some 35) (v := .pointer (some ⟨NO, 19, none⟩)) rfl rfl (by kernel_rfl) (by kernel_rfl) (by kernel_rfl) (fun _ _ _ h => h) (by rfl) (fun w' hS => by clear hS; go_simp) hS ?_
              simp only [Act.put, List.setIfInBounds_toArray, List.set_cons_zero, List.set_cons_succ]
              refine takeY (i := 4) (some 36) (v := .int .i64 vv) rfl rfl (by kernel_rfl) (by kernel_rfl) (by kernel_rfl) (fun _ _ _ h => h) (by rfl) (fun w' hS => by (have c9 : w'.cell? ⟨NO, 19, none⟩ = some (.int .i64 vv) := (hS.cell 19).trans rfl; clear hS; go_simp)) hS ?_
              simp only [Act.put, List.setIfInBounds_toArray, List.set_cons_zero, List.set_cons_succ]
              refine takeY (i := 6) (some 38) (v := .pointer (some ⟨x, 0, none⟩)) rfl rfl (by kernel_rfl) (by kernel_rfl) (by kernel_rfl) (fun _ _ _ h => h) (by rfl) (fun w' hS => by clear hS; go_simp) hS ?_
              simp only [Act.put, List.setIfInBounds_toArray, List.set_cons_zero, List.set_cons_succ]
              refine takeY (i := 7) (some 39) (v := .pointer (some ⟨NO, 1, none⟩)) rfl rfl (by kernel_rfl) (by kernel_rfl) (by kernel_rfl) (fun _ _ _ h => h) (by rfl) (fun w' hS => by clear hS; go_simp) hS ?_
              simp only [Act.put, List.setIfInBounds_toArray, List.set_cons_zero, List.set_cons_succ]
              refine takeL (i := 8) (some 40) 32 (.tmp 39) NO 1 (pfC p) _ rfl rfl (by kernel_rfl) (by kernel_rfl) (by kernel_rfl) (fun _ _ _ h => h) (by rfl) rfl rfl (fun w' hS => hS.oppv) Try.underlying32 rfl (hi_pv _ _ _) hS ?_
              simp only [Act.put, List.setIfInBounds_toArray, List.set_cons_zero, List.set_cons_succ]
              refine takeY (i := 9) (some 41) (v := .pointer (some ⟨NO, 19, none⟩)) rfl rfl (by kernel_rfl) (by kernel_rfl) (by kernel_rfl) (fun _ _ _ h => h) (by rfl) (fun w' hS => by clear hS; go_simp) hS ?_
              simp only [Act.put, List.setIfInBounds_toArray, List.set_cons_zero, List.set_cons_succ]
              refine takeY (i := 10) (some 42) (v := .int .i64 vv) rfl rfl (by kernel_rfl) (by kernel_rfl) (by kernel_rfl) (fun _ _ _ h => h) (by rfl) (fun w' hS => by (have c9 : w'.cell? ⟨NO, 19, none⟩ = some (.int .i64 vv) := (hS.cell 19).trans rfl; clear hS; go_simp)) hS ?_
              simp only [Act.put, List.setIfInBounds_toArray, List.set_cons_zero, List.set_cons_succ]
              have HT0 := HT
              refine takeCE (i := 5) (some 37) 14 #[.pointer (some ⟨s, 0, none⟩), .agg (pfC p), .int .i64 vv] (R := fun v w' => ∃ T1 : Ts, v = .int .i64 E ∧ TsN s s T T1 (kyP p.fam p.len p.z) (some vv) W61 w') rfl rfl (by kernel_rfl) (by rfl) (by go_simp) ((ins_T s s T p.fam p.len vv p.z HPB.out W61 HT.out (Nat.le_of_lt HT.out.lt) (by have := HSZ.out; have := H15b.out; omega)).mono (by rintro e w9 ⟨T1, rfl, h9⟩; exact ⟨_, rfl, T1, congrArg (Value.int .i64) HE.out, h9⟩)) (fun v w' h => by obtain ⟨T1, rfl, n1⟩ := h; exact K10.out.kp n1.kp (t_ne HT0.out K10.out (by decide) (by decide))) (fun v W62 h hS2 => ?_)
              obtain ⟨T1, rfl, n1⟩ := h
              clear hS2
              simp only [Act.put, List.setIfInBounds_toArray, List.set_cons_zero, List.set_cons_succ]
              have HN := Lib.hid n1
              have HBsn := Lib.hid (HBs.out.trans (n1.below HT0.out (Nat.le_of_lt HT0.out.lt)))
              clear HBs
              have HBs := HBsn
              clear HBsn
              have HXn := Lib.hid (HX.out.kp HT0.out n1.kp)
              clear HX
              have HX := HXn
              clear HXn
              have HTn := Lib.hid (n1.at_)
              clear HT
              have HT := HTn
              clear HTn
              have K10n := Lib.hid (K10.out.kp n1.kp (t_ne HT0.out K10.out (by decide) (by decide)))
              clear K10
              have K10 := K10n
              clear K10n
              clear hS
              have hS := K10.out
              have HT1 := HT
              have HX1 := HX
              have HDOC := Lib.hid (doc_insD HT0.out HN.out)
              refine takeCE (i := 11) (some 43) 15 #[.pointer (some ⟨x, 0, none⟩), .agg (pfC p), .int .i64 vv] (R := fun v w' => v = .int .i64 E ∧ DocAt w' x (insD T.doc (kyP p.fam p.len p.z) vv) ∧ Kp [x] W62 w') rfl rfl (by kernel_rfl) (by rfl) (by go_simp) ((docIns_P x T.doc p.fam p.len vv p.z HPB.out W62 HX.out HDL.out).mono (by rintro e w9 ⟨v, rfl, h1, h2, h3⟩; exact ⟨v, rfl, h1.trans (congrArg (Value.int .i64) ((insE_eq _ _ _).symm.trans HE.out)), h2, h3⟩)) (fun v w' h => by obtain ⟨rfl, hd, hk⟩ := h; exact K10.out.kp hk (fun e => ne_x (List.mem_singleton.1 e).symm)) (fun v W63 h hS2 => ?_)
              obtain ⟨rfl, hd, hk⟩ := h
              clear hS2
              simp only [Act.put, List.setIfInBounds_toArray, List.set_cons_zero, List.set_cons_succ]
              have HBsn := Lib.hid (HBs.out.trans (hk.s1 HSX.out (Nat.le_of_lt HT1.out.lt)))
              clear HBs
              have HBs := HBsn
              clear HBsn
              have HXn := Lib.hid (HDOC.out ▸ hd)
              clear HX
              have HX := HXn
              clear HXn
              have HTn := Lib.hid (HT1.out.doc HX1.out hk)
              clear HT
              have HT := HTn
              clear HTn
              have K10n := Lib.hid (K10.out.kp hk (fun e => ne_x (List.mem_singleton.1 e).symm))
              clear K10
              have K10 := K10n
              clear K10n
              clear hS
              have hS := K10.out
              refine takeY (i := 12) (some 44) (v := .bool false) rfl rfl (by kernel_rfl) (by kernel_rfl) (by kernel_rfl) (fun _ _ _ h => h) (by rfl) (fun w' hS => by clear hS; exact neqI_run _ _ _ _ rfl E rfl rfl _) hS ?_
              simp only [Act.put, List.setIfInBounds_toArray, List.set_cons_zero, List.set_cons_succ]
              clear hS
              refine wpAnyH_done (by kernel_rfl) ?_ _
              clear HT0 HT1 HX1 HDOC
              go_wp2_with fail
              go_meet
              case rel => exact ⟨T1, HT, HX, Lib.hid (by have := HSZ.out; have := HN.out.sz; omega), K10, HBs⟩
            · by_cases hk1 : kd = 1
              · subst hk1
                go_wp2_with fail
                obtain ⟨E, hE⟩ : ∃ E : Int, (remE T (kyP p.fam p.len p.z)) = E := ⟨_, rfl⟩
                have HE := Lib.hid hE
                clear hE
                have HBsd := Lib.hid HBs.out.drew
                clear HBs
                have HXd := Lib.hid HX.out.drew
                clear HX
                have HTd := Lib.hid HT.out.drew
                clear HT
                refine wp_region_held_drew (S := fun w' => Blk 34 w' NO (opC 1 p vv)) (by kernel_rfl) K10.out (fun hS => ?_)
                generalize hW61 : w8.drew = W61 at hS HBsd HXd HTd ⊢
                clear hW61
                clear K10
                have HBs := HBsd
                clear HBsd
                have HX := HXd
                clear HXd
                have HT := HTd
                clear HTd
                have K10 := Lib.hid hS
                refine takeY (i := 0) (some 47) (v := .pointer (some ⟨s, 0, none⟩)) rfl rfl (by kernel_rfl) (by kernel_rfl) (by kernel_rfl) (fun _ _ _ h => h) (by rfl) (fun w' hS => by clear hS; go_simp) hS ?_
                simp only [Act.put, List.setIfInBounds_toArray, List.set_cons_zero, List.set_cons_succ]
                refine takeY (i := 1) (some 48) (v := .pointer (some ⟨NO, 1, none⟩)) rfl rfl (by kernel_rfl) (by kernel_rfl) (by kernel_rfl) (fun _ _ _ h => h) (by rfl) (fun w' hS => by clear hS; go_simp) hS ?_
                simp only [Act.put, List.setIfInBounds_toArray, List.set_cons_zero, List.set_cons_succ]
                refine takeL (i := 2) (some 49) 32 (.tmp 48) NO 1 (pfC p) _ rfl rfl (by kernel_rfl) (by kernel_rfl) (by kernel_rfl) (fun _ _ _ h => h) (by rfl) rfl rfl (fun w' hS => hS.oppv) Try.underlying32 rfl (hi_pv _ _ _) hS ?_
                simp only [Act.put, List.setIfInBounds_toArray, List.set_cons_zero, List.set_cons_succ]
                refine takeY (i := 4) (some 51) (v := .pointer (some ⟨x, 0, none⟩)) rfl rfl (by kernel_rfl) (by kernel_rfl) (by kernel_rfl) (fun _ _ _ h => h) (by rfl) (fun w' hS => by clear hS; go_simp) hS ?_
                simp only [Act.put, List.setIfInBounds_toArray, List.set_cons_zero, List.set_cons_succ]
                refine takeY (i := 5) (some 52) (v := .pointer (some ⟨NO, 1, none⟩)) rfl rfl (by kernel_rfl) (by kernel_rfl) (by kernel_rfl) (fun _ _ _ h => h) (by rfl) (fun w' hS => by clear hS; go_simp) hS ?_
                simp only [Act.put, List.setIfInBounds_toArray, List.set_cons_zero, List.set_cons_succ]
                refine takeL (i := 6) (some 53) 32 (.tmp 52) NO 1 (pfC p) _ rfl rfl (by kernel_rfl) (by kernel_rfl) (by kernel_rfl) (fun _ _ _ h => h) (by rfl) rfl rfl (fun w' hS => hS.oppv) Try.underlying32 rfl (hi_pv _ _ _) hS ?_
                simp only [Act.put, List.setIfInBounds_toArray, List.set_cons_zero, List.set_cons_succ]
                have HT0 := HT
                refine takeCE (i := 3) (some 50) 16 #[.pointer (some ⟨s, 0, none⟩), .agg (pfC p)] (R := fun v w' => ∃ T1 : Ts, v = .int .i64 E ∧ TsN s s T T1 (kyP p.fam p.len p.z) none W61 w') rfl rfl (by kernel_rfl) (by rfl) (by go_simp) ((rem_T s s T p.fam p.len p.z HPB.out W61 HT.out (Nat.le_of_lt HT.out.lt) (by have := HSZ.out; have := H15b.out; omega)).mono (by rintro e w9 ⟨T1, rfl, h9⟩; exact ⟨_, rfl, T1, congrArg (Value.int .i64) HE.out, h9⟩)) (fun v w' h => by obtain ⟨T1, rfl, n1⟩ := h; exact K10.out.kp n1.kp (t_ne HT0.out K10.out (by decide) (by decide))) (fun v W62 h hS2 => ?_)
                obtain ⟨T1, rfl, n1⟩ := h
                clear hS2
                simp only [Act.put, List.setIfInBounds_toArray, List.set_cons_zero, List.set_cons_succ]
                have HN := Lib.hid n1
                have HBsn := Lib.hid (HBs.out.trans (n1.below HT0.out (Nat.le_of_lt HT0.out.lt)))
                clear HBs
                have HBs := HBsn
                clear HBsn
                have HXn := Lib.hid (HX.out.kp HT0.out n1.kp)
                clear HX
                have HX := HXn
                clear HXn
                have HTn := Lib.hid (n1.at_)
                clear HT
                have HT := HTn
                clear HTn
                have K10n := Lib.hid (K10.out.kp n1.kp (t_ne HT0.out K10.out (by decide) (by decide)))
                clear K10
                have K10 := K10n
                clear K10n
                clear hS
                have hS := K10.out
                have HT1 := HT
                have HX1 := HX
                have HDOC := Lib.hid (doc_remD HT0.out HN.out)
                refine takeCE (i := 7) (some 54) 17 #[.pointer (some ⟨x, 0, none⟩), .agg (pfC p)] (R := fun v w' => v = .int .i64 E ∧ DocAt w' x (remD T.doc (kyP p.fam p.len p.z)) ∧ Kp [x] W62 w') rfl rfl (by kernel_rfl) (by rfl) (by go_simp) ((docRem_P x T.doc p.fam p.len p.z HPB.out W62 HX.out HDL.out).mono (by rintro e w9 ⟨v, rfl, h1, h2, h3⟩; exact ⟨v, rfl, h1.trans (congrArg (Value.int .i64) ((remE_eq HT0.out.ok _).symm.trans HE.out)), h2, h3⟩)) (fun v w' h => by obtain ⟨rfl, hd, hk⟩ := h; exact K10.out.kp hk (fun e => ne_x (List.mem_singleton.1 e).symm)) (fun v W63 h hS2 => ?_)
                obtain ⟨rfl, hd, hk⟩ := h
                clear hS2
                simp only [Act.put, List.setIfInBounds_toArray, List.set_cons_zero, List.set_cons_succ]
                have HBsn := Lib.hid (HBs.out.trans (hk.s1 HSX.out (Nat.le_of_lt HT1.out.lt)))
                clear HBs
                have HBs := HBsn
                clear HBsn
                have HXn := Lib.hid (HDOC.out ▸ hd)
                clear HX
                have HX := HXn
                clear HXn
                have HTn := Lib.hid (HT1.out.doc HX1.out hk)
                clear HT
                have HT := HTn
                clear HTn
                have K10n := Lib.hid (K10.out.kp hk (fun e => ne_x (List.mem_singleton.1 e).symm))
                clear K10
                have K10 := K10n
                clear K10n
                clear hS
                have hS := K10.out
                refine takeY (i := 8) (some 55) (v := .bool false) rfl rfl (by kernel_rfl) (by kernel_rfl) (by kernel_rfl) (fun _ _ _ h => h) (by rfl) (fun w' hS => by clear hS; exact neqI_run _ _ _ _ rfl E rfl rfl _) hS ?_
                simp only [Act.put, List.setIfInBounds_toArray, List.set_cons_zero, List.set_cons_succ]
                clear hS
                refine wpAnyH_done (by kernel_rfl) ?_ _
                clear HT0 HT1 HX1 HDOC
                go_wp2_with fail
                go_meet
                case rel => exact ⟨T1, HT, HX, Lib.hid (by have := HSZ.out; have := HN.out.sz; omega), K10, HBs⟩
              · skip
                go_wp2_with fail
                go_meet
                case rel => exact ⟨T, HT, HX, Lib.hid (by have := HSZ.out; omega), K10, HBs⟩
          case rest =>
            clear HT HX HBs K10 HSZ HDL
            obtain ⟨T1, HT, HX, HSZ, K10, HBs⟩ := hcut
            have HDL : Hid (T1.doc.length ≤ 1000) := Lib.hid (by rw [doc_len]; have := T1.cnt_sz; have := HSZ.out; have := H15b.out; omega)
            obtain ⟨A, cc, hka, _⟩ := HX.out.ex
            rw [doc_len] at hka
            have KX := Lib.hid hka
            clear hka
            have K5w := Lib.hid (K5.out.below HBs.out lt5)
            go_wp2_with fail
            have HBW := Lib.hid (Below.refl wc.heap.size wc)
            refine wp_region_held_drew (S := fun w' => Blk 34 w' NO (opC kd p vv) ∧ Blk 30 w' x (#[.slice A T1.cnt cc]) ∧ Blk 23 w' N1 (agC x2) ∧ Below wc.heap.size wc w') (by kernel_rfl) ⟨K10.out, KX.out, K5w.out, HBW.out.drew⟩ (fun hS => ?_)
            generalize hW91 : wc.drew = W91 at hS  ⊢
            clear hW91
            clear K10
            clear KX
            clear K5w
            clear HBW
            have K10 := Lib.hid hS.1
            have KX := Lib.hid hS.2.1
            have K5w := Lib.hid hS.2.2.1
            have HBW := Lib.hid hS.2.2.2
            refine takeY (i := 0) (some 56) (v := .pointer (some ⟨s, 0, none⟩)) rfl rfl (by kernel_rfl) (by kernel_rfl) (by kernel_rfl) (fun _ _ _ h => h) (by rfl) (fun w' hS => by clear hS; go_simp) hS ?_
            simp only [Act.put, List.setIfInBounds_toArray, List.set_cons_zero, List.set_cons_succ]
            refine takeY (i := 1) (some 57) (v := .pointer (some ⟨x, 0, none⟩)) rfl rfl (by kernel_rfl) (by kernel_rfl) (by kernel_rfl) (fun _ _ _ h => h) (by rfl) (fun w' hS => by clear hS; go_simp) hS ?_
            simp only [Act.put, List.setIfInBounds_toArray, List.set_cons_zero, List.set_cons_succ]
            refine takeL (i := 2) (some 58) 34 (.tmp 10) NO 0 (opC kd p vv) _ rfl rfl (by kernel_rfl) (by kernel_rfl) (by kernel_rfl) (fun _ _ _ h => h) (by rfl) rfl rfl (fun w' hS => hS.1.all) Try.underlying34 rfl info_op hS ?_
            simp only [Act.put, List.setIfInBounds_toArray, List.set_cons_zero, List.set_cons_succ]
            refine takeY (i := 3) (some 59) (v := .int .u8 a1) rfl rfl (by kernel_rfl) (by kernel_rfl) (by kernel_rfl) (fun _ _ _ h => h) (by rfl) (fun w' hS => by clear hS; go_simp) hS ?_
            simp only [Act.put, List.setIfInBounds_toArray, List.set_cons_zero, List.set_cons_succ]
            refine takeL (i := 4) (some 60) 23 (.tmp 5) N1 0 (agC x2) _ rfl rfl (by kernel_rfl) (by kernel_rfl) (by kernel_rfl) (fun _ _ _ h => h) (by rfl) rfl rfl (fun w' hS => hS.2.2.1.all) Try.underlying23 rfl (hi_ag _) hS ?_
            simp only [Act.put, List.setIfInBounds_toArray, List.set_cons_zero, List.set_cons_succ]
            refine takeC (i := 5) (some 61) 18 #[.pointer (some ⟨s, 0, none⟩), .pointer (some ⟨x, 0, none⟩), .agg (opC kd p vv), .int .u8 a1, .agg (agC x2)] (.bool true) (R := fun w' => Below W91.heap.size W91 w') rfl rfl (by kernel_rfl) (by rfl) (by go_simp) (looks_any x s s T1 kd a1 vv p x2 HPB.out HX2.out W91 (HT.out.below HBW.out HT.out.lt) (HX.out.below HBW.out) HDL.out) (fun w' hb => ⟨hS.1.below hb hS.1.lt, hS.2.1.below hb hS.2.1.lt, hS.2.2.1.below hb hS.2.2.1.lt, hS.2.2.2.trans (hb.mono hS.2.2.2.size)⟩) (fun W92 hb1 hS2 => ?_)
            simp only [Act.put, List.setIfInBounds_toArray, List.set_cons_zero, List.set_cons_succ]
            clear K10
            clear KX
            clear K5w
            clear HBW
            clear hS hb1
            have hS := hS2
            clear hS2
            have K10 := Lib.hid hS.1
            have KX := Lib.hid hS.2.1
            have K5w := Lib.hid hS.2.2.1
            have HBW := Lib.hid hS.2.2.2
            refine takeY (i := 6) (some 62) (v := .bool false) rfl rfl (by kernel_rfl) (by kernel_rfl) (by kernel_rfl) (fun _ _ _ h => h) (by rfl) (fun w' hS => by clear hS; go_simp) hS ?_
            simp only [Act.put, List.setIfInBounds_toArray, List.set_cons_zero, List.set_cons_succ]
            refine takeY (i := 7) (some 63) (v := .bool false) rfl rfl (by kernel_rfl) (by kernel_rfl) (by kernel_rfl) (fun _ _ _ h => h) (by rfl) (fun w' hS => by clear hS; go_simp) hS ?_
            simp only [Act.put, List.setIfInBounds_toArray, List.set_cons_zero, List.set_cons_succ]
            refine takeY (i := 8) (some 64) (v := .pointer (some ⟨s, 0, none⟩)) rfl rfl (by kernel_rfl) (by kernel_rfl) (by kernel_rfl) (fun _ _ _ h => h) (by rfl) (fun w' hS => by clear hS; go_simp) hS ?_
            simp only [Act.put, List.setIfInBounds_toArray, List.set_cons_zero, List.set_cons_succ]
            refine takeY (i := 10) (some 66) (v := .pointer (some ⟨x, 0, none⟩)) rfl rfl (by kernel_rfl) (by kernel_rfl) (by kernel_rfl) (fun _ _ _ h => h) (by rfl) (fun w' hS => by clear hS; go_simp) hS ?_
            simp only [Act.put, List.setIfInBounds_toArray, List.set_cons_zero, List.set_cons_succ]
            refine takeY (i := 11) (some 67) (v := .pointer (some ⟨x, 0, none⟩)) rfl rfl (by kernel_rfl) (by kernel_rfl) (by kernel_rfl) (fun _ _ _ h => h) (by rfl) (fun w' hS => by clear hS; go_simp) hS ?_
            simp only [Act.put, List.setIfInBounds_toArray, List.set_cons_zero, List.set_cons_succ]
            refine takeY (i := 12) (some 68) (v := .pointer (some ⟨x, 0, none⟩)) rfl rfl (by kernel_rfl) (by kernel_rfl) (by kernel_rfl) (fun _ _ _ h => h) (by rfl) (fun w' hS => by clear hS; go_simp) hS ?_
            simp only [Act.put, List.setIfInBounds_toArray, List.set_cons_zero, List.set_cons_succ]
            refine takeY (i := 13) (some 69) (v := .slice A T1.cnt cc) rfl rfl (by kernel_rfl) (by kernel_rfl) (by kernel_rfl) (fun _ _ _ h => h) (by rfl) (fun w' hS => by (have c9 : w'.cell? ⟨x, 0, none⟩ = some (.slice A T1.cnt cc) := (hS.2.1.cell 0).trans rfl; clear hS; go_simp)) hS ?_
            simp only [Act.put, List.setIfInBounds_toArray, List.set_cons_zero, List.set_cons_succ]
            refine takeY (i := 14) (some 70) (v := .int .i64 (T1.cnt : Int)) rfl rfl (by kernel_rfl) (by kernel_rfl) (by kernel_rfl) (fun _ _ _ h => h) (by rfl) (fun w' hS => by clear hS; exact lenI_runP _ _ _ rfl A T1.cnt cc rfl _) hS ?_
            simp only [Act.put, List.setIfInBounds_toArray, List.set_cons_zero, List.set_cons_succ]
            refine takeC (i := 9) (some 65) 19 #[.pointer (some ⟨s, 0, none⟩)] (.int .i64 (T1.cnt : Int)) (R := fun w' => W92 = w') rfl rfl (by kernel_rfl) (by rfl) (by go_simp) (len_any s T1 W92 (HT.out.below HBW.out HT.out.lt).blk) (fun w' hb => hb ▸ hS) (fun W93 hb1 hS2 => ?_)
            subst hb1
            clear hS2
            simp only [Act.put, List.setIfInBounds_toArray, List.set_cons_zero, List.set_cons_succ]
            refine takeY (i := 15) (some 71) (v := .bool false) rfl rfl (by kernel_rfl) (by kernel_rfl) (by kernel_rfl) (fun _ _ _ h => h) (by rfl) (fun w' hS => by clear hS; exact neqN_run _ _ _ _ rfl T1.cnt rfl rfl _) hS ?_
            simp only [Act.put, List.setIfInBounds_toArray, List.set_cons_zero, List.set_cons_succ]
            refine takeY (i := 16) (some 72) (v := .bool false) rfl rfl (by kernel_rfl) (by kernel_rfl) (by kernel_rfl) (fun _ _ _ h => h) (by rfl) (fun w' hS => by clear hS; go_simp) hS ?_
            simp only [Act.put, List.setIfInBounds_toArray, List.set_cons_zero, List.set_cons_succ]
            clear hS
            refine wpAnyH_done (by kernel_rfl) ?_ _
            have b1 := HBW.out
            have HBsn := Lib.hid (HBs.out.trans (b1.mono (Nat.le_of_lt HT.out.lt)))
            clear HBs
            have HBs := HBsn
            clear HBsn
            have HXn := Lib.hid (HX.out.below b1)
            clear HX
            have HX := HXn
            clear HXn
            have HTn := Lib.hid (HT.out.below b1 HT.out.lt)
            clear HT
            have HT := HTn
            clear HTn
            clear b1 HBW
            go_wp2
            go_roundw
            case rel => exact ⟨i + 1, T1, by have := HIN.out; omega, by go_num, HT, HX, HSZ, H15b, HBs⟩
            case measure => have := HIN.out; simp only [intOf]; omega
      · have hii : ¬ (i : Int) < (len0 : Int) := by omega
        go_wp2_with fail
        go_meet
        case rel => exact ⟨T, HT, HX, Lib.hid (by have := HSZ.out; have := H15.out; omega), HBs⟩
  case rest =>
    clear HT HX HBs
    obtain ⟨T, HT, HX, HSZ, HBs⟩ := hcut
    have HDL : Hid (T.doc.length ≤ 1000) := Lib.hid (by rw [doc_len]; have := T.cnt_sz; have := HSZ.out; omega)
    obtain ⟨n6, hn6⟩ : ∃ n, T.cnt = n := ⟨_, rfl⟩
    have HN6 := Lib.hid hn6
    have HN6s : Hid (n6 ≤ 302) := Lib.hid (by rw [← hn6]; exact Nat.le_trans T.cnt_sz HSZ.out)
    clear hn6
    have HPF := Lib.hid (kyL_pf HT.out)
    have HAB := Lib.hid (all_b HT.out)
    have HLT := Lib.hid HT.out.lt
    go_wp2_with fail
    refine (list_T s s T wc HT.out (Nat.le_trans HSZ.out (by decide))).mono ?_
    rintro e w10 ⟨v6, rfl, ho, b1⟩
    rw [HN6.out] at ho
    have HOW := Lib.hid ho
    obtain ⟨A6, cA6, rfl, HRA6⟩ := row_of ho
    have HBsn := Lib.hid (HBs.out.trans (b1.mono (Nat.le_of_lt HT.out.lt)))
    clear HBs
    have HBs := HBsn
    clear HBsn
    have HXn := Lib.hid (HX.out.below b1)
    clear HX
    have HX := HXn
    clear HXn
    have HTn := Lib.hid (HT.out.below b1 HT.out.lt)
    clear HT
    have HT := HTn
    clear HTn
    obtain ⟨gb, hgb⟩ := own_blk HOW.out
    have HGB := Lib.hid hgb
    clear hgb HOW
    clear b1 ho
    go_wp2_with fail
    refine (docList_any x T.doc w10 HX.out HDL.out).mono ?_
    rintro e w11 ⟨v6b, rfl, ho, b1⟩
    rw [kyL_len, HN6.out] at ho
    obtain ⟨B6, cB6, rfl, HRB6⟩ := row_of ho
    have HBsn := Lib.hid (HBs.out.trans (b1.mono (Nat.le_of_lt HT.out.lt)))
    clear HBs
    have HBs := HBsn
    clear HBsn
    have HXn := Lib.hid (HX.out.below b1)
    clear HX
    have HX := HXn
    clear HXn
    have HTn := Lib.hid (HT.out.below b1 HT.out.lt)
    clear HT
    have HT := HTn
    clear HTn
    have HRA6n := Lib.hid (HRA6.out.below b1)
    clear HRA6
    have HRA6 := HRA6n
    clear HRA6n
    have hgk : Hid (Below w10.heap.size w10 w11) := Lib.hid b1
    clear b1 ho
    go_wp2_with fail
    refine (sameP A6 B6 n6 cA6 cB6 (fun j => T.all.getD j pf0) (fun j => (kyL T.doc).getD j pf0) HAB.out (fun j _ => congrFun HPF.out j) (by have := HN6s.out; omega) _ HRA6.out.1 HRB6.out.1).mono ?_
    rintro e w12 ⟨rfl, b1⟩
    have HBsn := Lib.hid (HBs.out.trans (b1.mono (Nat.le_of_lt HT.out.lt)))
    clear HBs
    have HBs := HBsn
    clear HBsn
    have HXn := Lib.hid (HX.out.below b1)
    clear HX
    have HX := HXn
    clear HXn
    have HTn := Lib.hid (HT.out.below b1 HT.out.lt)
    clear HT
    have HT := HTn
    clear HTn
    have hgkn := Lib.hid (hgk.out.trans (b1.mono hgk.out.size))
    clear hgk
    have hgk := hgkn
    clear hgkn
    clear b1 HRA6 HRB6
    have HGW : Hid (0 < n6 → A6 = some ⟨gb, 0, none⟩ ∧ s ≤ gb ∧ ∃ cur, Blk 32 w12 gb cur ∧ n6 * 18 ≤ cur.size) := Lib.hid (fun h => by obtain ⟨h1, h2, cur, h3, h4⟩ := HGB.out h; exact ⟨h1, Nat.le_trans (Nat.le_of_lt HLT.out) h2, cur, h3.below hgk.out h3.lt, h4⟩)
    clear HGB hgk
    have hn6i : (n6 : Int) ≤ 302 := by have := HN6s.out; omega
    go_wp2_with fail
    go_loopw [82] (fun t wr => ∃ i : Nat, i ≤ n6 ∧ t = .int .i64 i ∧ Hid (TsAt wr s s T) ∧ Hid (DocAt wr x T.doc) ∧ Hid (0 < n6 → A6 = some ⟨gb, 0, none⟩ ∧ s ≤ gb ∧ ∃ cur, Blk 32 wr gb cur ∧ n6 * 18 ≤ cur.size) ∧ Hid (Below s w5 wr)) (fun t _ => n6 - (intOf t).toNat)
    case atStart => exact ⟨0, by omega, rfl, HT, HX, HGW, HBs⟩
    case round =>
      obtain ⟨i, hi, rfl, ht, hx, hgw, hb⟩ := hrel
      clear HT HX HGW HBs
      have HT := ht
      have HX := hx
      have HGW := hgw
      have HBs := hb
      clear ht hx hgw hb
      by_cases hin : i < n6
      · have HIN := Lib.hid hin
        have hii : (i : Int) < (n6 : Int) := by omega
        have hi0 : (0 : Int) ≤ (i : Int) := by omega
        have hib : (i : Int) < 1000 := by omega
        obtain ⟨hA6, hsg, cur, hbk, hcs⟩ := HGW.out (by omega)
        subst hA6
        have KG := Lib.hid hbk
        have HCS := Lib.hid hcs
        have HSG := Lib.hid hsg
        clear hbk hcs hsg hin hi HGW
        go_wp2_with (refine wpList_st rfl 3 (.tmp 88) (.const (.int .i64 99)) rfl gb (i * 18 + 1) (by first | rfl | (simp only [Nat.zero_add])) (.int .i64 99) #[.int .i64 99] rfl rfl info_i1 (one_i64 _) KG.out (by have := HCS.out; have := HIN.out; show i * 18 + 1 + 1 ≤ cur.size; omega) (C' := putMany cur (i * 18 + 1) [.int .i64 99]) rfl ?_; intro wq q1; refine Hid.out ?_)
        refine Lib.hid ?_
        have HTn := Lib.hid (HT.out.farT KG.out (by decide) (by decide) q1)
        have HXn := Lib.hid (HX.out.far KG.out (by decide) (by decide) q1)
        have HBn := Lib.hid (HBs.out.trans (q1.2.1 _ HSG.out))
        have HGn : Hid (0 < n6 → (some ⟨gb, 0, none⟩ : Option Addr) = some ⟨gb, 0, none⟩ ∧ s ≤ gb ∧ ∃ cur, Blk 32 wq gb cur ∧ n6 * 18 ≤ cur.size) := Lib.hid (fun _ => ⟨rfl, HSG.out, _, q1.1, by rw [putMany_sizeP]; exact HCS.out⟩)
        clear q1 KG HT HX HBs
        go_wp2
        go_roundw
        case rel => exact ⟨i + 1, by have := HIN.out; omega, by go_num, HTn, HXn, (by first | exact HGn | exact Lib.hid (fun h => ⟨trivial, (HGn.out h).2⟩)), HBn⟩
        case measure => have := HIN.out; simp only [intOf]; omega
      · have hii : ¬ (i : Int) < (n6 : Int) := by omega
        clear hin hi HGW
        go_wp2_with fail
        refine (list_T s s T wr HT.out (Nat.le_trans HSZ.out (by decide))).mono ?_
        rintro e w20 ⟨v9, rfl, ho, b1⟩
        rw [HN6.out] at ho
        obtain ⟨A9, cA9, rfl, HRA9⟩ := row_of ho
        have HBsn := Lib.hid (HBs.out.trans (b1.mono (Nat.le_of_lt HT.out.lt)))
        clear HBs
        have HBs := HBsn
        clear HBsn
        have HXn := Lib.hid (HX.out.below b1)
        clear HX
        have HX := HXn
        clear HXn
        have HTn := Lib.hid (HT.out.below b1 HT.out.lt)
        clear HT
        have HT := HTn
        clear HTn
        clear b1 ho
        go_wp2_with fail
        refine (docList_any x T.doc w20 HX.out HDL.out).mono ?_
        rintro e w21 ⟨v9b, rfl, ho, b1⟩
        rw [kyL_len, HN6.out] at ho
        obtain ⟨B9, cB9, rfl, HRB9⟩ := row_of ho
        have HBsn := Lib.hid (HBs.out.trans (b1.mono (Nat.le_of_lt HT.out.lt)))
        clear HBs
        have HBs := HBsn
        clear HBsn
        have HXn := Lib.hid (HX.out.below b1)
        clear HX
        have HX := HXn
        clear HXn
        have HTn := Lib.hid (HT.out.below b1 HT.out.lt)
        clear HT
        have HT := HTn
        clear HTn
        have HRA9n := Lib.hid (HRA9.out.below b1)
        clear HRA9
        have HRA9 := HRA9n
        clear HRA9n
        clear b1 ho
        go_wp2_with fail
        refine (sameP A9 B9 n6 cA9 cB9 (fun j => T.all.getD j pf0) (fun j => (kyL T.doc).getD j pf0) HAB.out (fun j _ => congrFun HPF.out j) (by have := HN6s.out; omega) _ HRA9.out.1 HRB9.out.1).mono ?_
        rintro e w22 ⟨rfl, b1⟩
        have HBsn := Lib.hid (HBs.out.trans (b1.mono (Nat.le_of_lt HT.out.lt)))
        clear HBs
        have HBs := HBsn
        clear HBsn
        have HXn := Lib.hid (HX.out.below b1)
        clear HX
        have HX := HXn
        clear HXn
        have HTn := Lib.hid (HT.out.below b1 HT.out.lt)
        clear HT
        have HT := HTn
        clear HTn
        clear b1 HRA9 HRB9
        go_wp2
        first | (go_ret; exact ⟨rfl, HB.out.trans (HBs.out.mono HS0.out)⟩) | exact ⟨.bool true, by simp [results, Try.f3, go_sem], rfl, HB.out.trans (HBs.out.mono HS0.out)⟩ | exact bodyPost_ret (v := .bool true) (by simp [results, Try.f3, go_sem]) rfl ⟨rfl, HB.out.trans (HBs.out.mono HS0.out)⟩
end Go.Proofs.Ytldgfjcdlkbngaa
/- For every input waymarklaw17.TriePlays returns true and leaves its arguments as they were. No condition. -/
namespace Go.Proofs.Ytldgfjcdlkbngaa
open Go.ChangeShapes Go.WideShapes Go.ChangeAt Go.RowKit
open Go.ChangeMaps (open_string shut_string)
set_option linter.unusedVariables false

namespace TriePlays
theorem own : ownKnob Try.prog.godebug = none := by kernel_rfl
theorem laidOut : laidOutB Try.prog = true := by kernel_rfl

set_option maxRecDepth 100000 in
theorem lifted (os : Os) (started : os.Started) (H : Type) (enc : TypeId × Value → H) :
    ReturnsInHanded {} Try.checked os 3 .any (Rows.triePlaysSpec.pre6 enc Try.prog Try.f3 Rows.triePlaysRow.domain false) (Rows.triePlaysSpec.post enc Try.prog Try.f3 false true false false) := by
  refine returnsInHanded_of_change_sized (C := Try.checked) own started (by kernel_rfl) Try.func3
    (ChangeSpec.witness6 (enc := enc) (C := Try.checked) false ⟨#[], #[.slice none 0 0, .int .u8 0, .agg #[.int .u8 0, .int .u8 0, .int .u8 0, .int .u8 0, .int .u8 0, .int .u8 0, .int .u8 0, .int .u8 0, .int .u8 0, .int .u8 0, .int .u8 0, .int .u8 0, .int .u8 0, .int .u8 0, .int .u8 0, .int .u8 0]], []⟩ 8 (by kernel_rfl) (by kernel_rfl) (by kernel_rfl) (by kernel_rfl)) ?_
  intro W base args ds gs before hval0 hW hcnd hsz0 _
  have hval : ∀ (j : Nat) t v, Try.f3.params[j]? = some t → args[j]? = some v → Value.okWide Try.prog W .any base t v := hval0
  have hW' := hW
  obtain ⟨p, q, hA0, hV, rfl, hfz, hnd⟩ := hW
  have hA : DataW.TrodAll enc Try.prog W 0 (fun _ => true) true Try.f3.params.toList args.toList ds p := hA0
  have hsz : (DataW.weightsEach Try.prog (Try.f3.params.toList ++ Rows.triePlaysSpec.plain.varTypes Try.prog) (ds ++ gs)).all (· ≤ reachBytes) = true := hsz0
  rw [Try.params3] at hA hval hsz
  obtain ⟨v0, vs0, d0, ds0, p0, q0, hargs, rfl, rfl, h0, r0⟩ := trodAll_cons hA
  obtain ⟨v1, vs1, d1, ds1, p1, q1, rfl, rfl, rfl, h1, r1⟩ := trodAll_cons r0
  obtain ⟨v2, vs2, d2, ds2, p2, q2, rfl, rfl, rfl, h2, r2⟩ := trodAll_cons r1
  obtain ⟨rfl, rfl, rfl⟩ := trodAll_nil r2
  obtain rfl : args = #[v0, v1, v2] := by cases args; simp_all
  obtain ⟨rfl, rfl⟩ := trodVars_none hV
  obtain ⟨a0, len0, cap0, rfl⟩ := okWide_slice Try.underlying22 (hval 0 22 v0 rfl rfl)
  have k0 := h0
  have lt0 : ∀ x ∈ p0, x.block < W.heap.size := by obtain ⟨m, hm⟩ := k0; exact DataW.trod_lt m _ _ _ hm
  obtain ⟨L0, w0⟩ := open_tops h0 (fun n hn => by
    have := List.all_eq_true.1 hsz n (DataW.weights_mem_each (j := 0) (t := 22) (d := d0) rfl rfl n hn)
    exact of_decide_eq_true this)
  obtain ⟨a1, rfl, rfl, rfl, w1⟩ := open_int Try.underlying5 (hval 1 5 v1 rfl rfl) h1
  have k2 := h2
  have lt2 : ∀ x ∈ p2, x.block < W.heap.size := by obtain ⟨m, hm⟩ := k2; exact DataW.trod_lt m _ _ _ hm
  obtain ⟨x2, rfl, w2⟩ := open_ag (hval 2 23 v2 rfl rfl) h2
  clear hA0 hval0
  refine (walkTriePlays a0 len0 cap0 L0 a1 x2 W w0 w1 w2).mono fun e W' ⟨he, bel⟩ => ?_
  subst he
  exact ⟨_, rfl, _, _, _, [], _, [], hW', trodAll_mk1 (shut_bool Try.underlying4 _), (trodAll_cons_mk (Below.trod laidOut (by kernel_rfl) (of_decide_eq_true (by kernel_rfl)) k0 bel lt0) (trodAll_cons_mk (shut_int Try.underlying5 w1) (trodAll_cons_mk (Below.trod laidOut (by kernel_rfl) (of_decide_eq_true (by kernel_rfl)) k2 bel lt2) trodAll_mk0))), rfl, bel.frame _, fun h => by cases h⟩
end TriePlays

theorem triePlays_holds : Rows.TriePlaysSaid :=
  OpenClaim.holds_of_wide 3 Try.f3 rfl rfl rfl rfl rfl rfl rfl ⟨rfl, rfl, rfl, rfl, rfl⟩ rfl rfl rfl rfl rfl (by kernel_rfl) Try.func3 (by kernel_rfl)
    (of_decide_eq_true (by kernel_rfl)) (by unfold Func.isWrapper; first | (rw [if_pos (by decide +kernel)]; kernel_rfl) | (rw [if_neg (by decide +kernel)]; exact ⟨rfl, rfl⟩))
    (fun os started H enc _ => TriePlays.lifted os started H enc)
#print axioms triePlays_holds
end Go.Proofs.Ytldgfjcdlkbngaa
