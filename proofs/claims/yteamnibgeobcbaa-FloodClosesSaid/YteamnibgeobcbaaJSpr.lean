/- A newer LSP is passed on: flood.spread. Each theorem states its conditions. -/
import Derived.Test.YteamnibgeobcbaaJPtr
import Derived.Test.YteamnibgeobcbaaJList
import Derived.Deep.DeepCutAuto
namespace Go.Proofs.Yteamnibgeobcbaa
open Go.RowKit
set_option linter.unusedVariables false

section
variable {w w' : World} {B g ga n k k' i : Nat} {F : Nat → Option Cir} {c : Cir} {S' : Nat → Bool}
theorem FlAt.turn_send (h : FlAt w B g ga n F k) (hi : i < n) (hF : F i = some c) (hs : SetAt w' c.sb S' k') (hk : k ≤ k') (hg : w.grownBy w' (some c.sb)) : FlAt w' B g ga n (updF F i (some { c with send := S' })) k' ∧ Below B w w' ∧ KeptT w w' := by
  have hc := h.cir i c hi hF
  refine ⟨h.turn hi hF (.inl rfl) hs ((hc.sum.other hg (fun e => hc.ne e.symm)).mono hk) hk hg, (Below.refl B w).grown hg (by have := h.hg; have := h.g.lt; omega) (fun j e => by cases e; exact hc.hs), hc.send.kept hg⟩
theorem FlAt.turn_sum (h : FlAt w B g ga n F k) (hi : i < n) (hF : F i = some c) (hs : SetAt w' c.mb S' k') (hk : k ≤ k') (hg : w.grownBy w' (some c.mb)) : FlAt w' B g ga n (updF F i (some { c with sum := S' })) k' ∧ Below B w w' ∧ KeptT w w' := by
  have hc := h.cir i c hi hF
  refine ⟨h.turn hi hF (.inr rfl) ((hc.send.other hg hc.ne).mono hk) hs hk hg, (Below.refl B w).grown hg (by have := h.hg; have := h.g.lt; omega) (fun j e => by cases e; exact hc.hm), hc.sum.kept hg⟩
end
theorem mem_one (x y : Nat) : memL (fun _ => x) 1 y = (y == x) := by rw [memL_succ]; simp [memL]
def cDrS (c : Cir) (x : Nat) : Cir := { c with send := fun y => c.send y && !(y == x) }
def cAdS (c : Cir) (x : Nat) : Cir := { c with send := fun y => c.send y || y == x }
def cDrM (c : Cir) (x : Nat) : Cir := { c with sum := fun y => c.sum y && !(y == x) }
def cAdM (c : Cir) (x : Nat) : Cir := { c with sum := fun y => c.sum y || y == x }
/-- what a newer LSP does to circuit i -/
def spread1 (x : Nat) (fr : Option Nat) (fm : Option Int) (i : Nat) (c : Cir) : Cir :=
  if fr = some i then c else if sparesB c.mesh fm = true then cDrS (cDrM c x) x else cAdS (cDrM c x) x
def sprJ (F : Nat → Option Cir) (x : Nat) (fr : Option Nat) (fm : Option Int) (j : Nat) : Nat → Option Cir := fun i => if i < j then (F i).map (spread1 x fr fm i) else F i
theorem sprJ_at (F : Nat → Option Cir) (x : Nat) (fr : Option Nat) (fm : Option Int) (j : Nat) : sprJ F x fr fm j j = F j := by simp [sprJ]
theorem sprJ_zero (F : Nat → Option Cir) (x : Nat) (fr : Option Nat) (fm : Option Int) : sprJ F x fr fm 0 = F := by funext i; simp [sprJ]
theorem sprJ_succ (F : Nat → Option Cir) (x : Nat) (fr : Option Nat) (fm : Option Int) (j : Nat) : updF (sprJ F x fr fm j) j ((F j).map (spread1 x fr fm j)) = sprJ F x fr fm (j + 1) := by
  funext i
  unfold updF sprJ
  by_cases h : i = j
  · subst h; simp
  · rw [if_neg h]
    by_cases h2 : i < j
    · rw [if_pos h2, if_pos (by omega)]
    · rw [if_neg h2, if_neg (by omega)]
theorem updF_upd (F : Nat → Option Cir) (i : Nat) (a b : Option Cir) : updF (updF F i a) i b = updF F i b := by funext j; unfold updF; split <;> rfl
theorem updF_self (F : Nat → Option Cir) (i : Nat) : updF F i (F i) = F := by funext j; unfold updF; split <;> simp_all
set_option maxHeartbeats 40000000 in
set_option maxRecDepth 100000 in
theorem spread_none {B g ga n k : Nat} {F : Nat → Option Cir} (w : World) (h : FlAt w B g ga n F k) (x : Nat) (hx : IdOk x) :
    Calls Try.prog 25 #[.pointer (some ⟨g, 0, none⟩), .pointer none, .agg (idC x)] w fun e w' => e = .returned (.tuple #[]) ∧ FlAt w' B g ga n (sprJ F x none none n) (k + n) ∧ Below B w w' ∧ KeptT w w' := by
  have HF := Lib.hid h
  have hbs := Lib.hid (show B ≤ w.heap.size by have := h.hg; have := h.g.lt; omega)
  have hn8 := h.hn
  clear h
  go_enter Try.func25, Try.ntmps25
  obtain ⟨N1, hN1⟩ : ∃ N, w.heap.size = N := ⟨_, rfl⟩
  have HN1 := Lib.hid hN1
  clear hN1
  go_wp2_with (refine wpList_box (op := ⟨some 5, _, _, _, _, _⟩) rfl 28 (.tmp 2) rfl (idC x) rfl N1 HN1.out ?_; intro w1 k1 b1 s1; refine Hid.out ?_)
  refine Lib.hid ?_
  have HFn := Lib.hid (HF.out.below b1)
  have HK := Lib.hid k1
  have HB := Lib.hid (b1.mono hbs.out)
  have HT := Lib.hid (KeptT.of_below b1)
  clear k1 b1 s1 HF HN1
  have HF := HFn
  clear HFn
  have c0 : w1.cell? ⟨g, 0, none⟩ = some (.slice (some ⟨ga, 0, none⟩) n n) := (HF.out.g.cell 0).trans rfl
  go_wp2_with fail
  clear c0
  go_loopw [13] (fun s wr => ∃ j : Nat, j ≤ n ∧ s = .int .i64 (j : Int) ∧ Hid (FlAt wr B g ga n (sprJ F x none none j) (k + j)) ∧ Hid (Blk 28 wr N1 (idC x)) ∧ Hid (Below B w wr) ∧ Hid (KeptT w wr)) (fun s _ => n - (intOf s).toNat)
  case atStart => exact ⟨0, by omega, rfl, by rw [sprJ_zero]; exact HF, HK, HB, HT⟩
  case round =>
    clear HF HK HB HT
    obtain ⟨j, hj, rfl, HF, HK, HB, HT⟩ := hrel
    by_cases hlt : j < n
    · skip
      have hji : (j : Int) < (n : Int) := by omega
      have hov : (j : Int) + 1 ≤ 9223372036854775807 := by omega
      have c0 : wr.cell? ⟨ga, j, none⟩ = some (ptrC (F j)) := by rw [HF.out.a.cell j, arC_at _ hlt, sprJ_at]
      cases hF : F j with
      | none =>
        rw [hF] at c0
        simp only [ptrC] at c0
        have HFj := Lib.hid hF
        clear hF
        go_wp2_with fail
        go_roundw
        case rel => exact ⟨j + 1, by omega, by simp, Lib.hid (by have h9 := sprJ_succ F x none none j; rw [HFj.out, Option.map_none] at h9; rw [← h9]; have h8 := HF.out.mono (k' := k + (j + 1)) (by omega); rw [show updF (sprJ F x none none j) j none = sprJ F x none none j from by have := updF_self (sprJ F x none none j) j; rw [sprJ_at, HFj.out] at this; exact this]; exact h8), HK, HB, HT⟩
        case measure => simp [intOf]; omega
      | some c =>
        rw [hF] at c0
        simp only [ptrC] at c0
        have HFj := Lib.hid hF
        clear hF
        have hFi : Hid (sprJ F x none none j j = some c) := Lib.hid (by rw [sprJ_at]; exact HFj.out)
        go_wp2_with fail
        refine wp_region_held_drew (S := fun w' => Blk 65 w' c.cb (cirC c) ∧ Blk 28 w' N1 (idC x)) (by kernel_rfl) ⟨(HF.out.cir j _ hlt hFi.out).blk, HK.out⟩ (fun hS => ?_)
        have HFd := Lib.hid HF.out.drew
        have HBd := Lib.hid HB.out.drew
        have HTd : Hid (KeptT w wr.drew) := Lib.hid HT.out
        clear HF HB HT HK
        generalize hW1 : wr.drew = W1 at hS HFd HBd HTd ⊢
        clear hW1
        have HF := HFd
        have HB := HBd
        have HT := HTd
        clear HFd HBd HTd
        refine takeY (i := 0) (some 24) (v := .pointer (some ⟨c.cb, 0, none⟩)) rfl rfl (by kernel_rfl) (by kernel_rfl) (by kernel_rfl) (fun _ _ _ h => h) (by rfl) (fun w' hS => by clear hS; go_simp) hS ?_
        simp only [Act.put, List.setIfInBounds_toArray, List.set_cons_zero, List.set_cons_succ]
        refine takeY (i := 1) (some 25) (v := .pointer (some ⟨c.cb, 0, none⟩)) rfl rfl (by kernel_rfl) (by kernel_rfl) (by kernel_rfl) (fun _ _ _ h => h) (by rfl) (fun w' hS => by clear hS; go_simp) hS ?_
        simp only [Act.put, List.setIfInBounds_toArray, List.set_cons_zero, List.set_cons_succ]
        refine takeY (i := 2) (some 26) (v := .pointer (some ⟨c.cb, 2, none⟩)) rfl rfl (by kernel_rfl) (by kernel_rfl) (by kernel_rfl) (fun _ _ _ h => h) (by rfl) (fun w' hS => by clear hS; go_simp) hS ?_
        simp only [Act.put, List.setIfInBounds_toArray, List.set_cons_zero, List.set_cons_succ]
        refine takeY (i := 3) (some 27) (v := .map (some c.mb)) rfl rfl (by kernel_rfl) (by kernel_rfl) (by kernel_rfl) (fun _ _ _ h => h) (by rfl) (fun w' hS => by (have c9 : w'.cell? ⟨c.cb, 2, none⟩ = some (.map (some c.mb)) := (hS.1.cell 2).trans rfl; clear hS; go_simp)) hS ?_
        simp only [Act.put, List.setIfInBounds_toArray, List.set_cons_zero, List.set_cons_succ]
        refine takeL (i := 4) (some 28) 28 (.tmp 5) N1 0 (idC x) _ rfl rfl (by kernel_rfl) (by kernel_rfl) (by kernel_rfl) (fun _ _ _ h => h) (by rfl) rfl rfl (fun w' hS => hS.2.all) Try.underlying28 rfl info_id hS ?_
        simp only [Act.put, List.setIfInBounds_toArray, List.set_cons_zero, List.set_cons_succ]
        have hci := HF.out.cir j _ hlt hFi.out
        refine takeC (i := 5) (some 29) 26 #[.map (some c.mb), .agg (idC x)] (.tuple #[]) (R := fun w' => SetAt w' c.mb (fun y => c.sum y && !(y == x)) (k + j) ∧ W1.grownBy w' (some c.mb)) rfl rfl (by kernel_rfl) (by rfl) (by go_simp) (drop_any c.mb (k + j) x _ W1 hci.sum hx) (fun w' hb => ⟨hS.1.kept (hci.sum.kept hb.2) (by decide), hS.2.kept (hci.sum.kept hb.2) (by decide)⟩) (fun w1 hb hS2 => ?_)
        simp only [Act.put, List.setIfInBounds_toArray, List.set_cons_zero, List.set_cons_succ]
        have hft := HF.out.turn_sum hlt hFi.out hb.1 (by omega) hb.2
        have HFn := Lib.hid hft.1
        have HBn := Lib.hid (HB.out.trans hft.2.1)
        have HTn := Lib.hid (HT.out.trans hft.2.2)
        have HK : Hid (Blk 28 w1 N1 (idC x)) := Lib.hid hS2.2
        clear HF HB HT hci hS hS2 hb hft
        have HF := HFn
        have HB := HBn
        have HT := HTn
        clear HFn HBn HTn
        refine wpAnyH_done (by kernel_rfl) ?_ _
        go_wp2_with fail
        have hsp := spares_none w1 c (HF.out.cir j _ hlt (updF_same _ _ _)).blk
        refine hsp.mono ?_
        clear hsp
        rintro e w9 ⟨rfl, b1⟩
        have HFn := Lib.hid (HF.out.below b1)
        have HKn := Lib.hid (HK.out.below b1 HK.out.lt)
        have HBn := Lib.hid (HB.out.trans (b1.mono (by have := HB.out.size; have := hbs.out; omega)))
        have HTn := Lib.hid (HT.out.trans (KeptT.of_below b1))
        clear HF HK HB HT b1
        have HF := HFn
        have HK := HKn
        have HB := HBn
        have HT := HTn
        clear HFn HKn HBn HTn
        cases hq : sparesB c.mesh none with
        | true =>
          have HQ := Lib.hid hq
          clear hq
          go_wp2_with fail
          refine wp_region_held_drew (S := fun w' => Blk 65 w' c.cb (cirC c) ∧ Blk 28 w' N1 (idC x)) (by kernel_rfl) ⟨(HF.out.cir j _ hlt (updF_same _ _ _)).blk, HK.out⟩ (fun hS => ?_)
          have HFd := Lib.hid HF.out.drew
          have HBd := Lib.hid HB.out.drew
          have HTd : Hid (KeptT w w9.drew) := Lib.hid HT.out
          clear HF HB HT HK
          generalize hW12 : w9.drew = W12 at hS HFd HBd HTd ⊢
          clear hW12
          have HF := HFd
          have HB := HBd
          have HT := HTd
          clear HFd HBd HTd
          refine takeY (i := 0) (some 33) (v := .pointer (some ⟨c.cb, 0, none⟩)) rfl rfl (by kernel_rfl) (by kernel_rfl) (by kernel_rfl) (fun _ _ _ h => h) (by rfl) (fun w' hS => by clear hS; go_simp) hS ?_
          simp only [Act.put, List.setIfInBounds_toArray, List.set_cons_zero, List.set_cons_succ]
          refine takeY (i := 1) (some 34) (v := .pointer (some ⟨c.cb, 0, none⟩)) rfl rfl (by kernel_rfl) (by kernel_rfl) (by kernel_rfl) (fun _ _ _ h => h) (by rfl) (fun w' hS => by clear hS; go_simp) hS ?_
          simp only [Act.put, List.setIfInBounds_toArray, List.set_cons_zero, List.set_cons_succ]
          refine takeY (i := 2) (some 35) (v := .pointer (some ⟨c.cb, 1, none⟩)) rfl rfl (by kernel_rfl) (by kernel_rfl) (by kernel_rfl) (fun _ _ _ h => h) (by rfl) (fun w' hS => by clear hS; go_simp) hS ?_
          simp only [Act.put, List.setIfInBounds_toArray, List.set_cons_zero, List.set_cons_succ]
          refine takeY (i := 3) (some 36) (v := .map (some c.sb)) rfl rfl (by kernel_rfl) (by kernel_rfl) (by kernel_rfl) (fun _ _ _ h => h) (by rfl) (fun w' hS => by (have c9 : w'.cell? ⟨c.cb, 1, none⟩ = some (.map (some c.sb)) := (hS.1.cell 1).trans rfl; clear hS; go_simp)) hS ?_
          simp only [Act.put, List.setIfInBounds_toArray, List.set_cons_zero, List.set_cons_succ]
          refine takeL (i := 4) (some 37) 28 (.tmp 5) N1 0 (idC x) _ rfl rfl (by kernel_rfl) (by kernel_rfl) (by kernel_rfl) (fun _ _ _ h => h) (by rfl) rfl rfl (fun w' hS => hS.2.all) Try.underlying28 rfl info_id hS ?_
          simp only [Act.put, List.setIfInBounds_toArray, List.set_cons_zero, List.set_cons_succ]
          have hci := HF.out.cir j _ hlt (updF_same _ _ _)
          refine takeC (i := 5) (some 38) 26 #[.map (some c.sb), .agg (idC x)] (.tuple #[]) (R := fun w' => SetAt w' c.sb (fun y => (cDrM c x).send y && !(y == x)) (k + j) ∧ W12.grownBy w' (some c.sb)) rfl rfl (by kernel_rfl) (by rfl) (by go_simp) (drop_any c.sb (k + j) x _ W12 hci.send hx) (fun w' hb => ⟨hS.1.kept (hci.send.kept hb.2) (by decide), hS.2.kept (hci.send.kept hb.2) (by decide)⟩) (fun w12 hb hS2 => ?_)
          simp only [Act.put, List.setIfInBounds_toArray, List.set_cons_zero, List.set_cons_succ]
          have hft := HF.out.turn_send hlt (updF_same _ _ _) hb.1 (by omega) hb.2
          have HFn := Lib.hid hft.1
          have HBn := Lib.hid (HB.out.trans hft.2.1)
          have HTn := Lib.hid (HT.out.trans hft.2.2)
          have HK : Hid (Blk 28 w12 N1 (idC x)) := Lib.hid hS2.2
          clear HF HB HT hci hS hS2 hb hft
          have HF := HFn
          have HB := HBn
          have HT := HTn
          clear HFn HBn HTn
          refine wpAnyH_done (by kernel_rfl) ?_ _
          go_wp2_with fail
          go_roundw
          case rel => exact ⟨j + 1, by omega, by simp, Lib.hid (by have h9 := sprJ_succ F x none none j; rw [HFj.out, Option.map_some, show spread1 x none none j c = cDrS (cDrM c x) x from by simp only [spread1, HQ.out]; rfl] at h9; rw [← h9]; have h8 := HF.out.mono (k' := k + (j + 1)) (by omega); rw [updF_upd] at h8; exact h8), HK, HB, HT⟩
          case measure => simp [intOf]; omega
        | false =>
          have HQ := Lib.hid hq
          clear hq
          go_wp2_with fail
          refine wp_region_held_drew (S := fun w' => Blk 65 w' c.cb (cirC c) ∧ Blk 28 w' N1 (idC x)) (by kernel_rfl) ⟨(HF.out.cir j _ hlt (updF_same _ _ _)).blk, HK.out⟩ (fun hS => ?_)
          have HFd := Lib.hid HF.out.drew
          have HBd := Lib.hid HB.out.drew
          have HTd : Hid (KeptT w w9.drew) := Lib.hid HT.out
          clear HF HB HT HK
          generalize hW22 : w9.drew = W22 at hS HFd HBd HTd ⊢
          clear hW22
          have HF := HFd
          have HB := HBd
          have HT := HTd
          clear HFd HBd HTd
          refine takeY (i := 0) (some 39) (v := .pointer (some ⟨c.cb, 0, none⟩)) rfl rfl (by kernel_rfl) (by kernel_rfl) (by kernel_rfl) (fun _ _ _ h => h) (by rfl) (fun w' hS => by clear hS; go_simp) hS ?_
          simp only [Act.put, List.setIfInBounds_toArray, List.set_cons_zero, List.set_cons_succ]
          refine takeY (i := 1) (some 40) (v := .pointer (some ⟨c.cb, 0, none⟩)) rfl rfl (by kernel_rfl) (by kernel_rfl) (by kernel_rfl) (fun _ _ _ h => h) (by rfl) (fun w' hS => by clear hS; go_simp) hS ?_
          simp only [Act.put, List.setIfInBounds_toArray, List.set_cons_zero, List.set_cons_succ]
          refine takeY (i := 2) (some 41) (v := .pointer (some ⟨c.cb, 1, none⟩)) rfl rfl (by kernel_rfl) (by kernel_rfl) (by kernel_rfl) (fun _ _ _ h => h) (by rfl) (fun w' hS => by clear hS; go_simp) hS ?_
          simp only [Act.put, List.setIfInBounds_toArray, List.set_cons_zero, List.set_cons_succ]
          refine takeY (i := 3) (some 42) (v := .map (some c.sb)) rfl rfl (by kernel_rfl) (by kernel_rfl) (by kernel_rfl) (fun _ _ _ h => h) (by rfl) (fun w' hS => by (have c9 : w'.cell? ⟨c.cb, 1, none⟩ = some (.map (some c.sb)) := (hS.1.cell 1).trans rfl; clear hS; go_simp)) hS ?_
          simp only [Act.put, List.setIfInBounds_toArray, List.set_cons_zero, List.set_cons_succ]
          refine takeL (i := 4) (some 43) 28 (.tmp 5) N1 0 (idC x) _ rfl rfl (by kernel_rfl) (by kernel_rfl) (by kernel_rfl) (fun _ _ _ h => h) (by rfl) rfl rfl (fun w' hS => hS.2.all) Try.underlying28 rfl info_id hS ?_
          simp only [Act.put, List.setIfInBounds_toArray, List.set_cons_zero, List.set_cons_succ]
          have hci := HF.out.cir j _ hlt (updF_same _ _ _)
          obtain ⟨M22, hM22⟩ : ∃ N, W22.heap.size = N := ⟨_, rfl⟩
          obtain ⟨V22, hV22⟩ : ∃ W4, W22.alloc (.cells (idC x) 28) = W4 := ⟨_, rfl⟩
          have hb4 : Below W22.heap.size W22 V22 := by rw [← hV22]; exact (Below.refl _ _).alloc (Nat.le_refl _) _
          have k4 : Blk 28 V22 M22 (idC x) := by rw [← hV22, ← hM22]; exact heap_alloc_new W22 _
          have hS4 : Blk 65 V22 c.cb (cirC c) ∧ Blk 28 V22 N1 (idC x) := ⟨hS.1.below hb4 hS.1.lt, hS.2.below hb4 hS.2.lt⟩
          refine takeV (i := 5) (some 44) (v := .slice (some ⟨M22, 0, none⟩) 1 1) (w' := V22) rfl rfl (by kernel_rfl) (by rfl) (by rw [← hM22, ← hV22]; exact bs_id W22 _ _ rfl x rfl) hS4 ?_
          simp only [Act.put, List.setIfInBounds_toArray, List.set_cons_zero, List.set_cons_succ]
          have HF4 := Lib.hid (HF.out.below hb4)
          have HB4 := Lib.hid (HB.out.trans (hb4.mono (by have := HB.out.size; have := hbs.out; omega)))
          have HT4 := Lib.hid (HT.out.trans (KeptT.of_below hb4))
          clear HF HB HT hci hS hb4 hM22 hV22
          have HF := HF4
          have HB := HB4
          have HT := HT4
          clear HF4 HB4 HT4
          have hS := hS4
          clear hS4
          have hci := HF.out.cir j _ hlt (updF_same _ _ _)
          refine takeC (i := 6) (some 45) 27 #[.map (some c.sb), .slice (some ⟨M22, 0, none⟩) 1 1] (.tuple #[]) (R := fun w' => SetAt w' c.sb (fun y => (cDrM c x).send y || y == x) (k + j + 1) ∧ V22.grownBy w' (some c.sb)) rfl rfl (by kernel_rfl) (by rfl) (by go_simp) ((add_any c.sb (k + j) _ (some ⟨M22, 0, none⟩) 1 1 (fun _ => x) V22 hci.send (rdR_blk k4) (fun _ _ => hx) (by decide)).mono (fun e w' h => ⟨h.1, h.2.1.congr (fun y => by rw [mem_one]; first | done | rfl), h.2.2⟩)) (fun w' hb => ⟨hS.1.kept (hci.send.kept hb.2) (by decide), hS.2.kept (hci.send.kept hb.2) (by decide)⟩) (fun w22 hb hS2 => ?_)
          simp only [Act.put, List.setIfInBounds_toArray, List.set_cons_zero, List.set_cons_succ]
          have hft := HF.out.turn_send hlt (updF_same _ _ _) hb.1 (by omega) hb.2
          have HFn := Lib.hid hft.1
          have HBn := Lib.hid (HB.out.trans hft.2.1)
          have HTn := Lib.hid (HT.out.trans hft.2.2)
          have HK : Hid (Blk 28 w22 N1 (idC x)) := Lib.hid hS2.2
          clear HF HB HT hci hS hS2 hb hft k4
          have HF := HFn
          have HB := HBn
          have HT := HTn
          clear HFn HBn HTn
          refine wpAnyH_done (by kernel_rfl) ?_ _
          go_wp2_with fail
          go_roundw
          case rel => exact ⟨j + 1, by omega, by simp, Lib.hid (by have h9 := sprJ_succ F x none none j; rw [HFj.out, Option.map_some, show spread1 x none none j c = cAdS (cDrM c x) x from by simp only [spread1, HQ.out]; rfl] at h9; rw [← h9]; have h8 := HF.out.mono (k' := k + (j + 1)) (by omega); rw [updF_upd] at h8; exact h8), HK, HB, HT⟩
          case measure => simp [intOf]; omega
    · obtain rfl : j = n := by omega
      go_wp2_with fail
      go_end0
      exact ⟨rfl, HF.out, HB.out, HT.out⟩
set_option maxHeartbeats 40000000 in
set_option maxRecDepth 100000 in
theorem spread_some {B g ga n k : Nat} {F : Nat → Option Cir} (w : World) (h : FlAt w B g ga n F k) (f : Nat) (d : Cir) (hf : f < n) (hd : F f = some d) (x : Nat) (hx : IdOk x) :
    Calls Try.prog 25 #[.pointer (some ⟨g, 0, none⟩), .pointer (some ⟨d.cb, 0, none⟩), .agg (idC x)] w fun e w' => e = .returned (.tuple #[]) ∧ FlAt w' B g ga n (sprJ F x (some f) (some d.mesh) n) (k + n) ∧ Below B w w' ∧ KeptT w w' := by
  have HF := Lib.hid h
  have hbs := Lib.hid (show B ≤ w.heap.size by have := h.hg; have := h.g.lt; omega)
  have hn8 := h.hn
  have HD := Lib.hid hd
  clear hd
  clear h
  go_enter Try.func25, Try.ntmps25
  obtain ⟨N1, hN1⟩ : ∃ N, w.heap.size = N := ⟨_, rfl⟩
  have HN1 := Lib.hid hN1
  clear hN1
  go_wp2_with (refine wpList_box (op := ⟨some 5, _, _, _, _, _⟩) rfl 28 (.tmp 2) rfl (idC x) rfl N1 HN1.out ?_; intro w1 k1 b1 s1; refine Hid.out ?_)
  refine Lib.hid ?_
  have HFn := Lib.hid (HF.out.below b1)
  have HK := Lib.hid k1
  have HB := Lib.hid (b1.mono hbs.out)
  have HT := Lib.hid (KeptT.of_below b1)
  clear k1 b1 s1 HF HN1
  have HF := HFn
  clear HFn
  have c0 : w1.cell? ⟨g, 0, none⟩ = some (.slice (some ⟨ga, 0, none⟩) n n) := (HF.out.g.cell 0).trans rfl
  go_wp2_with fail
  clear c0
  go_loopw [13] (fun s wr => ∃ j : Nat, j ≤ n ∧ s = .int .i64 (j : Int) ∧ Hid (FlAt wr B g ga n (sprJ F x (some f) (some d.mesh) j) (k + j)) ∧ Hid (Blk 28 wr N1 (idC x)) ∧ Hid (Below B w wr) ∧ Hid (KeptT w wr)) (fun s _ => n - (intOf s).toNat)
  case atStart => exact ⟨0, by omega, rfl, by rw [sprJ_zero]; exact HF, HK, HB, HT⟩
  case round =>
    clear HF HK HB HT
    obtain ⟨j, hj, rfl, HF, HK, HB, HT⟩ := hrel
    by_cases hlt : j < n
    · skip
      have hji : (j : Int) < (n : Int) := by omega
      have hov : (j : Int) + 1 ≤ 9223372036854775807 := by omega
      have c0 : wr.cell? ⟨ga, j, none⟩ = some (ptrC (F j)) := by rw [HF.out.a.cell j, arC_at _ hlt, sprJ_at]
      cases hF : F j with
      | none =>
        rw [hF] at c0
        simp only [ptrC] at c0
        have HFj := Lib.hid hF
        clear hF
        go_wp2_with fail
        go_roundw
        case rel => exact ⟨j + 1, by omega, by simp, Lib.hid (by have h9 := sprJ_succ F x (some f) (some d.mesh) j; rw [HFj.out, Option.map_none] at h9; rw [← h9]; have h8 := HF.out.mono (k' := k + (j + 1)) (by omega); rw [show updF (sprJ F x (some f) (some d.mesh) j) j none = sprJ F x (some f) (some d.mesh) j from by have := updF_self (sprJ F x (some f) (some d.mesh) j) j; rw [sprJ_at, HFj.out] at this; exact this]; exact h8), HK, HB, HT⟩
        case measure => simp [intOf]; omega
      | some c =>
        rw [hF] at c0
        simp only [ptrC] at c0
        have HFj := Lib.hid hF
        clear hF
        by_cases hfj : f = j
        · subst hfj
          obtain rfl : c = d := by have h1 := HFj.out; have h2 := HD.out; rw [h1] at h2; exact Option.some.inj h2
          have hpe := ptr_eq c.cb wr
          go_wp2_with fail
          go_roundw
          case rel => exact ⟨f + 1, by omega, by simp, Lib.hid (by have h9 := sprJ_succ F x (some f) (some c.mesh) f; rw [HFj.out, Option.map_some, show spread1 x (some f) (some c.mesh) f c = c from by simp [spread1]] at h9; rw [← h9]; have h8 := HF.out.mono (k' := k + (f + 1)) (by omega); rw [show updF (sprJ F x (some f) (some c.mesh) f) f (some c) = sprJ F x (some f) (some c.mesh) f from by have := updF_self (sprJ F x (some f) (some c.mesh) f) f; rw [sprJ_at, HFj.out] at this; exact this]; exact h8), HK, HB, HT⟩
          case measure => simp [intOf]; omega
        · skip
          have hDj : Hid (sprJ F x (some f) (some d.mesh) j f = some d) := Lib.hid (by unfold sprJ; rw [HD.out]; split <;> simp [spread1])
          have hcd : c.cb ≠ d.cb := (HF.out.far j f c d hlt hf (fun e => hfj e.symm) (by rw [sprJ_at]; exact HFj.out) hDj.out).1
          have hpn := ptr_ne hcd (HF.out.cir j c hlt (by rw [sprJ_at]; exact HFj.out)).blk (HF.out.cir f d hf hDj.out).blk
          have hFi : Hid (sprJ F x (some f) (some d.mesh) j j = some c) := Lib.hid (by rw [sprJ_at]; exact HFj.out)
          go_wp2_with fail
          refine wp_region_held_drew (S := fun w' => Blk 65 w' c.cb (cirC c) ∧ Blk 28 w' N1 (idC x)) (by kernel_rfl) ⟨(HF.out.cir j _ hlt hFi.out).blk, HK.out⟩ (fun hS => ?_)
          have HFd := Lib.hid HF.out.drew
          have HBd := Lib.hid HB.out.drew
          have HTd : Hid (KeptT w wr.drew) := Lib.hid HT.out
          clear HF HB HT HK
          generalize hW1 : wr.drew = W1 at hS HFd HBd HTd ⊢
          clear hW1
          have HF := HFd
          have HB := HBd
          have HT := HTd
          clear HFd HBd HTd
          refine takeY (i := 0) (some 24) (v := .pointer (some ⟨c.cb, 0, none⟩)) rfl rfl (by kernel_rfl) (by kernel_rfl) (by kernel_rfl) (fun _ _ _ h => h) (by rfl) (fun w' hS => by clear hS; go_simp) hS ?_
          simp only [Act.put, List.setIfInBounds_toArray, List.set_cons_zero, List.set_cons_succ]
          refine takeY (i := 1) (some 25) (v := .pointer (some ⟨c.cb, 0, none⟩)) rfl rfl (by kernel_rfl) (by kernel_rfl) (by kernel_rfl) (fun _ _ _ h => h) (by rfl) (fun w' hS => by clear hS; go_simp) hS ?_
          simp only [Act.put, List.setIfInBounds_toArray, List.set_cons_zero, List.set_cons_succ]
          refine takeY (i := 2) (some 26) (v := .pointer (some ⟨c.cb, 2, none⟩)) rfl rfl (by kernel_rfl) (by kernel_rfl) (by kernel_rfl) (fun _ _ _ h => h) (by rfl) (fun w' hS => by clear hS; go_simp) hS ?_
          simp only [Act.put, List.setIfInBounds_toArray, List.set_cons_zero, List.set_cons_succ]
          refine takeY (i := 3) (some 27) (v := .map (some c.mb)) rfl rfl (by kernel_rfl) (by kernel_rfl) (by kernel_rfl) (fun _ _ _ h => h) (by rfl) (fun w' hS => by (have c9 : w'.cell? ⟨c.cb, 2, none⟩ = some (.map (some c.mb)) := (hS.1.cell 2).trans rfl; clear hS; go_simp)) hS ?_
          simp only [Act.put, List.setIfInBounds_toArray, List.set_cons_zero, List.set_cons_succ]
          refine takeL (i := 4) (some 28) 28 (.tmp 5) N1 0 (idC x) _ rfl rfl (by kernel_rfl) (by kernel_rfl) (by kernel_rfl) (fun _ _ _ h => h) (by rfl) rfl rfl (fun w' hS => hS.2.all) Try.underlying28 rfl info_id hS ?_
          simp only [Act.put, List.setIfInBounds_toArray, List.set_cons_zero, List.set_cons_succ]
          have hci := HF.out.cir j _ hlt hFi.out
          refine takeC (i := 5) (some 29) 26 #[.map (some c.mb), .agg (idC x)] (.tuple #[]) (R := fun w' => SetAt w' c.mb (fun y => c.sum y && !(y == x)) (k + j) ∧ W1.grownBy w' (some c.mb)) rfl rfl (by kernel_rfl) (by rfl) (by go_simp) (drop_any c.mb (k + j) x _ W1 hci.sum hx) (fun w' hb => ⟨hS.1.kept (hci.sum.kept hb.2) (by decide), hS.2.kept (hci.sum.kept hb.2) (by decide)⟩) (fun w1 hb hS2 => ?_)
          simp only [Act.put, List.setIfInBounds_toArray, List.set_cons_zero, List.set_cons_succ]
          have hft := HF.out.turn_sum hlt hFi.out hb.1 (by omega) hb.2
          have HFn := Lib.hid hft.1
          have HBn := Lib.hid (HB.out.trans hft.2.1)
          have HTn := Lib.hid (HT.out.trans hft.2.2)
          have HK : Hid (Blk 28 w1 N1 (idC x)) := Lib.hid hS2.2
          clear HF HB HT hci hS hS2 hb hft
          have HF := HFn
          have HB := HBn
          have HT := HTn
          clear HFn HBn HTn
          refine wpAnyH_done (by kernel_rfl) ?_ _
          go_wp2_with fail
          have hsp := spares_some w1 c d (HF.out.cir j _ hlt (updF_same _ _ _)).blk (HF.out.cir f d hf (by rw [updF_other _ _ hfj]; exact hDj.out)).blk
          refine hsp.mono ?_
          clear hsp
          rintro e w9 ⟨rfl, b1⟩
          have HFn := Lib.hid (HF.out.below b1)
          have HKn := Lib.hid (HK.out.below b1 HK.out.lt)
          have HBn := Lib.hid (HB.out.trans (b1.mono (by have := HB.out.size; have := hbs.out; omega)))
          have HTn := Lib.hid (HT.out.trans (KeptT.of_below b1))
          clear HF HK HB HT b1
          have HF := HFn
          have HK := HKn
          have HB := HBn
          have HT := HTn
          clear HFn HKn HBn HTn
          cases hq : sparesB c.mesh (some d.mesh) with
          | true =>
            have HQ := Lib.hid hq
            clear hq
            go_wp2_with fail
            refine wp_region_held_drew (S := fun w' => Blk 65 w' c.cb (cirC c) ∧ Blk 28 w' N1 (idC x)) (by kernel_rfl) ⟨(HF.out.cir j _ hlt (updF_same _ _ _)).blk, HK.out⟩ (fun hS => ?_)
            have HFd := Lib.hid HF.out.drew
            have HBd := Lib.hid HB.out.drew
            have HTd : Hid (KeptT w w9.drew) := Lib.hid HT.out
            clear HF HB HT HK
            generalize hW12 : w9.drew = W12 at hS HFd HBd HTd ⊢
            clear hW12
            have HF := HFd
            have HB := HBd
            have HT := HTd
            clear HFd HBd HTd
            refine takeY (i := 0) (some 33) (v := .pointer (some ⟨c.cb, 0, none⟩)) rfl rfl (by kernel_rfl) (by kernel_rfl) (by kernel_rfl) (fun _ _ _ h => h) (by rfl) (fun w' hS => by clear hS; go_simp) hS ?_
            simp only [Act.put, List.setIfInBounds_toArray, List.set_cons_zero, List.set_cons_succ]
            refine takeY (i := 1) (some 34) (v := .pointer (some ⟨c.cb, 0, none⟩)) rfl rfl (by kernel_rfl) (by kernel_rfl) (by kernel_rfl) (fun _ _ _ h => h) (by rfl) (fun w' hS => by clear hS; go_simp) hS ?_
            simp only [Act.put, List.setIfInBounds_toArray, List.set_cons_zero, List.set_cons_succ]
            refine takeY (i := 2) (some 35) (v := .pointer (some ⟨c.cb, 1, none⟩)) rfl rfl (by kernel_rfl) (by kernel_rfl) (by kernel_rfl) (fun _ _ _ h => h) (by rfl) (fun w' hS => by clear hS; go_simp) hS ?_
            simp only [Act.put, List.setIfInBounds_toArray, List.set_cons_zero, List.set_cons_succ]
            refine takeY (i := 3) (some 36) (v := .map (some c.sb)) rfl rfl (by kernel_rfl) (by kernel_rfl) (by kernel_rfl) (fun _ _ _ h => h) (by rfl) (fun w' hS => by (have c9 : w'.cell? ⟨c.cb, 1, none⟩ = some (.map (some c.sb)) := (hS.1.cell 1).trans rfl; clear hS; go_simp)) hS ?_
            simp only [Act.put, List.setIfInBounds_toArray, List.set_cons_zero, List.set_cons_succ]
            refine takeL (i := 4) (some 37) 28 (.tmp 5) N1 0 (idC x) _ rfl rfl (by kernel_rfl) (by kernel_rfl) (by kernel_rfl) (fun _ _ _ h => h) (by rfl) rfl rfl (fun w' hS => hS.2.all) Try.underlying28 rfl info_id hS ?_
            simp only [Act.put, List.setIfInBounds_toArray, List.set_cons_zero, List.set_cons_succ]
            have hci := HF.out.cir j _ hlt (updF_same _ _ _)
            refine takeC (i := 5) (some 38) 26 #[.map (some c.sb), .agg (idC x)] (.tuple #[]) (R := fun w' => SetAt w' c.sb (fun y => (cDrM c x).send y && !(y == x)) (k + j) ∧ W12.grownBy w' (some c.sb)) rfl rfl (by kernel_rfl) (by rfl) (by go_simp) (drop_any c.sb (k + j) x _ W12 hci.send hx) (fun w' hb => ⟨hS.1.kept (hci.send.kept hb.2) (by decide), hS.2.kept (hci.send.kept hb.2) (by decide)⟩) (fun w12 hb hS2 => ?_)
            simp only [Act.put, List.setIfInBounds_toArray, List.set_cons_zero, List.set_cons_succ]
            have hft := HF.out.turn_send hlt (updF_same _ _ _) hb.1 (by omega) hb.2
            have HFn := Lib.hid hft.1
            have HBn := Lib.hid (HB.out.trans hft.2.1)
            have HTn := Lib.hid (HT.out.trans hft.2.2)
            have HK : Hid (Blk 28 w12 N1 (idC x)) := Lib.hid hS2.2
            clear HF HB HT hci hS hS2 hb hft
            have HF := HFn
            have HB := HBn
            have HT := HTn
            clear HFn HBn HTn
            refine wpAnyH_done (by kernel_rfl) ?_ _
            go_wp2_with fail
            go_roundw
            case rel => exact ⟨j + 1, by omega, by simp, Lib.hid (by have h9 := sprJ_succ F x (some f) (some d.mesh) j; rw [HFj.out, Option.map_some, show spread1 x (some f) (some d.mesh) j c = cDrS (cDrM c x) x from by unfold spread1; rw [if_neg (fun e => hfj (Option.some.inj e)), HQ.out]; rfl] at h9; rw [← h9]; have h8 := HF.out.mono (k' := k + (j + 1)) (by omega); rw [updF_upd] at h8; exact h8), HK, HB, HT⟩
            case measure => simp [intOf]; omega
          | false =>
            have HQ := Lib.hid hq
            clear hq
            go_wp2_with fail
            refine wp_region_held_drew (S := fun w' => Blk 65 w' c.cb (cirC c) ∧ Blk 28 w' N1 (idC x)) (by kernel_rfl) ⟨(HF.out.cir j _ hlt (updF_same _ _ _)).blk, HK.out⟩ (fun hS => ?_)
            have HFd := Lib.hid HF.out.drew
            have HBd := Lib.hid HB.out.drew
            have HTd : Hid (KeptT w w9.drew) := Lib.hid HT.out
            clear HF HB HT HK
            generalize hW22 : w9.drew = W22 at hS HFd HBd HTd ⊢
            clear hW22
            have HF := HFd
            have HB := HBd
            have HT := HTd
            clear HFd HBd HTd
            refine takeY (i := 0) (some 39) (v := .pointer (some ⟨c.cb, 0, none⟩)) rfl rfl (by kernel_rfl) (by kernel_rfl) (by kernel_rfl) (fun _ _ _ h => h) (by rfl) (fun w' hS => by clear hS; go_simp) hS ?_
            simp only [Act.put, List.setIfInBounds_toArray, List.set_cons_zero, List.set_cons_succ]
            refine takeY (i := 1) (some 40) (v := .pointer (some ⟨c.cb, 0, none⟩)) rfl rfl (by kernel_rfl) (by kernel_rfl) (by kernel_rfl) (fun _ _ _ h => h) (by rfl) (fun w' hS => by clear hS; go_simp) hS ?_
            simp only [Act.put, List.setIfInBounds_toArray, List.set_cons_zero, List.set_cons_succ]
            refine takeY (i := 2) (some 41) (v := .pointer (some ⟨c.cb, 1, none⟩)) rfl rfl (by kernel_rfl) (by kernel_rfl) (by kernel_rfl) (fun _ _ _ h => h) (by rfl) (fun w' hS => by clear hS; go_simp) hS ?_
            simp only [Act.put, List.setIfInBounds_toArray, List.set_cons_zero, List.set_cons_succ]
            refine takeY (i := 3) (some 42) (v := .map (some c.sb)) rfl rfl (by kernel_rfl) (by kernel_rfl) (by kernel_rfl) (fun _ _ _ h => h) (by rfl) (fun w' hS => by (have c9 : w'.cell? ⟨c.cb, 1, none⟩ = some (.map (some c.sb)) := (hS.1.cell 1).trans rfl; clear hS; go_simp)) hS ?_
            simp only [Act.put, List.setIfInBounds_toArray, List.set_cons_zero, List.set_cons_succ]
            refine takeL (i := 4) (some 43) 28 (.tmp 5) N1 0 (idC x) _ rfl rfl (by kernel_rfl) (by kernel_rfl) (by kernel_rfl) (fun _ _ _ h => h) (by rfl) rfl rfl (fun w' hS => hS.2.all) Try.underlying28 rfl info_id hS ?_
            simp only [Act.put, List.setIfInBounds_toArray, List.set_cons_zero, List.set_cons_succ]
            have hci := HF.out.cir j _ hlt (updF_same _ _ _)
            obtain ⟨M22, hM22⟩ : ∃ N, W22.heap.size = N := ⟨_, rfl⟩
            obtain ⟨V22, hV22⟩ : ∃ W4, W22.alloc (.cells (idC x) 28) = W4 := ⟨_, rfl⟩
            have hb4 : Below W22.heap.size W22 V22 := by rw [← hV22]; exact (Below.refl _ _).alloc (Nat.le_refl _) _
            have k4 : Blk 28 V22 M22 (idC x) := by rw [← hV22, ← hM22]; exact heap_alloc_new W22 _
            have hS4 : Blk 65 V22 c.cb (cirC c) ∧ Blk 28 V22 N1 (idC x) := ⟨hS.1.below hb4 hS.1.lt, hS.2.below hb4 hS.2.lt⟩
            refine takeV (i := 5) (some 44) (v := .slice (some ⟨M22, 0, none⟩) 1 1) (w' := V22) rfl rfl (by kernel_rfl) (by rfl) (by rw [← hM22, ← hV22]; exact bs_id W22 _ _ rfl x rfl) hS4 ?_
            simp only [Act.put, List.setIfInBounds_toArray, List.set_cons_zero, List.set_cons_succ]
            have HF4 := Lib.hid (HF.out.below hb4)
            have HB4 := Lib.hid (HB.out.trans (hb4.mono (by have := HB.out.size; have := hbs.out; omega)))
            have HT4 := Lib.hid (HT.out.trans (KeptT.of_below hb4))
            clear HF HB HT hci hS hb4 hM22 hV22
            have HF := HF4
            have HB := HB4
            have HT := HT4
            clear HF4 HB4 HT4
            have hS := hS4
            clear hS4
            have hci := HF.out.cir j _ hlt (updF_same _ _ _)
            refine takeC (i := 6) (some 45) 27 #[.map (some c.sb), .slice (some ⟨M22, 0, none⟩) 1 1] (.tuple #[]) (R := fun w' => SetAt w' c.sb (fun y => (cDrM c x).send y || y == x) (k + j + 1) ∧ V22.grownBy w' (some c.sb)) rfl rfl (by kernel_rfl) (by rfl) (by go_simp) ((add_any c.sb (k + j) _ (some ⟨M22, 0, none⟩) 1 1 (fun _ => x) V22 hci.send (rdR_blk k4) (fun _ _ => hx) (by decide)).mono (fun e w' h => ⟨h.1, h.2.1.congr (fun y => by rw [mem_one]; first | done | rfl), h.2.2⟩)) (fun w' hb => ⟨hS.1.kept (hci.send.kept hb.2) (by decide), hS.2.kept (hci.send.kept hb.2) (by decide)⟩) (fun w22 hb hS2 => ?_)
            simp only [Act.put, List.setIfInBounds_toArray, List.set_cons_zero, List.set_cons_succ]
            have hft := HF.out.turn_send hlt (updF_same _ _ _) hb.1 (by omega) hb.2
            have HFn := Lib.hid hft.1
            have HBn := Lib.hid (HB.out.trans hft.2.1)
            have HTn := Lib.hid (HT.out.trans hft.2.2)
            have HK : Hid (Blk 28 w22 N1 (idC x)) := Lib.hid hS2.2
            clear HF HB HT hci hS hS2 hb hft k4
            have HF := HFn
            have HB := HBn
            have HT := HTn
            clear HFn HBn HTn
            refine wpAnyH_done (by kernel_rfl) ?_ _
            go_wp2_with fail
            go_roundw
            case rel => exact ⟨j + 1, by omega, by simp, Lib.hid (by have h9 := sprJ_succ F x (some f) (some d.mesh) j; rw [HFj.out, Option.map_some, show spread1 x (some f) (some d.mesh) j c = cAdS (cDrM c x) x from by unfold spread1; rw [if_neg (fun e => hfj (Option.some.inj e)), HQ.out]; rfl] at h9; rw [← h9]; have h8 := HF.out.mono (k' := k + (j + 1)) (by omega); rw [updF_upd] at h8; exact h8), HK, HB, HT⟩
            case measure => simp [intOf]; omega
    · obtain rfl : j = n := by omega
      go_wp2_with fail
      go_end0
      exact ⟨rfl, HF.out, HB.out, HT.out⟩
end Go.Proofs.Yteamnibgeobcbaa
