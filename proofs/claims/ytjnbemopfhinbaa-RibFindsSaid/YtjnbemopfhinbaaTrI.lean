/- Insert and Remove of the program's trie. Each theorem states its conditions. -/
import Derived.Test.YtjnbemopfhinbaaTrT
namespace Go.Proofs.Ytjnbemopfhinbaa
open Go.RowKit
set_option linter.unusedVariables false
set_option linter.unusedSimpArgs false

namespace Tr
theorem lst_ins {p : List Bool} {v : Int} : ∀ {t : Tr} {c : List Bool}, Ok c t → (lst (ins p v t)).length = (lst t).length + (if get t p = none then 1 else 0)
  | nil, c, _ => rfl
  | nd q h l r, c, ht => by
    unfold ins
    by_cases e1 : q = p
    · rw [if_pos e1]
      subst e1
      rw [get_self]
      unfold lst
      cases h with
      | some x => simp
      | none => simp [Nat.add_comm, Nat.add_left_comm]
    rw [if_neg e1]
    by_cases e2 : q <+: p
    · rw [if_pos e2]
      have hg : get (nd q h l r) p = if side p q.length = true then get r p else get l p := by
        rw [get, if_neg e1, if_pos e2]
      rw [hg]
      by_cases hs : side p q.length = true
      · rw [if_pos hs, if_pos hs]
        have := lst_ins (p := p) (v := v) ht.2.2
        simp only [lst, List.length_append]
        omega
      · rw [if_neg hs, if_neg hs]
        have := lst_ins (p := p) (v := v) ht.2.1
        simp only [lst, List.length_append]
        omega
    rw [if_neg e2, get_off e2, if_pos rfl]
    by_cases e3 : lcp q p = p.length
    · rw [if_pos e3]
      split
      · simp only [lst, List.length_append, Option.isSome_some, if_true, List.length_singleton, List.length_nil, List.nil_append]; omega
      · simp only [lst, List.length_append, Option.isSome_some, if_true, List.length_singleton, List.length_nil, List.append_nil]; omega
    · rw [if_neg e3]
      split
      · simp only [lst, leaf, List.length_append, Option.isSome_some, Option.isSome_none, if_true, List.length_singleton, List.length_nil, List.append_nil, List.nil_append]; simp; try omega
      · simp only [lst, leaf, List.length_append, Option.isSome_some, Option.isSome_none, if_true, List.length_singleton, List.length_nil, List.append_nil, List.nil_append]; simp; try omega
end Tr
section
variable {T : Ts} {t : Ht}
theorem put_h (T : Ts) (t : Ht) : ∀ pl, (T.put pl t).h pl = t
  | false => rfl
  | true => rfl
theorem put_o (T : Ts) (t : Ht) : ∀ pl, (T.put pl t).h (!pl) = T.h (!pl)
  | false => rfl
  | true => rfl
end
def tsX (a b : Value) (c : Int) : Array Value := #[a, b, .int .i64 c]
theorem tsX_put0 (a b d : Value) (c : Int) : putMany (tsX a b c) 0 [d] = tsX d b c := by kernel_rfl
theorem tsX_put1 (a b d : Value) (c : Int) : putMany (tsX a b c) 1 [d] = tsX a d c := by kernel_rfl
theorem tsX_put2 (a b : Value) (c d : Int) : putMany (tsX a b c) 2 [.int .i64 d] = tsX a b d := by kernel_rfl
theorem run_add1 (o : Oper) (e : Operand → Value) (x : Operand) (t u : TypeId) (ho : o.op = .binOp .add t x (.const (.int .i64 1)) u) (a : Nat) (h0 : e x = .int .i64 (a : Int)) (hc : e (.const (.int .i64 1)) = .int .i64 1) (hb : a ≤ 1000000) (W : World) : (execOp e o).run Try.prog W = .ok (.value (.int .i64 ((a + 1 : Nat) : Int))) W := by
  unfold execOp
  simp only [ho, h0, hc]
  simp [go_sem, IntKind.wrap, IntKind.signed, IntKind.bits]
  try omega
/-- what a call leaves that makes another tree of one of a trie's two -/
def SetP (B s : Nat) (T : Ts) (pl : Bool) (t' : Tr) (w w' : World) : Prop := ∃ t : Ht, t.bits = t' ∧ TsAt w' B s (T.put pl t) ∧ Kp (s :: (T.h pl).fp) w w' ∧ ∀ k, k ∈ t.fp → k ∈ (T.h pl).fp ∨ w.heap.size ≤ k
set_option maxHeartbeats 16000000 in
set_option maxRecDepth 100000 in
theorem insert_bad (q : Option Addr) (fam n : Int) (v : Int) (z : Nat → Int) (hz : Bytes z) (hf : ¬ Form fam n z) (w : World) : Calls Try.prog 14 #[.pointer q, .agg (pvC fam n z), .int .i64 v] w fun e w' => e = .returned (.int .i64 3) ∧ Below w.heap.size w w' := by
  have HG := Lib.hid (fun W => get_bad q fam n z hz hf W)
  clear hz hf
  go_enter Try.func14, Try.ntmps14
  have HB := Lib.hid (Below.refl w.heap.size w)
  obtain ⟨N1, hN1⟩ : ∃ N, w.heap.size = N := ⟨_, rfl⟩
  have HN1 := Lib.hid hN1
  clear hN1
  go_wp2_with (refine wpList_box (op := ⟨some 4, _, _, _, _, _⟩) rfl 32 (.tmp 1) rfl (pvC fam n z) rfl N1 HN1.out ?_; intro w1 k1 b1 s1; refine Hid.out ?_)
  refine Lib.hid ?_
  have K4 := Lib.hid k1
  clear k1
  have le_HB_N1 : w.heap.size ≤ N1 := by rw [← HN1.out]; exact HB.out.size
  have HBn := Lib.hid (HB.out.trans (b1.mono HB.out.size))
  clear HB
  have HB := HBn
  clear HBn
  clear b1 HN1
  go_wp2_with (refine wpList_ld (op := ⟨some 13, _, _, _, _, _⟩) (by rfl) 32 (.tmp 4) rfl N1 0 rfl (pvC fam n z) _ K4.out.all Try.underlying32 rfl (hi_pv fam n z) ?_; refine Hid.out ?_)
  refine Lib.hid ?_
  go_wp2_with fail
  refine (HG.out _).mono ?_
  rintro e w2 ⟨rfl, b1⟩
  have K4n := Lib.hid (K4.out.below b1 K4.out.lt)
  clear K4
  have K4 := K4n
  clear K4n
  have HBn := Lib.hid (HB.out.trans (b1.mono HB.out.size))
  clear HB
  have HB := HBn
  clear HBn
  clear b1
  go_wp2_with fail
  refine bodyPost_ret (v := .int .i64 3) (by simp [results, Try.f14, go_sem, getV]) rfl ?_
  exact ⟨rfl, HB.out⟩
set_option maxHeartbeats 16000000 in
set_option maxRecDepth 100000 in
theorem insert_new_4 (B s n : Nat) (v : Int) (T : Ts) (z : Nat → Int) (hz : Bytes z) (hf : Form 4 n z) (w : World) (hT : TsAt w B s T) (hgv : T.g false (btP n z) = none) (hw : B ≤ w.heap.size) (hc : T.cnt ≤ 100000) : Calls Try.prog 14 #[.pointer (some ⟨s, 0, none⟩), .agg (pvC 4 n z), .int .i64 v] w fun e w' => e = .returned (.int .i64 0) ∧ SetP B s T false (Tr.ins (btP n z) v T.h4.bits) w w' := by
  have HGT := Lib.hid (fun W hW => get_4 B s n T z hz hf W hW)
  have HPL := Lib.hid (fun W => place_any false W)
  have HCT := Lib.hid hc
  have HND := Lib.hid hT.nd
  have HNS := Lib.hid hT.ns
  have HLO := Lib.hid hT.lo
  have HBS := Lib.hid hT.bs
  have HOK := Lib.hid hT.ok
  have HLT := Lib.hid hT.fpl
  have HSL := Lib.hid hT.lt
  have HW0 := Lib.hid hw
  have HDJ : Hid (∀ x, x ∈ T.h6.fp → x ∉ T.h4.fp) := Lib.hid (fun x h1 h2 => (List.nodup_append.1 hT.nd).2.2 x h2 x h1 rfl)
  have HGV := Lib.hid hgv
  have HWI := Lib.hid (fun W hW => with_any 4 v n z hz hf T.h4 W hW (List.nodup_append.1 hT.nd).1)
  have HLS : Hid ((Tr.lst (Tr.ins (btP n z) v T.h4.bits)).length = (Tr.lst T.h4.bits).length + 1) := Lib.hid ((Tr.lst_ins hT.ok.o4).trans (by rw [show Tr.get T.h4.bits (btP n z) = none from hgv]; rfl))
  have HOKN : Hid (Tr.Ok [] (Tr.ins (btP n z) v T.h4.bits)) := Lib.hid (Tr.ins_ok hT.ok.o4 List.nil_prefix)
  obtain ⟨TB, hTB⟩ : ∃ TB, Tr.ins (btP n z) v T.h4.bits = TB := ⟨_, rfl⟩
  rw [hTB] at HWI HLS HOKN ⊢
  clear hTB
  have HT := Lib.hid hT
  clear hz hf hT hc hw
  go_enter Try.func14, Try.ntmps14
  have HK := Lib.hid (Kp.refl (s :: T.h4.fp) w)
  obtain ⟨N1, hN1⟩ : ∃ N, w.heap.size = N := ⟨_, rfl⟩
  have HN1 := Lib.hid hN1
  clear hN1
  go_wp2_with (refine wpList_box (op := ⟨some 4, _, _, _, _, _⟩) rfl 32 (.tmp 1) rfl (pvC 4 n z) rfl N1 HN1.out ?_; intro w1 k1 b1 s1; refine Hid.out ?_)
  refine Lib.hid ?_
  have le_HK_N1 : w.heap.size ≤ N1 := by rw [← HN1.out]; exact HK.out.size
  have K4 := Lib.hid k1
  clear k1
  have HTn := Lib.hid (HT.out.below b1 HT.out.lt)
  clear HT
  have HT := HTn
  clear HTn
  have HKn := Lib.hid (HK.out.tb b1)
  clear HK
  have HK := HKn
  clear HKn
  clear b1 HN1
  go_wp2_with (refine wpList_ld (op := ⟨some 13, _, _, _, _, _⟩) (by rfl) 32 (.tmp 4) rfl N1 0 rfl (pvC 4 n z) _ K4.out.all Try.underlying32 rfl (hi_pv 4 (n : Int) z) ?_; refine Hid.out ?_)
  refine Lib.hid ?_
  go_wp2_with fail
  refine ((HGT.out _ HT.out)).mono ?_
  rintro e w2 ⟨rfl, b1⟩
  have K4n := Lib.hid (K4.out.below b1 K4.out.lt)
  clear K4
  have K4 := K4n
  clear K4n
  have HTn := Lib.hid (HT.out.below b1 HT.out.lt)
  clear HT
  have HT := HTn
  clear HTn
  have HKn := Lib.hid (HK.out.tb b1)
  clear HK
  have HK := HKn
  clear HKn
  clear b1
  rw [HGV.out]
  rw [show getV (none) = .tuple #[.int .i64 0, .bool false, .int .i64 0] from rfl]
  have KS := Lib.hid HT.out.blk
  have HA := Lib.hid HT.out.a4
  have HO := Lib.hid HT.out.a6
  clear HT
  have KSx : Hid (Blk 90 w2 s (tsX T.h4.root T.h6.root (T.cnt : Int))) := Lib.hid KS.out
  clear KS
  have KS := KSx
  clear KSx
  obtain ⟨C0, hC0⟩ : ∃ C, T.cnt = C := ⟨_, rfl⟩
  rw [hC0] at KS HCT
  have HC0 := Lib.hid hC0
  clear hC0
  have c2 : w2.cell? ⟨s, 2, none⟩ = some (.int .i64 (C0 : Int)) := (KS.out.cell 2).trans rfl
  go_wp2_with (refine wpList_v (op := ⟨some 27, _, _, _, _, _⟩) rfl (.int .i64 ((C0 + 1 : Nat) : Int)) (run_add1 _ _ _ _ _ rfl C0 rfl rfl (by have := HCT.out; omega) _) ?_; refine Hid.out ?_)
  refine Lib.hid ?_
  clear c2
  go_wp2_with (refine wpList_st rfl 3 (.tmp 29) (.tmp 27) rfl s 2 rfl (.int .i64 ((C0 + 1 : Nat) : Int)) #[.int .i64 ((C0 + 1 : Nat) : Int)] rfl rfl info_i1 (one_i64 _) KS.out (Nat.le_of_ble_eq_true rfl) (C' := tsX T.h4.root T.h6.root ((C0 + 1 : Nat) : Int)) (tsX_put2 _ _ _ _) ?_; intro w3 q1; refine Hid.out ?_)
  refine Lib.hid ?_
  have HAn := Lib.hid (HA.out.far q1 (fun h => HNS.out (fp_sub T false s h)))
  clear HA
  have HA := HAn
  clear HAn
  have HOn := Lib.hid (HO.out.far q1 (fun h => HNS.out (fp_sub T true s h)))
  clear HO
  have HO := HOn
  clear HOn
  have HKn := Lib.hid (HK.out.st q1 (.inl (List.mem_cons_self ..)))
  clear HK
  have HK := HKn
  clear HKn
  have K4n := Lib.hid (K4.out.far q1 (by have := HSL.out; omega))
  clear K4
  have K4 := K4n
  clear K4n
  have KSn : Hid (Blk 90 w3 s (tsX T.h4.root T.h6.root ((C0 + 1 : Nat) : Int))) := Lib.hid q1.1
  clear KS
  have KS := KSn
  clear KSn q1
  have c0 : w3.cell? ⟨N1, 0, none⟩ = some (.int .u8 4) := (K4.out.cell 0).trans rfl
  go_wp2_with fail
  clear c0
  refine (HPL.out _).mono ?_
  rintro e w9 ⟨rfl, rfl⟩
  rw [show iB false = 0 from rfl]
  go_wp2_with fail
  have HAd := Lib.hid HA.out.drew
  clear HA
  have HOd := Lib.hid HO.out.drew
  clear HO
  have KSd := Lib.hid KS.out.drew
  clear KS
  refine wp_region_held_drew (S := fun w' => Blk 32 w' N1 (pvC 4 n z) ∧ Kp (s :: T.h4.fp) w w') (by kernel_rfl) ⟨K4.out, HK.out.drew⟩ (fun hS => ?_)
  generalize hW4 : w3.drew = W4 at hS HAd HOd KSd ⊢
  clear hW4
  clear K4
  clear HK
  have HA := HAd
  clear HAd
  have HO := HOd
  clear HOd
  have KS := KSd
  clear KSd
  have K4 := Lib.hid hS.1
  have HK := Lib.hid hS.2
  refine takeY (i := 0) (some 33) (v := .pointer (some ⟨s, 0, none⟩)) rfl rfl (by kernel_rfl) (by kernel_rfl) (by kernel_rfl) (fun _ _ _ h => h) (by rfl) (fun w' hS => by clear hS; go_simp) hS ?_
  simp only [Act.put, List.setIfInBounds_toArray, List.set_cons_zero, List.set_cons_succ]
  refine takeY (i := 1) (some 34) (v := .int .i64 0) rfl rfl (by kernel_rfl) (by kernel_rfl) (by kernel_rfl) (fun _ _ _ h => h) (by rfl) (fun w' hS => by clear hS; go_simp) hS ?_
  simp only [Act.put, List.setIfInBounds_toArray, List.set_cons_zero, List.set_cons_succ]
  refine takeY (i := 2) (some 35) (v := .pointer (some ⟨s, 0, none⟩)) rfl rfl (by kernel_rfl) (by kernel_rfl) (by kernel_rfl) (fun _ _ _ h => h) (by rfl) (fun w' hS => by clear hS; go_simp) hS ?_
  simp only [Act.put, List.setIfInBounds_toArray, List.set_cons_zero, List.set_cons_succ]
  refine takeY (i := 3) (some 36) (v := .int .i64 0) rfl rfl (by kernel_rfl) (by kernel_rfl) (by kernel_rfl) (fun _ _ _ h => h) (by rfl) (fun w' hS => by clear hS; go_simp) hS ?_
  simp only [Act.put, List.setIfInBounds_toArray, List.set_cons_zero, List.set_cons_succ]
  refine takeY (i := 4) (some 37) (v := .pointer (some ⟨s, 0, none⟩)) rfl rfl (by kernel_rfl) (by kernel_rfl) (by kernel_rfl) (fun _ _ _ h => h) (by rfl) (fun w' hS => by clear hS; go_simp) hS ?_
  simp only [Act.put, List.setIfInBounds_toArray, List.set_cons_zero, List.set_cons_succ]
  refine takeY (i := 5) (some 38) (v := .pointer (some ⟨s, 0, none⟩)) rfl rfl (by kernel_rfl) (by kernel_rfl) (by kernel_rfl) (fun _ _ _ h => h) (by rfl) (fun w' hS => by clear hS; go_simp) hS ?_
  simp only [Act.put, List.setIfInBounds_toArray, List.set_cons_zero, List.set_cons_succ]
  refine takeY (i := 6) (some 39) (v := .pointer (some ⟨s, 0, none⟩)) rfl rfl (by kernel_rfl) (by kernel_rfl) (by kernel_rfl) (fun _ _ _ h => h) (by rfl) (fun w' hS => by clear hS; go_simp) hS ?_
  simp only [Act.put, List.setIfInBounds_toArray, List.set_cons_zero, List.set_cons_succ]
  refine takeL (i := 8) (some 41) 32 (.tmp 4) N1 0 (pvC 4 n z) _ rfl rfl (by kernel_rfl) (by kernel_rfl) (by kernel_rfl) (fun _ _ _ h => h) (by rfl) rfl rfl (fun w' hS => hS.1.all) Try.underlying32 rfl (hi_pv 4 (n : Int) z) hS ?_
  simp only [Act.put, List.setIfInBounds_toArray, List.set_cons_zero, List.set_cons_succ]
  refine takeY (i := 9) (some 42) (v := .int .i64 v) rfl rfl (by kernel_rfl) (by kernel_rfl) (by kernel_rfl) (fun _ _ _ h => h) (by rfl) (fun w' hS => by clear hS; go_simp) hS ?_
  simp only [Act.put, List.setIfInBounds_toArray, List.set_cons_zero, List.set_cons_succ]
  refine takeY (i := 11) (some 44) (v := .pointer (some ⟨s, 0, none⟩)) rfl rfl (by kernel_rfl) (by kernel_rfl) (by kernel_rfl) (fun _ _ _ h => h) (by rfl) (fun w' hS => by clear hS; go_simp) hS ?_
  simp only [Act.put, List.setIfInBounds_toArray, List.set_cons_zero, List.set_cons_succ]
  refine takeY (i := 12) (some 45) (v := .pointer (some ⟨s, 0, none⟩)) rfl rfl (by kernel_rfl) (by kernel_rfl) (by kernel_rfl) (fun _ _ _ h => h) (by rfl) (fun w' hS => by clear hS; go_simp) hS ?_
  simp only [Act.put, List.setIfInBounds_toArray, List.set_cons_zero, List.set_cons_succ]
  refine takeV (i := 7) (some 40) (v := T.h4.root) (w' := W4) rfl rfl (by kernel_rfl) (by rfl) (load_ptr _ _ _ rfl s 0 rfl _ ((KS.out.cell 0).trans rfl)) hS ?_
  simp only [Act.put, List.setIfInBounds_toArray, List.set_cons_zero, List.set_cons_succ]
  refine takeCE (i := 10) (some 43) 44 #[T.h4.root, .agg (pvC 4 n z), .int .i64 v] (R := fun v w' => ∃ t2 : Ht, v = t2.root ∧ t2.At w' 4 ∧ t2.bits = TB ∧ Kp T.h4.fp W4 w' ∧ (∀ k, k ∈ t2.fp → k ∈ T.h4.fp ∨ W4.heap.size ≤ k) ∧ t2.fp.Nodup) rfl rfl (by kernel_rfl) (by rfl) (by go_simp) ((HWI.out W4 HA.out).mono (by rintro e w9 ⟨t2, rfl, h9⟩; exact ⟨_, rfl, t2, rfl, h9⟩)) (fun v w' h => by obtain ⟨t2, rfl, ha2, hb2, hk2, hi2, hd2⟩ := h; exact ⟨K4.out.kp hk2 (fun h => absurd (HLT.out _ (fp_sub T false _ h)) (by omega)), HK.out.tr hk2 (fun x hx => .inl (List.mem_cons_of_mem _ hx))⟩) (fun v W5 h hS2 => ?_)
  obtain ⟨t2, rfl, ha2, hb2, hk2, hi2, hd2⟩ := h
  clear hS2
  simp only [Act.put, List.setIfInBounds_toArray, List.set_cons_zero, List.set_cons_succ]
  have HA2 := Lib.hid ha2
  have HB2 := Lib.hid hb2
  have HI2 : Hid (∀ k, k ∈ t2.fp → k ∈ T.h4.fp ∨ w.heap.size ≤ k) := Lib.hid (fun k hk => (hi2 k hk).imp_right (fun h => Nat.le_trans HK.out.size h))
  have HD2 := Lib.hid hd2
  have HG2 : Hid (s ∉ t2.fp) := Lib.hid (fun h => (HI2.out s h).elim (fun h9 => HNS.out (fp_sub T false s h9)) (fun h9 => absurd HSL.out (by omega)))
  clear ha2 hb2 hi2 hd2 HA
  have HOn := Lib.hid (HO.out.kp hk2 (fun x hx h9 => HDJ.out x hx h9))
  clear HO
  have HO := HOn
  clear HOn
  have KSn := Lib.hid (KS.out.kp hk2 (fun h => HNS.out (fp_sub T false s h)))
  clear KS
  have KS := KSn
  clear KSn
  have K4n := Lib.hid (K4.out.kp hk2 (fun h => absurd (HLT.out _ (fp_sub T false _ h)) (by omega)))
  clear K4
  have K4 := K4n
  clear K4n
  have HKn := Lib.hid (HK.out.tr hk2 (fun x hx => .inl (List.mem_cons_of_mem _ hx)))
  clear HK
  have HK := HKn
  clear HKn
  clear hS
  have hS := (And.intro K4.out HK.out)
  refine takeY (i := 13) (some 46) (v := .pointer (some ⟨s, 0, none⟩)) rfl rfl (by kernel_rfl) (by kernel_rfl) (by kernel_rfl) (fun _ _ _ h => h) (by rfl) (fun w' hS => by clear hS; go_simp) hS ?_
  simp only [Act.put, List.setIfInBounds_toArray, List.set_cons_zero, List.set_cons_succ]
  refine takeSt (i := 14) 87 (.tmp 46) (.tmp 43) s 0 (t2.root) (#[t2.root]) (tsX t2.root T.h6.root ((C0 + 1 : Nat) : Int)) rfl rfl (by kernel_rfl) (by rfl) rfl rfl rfl (root_cells _) info_p1 (one_root _) KS.out (Nat.le_of_ble_eq_true rfl) (tsX_put0 _ _ _ _) ?_
  intro W6 q1
  refine ⟨⟨K4.out.far q1 (by have := HSL.out; omega), HK.out.st q1 (.inl (List.mem_cons_self ..))⟩, ?_⟩
  simp only [Act.put, List.setIfInBounds_toArray, List.set_cons_zero, List.set_cons_succ]
  have KSn : Hid (Blk 90 W6 s (tsX t2.root T.h6.root ((C0 + 1 : Nat) : Int))) := Lib.hid q1.1
  clear KS
  have KS := KSn
  clear KSn
  have HOn := Lib.hid (HO.out.far q1 (fun h => HNS.out (fp_sub T true s h)))
  clear HO
  have HO := HOn
  clear HOn
  have HA2n := Lib.hid (HA2.out.far q1 HG2.out)
  clear HA2
  have HA2 := HA2n
  clear HA2n
  have K4n := Lib.hid (K4.out.far q1 (by have := HSL.out; omega))
  clear K4
  have K4 := K4n
  clear K4n
  have HKn := Lib.hid (HK.out.st q1 (.inl (List.mem_cons_self ..)))
  clear HK
  have HK := HKn
  clear HKn
  clear q1 hS
  have hS := (And.intro K4.out HK.out)
  clear hS
  refine wpAnyH_done (by kernel_rfl) ?_ _
  go_wp2_with fail
  refine bodyPost_ret (v := .int .i64 0) (by simp [results, Try.f14, go_sem, getV]) rfl ?_
  have hcn : (T.put false t2).cnt = (C0 + 1) := by
    have h1 := HC0.out
    unfold Ts.cnt at h1
    show t2.bits.lst.length + T.h6.bits.lst.length = _
    rw [HB2.out]
    have h2 := HLS.out
    omega
  have hkk : tsC (T.put false t2) = tsX t2.root T.h6.root ((C0 + 1 : Nat) : Int) := by
    unfold tsC
    rw [hcn]
    rfl
  have hdis : ∀ x, x ∈ t2.fp → x ∉ T.h6.fp := fun x h9 h8 => (HI2.out x h9).elim (fun h7 => HDJ.out x h8 h7) (fun h7 => absurd (HLT.out x (fp_sub T true x h8)) (by omega))
  have hmem : ∀ k, k ∈ (T.put false t2).fp → k ∈ t2.fp ∨ k ∈ T.h6.fp := fun k hk => by
    rcases List.mem_append.1 hk with h1 | h1
    · exact .inl h1
    · exact .inr h1
  exact ⟨rfl, t2, HB2.out, ⟨by rw [hkk]; exact KS.out, HA2.out, HO.out, List.nodup_append.2 ⟨HD2.out, (List.nodup_append.1 HND.out).2.1, fun x h1 y h2 e => hdis x h1 (e ▸ h2)⟩, fun h => (hmem s h).elim HG2.out (fun h9 => HNS.out (fp_sub T true s h9)), fun k hk => (hmem k hk).elim (fun h9 => (HI2.out k h9).elim (fun h8 => HLO.out k (fp_sub T false k h8)) (fun h8 => Nat.le_trans HW0.out h8)) (fun h9 => HLO.out k (fp_sub T true k h9)), HBS.out, ⟨(show Tr.Ok [] t2.bits from HB2.out ▸ HOKN.out), HOK.out.o6⟩⟩, HK.out, HI2.out⟩
set_option maxHeartbeats 16000000 in
set_option maxRecDepth 100000 in
theorem insert_old_4 (B s n : Nat) (v : Int) (v0 : Int) (T : Ts) (z : Nat → Int) (hz : Bytes z) (hf : Form 4 n z) (w : World) (hT : TsAt w B s T) (hgv : T.g false (btP n z) = some v0) (hw : B ≤ w.heap.size) (hc : T.cnt ≤ 100000) : Calls Try.prog 14 #[.pointer (some ⟨s, 0, none⟩), .agg (pvC 4 n z), .int .i64 v] w fun e w' => e = .returned (.int .i64 0) ∧ SetP B s T false (Tr.ins (btP n z) v T.h4.bits) w w' := by
  have HGT := Lib.hid (fun W hW => get_4 B s n T z hz hf W hW)
  have HPL := Lib.hid (fun W => place_any false W)
  have HCT := Lib.hid hc
  have HND := Lib.hid hT.nd
  have HNS := Lib.hid hT.ns
  have HLO := Lib.hid hT.lo
  have HBS := Lib.hid hT.bs
  have HOK := Lib.hid hT.ok
  have HLT := Lib.hid hT.fpl
  have HSL := Lib.hid hT.lt
  have HW0 := Lib.hid hw
  have HDJ : Hid (∀ x, x ∈ T.h6.fp → x ∉ T.h4.fp) := Lib.hid (fun x h1 h2 => (List.nodup_append.1 hT.nd).2.2 x h2 x h1 rfl)
  have HGV := Lib.hid hgv
  have HWI := Lib.hid (fun W hW => with_any 4 v n z hz hf T.h4 W hW (List.nodup_append.1 hT.nd).1)
  have HLS : Hid ((Tr.lst (Tr.ins (btP n z) v T.h4.bits)).length = (Tr.lst T.h4.bits).length) := Lib.hid ((Tr.lst_ins hT.ok.o4).trans (by rw [show Tr.get T.h4.bits (btP n z) = some v0 from hgv]; rfl))
  have HOKN : Hid (Tr.Ok [] (Tr.ins (btP n z) v T.h4.bits)) := Lib.hid (Tr.ins_ok hT.ok.o4 List.nil_prefix)
  obtain ⟨TB, hTB⟩ : ∃ TB, Tr.ins (btP n z) v T.h4.bits = TB := ⟨_, rfl⟩
  rw [hTB] at HWI HLS HOKN ⊢
  clear hTB
  have HT := Lib.hid hT
  clear hz hf hT hc hw
  go_enter Try.func14, Try.ntmps14
  have HK := Lib.hid (Kp.refl (s :: T.h4.fp) w)
  obtain ⟨N1, hN1⟩ : ∃ N, w.heap.size = N := ⟨_, rfl⟩
  have HN1 := Lib.hid hN1
  clear hN1
  go_wp2_with (refine wpList_box (op := ⟨some 4, _, _, _, _, _⟩) rfl 32 (.tmp 1) rfl (pvC 4 n z) rfl N1 HN1.out ?_; intro w1 k1 b1 s1; refine Hid.out ?_)
  refine Lib.hid ?_
  have le_HK_N1 : w.heap.size ≤ N1 := by rw [← HN1.out]; exact HK.out.size
  have K4 := Lib.hid k1
  clear k1
  have HTn := Lib.hid (HT.out.below b1 HT.out.lt)
  clear HT
  have HT := HTn
  clear HTn
  have HKn := Lib.hid (HK.out.tb b1)
  clear HK
  have HK := HKn
  clear HKn
  clear b1 HN1
  go_wp2_with (refine wpList_ld (op := ⟨some 13, _, _, _, _, _⟩) (by rfl) 32 (.tmp 4) rfl N1 0 rfl (pvC 4 n z) _ K4.out.all Try.underlying32 rfl (hi_pv 4 (n : Int) z) ?_; refine Hid.out ?_)
  refine Lib.hid ?_
  go_wp2_with fail
  refine ((HGT.out _ HT.out)).mono ?_
  rintro e w2 ⟨rfl, b1⟩
  have K4n := Lib.hid (K4.out.below b1 K4.out.lt)
  clear K4
  have K4 := K4n
  clear K4n
  have HTn := Lib.hid (HT.out.below b1 HT.out.lt)
  clear HT
  have HT := HTn
  clear HTn
  have HKn := Lib.hid (HK.out.tb b1)
  clear HK
  have HK := HKn
  clear HKn
  clear b1
  rw [HGV.out]
  rw [show getV (some v0) = .tuple #[.int .i64 v0, .bool true, .int .i64 0] from rfl]
  have KS := Lib.hid HT.out.blk
  have HA := Lib.hid HT.out.a4
  have HO := Lib.hid HT.out.a6
  clear HT
  have KSx : Hid (Blk 90 w2 s (tsX T.h4.root T.h6.root (T.cnt : Int))) := Lib.hid KS.out
  clear KS
  have KS := KSx
  clear KSx
  obtain ⟨C0, hC0⟩ : ∃ C, T.cnt = C := ⟨_, rfl⟩
  rw [hC0] at KS HCT
  have HC0 := Lib.hid hC0
  clear hC0
  have c0 : w2.cell? ⟨N1, 0, none⟩ = some (.int .u8 4) := (K4.out.cell 0).trans rfl
  go_wp2_with fail
  clear c0
  refine (HPL.out _).mono ?_
  rintro e w9 ⟨rfl, rfl⟩
  rw [show iB false = 0 from rfl]
  go_wp2_with fail
  have HAd := Lib.hid HA.out.drew
  clear HA
  have HOd := Lib.hid HO.out.drew
  clear HO
  have KSd := Lib.hid KS.out.drew
  clear KS
  refine wp_region_held_drew (S := fun w' => Blk 32 w' N1 (pvC 4 n z) ∧ Kp (s :: T.h4.fp) w w') (by kernel_rfl) ⟨K4.out, HK.out.drew⟩ (fun hS => ?_)
  generalize hW3 : w2.drew = W3 at hS HAd HOd KSd ⊢
  clear hW3
  clear K4
  clear HK
  have HA := HAd
  clear HAd
  have HO := HOd
  clear HOd
  have KS := KSd
  clear KSd
  have K4 := Lib.hid hS.1
  have HK := Lib.hid hS.2
  refine takeY (i := 0) (some 33) (v := .pointer (some ⟨s, 0, none⟩)) rfl rfl (by kernel_rfl) (by kernel_rfl) (by kernel_rfl) (fun _ _ _ h => h) (by rfl) (fun w' hS => by clear hS; go_simp) hS ?_
  simp only [Act.put, List.setIfInBounds_toArray, List.set_cons_zero, List.set_cons_succ]
  refine takeY (i := 1) (some 34) (v := .int .i64 0) rfl rfl (by kernel_rfl) (by kernel_rfl) (by kernel_rfl) (fun _ _ _ h => h) (by rfl) (fun w' hS => by clear hS; go_simp) hS ?_
  simp only [Act.put, List.setIfInBounds_toArray, List.set_cons_zero, List.set_cons_succ]
  refine takeY (i := 2) (some 35) (v := .pointer (some ⟨s, 0, none⟩)) rfl rfl (by kernel_rfl) (by kernel_rfl) (by kernel_rfl) (fun _ _ _ h => h) (by rfl) (fun w' hS => by clear hS; go_simp) hS ?_
  simp only [Act.put, List.setIfInBounds_toArray, List.set_cons_zero, List.set_cons_succ]
  refine takeY (i := 3) (some 36) (v := .int .i64 0) rfl rfl (by kernel_rfl) (by kernel_rfl) (by kernel_rfl) (fun _ _ _ h => h) (by rfl) (fun w' hS => by clear hS; go_simp) hS ?_
  simp only [Act.put, List.setIfInBounds_toArray, List.set_cons_zero, List.set_cons_succ]
  refine takeY (i := 4) (some 37) (v := .pointer (some ⟨s, 0, none⟩)) rfl rfl (by kernel_rfl) (by kernel_rfl) (by kernel_rfl) (fun _ _ _ h => h) (by rfl) (fun w' hS => by clear hS; go_simp) hS ?_
  simp only [Act.put, List.setIfInBounds_toArray, List.set_cons_zero, List.set_cons_succ]
  refine takeY (i := 5) (some 38) (v := .pointer (some ⟨s, 0, none⟩)) rfl rfl (by kernel_rfl) (by kernel_rfl) (by kernel_rfl) (fun _ _ _ h => h) (by rfl) (fun w' hS => by clear hS; go_simp) hS ?_
  simp only [Act.put, List.setIfInBounds_toArray, List.set_cons_zero, List.set_cons_succ]
  refine takeY (i := 6) (some 39) (v := .pointer (some ⟨s, 0, none⟩)) rfl rfl (by kernel_rfl) (by kernel_rfl) (by kernel_rfl) (fun _ _ _ h => h) (by rfl) (fun w' hS => by clear hS; go_simp) hS ?_
  simp only [Act.put, List.setIfInBounds_toArray, List.set_cons_zero, List.set_cons_succ]
  refine takeL (i := 8) (some 41) 32 (.tmp 4) N1 0 (pvC 4 n z) _ rfl rfl (by kernel_rfl) (by kernel_rfl) (by kernel_rfl) (fun _ _ _ h => h) (by rfl) rfl rfl (fun w' hS => hS.1.all) Try.underlying32 rfl (hi_pv 4 (n : Int) z) hS ?_
  simp only [Act.put, List.setIfInBounds_toArray, List.set_cons_zero, List.set_cons_succ]
  refine takeY (i := 9) (some 42) (v := .int .i64 v) rfl rfl (by kernel_rfl) (by kernel_rfl) (by kernel_rfl) (fun _ _ _ h => h) (by rfl) (fun w' hS => by clear hS; go_simp) hS ?_
  simp only [Act.put, List.setIfInBounds_toArray, List.set_cons_zero, List.set_cons_succ]
  refine takeY (i := 11) (some 44) (v := .pointer (some ⟨s, 0, none⟩)) rfl rfl (by kernel_rfl) (by kernel_rfl) (by kernel_rfl) (fun _ _ _ h => h) (by rfl) (fun w' hS => by clear hS; go_simp) hS ?_
  simp only [Act.put, List.setIfInBounds_toArray, List.set_cons_zero, List.set_cons_succ]
  refine takeY (i := 12) (some 45) (v := .pointer (some ⟨s, 0, none⟩)) rfl rfl (by kernel_rfl) (by kernel_rfl) (by kernel_rfl) (fun _ _ _ h => h) (by rfl) (fun w' hS => by clear hS; go_simp) hS ?_
  simp only [Act.put, List.setIfInBounds_toArray, List.set_cons_zero, List.set_cons_succ]
  refine takeV (i := 7) (some 40) (v := T.h4.root) (w' := W3) rfl rfl (by kernel_rfl) (by rfl) (load_ptr _ _ _ rfl s 0 rfl _ ((KS.out.cell 0).trans rfl)) hS ?_
  simp only [Act.put, List.setIfInBounds_toArray, List.set_cons_zero, List.set_cons_succ]
  refine takeCE (i := 10) (some 43) 44 #[T.h4.root, .agg (pvC 4 n z), .int .i64 v] (R := fun v w' => ∃ t2 : Ht, v = t2.root ∧ t2.At w' 4 ∧ t2.bits = TB ∧ Kp T.h4.fp W3 w' ∧ (∀ k, k ∈ t2.fp → k ∈ T.h4.fp ∨ W3.heap.size ≤ k) ∧ t2.fp.Nodup) rfl rfl (by kernel_rfl) (by rfl) (by go_simp) ((HWI.out W3 HA.out).mono (by rintro e w9 ⟨t2, rfl, h9⟩; exact ⟨_, rfl, t2, rfl, h9⟩)) (fun v w' h => by obtain ⟨t2, rfl, ha2, hb2, hk2, hi2, hd2⟩ := h; exact ⟨K4.out.kp hk2 (fun h => absurd (HLT.out _ (fp_sub T false _ h)) (by omega)), HK.out.tr hk2 (fun x hx => .inl (List.mem_cons_of_mem _ hx))⟩) (fun v W4 h hS2 => ?_)
  obtain ⟨t2, rfl, ha2, hb2, hk2, hi2, hd2⟩ := h
  clear hS2
  simp only [Act.put, List.setIfInBounds_toArray, List.set_cons_zero, List.set_cons_succ]
  have HA2 := Lib.hid ha2
  have HB2 := Lib.hid hb2
  have HI2 : Hid (∀ k, k ∈ t2.fp → k ∈ T.h4.fp ∨ w.heap.size ≤ k) := Lib.hid (fun k hk => (hi2 k hk).imp_right (fun h => Nat.le_trans HK.out.size h))
  have HD2 := Lib.hid hd2
  have HG2 : Hid (s ∉ t2.fp) := Lib.hid (fun h => (HI2.out s h).elim (fun h9 => HNS.out (fp_sub T false s h9)) (fun h9 => absurd HSL.out (by omega)))
  clear ha2 hb2 hi2 hd2 HA
  have HOn := Lib.hid (HO.out.kp hk2 (fun x hx h9 => HDJ.out x hx h9))
  clear HO
  have HO := HOn
  clear HOn
  have KSn := Lib.hid (KS.out.kp hk2 (fun h => HNS.out (fp_sub T false s h)))
  clear KS
  have KS := KSn
  clear KSn
  have K4n := Lib.hid (K4.out.kp hk2 (fun h => absurd (HLT.out _ (fp_sub T false _ h)) (by omega)))
  clear K4
  have K4 := K4n
  clear K4n
  have HKn := Lib.hid (HK.out.tr hk2 (fun x hx => .inl (List.mem_cons_of_mem _ hx)))
  clear HK
  have HK := HKn
  clear HKn
  clear hS
  have hS := (And.intro K4.out HK.out)
  refine takeY (i := 13) (some 46) (v := .pointer (some ⟨s, 0, none⟩)) rfl rfl (by kernel_rfl) (by kernel_rfl) (by kernel_rfl) (fun _ _ _ h => h) (by rfl) (fun w' hS => by clear hS; go_simp) hS ?_
  simp only [Act.put, List.setIfInBounds_toArray, List.set_cons_zero, List.set_cons_succ]
  refine takeSt (i := 14) 87 (.tmp 46) (.tmp 43) s 0 (t2.root) (#[t2.root]) (tsX t2.root T.h6.root (C0 : Int)) rfl rfl (by kernel_rfl) (by rfl) rfl rfl rfl (root_cells _) info_p1 (one_root _) KS.out (Nat.le_of_ble_eq_true rfl) (tsX_put0 _ _ _ _) ?_
  intro W5 q1
  refine ⟨⟨K4.out.far q1 (by have := HSL.out; omega), HK.out.st q1 (.inl (List.mem_cons_self ..))⟩, ?_⟩
  simp only [Act.put, List.setIfInBounds_toArray, List.set_cons_zero, List.set_cons_succ]
  have KSn : Hid (Blk 90 W5 s (tsX t2.root T.h6.root (C0 : Int))) := Lib.hid q1.1
  clear KS
  have KS := KSn
  clear KSn
  have HOn := Lib.hid (HO.out.far q1 (fun h => HNS.out (fp_sub T true s h)))
  clear HO
  have HO := HOn
  clear HOn
  have HA2n := Lib.hid (HA2.out.far q1 HG2.out)
  clear HA2
  have HA2 := HA2n
  clear HA2n
  have K4n := Lib.hid (K4.out.far q1 (by have := HSL.out; omega))
  clear K4
  have K4 := K4n
  clear K4n
  have HKn := Lib.hid (HK.out.st q1 (.inl (List.mem_cons_self ..)))
  clear HK
  have HK := HKn
  clear HKn
  clear q1 hS
  have hS := (And.intro K4.out HK.out)
  clear hS
  refine wpAnyH_done (by kernel_rfl) ?_ _
  go_wp2_with fail
  refine bodyPost_ret (v := .int .i64 0) (by simp [results, Try.f14, go_sem, getV]) rfl ?_
  have hcn : (T.put false t2).cnt = C0 := by
    have h1 := HC0.out
    unfold Ts.cnt at h1
    show t2.bits.lst.length + T.h6.bits.lst.length = _
    rw [HB2.out]
    have h2 := HLS.out
    omega
  have hkk : tsC (T.put false t2) = tsX t2.root T.h6.root (C0 : Int) := by
    unfold tsC
    rw [hcn]
    rfl
  have hdis : ∀ x, x ∈ t2.fp → x ∉ T.h6.fp := fun x h9 h8 => (HI2.out x h9).elim (fun h7 => HDJ.out x h8 h7) (fun h7 => absurd (HLT.out x (fp_sub T true x h8)) (by omega))
  have hmem : ∀ k, k ∈ (T.put false t2).fp → k ∈ t2.fp ∨ k ∈ T.h6.fp := fun k hk => by
    rcases List.mem_append.1 hk with h1 | h1
    · exact .inl h1
    · exact .inr h1
  exact ⟨rfl, t2, HB2.out, ⟨by rw [hkk]; exact KS.out, HA2.out, HO.out, List.nodup_append.2 ⟨HD2.out, (List.nodup_append.1 HND.out).2.1, fun x h1 y h2 e => hdis x h1 (e ▸ h2)⟩, fun h => (hmem s h).elim HG2.out (fun h9 => HNS.out (fp_sub T true s h9)), fun k hk => (hmem k hk).elim (fun h9 => (HI2.out k h9).elim (fun h8 => HLO.out k (fp_sub T false k h8)) (fun h8 => Nat.le_trans HW0.out h8)) (fun h9 => HLO.out k (fp_sub T true k h9)), HBS.out, ⟨(show Tr.Ok [] t2.bits from HB2.out ▸ HOKN.out), HOK.out.o6⟩⟩, HK.out, HI2.out⟩
set_option maxHeartbeats 16000000 in
set_option maxRecDepth 100000 in
theorem insert_new_6 (B s n : Nat) (v : Int) (T : Ts) (z : Nat → Int) (hz : Bytes z) (hf : Form 6 n z) (w : World) (hT : TsAt w B s T) (hgv : T.g true (btP n z) = none) (hw : B ≤ w.heap.size) (hc : T.cnt ≤ 100000) : Calls Try.prog 14 #[.pointer (some ⟨s, 0, none⟩), .agg (pvC 6 n z), .int .i64 v] w fun e w' => e = .returned (.int .i64 0) ∧ SetP B s T true (Tr.ins (btP n z) v T.h6.bits) w w' := by
  have HGT := Lib.hid (fun W hW => get_6 B s n T z hz hf W hW)
  have HPL := Lib.hid (fun W => place_any true W)
  have HCT := Lib.hid hc
  have HND := Lib.hid hT.nd
  have HNS := Lib.hid hT.ns
  have HLO := Lib.hid hT.lo
  have HBS := Lib.hid hT.bs
  have HOK := Lib.hid hT.ok
  have HLT := Lib.hid hT.fpl
  have HSL := Lib.hid hT.lt
  have HW0 := Lib.hid hw
  have HDJ : Hid (∀ x, x ∈ T.h4.fp → x ∉ T.h6.fp) := Lib.hid (fun x h1 h2 => (List.nodup_append.1 hT.nd).2.2 x h1 x h2 rfl)
  have HGV := Lib.hid hgv
  have HWI := Lib.hid (fun W hW => with_any 6 v n z hz hf T.h6 W hW (List.nodup_append.1 hT.nd).2.1)
  have HLS : Hid ((Tr.lst (Tr.ins (btP n z) v T.h6.bits)).length = (Tr.lst T.h6.bits).length + 1) := Lib.hid ((Tr.lst_ins hT.ok.o6).trans (by rw [show Tr.get T.h6.bits (btP n z) = none from hgv]; rfl))
  have HOKN : Hid (Tr.Ok [] (Tr.ins (btP n z) v T.h6.bits)) := Lib.hid (Tr.ins_ok hT.ok.o6 List.nil_prefix)
  obtain ⟨TB, hTB⟩ : ∃ TB, Tr.ins (btP n z) v T.h6.bits = TB := ⟨_, rfl⟩
  rw [hTB] at HWI HLS HOKN ⊢
  clear hTB
  have HT := Lib.hid hT
  clear hz hf hT hc hw
  go_enter Try.func14, Try.ntmps14
  have HK := Lib.hid (Kp.refl (s :: T.h6.fp) w)
  obtain ⟨N1, hN1⟩ : ∃ N, w.heap.size = N := ⟨_, rfl⟩
  have HN1 := Lib.hid hN1
  clear hN1
  go_wp2_with (refine wpList_box (op := ⟨some 4, _, _, _, _, _⟩) rfl 32 (.tmp 1) rfl (pvC 6 n z) rfl N1 HN1.out ?_; intro w1 k1 b1 s1; refine Hid.out ?_)
  refine Lib.hid ?_
  have le_HK_N1 : w.heap.size ≤ N1 := by rw [← HN1.out]; exact HK.out.size
  have K4 := Lib.hid k1
  clear k1
  have HTn := Lib.hid (HT.out.below b1 HT.out.lt)
  clear HT
  have HT := HTn
  clear HTn
  have HKn := Lib.hid (HK.out.tb b1)
  clear HK
  have HK := HKn
  clear HKn
  clear b1 HN1
  go_wp2_with (refine wpList_ld (op := ⟨some 13, _, _, _, _, _⟩) (by rfl) 32 (.tmp 4) rfl N1 0 rfl (pvC 6 n z) _ K4.out.all Try.underlying32 rfl (hi_pv 6 (n : Int) z) ?_; refine Hid.out ?_)
  refine Lib.hid ?_
  go_wp2_with fail
  refine ((HGT.out _ HT.out)).mono ?_
  rintro e w2 ⟨rfl, b1⟩
  have K4n := Lib.hid (K4.out.below b1 K4.out.lt)
  clear K4
  have K4 := K4n
  clear K4n
  have HTn := Lib.hid (HT.out.below b1 HT.out.lt)
  clear HT
  have HT := HTn
  clear HTn
  have HKn := Lib.hid (HK.out.tb b1)
  clear HK
  have HK := HKn
  clear HKn
  clear b1
  rw [HGV.out]
  rw [show getV (none) = .tuple #[.int .i64 0, .bool false, .int .i64 0] from rfl]
  have KS := Lib.hid HT.out.blk
  have HA := Lib.hid HT.out.a6
  have HO := Lib.hid HT.out.a4
  clear HT
  have KSx : Hid (Blk 90 w2 s (tsX T.h4.root T.h6.root (T.cnt : Int))) := Lib.hid KS.out
  clear KS
  have KS := KSx
  clear KSx
  obtain ⟨C0, hC0⟩ : ∃ C, T.cnt = C := ⟨_, rfl⟩
  rw [hC0] at KS HCT
  have HC0 := Lib.hid hC0
  clear hC0
  have c2 : w2.cell? ⟨s, 2, none⟩ = some (.int .i64 (C0 : Int)) := (KS.out.cell 2).trans rfl
  go_wp2_with (refine wpList_v (op := ⟨some 27, _, _, _, _, _⟩) rfl (.int .i64 ((C0 + 1 : Nat) : Int)) (run_add1 _ _ _ _ _ rfl C0 rfl rfl (by have := HCT.out; omega) _) ?_; refine Hid.out ?_)
  refine Lib.hid ?_
  clear c2
  go_wp2_with (refine wpList_st rfl 3 (.tmp 29) (.tmp 27) rfl s 2 rfl (.int .i64 ((C0 + 1 : Nat) : Int)) #[.int .i64 ((C0 + 1 : Nat) : Int)] rfl rfl info_i1 (one_i64 _) KS.out (Nat.le_of_ble_eq_true rfl) (C' := tsX T.h4.root T.h6.root ((C0 + 1 : Nat) : Int)) (tsX_put2 _ _ _ _) ?_; intro w3 q1; refine Hid.out ?_)
  refine Lib.hid ?_
  have HAn := Lib.hid (HA.out.far q1 (fun h => HNS.out (fp_sub T true s h)))
  clear HA
  have HA := HAn
  clear HAn
  have HOn := Lib.hid (HO.out.far q1 (fun h => HNS.out (fp_sub T false s h)))
  clear HO
  have HO := HOn
  clear HOn
  have HKn := Lib.hid (HK.out.st q1 (.inl (List.mem_cons_self ..)))
  clear HK
  have HK := HKn
  clear HKn
  have K4n := Lib.hid (K4.out.far q1 (by have := HSL.out; omega))
  clear K4
  have K4 := K4n
  clear K4n
  have KSn : Hid (Blk 90 w3 s (tsX T.h4.root T.h6.root ((C0 + 1 : Nat) : Int))) := Lib.hid q1.1
  clear KS
  have KS := KSn
  clear KSn q1
  have c0 : w3.cell? ⟨N1, 0, none⟩ = some (.int .u8 6) := (K4.out.cell 0).trans rfl
  go_wp2_with fail
  clear c0
  refine (HPL.out _).mono ?_
  rintro e w9 ⟨rfl, rfl⟩
  rw [show iB true = 1 from rfl]
  go_wp2_with fail
  have HAd := Lib.hid HA.out.drew
  clear HA
  have HOd := Lib.hid HO.out.drew
  clear HO
  have KSd := Lib.hid KS.out.drew
  clear KS
  refine wp_region_held_drew (S := fun w' => Blk 32 w' N1 (pvC 6 n z) ∧ Kp (s :: T.h6.fp) w w') (by kernel_rfl) ⟨K4.out, HK.out.drew⟩ (fun hS => ?_)
  generalize hW4 : w3.drew = W4 at hS HAd HOd KSd ⊢
  clear hW4
  clear K4
  clear HK
  have HA := HAd
  clear HAd
  have HO := HOd
  clear HOd
  have KS := KSd
  clear KSd
  have K4 := Lib.hid hS.1
  have HK := Lib.hid hS.2
  refine takeY (i := 0) (some 33) (v := .pointer (some ⟨s, 0, none⟩)) rfl rfl (by kernel_rfl) (by kernel_rfl) (by kernel_rfl) (fun _ _ _ h => h) (by rfl) (fun w' hS => by clear hS; go_simp) hS ?_
  simp only [Act.put, List.setIfInBounds_toArray, List.set_cons_zero, List.set_cons_succ]
  refine takeY (i := 1) (some 34) (v := .int .i64 1) rfl rfl (by kernel_rfl) (by kernel_rfl) (by kernel_rfl) (fun _ _ _ h => h) (by rfl) (fun w' hS => by clear hS; go_simp) hS ?_
  simp only [Act.put, List.setIfInBounds_toArray, List.set_cons_zero, List.set_cons_succ]
  refine takeY (i := 2) (some 35) (v := .pointer (some ⟨s, 0, none⟩)) rfl rfl (by kernel_rfl) (by kernel_rfl) (by kernel_rfl) (fun _ _ _ h => h) (by rfl) (fun w' hS => by clear hS; go_simp) hS ?_
  simp only [Act.put, List.setIfInBounds_toArray, List.set_cons_zero, List.set_cons_succ]
  refine takeY (i := 3) (some 36) (v := .int .i64 1) rfl rfl (by kernel_rfl) (by kernel_rfl) (by kernel_rfl) (fun _ _ _ h => h) (by rfl) (fun w' hS => by clear hS; go_simp) hS ?_
  simp only [Act.put, List.setIfInBounds_toArray, List.set_cons_zero, List.set_cons_succ]
  refine takeY (i := 4) (some 37) (v := .pointer (some ⟨s, 0, none⟩)) rfl rfl (by kernel_rfl) (by kernel_rfl) (by kernel_rfl) (fun _ _ _ h => h) (by rfl) (fun w' hS => by clear hS; go_simp) hS ?_
  simp only [Act.put, List.setIfInBounds_toArray, List.set_cons_zero, List.set_cons_succ]
  refine takeY (i := 5) (some 38) (v := .pointer (some ⟨s, 0, none⟩)) rfl rfl (by kernel_rfl) (by kernel_rfl) (by kernel_rfl) (fun _ _ _ h => h) (by rfl) (fun w' hS => by clear hS; go_simp) hS ?_
  simp only [Act.put, List.setIfInBounds_toArray, List.set_cons_zero, List.set_cons_succ]
  refine takeY (i := 6) (some 39) (v := .pointer (some ⟨s, 1, none⟩)) rfl rfl (by kernel_rfl) (by kernel_rfl) (by kernel_rfl) (fun _ _ _ h => h) (by rfl) (fun w' hS => by clear hS; go_simp) hS ?_
  simp only [Act.put, List.setIfInBounds_toArray, List.set_cons_zero, List.set_cons_succ]
  refine takeL (i := 8) (some 41) 32 (.tmp 4) N1 0 (pvC 6 n z) _ rfl rfl (by kernel_rfl) (by kernel_rfl) (by kernel_rfl) (fun _ _ _ h => h) (by rfl) rfl rfl (fun w' hS => hS.1.all) Try.underlying32 rfl (hi_pv 6 (n : Int) z) hS ?_
  simp only [Act.put, List.setIfInBounds_toArray, List.set_cons_zero, List.set_cons_succ]
  refine takeY (i := 9) (some 42) (v := .int .i64 v) rfl rfl (by kernel_rfl) (by kernel_rfl) (by kernel_rfl) (fun _ _ _ h => h) (by rfl) (fun w' hS => by clear hS; go_simp) hS ?_
  simp only [Act.put, List.setIfInBounds_toArray, List.set_cons_zero, List.set_cons_succ]
  refine takeY (i := 11) (some 44) (v := .pointer (some ⟨s, 0, none⟩)) rfl rfl (by kernel_rfl) (by kernel_rfl) (by kernel_rfl) (fun _ _ _ h => h) (by rfl) (fun w' hS => by clear hS; go_simp) hS ?_
  simp only [Act.put, List.setIfInBounds_toArray, List.set_cons_zero, List.set_cons_succ]
  refine takeY (i := 12) (some 45) (v := .pointer (some ⟨s, 0, none⟩)) rfl rfl (by kernel_rfl) (by kernel_rfl) (by kernel_rfl) (fun _ _ _ h => h) (by rfl) (fun w' hS => by clear hS; go_simp) hS ?_
  simp only [Act.put, List.setIfInBounds_toArray, List.set_cons_zero, List.set_cons_succ]
  refine takeV (i := 7) (some 40) (v := T.h6.root) (w' := W4) rfl rfl (by kernel_rfl) (by rfl) (load_ptr _ _ _ rfl s 1 rfl _ ((KS.out.cell 1).trans rfl)) hS ?_
  simp only [Act.put, List.setIfInBounds_toArray, List.set_cons_zero, List.set_cons_succ]
  refine takeCE (i := 10) (some 43) 44 #[T.h6.root, .agg (pvC 6 n z), .int .i64 v] (R := fun v w' => ∃ t2 : Ht, v = t2.root ∧ t2.At w' 6 ∧ t2.bits = TB ∧ Kp T.h6.fp W4 w' ∧ (∀ k, k ∈ t2.fp → k ∈ T.h6.fp ∨ W4.heap.size ≤ k) ∧ t2.fp.Nodup) rfl rfl (by kernel_rfl) (by rfl) (by go_simp) ((HWI.out W4 HA.out).mono (by rintro e w9 ⟨t2, rfl, h9⟩; exact ⟨_, rfl, t2, rfl, h9⟩)) (fun v w' h => by obtain ⟨t2, rfl, ha2, hb2, hk2, hi2, hd2⟩ := h; exact ⟨K4.out.kp hk2 (fun h => absurd (HLT.out _ (fp_sub T true _ h)) (by omega)), HK.out.tr hk2 (fun x hx => .inl (List.mem_cons_of_mem _ hx))⟩) (fun v W5 h hS2 => ?_)
  obtain ⟨t2, rfl, ha2, hb2, hk2, hi2, hd2⟩ := h
  clear hS2
  simp only [Act.put, List.setIfInBounds_toArray, List.set_cons_zero, List.set_cons_succ]
  have HA2 := Lib.hid ha2
  have HB2 := Lib.hid hb2
  have HI2 : Hid (∀ k, k ∈ t2.fp → k ∈ T.h6.fp ∨ w.heap.size ≤ k) := Lib.hid (fun k hk => (hi2 k hk).imp_right (fun h => Nat.le_trans HK.out.size h))
  have HD2 := Lib.hid hd2
  have HG2 : Hid (s ∉ t2.fp) := Lib.hid (fun h => (HI2.out s h).elim (fun h9 => HNS.out (fp_sub T true s h9)) (fun h9 => absurd HSL.out (by omega)))
  clear ha2 hb2 hi2 hd2 HA
  have HOn := Lib.hid (HO.out.kp hk2 (fun x hx h9 => HDJ.out x hx h9))
  clear HO
  have HO := HOn
  clear HOn
  have KSn := Lib.hid (KS.out.kp hk2 (fun h => HNS.out (fp_sub T true s h)))
  clear KS
  have KS := KSn
  clear KSn
  have K4n := Lib.hid (K4.out.kp hk2 (fun h => absurd (HLT.out _ (fp_sub T true _ h)) (by omega)))
  clear K4
  have K4 := K4n
  clear K4n
  have HKn := Lib.hid (HK.out.tr hk2 (fun x hx => .inl (List.mem_cons_of_mem _ hx)))
  clear HK
  have HK := HKn
  clear HKn
  clear hS
  have hS := (And.intro K4.out HK.out)
  refine takeY (i := 13) (some 46) (v := .pointer (some ⟨s, 1, none⟩)) rfl rfl (by kernel_rfl) (by kernel_rfl) (by kernel_rfl) (fun _ _ _ h => h) (by rfl) (fun w' hS => by clear hS; go_simp) hS ?_
  simp only [Act.put, List.setIfInBounds_toArray, List.set_cons_zero, List.set_cons_succ]
  refine takeSt (i := 14) 87 (.tmp 46) (.tmp 43) s 1 (t2.root) (#[t2.root]) (tsX T.h4.root t2.root ((C0 + 1 : Nat) : Int)) rfl rfl (by kernel_rfl) (by rfl) rfl rfl rfl (root_cells _) info_p1 (one_root _) KS.out (Nat.le_of_ble_eq_true rfl) (tsX_put1 _ _ _ _) ?_
  intro W6 q1
  refine ⟨⟨K4.out.far q1 (by have := HSL.out; omega), HK.out.st q1 (.inl (List.mem_cons_self ..))⟩, ?_⟩
  simp only [Act.put, List.setIfInBounds_toArray, List.set_cons_zero, List.set_cons_succ]
  have KSn : Hid (Blk 90 W6 s (tsX T.h4.root t2.root ((C0 + 1 : Nat) : Int))) := Lib.hid q1.1
  clear KS
  have KS := KSn
  clear KSn
  have HOn := Lib.hid (HO.out.far q1 (fun h => HNS.out (fp_sub T false s h)))
  clear HO
  have HO := HOn
  clear HOn
  have HA2n := Lib.hid (HA2.out.far q1 HG2.out)
  clear HA2
  have HA2 := HA2n
  clear HA2n
  have K4n := Lib.hid (K4.out.far q1 (by have := HSL.out; omega))
  clear K4
  have K4 := K4n
  clear K4n
  have HKn := Lib.hid (HK.out.st q1 (.inl (List.mem_cons_self ..)))
  clear HK
  have HK := HKn
  clear HKn
  clear q1 hS
  have hS := (And.intro K4.out HK.out)
  clear hS
  refine wpAnyH_done (by kernel_rfl) ?_ _
  go_wp2_with fail
  refine bodyPost_ret (v := .int .i64 0) (by simp [results, Try.f14, go_sem, getV]) rfl ?_
  have hcn : (T.put true t2).cnt = (C0 + 1) := by
    have h1 := HC0.out
    unfold Ts.cnt at h1
    show T.h4.bits.lst.length + t2.bits.lst.length = _
    rw [HB2.out]
    have h2 := HLS.out
    omega
  have hkk : tsC (T.put true t2) = tsX T.h4.root t2.root ((C0 + 1 : Nat) : Int) := by
    unfold tsC
    rw [hcn]
    rfl
  have hdis : ∀ x, x ∈ t2.fp → x ∉ T.h4.fp := fun x h9 h8 => (HI2.out x h9).elim (fun h7 => HDJ.out x h8 h7) (fun h7 => absurd (HLT.out x (fp_sub T false x h8)) (by omega))
  have hmem : ∀ k, k ∈ (T.put true t2).fp → k ∈ t2.fp ∨ k ∈ T.h4.fp := fun k hk => by
    rcases List.mem_append.1 hk with h1 | h1
    · exact .inr h1
    · exact .inl h1
  exact ⟨rfl, t2, HB2.out, ⟨by rw [hkk]; exact KS.out, HO.out, HA2.out, List.nodup_append.2 ⟨(List.nodup_append.1 HND.out).1, HD2.out, fun x h1 y h2 e => hdis y h2 (e ▸ h1)⟩, fun h => (hmem s h).elim HG2.out (fun h9 => HNS.out (fp_sub T false s h9)), fun k hk => (hmem k hk).elim (fun h9 => (HI2.out k h9).elim (fun h8 => HLO.out k (fp_sub T true k h8)) (fun h8 => Nat.le_trans HW0.out h8)) (fun h9 => HLO.out k (fp_sub T false k h9)), HBS.out, ⟨HOK.out.o4, (show Tr.Ok [] t2.bits from HB2.out ▸ HOKN.out)⟩⟩, HK.out, HI2.out⟩
set_option maxHeartbeats 16000000 in
set_option maxRecDepth 100000 in
theorem insert_old_6 (B s n : Nat) (v : Int) (v0 : Int) (T : Ts) (z : Nat → Int) (hz : Bytes z) (hf : Form 6 n z) (w : World) (hT : TsAt w B s T) (hgv : T.g true (btP n z) = some v0) (hw : B ≤ w.heap.size) (hc : T.cnt ≤ 100000) : Calls Try.prog 14 #[.pointer (some ⟨s, 0, none⟩), .agg (pvC 6 n z), .int .i64 v] w fun e w' => e = .returned (.int .i64 0) ∧ SetP B s T true (Tr.ins (btP n z) v T.h6.bits) w w' := by
  have HGT := Lib.hid (fun W hW => get_6 B s n T z hz hf W hW)
  have HPL := Lib.hid (fun W => place_any true W)
  have HCT := Lib.hid hc
  have HND := Lib.hid hT.nd
  have HNS := Lib.hid hT.ns
  have HLO := Lib.hid hT.lo
  have HBS := Lib.hid hT.bs
  have HOK := Lib.hid hT.ok
  have HLT := Lib.hid hT.fpl
  have HSL := Lib.hid hT.lt
  have HW0 := Lib.hid hw
  have HDJ : Hid (∀ x, x ∈ T.h4.fp → x ∉ T.h6.fp) := Lib.hid (fun x h1 h2 => (List.nodup_append.1 hT.nd).2.2 x h1 x h2 rfl)
  have HGV := Lib.hid hgv
  have HWI := Lib.hid (fun W hW => with_any 6 v n z hz hf T.h6 W hW (List.nodup_append.1 hT.nd).2.1)
  have HLS : Hid ((Tr.lst (Tr.ins (btP n z) v T.h6.bits)).length = (Tr.lst T.h6.bits).length) := Lib.hid ((Tr.lst_ins hT.ok.o6).trans (by rw [show Tr.get T.h6.bits (btP n z) = some v0 from hgv]; rfl))
  have HOKN : Hid (Tr.Ok [] (Tr.ins (btP n z) v T.h6.bits)) := Lib.hid (Tr.ins_ok hT.ok.o6 List.nil_prefix)
  obtain ⟨TB, hTB⟩ : ∃ TB, Tr.ins (btP n z) v T.h6.bits = TB := ⟨_, rfl⟩
  rw [hTB] at HWI HLS HOKN ⊢
  clear hTB
  have HT := Lib.hid hT
  clear hz hf hT hc hw
  go_enter Try.func14, Try.ntmps14
  have HK := Lib.hid (Kp.refl (s :: T.h6.fp) w)
  obtain ⟨N1, hN1⟩ : ∃ N, w.heap.size = N := ⟨_, rfl⟩
  have HN1 := Lib.hid hN1
  clear hN1
  go_wp2_with (refine wpList_box (op := ⟨some 4, _, _, _, _, _⟩) rfl 32 (.tmp 1) rfl (pvC 6 n z) rfl N1 HN1.out ?_; intro w1 k1 b1 s1; refine Hid.out ?_)
  refine Lib.hid ?_
  have le_HK_N1 : w.heap.size ≤ N1 := by rw [← HN1.out]; exact HK.out.size
  have K4 := Lib.hid k1
  clear k1
  have HTn := Lib.hid (HT.out.below b1 HT.out.lt)
  clear HT
  have HT := HTn
  clear HTn
  have HKn := Lib.hid (HK.out.tb b1)
  clear HK
  have HK := HKn
  clear HKn
  clear b1 HN1
  go_wp2_with (refine wpList_ld (op := ⟨some 13, _, _, _, _, _⟩) (by rfl) 32 (.tmp 4) rfl N1 0 rfl (pvC 6 n z) _ K4.out.all Try.underlying32 rfl (hi_pv 6 (n : Int) z) ?_; refine Hid.out ?_)
  refine Lib.hid ?_
  go_wp2_with fail
  refine ((HGT.out _ HT.out)).mono ?_
  rintro e w2 ⟨rfl, b1⟩
  have K4n := Lib.hid (K4.out.below b1 K4.out.lt)
  clear K4
  have K4 := K4n
  clear K4n
  have HTn := Lib.hid (HT.out.below b1 HT.out.lt)
  clear HT
  have HT := HTn
  clear HTn
  have HKn := Lib.hid (HK.out.tb b1)
  clear HK
  have HK := HKn
  clear HKn
  clear b1
  rw [HGV.out]
  rw [show getV (some v0) = .tuple #[.int .i64 v0, .bool true, .int .i64 0] from rfl]
  have KS := Lib.hid HT.out.blk
  have HA := Lib.hid HT.out.a6
  have HO := Lib.hid HT.out.a4
  clear HT
  have KSx : Hid (Blk 90 w2 s (tsX T.h4.root T.h6.root (T.cnt : Int))) := Lib.hid KS.out
  clear KS
  have KS := KSx
  clear KSx
  obtain ⟨C0, hC0⟩ : ∃ C, T.cnt = C := ⟨_, rfl⟩
  rw [hC0] at KS HCT
  have HC0 := Lib.hid hC0
  clear hC0
  have c0 : w2.cell? ⟨N1, 0, none⟩ = some (.int .u8 6) := (K4.out.cell 0).trans rfl
  go_wp2_with fail
  clear c0
  refine (HPL.out _).mono ?_
  rintro e w9 ⟨rfl, rfl⟩
  rw [show iB true = 1 from rfl]
  go_wp2_with fail
  have HAd := Lib.hid HA.out.drew
  clear HA
  have HOd := Lib.hid HO.out.drew
  clear HO
  have KSd := Lib.hid KS.out.drew
  clear KS
  refine wp_region_held_drew (S := fun w' => Blk 32 w' N1 (pvC 6 n z) ∧ Kp (s :: T.h6.fp) w w') (by kernel_rfl) ⟨K4.out, HK.out.drew⟩ (fun hS => ?_)
  generalize hW3 : w2.drew = W3 at hS HAd HOd KSd ⊢
  clear hW3
  clear K4
  clear HK
  have HA := HAd
  clear HAd
  have HO := HOd
  clear HOd
  have KS := KSd
  clear KSd
  have K4 := Lib.hid hS.1
  have HK := Lib.hid hS.2
  refine takeY (i := 0) (some 33) (v := .pointer (some ⟨s, 0, none⟩)) rfl rfl (by kernel_rfl) (by kernel_rfl) (by kernel_rfl) (fun _ _ _ h => h) (by rfl) (fun w' hS => by clear hS; go_simp) hS ?_
  simp only [Act.put, List.setIfInBounds_toArray, List.set_cons_zero, List.set_cons_succ]
  refine takeY (i := 1) (some 34) (v := .int .i64 1) rfl rfl (by kernel_rfl) (by kernel_rfl) (by kernel_rfl) (fun _ _ _ h => h) (by rfl) (fun w' hS => by clear hS; go_simp) hS ?_
  simp only [Act.put, List.setIfInBounds_toArray, List.set_cons_zero, List.set_cons_succ]
  refine takeY (i := 2) (some 35) (v := .pointer (some ⟨s, 0, none⟩)) rfl rfl (by kernel_rfl) (by kernel_rfl) (by kernel_rfl) (fun _ _ _ h => h) (by rfl) (fun w' hS => by clear hS; go_simp) hS ?_
  simp only [Act.put, List.setIfInBounds_toArray, List.set_cons_zero, List.set_cons_succ]
  refine takeY (i := 3) (some 36) (v := .int .i64 1) rfl rfl (by kernel_rfl) (by kernel_rfl) (by kernel_rfl) (fun _ _ _ h => h) (by rfl) (fun w' hS => by clear hS; go_simp) hS ?_
  simp only [Act.put, List.setIfInBounds_toArray, List.set_cons_zero, List.set_cons_succ]
  refine takeY (i := 4) (some 37) (v := .pointer (some ⟨s, 0, none⟩)) rfl rfl (by kernel_rfl) (by kernel_rfl) (by kernel_rfl) (fun _ _ _ h => h) (by rfl) (fun w' hS => by clear hS; go_simp) hS ?_
  simp only [Act.put, List.setIfInBounds_toArray, List.set_cons_zero, List.set_cons_succ]
  refine takeY (i := 5) (some 38) (v := .pointer (some ⟨s, 0, none⟩)) rfl rfl (by kernel_rfl) (by kernel_rfl) (by kernel_rfl) (fun _ _ _ h => h) (by rfl) (fun w' hS => by clear hS; go_simp) hS ?_
  simp only [Act.put, List.setIfInBounds_toArray, List.set_cons_zero, List.set_cons_succ]
  refine takeY (i := 6) (some 39) (v := .pointer (some ⟨s, 1, none⟩)) rfl rfl (by kernel_rfl) (by kernel_rfl) (by kernel_rfl) (fun _ _ _ h => h) (by rfl) (fun w' hS => by clear hS; go_simp) hS ?_
  simp only [Act.put, List.setIfInBounds_toArray, List.set_cons_zero, List.set_cons_succ]
  refine takeL (i := 8) (some 41) 32 (.tmp 4) N1 0 (pvC 6 n z) _ rfl rfl (by kernel_rfl) (by kernel_rfl) (by kernel_rfl) (fun _ _ _ h => h) (by rfl) rfl rfl (fun w' hS => hS.1.all) Try.underlying32 rfl (hi_pv 6 (n : Int) z) hS ?_
  simp only [Act.put, List.setIfInBounds_toArray, List.set_cons_zero, List.set_cons_succ]
  refine takeY (i := 9) (some 42) (v := .int .i64 v) rfl rfl (by kernel_rfl) (by kernel_rfl) (by kernel_rfl) (fun _ _ _ h => h) (by rfl) (fun w' hS => by clear hS; go_simp) hS ?_
  simp only [Act.put, List.setIfInBounds_toArray, List.set_cons_zero, List.set_cons_succ]
  refine takeY (i := 11) (some 44) (v := .pointer (some ⟨s, 0, none⟩)) rfl rfl (by kernel_rfl) (by kernel_rfl) (by kernel_rfl) (fun _ _ _ h => h) (by rfl) (fun w' hS => by clear hS; go_simp) hS ?_
  simp only [Act.put, List.setIfInBounds_toArray, List.set_cons_zero, List.set_cons_succ]
  refine takeY (i := 12) (some 45) (v := .pointer (some ⟨s, 0, none⟩)) rfl rfl (by kernel_rfl) (by kernel_rfl) (by kernel_rfl) (fun _ _ _ h => h) (by rfl) (fun w' hS => by clear hS; go_simp) hS ?_
  simp only [Act.put, List.setIfInBounds_toArray, List.set_cons_zero, List.set_cons_succ]
  refine takeV (i := 7) (some 40) (v := T.h6.root) (w' := W3) rfl rfl (by kernel_rfl) (by rfl) (load_ptr _ _ _ rfl s 1 rfl _ ((KS.out.cell 1).trans rfl)) hS ?_
  simp only [Act.put, List.setIfInBounds_toArray, List.set_cons_zero, List.set_cons_succ]
  refine takeCE (i := 10) (some 43) 44 #[T.h6.root, .agg (pvC 6 n z), .int .i64 v] (R := fun v w' => ∃ t2 : Ht, v = t2.root ∧ t2.At w' 6 ∧ t2.bits = TB ∧ Kp T.h6.fp W3 w' ∧ (∀ k, k ∈ t2.fp → k ∈ T.h6.fp ∨ W3.heap.size ≤ k) ∧ t2.fp.Nodup) rfl rfl (by kernel_rfl) (by rfl) (by go_simp) ((HWI.out W3 HA.out).mono (by rintro e w9 ⟨t2, rfl, h9⟩; exact ⟨_, rfl, t2, rfl, h9⟩)) (fun v w' h => by obtain ⟨t2, rfl, ha2, hb2, hk2, hi2, hd2⟩ := h; exact ⟨K4.out.kp hk2 (fun h => absurd (HLT.out _ (fp_sub T true _ h)) (by omega)), HK.out.tr hk2 (fun x hx => .inl (List.mem_cons_of_mem _ hx))⟩) (fun v W4 h hS2 => ?_)
  obtain ⟨t2, rfl, ha2, hb2, hk2, hi2, hd2⟩ := h
  clear hS2
  simp only [Act.put, List.setIfInBounds_toArray, List.set_cons_zero, List.set_cons_succ]
  have HA2 := Lib.hid ha2
  have HB2 := Lib.hid hb2
  have HI2 : Hid (∀ k, k ∈ t2.fp → k ∈ T.h6.fp ∨ w.heap.size ≤ k) := Lib.hid (fun k hk => (hi2 k hk).imp_right (fun h => Nat.le_trans HK.out.size h))
  have HD2 := Lib.hid hd2
  have HG2 : Hid (s ∉ t2.fp) := Lib.hid (fun h => (HI2.out s h).elim (fun h9 => HNS.out (fp_sub T true s h9)) (fun h9 => absurd HSL.out (by omega)))
  clear ha2 hb2 hi2 hd2 HA
  have HOn := Lib.hid (HO.out.kp hk2 (fun x hx h9 => HDJ.out x hx h9))
  clear HO
  have HO := HOn
  clear HOn
  have KSn := Lib.hid (KS.out.kp hk2 (fun h => HNS.out (fp_sub T true s h)))
  clear KS
  have KS := KSn
  clear KSn
  have K4n := Lib.hid (K4.out.kp hk2 (fun h => absurd (HLT.out _ (fp_sub T true _ h)) (by omega)))
  clear K4
  have K4 := K4n
  clear K4n
  have HKn := Lib.hid (HK.out.tr hk2 (fun x hx => .inl (List.mem_cons_of_mem _ hx)))
  clear HK
  have HK := HKn
  clear HKn
  clear hS
  have hS := (And.intro K4.out HK.out)
  refine takeY (i := 13) (some 46) (v := .pointer (some ⟨s, 1, none⟩)) rfl rfl (by kernel_rfl) (by kernel_rfl) (by kernel_rfl) (fun _ _ _ h => h) (by rfl) (fun w' hS => by clear hS; go_simp) hS ?_
  simp only [Act.put, List.setIfInBounds_toArray, List.set_cons_zero, List.set_cons_succ]
  refine takeSt (i := 14) 87 (.tmp 46) (.tmp 43) s 1 (t2.root) (#[t2.root]) (tsX T.h4.root t2.root (C0 : Int)) rfl rfl (by kernel_rfl) (by rfl) rfl rfl rfl (root_cells _) info_p1 (one_root _) KS.out (Nat.le_of_ble_eq_true rfl) (tsX_put1 _ _ _ _) ?_
  intro W5 q1
  refine ⟨⟨K4.out.far q1 (by have := HSL.out; omega), HK.out.st q1 (.inl (List.mem_cons_self ..))⟩, ?_⟩
  simp only [Act.put, List.setIfInBounds_toArray, List.set_cons_zero, List.set_cons_succ]
  have KSn : Hid (Blk 90 W5 s (tsX T.h4.root t2.root (C0 : Int))) := Lib.hid q1.1
  clear KS
  have KS := KSn
  clear KSn
  have HOn := Lib.hid (HO.out.far q1 (fun h => HNS.out (fp_sub T false s h)))
  clear HO
  have HO := HOn
  clear HOn
  have HA2n := Lib.hid (HA2.out.far q1 HG2.out)
  clear HA2
  have HA2 := HA2n
  clear HA2n
  have K4n := Lib.hid (K4.out.far q1 (by have := HSL.out; omega))
  clear K4
  have K4 := K4n
  clear K4n
  have HKn := Lib.hid (HK.out.st q1 (.inl (List.mem_cons_self ..)))
  clear HK
  have HK := HKn
  clear HKn
  clear q1 hS
  have hS := (And.intro K4.out HK.out)
  clear hS
  refine wpAnyH_done (by kernel_rfl) ?_ _
  go_wp2_with fail
  refine bodyPost_ret (v := .int .i64 0) (by simp [results, Try.f14, go_sem, getV]) rfl ?_
  have hcn : (T.put true t2).cnt = C0 := by
    have h1 := HC0.out
    unfold Ts.cnt at h1
    show T.h4.bits.lst.length + t2.bits.lst.length = _
    rw [HB2.out]
    have h2 := HLS.out
    omega
  have hkk : tsC (T.put true t2) = tsX T.h4.root t2.root (C0 : Int) := by
    unfold tsC
    rw [hcn]
    rfl
  have hdis : ∀ x, x ∈ t2.fp → x ∉ T.h4.fp := fun x h9 h8 => (HI2.out x h9).elim (fun h7 => HDJ.out x h8 h7) (fun h7 => absurd (HLT.out x (fp_sub T false x h8)) (by omega))
  have hmem : ∀ k, k ∈ (T.put true t2).fp → k ∈ t2.fp ∨ k ∈ T.h4.fp := fun k hk => by
    rcases List.mem_append.1 hk with h1 | h1
    · exact .inr h1
    · exact .inl h1
  exact ⟨rfl, t2, HB2.out, ⟨by rw [hkk]; exact KS.out, HO.out, HA2.out, List.nodup_append.2 ⟨(List.nodup_append.1 HND.out).1, HD2.out, fun x h1 y h2 e => hdis y h2 (e ▸ h1)⟩, fun h => (hmem s h).elim HG2.out (fun h9 => HNS.out (fp_sub T false s h9)), fun k hk => (hmem k hk).elim (fun h9 => (HI2.out k h9).elim (fun h8 => HLO.out k (fp_sub T true k h8)) (fun h8 => Nat.le_trans HW0.out h8)) (fun h9 => HLO.out k (fp_sub T false k h9)), HBS.out, ⟨HOK.out.o4, (show Tr.Ok [] t2.bits from HB2.out ▸ HOKN.out)⟩⟩, HK.out, HI2.out⟩
end Go.Proofs.Ytjnbemopfhinbaa
