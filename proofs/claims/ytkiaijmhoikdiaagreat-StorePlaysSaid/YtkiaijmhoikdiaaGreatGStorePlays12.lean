/- Texts of this claim put together; each theorem states its conditions. -/
import Derived.Test.YtkiaijmhoikdiaaGreatGStorePlays11
import Derived.Test.YtkiaijmhoikdiaaGreatGStorePlays4
import Derived.Test.YtkiaijmhoikdiaaGreatGStorePlays7
import Derived.Deep.DeepCutAuto
import Derived.Deep.CutBlock
import Derived.Deep.Slices
import Derived.Test.YtkiaijmhoikdiaaGreatGStorePlays1
/- The document's Bytes: with the life that it has now. Each theorem states its conditions. -/
namespace Go.Proofs.YtkiaijmhoikdiaaGreat
open Go.RowKit Go.MapKept
set_option linter.unusedVariables false
set_option linter.unusedSimpArgs false

theorem quo_run (o : Oper) (e : Operand → Value) (x : Operand) (ho : o.op = .binOp .quo 3 x (.const (.int .i64 256)) 3) (l : Int) (hl : 0 ≤ l ∧ l ≤ 65535) (h0 : e x = .int .i64 l) (hc : e (.const (.int .i64 256)) = .int .i64 256) (W : World) : (execOp e o).run Tryz.prog W = .ok (.value (.int .i64 (l / 256))) W := by
  unfold execOp
  simp only [ho, h0, hc]
  simp [go_sem]
  try (rw [Int.tdiv_eq_ediv_of_nonneg hl.1])
  try (simp [IntKind.wrap, IntKind.signed, IntKind.bits]; omega)
theorem rem_run (o : Oper) (e : Operand → Value) (x : Operand) (ho : o.op = .binOp .rem 3 x (.const (.int .i64 256)) 3) (l : Int) (hl : 0 ≤ l ∧ l ≤ 65535) (h0 : e x = .int .i64 l) (hc : e (.const (.int .i64 256)) = .int .i64 256) (W : World) : (execOp e o).run Tryz.prog W = .ok (.value (.int .i64 (l % 256))) W := by
  unfold execOp
  simp only [ho, h0, hc]
  simp [go_sem]
  try (rw [Int.tmod_eq_emod_of_nonneg hl.1])
  try (simp [IntKind.wrap, IntKind.signed, IntKind.bits]; omega)
def RBytP (w : World) (h : Hd) (e : Ending) (w' : World) : Prop := ∃ g c, e = .returned (.slice (some ⟨g, 0, none⟩) h.n c) ∧ w.heap.size ≤ g ∧ Own8 w' g h.n c (lfZ h) ∧ Below w.heap.size w w'
set_option maxHeartbeats 16000000 in
set_option maxRecDepth 100000 in
theorem bytesR_any (r : Rh) (w : World) (hr : RhOk w r) (hl : 0 ≤ r.x.1.li ∧ r.x.1.li ≤ 65535) : Calls Tryz.prog 38 #[.agg (rhC r)] w (RBytP w r.x.1) := by
  have HR := Lib.hid hr
  have HL := Lib.hid hl
  obtain ⟨li, hli⟩ : ∃ l, r.x.1.li = l := ⟨_, rfl⟩
  obtain ⟨nn, hnn⟩ : ∃ l, r.x.1.n = l := ⟨_, rfl⟩
  have HLI := Lib.hid hli
  have HNN := Lib.hid hnn
  have HLL : Hid (0 ≤ li ∧ li ≤ 65535) := Lib.hid (by rw [← hli]; exact hl)
  have HN : Hid (27 ≤ nn ∧ nn ≤ 1492) := Lib.hid (by rw [← hnn]; exact hr.2.2.1)
  have hlt0 := hr.lt
  clear hr hl hli hnn
  go_enter Tryz.func38, Tryz.ntmps38
  have HB := Lib.hid (Below.refl w.heap.size w)
  obtain ⟨N1, hN1⟩ : ∃ N, w.heap.size = N := ⟨_, rfl⟩
  have HN1 := Lib.hid hN1
  clear hN1
  go_wp2_with (refine wpList_box (op := ⟨some 1, _, _, _, _, _⟩) rfl 95 (.tmp 0) rfl (rhC r) rfl N1 HN1.out ?_; intro w1 k1 b1 s1; refine Hid.out ?_)
  refine Lib.hid ?_
  have K1 := Lib.hid k1
  clear k1
  have le_HB_N1 : w.heap.size ≤ N1 := by rw [← HN1.out]; exact HB.out.size
  replace HB := Lib.hid (HB.out.trans (b1.mono HB.out.size))
  clear b1 HN1
  have c11 : w1.cell? ⟨N1, 11, none⟩ = some (.slice (some ⟨r.g, 0, none⟩) nn r.c) := (K1.out.cell 11).trans (by rw [← HNN.out]; rfl)
  go_wp2_with fail
  clear c11
  refine (twin_any (some ⟨r.g, 0, none⟩) nn r.c r.x.1.z w1 (by rw [← HNN.out]; exact Own8.rd (HR.out.below HB.out).1) (fun e => by cases e) (by have := HN.out; omega)).mono ?_
  rintro e w20 ⟨g2, c2, rfl, hg2, ho2, b1⟩
  have hG2 : w.heap.size ≤ g2 := Nat.le_trans HB.out.size hg2
  have ne_K1 : N1 < g2 := Nat.lt_of_lt_of_le K1.out.lt hg2
  replace K1 := Lib.hid (K1.out.below b1 K1.out.lt)
  replace HB := Lib.hid (HB.out.trans (b1.mono HB.out.size))
  obtain ⟨cur, hcur, hsz, hfin⟩ := own_two ho2 (by have := HN.out; omega)
  have KC := Lib.hid hcur
  have HFIN := Lib.hid hfin
  have HNC := Lib.hid (And.intro ho2.caps.1 ho2.caps.2)
  clear ho2 hg2 b1 hcur hfin
  have h10 : (10 : Int) < (nn : Int) := by have := HN.out; omega
  have h11 : (11 : Int) < (nn : Int) := by have := HN.out; omega
  go_wp2_with fail
  have KCd : Hid (Blk 5 w20.drew g2 cur) := Lib.hid KC.out
  clear KC
  refine wp_region_held_drew (S := fun w' => Blk 95 w' N1 (rhC r) ∧ Below w.heap.size w w') (by kernel_rfl) ⟨K1.out, HB.out.drew⟩ (fun hS => ?_)
  generalize hW31 : w20.drew = W31 at hS KCd ⊢
  clear hW31
  clear K1
  clear HB
  have KC := KCd
  clear KCd
  have K1 := Lib.hid hS.1
  have HB := Lib.hid hS.2
  refine tY (i := 0) (some 7) (v := .slice (some ⟨g2, 0, none⟩) nn c2) rfl rfl (fun w' hS => by clear hS; go_simp) hS ?_
  simp only [Act.put, pA, pB, pC]
  refine tY (i := 1) (some 8) (v := .slice (some ⟨g2, 0, none⟩) nn c2) rfl rfl (fun w' hS => by clear hS; go_simp) hS ?_
  simp only [Act.put, pA, pB, pC]
  refine tY (i := 2) (some 9) (v := .pointer (some ⟨N1, 10, none⟩)) rfl rfl (fun w' hS => by clear hS; go_simp) hS ?_
  simp only [Act.put, pA, pB, pC]
  refine tY (i := 3) (some 10) (v := .int .i64 li) rfl rfl (fun w' hS => by (have c9 : w'.cell? ⟨N1, 10, none⟩ = some (.int .i64 li) := (hS.1.cell 10).trans (by rw [← HLI.out]; rfl); clear hS; go_simp)) hS ?_
  simp only [Act.put, pA, pB, pC]
  refine tY (i := 4) (some 11) (v := .int .i64 (li / 256)) rfl rfl (fun w' hS => by exact quo_run _ _ _ rfl _ HLL.out rfl rfl _) hS ?_
  simp only [Act.put, pA, pB, pC]
  refine tY (i := 5) (some 12) (v := .int .u8 (li / 256 % 256)) rfl rfl (fun w' hS => by exact cu8_run _ _ _ rfl _ (by have := HLL.out; omega) rfl _) hS ?_
  simp only [Act.put, pA, pB, pC]
  refine tY (i := 6) (some 13) (v := .pointer (some ⟨N1, 10, none⟩)) rfl rfl (fun w' hS => by clear hS; go_simp) hS ?_
  simp only [Act.put, pA, pB, pC]
  refine tY (i := 7) (some 14) (v := .int .i64 li) rfl rfl (fun w' hS => by (have c9 : w'.cell? ⟨N1, 10, none⟩ = some (.int .i64 li) := (hS.1.cell 10).trans (by rw [← HLI.out]; rfl); clear hS; go_simp)) hS ?_
  simp only [Act.put, pA, pB, pC]
  refine tY (i := 8) (some 15) (v := .int .i64 (li % 256)) rfl rfl (fun w' hS => by exact rem_run _ _ _ rfl _ HLL.out rfl rfl _) hS ?_
  simp only [Act.put, pA, pB, pC]
  refine tY (i := 9) (some 16) (v := .int .u8 (li % 256 % 256)) rfl rfl (fun w' hS => by exact cu8_run _ _ _ rfl _ (by have := HLL.out; omega) rfl _) hS ?_
  simp only [Act.put, pA, pB, pC]
  refine tY (i := 10) (some 17) (v := .pointer (some ⟨g2, 10, none⟩)) rfl rfl (fun w' hS => by clear hS; go_simp) hS ?_
  simp only [Act.put, pA, pB, pC]
  refine takeSt (i := 11) 5 (.tmp 17) (.tmp 12) g2 10 (.int .u8 (li / 256 % 256)) #[.int .u8 (li / 256 % 256)] (putMany cur 10 [.int .u8 (li / 256 % 256)]) rfl rfl (by kernel_rfl) (by rfl) rfl rfl rfl rfl info_u81 (one_u8v _) KC.out (by simp; omega) rfl ?_
  intro p1 q1
  refine ⟨⟨K1.out.far q1 (by omega), HB.out.trans (q1.2.1 _ (by omega))⟩, ?_⟩
  simp only [Act.put, pA, pB, pC]
  replace KC : Hid (Blk 5 p1 g2 (putMany cur 10 [.int .u8 (li / 256 % 256)])) := Lib.hid q1.1
  replace K1 := Lib.hid (K1.out.far q1 (by omega))
  replace HB := Lib.hid (HB.out.trans (q1.2.1 _ (by omega)))
  clear q1 hS
  have hS := (And.intro K1.out HB.out)
  refine tY (i := 12) (some 18) (v := .pointer (some ⟨g2, 11, none⟩)) rfl rfl (fun w' hS => by clear hS; go_simp) hS ?_
  simp only [Act.put, pA, pB, pC]
  refine takeSt (i := 13) 5 (.tmp 18) (.tmp 16) g2 11 (.int .u8 (li % 256 % 256)) #[.int .u8 (li % 256 % 256)] (putMany (putMany cur 10 [.int .u8 (li / 256 % 256)]) 11 [.int .u8 (li % 256 % 256)]) rfl rfl (by kernel_rfl) (by rfl) rfl rfl rfl rfl info_u81 (one_u8v _) KC.out (by simp [putMany]; omega) rfl ?_
  intro p2 q1
  refine ⟨⟨K1.out.far q1 (by omega), HB.out.trans (q1.2.1 _ (by omega))⟩, ?_⟩
  simp only [Act.put, pA, pB, pC]
  replace KC : Hid (Blk 5 p2 g2 (putMany (putMany cur 10 [.int .u8 (li / 256 % 256)]) 11 [.int .u8 (li % 256 % 256)])) := Lib.hid q1.1
  replace K1 := Lib.hid (K1.out.far q1 (by omega))
  replace HB := Lib.hid (HB.out.trans (q1.2.1 _ (by omega)))
  clear q1 hS
  have hS := (And.intro K1.out HB.out)
  clear hS
  refine wpAnyH_done (by kernel_rfl) ?_ _
  go_wp2_with fail
  go_ret
  have hlf : ∀ W, Own8 W g2 nn c2 (fun j => if j = 10 then li / 256 % 256 else if j = 11 then li % 256 % 256 else r.x.1.z j) → Own8 W g2 r.x.1.n c2 (lfZ r.x.1) := fun W h => by
    have e : (fun j => if j = 10 then li / 256 % 256 else if j = 11 then li % 256 % 256 else r.x.1.z j) = lfZ r.x.1 := by
      funext j; unfold lfZ; rw [HLI.out]; have e2 : li % 256 % 256 = li % 256 := by omega
      rw [e2]
    rw [← e, HNN.out]; exact h
  exact ⟨g2, c2, by rw [HNN.out]; rfl, hG2, hlf _ (HFIN.out p2 _ _ (by have := HLL.out; omega) (by have := HLL.out; omega) KC.out), HB.out⟩
end Go.Proofs.YtkiaijmhoikdiaaGreat

/- The law's looks: the store looks as the document's does. Each theorem states its conditions. -/
namespace Go.Proofs.YtkiaijmhoikdiaaGreat
open Go.RowKit Go.MapKept
set_option linter.unusedVariables false
set_option linter.unusedSimpArgs false

def GotB (w0 w : World) (v : Value) : Prop := ∃ A n c, v = .slice A n c ∧ n ≤ 1492 ∧ ((A = none ∧ n = 0) ∨ ∃ g z, A = some ⟨g, 0, none⟩ ∧ w0.heap.size ≤ g ∧ Own8 w g n c z)
theorem GotB.below {w0 w w' : World} {v : Value} (h : GotB w0 w v) (hb : Below w.heap.size w w') : GotB w0 w' v := by
  obtain ⟨A, n, c, e, hn, h | ⟨g, z, h1, h2, h3⟩⟩ := h
  · exact ⟨A, n, c, e, hn, .inl h⟩
  · exact ⟨A, n, c, e, hn, .inr ⟨g, z, h1, h2, Own8.below h3 hb (Own8.lt h3)⟩⟩
def GFP (w0 w : World) (H : Nat → Option Hd) (R : List Rh) (n : Nat) (v : Value) (E : En) (q i : Int) : Prop :=
  (H n = none ∧ v = .slice none 0 0 ∧ E = en0 ∧ q = 6 ∧ i = -1) ∨ ∃ (h : Hd) (g c k : Nat) (r : Rh) (nn : Nat), H n = some h ∧ h.n = nn ∧ v = .slice (some ⟨g, 0, none⟩) nn c ∧ E = hdE h ∧ q = 0 ∧ i = (k : Int) ∧ R[k]? = some r ∧ r.x.1 = h ∧ w0.heap.size ≤ g ∧ Own8 w g nn c (lfZ h)
def RdX2 (w : World) (A : Option Addr) (m : Nat) (C : Nat → Array Value) : Prop := RdR w A m 11 C
theorem RdX2.below {w w' : World} {A : Option Addr} {m : Nat} {C : Nat → Array Value} (h : RdX2 w A m C) (hb : Below w.heap.size w w') : RdX2 w' A m C := by
  rcases h with h | ⟨b, off, e, hr⟩
  · exact .inl h
  · exact .inr ⟨b, off, e, hr.below hb hr.1⟩
theorem self_en0 : SelfEq 10000 58 (.agg (enC en0)) := by
  have h := self_hd ⟨0, 0, 0, 0, 0, fun _ => 0, 0⟩
  exact h
theorem build_en37 (o : Oper) (e : Operand → Value) (ho : o.op = .build 58 #[]) (W : World) : (execOp e o).run Tryz.prog W = .ok (.value (.agg (enC en0))) W := build_en0 o e ho W
theorem own8_typ {w : World} {g n c : Nat} {z : Nat → Int} {C : Array Value} {t : TypeId} (h : Own8 w g n c z) (hs : Blk t w g C) (ht : 5 ≠ t) : False := by
  obtain ⟨⟨cur, h1, _⟩, _⟩ := h
  exact blk_two (show Blk 5 w g cur from h1) hs ht rfl
set_option maxHeartbeats 80000000 in
set_option maxRecDepth 100000 in
theorem looks_any (B s m sr k n nt : Nat) (H : Nat → Option Hd) (R : List Rh) (rr : Bool) (w : World) (h2 : TwoAt w B s m sr H k R rr) (hl : LifeH H) (hn : IdOk n) (ht : IdOk nt) : Calls Tryz.prog 13 #[.pointer (some ⟨s, 0, none⟩), .pointer (some ⟨sr, 0, none⟩), .agg (iC n), .agg (iC nt)] w fun e w' => e = .returned (.bool true) ∧ Below w.heap.size w w' := by
  have HT := Lib.hid h2
  have HL := Lib.hid hl
  have HN := Lib.hid hn
  have HNT := Lib.hid ht
  have hlen : k = R.length := two_len h2.st h2.same
  have HLEN := Lib.hid hlen
  have HR6 : Hid (R.length ≤ 600) := Lib.hid (by have := h2.k5; omega)
  have HK5 := Lib.hid h2.k5
  clear h2 hl hn ht hlen
  go_enter Tryz.func13, Tryz.ntmps13
  have HB := Lib.hid (Below.refl w.heap.size w)
  obtain ⟨N1, hN1⟩ : ∃ N, w.heap.size = N := ⟨_, rfl⟩
  have HN1 := Lib.hid hN1
  clear hN1
  go_wp2_with (refine wpList_box (op := ⟨some 6, _, _, _, _, _⟩) rfl 35 (.tmp 2) rfl (iC n) rfl N1 HN1.out ?_; intro w1 k1 b1 s1; refine Hid.out ?_)
  refine Lib.hid ?_
  have K6 := Lib.hid k1
  clear k1
  have le_HB_N1 : w.heap.size ≤ N1 := by rw [← HN1.out]; exact HB.out.size
  replace HB := Lib.hid (HB.out.trans (b1.mono HB.out.size))
  clear b1 HN1
  obtain ⟨N2, hN2⟩ : ∃ N, w1.heap.size = N := ⟨_, rfl⟩
  have HN2 := Lib.hid hN2
  clear hN2
  go_wp2_with (refine wpList_box (op := ⟨some 7, _, _, _, _, _⟩) rfl 35 (.tmp 3) rfl (iC nt) rfl N2 HN2.out ?_; intro w2 k1 b1 s1; refine Hid.out ?_)
  refine Lib.hid ?_
  have K7 := Lib.hid k1
  clear k1
  have lt_N1_N2 : N1 < N2 := by rw [← HN2.out]; exact K6.out.lt
  have le_HB_N2 : w.heap.size ≤ N2 := by rw [← HN2.out]; exact HB.out.size
  replace K6 := Lib.hid (K6.out.below b1 K6.out.lt)
  replace HB := Lib.hid (HB.out.trans (b1.mono HB.out.size))
  clear b1 HN2
  go_wp2_with (refine wpList_ld (op := ⟨some 16, _, _, _, _, _⟩) (by rfl) 35 (.tmp 6) rfl N1 0 rfl (iC n) _ K6.out.all Tryz.underlying35 rfl info_iC ?_; refine Hid.out ?_)
  refine Lib.hid ?_
  go_wp2_with fail
  refine (stGet_any B s m k n H rr w2 (HT.out.st.below HB.out) HN.out (fun h e => (HL.out n h e).1)).mono ?_
  rintro e w3 ⟨b1, hc⟩
  have hx : ∃ v E q, e = .returned (.tuple #[v, .agg (enC E), .int .i64 q]) ∧ ((H n = none ∧ v = .slice none 0 0 ∧ E = en0 ∧ q = 6) ∨ ∃ h g c, H n = some h ∧ v = .slice (some ⟨g, 0, none⟩) h.n c ∧ E = hdE h ∧ q = 0 ∧ w.heap.size ≤ g ∧ Own8 w3 g h.n c (lfZ h)) := by
    rcases hc with ⟨a1, a2⟩ | ⟨h, g, c, a1, a2, a3, a4⟩
    · exact ⟨_, _, _, a2, .inl ⟨a1, rfl, rfl, rfl⟩⟩
    · exact ⟨_, _, _, a2, .inr ⟨h, g, c, a1, rfl, rfl, rfl, Nat.le_trans HB.out.size a3, a4⟩⟩
  obtain ⟨v9, E, q11, rfl, hg9⟩ := hx
  replace K6 := Lib.hid (K6.out.below b1 K6.out.lt)
  replace K7 := Lib.hid (K7.out.below b1 K7.out.lt)
  replace HB := Lib.hid (HB.out.trans (b1.mono HB.out.size))
  have HG := Lib.hid hg9
  clear b1 hc hg9
  obtain ⟨N10, hN10⟩ : ∃ N, w3.heap.size = N := ⟨_, rfl⟩
  have HN10 := Lib.hid hN10
  clear hN10
  go_wp2_with (refine wpList_new (op := ⟨some 10, _, _, _, _, _⟩) rfl 58 rfl (enC en0) zero_en N10 HN10.out ?_; intro w4 k1 b1 s9; refine Hid.out ?_)
  refine Lib.hid ?_
  have K10 := Lib.hid k1
  have HB1 := Lib.hid b1
  clear k1 b1 s9
  go_wp2_with (refine wpList_st rfl 58 (.tmp 10) (.tmp 19) rfl N10 0 rfl (.agg (enC E)) (enC E) rfl rfl info_enP (enC_all _) K10.out (Nat.le_of_ble_eq_true rfl) (C' := enC E) (en_over _ _) ?_; intro w5 q1; refine Hid.out ?_)
  refine Lib.hid ?_
  have b1 : Below w3.heap.size w3 w5 := HB1.out.trans (q1.2.1 _ (by rw [HN10.out]; exact Nat.le_refl _))
  replace K6 := Lib.hid (K6.out.below b1 K6.out.lt)
  replace K7 := Lib.hid (K7.out.below b1 K7.out.lt)
  replace HB := Lib.hid (HB.out.trans (b1.mono HB.out.size))
  have K10n : Hid (Blk 58 w5 N10 (enC E)) := Lib.hid q1.1
  clear K10
  have K10 := K10n
  have HB35 := Lib.hid b1
  clear K10n q1 b1 HB1 HN10
  go_wp2_with (refine wpList_ld (op := ⟨some 22, _, _, _, _, _⟩) (by rfl) 35 (.tmp 6) rfl N1 0 rfl (iC n) _ K6.out.all Tryz.underlying35 rfl info_iC ?_; refine Hid.out ?_)
  refine Lib.hid ?_
  go_wp2_with fail
  refine (findR_any B sr n R rr w5 (HT.out.rf.below HB.out) HN.out).mono ?_
  rintro e w6 ⟨i12, rfl, b1, hfi⟩
  have HGF : Hid (GFP w w6 H R n v9 E q11 i12) := Lib.hid (by
    have hb36 : Below w3.heap.size w3 w6 := HB35.out.trans (b1.mono HB35.out.size)
    rcases HG.out with ⟨a1, a2, a3, a4⟩ | ⟨h, g, c, a1, a2, a3, a4, a5, a6⟩
    · rcases hfi with ⟨f1, _⟩ | ⟨kk, r, f1, f2, f3⟩
      · exact .inl ⟨a1, a2, a3, a4, f1⟩
      · have := (HT.out.same.2 n r.x.1).2 ⟨r, List.mem_of_getElem? f2, rfl, f3⟩
        rw [a1] at this; cases this
    · rcases hfi with ⟨f1, f2⟩ | ⟨kk, r, f1, f2, f3⟩
      · obtain ⟨r, hr, e1, e2⟩ := (HT.out.same.2 n h).1 a1
        obtain ⟨jj, hj⟩ := List.getElem?_of_mem hr
        exact absurd (by rw [e1]; exact e2) (f2 jj r hj)
      · have e9 := (HT.out.same.2 n r.x.1).2 ⟨r, List.mem_of_getElem? f2, rfl, f3⟩
        rw [a1] at e9
        exact .inr ⟨h, g, c, kk, r, _, a1, rfl, a2, a3, a4, f1, f2, (Option.some.inj e9).symm, a5, Own8.below a6 hb36 (Own8.lt a6)⟩)
  replace K6 := Lib.hid (K6.out.below b1 K6.out.lt)
  replace K7 := Lib.hid (K7.out.below b1 K7.out.lt)
  replace K10 := Lib.hid (K10.out.below b1 K10.out.lt)
  replace HB := Lib.hid (HB.out.trans (b1.mono HB.out.size))
  clear b1 hfi HG HB35
  obtain ⟨A, cR, hsR, hc1, hc2, hrdR, _⟩ := (HT.out.rf.below HB.out).open
  have KR := Lib.hid hsR
  have HRD := Lib.hid hrdR
  obtain ⟨lR, hlR⟩ : ∃ l, R.length = l := ⟨_, rfl⟩
  have HLR := Lib.hid hlR
  rw [hlR] at HRD KR HLEN
  have hlR6 : lR ≤ 600 := by have := HR6.out; omega
  have hlRI : (lR : Int) ≤ 9223372036854775807 := by omega
  clear hsR hrdR hlR hc1 hc2
  have h0 : Hid (w6.heap.size = w6.heap.size) := Lib.hid rfl
  clear h0
  go_upto_region 3 with fail
  go_cut [70] (fun s70 wc => s70 = .bool false ∧ Hid (GotB w wc v9) ∧ Hid (Blk 35 wc N1 (iC n)) ∧ Hid (Blk 35 wc N2 (iC nt)) ∧ Hid (Below w.heap.size w wc))
  case first =>
    rcases HGF.out with ⟨hH, rfl, rfl, rfl, rfl⟩ | ⟨h, gb, cb, kk, r, nn, hH, hnn, rfl, rfl, rfl, rfl, hr, hrx, hgb, hO⟩
    · skip
      clear HGF
      refine wp_region_held_drew (S := fun w' => Blk 35 w' N1 (iC n) ∧ Blk 35 w' N2 (iC nt) ∧ Blk 58 w' N10 (enC en0) ∧ Blk 29 w' sr (#[.slice A lR cR, .bool rr]) ∧ Below w.heap.size w w') (by kernel_rfl) ⟨K6.out, K7.out, K10.out, KR.out, HB.out.drew⟩ (fun hS => ?_)
      generalize hW61 : w6.drew = W61 at hS  ⊢
      clear hW61
      clear K6
      clear K7
      clear K10
      clear KR
      clear HB
      have K6 := Lib.hid hS.1
      have K7 := Lib.hid hS.2.1
      have K10 := Lib.hid hS.2.2.1
      have KR := Lib.hid hS.2.2.2.1
      have HB := Lib.hid hS.2.2.2.2
      refine tY (i := 0) (some 24) (v := .int .i64 6) rfl rfl (fun w' hS => by clear hS; go_simp) hS ?_
      simp only [Act.put, pA, pB, pC]
      refine tY (i := 1) (some 25) (v := .bool false) rfl rfl (fun w' hS => by clear hS; go_simp) hS ?_
      simp only [Act.put, pA, pB, pC]
      refine tY (i := 2) (some 26) (v := .int .i64 (-1)) rfl rfl (fun w' hS => by clear hS; go_simp) hS ?_
      simp only [Act.put, pA, pB, pC]
      refine tY (i := 3) (some 27) (v := .bool false) rfl rfl (fun w' hS => by clear hS; go_simp) hS ?_
      simp only [Act.put, pA, pB, pC]
      refine tY (i := 4) (some 28) (v := .bool false) rfl rfl (fun w' hS => by clear hS; go_simp) hS ?_
      simp only [Act.put, pA, pB, pC]
      refine tY (i := 5) (some 29) (v := .bool false) rfl rfl (fun w' hS => by clear hS; go_simp) hS ?_
      simp only [Act.put, pA, pB, pC]
      refine tY (i := 6) (some 30) (v := .int .i64 (-1)) rfl rfl (fun w' hS => by clear hS; go_simp) hS ?_
      simp only [Act.put, pA, pB, pC]
      refine tY (i := 7) (some 31) (v := .bool true) rfl rfl (fun w' hS => by clear hS; go_simp) hS ?_
      simp only [Act.put, pA, pB, pC]
      refine tY (i := 8) (some 32) (v := .bool true) rfl rfl (fun w' hS => by clear hS; go_simp) hS ?_
      simp only [Act.put, pA, pB, pC]
      refine tY (i := 9) (some 33) (v := .int .i64 6) rfl rfl (fun w' hS => by clear hS; go_simp) hS ?_
      simp only [Act.put, pA, pB, pC]
      refine tY (i := 10) (some 34) (v := .bool false) rfl rfl (fun w' hS => by clear hS; go_simp) hS ?_
      simp only [Act.put, pA, pB, pC]
      refine tY (i := 11) (some 35) (v := .bool false) rfl rfl (fun w' hS => by clear hS; go_simp) hS ?_
      simp only [Act.put, pA, pB, pC]
      refine tL (i := 12) (some 36) 58 (.tmp 10) N10 0 (enC en0) _ rfl rfl rfl rfl (fun w' hS => hS.2.2.1.all) Tryz.underlying58 rfl info_enP hS ?_
      simp only [Act.put, pA, pB, pC]
      refine tY (i := 13) (some 37) (v := .agg (enC en0)) rfl rfl (fun w' hS => by exact build_en37 _ _ rfl _) hS ?_
      simp only [Act.put, pA, pB, pC]
      refine tY (i := 14) (some 38) (v := .bool false) rfl rfl (fun w' hS => by exact neq_self _ _ _ _ _ _ rfl rfl (by kernel_rfl) _ self_en0 rfl rfl _) hS ?_
      simp only [Act.put, pA, pB, pC]
      refine tY (i := 15) (some 39) (v := .bool false) rfl rfl (fun w' hS => by clear hS; go_simp) hS ?_
      simp only [Act.put, pA, pB, pC]
      refine tY (i := 16) (some 40) (v := .bool false) rfl rfl (fun w' hS => by clear hS; go_simp) hS ?_
      simp only [Act.put, pA, pB, pC]
      refine tY (i := 17) (some 41) (v := .bool false) rfl rfl (fun w' hS => by clear hS; go_simp) hS ?_
      simp only [Act.put, pA, pB, pC]
      refine tY (i := 18) (some 42) (v := .bool false) rfl rfl (fun w' hS => by clear hS; go_simp) hS ?_
      simp only [Act.put, pA, pB, pC]
      refine tY (i := 19) (some 43) (v := .int .i64 (-1)) rfl rfl (fun w' hS => by clear hS; go_simp) hS ?_
      simp only [Act.put, pA, pB, pC]
      refine tY (i := 20) (some 44) (v := .bool false) rfl rfl (fun w' hS => by clear hS; go_simp) hS ?_
      simp only [Act.put, pA, pB, pC]
      refine tY (i := 21) (some 45) (v := .bool false) rfl rfl (fun w' hS => by clear hS; go_simp) hS ?_
      simp only [Act.put, pA, pB, pC]
      refine tN (i := 22) (some 46) rfl rfl hS ?_
      simp only [Act.put, pA, pB, pC]
      refine tN (i := 23) (some 47) rfl rfl hS ?_
      simp only [Act.put, pA, pB, pC]
      refine tN (i := 24) (some 48) rfl rfl hS ?_
      simp only [Act.put, pA, pB, pC]
      refine tN (i := 25) (some 49) rfl rfl hS ?_
      simp only [Act.put, pA, pB, pC]
      refine tN (i := 26) (some 50) rfl rfl hS ?_
      simp only [Act.put, pA, pB, pC]
      refine tN (i := 27) (some 51) rfl rfl hS ?_
      simp only [Act.put, pA, pB, pC]
      refine tN (i := 28) (some 52) rfl rfl hS ?_
      simp only [Act.put, pA, pB, pC]
      refine tN (i := 29) (some 53) rfl rfl hS ?_
      simp only [Act.put, pA, pB, pC]
      refine tN (i := 30) (some 54) rfl rfl hS ?_
      simp only [Act.put, pA, pB, pC]
      refine tN (i := 31) (some 55) rfl rfl hS ?_
      simp only [Act.put, pA, pB, pC]
      refine tN (i := 32) (some 56) rfl rfl hS ?_
      simp only [Act.put, pA, pB, pC]
      refine tN (i := 33) (some 57) rfl rfl hS ?_
      simp only [Act.put, pA, pB, pC]
      refine tN (i := 34) (some 58) rfl rfl hS ?_
      simp only [Act.put, pA, pB, pC]
      refine tN (i := 35) (some 59) rfl rfl hS ?_
      simp only [Act.put, pA, pB, pC]
      refine tN (i := 36) (some 60) rfl rfl hS ?_
      simp only [Act.put, pA, pB, pC]
      refine tN (i := 37) (some 61) rfl rfl hS ?_
      simp only [Act.put, pA, pB, pC]
      refine tN (i := 38) (some 62) rfl rfl hS ?_
      simp only [Act.put, pA, pB, pC]
      refine tN (i := 39) (some 63) rfl rfl hS ?_
      simp only [Act.put, pA, pB, pC]
      refine tN (i := 40) (some 64) rfl rfl hS ?_
      simp only [Act.put, pA, pB, pC]
      refine tN (i := 41) (some 65) rfl rfl hS ?_
      simp only [Act.put, pA, pB, pC]
      refine tN (i := 42) (some 66) rfl rfl hS ?_
      simp only [Act.put, pA, pB, pC]
      refine tN (i := 43) (some 67) rfl rfl hS ?_
      simp only [Act.put, pA, pB, pC]
      refine tN (i := 44) (some 68) rfl rfl hS ?_
      simp only [Act.put, pA, pB, pC]
      refine tY (i := 45) (some 69) (v := .bool false) rfl rfl (fun w' hS => by clear hS; go_simp) hS ?_
      simp only [Act.put, pA, pB, pC]
      refine tY (i := 46) (some 70) (v := .bool false) rfl rfl (fun w' hS => by clear hS; go_simp) hS ?_
      simp only [Act.put, pA, pB, pC]
      clear hS
      refine wpAnyH_done (by kernel_rfl) ?_ _
      go_wp2_with fail
      go_meet
      case rel => exact ⟨rfl, Lib.hid ⟨none, 0, 0, rfl, by omega, .inl ⟨rfl, rfl⟩⟩, K6, K7, HB⟩
    · have HH := Lib.hid hH
      have HR := Lib.hid hr
      have HRX := Lib.hid hrx
      have HGB := Lib.hid hgb
      have HO := Lib.hid hO
      have hkl : kk < lR := by rw [← HLR.out]; exact (List.getElem?_eq_some_iff.1 hr).1
      have hkI : (kk : Int) < (lR : Int) := by omega
      have hk0 : ¬ (kk : Int) < 0 := by omega
      have hk0b : (0 : Int) ≤ (kk : Int) := by omega
      obtain ⟨bR, oR, rfl, hrr⟩ := HRD.out.row (by omega)
      have HRG : Hid (∀ W, Below w6.heap.size w6 W → W.rangeAt bR (oR + kk * 13) (rhC r).toList) := Lib.hid (fun W hb => by have h9 := rangeAt_below (hrr.2 kk hkl) hb hrr.1; rw [rhA_at R kk r HR.out] at h9; exact h9)
      have hok := (HT.out.rf.ok r (List.mem_of_getElem? hr)).1.below HB.out
      have HOK := Lib.hid hok
      have HLI : Hid (0 ≤ r.x.1.li ∧ r.x.1.li ≤ 65535) := Lib.hid (by rw [hrx]; exact (HL.out n h hH).1)
      have HNN := Lib.hid hnn
      have hn14 : nn ≤ 1492 := by rw [← hnn, ← hrx]; exact hok.2.2.1.2
      have HN14 := Lib.hid hn14
      clear hH hr hrx hgb hO hrr hok HGF hnn hn14
      have HBr : Hid (Below w6.heap.size w6 w6) := Lib.hid (Below.refl _ _)
      have HOq := Lib.hid (HO.out.below ((Below.refl w6.heap.size w6).drew) (Own8.lt HO.out))
      clear HO
      have HOKq := Lib.hid (HOK.out.below ((Below.refl w6.heap.size w6).drew))
      clear HOK
      refine wp_region_held_drew (S := fun w' => Blk 35 w' N1 (iC n) ∧ Blk 35 w' N2 (iC nt) ∧ Blk 58 w' N10 (enC (hdE h)) ∧ Blk 29 w' sr (#[.slice (some ⟨bR, oR, none⟩) lR cR, .bool rr]) ∧ Below w.heap.size w w' ∧ Below w6.heap.size w6 w') (by kernel_rfl) ⟨K6.out, K7.out, K10.out, KR.out, HB.out.drew, HBr.out.drew⟩ (fun hS => ?_)
      generalize hW61 : w6.drew = W61 at hS HOq HOKq ⊢
      clear hW61
      clear K6
      clear K7
      clear K10
      clear KR
      clear HB
      clear HBr
      have HO := HOq
      clear HOq
      have HOK := HOKq
      clear HOKq
      have K6 := Lib.hid hS.1
      have K7 := Lib.hid hS.2.1
      have K10 := Lib.hid hS.2.2.1
      have KR := Lib.hid hS.2.2.2.1
      have HB := Lib.hid hS.2.2.2.2.1
      have HBr := Lib.hid hS.2.2.2.2.2
      refine tY (i := 0) (some 24) (v := .int .i64 0) rfl rfl (fun w' hS => by clear hS; go_simp) hS ?_
      simp only [Act.put, pA, pB, pC]
      refine tY (i := 1) (some 25) (v := .bool true) rfl rfl (fun w' hS => by clear hS; go_simp) hS ?_
      simp only [Act.put, pA, pB, pC]
      refine tY (i := 2) (some 26) (v := .int .i64 (kk : Int)) rfl rfl (fun w' hS => by clear hS; go_simp) hS ?_
      simp only [Act.put, pA, pB, pC]
      refine tY (i := 3) (some 27) (v := .bool true) rfl rfl (fun w' hS => by clear hS; go_simp) hS ?_
      simp only [Act.put, pA, pB, pC]
      refine tY (i := 4) (some 28) (v := .bool false) rfl rfl (fun w' hS => by clear hS; go_simp) hS ?_
      simp only [Act.put, pA, pB, pC]
      refine tY (i := 5) (some 29) (v := .bool false) rfl rfl (fun w' hS => by clear hS; go_simp) hS ?_
      simp only [Act.put, pA, pB, pC]
      refine tY (i := 6) (some 30) (v := .int .i64 (kk : Int)) rfl rfl (fun w' hS => by clear hS; go_simp) hS ?_
      simp only [Act.put, pA, pB, pC]
      refine tY (i := 7) (some 31) (v := .bool false) rfl rfl (fun w' hS => by clear hS; go_simp) hS ?_
      simp only [Act.put, pA, pB, pC]
      refine tY (i := 8) (some 32) (v := .bool false) rfl rfl (fun w' hS => by clear hS; go_simp) hS ?_
      simp only [Act.put, pA, pB, pC]
      refine tN (i := 9) (some 33) rfl rfl hS ?_
      simp only [Act.put, pA, pB, pC]
      refine tN (i := 10) (some 34) rfl rfl hS ?_
      simp only [Act.put, pA, pB, pC]
      refine tN (i := 11) (some 35) rfl rfl hS ?_
      simp only [Act.put, pA, pB, pC]
      refine tN (i := 12) (some 36) rfl rfl hS ?_
      simp only [Act.put, pA, pB, pC]
      refine tN (i := 13) (some 37) rfl rfl hS ?_
      simp only [Act.put, pA, pB, pC]
      refine tN (i := 14) (some 38) rfl rfl hS ?_
      simp only [Act.put, pA, pB, pC]
      refine tN (i := 15) (some 39) rfl rfl hS ?_
      simp only [Act.put, pA, pB, pC]
      refine tY (i := 16) (some 40) (v := .bool false) rfl rfl (fun w' hS => by clear hS; go_simp) hS ?_
      simp only [Act.put, pA, pB, pC]
      refine tY (i := 17) (some 41) (v := .bool false) rfl rfl (fun w' hS => by clear hS; go_simp) hS ?_
      simp only [Act.put, pA, pB, pC]
      refine tY (i := 18) (some 42) (v := .bool false) rfl rfl (fun w' hS => by clear hS; go_simp) hS ?_
      simp only [Act.put, pA, pB, pC]
      refine tY (i := 19) (some 43) (v := .int .i64 (kk : Int)) rfl rfl (fun w' hS => by clear hS; go_simp) hS ?_
      simp only [Act.put, pA, pB, pC]
      refine tY (i := 20) (some 44) (v := .bool true) rfl rfl (fun w' hS => by clear hS; go_simp) hS ?_
      simp only [Act.put, pA, pB, pC]
      refine tY (i := 21) (some 45) (v := .bool true) rfl rfl (fun w' hS => by clear hS; go_simp) hS ?_
      simp only [Act.put, pA, pB, pC]
      refine tY (i := 22) (some 46) (v := .slice (some ⟨gb, 0, none⟩) nn cb) rfl rfl (fun w' hS => by clear hS; go_simp) hS ?_
      simp only [Act.put, pA, pB, pC]
      refine tY (i := 23) (some 47) (v := .pointer (some ⟨sr, 0, none⟩)) rfl rfl (fun w' hS => by clear hS; go_simp) hS ?_
      simp only [Act.put, pA, pB, pC]
      refine tY (i := 24) (some 48) (v := .pointer (some ⟨sr, 0, none⟩)) rfl rfl (fun w' hS => by clear hS; go_simp) hS ?_
      simp only [Act.put, pA, pB, pC]
      refine tY (i := 25) (some 49) (v := .pointer (some ⟨sr, 0, none⟩)) rfl rfl (fun w' hS => by clear hS; go_simp) hS ?_
      simp only [Act.put, pA, pB, pC]
      refine tY (i := 26) (some 50) (v := .slice (some ⟨bR, oR, none⟩) lR cR) rfl rfl (fun w' hS => by (have c9 : w'.cell? ⟨sr, 0, none⟩ = some (.slice (some ⟨bR, oR, none⟩) lR cR) := (hS.2.2.2.1.cell 0).trans rfl; clear hS; go_simp)) hS ?_
      simp only [Act.put, pA, pB, pC]
      refine tY (i := 27) (some 51) (v := .int .i64 (kk : Int)) rfl rfl (fun w' hS => by clear hS; go_simp) hS ?_
      simp only [Act.put, pA, pB, pC]
      refine tY (i := 28) (some 52) (v := .pointer (some ⟨bR, oR + kk * 13, none⟩)) rfl rfl (fun w' hS => by clear hS; go_simp) hS ?_
      simp only [Act.put, pA, pB, pC]
      refine tL (i := 29) (some 53) 95 (.tmp 52) bR (oR + kk * 13) (rhC r) _ rfl rfl rfl rfl (fun w' hS => HRG.out w' hS.2.2.2.2.2) Tryz.underlying95 rfl info_rh hS ?_
      simp only [Act.put, pA, pB, pC]
      refine takeCE (i := 30) (some 54) 38 #[.agg (rhC r)] (R := fun v w' => ∃ g c, v = .slice (some ⟨g, 0, none⟩) r.x.1.n c ∧ Own8 w' g r.x.1.n c (lfZ r.x.1) ∧ Below W61.heap.size W61 w') rfl rfl (by kernel_rfl) (by rfl) (by go_simp) ((bytesR_any r W61 HOK.out HLI.out).mono (fun e w' ⟨g, c, a1, _, a3, a4⟩ => ⟨_, a1, g, c, rfl, a3, a4⟩)) (fun v w' h => by obtain ⟨g5, c5, rfl, hO5, b1⟩ := h; exact ⟨hS.1.below b1 hS.1.lt, hS.2.1.below b1 hS.2.1.lt, hS.2.2.1.below b1 hS.2.2.1.lt, hS.2.2.2.1.below b1 hS.2.2.2.1.lt, hS.2.2.2.2.1.trans (b1.mono hS.2.2.2.2.1.size), hS.2.2.2.2.2.trans (b1.mono hS.2.2.2.2.2.size)⟩) (fun v W62 h hS2 => ?_)
      obtain ⟨g5, c5, rfl, hO5, b1⟩ := h
      clear hS2
      simp only [Act.put, pA, pB, pC]
      replace HO := Lib.hid (HO.out.below b1 (Own8.lt HO.out))
      rw [HRX.out, HNN.out] at hO5
      have HO5 := Lib.hid hO5
      rw [HRX.out, HNN.out]
      clear hO5
      replace HOK := Lib.hid (HOK.out.below b1)
      replace K6 := Lib.hid (K6.out.below b1 K6.out.lt)
      replace K7 := Lib.hid (K7.out.below b1 K7.out.lt)
      replace K10 := Lib.hid (K10.out.below b1 K10.out.lt)
      replace KR := Lib.hid (KR.out.below b1 KR.out.lt)
      replace HB := Lib.hid (HB.out.trans (b1.mono HB.out.size))
      replace HBr := Lib.hid (HBr.out.trans (b1.mono HBr.out.size))
      clear b1 hS
      have hS := (And.intro K6.out (And.intro K7.out (And.intro K10.out (And.intro KR.out (And.intro HB.out HBr.out)))))
      refine takeCE (i := 31) (some 55) 37 #[.slice (some ⟨gb, 0, none⟩) nn cb, .slice (some ⟨g5, 0, none⟩) nn c5] (R := fun v w' => v = .bool true ∧ Below W62.heap.size W62 w') rfl rfl (by kernel_rfl) (by rfl) (by go_simp) ((same_yes (some ⟨gb, 0, none⟩) (some ⟨g5, 0, none⟩) nn cb c5 (lfZ h) (lfZ h) W62 (Own8.rd HO.out) (Own8.rd HO5.out) (fun j hj => rfl) (by have := HN14.out; omega)).mono (fun e w' ⟨a1, m9, a2⟩ => ⟨_, a1, rfl, by rw [a2]; exact ⟨rfl, rfl, rfl, Nat.le_refl _, fun _ _ => rfl⟩⟩)) (fun v w' h => by obtain ⟨rfl, b1⟩ := h; exact ⟨hS.1.below b1 hS.1.lt, hS.2.1.below b1 hS.2.1.lt, hS.2.2.1.below b1 hS.2.2.1.lt, hS.2.2.2.1.below b1 hS.2.2.2.1.lt, hS.2.2.2.2.1.trans (b1.mono hS.2.2.2.2.1.size), hS.2.2.2.2.2.trans (b1.mono hS.2.2.2.2.2.size)⟩) (fun v W63 h hS2 => ?_)
      obtain ⟨rfl, b1⟩ := h
      clear hS2
      simp only [Act.put, pA, pB, pC]
      replace HO := Lib.hid (HO.out.below b1 (Own8.lt HO.out))
      clear HO5 HOK
      replace K6 := Lib.hid (K6.out.below b1 K6.out.lt)
      replace K7 := Lib.hid (K7.out.below b1 K7.out.lt)
      replace K10 := Lib.hid (K10.out.below b1 K10.out.lt)
      replace KR := Lib.hid (KR.out.below b1 KR.out.lt)
      replace HB := Lib.hid (HB.out.trans (b1.mono HB.out.size))
      replace HBr := Lib.hid (HBr.out.trans (b1.mono HBr.out.size))
      clear b1 hS
      have hS := (And.intro K6.out (And.intro K7.out (And.intro K10.out (And.intro KR.out (And.intro HB.out HBr.out)))))
      refine tY (i := 32) (some 56) (v := .bool false) rfl rfl (fun w' hS => by clear hS; go_simp) hS ?_
      simp only [Act.put, pA, pB, pC]
      refine tY (i := 33) (some 57) (v := .bool false) rfl rfl (fun w' hS => by clear hS; go_simp) hS ?_
      simp only [Act.put, pA, pB, pC]
      refine tL (i := 34) (some 58) 58 (.tmp 10) N10 0 (enC (hdE h)) _ rfl rfl rfl rfl (fun w' hS => hS.2.2.1.all) Tryz.underlying58 rfl info_enP hS ?_
      simp only [Act.put, pA, pB, pC]
      refine tY (i := 35) (some 59) (v := .pointer (some ⟨sr, 0, none⟩)) rfl rfl (fun w' hS => by clear hS; go_simp) hS ?_
      simp only [Act.put, pA, pB, pC]
      refine tY (i := 36) (some 60) (v := .pointer (some ⟨sr, 0, none⟩)) rfl rfl (fun w' hS => by clear hS; go_simp) hS ?_
      simp only [Act.put, pA, pB, pC]
      refine tY (i := 37) (some 61) (v := .pointer (some ⟨sr, 0, none⟩)) rfl rfl (fun w' hS => by clear hS; go_simp) hS ?_
      simp only [Act.put, pA, pB, pC]
      refine tY (i := 38) (some 62) (v := .slice (some ⟨bR, oR, none⟩) lR cR) rfl rfl (fun w' hS => by (have c9 : w'.cell? ⟨sr, 0, none⟩ = some (.slice (some ⟨bR, oR, none⟩) lR cR) := (hS.2.2.2.1.cell 0).trans rfl; clear hS; go_simp)) hS ?_
      simp only [Act.put, pA, pB, pC]
      refine tY (i := 39) (some 63) (v := .int .i64 (kk : Int)) rfl rfl (fun w' hS => by clear hS; go_simp) hS ?_
      simp only [Act.put, pA, pB, pC]
      refine tY (i := 40) (some 64) (v := .pointer (some ⟨bR, oR + kk * 13, none⟩)) rfl rfl (fun w' hS => by clear hS; go_simp) hS ?_
      simp only [Act.put, pA, pB, pC]
      refine tL (i := 41) (some 65) 95 (.tmp 64) bR (oR + kk * 13) (rhC r) _ rfl rfl rfl rfl (fun w' hS => HRG.out w' hS.2.2.2.2.2) Tryz.underlying95 rfl info_rh hS ?_
      simp only [Act.put, pA, pB, pC]
      refine takeCE (i := 42) (some 66) 39 #[.agg (rhC r)] (R := fun v w' => v = .agg (enC (hdE r.x.1)) ∧ Below W63.heap.size W63 w') rfl rfl (by kernel_rfl) (by rfl) (by go_simp) ((entryR_any r W63).mono (fun e w' ⟨a1, a2⟩ => ⟨_, a1, rfl, a2⟩)) (fun v w' h => by obtain ⟨rfl, b1⟩ := h; exact ⟨hS.1.below b1 hS.1.lt, hS.2.1.below b1 hS.2.1.lt, hS.2.2.1.below b1 hS.2.2.1.lt, hS.2.2.2.1.below b1 hS.2.2.2.1.lt, hS.2.2.2.2.1.trans (b1.mono hS.2.2.2.2.1.size), hS.2.2.2.2.2.trans (b1.mono hS.2.2.2.2.2.size)⟩) (fun v W64 h hS2 => ?_)
      obtain ⟨rfl, b1⟩ := h
      clear hS2
      simp only [Act.put, pA, pB, pC]
      replace HO := Lib.hid (HO.out.below b1 (Own8.lt HO.out))
      rw [HRX.out]
      replace K6 := Lib.hid (K6.out.below b1 K6.out.lt)
      replace K7 := Lib.hid (K7.out.below b1 K7.out.lt)
      replace K10 := Lib.hid (K10.out.below b1 K10.out.lt)
      replace KR := Lib.hid (KR.out.below b1 KR.out.lt)
      replace HB := Lib.hid (HB.out.trans (b1.mono HB.out.size))
      replace HBr := Lib.hid (HBr.out.trans (b1.mono HBr.out.size))
      clear b1 hS
      have hS := (And.intro K6.out (And.intro K7.out (And.intro K10.out (And.intro KR.out (And.intro HB.out HBr.out)))))
      refine tY (i := 43) (some 67) (v := .bool false) rfl rfl (fun w' hS => by exact neq_self _ _ _ _ _ _ rfl rfl (by kernel_rfl) _ (self_hd h) rfl rfl _) hS ?_
      simp only [Act.put, pA, pB, pC]
      refine tY (i := 44) (some 68) (v := .bool false) rfl rfl (fun w' hS => by clear hS; go_simp) hS ?_
      simp only [Act.put, pA, pB, pC]
      refine tY (i := 45) (some 69) (v := .bool false) rfl rfl (fun w' hS => by clear hS; go_simp) hS ?_
      simp only [Act.put, pA, pB, pC]
      refine tY (i := 46) (some 70) (v := .bool false) rfl rfl (fun w' hS => by clear hS; go_simp) hS ?_
      simp only [Act.put, pA, pB, pC]
      clear hS
      refine wpAnyH_done (by kernel_rfl) ?_ _
      go_wp2_with fail
      go_meet
      case rel => exact ⟨rfl, Lib.hid ⟨some ⟨gb, 0, none⟩, nn, cb, rfl, HN14.out, .inr ⟨gb, lfZ h, rfl, HGB.out, HO.out⟩⟩, K6, K7, HB⟩
  case rest =>
    clear K6 K7 K10 HB KR HRD HGF
    obtain ⟨rfl, HGT, K6, K7, HB⟩ := hcut
    obtain ⟨A9, nn, cb, rfl, hn14, hd9⟩ := HGT.out
    have HD9 := Lib.hid hd9
    have hnI : (nn : Int) ≤ 9223372036854775807 := by omega
    clear hd9
    go_upto_block 0 with fail
    go_cut [] (fun wc => Hid (Blk 35 wc N1 (iC n)) ∧ Hid (Blk 35 wc N2 (iC nt)) ∧ Hid (Below w.heap.size w wc))
    case first =>
      obtain ⟨rfl, rfl⟩ | ⟨gb, z0, rfl, hgb, hO⟩ := HD9.out
      · go_wp2_with fail
        refine wp_loop_rounds 1 ?_
        rw [rounds_succ]
        go_wp2_with fail
        go_meet
        case rel => exact ⟨K6, K7, HB⟩
      · have HOz : Hid (∃ z', Own8 wc gb nn cb z') := Lib.hid ⟨z0, hO⟩
        have HGB := Lib.hid hgb
        have HN6 := Lib.hid (And.intro (Nat.lt_of_lt_of_le K6.out.lt (Nat.le_refl _)) K7.out.lt)
        have hneq : N1 ≠ gb ∧ N2 ≠ gb := ⟨fun e => by subst e; exact own8_typ hO K6.out (by decide), fun e => by subst e; exact own8_typ hO K7.out (by decide)⟩
        obtain ⟨ne6, ne7⟩ := hneq
        clear hO hgb HN6
        go_wp2_with fail
        go_loopw [73] (fun t wr => ∃ i : Nat, i ≤ nn ∧ t = .int .i64 i ∧ Hid (∃ z', Own8 wr gb nn cb z') ∧ Hid (Blk 35 wr N1 (iC n)) ∧ Hid (Blk 35 wr N2 (iC nt)) ∧ Hid (Below w.heap.size w wr)) (fun t _ => nn - (intOf t).toNat)
        case atStart => exact ⟨0, by omega, rfl, HOz, K6, K7, HB⟩
        case round =>
          clear HOz K6 K7 HB
          obtain ⟨i, hi, rfl, HOr, K6, K7, HB⟩ := hrel
          by_cases hlt : i < nn
          · have hki : (i : Int) < (nn : Int) := by omega
            obtain ⟨z9, hz9⟩ := HOr.out
            obtain ⟨cur, hcur, hsz, hfin⟩ := own_one hz9 hlt
            have KC := Lib.hid hcur
            have HFI := Lib.hid hfin
            have HSZ := Lib.hid hsz
            obtain ⟨x, hx⟩ : ∃ x, z9 i = x := ⟨_, rfl⟩
            have cx : wr.cell? ⟨gb, i, none⟩ = some (.int .u8 x) := by rw [← hx]; exact own8_at hz9 hlt
            have HXB : Hid (0 ≤ x ∧ x ≤ 255) := Lib.hid (by rw [← hx]; exact hz9.2 i)
            clear hz9 hcur hsz hfin hx
            go_wp2_with (refine wpList_st rfl 5 (.tmp 81) (.tmp 80) rfl gb i rfl (.int .u8 (Go.bits .xor .u8 x 1)) #[.int .u8 (Go.bits .xor .u8 x 1)] rfl rfl info_u81 (one_u8v _) KC.out (by have := HSZ.out; simp; omega) (C' := putMany cur i [.int .u8 (Go.bits .xor .u8 x 1)]) rfl ?_; intro w9 q1; refine Hid.out ?_)
            refine Lib.hid ?_
            have HO9 : Hid (∃ z', Own8 w9 gb nn cb z') := Lib.hid (HFI.out w9 _ (xor1P x HXB.out) q1.1)
            have K6n := Lib.hid (K6.out.far q1 ne6)
            have K7n := Lib.hid (K7.out.far q1 ne7)
            have HBn := Lib.hid (HB.out.trans (q1.2.1 _ HGB.out))
            clear q1 cx KC HFI HSZ HOr K6 K7 HB
            go_wp2_with fail
            go_roundw
            case rel => exact ⟨i + 1, by omega, by go_num, HO9, K6n, K7n, HBn⟩
            case measure => simp only [intOf]; omega
          · obtain rfl : nn = i := by omega
            go_wp2_with fail
            go_meet
            case rel => exact ⟨K6, K7, HB⟩
    case rest =>
      clear K6 K7 HB HGT HD9
      obtain ⟨K6, K7, HB⟩ := hcut
      have HSTd := Lib.hid (HT.out.st.below HB.out)
      have HRFd := Lib.hid (HT.out.rf.below HB.out)
      obtain ⟨A, cR, hsR, hc1, hc2, _, _⟩ := HRFd.out.open
      have KR := Lib.hid hsR
      rw [HLR.out] at KR
      clear hsR hc1 hc2
      go_wp2_with fail
      clear HSTd HRFd
      refine wp_region_held_drew (S := fun w' => Blk 35 w' N1 (iC n) ∧ Blk 35 w' N2 (iC nt) ∧ Blk 29 w' sr (#[.slice A lR cR, .bool rr]) ∧ Below w.heap.size w w') (by kernel_rfl) ⟨K6.out, K7.out, KR.out, HB.out.drew⟩ (fun hS => ?_)
      generalize hW91 : wc.drew = W91 at hS  ⊢
      clear hW91
      clear K6
      clear K7
      clear KR
      clear HB
      have K6 := Lib.hid hS.1
      have K7 := Lib.hid hS.2.1
      have KR := Lib.hid hS.2.2.1
      have HB := Lib.hid hS.2.2.2
      refine tY (i := 0) (some 83) (v := .pointer (some ⟨s, 0, none⟩)) rfl rfl (fun w' hS => by clear hS; go_simp) hS ?_
      simp only [Act.put, pA, pB, pC]
      refine tY (i := 4) (some 87) (v := .pointer (some ⟨sr, 0, none⟩)) rfl rfl (fun w' hS => by clear hS; go_simp) hS ?_
      simp only [Act.put, pA, pB, pC]
      refine takeC (i := 1) (some 84) 41 #[] (.agg (iC 0)) (R := fun w' => Below W91.heap.size W91 w') rfl rfl (by kernel_rfl) (by rfl) (by go_simp) (first_any W91) (fun w' hb => ⟨hS.1.below hb hS.1.lt, hS.2.1.below hb hS.2.1.lt, hS.2.2.1.below hb hS.2.2.1.lt, hS.2.2.2.trans (hb.mono hS.2.2.2.size)⟩) (fun W92 hb1 hS2 => ?_)
      simp only [Act.put, pA, pB, pC]
      clear K6
      clear K7
      clear KR
      clear HB
      clear hS hb1
      have hS := hS2
      clear hS2
      have K6 := Lib.hid hS.1
      have K7 := Lib.hid hS.2.1
      have KR := Lib.hid hS.2.2.1
      have HB := Lib.hid hS.2.2.2
      refine takeC (i := 2) (some 85) 20 #[] (.agg (iC mxI)) (R := fun w' => Below W92.heap.size W92 w') rfl rfl (by kernel_rfl) (by rfl) (by go_simp) (last_any W92) (fun w' hb => ⟨hS.1.below hb hS.1.lt, hS.2.1.below hb hS.2.1.lt, hS.2.2.1.below hb hS.2.2.1.lt, hS.2.2.2.trans (hb.mono hS.2.2.2.size)⟩) (fun W93 hb1 hS2 => ?_)
      simp only [Act.put, pA, pB, pC]
      clear K6
      clear K7
      clear KR
      clear HB
      clear hS hb1
      have hS := hS2
      clear hS2
      have K6 := Lib.hid hS.1
      have K7 := Lib.hid hS.2.1
      have KR := Lib.hid hS.2.2.1
      have HB := Lib.hid hS.2.2.2
      refine takeCE (i := 3) (some 86) 19 #[.pointer (some ⟨s, 0, none⟩), .agg (iC 0), .agg (iC mxI)] (R := fun v w' => ∃ T, OwnR w' W93.heap.size 58 11 v T.length (enB T) ∧ InRg H 0 mxI T ∧ Below W93.heap.size W93 w') rfl rfl (by kernel_rfl) (by rfl) (by go_simp) ((list_any B s m k 0 mxI H rr W93 (HT.out.st.below HB.out) (by unfold IdOk; decide) mx_ok HK5.out).mono (fun e w' ⟨v, T, a1, a2, a3, _, a5⟩ => ⟨v, a1, T, a2, a3, a5⟩)) (fun v w' h => by obtain ⟨TP, ho9, hi9, b1⟩ := h; exact ⟨hS.1.below b1 hS.1.lt, hS.2.1.below b1 hS.2.1.lt, hS.2.2.1.below b1 hS.2.2.1.lt, hS.2.2.2.trans (b1.mono hS.2.2.2.size)⟩) (fun v W94 h hS2 => ?_)
      obtain ⟨TP, ho9, hi9, b1⟩ := h
      clear hS2
      simp only [Act.put, pA, pB, pC]
      obtain ⟨AP, cP, rfl, _, _, _, hrd9⟩ := ho9.shape (recs_hd _) (by decide)
      have HQP : Hid (TP = lstR 0 mxI R) := Lib.hid (lst_inRg HT.out.same (le_mx mx_ok) hi9)
      have HRP : Hid (RdX2 W94 AP (lstR 0 mxI R).length (enB (lstR 0 mxI R))) := Lib.hid (by have h9 := hrd9; rw [HQP.out] at h9; exact h9)
      rw [HQP.out]
      clear ho9 hi9 hrd9 HQP
      replace K6 := Lib.hid (K6.out.below b1 K6.out.lt)
      replace K7 := Lib.hid (K7.out.below b1 K7.out.lt)
      replace KR := Lib.hid (KR.out.below b1 KR.out.lt)
      replace HB := Lib.hid (HB.out.trans (b1.mono HB.out.size))
      clear b1 hS
      have hS := (And.intro K6.out (And.intro K7.out (And.intro KR.out HB.out)))
      refine takeC (i := 5) (some 88) 41 #[] (.agg (iC 0)) (R := fun w' => Below W94.heap.size W94 w') rfl rfl (by kernel_rfl) (by rfl) (by go_simp) (first_any W94) (fun w' hb => ⟨hS.1.below hb hS.1.lt, hS.2.1.below hb hS.2.1.lt, hS.2.2.1.below hb hS.2.2.1.lt, hS.2.2.2.trans (hb.mono hS.2.2.2.size)⟩) (fun W95 hb1 hS2 => ?_)
      simp only [Act.put, pA, pB, pC]
      replace HRP := Lib.hid (HRP.out.below hb1)
      clear K6
      clear K7
      clear KR
      clear HB
      clear hS hb1
      have hS := hS2
      clear hS2
      have K6 := Lib.hid hS.1
      have K7 := Lib.hid hS.2.1
      have KR := Lib.hid hS.2.2.1
      have HB := Lib.hid hS.2.2.2
      refine takeC (i := 6) (some 89) 20 #[] (.agg (iC mxI)) (R := fun w' => Below W95.heap.size W95 w') rfl rfl (by kernel_rfl) (by rfl) (by go_simp) (last_any W95) (fun w' hb => ⟨hS.1.below hb hS.1.lt, hS.2.1.below hb hS.2.1.lt, hS.2.2.1.below hb hS.2.2.1.lt, hS.2.2.2.trans (hb.mono hS.2.2.2.size)⟩) (fun W96 hb1 hS2 => ?_)
      simp only [Act.put, pA, pB, pC]
      replace HRP := Lib.hid (HRP.out.below hb1)
      clear K6
      clear K7
      clear KR
      clear HB
      clear hS hb1
      have hS := hS2
      clear hS2
      have K6 := Lib.hid hS.1
      have K7 := Lib.hid hS.2.1
      have KR := Lib.hid hS.2.2.1
      have HB := Lib.hid hS.2.2.2
      refine takeCE (i := 7) (some 90) 42 #[.pointer (some ⟨sr, 0, none⟩), .agg (iC 0), .agg (iC mxI)] (R := fun v w' => OwnR w' W96.heap.size 58 11 v (lstR 0 mxI R).length (enB (lstR 0 mxI R)) ∧ Below W96.heap.size W96 w') rfl rfl (by kernel_rfl) (by rfl) (by go_simp) ((listR_any B sr 0 mxI R rr W96 (HT.out.rf.below HB.out) HR6.out (by unfold IdOk; decide) mx_ok).mono (fun e w' ⟨v, a1, a2, a3⟩ => ⟨v, a1, a2, a3⟩)) (fun v w' h => by obtain ⟨ho9, b1⟩ := h; exact ⟨hS.1.below b1 hS.1.lt, hS.2.1.below b1 hS.2.1.lt, hS.2.2.1.below b1 hS.2.2.1.lt, hS.2.2.2.trans (b1.mono hS.2.2.2.size)⟩) (fun v W97 h hS2 => ?_)
      obtain ⟨ho9, b1⟩ := h
      clear hS2
      simp only [Act.put, pA, pB, pC]
      obtain ⟨AQ, cQ, rfl, _, _, _, hrd9⟩ := ho9.shape (recs_hd _) (by decide)
      have HRQ : Hid (RdX2 W97 AQ (lstR 0 mxI R).length (enB (lstR 0 mxI R))) := Lib.hid hrd9
      clear ho9 hrd9
      replace HRP := Lib.hid (HRP.out.below b1)
      replace K6 := Lib.hid (K6.out.below b1 K6.out.lt)
      replace K7 := Lib.hid (K7.out.below b1 K7.out.lt)
      replace KR := Lib.hid (KR.out.below b1 KR.out.lt)
      replace HB := Lib.hid (HB.out.trans (b1.mono HB.out.size))
      clear b1 hS
      have hS := (And.intro K6.out (And.intro K7.out (And.intro KR.out HB.out)))
      refine takeCE (i := 8) (some 91) 40 #[.slice AP (lstR 0 mxI R).length cP, .slice AQ (lstR 0 mxI R).length cQ] (R := fun v w' => v = .bool true ∧ Below W97.heap.size W97 w') rfl rfl (by kernel_rfl) (by rfl) (by go_simp) ((sameN_yes AP AQ (lstR 0 mxI R).length cP cQ (enB (lstR 0 mxI R)) W97 HRP.out HRQ.out (fun j hj => self_hd _) (fun j => rfl) (by have := lst_len (R := R) (a := 0) (b := mxI); have := HR6.out; omega)).mono (fun e w' ⟨a1, m9, a2⟩ => ⟨_, a1, rfl, by rw [a2]; exact ⟨rfl, rfl, rfl, Nat.le_refl _, fun _ _ => rfl⟩⟩)) (fun v w' h => by obtain ⟨rfl, b1⟩ := h; exact ⟨hS.1.below b1 hS.1.lt, hS.2.1.below b1 hS.2.1.lt, hS.2.2.1.below b1 hS.2.2.1.lt, hS.2.2.2.trans (b1.mono hS.2.2.2.size)⟩) (fun v W98 h hS2 => ?_)
      obtain ⟨rfl, b1⟩ := h
      clear hS2
      simp only [Act.put, pA, pB, pC]
      replace HRP := Lib.hid (HRP.out.below b1)
      replace HRQ := Lib.hid (HRQ.out.below b1)
      replace K6 := Lib.hid (K6.out.below b1 K6.out.lt)
      replace K7 := Lib.hid (K7.out.below b1 K7.out.lt)
      replace KR := Lib.hid (KR.out.below b1 KR.out.lt)
      replace HB := Lib.hid (HB.out.trans (b1.mono HB.out.size))
      clear b1 hS
      have hS := (And.intro K6.out (And.intro K7.out (And.intro KR.out HB.out)))
      clear HRP HRQ
      refine tY (i := 9) (some 92) (v := .bool true) rfl rfl (fun w' hS => by clear hS; go_simp) hS ?_
      simp only [Act.put, pA, pB, pC]
      refine tY (i := 10) (some 93) (v := .pointer (some ⟨s, 0, none⟩)) rfl rfl (fun w' hS => by clear hS; go_simp) hS ?_
      simp only [Act.put, pA, pB, pC]
      refine tL (i := 11) (some 94) 35 (.tmp 6) N1 0 (iC n) _ rfl rfl rfl rfl (fun w' hS => hS.1.all) Tryz.underlying35 rfl info_iC hS ?_
      simp only [Act.put, pA, pB, pC]
      refine tL (i := 12) (some 95) 35 (.tmp 7) N2 0 (iC nt) _ rfl rfl rfl rfl (fun w' hS => hS.2.1.all) Tryz.underlying35 rfl info_iC hS ?_
      simp only [Act.put, pA, pB, pC]
      refine tY (i := 14) (some 97) (v := .pointer (some ⟨sr, 0, none⟩)) rfl rfl (fun w' hS => by clear hS; go_simp) hS ?_
      simp only [Act.put, pA, pB, pC]
      refine tL (i := 15) (some 98) 35 (.tmp 6) N1 0 (iC n) _ rfl rfl rfl rfl (fun w' hS => hS.1.all) Tryz.underlying35 rfl info_iC hS ?_
      simp only [Act.put, pA, pB, pC]
      refine tL (i := 16) (some 99) 35 (.tmp 7) N2 0 (iC nt) _ rfl rfl rfl rfl (fun w' hS => hS.2.1.all) Tryz.underlying35 rfl info_iC hS ?_
      simp only [Act.put, pA, pB, pC]
      refine takeCE (i := 13) (some 96) 19 #[.pointer (some ⟨s, 0, none⟩), .agg (iC n), .agg (iC nt)] (R := fun v w' => ∃ T, OwnR w' W98.heap.size 58 11 v T.length (enB T) ∧ InRg H n nt T ∧ Below W98.heap.size W98 w') rfl rfl (by kernel_rfl) (by rfl) (by go_simp) ((list_any B s m k n nt H rr W98 (HT.out.st.below HB.out) HN.out HNT.out HK5.out).mono (fun e w' ⟨v, T, a1, a2, a3, _, a5⟩ => ⟨v, a1, T, a2, a3, a5⟩)) (fun v w' h => by obtain ⟨TX, ho9, hi9, b1⟩ := h; exact ⟨hS.1.below b1 hS.1.lt, hS.2.1.below b1 hS.2.1.lt, hS.2.2.1.below b1 hS.2.2.1.lt, hS.2.2.2.trans (b1.mono hS.2.2.2.size)⟩) (fun v W99 h hS2 => ?_)
      obtain ⟨TX, ho9, hi9, b1⟩ := h
      clear hS2
      simp only [Act.put, pA, pB, pC]
      obtain ⟨AX, cX, rfl, _, _, _, hrd9⟩ := ho9.shape (recs_hd _) (by decide)
      have HQX : Hid (TX = lstR n nt R) := Lib.hid (lst_inRg HT.out.same (le_mx HNT.out) hi9)
      have HRX : Hid (RdX2 W99 AX (lstR n nt R).length (enB (lstR n nt R))) := Lib.hid (by have h9 := hrd9; rw [HQX.out] at h9; exact h9)
      rw [HQX.out]
      clear ho9 hi9 hrd9 HQX
      replace K6 := Lib.hid (K6.out.below b1 K6.out.lt)
      replace K7 := Lib.hid (K7.out.below b1 K7.out.lt)
      replace KR := Lib.hid (KR.out.below b1 KR.out.lt)
      replace HB := Lib.hid (HB.out.trans (b1.mono HB.out.size))
      clear b1 hS
      have hS := (And.intro K6.out (And.intro K7.out (And.intro KR.out HB.out)))
      refine takeCE (i := 17) (some 100) 42 #[.pointer (some ⟨sr, 0, none⟩), .agg (iC n), .agg (iC nt)] (R := fun v w' => OwnR w' W99.heap.size 58 11 v (lstR n nt R).length (enB (lstR n nt R)) ∧ Below W99.heap.size W99 w') rfl rfl (by kernel_rfl) (by rfl) (by go_simp) ((listR_any B sr n nt R rr W99 (HT.out.rf.below HB.out) HR6.out HN.out HNT.out).mono (fun e w' ⟨v, a1, a2, a3⟩ => ⟨v, a1, a2, a3⟩)) (fun v w' h => by obtain ⟨ho9, b1⟩ := h; exact ⟨hS.1.below b1 hS.1.lt, hS.2.1.below b1 hS.2.1.lt, hS.2.2.1.below b1 hS.2.2.1.lt, hS.2.2.2.trans (b1.mono hS.2.2.2.size)⟩) (fun v W100 h hS2 => ?_)
      obtain ⟨ho9, b1⟩ := h
      clear hS2
      simp only [Act.put, pA, pB, pC]
      obtain ⟨AY, cY, rfl, _, _, _, hrd9⟩ := ho9.shape (recs_hd _) (by decide)
      have HRY : Hid (RdX2 W100 AY (lstR n nt R).length (enB (lstR n nt R))) := Lib.hid hrd9
      clear ho9 hrd9
      replace HRX := Lib.hid (HRX.out.below b1)
      replace K6 := Lib.hid (K6.out.below b1 K6.out.lt)
      replace K7 := Lib.hid (K7.out.below b1 K7.out.lt)
      replace KR := Lib.hid (KR.out.below b1 KR.out.lt)
      replace HB := Lib.hid (HB.out.trans (b1.mono HB.out.size))
      clear b1 hS
      have hS := (And.intro K6.out (And.intro K7.out (And.intro KR.out HB.out)))
      refine takeCE (i := 18) (some 101) 40 #[.slice AX (lstR n nt R).length cX, .slice AY (lstR n nt R).length cY] (R := fun v w' => v = .bool true ∧ Below W100.heap.size W100 w') rfl rfl (by kernel_rfl) (by rfl) (by go_simp) ((sameN_yes AX AY (lstR n nt R).length cX cY (enB (lstR n nt R)) W100 HRX.out HRY.out (fun j hj => self_hd _) (fun j => rfl) (by have := lst_len (R := R) (a := n) (b := nt); have := HR6.out; omega)).mono (fun e w' ⟨a1, m9, a2⟩ => ⟨_, a1, rfl, by rw [a2]; exact ⟨rfl, rfl, rfl, Nat.le_refl _, fun _ _ => rfl⟩⟩)) (fun v w' h => by obtain ⟨rfl, b1⟩ := h; exact ⟨hS.1.below b1 hS.1.lt, hS.2.1.below b1 hS.2.1.lt, hS.2.2.1.below b1 hS.2.2.1.lt, hS.2.2.2.trans (b1.mono hS.2.2.2.size)⟩) (fun v W101 h hS2 => ?_)
      obtain ⟨rfl, b1⟩ := h
      clear hS2
      simp only [Act.put, pA, pB, pC]
      replace HRX := Lib.hid (HRX.out.below b1)
      replace HRY := Lib.hid (HRY.out.below b1)
      replace K6 := Lib.hid (K6.out.below b1 K6.out.lt)
      replace K7 := Lib.hid (K7.out.below b1 K7.out.lt)
      replace KR := Lib.hid (KR.out.below b1 KR.out.lt)
      replace HB := Lib.hid (HB.out.trans (b1.mono HB.out.size))
      clear b1 hS
      have hS := (And.intro K6.out (And.intro K7.out (And.intro KR.out HB.out)))
      clear HRX HRY
      refine tY (i := 19) (some 102) (v := .bool true) rfl rfl (fun w' hS => by clear hS; go_simp) hS ?_
      simp only [Act.put, pA, pB, pC]
      refine tY (i := 20) (some 103) (v := .bool true) rfl rfl (fun w' hS => by clear hS; go_simp) hS ?_
      simp only [Act.put, pA, pB, pC]
      refine tY (i := 21) (some 104) (v := .pointer (some ⟨s, 0, none⟩)) rfl rfl (fun w' hS => by clear hS; go_simp) hS ?_
      simp only [Act.put, pA, pB, pC]
      refine tY (i := 23) (some 106) (v := .pointer (some ⟨sr, 0, none⟩)) rfl rfl (fun w' hS => by clear hS; go_simp) hS ?_
      simp only [Act.put, pA, pB, pC]
      refine tY (i := 24) (some 107) (v := .pointer (some ⟨sr, 0, none⟩)) rfl rfl (fun w' hS => by clear hS; go_simp) hS ?_
      simp only [Act.put, pA, pB, pC]
      refine tY (i := 25) (some 108) (v := .pointer (some ⟨sr, 0, none⟩)) rfl rfl (fun w' hS => by clear hS; go_simp) hS ?_
      simp only [Act.put, pA, pB, pC]
      refine tY (i := 26) (some 109) (v := .slice A lR cR) rfl rfl (fun w' hS => by (have c9 : w'.cell? ⟨sr, 0, none⟩ = some (.slice A lR cR) := (hS.2.2.1.cell 0).trans rfl; clear hS; go_simp)) hS ?_
      simp only [Act.put, pA, pB, pC]
      refine tY (i := 27) (some 110) (v := .int .i64 (lR : Int)) rfl rfl (fun w' hS => by clear hS; go_simp) hS ?_
      simp only [Act.put, pA, pB, pC]
      refine takeC (i := 22) (some 105) 21 #[.pointer (some ⟨s, 0, none⟩)] (.int .i64 (lR : Int)) (R := fun w' => W101 = w') rfl rfl (by kernel_rfl) (by rfl) (by go_simp) ((stLen_any (HT.out.st.below HB.out)).mono (fun e w' ⟨a1, a2⟩ => ⟨by rw [a1, HLEN.out], a2.symm⟩)) (fun w' hb => hb ▸ hS) (fun W102 hb1 hS2 => ?_)
      subst hb1
      clear hS2
      simp only [Act.put, pA, pB, pC]
      refine tY (i := 28) (some 111) (v := .bool true) rfl rfl (fun w' hS => by clear hS; go_simp) hS ?_
      simp only [Act.put, pA, pB, pC]
      refine tY (i := 29) (some 112) (v := .bool true) rfl rfl (fun w' hS => by clear hS; go_simp) hS ?_
      simp only [Act.put, pA, pB, pC]
      refine tY (i := 30) (some 113) (v := .bool true) rfl rfl (fun w' hS => by clear hS; go_simp) hS ?_
      simp only [Act.put, pA, pB, pC]
      refine tY (i := 31) (some 114) (v := .pointer (some ⟨s, 0, none⟩)) rfl rfl (fun w' hS => by clear hS; go_simp) hS ?_
      simp only [Act.put, pA, pB, pC]
      refine tY (i := 33) (some 116) (v := .pointer (some ⟨sr, 0, none⟩)) rfl rfl (fun w' hS => by clear hS; go_simp) hS ?_
      simp only [Act.put, pA, pB, pC]
      refine tY (i := 34) (some 117) (v := .pointer (some ⟨sr, 0, none⟩)) rfl rfl (fun w' hS => by clear hS; go_simp) hS ?_
      simp only [Act.put, pA, pB, pC]
      refine tY (i := 35) (some 118) (v := .pointer (some ⟨sr, 1, none⟩)) rfl rfl (fun w' hS => by clear hS; go_simp) hS ?_
      simp only [Act.put, pA, pB, pC]
      refine tY (i := 36) (some 119) (v := .bool rr) rfl rfl (fun w' hS => by (have c9 : w'.cell? ⟨sr, 1, none⟩ = some (.bool rr) := (hS.2.2.1.cell 1).trans rfl; clear hS; go_simp)) hS ?_
      simp only [Act.put, pA, pB, pC]
      refine takeC (i := 32) (some 115) 22 #[.pointer (some ⟨s, 0, none⟩)] (.bool rr) (R := fun w' => W101 = w') rfl rfl (by kernel_rfl) (by rfl) (by go_simp) ((refusedS_any (HT.out.st.below HB.out)).mono (fun e w' ⟨a1, a2⟩ => ⟨a1, a2.symm⟩)) (fun w' hb => hb ▸ hS) (fun W103 hb1 hS2 => ?_)
      subst hb1
      clear hS2
      simp only [Act.put, pA, pB, pC]
      refine tY (i := 37) (some 120) (v := .bool true) rfl rfl (fun w' hS => by clear hS; cases rr <;> go_simp) hS ?_
      simp only [Act.put, pA, pB, pC]
      refine tY (i := 38) (some 121) (v := .bool true) rfl rfl (fun w' hS => by clear hS; go_simp) hS ?_
      simp only [Act.put, pA, pB, pC]
      refine tY (i := 39) (some 8) (v := .bool true) rfl rfl (fun w' hS => by clear hS; go_simp) hS ?_
      simp only [Act.put, pA, pB, pC]
      clear hS
      refine wpAnyH_done (by kernel_rfl) ?_ _
      go_wp2_with fail
      go_ret
      exact ⟨rfl, HB.out⟩
end Go.Proofs.YtkiaijmhoikdiaaGreat

/- A list of packets that came in as an argument can be read. No condition. -/
namespace Go.Proofs.YtkiaijmhoikdiaaGreat
open Go.RowKit Go.ChangeShapes Go.WideShapes
set_option linter.unusedVariables false

theorem open_recsW {α : Type} {t e : TypeId} {s bs : Nat} {C : α → Array Value} {Ok : α → Prop} (ht : Tryz.prog.underlying t = some (.slice e)) (hs : Tryz.prog.cellsOf e = s) (hbs : Tryz.prog.bytesOf e = bs) (hs1 : 0 < s) (hC : ∀ r, (C r).size = s)
    {H : Type} {enc : TypeId × Value → H} {w : World} {base : Nat} {held : Bool} {fuel : Nat} {cs0 : List Value} {y : DataW H × List MemPlace}
    (hel : ∀ (n : Nat) (cs : List Value) (x : DataW H × List MemPlace), DataW.trod enc Tryz.prog w base (fun _ => true) held n e cs = some x → (∀ k ∈ x.1.weights Tryz.prog e, k ≤ 140737488351232) → ∃ r, cs = (C r).toList ∧ Ok r) (h0 : ∃ r, Ok r)
    (hf : DataW.trod enc Tryz.prog w base (fun _ => true) held fuel t cs0 = some y) (hsz : ∀ n ∈ y.1.weights Tryz.prog t, n ≤ 140737488351232) :
    ∃ (a : Option Addr) (len cap : Nat) (L : Nat → α), cs0 = [.slice a len cap] ∧ RdR w a len s (fun j => C (L j)) ∧ (∀ j, Ok (L j)) ∧ (a = none → len = 0 ∧ cap = 0) ∧ len ≤ cap ∧ cap * bs ≤ 140737488351232 := by
  obtain ⟨r0, hr0⟩ := h0
  rcases Deep.open_slice ht hf with ⟨hcs, _⟩ | ⟨x, len, cap, mm, n, D, Pl, hcs, _, hl, hm, hmm, rfl, hcell⟩
  · exact ⟨none, 0, 0, fun _ => r0, hcs, .inl rfl, fun _ => hr0, fun _ => ⟨rfl, rfl⟩, Nat.le_refl _, by omega⟩
  · rw [if_pos rfl] at hmm
    subst hmm
    have hw0 := hsz ((len + (mm - len)) * bs) (by
      simp only [DataW.weights, ht, List.length_map, List.length_range, hbs]
      exact List.mem_cons_self ..)
    have each : ∀ i, i < len → ∃ r : α, Ok r ∧ ∀ j u, (C r).toList[j]? = some u → w.cell? ((x.add (i * s)).add j) = some u := by
      intro i hi
      obtain ⟨cs', hc, ht'⟩ := hcell i (by omega)
      rw [hs] at hc
      obtain ⟨_, hcl, hat⟩ := World.cells?_some hc
      have hwi : ∀ k ∈ (D i).weights Tryz.prog e, k ≤ 140737488351232 := by
        intro k hk
        refine hsz k ?_
        simp only [DataW.weights, ht]
        exact List.mem_cons_of_mem _ (List.mem_append_left _ (mem_weightsAll (d := D i) (List.mem_map.2 ⟨i, by simpa using hi, rfl⟩) k hk))
      obtain ⟨r, rfl, hr⟩ := hel n cs' _ ht' hwi
      refine ⟨r, hr, fun j u hu => ?_⟩
      have hj : j < s := by
        rcases Nat.lt_or_ge j s with h | h
        · exact h
        · rw [List.getElem?_eq_none (by rw [Array.length_toList, hC]; exact h)] at hu; cases hu
      rw [hat j hj, hu]
    haveI : Inhabited α := ⟨r0⟩
    obtain ⟨f, hf'⟩ := Deep.choose_lt each
    refine ⟨some x, len, mm, fun i => if i < len then f i else r0, hcs, ?_, fun j => ?_, fun e => (by cases e), hl, ?_⟩
    · rcases Nat.eq_zero_or_pos len with h0 | h0
      · exact .inl h0
      · obtain ⟨b, off, spot⟩ := x
        have hc0 := (hf' 0 h0).2 0 ((C (f 0))[0]'(by rw [hC]; exact hs1)) (by rw [Array.getElem?_toList]; exact Array.getElem?_eq_getElem _)
        have hs : spot = none := by simpa [Addr.add] using World.cell?_spot hc0
        subst hs
        refine .inr ⟨b, off, rfl, by have := cell_lt hc0; simpa [add_none] using this, fun j hj k u hu => ?_⟩
        dsimp only at hu
        rw [if_pos hj] at hu
        have := (hf' j hj).2 k u hu
        rw [add_none, add_none] at this
        exact this
    · dsimp only
      split
      · rename_i h; exact (hf' j h).1
      · exact hr0
    · have : len + (mm - len) = mm := by omega
      rwa [this] at hw0

theorem tolS (A : Array Value) (i : Nat) : A.toList[i]? = A[i]? := by simp
set_option maxRecDepth 100000 in
set_option maxHeartbeats 2000000 in
theorem pdu_cells {H : Type} {enc : TypeId × Value → H} {w : World} {base : Nat} {held : Bool} {fuel : Nat} {cs : List Value} {d : DataW H} {ps : List MemPlace}
    (hf : DataW.trod enc Tryz.prog w base (fun _ => true) held fuel 39 cs = some (d, ps)) (hsz : ∀ n ∈ d.weights Tryz.prog 39, n ≤ 140737488351232) :
    ∃ y : Pd × (Nat → It), cs = (pdC y.1).toList ∧ InP w y.1 y.2 := by
  obtain ⟨xs, m1, _, hxd, hl, hn, hel⟩ := DataW.trod_struct Tryz.underlying39 hf
  have hn : xs.length = 14 := hn
  have hl : cs.length = 47 := by rw [hl]; kernel_rfl
  have hd : d = .agg (xs.map (·.1)) := by have := congrArg Prod.fst hxd; simpa using this
  have hc_b : Tryz.prog.cellsOf 5 = 1 := by kernel_rfl
  have hc_n : Tryz.prog.cellsOf 33 = 7 := by kernel_rfl
  have hc_i : Tryz.prog.cellsOf 3 = 1 := by kernel_rfl
  have hc_d : Tryz.prog.cellsOf 35 = 8 := by kernel_rfl
  have hc_u : Tryz.prog.cellsOf 36 = 1 := by kernel_rfl
  have hc_t : Tryz.prog.cellsOf 37 = 1 := by kernel_rfl
  have e0 : DataW.trod enc Tryz.prog w base (fun _ => true) held m1 5 ((cs.drop 0).take (Tryz.prog.cellsOf 5)) = xs[0]? := hel 0 _ rfl
  rw [hc_b] at e0
  obtain ⟨kd, hkd, bkd⟩ := cell_u8 e0 (by rw [List.getElem?_eq_getElem (by omega)]; rfl)
  have e1 : DataW.trod enc Tryz.prog w base (fun _ => true) held m1 5 ((cs.drop 1).take (Tryz.prog.cellsOf 5)) = xs[1]? := hel 1 _ rfl
  rw [hc_b] at e1
  obtain ⟨ci, hci, bci⟩ := cell_u8 e1 (by rw [List.getElem?_eq_getElem (by omega)]; rfl)
  have e2 : DataW.trod enc Tryz.prog w base (fun _ => true) held m1 33 ((cs.drop 2).take (Tryz.prog.cellsOf 33)) = xs[2]? := hel 2 _ rfl
  rw [hc_n] at e2
  obtain ⟨so, hso, bso⟩ := node_run e2 (by rw [List.getElem?_eq_getElem (by omega)]; rfl)
  have e3 : DataW.trod enc Tryz.prog w base (fun _ => true) held m1 3 ((cs.drop 9).take (Tryz.prog.cellsOf 3)) = xs[3]? := hel 3 _ rfl
  rw [hc_i] at e3
  obtain ⟨ho, hho, bho⟩ := cell_i64 e3 (by rw [List.getElem?_eq_getElem (by omega)]; rfl)
  have e4 : DataW.trod enc Tryz.prog w base (fun _ => true) held m1 5 ((cs.drop 10).take (Tryz.prog.cellsOf 5)) = xs[4]? := hel 4 _ rfl
  rw [hc_b] at e4
  obtain ⟨nu, hnu, bnu⟩ := cell_u8 e4 (by rw [List.getElem?_eq_getElem (by omega)]; rfl)
  have e5 : DataW.trod enc Tryz.prog w base (fun _ => true) held m1 5 ((cs.drop 11).take (Tryz.prog.cellsOf 5)) = xs[5]? := hel 5 _ rfl
  rw [hc_b] at e5
  obtain ⟨pr, hpr, bpr⟩ := cell_u8 e5 (by rw [List.getElem?_eq_getElem (by omega)]; rfl)
  have e6 : DataW.trod enc Tryz.prog w base (fun _ => true) held m1 33 ((cs.drop 12).take (Tryz.prog.cellsOf 33)) = xs[6]? := hel 6 _ rfl
  rw [hc_n] at e6
  obtain ⟨la, hla, bla⟩ := node_run e6 (by rw [List.getElem?_eq_getElem (by omega)]; rfl)
  have e7 : DataW.trod enc Tryz.prog w base (fun _ => true) held m1 3 ((cs.drop 19).take (Tryz.prog.cellsOf 3)) = xs[7]? := hel 7 _ rfl
  rw [hc_i] at e7
  obtain ⟨li, hli, bli⟩ := cell_i64 e7 (by rw [List.getElem?_eq_getElem (by omega)]; rfl)
  have e8 : DataW.trod enc Tryz.prog w base (fun _ => true) held m1 35 ((cs.drop 20).take (Tryz.prog.cellsOf 35)) = xs[8]? := hel 8 _ rfl
  rw [hc_d] at e8
  obtain ⟨id, hid, bid⟩ := id_run e8 (by rw [List.getElem?_eq_getElem (by omega)]; rfl)
  have e9 : DataW.trod enc Tryz.prog w base (fun _ => true) held m1 36 ((cs.drop 28).take (Tryz.prog.cellsOf 36)) = xs[9]? := hel 9 _ rfl
  rw [hc_u] at e9
  obtain ⟨sq, hsq, bsq⟩ := cell_u32 e9 (by rw [List.getElem?_eq_getElem (by omega)]; rfl)
  have e10 : DataW.trod enc Tryz.prog w base (fun _ => true) held m1 5 ((cs.drop 29).take (Tryz.prog.cellsOf 5)) = xs[10]? := hel 10 _ rfl
  rw [hc_b] at e10
  obtain ⟨bi, hbi, bbi⟩ := cell_u8 e10 (by rw [List.getElem?_eq_getElem (by omega)]; rfl)
  have e11 : DataW.trod enc Tryz.prog w base (fun _ => true) held m1 35 ((cs.drop 30).take (Tryz.prog.cellsOf 35)) = xs[11]? := hel 11 _ rfl
  rw [hc_d] at e11
  obtain ⟨st, hst, bst⟩ := id_run e11 (by rw [List.getElem?_eq_getElem (by omega)]; rfl)
  have e12 : DataW.trod enc Tryz.prog w base (fun _ => true) held m1 35 ((cs.drop 38).take (Tryz.prog.cellsOf 35)) = xs[12]? := hel 12 _ rfl
  rw [hc_d] at e12
  obtain ⟨en, hen, ben⟩ := id_run e12 (by rw [List.getElem?_eq_getElem (by omega)]; rfl)
  have e13 : DataW.trod enc Tryz.prog w base (fun _ => true) held m1 37 ((cs.drop 46).take (Tryz.prog.cellsOf 37)) = xs[13]? := hel 13 _ rfl
  rw [hc_t] at e13
  have hx13 : xs[13]? = some xs[13] := List.getElem?_eq_getElem (by omega)
  rw [hx13] at e13
  have hsl : ∃ a len cap, cs[46]? = some (.slice a len cap) := by
    have hone : (cs.drop 46).take 1 = [cs[46]] := by
      rw [List.drop_eq_getElem_cons (by omega), List.take_succ_cons, List.take_zero]
    rcases Deep.open_slice_pairs Tryz.underlying37 Tryz.underlying114 (by kernel_rfl) rfl rfl (by kernel_rfl) (by kernel_rfl) e13 with ⟨hcs', _⟩ | ⟨x, l, c, _, _, _, _, _, _, _, _, hcs', _⟩
    · rw [hone] at hcs'
      injection hcs' with hcs' _
      exact ⟨_, _, _, by rw [List.getElem?_eq_getElem (by omega), hcs']⟩
    · rw [hone] at hcs'
      injection hcs' with hcs' _
      exact ⟨_, _, _, by rw [List.getElem?_eq_getElem (by omega), hcs']⟩
  obtain ⟨a, len, cap, htl⟩ := hsl
  have h13 : DataW.Trod enc Tryz.prog w base (fun _ => true) held 37 (.slice a len cap) xs[13].1 xs[13].2 := by
    refine ⟨m1, ?_⟩
    have hone : (cs.drop 46).take 1 = [.slice a len cap] := by
      rw [List.drop_eq_getElem_cons (by omega), List.take_succ_cons, List.take_zero]
      rw [List.getElem?_eq_getElem (by omega)] at htl
      injection htl with htl
      rw [htl]
    rw [hone] at e13
    exact e13
  obtain ⟨L, hL1, hL2, hL3, hL4⟩ := open_tlvs h13 (fun n hn' => hsz n (by
    rw [hd]
    simp only [DataW.weights, Tryz.underlying39]
    exact DataW.weights_mem_each (j := 13) (t := 37) (d := xs[13].1) rfl (by simp [hx13]) n hn'))
  refine ⟨(⟨kd, ci, so, ho, nu, pr, la, li, id, sq.toNat, bi, st, en, a, len, cap⟩, L), ?_, ⟨⟨bkd, bci, bso, bho, bnu, bpr, bla⟩, bli, bid, (by show sq.toNat ≤ _; omega), bbi, bst, ben⟩, hL1, hL2, hL3, hL4⟩
  apply List.ext_getElem?
  intro i
  refine Eq.trans ?_ (tolS _ _).symm
  rcases Nat.lt_or_ge i 47 with h | h
  · rcases (by omega : i = 0 ∨ i = 1 ∨ i = 2 ∨ i = 3 ∨ i = 4 ∨ i = 5 ∨ i = 6 ∨ i = 7 ∨ i = 8 ∨ i = 9 ∨ i = 10 ∨ i = 11 ∨ i = 12 ∨ i = 13 ∨ i = 14 ∨ i = 15 ∨ i = 16 ∨ i = 17 ∨ i = 18 ∨ i = 19 ∨ i = 20 ∨ i = 21 ∨ i = 22 ∨ i = 23 ∨ i = 24 ∨ i = 25 ∨ i = 26 ∨ i = 27 ∨ i = 28 ∨ i = 29 ∨ i = 30 ∨ i = 31 ∨ i = 32 ∨ i = 33 ∨ i = 34 ∨ i = 35 ∨ i = 36 ∨ i = 37 ∨ i = 38 ∨ i = 39 ∨ i = 40 ∨ i = 41 ∨ i = 42 ∨ i = 43 ∨ i = 44 ∨ i = 45 ∨ i = 46) with rfl | rfl | rfl | rfl | rfl | rfl | rfl | rfl | rfl | rfl | rfl | rfl | rfl | rfl | rfl | rfl | rfl | rfl | rfl | rfl | rfl | rfl | rfl | rfl | rfl | rfl | rfl | rfl | rfl | rfl | rfl | rfl | rfl | rfl | rfl | rfl | rfl | rfl | rfl | rfl | rfl | rfl | rfl | rfl | rfl | rfl | rfl
    · exact hkd
    · exact hci
    · exact hso 0 (by omega)
    · exact hso 1 (by omega)
    · exact hso 2 (by omega)
    · exact hso 3 (by omega)
    · exact hso 4 (by omega)
    · exact hso 5 (by omega)
    · exact hso 6 (by omega)
    · exact hho
    · exact hnu
    · exact hpr
    · exact hla 0 (by omega)
    · exact hla 1 (by omega)
    · exact hla 2 (by omega)
    · exact hla 3 (by omega)
    · exact hla 4 (by omega)
    · exact hla 5 (by omega)
    · exact hla 6 (by omega)
    · exact hli
    · exact hid 0 (by omega)
    · exact hid 1 (by omega)
    · exact hid 2 (by omega)
    · exact hid 3 (by omega)
    · exact hid 4 (by omega)
    · exact hid 5 (by omega)
    · exact hid 6 (by omega)
    · exact hid 7 (by omega)
    · rw [hsq]
      show _ = some (Value.int .u32 ((sq.toNat : Nat) : Int))
      rw [Int.toNat_of_nonneg bsq.1]
    · exact hbi
    · exact hst 0 (by omega)
    · exact hst 1 (by omega)
    · exact hst 2 (by omega)
    · exact hst 3 (by omega)
    · exact hst 4 (by omega)
    · exact hst 5 (by omega)
    · exact hst 6 (by omega)
    · exact hst 7 (by omega)
    · exact hen 0 (by omega)
    · exact hen 1 (by omega)
    · exact hen 2 (by omega)
    · exact hen 3 (by omega)
    · exact hen 4 (by omega)
    · exact hen 5 (by omega)
    · exact hen 6 (by omega)
    · exact hen 7 (by omega)
    · exact htl
  · rw [List.getElem?_eq_none (by omega), Array.getElem?_eq_none (by rw [pdC_size]; exact h)]

theorem pd0_okS : PdOk pd0 := by
  have zb : ∀ j, 0 ≤ z0 j ∧ z0 j ≤ 255 := fun j => (⟨Int.le_refl 0, by decide⟩ : (0 : Int) ≤ 0 ∧ (0 : Int) ≤ 255)
  have b0 : by1 0 := ⟨Int.le_refl 0, by decide⟩
  have i0 : in64 0 := ⟨by decide, by decide⟩
  exact ⟨⟨b0, b0, zb, i0, b0, b0, zb⟩, i0, zb, Nat.zero_le _, b0, zb, zb⟩
end Go.Proofs.YtkiaijmhoikdiaaGreat

/- A list of calls that came in as an argument can be read. No condition. -/
namespace Go.Proofs.YtkiaijmhoikdiaaGreat
open Go.RowKit Go.ChangeShapes Go.WideShapes
set_option linter.unusedVariables false

structure OpX where
  k : Int
  P : Pd
  L : Nat → It
  A : Option Addr
  n : Nat
  c : Nat
  z : Nat → Int
  id : Nat
  t : Int
def opL (x : OpX) : List Value := .int .u8 x.k :: ((pdC x.P).toList ++ (.slice x.A x.n x.c :: ((iC x.id).toList ++ [.int .i64 x.t])))
def opC (x : OpX) : Array Value := (opL x).toArray
theorem opC_size (x : OpX) : (opC x).size = 58 := by kernel_rfl
theorem opC_one (x : OpX) : (opC x).all (·.oneCell') = true := by kernel_rfl
def InOp (w : World) (x : OpX) : Prop := (0 ≤ x.k ∧ x.k ≤ 255) ∧ InP w x.P x.L ∧ Rd w x.A x.n x.z ∧ (x.A = none → x.n = 0 ∧ x.c = 0) ∧ x.n ≤ x.c ∧ x.c ≤ 140737488351232 ∧ IdOk x.id ∧ (-9223372036854775808 ≤ x.t ∧ x.t ≤ 9223372036854775807)
set_option maxRecDepth 100000 in
set_option maxHeartbeats 2000000 in
theorem op_cells {H : Type} {enc : TypeId × Value → H} {w : World} {base : Nat} {held : Bool} {fuel : Nat} {cs : List Value} {d : DataW H} {ps : List MemPlace}
    (hf : DataW.trod enc Tryz.prog w base (fun _ => true) held fuel 42 cs = some (d, ps)) (hsz : ∀ n ∈ d.weights Tryz.prog 42, n ≤ 140737488351232) :
    ∃ x : OpX, cs = (opC x).toList ∧ InOp w x := by
  obtain ⟨xs, m1, _, hxd, hl, hn, hel⟩ := DataW.trod_struct Tryz.underlying42 hf
  have hn : xs.length = 5 := hn
  have hl : cs.length = 58 := by rw [hl]; kernel_rfl
  have hd : d = .agg (xs.map (·.1)) := by have := congrArg Prod.fst hxd; simpa using this
  have hc_b : Tryz.prog.cellsOf 5 = 1 := by kernel_rfl
  have hc_p : Tryz.prog.cellsOf 39 = 47 := by kernel_rfl
  have hc_i : Tryz.prog.cellsOf 3 = 1 := by kernel_rfl
  have hc_d : Tryz.prog.cellsOf 35 = 8 := by kernel_rfl
  have hc_t : Tryz.prog.cellsOf 40 = 1 := by kernel_rfl
  have e0 : DataW.trod enc Tryz.prog w base (fun _ => true) held m1 5 ((cs.drop 0).take (Tryz.prog.cellsOf 5)) = xs[0]? := hel 0 _ rfl
  rw [hc_b] at e0
  obtain ⟨kd, hkd, bkd⟩ := cell_u8 e0 (by rw [List.getElem?_eq_getElem (by omega)]; rfl)
  have e1 : DataW.trod enc Tryz.prog w base (fun _ => true) held m1 39 ((cs.drop 1).take (Tryz.prog.cellsOf 39)) = xs[1]? := hel 1 _ rfl
  have hx1 : xs[1]? = some (xs[1].1, xs[1].2) := List.getElem?_eq_getElem (by omega)
  rw [hc_p, hx1] at e1
  obtain ⟨⟨P, L⟩, hP, hIn⟩ := pdu_cells e1 (fun n hn' => hsz n (by
    rw [hd]
    simp only [DataW.weights, Tryz.underlying42]
    exact DataW.weights_mem_each (j := 1) (t := 39) (d := xs[1].1) rfl (by simp [hx1]) n hn'))
  have e2 : DataW.trod enc Tryz.prog w base (fun _ => true) held m1 40 ((cs.drop 48).take (Tryz.prog.cellsOf 40)) = xs[2]? := hel 2 _ rfl
  have hx2 : xs[2]? = some (xs[2].1, xs[2].2) := List.getElem?_eq_getElem (by omega)
  rw [hc_t, hx2] at e2
  have hw2 : ∀ n ∈ xs[2].1.weights Tryz.prog 40, n ≤ 140737488351232 := fun n hn' => hsz n (by
    rw [hd]
    simp only [DataW.weights, Tryz.underlying42]
    exact DataW.weights_mem_each (j := 2) (t := 40) (d := xs[2].1) rfl (by simp [hx2]) n hn')
  have hone : (cs.drop 48).take 1 = [cs[48]] := by
    rw [List.drop_eq_getElem_cons (by omega), List.take_succ_cons, List.take_zero]
  have hB : ∃ A n c z, cs[48]? = some (.slice A n c) ∧ Rd w A n z ∧ (A = none → n = 0 ∧ c = 0) ∧ n ≤ c ∧ c ≤ 140737488351232 := by
    obtain ⟨a', len', cap', L', he, r1, r2, r3, r4, r5⟩ := open_recsW (C := fun b : Int => #[Value.int .u8 b]) (Ok := fun b => 0 ≤ b ∧ b ≤ 255) Tryz.underlying40 (s := 1) (bs := 1) (by kernel_rfl) (by kernel_rfl) (by decide) (fun _ => rfl) (fun n cs' x hx hw => by
      obtain ⟨a, ea, _, wa⟩ := DataW.trod_int Tryz.underlying5 hx
      exact ⟨a, ea, wf_u8 wa⟩) ⟨0, by omega⟩ e2 hw2
    refine ⟨a', len', cap', L', ?_, ⟨?_, r2⟩, r3, r4, by omega⟩
    · rw [hone] at he
      injection he with he _
      rw [List.getElem?_eq_getElem (by omega), he]
    · rcases r1 with h | ⟨b, off, e, hr⟩
      · exact .inl h
      · exact .inr ⟨b, off, e, hr.1, fun j hj => by have := hr.2 j hj 0 _ rfl; simpa [Addr.add] using this, r2⟩
  obtain ⟨A, nb, cb, z, hsl, b1, b2, b3, b4⟩ := hB
  have e3 : DataW.trod enc Tryz.prog w base (fun _ => true) held m1 35 ((cs.drop 49).take (Tryz.prog.cellsOf 35)) = xs[3]? := hel 3 _ rfl
  rw [hc_d] at e3
  obtain ⟨zi, hid, bid⟩ := id_run e3 (by rw [List.getElem?_eq_getElem (by omega)]; rfl)
  obtain ⟨ni, hni, hdi⟩ := id_of zi bid
  have e4 : DataW.trod enc Tryz.prog w base (fun _ => true) held m1 3 ((cs.drop 57).take (Tryz.prog.cellsOf 3)) = xs[4]? := hel 4 _ rfl
  rw [hc_i] at e4
  obtain ⟨tk, htk, btk⟩ := cell_i64 e4 (by rw [List.getElem?_eq_getElem (by omega)]; rfl)
  refine ⟨⟨kd, P, L, A, nb, cb, z, ni, tk⟩, ?_, bkd, hIn, b1, b2, b3, b4, hni, btk⟩
  show cs = opL _
  unfold opL
  have s0 : cs = cs[0] :: cs.drop 1 := by rw [← List.drop_eq_getElem_cons (by omega), List.drop_zero]
  have s1 : cs.drop 1 = (cs.drop 1).take 47 ++ cs.drop 48 := by
    have h : (cs.drop 1).drop 47 = cs.drop 48 := by rw [List.drop_drop]
    rw [← h]
    exact (List.take_append_drop 47 _).symm
  have s2 : cs.drop 48 = cs[48] :: cs.drop 49 := List.drop_eq_getElem_cons (by omega)
  have s3 : cs.drop 49 = (cs.drop 49).take 8 ++ cs.drop 57 := by
    have h : (cs.drop 49).drop 8 = cs.drop 57 := by rw [List.drop_drop]
    rw [← h]
    exact (List.take_append_drop 8 _).symm
  have s4 : cs.drop 57 = cs[57] :: cs.drop 58 := List.drop_eq_getElem_cons (by omega)
  have s5 : cs.drop 58 = [] := List.drop_eq_nil_of_le (by omega)
  have c0 : cs[0] = .int .u8 kd := by rw [List.getElem?_eq_getElem (by omega)] at hkd; exact Option.some.inj hkd
  have c48 : cs[48] = .slice A nb cb := by rw [List.getElem?_eq_getElem (by omega)] at hsl; exact Option.some.inj hsl
  have c57 : cs[57] = .int .i64 tk := by rw [List.getElem?_eq_getElem (by omega)] at htk; exact Option.some.inj htk
  have hI : (cs.drop 49).take 8 = (iC ni).toList := by
    apply List.ext_getElem?
    intro i
    rcases Nat.lt_or_ge i 8 with h | h
    · rw [List.getElem?_take_of_lt h, List.getElem?_drop, hid i h, ← hdi i h]
      rcases (by omega : i = 0 ∨ i = 1 ∨ i = 2 ∨ i = 3 ∨ i = 4 ∨ i = 5 ∨ i = 6 ∨ i = 7) with rfl | rfl | rfl | rfl | rfl | rfl | rfl | rfl <;> rfl
    · rw [List.getElem?_take_eq_none h, List.getElem?_eq_none (by show 8 ≤ i; exact h)]
  show cs = Value.int .u8 kd :: ((pdC P).toList ++ (Value.slice A nb cb :: ((iC ni).toList ++ [Value.int .i64 tk])))
  rw [← c0, ← c48, ← c57, ← hI, ← hP]
  calc cs = cs[0] :: cs.drop 1 := s0
    _ = cs[0] :: ((cs.drop 1).take 47 ++ cs.drop 48) := by rw [← s1]
    _ = cs[0] :: ((cs.drop 1).take 47 ++ (cs[48] :: cs.drop 49)) := by rw [← s2]
    _ = cs[0] :: ((cs.drop 1).take 47 ++ (cs[48] :: ((cs.drop 49).take 8 ++ cs.drop 57))) := by rw [← s3]
    _ = cs[0] :: ((cs.drop 1).take 47 ++ (cs[48] :: ((cs.drop 49).take 8 ++ [cs[57]]))) := by rw [s4, s5]
def opA (P : Nat → OpX) : Nat → Array Value := fun j => opC (P j)
def InOps (w : World) (a : Option Addr) (len cap : Nat) (P : Nat → OpX) : Prop := RdR w a len 58 (opA P) ∧ (∀ j, InOp w (P j)) ∧ (a = none → len = 0 ∧ cap = 0) ∧ len ≤ cap ∧ cap ≤ 140737488351232
set_option maxRecDepth 100000 in
theorem open_sops {H : Type} {enc : TypeId × Value → H} {w : World} {base : Nat} {held : Bool} {a : Option Addr} {len cap : Nat} {d : DataW H} {ps : List MemPlace} (h : DataW.Trod enc Tryz.prog w base (fun _ => true) held 22 (.slice a len cap) d ps) (hsz : ∀ n ∈ d.weights Tryz.prog 22, n ≤ 140737488351232) : ∃ P, InOps w a len cap P := by
  obtain ⟨fuel, hf⟩ := h
  obtain ⟨a', len', cap', L, he, r1, r2, r3, r4, r5⟩ := open_recsW (C := opC) (Ok := fun x => InOp w x) Tryz.underlying22 (s := 58) (bs := Tryz.prog.bytesOf 42) (by kernel_rfl) rfl (by decide) opC_size (fun n cs x hx hw => op_cells hx hw)
    ⟨⟨0, pd0, fun _ => ⟨0, none, 0, 0, fun _ => 0⟩, none, 0, 0, fun _ => 0, 0, 0⟩, (by decide : (0 : Int) ≤ 0 ∧ (0 : Int) ≤ 255), ⟨pd0_okS, .inl rfl, fun _ => ⟨rfl, rfl⟩, Nat.le_refl _, by decide⟩, ⟨.inl rfl, fun _ => (by decide : (0 : Int) ≤ 0 ∧ (0 : Int) ≤ 255)⟩, fun _ => ⟨rfl, rfl⟩, Nat.le_refl _, by decide, by unfold IdOk; decide, (by decide : (-9223372036854775808 : Int) ≤ 0 ∧ (0 : Int) ≤ 9223372036854775807)⟩ hf hsz
  simp [Value.cells] at he
  obtain ⟨rfl, rfl, rfl⟩ := he
  have hb : 1 ≤ Tryz.prog.bytesOf 42 := of_decide_eq_true (by kernel_rfl)
  exact ⟨L, r1, r2, r3, r4, by have := Nat.mul_le_mul_left cap hb; omega⟩
end Go.Proofs.YtkiaijmhoikdiaaGreat

/- The walk of StorePlays: for every input the law returns true, and nothing that was there is written. No condition. -/
namespace Go.Proofs.YtkiaijmhoikdiaaGreat
open Go.RowKit Go.MapKept
set_option linter.unusedVariables false
set_option linter.unusedSimpArgs false

def op0 : OpX := ⟨0, pd0, fun _ => ⟨0, none, 0, 0, fun _ => 0⟩, none, 0, 0, fun _ => 0, 0, 0⟩
def o4 (x : OpX) : OpX := ⟨x.k, t4 x.P, x.L, x.A, x.n, x.c, x.z, x.id, x.t⟩
theorem zero_op : (Tryz.prog.info? 42).map (·.zero) = some (some (.agg (opC op0))) := by kernel_rfl
theorem info_op : (Tryz.prog.info? 42).map (·.size) = some 58 := by kernel_rfl
theorem op_over (a b : OpX) : putMany (opC a) 0 (opC b).toList = opC b := by kernel_rfl
theorem op_t4 (x : OpX) : putMany (opC x) 47 [.slice x.P.A (min x.P.m 4) x.P.c] = opC (o4 x) := by kernel_rfl
section
variable {w : World} {g : Nat} {x : OpX}
theorem op_pd (h : Blk 42 w g (opC x)) : w.rangeAt g 1 (pdC x.P).toList := by
  intro j y hy
  have hj : j < (pdC x.P).toList.length := (List.getElem?_eq_some_iff.1 hy).1
  have h1 := h.cell (1 + j)
  refine Eq.trans ?_ (h1.trans ?_)
  · simp [Addr.add]
  · show (opL x).toArray[1 + j]? = some y
    rw [List.getElem?_toArray]
    unfold opL
    rw [Nat.add_comm, List.getElem?_cons_succ, List.getElem?_append_left hj]
    exact hy
theorem op_id (h : Blk 42 w g (opC x)) : w.rangeAt g 49 (iC x.id).toList := by
  intro j y hy
  have hj : j < (iC x.id).toList.length := (List.getElem?_eq_some_iff.1 hy).1
  have hl : (pdC x.P).toList.length = 47 := by rw [Array.length_toList]; exact pdC_size _
  have h1 := h.cell (49 + j)
  refine Eq.trans ?_ (h1.trans ?_)
  · simp [Addr.add]
  · show (opL x).toArray[49 + j]? = some y
    rw [List.getElem?_toArray]
    unfold opL
    rw [show 49 + j = (47 + (j + 1)) + 1 by omega, List.getElem?_cons_succ, List.getElem?_append_right (by omega), hl, show 47 + (j + 1) - 47 = j + 1 by omega, List.getElem?_cons_succ, List.getElem?_append_left hj]
    exact hy
theorem op_pid {n : Nat} (h : Blk 42 w g (opC x)) (hd : ∀ i, i < 8 → dg n i = x.P.id i) : w.rangeAt g 21 (iC n).toList := by
  intro j y hy
  have hj : j < 8 := (List.getElem?_eq_some_iff.1 hy).1
  have h1 := h.cell (21 + j)
  refine Eq.trans ?_ (h1.trans ?_)
  · simp [Addr.add]
  · rw [← hy]
    have e : (iC n).toList[j]? = some (.int .u8 (dg n j)) := by
      rcases (by omega : j = 0 ∨ j = 1 ∨ j = 2 ∨ j = 3 ∨ j = 4 ∨ j = 5 ∨ j = 6 ∨ j = 7) with rfl | rfl | rfl | rfl | rfl | rfl | rfl | rfl <;> rfl
    rw [e, hd j hj]
    rcases (by omega : j = 0 ∨ j = 1 ∨ j = 2 ∨ j = 3 ∨ j = 4 ∨ j = 5 ∨ j = 6 ∨ j = 7) with rfl | rfl | rfl | rfl | rfl | rfl | rfl | rfl <;> rfl
end
theorem zero_rsP (o : Oper) (e : Operand → Value) (ho : o.op = .build 29 #[]) (W : World) : (execOp e o).run Tryz.prog W = .ok (.value (.agg #[.slice none 0 0, .bool false])) W := by
  unfold execOp
  simp only [ho]
  kernel_rfl
theorem zero_idP (o : Oper) (e : Operand → Value) (ho : o.op = .build 35 #[]) (W : World) : (execOp e o).run Tryz.prog W = .ok (.value (.agg (iC 0))) W := by
  unfold execOp
  simp only [ho]
  kernel_rfl
theorem same_nilP : SameHR noH [] := ⟨List.Pairwise.nil, fun i g => ⟨fun h => (nomatch h), fun ⟨r, hr, _⟩ => (nomatch hr)⟩⟩
theorem rf_nilP {w : World} {B sr : Nat} (hB : B ≤ sr) (h : Blk 29 w sr #[.slice none 0 0, .bool false]) : RfAt w B sr [] false := ⟨hB, fun r hr => (nomatch hr), _, h, OwnR.nil _ _ _ _ _⟩
theorem stays_ownP {w : World} {B g n c : Nat} {z : Nat → Int} (h : Own8 w g n c z) : Stays w B (some ⟨g, 0, none⟩) n z := by
  have h0 := h
  obtain ⟨⟨cur, h1, _⟩, hz⟩ := h0
  refine ⟨Own8.rd h, fun _ b off e => ?_⟩
  cases e; exact .inr ⟨cur, h1⟩
theorem stays_arg {w0 w : World} {B n : Nat} {A : Option Addr} {z : Nat → Int} (h : Rd w0 A n z) (hb : Below w0.heap.size w0 w) (hB : w0.heap.size ≤ B) : Stays w B A n z := by
  refine ⟨rd_block h (fun _ b off _ hlt => hb.block b hlt), fun h0 b off e => .inl ?_⟩
  rcases h.1 with h1 | ⟨b', off', e', hr⟩
  · omega
  · rw [e'] at e
    cases e
    have := hr.1
    omega
structure TwoL (w : World) (B s m sr : Nat) : Prop where
  ex : ∃ H k R r, TwoAt w B s m sr H k R r ∧ LifeH H
theorem TwoL.below {w w' : World} {B s m sr : Nat} (h : TwoL w B s m sr) (hb : Below w.heap.size w w') : TwoL w' B s m sr := by
  obtain ⟨H, k, R, r, h1, h2⟩ := h.ex
  exact ⟨H, k, R, r, h1.below hb, h2⟩
structure Kx (w w' : World) (B : Nat) : Prop where
  keep : ∀ (x : Nat) (t : TypeId) (C : Array Value), Blk t w x C → t ≠ 76 → t ≠ 29 → t ≠ 91 → Blk t w' x C
  bel : Below B w w'
theorem Kx.trans {w w1 w2 : World} {B : Nat} (h : Kx w w1 B) (k : Kx w1 w2 B) : Kx w w2 B := ⟨fun x t C hb h1 h2 h3 => k.keep x t C (h.keep x t C hb h1 h2 h3) h1 h2 h3, h.bel.trans k.bel⟩
theorem Kx.of_below {w w' : World} {B : Nat} (h : Below w.heap.size w w') (hB : B ≤ w.heap.size) : Kx w w' B := ⟨fun x t C hb _ _ _ => hb.below h hb.lt, h.mono hB⟩
theorem TwoAt.kx {w w' : World} {B s m sr k : Nat} {H : Nat → Option Hd} {R : List Rh} {r : Bool} (h : TwoAt w B s m sr H k R r) (hf : Fr2 w w' s m sr) : Kx w w' B := by
  refine ⟨fun x t C hb h1 h2 _ => ?_, hf.to_below h.st.hs h.st.hb h.rf.hs h.st.ltB⟩
  obtain ⟨v, hv, _⟩ := h.rf.st
  obtain ⟨M, hM, _⟩ := h.st.map
  exact (hf.block x hb.lt (blk_two hb h.st.blk h1) (fun e => map_blk hM hb e.symm) (blk_two hb hv h2)).trans hb
theorem kx_kp {w w' : World} {B : Nat} (hk : ∀ (x : Nat) (o : Obj), w.heap[x]? = some o → mineS o = false → w'.heap[x]? = some o) (hb : Below B w w') : Kx w w' B := by
  refine ⟨fun x t C h h1 _ h3 => hk _ _ h ?_, hb⟩
  simp only [mineS]
  rw [beq_false_of_ne h1, beq_false_of_ne h3]
  rfl
theorem pd_idB {p : Pd} (h : PdOk p) : ∀ j, 0 ≤ p.id j ∧ p.id j ≤ 255 := h.2.2.1
theorem kx_fr1 {w w' : World} {B sr : Nat} {R : List Rh} {r : Bool} (h : RfAt w B sr R r) (hf : Fr1 w w' sr) : Kx w w' B := by
  obtain ⟨v, hv, _⟩ := h.st
  exact ⟨fun x t C hb _ h2 _ => (hf.block x hb.lt (blk_two hb hv h2)).trans hb, hf.below h.hs (Nat.le_trans h.hs (Nat.le_of_lt hv.lt))⟩
theorem OwnR.fr1t {w w' : World} {B s m sr : Nat} {e : TypeId} {v : Value} {C : Nat → Array Value} {D : Array Value} (h : OwnR w B e s v m C) (hv : Blk 29 w sr D) (hf : Fr1 w w' sr) (hne : e ≠ 29) : OwnR w' B e s v m C := by
  rcases h with ⟨h1, h3 | ⟨g9, cap, cur, a1, a2, a3, rest⟩⟩
  · exact ⟨h1, .inl h3⟩
  · exact ⟨h1, .inr ⟨g9, cap, cur, a1, a2, (hf.block g9 (Array.getElem?_eq_some_iff.1 a3).1 (blk_two (show Blk e w g9 cur from a3) hv hne)).trans a3, rest⟩⟩
theorem TwoAt.stored {w w' : World} {B s m sr k g : Nat} {H : Nat → Option Hd} {R : List Rh} {r : Bool} {C D : Array Value} {t : TypeId} (h : TwoAt w B s m sr H k R r) (q : Stored w w' g C t) (hk : Blk t w g D) (h1 : t ≠ 76) (h2 : t ≠ 29) (h3 : t ≠ 91) (h4 : 5 ≠ t ∧ t ≠ 95) : TwoAt w' B s m sr H k R r := by
  have cells : ∀ {x : Nat} {E : Array Value} {ty : TypeId}, w.heap[x]? = some (.cells E ty (0, 0)) → ty ≠ t → w'.heap[x]? = w.heap[x]? := fun {x E ty} hx hty => q.2.2 x (blk_two (show Blk ty w x E from hx) hk hty)
  refine ⟨?_, ?_, h.same, h.k5⟩
  · obtain ⟨g1, g2, g3, M, g4, g5, g6, g7⟩ := h.st
    refine ⟨g1, g2, (cells g3 h1.symm).trans g3, M, g4.at (q.2.2 m (map_blk g4 hk)), g5, fun i g9 x e1 e2 => ?_, g7⟩
    obtain ⟨⟨a0, ro, oa, c9, a1, a2, a3, a4⟩, a5⟩ := g6 i g9 x e1 e2
    obtain ⟨cur9, hc9⟩ := a2.2
    exact ⟨⟨a0, ro, oa, c9, (cells a1 h3.symm).trans a1, a2.block (cells hc9 h4.1), a3, a4⟩, a5⟩
  · obtain ⟨g1, g2, v, g3, g4⟩ := h.rf
    refine ⟨g1, fun x hx => ⟨⟨?_, (g2 x hx).1.2⟩, (g2 x hx).2⟩, v, (cells g3 h2.symm).trans g3, ?_⟩
    · have h0 := (g2 x hx).1.1
      have h9 := h0
      obtain ⟨⟨cur, e, _⟩, _⟩ := h9
      exact Own8.block h0 (cells e h4.1)
    · rcases g4 with ⟨o1, o2 | ⟨g9, cap9, cur9, o2, o3, o4, rest⟩⟩
      · exact ⟨o1, .inl o2⟩
      · exact ⟨o1, .inr ⟨g9, cap9, cur9, o2, o3, (cells o4 h4.2.symm).trans o4, rest⟩⟩
theorem drop_both {w w1 w2 : World} {B s b sr k ni : Nat} {H : Nat → Option Hd} {R : List Rh} {r : Bool} {q : Int} {v : Value} (h1 : SDropP w B s b ni k H r (.returned (.int .i64 q)) w1) (h2 : DDropP w1 B sr ni R r (.returned v) w2) (ht : TwoAt w B s b sr H k R r) : v = .int .i64 q ∧ ∃ H2 k2 R2 r2, TwoAt w2 B s b sr H2 k2 R2 r2 ∧ (LifeH H → LifeH H2) := by
  obtain ⟨v9, hv9, _⟩ := (ht.rf.other ht.st.sh h1.1).st
  rcases h1.2 with ⟨a1, a2, a3⟩ | ⟨⟨g, a1⟩, a2, k', a3, a4⟩
  · rcases h2.2 with ⟨b1, b2, b3⟩ | ⟨i, x, b1, b2, b3, b4⟩
    · injection a2 with a2
      injection b2 with b2
      rw [b2, a2]
      exact ⟨rfl, H, k, R, r, ⟨(a3.other1 (G := 0) hv9 h2.1).1, b3, ht.same, ht.k5⟩, id⟩
    · have := (ht.same.2 ni x.x.1).2 ⟨x, List.mem_of_getElem? b1, rfl, b2⟩
      rw [a1] at this; cases this
  · rcases h2.2 with ⟨b1, b2, b3⟩ | ⟨i, x, b1, b2, b3, b4⟩
    · obtain ⟨x, c1, c2, c3⟩ := (ht.same.2 ni g).1 a1
      exact absurd (by rw [c2]; exact c3) (b1 x c1)
    · injection a2 with a2
      injection b3 with b3
      rw [b3, a2]
      refine ⟨rfl, _, k', _, _, ⟨(a4.other1 (G := 0) hv9 h2.1).1, b4, by rw [← b2]; exact same_drop ht.same b1, Nat.le_trans a3 ht.k5⟩, life_drop⟩
set_option maxHeartbeats 16000000 in
set_option maxRecDepth 100000 in
theorem ageS_bad (s : Nat) (t : Int) (w : World) (ht : t < 0 ∨ 65535 < t) : Calls Tryz.prog 11 #[.pointer (some ⟨s, 0, none⟩), .int .i64 t] w fun e w' => e = .returned (.tuple #[.slice none 0 0, .int .i64 1]) ∧ w' = w := by
  go_enter Tryz.func11, Tryz.ntmps11
  by_cases h0 : t < 0
  · have h0b : t < 0 := h0
    go_wp2_with fail
    refine bodyPost_ret (v := .tuple #[.slice none 0 0, .int .i64 1]) (by simp [results, Tryz.f11, go_sem]) rfl ⟨rfl, rfl⟩
  · have h1 : 65535 < t := by omega
    have h0b : ¬ t < 0 := h0
    go_wp2_with fail
    refine bodyPost_ret (v := .tuple #[.slice none 0 0, .int .i64 1]) (by simp [results, Tryz.f11, go_sem]) rfl ⟨rfl, rfl⟩
set_option maxHeartbeats 16000000 in
set_option maxRecDepth 100000 in
theorem docAge_bad (s : Nat) (t : Int) (w : World) (ht : t < 0 ∨ 65535 < t) : Calls Tryz.prog 12 #[.pointer (some ⟨s, 0, none⟩), .int .i64 t] w fun e w' => e = .returned (.tuple #[.slice none 0 0, .int .i64 1]) ∧ w' = w := by
  go_enter Tryz.func12, Tryz.ntmps12
  by_cases h0 : t < 0
  · have h0b : t < 0 := h0
    go_wp2_with fail
    refine bodyPost_ret (v := .tuple #[.slice none 0 0, .int .i64 1]) (by simp [results, Tryz.f12, go_sem]) rfl ⟨rfl, rfl⟩
  · have h1 : 65535 < t := by omega
    have h0b : ¬ t < 0 := h0
    go_wp2_with fail
    refine bodyPost_ret (v := .tuple #[.slice none 0 0, .int .i64 1]) (by simp [results, Tryz.f12, go_sem]) rfl ⟨rfl, rfl⟩
set_option maxHeartbeats 80000000 in
set_option maxRecDepth 100000 in
theorem walkStorePlays (A : Option Addr) (n c : Nat) (P : Nat → OpX) (w : World) (hp : InOps w A n c P) : Calls Tryz.prog 3 #[.slice A n c] w fun e w' => e = .returned (.bool true) ∧ Below w.heap.size w w' := by
  have HP := Lib.hid hp
  have hn63 : (n : Int) ≤ 9223372036854775807 := by have := hp.2.2.2.1; have := hp.2.2.2.2; omega
  clear hp
  go_enter Tryz.func3, Tryz.ntmps3
  go_wp2_with fail
  refine (awake_any w).mono ?_
  rintro e w3 ⟨rfl, b1⟩
  have HB := Lib.hid b1
  clear b1
  go_wp2_with fail
  obtain ⟨B, hB⟩ : ∃ N, w3.heap.size = N := ⟨_, rfl⟩
  have le_B : w.heap.size ≤ B := by rw [← hB]; exact HB.out.size
  refine (new_any w3).mono ?_
  rintro e w4 ⟨s, b, rfl, hst, b1⟩
  have HBs : Hid (B ≤ w4.heap.size) := Lib.hid (by rw [← hB]; exact b1.size)
  rw [hB] at hst
  replace HB := Lib.hid (HB.out.trans (b1.mono HB.out.size))
  have HST := Lib.hid hst
  clear b1 hst hB
  go_wp2_with (refine wpList_v (op := ⟨some 18, _, _, _, _, _⟩) rfl (.agg #[.slice none 0 0, .bool false]) (zero_rsP _ _ rfl _) ?_; refine Hid.out ?_)
  refine Lib.hid ?_
  obtain ⟨sr, hsr⟩ : ∃ N, w4.heap.size = N := ⟨_, rfl⟩
  have HSR := Lib.hid hsr
  clear hsr
  go_wp2_with (refine wpList_box (op := ⟨some 19, _, _, _, _, _⟩) rfl 29 (.tmp 18) rfl (#[.slice none 0 0, .bool false]) rfl sr HSR.out ?_; intro w5 k1 b1 s1; refine Hid.out ?_)
  refine Lib.hid ?_
  replace HST := Lib.hid (HST.out.below b1)
  replace HB := Lib.hid (HB.out.trans (b1.mono HB.out.size))
  have HT : Hid (TwoL w5 B s b sr) := Lib.hid ⟨noH, 0, [], false, ⟨HST.out, rf_nilP (by rw [← HSR.out]; exact HBs.out) k1, same_nilP, by omega⟩, life_no⟩
  clear k1 b1 s1 HST HBs HSR
  go_wp2_with (refine wpList_v (op := ⟨some 20, _, _, _, _, _⟩) rfl (.agg (iC 0)) (zero_idP _ _ rfl _) ?_; refine Hid.out ?_)
  refine Lib.hid ?_
  obtain ⟨N5, hN5⟩ : ∃ N, w5.heap.size = N := ⟨_, rfl⟩
  have HN5 := Lib.hid hN5
  have HB5 : Hid (B ≤ N5) := Lib.hid (by rw [← hN5]; obtain ⟨H, k, R, r, h1, _⟩ := HT.out.ex; exact h1.st.ltB)
  clear hN5
  go_wp2_with (refine wpList_new (op := ⟨some 5, _, _, _, _, _⟩) rfl 35 rfl (iC 0) zero_idS N5 HN5.out ?_; intro w6 k1 b1 s9; refine Hid.out ?_)
  refine Lib.hid ?_
  have K5 := Lib.hid k1
  have HB1 := Lib.hid b1
  clear k1 b1 s9
  go_wp2_with (refine wpList_st rfl 35 (.tmp 5) (.tmp 20) rfl N5 0 rfl (.agg (iC 0)) (iC 0) rfl rfl info_iC (idC_one _) K5.out (Nat.le_of_ble_eq_true rfl) (C' := iC 0) (id_over _ _) ?_; intro w7 q1; refine Hid.out ?_)
  refine Lib.hid ?_
  have b1 : Below w5.heap.size w5 w7 := HB1.out.trans (q1.2.1 _ (by rw [HN5.out]; exact Nat.le_refl _))
  replace HT := Lib.hid (HT.out.below b1)
  replace HB := Lib.hid (HB.out.trans (b1.mono HB.out.size))
  replace K5 : Hid (Blk 35 w7 N5 (iC 0)) := Lib.hid q1.1
  clear q1 b1 HB1 HN5
  have le_B2 : Hid (w.heap.size ≤ B) := Lib.hid le_B
  go_wp2_with fail
  go_loopw [23] (fun t wr => ∃ i nl : Nat, i ≤ n ∧ i ≤ 100 ∧ t = .int .i64 i ∧ Hid (TwoL wr B s b sr) ∧ Hid (Blk 35 wr N5 (iC nl)) ∧ Hid (IdOk nl) ∧ Hid (Below w.heap.size w wr)) (fun t _ => n - (intOf t).toNat)
  case atStart => exact ⟨0, 0, by omega, by omega, rfl, HT, K5, Lib.hid (by unfold IdOk; decide), HB⟩
  case round =>
    clear K5 HB HT
    obtain ⟨i, nl, hi, hi100, rfl, HT, K5, HNL, HB⟩ := hrel
    by_cases hlt : i < n
    · skip
      obtain ⟨bA, off, rfl, hr⟩ := HP.out.1.row (by omega)
      have hki : (i : Int) < (n : Int) := by omega
      obtain ⟨x, hpp⟩ : ∃ p, P i = p := ⟨_, rfl⟩
      have HIN : Hid (InOp w x) := Lib.hid (by rw [← hpp]; exact HP.out.2.1 i)
      have h1 : Hid (wr.rangeAt bA (off + i * 58) (opC x).toList) := Lib.hid (by have h9 := rangeAt_below (hr.2 i hlt) HB.out hr.1; unfold opA at h9; rw [hpp] at h9; exact h9)
      clear hr hpp
      go_wp2_with (refine wpList_ld (op := ⟨some 27, _, _, _, _, _⟩) (by rfl) 42 (.tmp 26) rfl bA (off + i * 58) rfl (opC x) _ h1.out Tryz.underlying42 rfl info_op ?_; refine Hid.out ?_)
      refine Lib.hid ?_
      clear h1
      obtain ⟨N7, hN7⟩ : ∃ N, wr.heap.size = N := ⟨_, rfl⟩
      have HN7 := Lib.hid hN7
      have HB7 : Hid (B ≤ N7 ∧ w.heap.size ≤ N7 ∧ N5 ≠ N7) := Lib.hid (by rw [← hN7]; obtain ⟨H, k, R, r, h1, _⟩ := HT.out.ex; exact ⟨h1.st.ltB, HB.out.size, Nat.ne_of_lt K5.out.lt⟩)
      clear hN7
      go_wp2_with (refine wpList_new (op := ⟨some 7, _, _, _, _, _⟩) rfl 42 rfl (opC op0) zero_op N7 HN7.out ?_; intro w5 k1 b1 s1; refine Hid.out ?_)
      refine Lib.hid ?_
      have K7 := Lib.hid k1
      have HB1 := Lib.hid b1
      clear k1 b1 s1
      go_wp2_with (refine wpList_st rfl 42 (.tmp 7) (.tmp 27) rfl N7 0 rfl (.agg (opC x)) (opC x) rfl rfl info_op (opC_one _) K7.out (Nat.le_of_ble_eq_true rfl) (C' := opC x) (op_over _ _) ?_; intro w6 q1; refine Hid.out ?_)
      refine Lib.hid ?_
      have HB2 : Hid (Below wr.heap.size wr w6) := Lib.hid (HB1.out.trans (q1.2.1 _ (by rw [HN7.out]; exact Nat.le_refl _)))
      clear HB1
      have HB1 := HB2
      clear HB2
      replace K7 : Hid (Blk 42 w6 N7 (opC x)) := Lib.hid q1.1
      clear q1
      by_cases h100 : i < 100
      · have h100i : ¬ (100 : Int) ≤ (i : Int) := by omega
        have c47 : w6.cell? ⟨N7, 47, none⟩ = some (.slice x.P.A x.P.m x.P.c) := (K7.out.cell 47).trans rfl
        have hmp : (x.P.m : Int) ≤ 9223372036854775807 := by have := HIN.out.2.1.2.2.2.1; have := HIN.out.2.1.2.2.2.2; omega
        go_wp2_with (refine wpList_v (op := ⟨some 37, _, _, _, _, _⟩) rfl (.int .i64 ((min x.P.m 4 : Nat) : Int)) (min4_run _ _ _ _ rfl x.P.m rfl rfl _) ?_; refine Hid.out ?_)
        refine Lib.hid ?_
        go_wp2_with (refine wpList_v (op := ⟨some 38, _, _, _, _, _⟩) rfl (.slice x.P.A (min x.P.m 4) x.P.c) (slice4_k _ _ _ _ rfl x.P.A x.P.m x.P.c (min x.P.m 4) (by rcases Nat.eq_zero_or_pos x.P.m with h | h; exact .inl h; obtain ⟨b9, o9, e9, _⟩ := HIN.out.2.1.2.1.row h; exact .inr ⟨b9, o9, e9⟩) rfl rfl (Nat.min_le_left _ _) HIN.out.2.1.2.2.2.1 _) ?_; refine Hid.out ?_)
        refine Lib.hid ?_
        clear c47
        go_wp2_with (refine wpList_st rfl 37 (.tmp 40) (.tmp 38) rfl N7 47 rfl (.slice x.P.A (min x.P.m 4) x.P.c) (#[.slice x.P.A (min x.P.m 4) x.P.c]) rfl rfl info_tlsW one_sl K7.out (Nat.le_of_ble_eq_true rfl) (C' := opC (o4 x)) (op_t4 _) ?_; intro w7 q1; refine Hid.out ?_)
        refine Lib.hid ?_
        have HB2 : Hid (Below wr.heap.size wr w7) := Lib.hid (HB1.out.trans (q1.2.1 _ (by rw [HN7.out]; exact Nat.le_refl _)))
        clear HB1
        have HB1 := HB2
        clear HB2
        replace K7 : Hid (Blk 42 w7 N7 (opC (o4 x))) := Lib.hid q1.1
        clear q1
        have b1 := HB1.out
        replace HT := Lib.hid (HT.out.below b1)
        replace K5 := Lib.hid (K5.out.below b1 K5.out.lt)
        replace HB := Lib.hid (HB.out.trans (b1.mono HB.out.size))
        clear b1 HB1 HN7
        obtain ⟨y, hy⟩ : ∃ y, o4 x = y := ⟨_, rfl⟩
        rw [hy] at K7
        obtain ⟨np, hnp, hdp⟩ := id_of x.P.id (by exact pd_idB HIN.out.2.1.1)
        have HY : Hid (y.k = x.k ∧ y.P = t4 x.P ∧ y.L = x.L ∧ y.A = x.A ∧ y.n = x.n ∧ y.c = x.c ∧ y.z = x.z ∧ y.id = x.id ∧ y.t = x.t) := Lib.hid (by rw [← hy]; exact ⟨rfl, rfl, rfl, rfl, rfl, rfl, rfl, rfl, rfl⟩)
        have HNP := Lib.hid hnp
        have HDP : Hid (∀ i, i < 8 → dg np i = y.P.id i) := Lib.hid (by rw [HY.out.2.1]; exact hdp)
        have HIDO : Hid (IdOk y.id) := Lib.hid (by rw [HY.out.2.2.2.2.2.2.2.1]; exact HIN.out.2.2.2.2.2.2.1)
        have HPIN : Hid (PdOk y.P) := Lib.hid (by rw [HY.out.2.1]; exact t4_ok HIN.out.2.1.1)
        have HRT0 : Hid (RdT w y.P.A y.P.m y.L) := Lib.hid (by rw [HY.out.2.1, HY.out.2.2.1]; exact rdT_min HIN.out.2.1.2.1 (Nat.min_le_left _ _))
        have HPC : Hid (y.P.m ≤ y.P.c ∧ y.P.c * 32 ≤ 140737488351232) := Lib.hid (by rw [HY.out.2.1]; exact ⟨Nat.le_trans (Nat.min_le_left _ _) HIN.out.2.1.2.2.2.1, HIN.out.2.1.2.2.2.2⟩)
        have HBY : Hid (Rd w y.A y.n y.z ∧ (y.A = none → y.n = 0 ∧ y.c = 0) ∧ y.n ≤ y.c ∧ y.c ≤ 140737488351232) := Lib.hid (by obtain ⟨e1, e2, e3, e4, e5, e6, e7, e8, e9⟩ := HY.out; rw [e4, e5, e6, e7]; exact ⟨HIN.out.2.2.1, HIN.out.2.2.2.1, HIN.out.2.2.2.2.1, HIN.out.2.2.2.2.2.1⟩)
        clear hy hnp hdp HY HIN hmp
        obtain ⟨kk, hkk⟩ : ∃ k, y.k = k := ⟨_, rfl⟩
        have c0 : w7.cell? ⟨N7, 0, none⟩ = some (.int .u8 kk) := (K7.out.cell 0).trans (by rw [← hkk]; rfl)
        clear hkk
        go_upto_block 2 with fail
        clear c0
        go_cut [] (fun wc => Hid (TwoL wc B s b sr) ∧ Hid (Blk 35 wc N5 (iC nl)) ∧ Hid (Blk 42 wc N7 (opC y)) ∧ Hid (Below w.heap.size w wc))
        case first =>
          by_cases hk0 : kk = 0
          · subst hk0
            have hpd : Hid (w7.rangeAt N7 1 (pdC y.P).toList) := Lib.hid (op_pd K7.out)
            go_wp2_with (refine wpList_ld (op := ⟨some 47, _, _, _, _, _⟩) (by rfl) 39 (.tmp 46) rfl N7 1 rfl (pdC y.P) _ hpd.out Tryz.underlying39 rfl info_pdR ?_; refine Hid.out ?_)
            refine Lib.hid ?_
            clear hpd
            obtain ⟨m0, hm0⟩ := jends y.L y.P.m
            have HM := Lib.hid hm0
            clear hm0
            have HRT : Hid (RdT w7 y.P.A y.P.m y.L) := Lib.hid (HRT0.out.below HB.out)
            have HWOK : Hid (wrX y.P y.L m0 = 0 → WOk y.P (wrN y.P y.L m0) (wrZ y.P y.L m0)) := Lib.hid (fun h => wr_ok (w := w7) HPIN.out HM.out HRT.out h)
            go_wp2_with fail
            refine (docWrite_any y.P HPIN.out y.L m0 HM.out w7 ⟨HRT.out, HPC.out.1, by have := HPC.out.2; omega⟩).mono ?_
            rintro e w8 ⟨A8, c8, rfl, hrd, hc1, hc2, b1, hown⟩
            obtain ⟨x8, hx8⟩ : ∃ v, wrX y.P y.L m0 = v := ⟨_, rfl⟩
            obtain ⟨n8, hn8⟩ : ∃ v, wrN y.P y.L m0 = v := ⟨_, rfl⟩
            obtain ⟨z8, hz8⟩ : ∃ v, wrZ y.P y.L m0 = v := ⟨_, rfl⟩
            rw [hx8, hn8, hz8] at HWOK
            rw [hx8, hn8, hz8] at hown
            rw [hn8] at hc1
            rw [hx8, hn8]
            have HOWN := Lib.hid hown
            have HC8 := Lib.hid (And.intro hc1 hc2)
            replace HT := Lib.hid (HT.out.below b1)
            replace K5 := Lib.hid (K5.out.below b1 K5.out.lt)
            replace K7 := Lib.hid (K7.out.below b1 K7.out.lt)
            replace HB := Lib.hid (HB.out.trans (b1.mono HB.out.size))
            clear hx8 hn8 hz8 hrd hc1 hc2 hown b1 HRT
            by_cases hx0 : x8 = 0
            · subst hx0
              obtain ⟨g8, rfl, hg8, hO8⟩ := HOWN.out rfl
              have HSTY : Hid (Stays w8 B (some ⟨g8, 0, none⟩) n8 z8) := Lib.hid (stays_ownP hO8)
              have HN8 := Lib.hid ((HWOK.out rfl).hn.2)
              clear HOWN HWOK hO8 hg8
              obtain ⟨H, k, R, r, ht, hlf⟩ := HT.out.ex
              have HTA := Lib.hid ht
              have HLF := Lib.hid hlf
              clear ht hlf
              go_wp2_with fail
              refine (putT_any B s b sr k H R r (some ⟨g8, 0, none⟩) n8 c8 z8 w8 HTA.out HSTY.out (fun e => by cases e) (HC8.out.1) (HC8.out.2) (by have := HN8.out; omega)).mono ?_
              rintro e w9 ⟨rfl, hf, H2, k2, R2, r2, ht2, hl2⟩
              have KX := TwoAt.kx HTA.out hf
              replace K5 := Lib.hid (KX.keep _ _ _ K5.out (by decide) (by decide) (by decide))
              replace K7 := Lib.hid (KX.keep _ _ _ K7.out (by decide) (by decide) (by decide))
              replace HB := Lib.hid (HB.out.trans (KX.bel.mono le_B2.out))
              clear KX
              clear HT
              have HT := Lib.hid ((TwoL.mk ⟨H2, k2, R2, r2, ht2, hl2 HLF.out⟩))
              clear hf ht2 hl2 HTA HLF HSTY
              go_wp2_with fail
              go_meet
              case rel => exact ⟨HT, K5, K7, HB⟩
            · have hxb : (x8 != 0) = true := by simpa using hx0
              clear hx0
              go_wp2_with fail
              go_roundw
              case rel => exact ⟨i + 1, nl, by omega, by omega, by go_num, HT, K5, HNL, HB⟩
              case measure => simp only [intOf]; omega
          · have hb0 : (kk == 0) = false := by simpa using hk0
            by_cases hk1 : kk = 1
            · subst hk1
              obtain ⟨A9, hA9⟩ : ∃ v, y.A = v := ⟨_, rfl⟩
              obtain ⟨n9, hn9⟩ : ∃ v, y.n = v := ⟨_, rfl⟩
              obtain ⟨c9, hc9⟩ : ∃ v, y.c = v := ⟨_, rfl⟩
              obtain ⟨z9, hz9⟩ : ∃ v, y.z = v := ⟨_, rfl⟩
              have HB9 : Hid (Rd w A9 n9 z9 ∧ (A9 = none → n9 = 0 ∧ c9 = 0) ∧ n9 ≤ c9 ∧ c9 ≤ 140737488351232) := Lib.hid (by rw [← hA9, ← hn9, ← hc9, ← hz9]; exact HBY.out)
              have c48 : w7.cell? ⟨N7, 48, none⟩ = some (.slice A9 n9 c9) := (K7.out.cell 48).trans (by rw [← hA9, ← hn9, ← hc9]; rfl)
              clear hA9 hn9 hc9 hz9
              have HSTY : Hid (Stays w7 B A9 n9 z9) := Lib.hid (stays_arg HB9.out.1 HB.out le_B2.out)
              obtain ⟨H, k, R, r, ht, hlf⟩ := HT.out.ex
              have HTA := Lib.hid ht
              have HLF := Lib.hid hlf
              clear ht hlf
              go_wp2_with fail
              refine (putT_any B s b sr k H R r (A9) n9 c9 z9 w7 HTA.out HSTY.out (HB9.out.2.1) (HB9.out.2.2.1) (by have h9 : maxLen = 9223372036854775807 := rfl; have := HB9.out.2.2.2; omega) (by have := HB9.out.2.2.1; have := HB9.out.2.2.2; omega)).mono ?_
              rintro e w9 ⟨rfl, hf, H2, k2, R2, r2, ht2, hl2⟩
              have KX := TwoAt.kx HTA.out hf
              replace K5 := Lib.hid (KX.keep _ _ _ K5.out (by decide) (by decide) (by decide))
              replace K7 := Lib.hid (KX.keep _ _ _ K7.out (by decide) (by decide) (by decide))
              replace HB := Lib.hid (HB.out.trans (KX.bel.mono le_B2.out))
              clear KX
              clear HT
              have HT := Lib.hid ((TwoL.mk ⟨H2, k2, R2, r2, ht2, hl2 HLF.out⟩))
              clear hf ht2 hl2 HTA HLF HSTY
              go_wp2_with fail
              go_meet
              case rel => exact ⟨HT, K5, K7, HB⟩
            · have hb1 : (kk == 1) = false := by simpa using hk1
              by_cases hk2 : kk = 2
              · subst hk2
                obtain ⟨H, k, R, r, ht, hlf⟩ := HT.out.ex
                have HTA := Lib.hid ht
                have HLF := Lib.hid hlf
                have HR6 : Hid (R.length ≤ 600) := Lib.hid (by have := two_len ht.st ht.same; have := ht.k5; omega)
                clear ht hlf
                obtain ⟨ni, hni⟩ : ∃ v, y.id = v := ⟨_, rfl⟩
                have HID9 : Hid (IdOk ni) := Lib.hid (by rw [← hni]; exact HIDO.out)
                have HRID : Hid (∀ W, Blk 42 W N7 (opC y) → W.rangeAt N7 49 (iC ni).toList) := Lib.hid (fun W h => by rw [← hni]; exact op_id h)
                clear hni
                go_wp2_with fail
                have HTAd : Hid (TwoAt w7.drew B s b sr H k R r) := Lib.hid (HTA.out.below ((Below.refl _ _).drew))
                clear HTA HT
                refine wp_region_held_drew (S := fun w' => Blk 35 w' N5 (iC nl) ∧ Blk 42 w' N7 (opC y) ∧ Below w.heap.size w w') (by kernel_rfl) ⟨K5.out, K7.out, HB.out.drew⟩ (fun hS => ?_)
                generalize hWd : w7.drew = Wd at hS HTAd ⊢
                clear hWd K5 K7 HB
                refine tY (i := 0) (some 68) (v := .pointer (some ⟨s, 0, none⟩)) rfl rfl (fun w' hS => by clear hS; go_simp) hS ?_
                simp only [Act.put, pA, pB, pC]
                refine tY (i := 1) (some 69) (v := .pointer (some ⟨N7, 49, none⟩)) rfl rfl (fun w' hS => by clear hS; go_simp) hS ?_
                simp only [Act.put, pA, pB, pC]
                refine tL (i := 2) (some 70) 35 (.tmp 69) N7 49 (iC ni) _ rfl rfl rfl rfl (fun w' hS => HRID.out w' hS.2.1) Tryz.underlying35 rfl info_iC hS ?_
                simp only [Act.put, pA, pB, pC]
                refine tY (i := 4) (some 72) (v := .pointer (some ⟨sr, 0, none⟩)) rfl rfl (fun w' hS => by clear hS; go_simp) hS ?_
                simp only [Act.put, pA, pB, pC]
                refine tY (i := 5) (some 73) (v := .pointer (some ⟨N7, 49, none⟩)) rfl rfl (fun w' hS => by clear hS; go_simp) hS ?_
                simp only [Act.put, pA, pB, pC]
                refine tL (i := 6) (some 74) 35 (.tmp 73) N7 49 (iC ni) _ rfl rfl rfl rfl (fun w' hS => HRID.out w' hS.2.1) Tryz.underlying35 rfl info_iC hS ?_
                simp only [Act.put, pA, pB, pC]
                refine takeCE (i := 3) (some 71) 9 #[.pointer (some ⟨s, 0, none⟩), .agg (iC ni)] (R := fun v w' => ∃ q : Int, v = .int .i64 q ∧ SDropP Wd B s b ni k H r (.returned v) w') rfl rfl (by kernel_rfl) (by rfl) (by go_simp) ((dropS_any B s b k ni H r Wd HTAd.out.st HID9.out).mono (fun e w' h => ?_)) (fun v w' h => ?_) (fun v w91 h hS2 => ?_)
                rotate_left
                rotate_left
                · obtain ⟨q, rfl, hd⟩ := h
                  simp only [Act.put, pA, pB, pC]
                  have HD := Lib.hid hd
                  have HRF : Hid (RfAt w91 B sr R r) := Lib.hid (HTAd.out.rf.other HTAd.out.st.sh hd.1)
                  clear hS hd
                  have hS := hS2
                  clear hS2
                  refine takeCE (i := 7) (some 75) 10 #[.pointer (some ⟨sr, 0, none⟩), .agg (iC ni)] (R := fun v w' => DDropP w91 B sr ni R r (.returned v) w') rfl rfl (by kernel_rfl) (by rfl) (by go_simp) ((docDrop_any B sr ni R r w91 HRF.out HID9.out HR6.out).mono (fun e w' h => ?_)) (fun v w' h => ?_) (fun v w92 h hS2 => ?_)
                  rotate_left
                  rotate_left
                  · have hv := drop_both HD.out h HTAd.out
                    obtain ⟨rfl, H2, k2, R2, r2, ht2, hl2⟩ := hv
                    simp only [Act.put, pA, pB, pC]
                    have HT := Lib.hid (TwoL.mk ⟨H2, k2, R2, r2, ht2, hl2 HLF.out⟩)
                    clear h ht2 hl2 hS
                    have hS := hS2
                    clear hS2
                    have hqq : (q != q) = false := by simp
                    refine tY (i := 8) (some 76) (v := .bool false) rfl rfl (fun w' hS => by clear hS; go_simp) hS ?_
                    simp only [Act.put, pA, pB, pC]
                    have K5 := Lib.hid hS.1
                    have K7 := Lib.hid hS.2.1
                    have HB := Lib.hid hS.2.2
                    clear hS
                    refine wpAnyH_done (by kernel_rfl) ?_ _
                    go_wp2_with fail
                    go_meet
                    case rel => exact ⟨HT, K5, K7, HB⟩
                  · rcases h.2 with ⟨_, h2, _⟩ | ⟨_, _, _, _, h2, _⟩
                    · exact ⟨_, h2, by rw [← h2]; exact h⟩
                    · exact ⟨_, h2, by rw [← h2]; exact h⟩
                  · have hkx := kx_fr1 HRF.out h.1
                    exact ⟨hkx.keep _ _ _ hS.1 (by decide) (by decide) (by decide), hkx.keep _ _ _ hS.2.1 (by decide) (by decide) (by decide), hS.2.2.trans (hkx.bel.mono le_B2.out)⟩
                · rcases h.2 with ⟨_, h2, _⟩ | ⟨_, h2, _⟩
                  · exact ⟨_, h2, _, rfl, by rw [← h2]; exact h⟩
                  · exact ⟨_, h2, _, rfl, by rw [← h2]; exact h⟩
                · obtain ⟨q, rfl, hd⟩ := h
                  have hkx := (TwoAt.kx HTAd.out (Fr2.of_fr sr hd.1))
                  exact ⟨hkx.keep _ _ _ hS.1 (by decide) (by decide) (by decide), hkx.keep _ _ _ hS.2.1 (by decide) (by decide) (by decide), hS.2.2.trans (hkx.bel.mono le_B2.out)⟩
              · have hb2 : (kk == 2) = false := by simpa using hk2
                by_cases hk3 : kk = 3
                · subst hk3
                  obtain ⟨tk, htk⟩ : ∃ v, y.t = v := ⟨_, rfl⟩
                  have c57 : w7.cell? ⟨N7, 57, none⟩ = some (.int .i64 tk) := (K7.out.cell 57).trans (by rw [← htk]; rfl)
                  have HC57 : Hid (∀ W, Blk 42 W N7 (opC y) → W.cell? ⟨N7, 57, none⟩ = some (.int .i64 tk)) := Lib.hid (fun W h => (h.cell 57).trans (by rw [← htk]; rfl))
                  clear htk
                  by_cases hbad : tk < 0 ∨ 65535 < tk
                  · have HBAD := Lib.hid hbad
                    clear hbad
                    go_wp2_with fail
                    refine (ageS_bad s tk w7 HBAD.out).mono ?_
                    rintro e w8 ⟨rfl, rfl⟩
                    go_wp2_with fail
                    refine (docAge_bad sr tk w8 HBAD.out).mono ?_
                    rintro e w9 ⟨rfl, rfl⟩
                    go_wp2_with fail
                    refine wp_loop_rounds 1 ?_
                    rw [rounds_succ]
                    go_wp2_with fail
                    go_meet
                    case rel => exact ⟨HT, K5, K7, HB⟩
                  · have HTK : Hid (0 ≤ tk ∧ tk ≤ 65535) := Lib.hid (by omega)
                    clear hbad
                    obtain ⟨H, k, R, r, ht, hlf⟩ := HT.out.ex
                    have HTA := Lib.hid ht
                    have HLF := Lib.hid hlf
                    have HR6 : Hid (R.length ≤ 600) := Lib.hid (by have := two_len ht.st ht.same; have := ht.k5; omega)
                    clear ht hlf
                    go_wp2_with fail
                    refine (age_any B s b k H r tk w7 HTA.out.st HLF.out HTK.out HTA.out.k5).mono ?_
                    rintro e w8 ⟨A8, c8, T, rfl, hO, hTs, hTm, ⟨k', r', hk', hst', hre⟩, hbl, hTl, hkp⟩
                    have hTT : T = outR tk R := out_same HTA.out.same hTs hTm
                    have hrr : r' = if (keepR tk R).length < R.length then false else r := flag_same HTA.out.same hre
                    subst hTT
                    have HO := Lib.hid hO
                    have HSTn := Lib.hid hst'
                    have HRR := Lib.hid hrr
                    have HK' := Lib.hid (Nat.le_trans hk' HTA.out.k5)
                    have HRF := Lib.hid (HTA.out.rf.kpx hkp)
                    have KX := kx_kp hkp hbl
                    replace K5 := Lib.hid (KX.keep _ _ _ K5.out (by decide) (by decide) (by decide))
                    replace K7 := Lib.hid (KX.keep _ _ _ K7.out (by decide) (by decide) (by decide))
                    replace HB := Lib.hid (HB.out.trans (KX.bel.mono le_B2.out))
                    clear KX hO hTs hTm hk' hst' hre hbl hTl hkp hrr c57 HT
                    have c57 := HC57.out _ K7.out
                    go_wp2_with fail
                    clear c57
                    refine (docAge_any B sr R r tk w8 HRF.out HR6.out (life_rows HTA.out.same HLF.out) HTK.out).mono ?_
                    rintro e w9 ⟨A9, c9, rfl, hO9, hf1, hrf9⟩
                    have KX := kx_fr1 HRF.out hf1
                    replace K5 := Lib.hid (KX.keep _ _ _ K5.out (by decide) (by decide) (by decide))
                    replace K7 := Lib.hid (KX.keep _ _ _ K7.out (by decide) (by decide) (by decide))
                    replace HB := Lib.hid (HB.out.trans (KX.bel.mono le_B2.out))
                    clear KX
                    obtain ⟨v9, hv9, _⟩ := HRF.out.st
                    have HT : Hid (TwoL w9 B s b sr) := Lib.hid ⟨agedH H tk, k', keepR tk R, r', ⟨(HSTn.out.other1 (G := 0) hv9 hf1).1, by rw [HRR.out]; exact hrf9, same_age HTA.out.same, HK'.out⟩, life_aged HLF.out HTK.out.1⟩
                    obtain ⟨lO, hlO⟩ : ∃ l, (outR tk R).length = l := ⟨_, rfl⟩
                    have HLO := Lib.hid hlO
                    have HO8 : Hid (RdR w9 A8 lO 8 (idB (outR tk R))) := Lib.hid (by obtain ⟨A', c', e', _, _, _, hr'⟩ := (HO.out.fr1t hv9 hf1 (by decide)).shape (recs_idI _) (by decide); cases e'; rw [← hlO]; exact hr')
                    have HO9 : Hid (RdR w9 A9 lO 8 (idB (outR tk R))) := Lib.hid (by obtain ⟨A', c', e', _, _, _, hr'⟩ := hO9.shape (recs_idI _) (by decide); cases e'; rw [← hlO]; exact hr')
                    have hlO6 : lO ≤ 600 := by rw [← hlO]; have := out_len (t := tk) (R := R); have := HR6.out; omega
                    have hlOI : (lO : Int) ≤ 9223372036854775807 := by omega
                    rw [hlO]
                    clear hO9 hf1 hrf9 hv9 HO HSTn HRF hlO HRR
                    go_wp2_with fail
                    go_loopw [105] (fun t wx => ∃ j qn : Nat, j ≤ lO ∧ t = .int .i64 j ∧ wx = w9.drewN qn) (fun t _ => lO - (intOf t).toNat)
                    case atStart => exact ⟨0, 0, by omega, rfl, rfl⟩
                    case round =>
                      obtain ⟨j, qn, hj, rfl, rfl⟩ := hrel
                      by_cases hjl : j < lO
                      · have hjI : (j : Int) < (lO : Int) := by omega
                        obtain ⟨b8, o8, rfl, hr8⟩ := HO8.out.row (by omega)
                        obtain ⟨b9, o9, rfl, hr9⟩ := HO9.out.row (by omega)
                        obtain ⟨nd, hnd⟩ : ∃ m, ((outR tk R)[j]?.getD default) = m := ⟨_, rfl⟩
                        have R8 : Hid (∀ q, (w9.drewN q).rangeAt b8 (o8 + j * 8) (iC nd.1).toList) := Lib.hid (fun q => by have h := hr8.2 j hjl; unfold idB at h; rw [hnd] at h; exact h)
                        have R9 : Hid (∀ q, (w9.drewN q).rangeAt b9 (o9 + j * 8) (iC nd.1).toList) := Lib.hid (fun q => by have h := hr9.2 j hjl; unfold idB at h; rw [hnd] at h; exact h)
                        clear hr8 hr9 hnd
                        go_wp2_with fail
                        refine wp_region_held_drew (S := fun w' => ∃ q, w' = w9.drewN q) (by kernel_rfl) (show ∃ q, (w9.drewN qn).drew = w9.drewN q from ⟨qn + 1, by first | rfl | (simp [World.drewN]) | exact (drewN_succ _ _).symm⟩) (fun hS => ?_)
                        have hS0 : ∃ q, (w9.drewN qn).drew = w9.drewN q := hS
                        generalize hWd : (w9.drewN qn).drew = Wd at hS ⊢
                        refine tY (i := 0) (some 108) (v := .slice (some ⟨b8, o8, none⟩) lO c8) rfl rfl (fun w' hS => by clear hS; go_simp) hS ?_
                        simp only [Act.put, pA, pB, pC]
                        refine tY (i := 1) (some 109) (v := .int .i64 (j : Int)) rfl rfl (fun w' hS => by clear hS; go_simp) hS ?_
                        simp only [Act.put, pA, pB, pC]
                        refine tY (i := 2) (some 110) (v := .pointer (some ⟨b8, o8 + j * 8, none⟩)) rfl rfl (fun w' hS => by clear hS; go_simp) hS ?_
                        simp only [Act.put, pA, pB, pC]
                        refine tL (i := 3) (some 111) 35 (.tmp 110) b8 (o8 + j * 8) (iC nd.1) _ rfl rfl rfl rfl (fun w' hS => by obtain ⟨q, rfl⟩ := hS; exact R8.out q) Tryz.underlying35 rfl info_iC hS ?_
                        simp only [Act.put, pA, pB, pC]
                        refine tY (i := 4) (some 112) (v := .slice (some ⟨b9, o9, none⟩) lO c9) rfl rfl (fun w' hS => by clear hS; go_simp) hS ?_
                        simp only [Act.put, pA, pB, pC]
                        refine tY (i := 5) (some 113) (v := .int .i64 (j : Int)) rfl rfl (fun w' hS => by clear hS; go_simp) hS ?_
                        simp only [Act.put, pA, pB, pC]
                        refine tY (i := 6) (some 114) (v := .pointer (some ⟨b9, o9 + j * 8, none⟩)) rfl rfl (fun w' hS => by clear hS; go_simp) hS ?_
                        simp only [Act.put, pA, pB, pC]
                        refine tL (i := 7) (some 115) 35 (.tmp 114) b9 (o9 + j * 8) (iC nd.1) _ rfl rfl rfl rfl (fun w' hS => by obtain ⟨q, rfl⟩ := hS; exact R9.out q) Tryz.underlying35 rfl info_iC hS ?_
                        simp only [Act.put, pA, pB, pC]
                        refine tY (i := 8) (some 116) (v := .bool false) rfl rfl (fun w' hS => by exact ((neq_id _ _ _ _ _ rfl rfl nd.1 nd.1 nd.2 nd.2 rfl rfl _).trans (by rw [beq_self_eq_true]; rfl))) hS ?_
                        simp only [Act.put, pA, pB, pC]
                        obtain ⟨q2, hq2⟩ := hS
                        refine wpAnyH_done (by kernel_rfl) ?_ _
                        subst hq2
                        go_wp2_with fail
                        go_roundw
                        case rel => exact ⟨j + 1, q2, by omega, by go_num, rfl⟩
                        case measure => simp only [intOf]; omega
                      · obtain rfl : lO = j := by omega
                        have bq : Below w9.heap.size w9 (w9.drewN qn) := ⟨rfl, rfl, rfl, Nat.le_refl _, fun _ _ => rfl⟩
                        replace HT := Lib.hid (HT.out.below bq)
                        replace K5 := Lib.hid (K5.out.below bq K5.out.lt)
                        replace K7 := Lib.hid (K7.out.below bq K7.out.lt)
                        replace HB := Lib.hid (HB.out.trans (bq.mono HB.out.size))
                        clear bq
                        go_wp2_with fail
                        go_meet
                        case rel => exact ⟨HT, K5, K7, HB⟩
                · have hb3 : (kk == 3) = false := by simpa using hk3
                  go_wp2_with fail
                  go_meet
                  case rel => exact ⟨HT, K5, K7, HB⟩
        case rest =>
          clear K5 K7 HB HT
          obtain ⟨HT, K5, K7, HB⟩ := hcut
          obtain ⟨H, k, R, r, ht, hlf⟩ := HT.out.ex
          have HTA := Lib.hid ht
          have HLF := Lib.hid hlf
          clear ht hlf
          go_wp2_with (refine wpList_ld (op := ⟨some 122, _, _, _, _, _⟩) (by rfl) 35 (.tmp 121) rfl N7 21 rfl (iC np) _ (op_pid K7.out HDP.out) Tryz.underlying35 rfl info_iC ?_; refine Hid.out ?_)
          refine Lib.hid ?_
          go_wp2_with (refine wpList_ld (op := ⟨some 123, _, _, _, _, _⟩) (by rfl) 35 (.tmp 5) rfl N5 0 rfl (iC nl) _ (K5.out.all) Tryz.underlying35 rfl info_iC ?_; refine Hid.out ?_)
          refine Lib.hid ?_
          go_wp2_with fail
          refine (looks_any B s b sr k np nl H R r wc HTA.out HLF.out HNP.out HNL.out).mono ?_
          rintro e x1 ⟨rfl, b1⟩
          clear HT
          have HTn := Lib.hid (HTA.out.below b1)
          clear HTA
          have HTA := HTn
          clear HTn
          replace K5 := Lib.hid (K5.out.below b1 K5.out.lt)
          replace K7 := Lib.hid (K7.out.below b1 K7.out.lt)
          replace HB := Lib.hid (HB.out.trans (b1.mono HB.out.size))
          clear b1
          go_wp2_with (refine wpList_ld (op := ⟨some 130, _, _, _, _, _⟩) (by rfl) 35 (.tmp 129) rfl N7 49 rfl (iC y.id) _ (op_id K7.out) Tryz.underlying35 rfl info_iC ?_; refine Hid.out ?_)
          refine Lib.hid ?_
          go_wp2_with (refine wpList_ld (op := ⟨some 133, _, _, _, _, _⟩) (by rfl) 35 (.tmp 132) rfl N7 21 rfl (iC np) _ (op_pid K7.out HDP.out) Tryz.underlying35 rfl info_iC ?_; refine Hid.out ?_)
          refine Lib.hid ?_
          go_wp2_with fail
          refine (looks_any B s b sr k y.id np H R r x1 HTA.out HLF.out HIDO.out HNP.out).mono ?_
          rintro e x2 ⟨rfl, b1⟩
          have HTn := Lib.hid (HTA.out.below b1)
          clear HTA
          have HTA := HTn
          clear HTn
          replace K5 := Lib.hid (K5.out.below b1 K5.out.lt)
          replace K7 := Lib.hid (K7.out.below b1 K7.out.lt)
          replace HB := Lib.hid (HB.out.trans (b1.mono HB.out.size))
          clear b1
          go_wp2_with (refine wpList_ld (op := ⟨some 139, _, _, _, _, _⟩) (by rfl) 35 (.tmp 138) rfl N7 21 rfl (iC np) _ (op_pid K7.out HDP.out) Tryz.underlying35 rfl info_iC ?_; refine Hid.out ?_)
          refine Lib.hid ?_
          go_wp2_with (refine wpList_st rfl 35 (.tmp 5) (.tmp 139) rfl N5 0 rfl (.agg (iC np)) (iC np) rfl rfl info_iC (idC_one _) K5.out (Nat.le_of_ble_eq_true rfl) (C' := iC np) (id_over _ _) ?_; intro x3 q1; refine Hid.out ?_)
          refine Lib.hid ?_
          have HTz : Hid (TwoL x3 B s b sr) := Lib.hid ⟨H, k, R, r, HTA.out.stored q1 K5.out (by decide) (by decide) (by decide) (by decide), HLF.out⟩
          have HBz := Lib.hid (HB.out.trans (q1.2.1 _ (Nat.le_trans le_B2.out HB5.out)))
          have K5z : Hid (Blk 35 x3 N5 (iC np)) := Lib.hid q1.1
          clear q1 HTA HB K5 K7
          go_wp2_with fail
          go_roundw
          case rel => exact ⟨i + 1, np, by omega, by omega, by go_num, HTz, K5z, HNP, HBz⟩
          case measure => simp only [intOf]; omega
      · obtain rfl : i = 100 := by omega
        have b1 := HB1.out
        have HBn := Lib.hid (HB.out.trans (b1.mono HB.out.size))
        go_wp2_with fail
        go_ret
        exact ⟨rfl, HBn.out⟩
    · obtain rfl : n = i := by omega
      go_wp2_with fail
      go_ret
      exact ⟨rfl, HB.out⟩
end Go.Proofs.YtkiaijmhoikdiaaGreat
