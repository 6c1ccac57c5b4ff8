/- Texts of this claim put together; each theorem states its conditions. -/
import Derived.Test.YtkiaijmhoikdiaaGreatGStorePlays8
import Derived.Test.YtkiaijmhoikdiaaGreatGStorePlays9
import Derived.Deep.DeepCutAuto
import Derived.Test.YtkiaijmhoikdiaaGreatGStorePlays7
/- The document's Put of a store that there is. Each theorem states its conditions. -/
namespace Go.Proofs.YtkiaijmhoikdiaaGreat
open Go.RowKit Go.MapKept
set_option linter.unusedVariables false
set_option linter.unusedSimpArgs false

theorem number_twoD (b off c : Nat) (z : Nat → Int) (w : World) (hr : Row8 w b off 2 z) : Calls Tryz.prog 49 #[.slice (some ⟨b, off, none⟩) 2 c] w fun e w' => e = .returned (.int .u64 (z 0 * 256 + z 1)) ∧ Below w.heap.size w w' :=
  (number_any b off 2 c z w hr (by decide)).mono fun e w' h => by
    obtain ⟨rfl, rfl⟩ := h
    refine ⟨?_, bself _⟩
    have e1 : numZ z 0 2 = z 0 * 256 + z 1 := by simp [numZ]
    rw [e1]
theorem build_rh (o : Oper) (e : Operand → Value) (x0 x1 x2 x3 x4 : Operand) (ho : o.op = .build 95 #[(0, x0), (1, x1), (2, x2), (3, x3), (4, x4)]) (r : Rh) (hp : r.x.1.pu = 0) (h0 : e x0 = .agg (iC r.x.1.id)) (h1 : e x1 = .int .u32 (r.x.1.sq : Int)) (h2 : e x2 = .int .u16 (r.x.1.su : Int)) (h3 : e x3 = .int .i64 r.x.1.li) (h4 : e x4 = .slice (some ⟨r.g, 0, none⟩) r.x.1.n r.c) (W : World) : (execOp e o).run Tryz.prog W = .ok (.value (.agg (rhC r))) W := by
  unfold execOp
  simp only [ho]
  simp only [List.map_toArray, List.map_cons, List.map_nil, h0, h1, h2, h3, h4]
  unfold rhC
  rw [hp]
  kernel_rfl
def OwnX (w : World) (g n c : Nat) (z : Nat → Int) : Prop := Own8 w g n c z
theorem OwnX.below {w w' : World} {g n c : Nat} {z : Nat → Int} (h : OwnX w g n c z) (hb : Below w.heap.size w w') : OwnX w' g n c z := Own8.below h hb (Own8.lt h)
theorem OwnX.far {w w' : World} {g n c b : Nat} {z : Nat → Int} {C : Array Value} {t : TypeId} (h : OwnX w g n c z) (hs : Stored w w' b C t) (hk : g ≠ b) : OwnX w' g n c z := Own8.block h (hs.2.2 g hk)
theorem own8_neH {w : World} {g n c s : Nat} {z : Nat → Int} {C : Array Value} (h : Own8 w g n c z) (hs : Blk 95 w s C) : g ≠ s := by
  rintro rfl
  obtain ⟨⟨cur, h1, _⟩, _⟩ := h
  have e2 : w.heap[g]? = _ := hs
  rw [h1] at e2
  injection e2 with e2
  injection e2 with _ e2 _
  exact absurd e2 (by decide)
theorem pd_overD (p : Pd) : putMany (pdC pd0) 0 (pdC p).toList = pdC p := by kernel_rfl
set_option maxHeartbeats 8000000 in
set_option maxRecDepth 100000 in
theorem docPutR_no (A : Option Addr) (n c s : Nat) (E : Int) (hE : E = 2 ∨ E = 3 ∨ E = 8) (w : World) (hrd : Calls Tryz.prog 47 #[.slice A n c] w (RdErr w E)) :
    Calls Tryz.prog 16 #[.pointer (some ⟨s, 0, none⟩), .slice A n c] w fun e w' => e = .returned (.tuple #[.int .i64 0, .int .i64 E]) ∧ Below w.heap.size w w' := by
  have HRD := Lib.hid hrd
  have hE0 : (E == 0) = false := by rcases hE with rfl | rfl | rfl <;> rfl
  have hE1 : (E != 0) = true := by rcases hE with rfl | rfl | rfl <;> rfl
  clear hrd hE
  go_enter Tryz.func16, Tryz.ntmps16
  go_wp2_with fail
  refine HRD.out.mono ?_
  rintro e w1 ⟨rfl, b1⟩
  have HB := Lib.hid b1
  clear b1
  obtain ⟨N6, hN6⟩ : ∃ N, w1.heap.size = N := ⟨_, rfl⟩
  have HN6 := Lib.hid hN6
  clear hN6
  go_wp2_with (refine wpList_new (op := ⟨some 6, _, _, _, _, _⟩) rfl 39 rfl (pdC pd0) zero_pdR N6 HN6.out ?_; intro w5 k1 b1 s9; refine Hid.out ?_)
  refine Lib.hid ?_
  have K6 := Lib.hid k1
  have HB1 := Lib.hid b1
  clear k1 b1 s9
  go_wp2_with (refine wpList_st rfl 39 (.tmp 6) (.tmp 14) rfl N6 0 rfl (.agg (pdC pd0)) (pdC pd0) rfl rfl info_pdR (pdC_one _) K6.out (Nat.le_of_ble_eq_true rfl) (C' := pdC pd0) (pd_overD _) ?_; intro wz q1; refine Hid.out ?_)
  refine Lib.hid ?_
  replace HB := Lib.hid (HB.out.trans ((HB1.out.trans (q1.2.1 _ (by rw [HN6.out]; exact Nat.le_refl _))).mono HB.out.size))
  replace K6 : Hid (Blk 39 wz N6 (pdC pd0)) := Lib.hid q1.1
  clear q1 HB1 HN6
  go_wp2_with fail
  refine bodyPost_ret (v := .tuple #[.int .i64 0, .int .i64 E]) (by simp [results, Tryz.f16, go_sem]) rfl ?_
  exact ⟨rfl, HB.out⟩
set_option maxHeartbeats 8000000 in
set_option maxRecDepth 100000 in
theorem docPutR_oth (A : Option Addr) (n c s q m : Nat) (z : Nat → Int) (w : World) (hq : cls (z 4) = q) (hq4 : q ≤ 4) (hq2 : q ≠ 2) (hrd : Calls Tryz.prog 47 #[.slice A n c] w (RdOk w q z m)) :
    Calls Tryz.prog 16 #[.pointer (some ⟨s, 0, none⟩), .slice A n c] w fun e w' => e = .returned (.tuple #[.int .i64 0, .int .i64 3]) ∧ Below w.heap.size w w' := by
  have HRD := Lib.hid hrd
  have HQ := Lib.hid (And.intro hq (And.intro hq4 hq2))
  clear hrd hq hq4 hq2
  go_enter Tryz.func16, Tryz.ntmps16
  go_wp2_with fail
  refine HRD.out.mono ?_
  rintro e w1 ⟨A7, c7, L, rfl, ho, hI, hA7, hc71, hc72, b1⟩
  clear ho hI hA7 hc71 hc72
  have HB := Lib.hid b1
  clear b1
  obtain ⟨p, hp⟩ : ∃ p, withT (rdP q z) A7 m c7 = p := ⟨_, rfl⟩
  rw [hp]
  have hkd : p.kd = z 4 := by rw [← hp]; exact rdP_kd q z
  have HKD := Lib.hid hkd
  clear hp hkd
  obtain ⟨N6, hN6⟩ : ∃ N, w1.heap.size = N := ⟨_, rfl⟩
  have HN6 := Lib.hid hN6
  clear hN6
  go_wp2_with (refine wpList_new (op := ⟨some 6, _, _, _, _, _⟩) rfl 39 rfl (pdC pd0) zero_pdR N6 HN6.out ?_; intro w5 k1 b1 s9; refine Hid.out ?_)
  refine Lib.hid ?_
  have K6 := Lib.hid k1
  have HB1 := Lib.hid b1
  clear k1 b1 s9
  go_wp2_with (refine wpList_st rfl 39 (.tmp 6) (.tmp 14) rfl N6 0 rfl (.agg (pdC p)) (pdC p) rfl rfl info_pdR (pdC_one _) K6.out (Nat.le_of_ble_eq_true rfl) (C' := pdC p) (pd_overD _) ?_; intro wz q1; refine Hid.out ?_)
  refine Lib.hid ?_
  replace HB := Lib.hid (HB.out.trans ((HB1.out.trans (q1.2.1 _ (by rw [HN6.out]; exact Nat.le_refl _))).mono HB.out.size))
  replace K6 : Hid (Blk 39 wz N6 (pdC p)) := Lib.hid q1.1
  clear q1 HB1 HN6
  obtain ⟨kd, hkd⟩ : ∃ k, z 4 = k := ⟨_, rfl⟩
  rw [hkd] at HQ HKD
  have c0 : wz.cell? ⟨N6, 0, none⟩ = some (.int .u8 kd) := (K6.out.cell 0).trans (by rw [pdC_0, HKD.out])
  have HL : Hid (∀ W, Calls Tryz.prog 48 #[.int .u8 kd] W fun e w' => e = .returned (.bool false) ∧ W = w') := Lib.hid (fun W => by have h9 := lsp_q kd q HQ.out.1 HQ.out.2.1 W; rw [decide_eq_false HQ.out.2.2] at h9; exact h9)
  clear hkd
  go_wp2_with fail
  refine (HL.out _).mono ?_
  rintro e w9 ⟨rfl, rfl⟩
  go_wp2_with fail
  refine bodyPost_ret (v := .tuple #[.int .i64 0, .int .i64 3]) (by simp [results, Tryz.f16, go_sem]) rfl ?_
  exact ⟨rfl, HB.out⟩
def DPutP (w : World) (B sr : Nat) (R : List Rh) (rf : Bool) (t : Hd) (e : Ending) (w' : World) : Prop :=
  ∃ x E : Int, e = .returned (.tuple #[.int .i64 x, .int .i64 E]) ∧ Fr1 w w' sr ∧
  ((∃ h9 : Rh, h9.x.1 = t ∧ w.heap.size ≤ h9.g ∧ (∀ r ∈ R, r.x.1.id ≠ t.id) ∧ R.length < 512 ∧ x = 1 ∧ E = 0 ∧ RfAt w' B sr (insR R h9) rf) ∨
   ((∀ r ∈ R, r.x.1.id ≠ t.id) ∧ 512 ≤ R.length ∧ x = 0 ∧ E = 10 ∧ RfAt w' B sr R true) ∨
   (∃ r ∈ R, r.x.1.id = t.id ∧ relH t r.x.1 ≤ 0 ∧ x = relH t r.x.1 ∧ E = 0 ∧ RfAt w' B sr R rf) ∨
   (∃ h9 : Rh, h9.x.1 = t ∧ w.heap.size ≤ h9.g ∧ ∃ r ∈ R, r.x.1.id = t.id ∧ 0 < relH t r.x.1 ∧ x = 1 ∧ E = 0 ∧ RfAt w' B sr (insR R h9) rf))
theorem slice_24 (o : Oper) (e : Operand → Value) (x : Operand) (ho : o.op = .slice 40 x (some (.const (.int .i64 24))) (some (.const (.int .i64 26))) none) (b off l c : Nat) (h0 : e x = .slice (some ⟨b, off, none⟩) l c) (hl : 27 ≤ l) (hc : l ≤ c) (hk1 : e (.const (.int .i64 24)) = .int .i64 24) (hk2 : e (.const (.int .i64 26)) = .int .i64 26) (W : World) : (execOp e o).run Tryz.prog W = .ok (.value (.slice (some ⟨b, off + 24, none⟩) 2 (c - 24))) W := by
  unfold execOp
  simp only [ho, h0, hk1, hk2, Option.map_none, Option.map_some]
  have e1 : ¬ ((c : Int) < 26) := by omega
  have e2 : ¬ (c = 24) := by omega
  have e3 : (26 : Int) ≤ (c : Int) := by omega
  have e4 : ¬ (c < 26) := by omega
  have e5 : 26 ≤ c := by omega
  simp [go_sem, e1, e2, e3, e4, e5]
theorem row_24 {w : World} {b off n : Nat} {z : Nat → Int} (h : Row8 w b off n z) (hn : 26 ≤ n) : Row8 w b (off + 24) 2 (fun j => z (24 + j)) := ⟨h.1, fun j hj => by have := h.2.1 (24 + j) (by omega); rw [← Nat.add_assoc] at this; exact this, fun j => h.2.2 _⟩
theorem rd_row {w : World} {b off n : Nat} {z : Nat → Int} (h : Row8 w b off n z) : Rd w (some ⟨b, off, none⟩) n z := ⟨.inr ⟨b, off, rfl, h⟩, h.2.2⟩
theorem pd_idr {w : World} {N i : Nat} {p : Pd} {z : Nat → Int} (h : Blk 39 w N (pdC p)) (hp : p.id = fun j => z (12 + j)) (hi : i = idZ z) (hz : ∀ j, 0 ≤ z j ∧ z j ≤ 255) : w.rangeAt N 20 (iC i).toList := by
  rw [hi, iC_z hz]
  refine h.range (eight8 ?_)
  refine ⟨?_, ?_, ?_, ?_, ?_, ?_, ?_, ?_⟩
  · show some (Value.int .u8 (p.id 0)) = some (Value.int .u8 (z 12)); rw [hp]
  · show some (Value.int .u8 (p.id 1)) = some (Value.int .u8 (z 13)); rw [hp]
  · show some (Value.int .u8 (p.id 2)) = some (Value.int .u8 (z 14)); rw [hp]
  · show some (Value.int .u8 (p.id 3)) = some (Value.int .u8 (z 15)); rw [hp]
  · show some (Value.int .u8 (p.id 4)) = some (Value.int .u8 (z 16)); rw [hp]
  · show some (Value.int .u8 (p.id 5)) = some (Value.int .u8 (z 17)); rw [hp]
  · show some (Value.int .u8 (p.id 6)) = some (Value.int .u8 (z 18)); rw [hp]
  · show some (Value.int .u8 (p.id 7)) = some (Value.int .u8 (z 19)); rw [hp]
theorem rf_flag {w w' : World} {B sr lR c1 : Nat} {R : List Rh} {rf : Bool} {A1 : Option Addr} {C0 : Array Value} (hst : RfAt w B sr R rf) (hs : Blk 29 w sr C0) (hl : R.length = lR) (hf : Fr1 w w' sr) (hb : Blk 29 w' sr #[.slice A1 lR c1, .bool true]) (h0 : C0 = #[.slice A1 R.length c1, .bool rf]) : RfAt w' B sr R true := by
  obtain ⟨h1, h2, v, h3, h4⟩ := hst
  have e1 : w.heap[sr]? = _ := h3
  have e2 : w.heap[sr]? = _ := hs
  rw [e1] at e2
  injection e2 with e2
  injection e2 with e2 _ _
  rw [h0] at e2
  have e3 : v = .slice A1 R.length c1 := by
    have := congrArg (·[0]?) e2
    simpa using this
  subst e3
  refine ⟨h1, fun r hr => ⟨(h2 r hr).1.fr1 hf hs, (h2 r hr).2⟩, _, by rw [← hl] at hb; exact hb, ?_⟩
  rcases h4 with ⟨o1, o2 | ⟨g9, cap9, cur9, o2, o3, o4, rest⟩⟩
  · exact ⟨o1, .inl o2⟩
  · refine ⟨o1, .inr ⟨g9, cap9, cur9, o2, o3, (hf.block g9 (Array.getElem?_eq_some_iff.1 o4).1 ?_).trans o4, rest⟩⟩
    rintro rfl
    rw [e1] at o4
    injection o4 with o4
    injection o4 with _ o4 _
    exact absurd o4 (by decide)
set_option maxHeartbeats 40000000 in
set_option maxRecDepth 100000 in
theorem docPutR_yes (A : Option Addr) (n c B sr m : Nat) (R : List Rh) (rf : Bool) (z : Nat → Int) (w : World) (hst : RfAt w B sr R rf) (ha : AscR R) (hl : R.length ≤ 600) (hq : cls (z 4) = 2) (hn : 27 ≤ n ∧ n ≤ 1492) (hB : Rd w A n z) (hc : n ≤ c) (hcm : c ≤ maxLen) (hg : GoodZ z n m) (hrd : Calls Tryz.prog 47 #[.slice A n c] w (RdOk w 2 z m)) :
    Calls Tryz.prog 16 #[.pointer (some ⟨sr, 0, none⟩), .slice A n c] w (DPutP w B sr R rf (hdZ n z)) := by
  have HRD := Lib.hid hrd
  obtain ⟨ba, oa, rfl, hra⟩ := hB.row (by omega)
  have HRA := Lib.hid hra
  have HN := Lib.hid hn
  have HC := Lib.hid (And.intro hc hcm)
  have HST := Lib.hid hst
  have HAS := Lib.hid ha
  have HL6 := Lib.hid hl
  have HG := Lib.hid (show ∃ m, GoodZ z n m from ⟨m, hg⟩)
  have HQ := Lib.hid hq
  obtain ⟨A1, c1, hs, hc1, hc2, hrdR, _⟩ := hst.open
  have KS := Lib.hid hs
  have KS0 := Lib.hid hs
  have HRR := Lib.hid hrdR
  obtain ⟨lR, hlR⟩ : ∃ l, R.length = l := ⟨_, rfl⟩
  have HLR := Lib.hid hlR
  rw [hlR] at HRR KS
  have hlR6 : lR ≤ 600 := by omega
  obtain ⟨t, ht⟩ : ∃ t, hdZ n z = t := ⟨_, rfl⟩
  have HT := Lib.hid (show t.id = idZ z ∧ t.n = n ∧ t.z = z ∧ t.pu = 0 by rw [← ht]; exact hdZ_f n z)
  have HTV : Hid (t.sq = (numZ (fun j => z (20 + j)) 0 4).toNat ∧ t.li = (((numZ (fun j => z (10 + j)) 0 2).toNat : Nat) : Int) ∧ (t.su : Int) = z 24 * 256 + z 25) := Lib.hid (by rw [← ht]; refine ⟨rfl, rfl, ?_⟩; show (((z 24 * 256 + z 25).toNat : Nat) : Int) = _; have := hra.2.2 24; have := hra.2.2 25; omega)
  have HSU : Hid (t.su ≤ 65535) := Lib.hid (by have := HTV.out.2.2; have := hra.2.2 24; have := hra.2.2 25; omega)
  have HID : Hid (IdOk t.id) := Lib.hid (by rw [HT.out.1]; exact idZ_bd z hra.2.2)
  have hcI : (c : Int) ≤ 9223372036854775807 := by have h9 : maxLen = 9223372036854775807 := rfl; omega
  have hn26 : (26 : Int) ≤ (c : Int) := by omega
  have hlt_sr := hst.lt
  have HLT0 := Lib.hid hlt_sr
  have HBw : Hid (B ≤ w.heap.size) := Lib.hid (Nat.le_of_lt (Nat.lt_of_le_of_lt hst.hs hst.lt))
  rw [ht]
  clear hst ha hl hq hn hB hc hcm hg hrd hra hs hc1 hc2 hrdR hlR ht
  go_enter Tryz.func16, Tryz.ntmps16
  go_wp2_with fail
  refine HRD.out.mono ?_
  rintro e w1 ⟨A7, c7, L, rfl, ho, hI, hA7, hc71, hc72, b1⟩
  clear ho hI hA7 hc71 hc72
  have HB := Lib.hid b1
  replace KS := Lib.hid (KS.out.below b1 KS.out.lt)
  clear b1 HRD
  obtain ⟨p, hp⟩ : ∃ p, withT (rdP 2 z) A7 m c7 = p := ⟨_, rfl⟩
  rw [hp]
  obtain ⟨r1, r2, r3, r4⟩ := rd2 z
  have HF : Hid (p.kd = z 4 ∧ p.li = t.li ∧ p.sq = t.sq ∧ p.id = fun j => z (12 + j)) := Lib.hid (by rw [← hp, HTV.out.1, HTV.out.2.1]; exact ⟨r1, r2, r4, r3⟩)
  clear hp r1 r2 r3 r4
  obtain ⟨N6, hN6⟩ : ∃ N, w1.heap.size = N := ⟨_, rfl⟩
  have HN6 := Lib.hid hN6
  clear hN6
  go_wp2_with (refine wpList_new (op := ⟨some 6, _, _, _, _, _⟩) rfl 39 rfl (pdC pd0) zero_pdR N6 HN6.out ?_; intro w5 k1 b1 s9; refine Hid.out ?_)
  refine Lib.hid ?_
  have K6 := Lib.hid k1
  have HB1 := Lib.hid b1
  clear k1 b1 s9
  go_wp2_with (refine wpList_st rfl 39 (.tmp 6) (.tmp 14) rfl N6 0 rfl (.agg (pdC p)) (pdC p) rfl rfl info_pdR (pdC_one _) K6.out (Nat.le_of_ble_eq_true rfl) (C' := pdC p) (pd_overD _) ?_; intro wz q1; refine Hid.out ?_)
  refine Lib.hid ?_
  have KSn := Lib.hid (KS.out.below (HB1.out.trans (q1.2.1 _ (by rw [HN6.out]; exact Nat.le_refl _))) KS.out.lt)
  replace HB := Lib.hid (HB.out.trans ((HB1.out.trans (q1.2.1 _ (by rw [HN6.out]; exact Nat.le_refl _))).mono HB.out.size))
  replace K6 : Hid (Blk 39 wz N6 (pdC p)) := Lib.hid q1.1
  clear q1 HB1 HN6
  clear KS
  have KS := KSn
  clear KSn
  obtain ⟨kd, hkd⟩ : ∃ k, z 4 = k := ⟨_, rfl⟩
  have HZ4 := Lib.hid hkd
  rw [hkd] at HQ HF
  have c0 : wz.cell? ⟨N6, 0, none⟩ = some (.int .u8 kd) := (K6.out.cell 0).trans (by rw [pdC_0, HF.out.1])
  have HL : Hid (∀ W, Calls Tryz.prog 48 #[.int .u8 kd] W fun e w' => e = .returned (.bool true) ∧ W = w') := Lib.hid (fun W => by have h9 := lsp_q kd 2 HQ.out (by decide) W; exact h9)
  clear hkd
  go_wp2_with fail
  refine (HL.out _).mono ?_
  rintro e w9 ⟨rfl, rfl⟩
  go_upto_region 8 with (fail)
  clear c0
  have HWR : Hid (IntKind.u16.wrap (z 24 * 256 + z 25) = (t.su : Int)) := Lib.hid (by have h8 := HSU.out; rw [← HTV.out.2.2]; simp [IntKind.wrap, IntKind.signed, IntKind.bits]; omega)
  go_cut [8] (fun s8 wc => ∃ (N : Nat) (h9 : Rh), s8 = .pointer (some ⟨N, 0, none⟩) ∧ Hid (Blk 95 wc N (rhC h9)) ∧ Hid (h9.x.1 = t) ∧ Hid (RhOk wc h9) ∧ Hid (w.heap.size ≤ h9.g) ∧ Hid (Blk 29 wc sr #[.slice A1 lR c1, .bool rf]) ∧ Hid (Below w.heap.size w wc))
  case first =>
    refine wp_region_held_drew (S := fun w' => Blk 29 w' sr (#[.slice A1 lR c1, .bool rf]) ∧ Blk 39 w' N6 (pdC p) ∧ Below w.heap.size w w') (by kernel_rfl) ⟨KS.out, K6.out, HB.out.drew⟩ (fun hS => ?_)
    generalize hW21 : wz.drew = W21 at hS  ⊢
    clear hW21
    clear KS
    clear K6
    clear HB
    have KS := Lib.hid hS.1
    have K6 := Lib.hid hS.2.1
    have HB := Lib.hid hS.2.2
    refine tY (i := 0) (some 37) (v := .pointer (some ⟨N6, 20, none⟩)) rfl rfl (fun w' hS => by clear hS; go_simp) hS ?_
    simp only [Act.put, pA, pB, pC]
    refine tL (i := 1) (some 38) 35 (.tmp 37) N6 20 (iC t.id) _ rfl rfl rfl rfl (fun w' hS => pd_idr hS.2.1 HF.out.2.2.2 (by rw [HT.out.1]) HRA.out.2.2) Tryz.underlying35 rfl info_iC hS ?_
    simp only [Act.put, pA, pB, pC]
    refine tY (i := 2) (some 39) (v := .pointer (some ⟨N6, 28, none⟩)) rfl rfl (fun w' hS => by clear hS; go_simp) hS ?_
    simp only [Act.put, pA, pB, pC]
    refine tY (i := 3) (some 40) (v := .int .u32 (t.sq : Int)) rfl rfl (fun w' hS => by (have c9 : w'.cell? ⟨N6, 28, none⟩ = some (.int .u32 (t.sq : Int)) := (hS.2.1.cell 28).trans (by rw [← HF.out.2.2.1]; rfl); clear hS; go_simp)) hS ?_
    simp only [Act.put, pA, pB, pC]
    refine tY (i := 4) (some 41) (v := .slice (some ⟨ba, oa, none⟩) n c) rfl rfl (fun w' hS => by clear hS; go_simp) hS ?_
    simp only [Act.put, pA, pB, pC]
    refine tY (i := 5) (some 42) (v := .slice (some ⟨ba, oa + 24, none⟩) 2 (c - 24)) rfl rfl (fun w' hS => by exact slice_24 _ _ _ rfl ba oa n c rfl (by have := HN.out; omega) HC.out.1 rfl rfl _) hS ?_
    simp only [Act.put, pA, pB, pC]
    refine tY (i := 8) (some 45) (v := .pointer (some ⟨N6, 19, none⟩)) rfl rfl (fun w' hS => by clear hS; go_simp) hS ?_
    simp only [Act.put, pA, pB, pC]
    refine tY (i := 9) (some 46) (v := .int .i64 t.li) rfl rfl (fun w' hS => by (have c9 : w'.cell? ⟨N6, 19, none⟩ = some (.int .i64 t.li) := (hS.2.1.cell 19).trans (by rw [← HF.out.2.1]; rfl); clear hS; go_simp)) hS ?_
    simp only [Act.put, pA, pB, pC]
    refine tY (i := 10) (some 47) (v := .slice (some ⟨ba, oa, none⟩) n c) rfl rfl (fun w' hS => by clear hS; go_simp) hS ?_
    simp only [Act.put, pA, pB, pC]
    obtain ⟨M0, hM0⟩ : ∃ N, W21.heap.size = N := ⟨_, rfl⟩
    have HM0 := Lib.hid hM0
    clear hM0
    refine wpAnyH_ready (show Region.ready _ _ _ = [6, 13] from by kernel_rfl) (by simp) (consC (i := 6) (some 43) 49 #[.slice (some ⟨ba, oa + 24, none⟩) 2 (c - 24)] (.int .u64 (z 24 * 256 + z 25)) (R := fun w' => Below W21.heap.size W21 w') rfl rfl (by rfl) (by go_simp) (number_twoD ba (oa + 24) (c - 24) (fun j => z (24 + j)) W21 (row_24 (HRA.out.below' HB.out) (by have := HN.out; omega))) (fun w' hb => ⟨hS.1.below hb hS.1.lt, hS.2.1.below hb hS.2.1.lt, hS.2.2.trans (hb.mono hS.2.2.size)⟩) ?_ (consMk (i := 13) (some 8) 95 (rhZ) rfl rfl (by rfl) rfl zero_rh M0 HM0.out ?_ AllReadyH.nil))
    · skip
      clear HM0
      intro W22 hb1 hS2
      simp only [Act.put, pA, pB, pC]
      clear KS
      clear K6
      clear HB
      clear hS
      have hS := hS2
      clear hS2
      have KS := Lib.hid hS.1
      have K6 := Lib.hid hS.2.1
      have HB := Lib.hid hS.2.2
      refine tY (i := 7) (some 44) (v := .int .u16 (t.su : Int)) rfl rfl (fun w' hS => by clear hS; go_simp; exact HWR.out) hS ?_
      simp only [Act.put, pA, pB, pC]
      clear hb1
      obtain ⟨M1, hM1⟩ : ∃ N, W22.heap.size = N := ⟨_, rfl⟩
      have HM1 := Lib.hid hM1
      clear hM1
      refine wpAnyH_ready (show Region.ready _ _ _ = [11, 13] from by kernel_rfl) (by simp) (consCE (i := 11) (some 48) 15 #[.slice (some ⟨ba, oa, none⟩) n c] (R := fun v w' => ∃ g9 c9, v = .slice (some ⟨g9, 0, none⟩) n c9 ∧ W22.heap.size ≤ g9 ∧ w.heap.size ≤ g9 ∧ Own8 w' g9 n c9 z ∧ Below W22.heap.size W22 w') rfl rfl (by rfl) (by go_simp) ((twin_any (some ⟨ba, oa, none⟩) n c z W22 (rd_row (HRA.out.below' HB.out)) (fun e => by cases e) (by have := HN.out; omega)).mono (fun e w' ⟨g9, c9, a1, a2, a3, a4⟩ => ⟨_, a1, g9, c9, rfl, a2, Nat.le_trans HB.out.size a2, a3, a4⟩)) (fun v w' h => by obtain ⟨g9, c9, rfl, hg9, hgle, hO9, hb9⟩ := h; exact ⟨hS.1.below hb9 hS.1.lt, hS.2.1.below hb9 hS.2.1.lt, hS.2.2.trans (hb9.mono hS.2.2.size)⟩) ?_ (consMk (i := 13) (some 8) 95 (rhZ) rfl rfl (by rfl) rfl zero_rh M1 HM1.out ?_ AllReadyH.nil))
      · skip
        clear HM1
        intro v W23 h hS2
        obtain ⟨g9, c9, rfl, hg9, hgle, hO9, hb9⟩ := h
        simp only [Act.put, pA, pB, pC]
        clear KS
        clear K6
        clear HB
        clear hS
        have hS := hS2
        clear hS2
        have KS := Lib.hid hS.1
        have K6 := Lib.hid hS.2.1
        have HB := Lib.hid hS.2.2
        have HO9 : Hid (OwnX W23 g9 n c9 z) := Lib.hid hO9
        have HG9 : Hid (w.heap.size ≤ g9) := Lib.hid hgle
        clear hO9 hg9 hb9 hgle
        obtain ⟨M2, hM2⟩ : ∃ N, W23.heap.size = N := ⟨_, rfl⟩
        have HM2 := Lib.hid hM2
        clear hM2
        refine tY (i := 12) (some 49) (v := .agg (rhC ⟨⟨t, HID.out⟩, g9, c9⟩)) rfl rfl (fun w' hS => by exact build_rh _ _ _ _ _ _ _ rfl ⟨⟨t, HID.out⟩, g9, c9⟩ HT.out.2.2.2 rfl rfl rfl rfl (by rw [show (⟨⟨t, HID.out⟩, g9, c9⟩ : Rh).x.1.n = n from HT.out.2.1]; rfl) _) hS ?_
        simp only [Act.put, pA, pB, pC]
        refine takeMk (i := 13) (some 8) 95 (rhZ) rfl rfl (by kernel_rfl) (by rfl) rfl zero_rh M2 HM2.out ?_
        intro W24 k1 b1 s1
        refine ⟨⟨hS.1.below b1 hS.1.lt, hS.2.1.below b1 hS.2.1.lt, hS.2.2.trans (b1.mono hS.2.2.size)⟩, ?_⟩
        simp only [Act.put, pA, pB, pC]
        have K8 := Lib.hid k1
        clear k1
        have lt_sr_M2 : sr < M2 := by rw [← HM2.out]; exact KS.out.lt
        have lt_N6_M2 : N6 < M2 := by rw [← HM2.out]; exact K6.out.lt
        have le_HB_M2 : w.heap.size ≤ M2 := by rw [← HM2.out]; exact HB.out.size
        replace HO9 := Lib.hid (HO9.out.below b1)
        replace KS := Lib.hid (KS.out.below b1 KS.out.lt)
        replace K6 := Lib.hid (K6.out.below b1 K6.out.lt)
        replace HB := Lib.hid (HB.out.trans (b1.mono HB.out.size))
        clear b1 HM2 hS
        have hS := (And.intro KS.out (And.intro K6.out HB.out))
        have hne9 : g9 ≠ M2 := own8_neH HO9.out K8.out
        refine takeSt (i := 14) 95 (.tmp 8) (.tmp 49) M2 0 (.agg (rhC ⟨⟨t, HID.out⟩, g9, c9⟩)) (rhC ⟨⟨t, HID.out⟩, g9, c9⟩) (rhC ⟨⟨t, HID.out⟩, g9, c9⟩) rfl rfl (by kernel_rfl) (by rfl) rfl rfl rfl rfl info_rh (rhC_one _) K8.out (Nat.le_of_ble_eq_true rfl) (rh_overZ _) ?_
        intro W25 q1
        refine ⟨⟨KS.out.far q1 (by omega), K6.out.far q1 (by omega), HB.out.trans (q1.2.1 _ (by omega))⟩, ?_⟩
        simp only [Act.put, pA, pB, pC]
        replace K8 : Hid (Blk 95 W25 M2 (rhC ⟨⟨t, HID.out⟩, g9, c9⟩)) := Lib.hid q1.1
        replace HO9 := Lib.hid (HO9.out.far q1 (by omega))
        replace KS := Lib.hid (KS.out.far q1 (by omega))
        replace K6 := Lib.hid (K6.out.far q1 (by omega))
        replace HB := Lib.hid (HB.out.trans (q1.2.1 _ (by omega)))
        clear q1 hS
        have hS := (And.intro KS.out (And.intro K6.out HB.out))
        clear hS
        refine wpAnyH_done (by kernel_rfl) ?_ _
        go_wp2_with fail
        go_meet
        case rel => exact ⟨M2, ⟨⟨t, HID.out⟩, g9, c9⟩, rfl, K8, Lib.hid rfl, Lib.hid (by refine ⟨?_, ?_, ?_⟩; (show Own8 _ g9 t.n c9 t.z; rw [HT.out.2.1, HT.out.2.2.1]; exact HO9.out); (show cls (t.z 4) = 2; rw [HT.out.2.2.1, HZ4.out]; exact HQ.out); (show (27 ≤ t.n ∧ t.n ≤ 1492) ∧ ∃ m, GoodZ t.z t.n m; rw [HT.out.2.1, HT.out.2.2.1]; exact ⟨HN.out, HG.out⟩)), HG9, KS, HB⟩
      · skip
        intro W24 k1 b1 s1
        refine ⟨⟨hS.1.below b1 hS.1.lt, hS.2.1.below b1 hS.2.1.lt, hS.2.2.trans (b1.mono hS.2.2.size)⟩, ?_⟩
        simp only [Act.put, pA, pB, pC]
        have K8 := Lib.hid k1
        clear k1
        have lt_sr_M1 : sr < M1 := by rw [← HM1.out]; exact KS.out.lt
        have lt_N6_M1 : N6 < M1 := by rw [← HM1.out]; exact K6.out.lt
        have le_HB_M1 : w.heap.size ≤ M1 := by rw [← HM1.out]; exact HB.out.size
        replace KS := Lib.hid (KS.out.below b1 KS.out.lt)
        replace K6 := Lib.hid (K6.out.below b1 K6.out.lt)
        replace HB := Lib.hid (HB.out.trans (b1.mono HB.out.size))
        clear b1 HM1 hS
        have hS := (And.intro KS.out (And.intro K6.out HB.out))
        refine takeCE (i := 11) (some 48) 15 #[.slice (some ⟨ba, oa, none⟩) n c] (R := fun v w' => ∃ g9 c9, v = .slice (some ⟨g9, 0, none⟩) n c9 ∧ W24.heap.size ≤ g9 ∧ w.heap.size ≤ g9 ∧ Own8 w' g9 n c9 z ∧ Below W24.heap.size W24 w') rfl rfl (by kernel_rfl) (by rfl) (by go_simp) ((twin_any (some ⟨ba, oa, none⟩) n c z W24 (rd_row (HRA.out.below' HB.out)) (fun e => by cases e) (by have := HN.out; omega)).mono (fun e w' ⟨g9, c9, a1, a2, a3, a4⟩ => ⟨_, a1, g9, c9, rfl, a2, Nat.le_trans HB.out.size a2, a3, a4⟩)) (fun v w' h => by obtain ⟨g9, c9, rfl, hg9, hgle, hO9, hb9⟩ := h; exact ⟨hS.1.below hb9 hS.1.lt, hS.2.1.below hb9 hS.2.1.lt, hS.2.2.trans (hb9.mono hS.2.2.size)⟩) ?_
        intro v W25 h hS2
        obtain ⟨g9, c9, rfl, hg9, hgle, hO9, hb9⟩ := h
        simp only [Act.put, pA, pB, pC]
        replace K8 := Lib.hid (K8.out.below hb9 K8.out.lt)
        clear KS
        clear K6
        clear HB
        clear hS
        have hS := hS2
        clear hS2
        have KS := Lib.hid hS.1
        have K6 := Lib.hid hS.2.1
        have HB := Lib.hid hS.2.2
        have HO9 : Hid (OwnX W25 g9 n c9 z) := Lib.hid hO9
        have HG9 : Hid (w.heap.size ≤ g9) := Lib.hid hgle
        clear hO9 hg9 hb9 hgle
        refine tY (i := 12) (some 49) (v := .agg (rhC ⟨⟨t, HID.out⟩, g9, c9⟩)) rfl rfl (fun w' hS => by exact build_rh _ _ _ _ _ _ _ rfl ⟨⟨t, HID.out⟩, g9, c9⟩ HT.out.2.2.2 rfl rfl rfl rfl (by rw [show (⟨⟨t, HID.out⟩, g9, c9⟩ : Rh).x.1.n = n from HT.out.2.1]; rfl) _) hS ?_
        simp only [Act.put, pA, pB, pC]
        have hne9 : g9 ≠ M1 := own8_neH HO9.out K8.out
        refine takeSt (i := 14) 95 (.tmp 8) (.tmp 49) M1 0 (.agg (rhC ⟨⟨t, HID.out⟩, g9, c9⟩)) (rhC ⟨⟨t, HID.out⟩, g9, c9⟩) (rhC ⟨⟨t, HID.out⟩, g9, c9⟩) rfl rfl (by kernel_rfl) (by rfl) rfl rfl rfl rfl info_rh (rhC_one _) K8.out (Nat.le_of_ble_eq_true rfl) (rh_overZ _) ?_
        intro W26 q1
        refine ⟨⟨KS.out.far q1 (by omega), K6.out.far q1 (by omega), HB.out.trans (q1.2.1 _ (by omega))⟩, ?_⟩
        simp only [Act.put, pA, pB, pC]
        replace K8 : Hid (Blk 95 W26 M1 (rhC ⟨⟨t, HID.out⟩, g9, c9⟩)) := Lib.hid q1.1
        replace HO9 := Lib.hid (HO9.out.far q1 (by omega))
        replace KS := Lib.hid (KS.out.far q1 (by omega))
        replace K6 := Lib.hid (K6.out.far q1 (by omega))
        replace HB := Lib.hid (HB.out.trans (q1.2.1 _ (by omega)))
        clear q1 hS
        have hS := (And.intro KS.out (And.intro K6.out HB.out))
        clear hS
        refine wpAnyH_done (by kernel_rfl) ?_ _
        go_wp2_with fail
        go_meet
        case rel => exact ⟨M1, ⟨⟨t, HID.out⟩, g9, c9⟩, rfl, K8, Lib.hid rfl, Lib.hid (by refine ⟨?_, ?_, ?_⟩; (show Own8 _ g9 t.n c9 t.z; rw [HT.out.2.1, HT.out.2.2.1]; exact HO9.out); (show cls (t.z 4) = 2; rw [HT.out.2.2.1, HZ4.out]; exact HQ.out); (show (27 ≤ t.n ∧ t.n ≤ 1492) ∧ ∃ m, GoodZ t.z t.n m; rw [HT.out.2.1, HT.out.2.2.1]; exact ⟨HN.out, HG.out⟩)), HG9, KS, HB⟩
    · skip
      intro W23 k1 b1 s1
      refine ⟨⟨hS.1.below b1 hS.1.lt, hS.2.1.below b1 hS.2.1.lt, hS.2.2.trans (b1.mono hS.2.2.size)⟩, ?_⟩
      simp only [Act.put, pA, pB, pC]
      have K8 := Lib.hid k1
      clear k1
      have lt_sr_M0 : sr < M0 := by rw [← HM0.out]; exact KS.out.lt
      have lt_N6_M0 : N6 < M0 := by rw [← HM0.out]; exact K6.out.lt
      have le_HB_M0 : w.heap.size ≤ M0 := by rw [← HM0.out]; exact HB.out.size
      replace KS := Lib.hid (KS.out.below b1 KS.out.lt)
      replace K6 := Lib.hid (K6.out.below b1 K6.out.lt)
      replace HB := Lib.hid (HB.out.trans (b1.mono HB.out.size))
      clear b1 HM0 hS
      have hS := (And.intro KS.out (And.intro K6.out HB.out))
      refine takeC (i := 6) (some 43) 49 #[.slice (some ⟨ba, oa + 24, none⟩) 2 (c - 24)] (.int .u64 (z 24 * 256 + z 25)) (R := fun w' => Below W23.heap.size W23 w') rfl rfl (by kernel_rfl) (by rfl) (by go_simp) (number_twoD ba (oa + 24) (c - 24) (fun j => z (24 + j)) W23 (row_24 (HRA.out.below' HB.out) (by have := HN.out; omega))) (fun w' hb => ⟨hS.1.below hb hS.1.lt, hS.2.1.below hb hS.2.1.lt, hS.2.2.trans (hb.mono hS.2.2.size)⟩) ?_
      intro W24 hb1 hS2
      simp only [Act.put, pA, pB, pC]
      replace K8 := Lib.hid (K8.out.below hb1 K8.out.lt)
      clear KS
      clear K6
      clear HB
      clear hS
      have hS := hS2
      clear hS2
      have KS := Lib.hid hS.1
      have K6 := Lib.hid hS.2.1
      have HB := Lib.hid hS.2.2
      refine tY (i := 7) (some 44) (v := .int .u16 (t.su : Int)) rfl rfl (fun w' hS => by clear hS; go_simp; exact HWR.out) hS ?_
      simp only [Act.put, pA, pB, pC]
      clear hb1
      refine takeCE (i := 11) (some 48) 15 #[.slice (some ⟨ba, oa, none⟩) n c] (R := fun v w' => ∃ g9 c9, v = .slice (some ⟨g9, 0, none⟩) n c9 ∧ W24.heap.size ≤ g9 ∧ w.heap.size ≤ g9 ∧ Own8 w' g9 n c9 z ∧ Below W24.heap.size W24 w') rfl rfl (by kernel_rfl) (by rfl) (by go_simp) ((twin_any (some ⟨ba, oa, none⟩) n c z W24 (rd_row (HRA.out.below' HB.out)) (fun e => by cases e) (by have := HN.out; omega)).mono (fun e w' ⟨g9, c9, a1, a2, a3, a4⟩ => ⟨_, a1, g9, c9, rfl, a2, Nat.le_trans HB.out.size a2, a3, a4⟩)) (fun v w' h => by obtain ⟨g9, c9, rfl, hg9, hgle, hO9, hb9⟩ := h; exact ⟨hS.1.below hb9 hS.1.lt, hS.2.1.below hb9 hS.2.1.lt, hS.2.2.trans (hb9.mono hS.2.2.size)⟩) ?_
      intro v W25 h hS2
      obtain ⟨g9, c9, rfl, hg9, hgle, hO9, hb9⟩ := h
      simp only [Act.put, pA, pB, pC]
      replace K8 := Lib.hid (K8.out.below hb9 K8.out.lt)
      clear KS
      clear K6
      clear HB
      clear hS
      have hS := hS2
      clear hS2
      have KS := Lib.hid hS.1
      have K6 := Lib.hid hS.2.1
      have HB := Lib.hid hS.2.2
      have HO9 : Hid (OwnX W25 g9 n c9 z) := Lib.hid hO9
      have HG9 : Hid (w.heap.size ≤ g9) := Lib.hid hgle
      clear hO9 hg9 hb9 hgle
      refine tY (i := 12) (some 49) (v := .agg (rhC ⟨⟨t, HID.out⟩, g9, c9⟩)) rfl rfl (fun w' hS => by exact build_rh _ _ _ _ _ _ _ rfl ⟨⟨t, HID.out⟩, g9, c9⟩ HT.out.2.2.2 rfl rfl rfl rfl (by rw [show (⟨⟨t, HID.out⟩, g9, c9⟩ : Rh).x.1.n = n from HT.out.2.1]; rfl) _) hS ?_
      simp only [Act.put, pA, pB, pC]
      have hne9 : g9 ≠ M0 := own8_neH HO9.out K8.out
      refine takeSt (i := 14) 95 (.tmp 8) (.tmp 49) M0 0 (.agg (rhC ⟨⟨t, HID.out⟩, g9, c9⟩)) (rhC ⟨⟨t, HID.out⟩, g9, c9⟩) (rhC ⟨⟨t, HID.out⟩, g9, c9⟩) rfl rfl (by kernel_rfl) (by rfl) rfl rfl rfl rfl info_rh (rhC_one _) K8.out (Nat.le_of_ble_eq_true rfl) (rh_overZ _) ?_
      intro W26 q1
      refine ⟨⟨KS.out.far q1 (by omega), K6.out.far q1 (by omega), HB.out.trans (q1.2.1 _ (by omega))⟩, ?_⟩
      simp only [Act.put, pA, pB, pC]
      replace K8 : Hid (Blk 95 W26 M0 (rhC ⟨⟨t, HID.out⟩, g9, c9⟩)) := Lib.hid q1.1
      replace HO9 := Lib.hid (HO9.out.far q1 (by omega))
      replace KS := Lib.hid (KS.out.far q1 (by omega))
      replace K6 := Lib.hid (K6.out.far q1 (by omega))
      replace HB := Lib.hid (HB.out.trans (q1.2.1 _ (by omega)))
      clear q1 hS
      have hS := (And.intro KS.out (And.intro K6.out HB.out))
      clear hS
      refine wpAnyH_done (by kernel_rfl) ?_ _
      go_wp2_with fail
      go_meet
      case rel => exact ⟨M0, ⟨⟨t, HID.out⟩, g9, c9⟩, rfl, K8, Lib.hid rfl, Lib.hid (by refine ⟨?_, ?_, ?_⟩; (show Own8 _ g9 t.n c9 t.z; rw [HT.out.2.1, HT.out.2.2.1]; exact HO9.out); (show cls (t.z 4) = 2; rw [HT.out.2.2.1, HZ4.out]; exact HQ.out); (show (27 ≤ t.n ∧ t.n ≤ 1492) ∧ ∃ m, GoodZ t.z t.n m; rw [HT.out.2.1, HT.out.2.2.1]; exact ⟨HN.out, HG.out⟩)), HG9, KS, HB⟩
  case rest =>
    clear KS K6 HB HL HF HWR
    obtain ⟨N8, h9, rfl, K8, HX9, HOK9, HG9, KS, HB⟩ := hcut
    obtain ⟨W8, hW8⟩ : ∃ x, x = wc := ⟨_, rfl⟩
    subst hW8
    have HR8 := Lib.hid (HST.out.below HB.out)
    have HI8 : Hid (W8.rangeAt N8 0 (iC t.id).toList) := Lib.hid (by rw [← HX9.out]; exact rh_id K8.out)
    go_wp2_with (refine wpList_ld (op := ⟨some 52, _, _, _, _, _⟩) (by rfl) 35 (.tmp 51) rfl N8 0 rfl (iC t.id) _ HI8.out Tryz.underlying35 rfl info_iC ?_; refine Hid.out ?_)
    refine Lib.hid ?_
    clear HI8
    go_wp2_with fail
    refine (findR_any B sr t.id R rf W8 HR8.out HID.out).mono ?_
    rintro e w11 ⟨fi, rfl, b1, hfi⟩
    replace K8 := Lib.hid (K8.out.below b1 K8.out.lt)
    replace KS := Lib.hid (KS.out.below b1 KS.out.lt)
    replace HR8 := Lib.hid (HR8.out.below b1)
    replace HOK9 := Lib.hid (HOK9.out.below b1)
    replace HB := Lib.hid (HB.out.trans (b1.mono HB.out.size))
    clear b1
    rcases hfi with ⟨rfl, hno⟩ | ⟨k, r, rfl, hr, hid⟩
    · have HNO : Hid (∀ r ∈ R, r.x.1.id ≠ t.id) := Lib.hid (fun r hr => by obtain ⟨j, hj⟩ := List.getElem?_of_mem hr; exact hno j r hj)
      clear hno
      have cS : w11.cell? ⟨sr, 0, none⟩ = some (.slice A1 lR c1) := (KS.out.cell 0).trans rfl
      by_cases h512 : 512 ≤ lR
      · have h512I : (512 : Int) ≤ (lR : Int) := by omega
        go_wp2_with (refine wpList_st rfl 4 (.tmp 64) (.const (.bool true)) rfl sr 1 rfl (.bool true) #[.bool true] rfl rfl info_bl (one_b _) KS.out (Nat.le_of_ble_eq_true rfl) (C' := #[.slice A1 lR c1, .bool true]) rfl ?_; intro w12 q1; refine Hid.out ?_)
        refine Lib.hid ?_
        have HF1 : Hid (Fr1 w w12 sr) := Lib.hid ((Fr1.of_below sr HB.out).trans (Fr1.stored q1))
        have HRF : Hid (RfAt w12 B sr R true) := Lib.hid (rf_flag HST.out KS0.out HLR.out HF1.out q1.1 rfl)
        clear q1 cS
        go_wp2_with fail
        refine bodyPost_ret (v := .tuple #[.int .i64 0, .int .i64 10]) (by simp [results, Tryz.f16, go_sem]) rfl ?_
        exact ⟨0, 10, rfl, HF1.out, .inr (.inl ⟨HNO.out, by rw [HLR.out]; exact h512, rfl, rfl, HRF.out⟩)⟩
      · have h512I : ¬ (512 : Int) ≤ (lR : Int) := by omega
        go_wp2_with (refine wpList_ld (op := ⟨some 66, _, _, _, _, _⟩) (by rfl) 95 (.tmp 8) rfl N8 0 rfl (rhC h9) _ K8.out.all Tryz.underlying95 rfl info_rh ?_; refine Hid.out ?_)
        refine Lib.hid ?_
        go_wp2_with fail
        refine (insert_any B sr R h9 rf w11 HR8.out HOK9.out (Nat.le_trans HBw.out HG9.out) HAS.out HL6.out).mono ?_
        rintro e w13 ⟨rfl, hf, hrf⟩
        have HF1 : Hid (Fr1 w w13 sr) := Lib.hid ((Fr1.of_below sr HB.out).trans hf)
        have HRF := Lib.hid hrf
        clear hf hrf
        go_wp2_with fail
        refine bodyPost_ret (v := .tuple #[.int .i64 1, .int .i64 0]) (by simp [results, Tryz.f16, go_sem]) rfl ?_
        exact ⟨1, 0, rfl, HF1.out, .inl ⟨h9, HX9.out, HG9.out, HNO.out, by rw [HLR.out]; omega, rfl, rfl, HRF.out⟩⟩
    · have hkl : k < lR := by rw [← HLR.out]; exact (List.getElem?_eq_some_iff.1 hr).1
      have HR := Lib.hid hr
      have HIDR := Lib.hid hid
      have HMEM : Hid (r ∈ R) := Lib.hid (List.mem_of_getElem? hr)
      clear hid
      have hk0 : ¬ (k : Int) < 0 := by omega
      have hkI : (k : Int) < (lR : Int) := by omega
      obtain ⟨bR, oR, rfl, hrr⟩ := HRR.out.row (by omega)
      have HRG : Hid (∀ W, Below w.heap.size w W → W.rangeAt bR (oR + k * 13) (rhC r).toList) := Lib.hid (fun W hb => by have h9 := rangeAt_below (hrr.2 k hkl) hb hrr.1; rw [rhA_at R k r hr] at h9; exact h9)
      clear hr hrr
      have hlRI : (lR : Int) ≤ 9223372036854775807 := by omega
      go_wp2_with fail
      have HRq : Hid (RfAt w11.drew B sr R rf ∧ RhOk w11.drew h9) := Lib.hid ⟨HR8.out.below ((Below.refl _ _).drew), HOK9.out.below ((Below.refl _ _).drew)⟩
      clear HR8 HOK9
      refine wp_region_held_drew (S := fun w' => Blk 95 w' N8 (rhC h9) ∧ Blk 29 w' sr (#[.slice (some ⟨bR, oR, none⟩) lR c1, .bool rf]) ∧ Below w.heap.size w w') (by kernel_rfl) ⟨K8.out, KS.out, HB.out.drew⟩ (fun hS => ?_)
      generalize hW61 : w11.drew = W61 at hS HRq  ⊢
      clear hW61
      clear K8
      clear KS
      clear HB
      have K8 := Lib.hid hS.1
      have KS := Lib.hid hS.2.1
      have HB := Lib.hid hS.2.2
      refine tL (i := 0) (some 68) 95 (.tmp 8) N8 0 (rhC h9) _ rfl rfl rfl rfl (fun w' hS => hS.1.all) Tryz.underlying95 rfl info_rh hS ?_
      simp only [Act.put, pA, pB, pC]
      refine tY (i := 1) (some 69) (v := .pointer (some ⟨sr, 0, none⟩)) rfl rfl (fun w' hS => by clear hS; go_simp) hS ?_
      simp only [Act.put, pA, pB, pC]
      refine tY (i := 2) (some 70) (v := .pointer (some ⟨sr, 0, none⟩)) rfl rfl (fun w' hS => by clear hS; go_simp) hS ?_
      simp only [Act.put, pA, pB, pC]
      refine tY (i := 3) (some 71) (v := .pointer (some ⟨sr, 0, none⟩)) rfl rfl (fun w' hS => by clear hS; go_simp) hS ?_
      simp only [Act.put, pA, pB, pC]
      refine tY (i := 4) (some 72) (v := .slice (some ⟨bR, oR, none⟩) lR c1) rfl rfl (fun w' hS => by (have c9 : w'.cell? ⟨sr, 0, none⟩ = some (.slice (some ⟨bR, oR, none⟩) lR c1) := (hS.2.1.cell 0).trans rfl; clear hS; go_simp)) hS ?_
      simp only [Act.put, pA, pB, pC]
      refine tY (i := 5) (some 73) (v := .int .i64 (k : Int)) rfl rfl (fun w' hS => by clear hS; go_simp) hS ?_
      simp only [Act.put, pA, pB, pC]
      refine tY (i := 6) (some 74) (v := .pointer (some ⟨bR, oR + k * 13, none⟩)) rfl rfl (fun w' hS => by clear hS; go_simp) hS ?_
      simp only [Act.put, pA, pB, pC]
      refine tL (i := 7) (some 75) 95 (.tmp 74) bR (oR + k * 13) (rhC r) _ rfl rfl rfl rfl (fun w' hS => HRG.out w' hS.2.2) Tryz.underlying95 rfl info_rh hS ?_
      simp only [Act.put, pA, pB, pC]
      have HR8 := Lib.hid HRq.out.1
      have HOK9 := Lib.hid HRq.out.2
      clear HRq
      obtain ⟨rl, hrl⟩ : ∃ v, relH t r.x.1 = v := ⟨_, rfl⟩
      have HRL := Lib.hid hrl
      clear hrl
      refine takeC (i := 8) (some 76) 51 #[.agg (rhC h9), .agg (rhC r)] (.int .i64 rl) (R := fun w' => Below W61.heap.size W61 w') rfl rfl (by kernel_rfl) (by rfl) (by go_simp) (by have h8 := newerR_any h9 r W61 HOK9.out ((HST.out.ok r HMEM.out).1.below HB.out); rw [HX9.out, HRL.out] at h8; exact h8) (fun w' hb => ⟨hS.1.below hb hS.1.lt, hS.2.1.below hb hS.2.1.lt, hS.2.2.trans (hb.mono hS.2.2.size)⟩) (fun W62 hb1 hS2 => ?_)
      simp only [Act.put, pA, pB, pC]
      replace HR8 := Lib.hid (HR8.out.below hb1)
      replace HOK9 := Lib.hid (HOK9.out.below hb1)
      clear K8
      clear KS
      clear HB
      clear hS hb1
      have hS := hS2
      clear hS2
      have K8 := Lib.hid hS.1
      have KS := Lib.hid hS.2.1
      have HB := Lib.hid hS.2.2
      refine tY (i := 9) (some 10) (v := .int .i64 rl) rfl rfl (fun w' hS => by clear hS; go_simp) hS ?_
      simp only [Act.put, pA, pB, pC]
      clear hS
      refine wpAnyH_done (by kernel_rfl) ?_ _
      have HVAL : Hid (rl = -1 ∨ rl = 0 ∨ rl = 1) := Lib.hid (by rw [← HRL.out]; exact tot_relH.val _ _)
      rcases HVAL.out with rfl | rfl | rfl
      · go_wp2_with fail
        refine bodyPost_ret (v := .tuple #[.int .i64 (-1), .int .i64 0]) (by simp [results, Tryz.f16, go_sem]) rfl ?_
        exact ⟨-1, 0, rfl, Fr1.of_below sr HB.out, .inr (.inr (.inl ⟨r, HMEM.out, HIDR.out, by rw [HRL.out]; decide, HRL.out.symm, rfl, HR8.out⟩))⟩
      · go_wp2_with fail
        refine bodyPost_ret (v := .tuple #[.int .i64 (0), .int .i64 0]) (by simp [results, Tryz.f16, go_sem]) rfl ?_
        exact ⟨0, 0, rfl, Fr1.of_below sr HB.out, .inr (.inr (.inl ⟨r, HMEM.out, HIDR.out, by rw [HRL.out]; decide, HRL.out.symm, rfl, HR8.out⟩))⟩
      · skip
        go_wp2_with (refine wpList_ld (op := ⟨some 80, _, _, _, _, _⟩) (by rfl) 95 (.tmp 8) rfl N8 0 rfl (rhC h9) _ K8.out.all Tryz.underlying95 rfl info_rh ?_; refine Hid.out ?_)
        refine Lib.hid ?_
        go_wp2_with fail
        refine (insert_any B sr R h9 rf W62 HR8.out HOK9.out (Nat.le_trans HBw.out HG9.out) HAS.out HL6.out).mono ?_
        rintro e w13 ⟨rfl, hf, hrf⟩
        have HF1 : Hid (Fr1 w w13 sr) := Lib.hid ((Fr1.of_below sr HB.out).trans hf)
        have HRF := Lib.hid hrf
        clear hf hrf
        go_wp2_with fail
        refine bodyPost_ret (v := .tuple #[.int .i64 1, .int .i64 0]) (by simp [results, Tryz.f16, go_sem]) rfl ?_
        exact ⟨1, 0, rfl, HF1.out, .inr (.inr (.inr ⟨h9, HX9.out, HG9.out, r, HMEM.out, HIDR.out, by rw [HRL.out]; decide, rfl, rfl, HRF.out⟩))⟩
end Go.Proofs.YtkiaijmhoikdiaaGreat

/- Put, and in which blocks what is held does not lie. Each theorem states its conditions. -/
namespace Go.Proofs.YtkiaijmhoikdiaaGreat
open Go.RowKit Go.MapKept
set_option linter.unusedVariables false
set_option linter.unusedSimpArgs false

def NotG (w : World) (g G : Nat) : Prop := ∀ (h : Hd) (A : Option Addr) (c : Nat), Blk 91 w g (hdC h A c) → ∀ ro oa, A = some ⟨ro, oa, none⟩ → ro ≠ G
def Rows (w : World) (b G : Nat) : Prop := ∀ M k, MapAt w b M k → ∀ i g, M i = some g → NotG w g G
theorem map_sub {w : World} {b k k' i g : Nat} {M M' : Nat → Option Nat} (h : MapAt w b M k) (h' : MapAt w b M' k') (e : M i = some g) : M' i = some g := by
  obtain ⟨es, c, hb, _, _, _, a2⟩ := h
  obtain ⟨es', c', hb', _, _, a1', _⟩ := h'
  rw [hb] at hb'
  injection hb' with hb'
  injection hb' with e1 _
  subst e1
  obtain ⟨hi, x, hx, hk, hv⟩ := a2 i g e
  obtain ⟨n, g', n1, n2, n3, n4⟩ := a1' x hx
  have hin : i = n := idC_inj hi n1 (Value.agg.inj (hk.symm.trans n2))
  subst hin
  have hg : ptrV (some g) = ptrV (some g') := hv.symm.trans n3
  have : g = g' := by
    simp only [ptrV] at hg
    injection hg with hg
    injection hg with hg
    injection hg
  rw [this]
  exact n4
section
variable {w w' : World} {B s b k G : Nat} {H : Nat → Option Hd} {r : Bool}
theorem held_old (hst : StAt w B s b H k r) {M : Nat → Option Nat} {k1 : Nat} (hM : MapAt w b M k1) (hf : Fr w w' s b) {i g : Nat} (e : M i = some g) : w'.heap[g]? = w.heap[g]? := by
  obtain ⟨_, _, hs, M0, hM0, hMH, hMA, _⟩ := hst
  have e0 := map_sub hM hM0 e
  cases hH : H i with
  | none => rw [(hMH i).2 hH] at e0; cases e0
  | some h =>
    obtain ⟨_, ro, oa, c, k1, _⟩ := (hMA i g h e0 hH).1
    have k1' : w.heap[g]? = _ := k1
    refine hf.block g k1.lt ?_ ?_
    · rintro rfl
      have e2 : w.heap[g]? = _ := hs
      rw [k1'] at e2
      injection e2 with e2
      injection e2 with _ e2 _
      exact absurd e2 (by decide)
    · rintro rfl
      obtain ⟨es, cl, hb, _⟩ := hM0
      rw [k1'] at hb
      cases hb
theorem rows_same (hst : StAt w B s b H k r) (hR : Rows w b G) (hf : Fr w w' s b) (hb : w'.heap[b]? = w.heap[b]?) : Rows w' b G := fun M k1 hM i g e h A c hk => by
  have hM0 : MapAt w b M k1 := hM.at hb.symm
  have hg := held_old hst hM0 hf e
  exact hR M k1 hM0 i g e h A c (hg.symm.trans hk)
theorem rows_put (hst : StAt w B s b H k r) (hR : Rows w b G) (hG : G < w.heap.size) (hf : Fr w w' s b) {M : Nat → Option Nat} {t : Hd} {gt k' g2 c2 : Nat} (hm : MapAt w' b (putM M t.id (some gt)) k') (hM : MapAt w b M k) (hgt : w.heap.size ≤ gt) (hk : Blk 91 w' gt (hdC t (some ⟨g2, 0, none⟩) c2)) (hg2 : w.heap.size ≤ g2) : Rows w' b G := fun M1 k1 hM1 i g e h A c hbk ro oa hA => by
  have e1 := map_sub hM1 hm e
  unfold putM at e1
  by_cases hi : i = t.id
  · rw [if_pos hi] at e1
    cases e1
    have e3 : w'.heap[gt]? = _ := hk
    have e4 : w'.heap[gt]? = _ := hbk
    rw [e3] at e4
    injection e4 with e4
    injection e4 with e4 _ _
    have e5 := congrArg (·[11]?) e4
    have e6 : (some (Value.slice (some ⟨g2, 0, none⟩) t.n c2)) = some (Value.slice A h.n c) := e5
    injection e6 with e6
    injection e6 with e6 _ _
    rw [hA] at e6
    injection e6 with e6
    injection e6 with e6 _ _
    omega
  · rw [if_neg hi] at e1
    have hg := held_old hst hM hf e1
    exact hR M k hM i g e1 h A c (hg.symm.trans hbk) ro oa hA
theorem rows_below (hst : StAt w B s b H k r) (hR : Rows w b G) (hb : Below w.heap.size w w') : Rows w' b G := rows_same hst hR (Fr.of_below s b hb) (hb.block b hst.ltb)
theorem rows_new (hst : StAt w B s b H k r) (hG : w.heap.size ≤ G) : Rows w b G := fun M k1 hM i g e h A c hbk ro oa hA => by
  obtain ⟨_, _, hs, M0, hM0, hMH, hMA, _⟩ := hst
  have e0 := map_sub hM hM0 e
  cases hH : H i with
  | none => rw [(hMH i).2 hH] at e0; cases e0
  | some h0 =>
    obtain ⟨_, ro', oa', c', k1, k2, _⟩ := (hMA i g h0 e0 hH).1
    have e3 : w.heap[g]? = _ := k1
    have e4 : w.heap[g]? = _ := hbk
    rw [e3] at e4
    injection e4 with e4
    injection e4 with e4 _ _
    have e5 := congrArg (·[11]?) e4
    have e6 : (some (Value.slice (some ⟨ro', oa', none⟩) h0.n c')) = some (Value.slice A h.n c) := e5
    injection e6 with e6
    injection e6 with e6 _ _
    rw [hA] at e6
    injection e6 with e6
    injection e6 with e6 _ _
    have := k2.lt
    omega
theorem st_turn {C : Array Value} {cur : Array Value} (hst : StAt w B s b H k r) (hR : Rows w b G) (hs : Stored w w' G C 5) (h8 : w.heap[G]? = some (.cells cur 5 (0, 0))) : StAt w' B s b H k r ∧ Rows w' b G := by
  have ne : ∀ {x : Nat} {D : Array Value} {ty : TypeId}, Blk ty w x D → ty ≠ 5 → x ≠ G := fun {x D ty} hx hty e => by
    subst e
    have e2 : w.heap[x]? = _ := hx
    rw [h8] at e2
    injection e2 with e2
    injection e2 with _ e2 _
    exact hty e2.symm
  have hsG : s ≠ G := ne hst.blk (by decide)
  have hbG : b ≠ G := by
    obtain ⟨M0, ⟨es, cl, hb, _⟩, _⟩ := hst.map
    rintro rfl
    rw [hb] at h8
    cases h8
  have hst0 := hst
  obtain ⟨g1, g2, g3, M, g4, g5, g6, g7⟩ := hst
  refine ⟨⟨g1, g2, (hs.2.2 s hsG).trans g3, M, g4.at (hs.2.2 b hbG), g5, fun i g x e1 e2 => ?_, g7⟩, fun M1 k1 hM1 i g e h A c hbk ro oa hA => ?_⟩
  · obtain ⟨⟨a0, ro, oa, c, a1, a2, a3, a4⟩, a5⟩ := g6 i g x e1 e2
    have hro : ro ≠ G := hR M k g4 i g e1 x _ c a1 ro oa rfl
    exact ⟨⟨a0, ro, oa, c, (hs.2.2 g (ne a1 (by decide))).trans a1, a2.block (hs.2.2 ro hro), a3, a4⟩, a5⟩
  · have hM0 : MapAt w b M1 k1 := hM1.at (hs.2.2 b hbG).symm
    by_cases hg : g = G
    · subst hg
      have e2 : w'.heap[g]? = _ := hbk
      have e3 : w'.heap[g]? = _ := hs.1
      rw [e3] at e2
      injection e2 with e2
      injection e2 with _ e2 _
      exact absurd e2 (by decide)
    · exact hR M1 k1 hM0 i g e h A c ((hs.2.2 g hg).symm.trans hbk) ro oa hA
end
def PutG (w : World) (B s b : Nat) (H : Nat → Option Hd) (k : Nat) (r : Bool) (G : Nat) (t : Hd) (e : Ending) (w' : World) : Prop := PutP w B s b H k r t e w' ∧ (Rows w b G → G < w.heap.size → Rows w' b G)
set_option maxHeartbeats 40000000 in
set_option maxRecDepth 100000 in
theorem put_yesG (A : Option Addr) (n c : Nat) (z : Nat → Int) (m B s b k G : Nat) (H : Nat → Option Hd) (r : Bool) (w : World) (hst : StAt w B s b H k r) (hk : k ≤ 512) (hq : cls (z 4) = 2) (hn : 27 ≤ n ∧ n ≤ 1492) (hB : Rd w A n z) (hc : n ≤ c) (hcm : c ≤ maxLen) (hrd : Calls Tryz.prog 68 #[.slice A n c] w (RdOk w 2 z m)) :
    Calls Tryz.prog 14 #[.pointer (some ⟨s, 0, none⟩), .slice A n c] w (PutG w B s b H k r G (hdZ n z)) := by
  have HRD := Lib.hid (read_yes A n c z 2 m w hq hn.1 hB hc hcm hrd)
  obtain ⟨ba, oa, rfl, hra⟩ := hB.row (by omega)
  have HRA := Lib.hid hra
  have HN := Lib.hid hn
  have HC := Lib.hid (And.intro hc hcm)
  have HST := Lib.hid hst
  obtain ⟨M, hM, hMH, hMA, hMI⟩ := hst.map
  have HMH := Lib.hid hMH
  have HMA := Lib.hid hMA
  have HMI := Lib.hid hMI
  have KS := Lib.hid hst.blk
  have KM := Lib.hid hM
  have KM0 := Lib.hid hM
  have HNE := Lib.hid hst.ne
  obtain ⟨t, ht⟩ : ∃ t, hdZ n z = t := ⟨_, rfl⟩
  have HT := Lib.hid (show t.id = idZ z ∧ t.n = n ∧ t.z = z ∧ t.pu = 0 by rw [← ht]; exact hdZ_f n z)
  have HID : Hid (IdOk t.id) := Lib.hid (by rw [HT.out.1]; exact idZ_bd z hra.2.2)
  have HRD2 : Hid (Calls Tryz.prog 43 #[.slice (some ⟨ba, oa, none⟩) n c] w (fun e w' => ∃ g, e = .returned (.tuple #[.pointer (some ⟨g, 0, none⟩), .int .i64 0]) ∧ w.heap.size ≤ g ∧ Blk 91 w' g (hdC t (some ⟨ba, oa, none⟩) c) ∧ Below w.heap.size w w')) := Lib.hid (HRD.out.mono fun e w' h => by
    rw [← ht]
    rcases h with ⟨_, h⟩ | ⟨h, _⟩
    · exact h
    · exact absurd rfl h)
  rw [ht]
  clear HRD hst hq hn hB hc hcm hrd hra hM hMH hMA hMI ht
  go_enter Tryz.func14, Tryz.ntmps14
  have HB := Lib.hid (Below.refl w.heap.size w)
  go_wp2_with fail
  refine HRD2.out.mono ?_
  rintro e w1 ⟨gt, rfl, hgt, kt, b1⟩
  replace KS := Lib.hid (KS.out.below b1 KS.out.lt)
  replace KM := Lib.hid (KM.out.below b1 KM.out.lt)
  replace HB := Lib.hid (HB.out.trans (b1.mono HB.out.size))
  have KT := Lib.hid kt
  have HGT := Lib.hid hgt
  clear b1 kt hgt HRD2
  have le_HB_gt : w.heap.size ≤ gt := HGT.out
  have lt_s_gt : s < gt := Nat.lt_of_lt_of_le HST.out.lt HGT.out
  have lt_b_gt : b < gt := Nat.lt_of_lt_of_le HST.out.ltb HGT.out
  go_wp2_with fail
  have LW : Hid (w.heap.size ≤ w1.heap.size) := Lib.hid HB.out.size
  obtain ⟨mv, hmv⟩ : ∃ v, M t.id = v := ⟨_, rfl⟩
  have HMV := Lib.hid hmv
  clear hmv
  cases mv with
  | none =>
    refine wp_region_held_drew (S := fun w' => Blk 76 w' s (stC b r) ∧ MapAt w' b M k ∧ Blk 91 w' gt (hdC t (some ⟨ba, oa, none⟩) c) ∧ Below w.heap.size w w') (by kernel_rfl) ⟨KS.out, KM.out, KT.out, HB.out.drew⟩ (fun hS => ?_)
    generalize hW11 : w1.drew = W11 at hS  ⊢
    clear hW11
    clear KS
    clear KM
    clear KT
    clear HB
    have KS := Lib.hid hS.1
    have KM := Lib.hid hS.2.1
    have KT := Lib.hid hS.2.2.1
    have HB := Lib.hid hS.2.2.2
    refine tY (i := 0) (some 26) (v := .pointer (some ⟨s, 0, none⟩)) rfl rfl (fun w' hS => by clear hS; go_simp) hS ?_
    simp only [Act.put, pA, pB, pC]
    refine tY (i := 1) (some 27) (v := .pointer (some ⟨s, 0, none⟩)) rfl rfl (fun w' hS => by clear hS; go_simp) hS ?_
    simp only [Act.put, pA, pB, pC]
    refine tY (i := 2) (some 28) (v := .pointer (some ⟨s, 0, none⟩)) rfl rfl (fun w' hS => by clear hS; go_simp) hS ?_
    simp only [Act.put, pA, pB, pC]
    refine tY (i := 3) (some 29) (v := .map (some b)) rfl rfl (fun w' hS => by (have c9 : w'.cell? ⟨s, 0, none⟩ = some (.map (some b)) := (hS.1.cell 0).trans rfl; clear hS; go_simp)) hS ?_
    simp only [Act.put, pA, pB, pC]
    refine tY (i := 4) (some 30) (v := .pointer (some ⟨gt, 0, none⟩)) rfl rfl (fun w' hS => by clear hS; go_simp) hS ?_
    simp only [Act.put, pA, pB, pC]
    refine tY (i := 5) (some 31) (v := .pointer (some ⟨gt, 0, none⟩)) rfl rfl (fun w' hS => by clear hS; go_simp) hS ?_
    simp only [Act.put, pA, pB, pC]
    refine tY (i := 6) (some 32) (v := .pointer (some ⟨gt, 0, none⟩)) rfl rfl (fun w' hS => by clear hS; go_simp) hS ?_
    simp only [Act.put, pA, pB, pC]
    refine tY (i := 7) (some 33) (v := .pointer (some ⟨gt, 0, none⟩)) rfl rfl (fun w' hS => by clear hS; go_simp) hS ?_
    simp only [Act.put, pA, pB, pC]
    refine tL (i := 8) (some 34) 35 (.tmp 33) gt 0 (iC t.id) _ rfl rfl rfl rfl (fun w' hS => hd_id hS.2.2.1) Tryz.underlying35 rfl info_iC hS ?_
    simp only [Act.put, pA, pB, pC]
    refine tY (i := 9) (some 35) (v := .tuple #[.pointer none, .bool false]) rfl rfl (fun w' hS => by (refine (look_run _ _ _ _ rfl hS.2.1 HID.out rfl rfl).trans ?_; rw [HMV.out]; rfl)) hS ?_
    simp only [Act.put, pA, pB, pC]
    refine tY (i := 10) (some 25) (v := .tuple #[.pointer none, .bool false]) rfl rfl (fun w' hS => by clear hS; go_simp) hS ?_
    simp only [Act.put, pA, pB, pC]
    refine tY (i := 11) (some 36) (v := .pointer none) rfl rfl (fun w' hS => by clear hS; go_simp) hS ?_
    simp only [Act.put, pA, pB, pC]
    refine tY (i := 12) (some 37) (v := .bool false) rfl rfl (fun w' hS => by clear hS; go_simp) hS ?_
    simp only [Act.put, pA, pB, pC]
    refine tY (i := 13) (some 8) (v := .pointer none) rfl rfl (fun w' hS => by clear hS; go_simp) hS ?_
    simp only [Act.put, pA, pB, pC]
    refine tY (i := 14) (some 9) (v := .bool false) rfl rfl (fun w' hS => by clear hS; go_simp) hS ?_
    simp only [Act.put, pA, pB, pC]
    clear hS
    refine wpAnyH_done (by kernel_rfl) ?_ _
    have HHN : Hid (H t.id = none) := Lib.hid ((HMH.out t.id).1 HMV.out)
    go_wp2_with fail
    have HSTc : Hid (StAt W11 B s b H k r) := Lib.hid (HST.out.below HB.out)
    refine (stLen_any HSTc.out).mono ?_
    rintro e w20 ⟨rfl, rfl⟩
    by_cases hk5 : k < 512
    · have hk6 : ¬ (512 : Int) ≤ (k : Int) := by omega
      have HK5 := Lib.hid hk5
      clear hk5
      have LW2 : Hid (w.heap.size ≤ w20.heap.size) := Lib.hid HB.out.size
      clear LW
      have LW := LW2
      go_wp2_with fail
      refine (cloneB2 ba oa n c z w20 (HRA.out.below' HB.out) (by have := HN.out; omega)).mono ?_
      rintro e w40 ⟨v40, rfl, ho, b1⟩
      obtain ⟨g2, c2, rfl, hg2, ho2⟩ := own_ofB ho (by have := HN.out; omega)
      replace KS := Lib.hid (KS.out.below b1 KS.out.lt)
      replace KM := Lib.hid (KM.out.below b1 KM.out.lt)
      replace KT := Lib.hid (KT.out.below b1 KT.out.lt)
      replace HB := Lib.hid (HB.out.trans (b1.mono HB.out.size))
      have KO : Hid (Own8 w40 g2 n c2 z) := Lib.hid ho2
      have le_g2 : w.heap.size ≤ g2 := Nat.le_trans LW.out hg2
      have ne_g2 : g2 ≠ gt := fun e => by subst e; obtain ⟨⟨cur, h1, _⟩, _⟩ := KO.out; have h2 : w40.heap[g2]? = _ := KT.out; rw [h1] at h2; injection h2 with h2; injection h2 with _ h2 _; exact absurd h2 (by decide)
      clear ho ho2 hg2 b1
      have hvt : Value.slice (some ⟨g2, 0, none⟩) n c2 = .slice (some ⟨g2, 0, none⟩) t.n c2 := by rw [HT.out.2.1]
      rw [hvt]
      clear hvt
      go_wp2_with (refine wpList_st rfl 40 (.tmp 57) (.tmp 55) rfl gt 11 rfl (.slice (some ⟨g2, 0, none⟩) t.n c2) #[.slice (some ⟨g2, 0, none⟩) t.n c2] rfl rfl info_bs1 one_sl KT.out (Nat.le_of_ble_eq_true rfl) (C' := hdC t (some ⟨g2, 0, none⟩) c2) (hd_put _ _ _ _ _) ?_; intro w50 q1; refine Hid.out ?_)
      refine Lib.hid ?_
      have KO2 : Hid (Own8 w50 g2 n c2 z) := Lib.hid (KO.out.block (q1.2.2 g2 ne_g2))
      replace KS := Lib.hid (KS.out.far q1 (by omega))
      replace KM := Lib.hid (KM.out.far q1 (by omega))
      replace HB := Lib.hid (HB.out.trans (q1.2.1 _ (by omega)))
      replace KT : Hid (Blk 91 w50 gt (hdC t (some ⟨g2, 0, none⟩) c2)) := Lib.hid q1.1
      clear q1
      clear KO
      go_wp2_with fail
      have KMd : Hid (MapAt w50.drew b M k) := Lib.hid KM.out
      clear KM
      have HBd : Hid (Below w.heap.size w w50.drew) := Lib.hid HB.out.drew
      clear HB
      have KO2d : Hid (Own8 w50.drew g2 n c2 z) := Lib.hid KO2.out
      clear KO2
      refine wp_region_held_drew (S := fun w' => Blk 76 w' s (stC b r) ∧ Blk 91 w' gt (hdC t (some ⟨g2, 0, none⟩) c2)) (by kernel_rfl) ⟨KS.out, KT.out⟩ (fun hS => ?_)
      generalize hW12 : w50.drew = W12 at hS KMd HBd KO2d ⊢
      clear hW12
      clear KS
      clear KT
      have KM := KMd
      clear KMd
      have HB := HBd
      clear HBd
      have KO2 := KO2d
      clear KO2d
      have KS := Lib.hid hS.1
      have KT := Lib.hid hS.2
      refine tY (i := 0) (some 58) (v := .pointer (some ⟨s, 0, none⟩)) rfl rfl (fun w' hS => by clear hS; go_simp) hS ?_
      simp only [Act.put, pA, pB, pC]
      refine tY (i := 1) (some 59) (v := .pointer (some ⟨s, 0, none⟩)) rfl rfl (fun w' hS => by clear hS; go_simp) hS ?_
      simp only [Act.put, pA, pB, pC]
      refine tY (i := 2) (some 60) (v := .pointer (some ⟨s, 0, none⟩)) rfl rfl (fun w' hS => by clear hS; go_simp) hS ?_
      simp only [Act.put, pA, pB, pC]
      refine tY (i := 3) (some 61) (v := .map (some b)) rfl rfl (fun w' hS => by (have c9 : w'.cell? ⟨s, 0, none⟩ = some (.map (some b)) := (hS.1.cell 0).trans rfl; clear hS; go_simp)) hS ?_
      simp only [Act.put, pA, pB, pC]
      refine tY (i := 4) (some 62) (v := .pointer (some ⟨gt, 0, none⟩)) rfl rfl (fun w' hS => by clear hS; go_simp) hS ?_
      simp only [Act.put, pA, pB, pC]
      refine tY (i := 5) (some 63) (v := .pointer (some ⟨gt, 0, none⟩)) rfl rfl (fun w' hS => by clear hS; go_simp) hS ?_
      simp only [Act.put, pA, pB, pC]
      refine tY (i := 6) (some 64) (v := .pointer (some ⟨gt, 0, none⟩)) rfl rfl (fun w' hS => by clear hS; go_simp) hS ?_
      simp only [Act.put, pA, pB, pC]
      refine tY (i := 7) (some 65) (v := .pointer (some ⟨gt, 0, none⟩)) rfl rfl (fun w' hS => by clear hS; go_simp) hS ?_
      simp only [Act.put, pA, pB, pC]
      refine tL (i := 8) (some 66) 35 (.tmp 65) gt 0 (iC t.id) _ rfl rfl rfl rfl (fun w' hS => hd_id hS.2) Tryz.underlying35 rfl info_iC hS ?_
      simp only [Act.put, pA, pB, pC]
      refine tY (i := 9) (some 67) (v := .pointer (some ⟨gt, 0, none⟩)) rfl rfl (fun w' hS => by clear hS; go_simp) hS ?_
      simp only [Act.put, pA, pB, pC]
      refine takeMu (i := 10) (.tmp 61) (.tmp 66) (.tmp 67) rfl rfl (by kernel_rfl) (by rfl) rfl KM.out HID.out rfl rfl rfl (fun w60 hm9 ht9 => ⟨⟨(ht9.block HNE.out).trans KS.out, (ht9.block (by omega)).trans KT.out⟩, ?_⟩)
      simp only [Act.put, pA, pB, pC]
      have KS9 : Hid (Blk 76 w60 s (stC b r)) := Lib.hid ((ht9.block HNE.out).trans KS.out)
      have KT9 : Hid (Blk 91 w60 gt (hdC t (some ⟨g2, 0, none⟩) c2)) := Lib.hid ((ht9.block (by omega)).trans KT.out)
      have KM9 := Lib.hid hm9
      have ne_g2b : g2 ≠ b := fun e => by subst e; obtain ⟨⟨cur, h1, _⟩, _⟩ := KO2.out; obtain ⟨es, cl, h2, _⟩ := KM.out; rw [h1] at h2; cases h2
      have KO9 : Hid (Own8 w60 g2 n c2 z) := Lib.hid (KO2.out.block (ht9.block ne_g2b))
      have HF9 : Hid (Fr w w60 s b) := Lib.hid ((Fr.of_below s b HB.out).trans (Fr.turn ht9))
      clear hm9 ht9 hS
      refine wpAnyH_done (by kernel_rfl) ?_ _
      go_wp2_with fail
      refine bodyPost_ret (v := .tuple #[.int .i64 1, .int .i64 0]) (by simp [results, Tryz.f14, go_sem]) rfl ?_
      have hHT : HdAt w60 B gt t := ⟨Nat.le_trans HST.out.ltB HGT.out, g2, 0, c2, KT9.out, by rw [HT.out.2.1, HT.out.2.2.1]; exact RwT.of KO9.out (by have := HN.out; omega), Nat.le_trans HST.out.ltB le_g2, by rw [HT.out.2.1]; exact KO9.out.caps.1, KO9.out.caps.2⟩
      have hSA := st_put HST.out KM0.out HMH.out HMA.out HMI.out HGT.out (by rw [HT.out.2.1]; exact HN.out) (by rw [HT.out.2.2.1]; exact HRA.out.2.2) HF9.out KS9.out KM9.out hHT
      rw [HMV.out] at hSA
      exact ⟨⟨1, 0, rfl, HF9.out, .inl ⟨HHN.out, HK5.out, rfl, rfl, hSA⟩⟩, fun hR hG => rows_put HST.out hR hG HF9.out KM9.out KM0.out HGT.out KT9.out le_g2⟩
    · have hk6 : (512 : Int) ≤ (k : Int) := by omega
      have HK5 := Lib.hid hk5
      clear hk5
      go_wp2_with (refine wpList_st rfl 4 (.tmp 52) (.const (.bool true)) rfl s 1 rfl (.bool true) #[.bool true] rfl rfl info_bl (one_b _) KS.out (Nat.le_of_ble_eq_true rfl) (C' := stC b true) (st_ref _ _) ?_; intro w30 q1; refine Hid.out ?_)
      refine Lib.hid ?_
      have HF9 : Hid (Fr w w30 s b) := Lib.hid ((Fr.of_below s b HB.out).trans ⟨(q1.2.1 0 (Nat.zero_le _)).os, (q1.2.1 0 (Nat.zero_le _)).tape, (q1.2.1 0 (Nat.zero_le _)).output, (q1.2.1 0 (Nat.zero_le _)).size, fun i _ h1 _ => q1.2.2 i h1⟩)
      have HMB := Lib.hid ((q1.2.2 b HNE.out.symm).trans (HB.out.block b HST.out.ltb))
      have hSA := st_full HST.out HF9.out q1.1 ((q1.2.2 b HNE.out.symm).trans (HB.out.block b HST.out.ltb))
      have HSA := Lib.hid hSA
      clear hSA q1
      go_wp2_with fail
      refine bodyPost_ret (v := .tuple #[.int .i64 0, .int .i64 10]) (by simp [results, Tryz.f14, go_sem]) rfl ?_
      exact ⟨⟨0, 10, rfl, HF9.out, .inr (.inl ⟨HHN.out, by have := HK5.out; omega, rfl, rfl, HSA.out⟩)⟩, fun hR _ => rows_same HST.out hR HF9.out HMB.out⟩
  | some g0 =>
    refine wp_region_held_drew (S := fun w' => Blk 76 w' s (stC b r) ∧ MapAt w' b M k ∧ Blk 91 w' gt (hdC t (some ⟨ba, oa, none⟩) c) ∧ Below w.heap.size w w') (by kernel_rfl) ⟨KS.out, KM.out, KT.out, HB.out.drew⟩ (fun hS => ?_)
    generalize hW11 : w1.drew = W11 at hS  ⊢
    clear hW11
    clear KS
    clear KM
    clear KT
    clear HB
    have KS := Lib.hid hS.1
    have KM := Lib.hid hS.2.1
    have KT := Lib.hid hS.2.2.1
    have HB := Lib.hid hS.2.2.2
    refine tY (i := 0) (some 26) (v := .pointer (some ⟨s, 0, none⟩)) rfl rfl (fun w' hS => by clear hS; go_simp) hS ?_
    simp only [Act.put, pA, pB, pC]
    refine tY (i := 1) (some 27) (v := .pointer (some ⟨s, 0, none⟩)) rfl rfl (fun w' hS => by clear hS; go_simp) hS ?_
    simp only [Act.put, pA, pB, pC]
    refine tY (i := 2) (some 28) (v := .pointer (some ⟨s, 0, none⟩)) rfl rfl (fun w' hS => by clear hS; go_simp) hS ?_
    simp only [Act.put, pA, pB, pC]
    refine tY (i := 3) (some 29) (v := .map (some b)) rfl rfl (fun w' hS => by (have c9 : w'.cell? ⟨s, 0, none⟩ = some (.map (some b)) := (hS.1.cell 0).trans rfl; clear hS; go_simp)) hS ?_
    simp only [Act.put, pA, pB, pC]
    refine tY (i := 4) (some 30) (v := .pointer (some ⟨gt, 0, none⟩)) rfl rfl (fun w' hS => by clear hS; go_simp) hS ?_
    simp only [Act.put, pA, pB, pC]
    refine tY (i := 5) (some 31) (v := .pointer (some ⟨gt, 0, none⟩)) rfl rfl (fun w' hS => by clear hS; go_simp) hS ?_
    simp only [Act.put, pA, pB, pC]
    refine tY (i := 6) (some 32) (v := .pointer (some ⟨gt, 0, none⟩)) rfl rfl (fun w' hS => by clear hS; go_simp) hS ?_
    simp only [Act.put, pA, pB, pC]
    refine tY (i := 7) (some 33) (v := .pointer (some ⟨gt, 0, none⟩)) rfl rfl (fun w' hS => by clear hS; go_simp) hS ?_
    simp only [Act.put, pA, pB, pC]
    refine tL (i := 8) (some 34) 35 (.tmp 33) gt 0 (iC t.id) _ rfl rfl rfl rfl (fun w' hS => hd_id hS.2.2.1) Tryz.underlying35 rfl info_iC hS ?_
    simp only [Act.put, pA, pB, pC]
    refine tY (i := 9) (some 35) (v := .tuple #[.pointer (some ⟨g0, 0, none⟩), .bool true]) rfl rfl (fun w' hS => by (refine (look_run _ _ _ _ rfl hS.2.1 HID.out rfl rfl).trans ?_; rw [HMV.out]; rfl)) hS ?_
    simp only [Act.put, pA, pB, pC]
    refine tY (i := 10) (some 25) (v := .tuple #[.pointer (some ⟨g0, 0, none⟩), .bool true]) rfl rfl (fun w' hS => by clear hS; go_simp) hS ?_
    simp only [Act.put, pA, pB, pC]
    refine tY (i := 11) (some 36) (v := .pointer (some ⟨g0, 0, none⟩)) rfl rfl (fun w' hS => by clear hS; go_simp) hS ?_
    simp only [Act.put, pA, pB, pC]
    refine tY (i := 12) (some 37) (v := .bool true) rfl rfl (fun w' hS => by clear hS; go_simp) hS ?_
    simp only [Act.put, pA, pB, pC]
    refine tY (i := 13) (some 8) (v := .pointer (some ⟨g0, 0, none⟩)) rfl rfl (fun w' hS => by clear hS; go_simp) hS ?_
    simp only [Act.put, pA, pB, pC]
    refine tY (i := 14) (some 9) (v := .bool true) rfl rfl (fun w' hS => by clear hS; go_simp) hS ?_
    simp only [Act.put, pA, pB, pC]
    clear hS
    refine wpAnyH_done (by kernel_rfl) ?_ _
    obtain ⟨h0, hh0⟩ : ∃ h, H t.id = some h := by
      cases e : H t.id with
      | none => have := (HMH.out t.id).2 e; rw [HMV.out] at this; cases this
      | some h => exact ⟨h, rfl⟩
    have HH0 := Lib.hid hh0
    have HA0 := Lib.hid (HMA.out t.id g0 h0 HMV.out hh0)
    clear hh0
    go_wp2_with fail
    refine (compare_any t h0 gt g0 W11 ⟨_, _, KT.out, by rw [HT.out.2.1, HT.out.2.2.1]; exact .inr ⟨ba, oa, rfl, HRA.out.below' HB.out⟩ |> fun x => ⟨x, HRA.out.2.2⟩, by rw [HT.out.2.1]; exact HC.out.1, HC.out.2⟩ (HA0.out.1.below HB.out).r (by rw [HT.out.2.1]; exact HN.out) HA0.out.2.2.1).mono ?_
    rintro e w20 ⟨rfl, b1⟩
    replace KS := Lib.hid (KS.out.below b1 KS.out.lt)
    replace KM := Lib.hid (KM.out.below b1 KM.out.lt)
    replace KT := Lib.hid (KT.out.below b1 KT.out.lt)
    replace HB := Lib.hid (HB.out.trans (b1.mono HB.out.size))
    clear b1
    have HV := Lib.hid (tot_relH.val t h0)
    obtain ⟨rl, hrl⟩ : ∃ x, relH t h0 = x := ⟨_, rfl⟩
    rw [hrl] at HV ⊢
    have HRL := Lib.hid hrl
    clear hrl
    by_cases hr0 : rl ≤ 0
    · go_wp2_with fail
      refine bodyPost_ret (v := .tuple #[.int .i64 rl, .int .i64 0]) (by simp [results, Tryz.f14, go_sem]) rfl ?_
      exact ⟨⟨rl, 0, rfl, (st_same HST.out HB.out).2, .inr (.inr (.inl ⟨h0, HH0.out, by rw [HRL.out]; exact hr0, HRL.out.symm, rfl, (st_same HST.out HB.out).1⟩))⟩, fun hR _ => rows_same HST.out hR (st_same HST.out HB.out).2 (HB.out.block b HST.out.ltb)⟩
    · have HR0 := Lib.hid hr0
      have LW2 : Hid (w.heap.size ≤ w20.heap.size) := Lib.hid HB.out.size
      clear LW
      have LW := LW2
      go_wp2_with fail
      refine (cloneB2 ba oa n c z w20 (HRA.out.below' HB.out) (by have := HN.out; omega)).mono ?_
      rintro e w40 ⟨v40, rfl, ho, b1⟩
      obtain ⟨g2, c2, rfl, hg2, ho2⟩ := own_ofB ho (by have := HN.out; omega)
      replace KS := Lib.hid (KS.out.below b1 KS.out.lt)
      replace KM := Lib.hid (KM.out.below b1 KM.out.lt)
      replace KT := Lib.hid (KT.out.below b1 KT.out.lt)
      replace HB := Lib.hid (HB.out.trans (b1.mono HB.out.size))
      have KO : Hid (Own8 w40 g2 n c2 z) := Lib.hid ho2
      have le_g2 : w.heap.size ≤ g2 := Nat.le_trans LW.out hg2
      have ne_g2 : g2 ≠ gt := fun e => by subst e; obtain ⟨⟨cur, h1, _⟩, _⟩ := KO.out; have h2 : w40.heap[g2]? = _ := KT.out; rw [h1] at h2; injection h2 with h2; injection h2 with _ h2 _; exact absurd h2 (by decide)
      clear ho ho2 hg2 b1
      have hvt : Value.slice (some ⟨g2, 0, none⟩) n c2 = .slice (some ⟨g2, 0, none⟩) t.n c2 := by rw [HT.out.2.1]
      rw [hvt]
      clear hvt
      go_wp2_with (refine wpList_st rfl 40 (.tmp 57) (.tmp 55) rfl gt 11 rfl (.slice (some ⟨g2, 0, none⟩) t.n c2) #[.slice (some ⟨g2, 0, none⟩) t.n c2] rfl rfl info_bs1 one_sl KT.out (Nat.le_of_ble_eq_true rfl) (C' := hdC t (some ⟨g2, 0, none⟩) c2) (hd_put _ _ _ _ _) ?_; intro w50 q1; refine Hid.out ?_)
      refine Lib.hid ?_
      have KO2 : Hid (Own8 w50 g2 n c2 z) := Lib.hid (KO.out.block (q1.2.2 g2 ne_g2))
      replace KS := Lib.hid (KS.out.far q1 (by omega))
      replace KM := Lib.hid (KM.out.far q1 (by omega))
      replace HB := Lib.hid (HB.out.trans (q1.2.1 _ (by omega)))
      replace KT : Hid (Blk 91 w50 gt (hdC t (some ⟨g2, 0, none⟩) c2)) := Lib.hid q1.1
      clear q1
      clear KO
      go_wp2_with fail
      have KMd : Hid (MapAt w50.drew b M k) := Lib.hid KM.out
      clear KM
      have HBd : Hid (Below w.heap.size w w50.drew) := Lib.hid HB.out.drew
      clear HB
      have KO2d : Hid (Own8 w50.drew g2 n c2 z) := Lib.hid KO2.out
      clear KO2
      refine wp_region_held_drew (S := fun w' => Blk 76 w' s (stC b r) ∧ Blk 91 w' gt (hdC t (some ⟨g2, 0, none⟩) c2)) (by kernel_rfl) ⟨KS.out, KT.out⟩ (fun hS => ?_)
      generalize hW12 : w50.drew = W12 at hS KMd HBd KO2d ⊢
      clear hW12
      clear KS
      clear KT
      have KM := KMd
      clear KMd
      have HB := HBd
      clear HBd
      have KO2 := KO2d
      clear KO2d
      have KS := Lib.hid hS.1
      have KT := Lib.hid hS.2
      refine tY (i := 0) (some 58) (v := .pointer (some ⟨s, 0, none⟩)) rfl rfl (fun w' hS => by clear hS; go_simp) hS ?_
      simp only [Act.put, pA, pB, pC]
      refine tY (i := 1) (some 59) (v := .pointer (some ⟨s, 0, none⟩)) rfl rfl (fun w' hS => by clear hS; go_simp) hS ?_
      simp only [Act.put, pA, pB, pC]
      refine tY (i := 2) (some 60) (v := .pointer (some ⟨s, 0, none⟩)) rfl rfl (fun w' hS => by clear hS; go_simp) hS ?_
      simp only [Act.put, pA, pB, pC]
      refine tY (i := 3) (some 61) (v := .map (some b)) rfl rfl (fun w' hS => by (have c9 : w'.cell? ⟨s, 0, none⟩ = some (.map (some b)) := (hS.1.cell 0).trans rfl; clear hS; go_simp)) hS ?_
      simp only [Act.put, pA, pB, pC]
      refine tY (i := 4) (some 62) (v := .pointer (some ⟨gt, 0, none⟩)) rfl rfl (fun w' hS => by clear hS; go_simp) hS ?_
      simp only [Act.put, pA, pB, pC]
      refine tY (i := 5) (some 63) (v := .pointer (some ⟨gt, 0, none⟩)) rfl rfl (fun w' hS => by clear hS; go_simp) hS ?_
      simp only [Act.put, pA, pB, pC]
      refine tY (i := 6) (some 64) (v := .pointer (some ⟨gt, 0, none⟩)) rfl rfl (fun w' hS => by clear hS; go_simp) hS ?_
      simp only [Act.put, pA, pB, pC]
      refine tY (i := 7) (some 65) (v := .pointer (some ⟨gt, 0, none⟩)) rfl rfl (fun w' hS => by clear hS; go_simp) hS ?_
      simp only [Act.put, pA, pB, pC]
      refine tL (i := 8) (some 66) 35 (.tmp 65) gt 0 (iC t.id) _ rfl rfl rfl rfl (fun w' hS => hd_id hS.2) Tryz.underlying35 rfl info_iC hS ?_
      simp only [Act.put, pA, pB, pC]
      refine tY (i := 9) (some 67) (v := .pointer (some ⟨gt, 0, none⟩)) rfl rfl (fun w' hS => by clear hS; go_simp) hS ?_
      simp only [Act.put, pA, pB, pC]
      refine takeMu (i := 10) (.tmp 61) (.tmp 66) (.tmp 67) rfl rfl (by kernel_rfl) (by rfl) rfl KM.out HID.out rfl rfl rfl (fun w60 hm9 ht9 => ⟨⟨(ht9.block HNE.out).trans KS.out, (ht9.block (by omega)).trans KT.out⟩, ?_⟩)
      simp only [Act.put, pA, pB, pC]
      have KS9 : Hid (Blk 76 w60 s (stC b r)) := Lib.hid ((ht9.block HNE.out).trans KS.out)
      have KT9 : Hid (Blk 91 w60 gt (hdC t (some ⟨g2, 0, none⟩) c2)) := Lib.hid ((ht9.block (by omega)).trans KT.out)
      have KM9 := Lib.hid hm9
      have ne_g2b : g2 ≠ b := fun e => by subst e; obtain ⟨⟨cur, h1, _⟩, _⟩ := KO2.out; obtain ⟨es, cl, h2, _⟩ := KM.out; rw [h1] at h2; cases h2
      have KO9 : Hid (Own8 w60 g2 n c2 z) := Lib.hid (KO2.out.block (ht9.block ne_g2b))
      have HF9 : Hid (Fr w w60 s b) := Lib.hid ((Fr.of_below s b HB.out).trans (Fr.turn ht9))
      clear hm9 ht9 hS
      refine wpAnyH_done (by kernel_rfl) ?_ _
      go_wp2_with fail
      refine bodyPost_ret (v := .tuple #[.int .i64 1, .int .i64 0]) (by simp [results, Tryz.f14, go_sem]) rfl ?_
      have hHT : HdAt w60 B gt t := ⟨Nat.le_trans HST.out.ltB HGT.out, g2, 0, c2, KT9.out, by rw [HT.out.2.1, HT.out.2.2.1]; exact RwT.of KO9.out (by have := HN.out; omega), Nat.le_trans HST.out.ltB le_g2, by rw [HT.out.2.1]; exact KO9.out.caps.1, KO9.out.caps.2⟩
      have hSA := st_put HST.out KM0.out HMH.out HMA.out HMI.out HGT.out (by rw [HT.out.2.1]; exact HN.out) (by rw [HT.out.2.2.1]; exact HRA.out.2.2) HF9.out KS9.out KM9.out hHT
      rw [HMV.out] at hSA
      exact ⟨⟨1, 0, rfl, HF9.out, .inr (.inr (.inr ⟨h0, HH0.out, by rw [HRL.out]; have := HR0.out; omega, rfl, rfl, hSA⟩))⟩, fun hR hG => rows_put HST.out hR hG HF9.out KM9.out KM0.out HGT.out KT9.out le_g2⟩
end Go.Proofs.YtkiaijmhoikdiaaGreat

/- What read and Put answer of a packet that is no LSP. Each theorem states its conditions. -/
namespace Go.Proofs.YtkiaijmhoikdiaaGreat
open Go.RowKit
set_option linter.unusedVariables false
set_option linter.unusedSimpArgs false

set_option maxHeartbeats 16000000 in
set_option maxRecDepth 100000 in
theorem read_oth (B : Option Addr) (n c : Nat) (z : Nat → Int) (q m : Nat) (w : World) (hq : cls (z 4) = q) (hq2 : q ≠ 2) (hn : 1 ≤ n) (hB : Rd w B n z) (hc : n ≤ c) (hcm : c ≤ maxLen) (hrd : Calls Tryz.prog 68 #[.slice B n c] w (RdOk w q z m)) :
    Calls Tryz.prog 43 #[.slice B n c] w (ReadNo w 3) := by
  have HRD := Lib.hid hrd
  have HQ := Lib.hid hq
  have hz := hB.2
  obtain ⟨b, off, rfl, hr⟩ := hB.row (by omega)
  have HR := Lib.hid hr
  have hcm2 : c ≤ 9223372036854775807 := hcm
  have HZ := Lib.hid hz
  clear hrd hB hr hcm hz hq
  go_enter Tryz.func43, Tryz.ntmps43
  go_wp2_with fail
  refine HRD.out.mono ?_
  rintro e w1 ⟨A7, c7, L, rfl, ho, hI, hA7, hc71, hc72, b1⟩
  clear ho hI hA7 hc71 hc72
  have HB := Lib.hid b1
  clear b1 HRD
  obtain ⟨p, hp⟩ : ∃ p, withT (rdP q z) A7 m c7 = p := ⟨_, rfl⟩
  rw [hp]
  have hkd : p.kd = z 4 := by rw [← hp]; exact rdP_kd q z
  have HP := Lib.hid hp
  have HKD := Lib.hid hkd
  clear hp hkd
  obtain ⟨N2, hN2⟩ : ∃ N, w1.heap.size = N := ⟨_, rfl⟩
  have HN2 := Lib.hid hN2
  clear hN2
  go_wp2_with (refine wpList_new (op := ⟨some 4, _, _, _, _, _⟩) rfl 127 rfl (pdC pd0) zero_pdP N2 HN2.out ?_; intro w2 k1 b1 s1; refine Hid.out ?_)
  refine Lib.hid ?_
  have K4 := Lib.hid k1
  clear k1
  have le_HB_N2 : w.heap.size ≤ N2 := by rw [← HN2.out]; exact HB.out.size
  replace HB := Lib.hid (HB.out.trans (b1.mono HB.out.size))
  clear b1 HN2
  go_wp2_with (refine wpList_st rfl 127 (.tmp 4) (.tmp 10) rfl N2 0 rfl (.agg (pdC p)) (pdC p) rfl rfl info_pdP (pdC_one _) K4.out (Nat.le_of_ble_eq_true rfl) (C' := pdC p) (pd_over _ _) ?_; intro w20 q1; refine Hid.out ?_)
  refine Lib.hid ?_
  replace HB := Lib.hid (HB.out.trans (q1.2.1 _ (by omega)))
  replace K4 : Hid (Blk 127 w20 N2 (pdC p)) := Lib.hid q1.1
  clear q1
  obtain ⟨kd, hkd⟩ : ∃ k, z 4 = k := ⟨_, rfl⟩
  rw [hkd] at HQ HKD
  have c0 : w20.cell? ⟨N2, 0, none⟩ = some (.int .u8 kd) := (K4.out.cell 0).trans (by rw [pdC_0, HKD.out])
  clear hkd
  have hk1 : kd ≠ 18 := fun e => by have := HQ.out; rw [e] at this; exact hq2 (by rw [← this]; rfl)
  have hk2 : kd ≠ 20 := fun e => by have := HQ.out; rw [e] at this; exact hq2 (by rw [← this]; rfl)
  have h18 : (kd != 18) = true := by simpa using hk1
  have h20 : (kd != 20) = true := by simpa using hk2
  clear hk1 hk2
  go_wp2_with fail
  refine bodyPost_ret (v := .tuple #[.pointer none, .int .i64 3]) (by simp [results, Tryz.f43, go_sem]) rfl ?_
  exact ⟨rfl, HB.out⟩
set_option maxHeartbeats 8000000 in
set_option maxRecDepth 100000 in
theorem put_no (A : Option Addr) (n c s : Nat) (E : Int) (w : World) (hE : (E != 0) = true) (hrd : Calls Tryz.prog 43 #[.slice A n c] w (ReadNo w E)) :
    Calls Tryz.prog 14 #[.pointer (some ⟨s, 0, none⟩), .slice A n c] w fun e w' => e = .returned (.tuple #[.int .i64 0, .int .i64 E]) ∧ Below w.heap.size w w' := by
  have HRD := Lib.hid hrd
  clear hrd
  go_enter Tryz.func14, Tryz.ntmps14
  go_wp2_with fail
  refine HRD.out.mono ?_
  rintro e w1 ⟨rfl, b1⟩
  have HB := Lib.hid b1
  clear b1
  go_wp2_with fail
  refine bodyPost_ret (v := .tuple #[.int .i64 0, .int .i64 E]) (by simp [results, Tryz.f14, go_sem]) rfl ?_
  exact ⟨rfl, HB.out⟩
end Go.Proofs.YtkiaijmhoikdiaaGreat

/- The document's DocRead: what it answers, for all bytes. Each theorem states its conditions. -/
namespace Go.Proofs.YtkiaijmhoikdiaaGreat
open Go.RowKit
set_option linter.unusedVariables false

set_option maxHeartbeats 4000000 in
set_option maxRecDepth 100000 in
theorem dr_long (A : Option Addr) (n c : Nat) (w : World) (h : 1492 < n) : Calls Tryz.prog 47 #[.slice A n c] w (RdErr w 2) := by
  obtain ⟨W1, hW1⟩ : ∃ W1, w.alloc (.cells (pdC pd0) 39) = W1 := ⟨_, rfl⟩
  obtain ⟨X, hX⟩ : ∃ X, w.heap.size = X := ⟨_, rfl⟩
  have HX1 : Hid (PdT 39 W1 X pd0) := Lib.hid (by rw [← hW1, ← hX]; exact heap_alloc_new w _)
  have HB1 : Hid (Below w.heap.size w W1) := Lib.hid (by rw [← hW1]; exact (bself w).alloc (Nat.le_refl _) _)
  have HW1 := Lib.hid hW1
  have HXW := Lib.hid hX
  have hXle : w.heap.size ≤ X := by omega
  have fl1 : decide ((1492 : Int) < (n : Int)) = true := by simp; omega
  clear hW1 hX
  go_enter Tryz.func47, Tryz.ntmps47
  go_wp2_with (first
    | (refine wpList_v (op := ⟨some 2, _, _, _, _, _⟩) rfl _ (alloc_R' _ _ rfl w W1 X HXW.out HW1.out) ?_)
    | (refine wpList_v (op := ⟨some 12, _, _, _, _, _⟩) rfl _ (build_0d _ _ rfl _) ?_)
    | (refine wpList_st rfl 39 (.tmp 2) (.tmp 12) rfl X 0 rfl (.agg (pdC pd0)) (pdC pd0) rfl rfl info_pdR (pdC_one _) HX1.out (Nat.le_of_ble_eq_true rfl) (pd_all _ _) ?_; intro w2 hst2; refine Hid.out ?_))
  refine Lib.hid ?_
  have HX2 : Hid (PdT 39 w2 X pd0) := Lib.hid hst2.1
  have HB2 : Hid (Below w.heap.size w w2) := Lib.hid (HB1.out.trans (hst2.2.1 _ hXle))
  clear hst2
  go_wp2_with fail
  refine bodyPost_ret (results_dr rfl _ w2 X pd0 (.int .i64 2) rfl HX2.out rfl) rfl ⟨rfl, HB2.out⟩
end Go.Proofs.YtkiaijmhoikdiaaGreat

/- The document's DocRead: what it answers, for all bytes. Each theorem states its conditions. -/
namespace Go.Proofs.YtkiaijmhoikdiaaGreat
open Go.RowKit
set_option linter.unusedVariables false

set_option maxHeartbeats 4000000 in
set_option maxRecDepth 100000 in
theorem dr_short (A : Option Addr) (n c : Nat) (w : World) (hn2 : n ≤ 1492) (h : n < 8) : Calls Tryz.prog 47 #[.slice A n c] w (RdErr w 3) := by
  obtain ⟨W1, hW1⟩ : ∃ W1, w.alloc (.cells (pdC pd0) 39) = W1 := ⟨_, rfl⟩
  obtain ⟨X, hX⟩ : ∃ X, w.heap.size = X := ⟨_, rfl⟩
  have HX1 : Hid (PdT 39 W1 X pd0) := Lib.hid (by rw [← hW1, ← hX]; exact heap_alloc_new w _)
  have HB1 : Hid (Below w.heap.size w W1) := Lib.hid (by rw [← hW1]; exact (bself w).alloc (Nat.le_refl _) _)
  have HW1 := Lib.hid hW1
  have HXW := Lib.hid hX
  have hXle : w.heap.size ≤ X := by omega
  have fl1 : decide ((1492 : Int) < (n : Int)) = false := by simp; omega
  clear hW1 hX
  have fl8 : decide ((n : Int) < 8) = true := by simp; omega
  go_enter Tryz.func47, Tryz.ntmps47
  go_wp2_with (first
    | (refine wpList_v (op := ⟨some 2, _, _, _, _, _⟩) rfl _ (alloc_R' _ _ rfl w W1 X HXW.out HW1.out) ?_)
    | (refine wpList_v (op := ⟨some 32, _, _, _, _, _⟩) rfl _ (build_0d _ _ rfl _) ?_)
    | (refine wpList_st rfl 39 (.tmp 2) (.tmp 32) rfl X 0 rfl (.agg (pdC pd0)) (pdC pd0) rfl rfl info_pdR (pdC_one _) HX1.out (Nat.le_of_ble_eq_true rfl) (pd_all _ _) ?_; intro w2 hst2; refine Hid.out ?_))
  refine Lib.hid ?_
  have HX2 : Hid (PdT 39 w2 X pd0) := Lib.hid hst2.1
  have HB2 : Hid (Below w.heap.size w w2) := Lib.hid (HB1.out.trans (hst2.2.1 _ hXle))
  clear hst2
  go_wp2_with fail
  refine bodyPost_ret (results_dr rfl _ w2 X pd0 (.int .i64 3) rfl HX2.out rfl) rfl ⟨rfl, HB2.out⟩
set_option maxHeartbeats 4000000 in
set_option maxRecDepth 100000 in
theorem dr_kind (b off n c : Nat) (z : Nat → Int) (w : World) (hr : Row8 w b off n z) (hn2 : n ≤ 1492) (h8 : 8 ≤ n) (hk : cls (z 4) = 5) : Calls Tryz.prog 47 #[.slice (some ⟨b, off, none⟩) n c] w (RdErr w 3) := by
  obtain ⟨W1, hW1⟩ : ∃ W1, w.alloc (.cells (pdC pd0) 39) = W1 := ⟨_, rfl⟩
  obtain ⟨X, hX⟩ : ∃ X, w.heap.size = X := ⟨_, rfl⟩
  have HX1 : Hid (PdT 39 W1 X pd0) := Lib.hid (by rw [← hW1, ← hX]; exact heap_alloc_new w _)
  have HB1 : Hid (Below w.heap.size w W1) := Lib.hid (by rw [← hW1]; exact (bself w).alloc (Nat.le_refl _) _)
  have HW1 := Lib.hid hW1
  have HXW := Lib.hid hX
  have hXle : w.heap.size ≤ X := by omega
  have fl1 : decide ((1492 : Int) < (n : Int)) = false := by simp; omega
  clear hW1 hX
  have fl8 : decide ((n : Int) < 8) = false := by simp; omega
  have c4 : W1.cell? ⟨b, off + 4, none⟩ = some (.int .u8 (z 4)) := by rw [← hr.2.1 4 (by omega)]; exact HB1.out.cell hr.1
  have HH := Lib.hid (refHead_none (z 4) hk)
  have h4n : (4 : Int) < (n : Int) := by omega
  clear hr hk
  go_enter Tryz.func47, Tryz.ntmps47
  go_wp2_with (refine wpList_v (op := ⟨some 2, _, _, _, _, _⟩) rfl _ (alloc_R' _ _ rfl w W1 X HXW.out HW1.out) ?_)
  refine (HH.out _).mono ?_
  rintro e wx ⟨rfl, rfl⟩
  go_wp2_with (first
    | (refine wpList_v (op := ⟨some 32, _, _, _, _, _⟩) rfl _ (build_0d _ _ rfl _) ?_)
    | (refine wpList_st rfl 39 (.tmp 2) (.tmp 32) rfl X 0 rfl (.agg (pdC pd0)) (pdC pd0) rfl rfl info_pdR (pdC_one _) HX1.out (Nat.le_of_ble_eq_true rfl) (pd_all _ _) ?_; intro w2 hst2; refine Hid.out ?_))
  refine Lib.hid ?_
  have HX2 : Hid (PdT 39 w2 X pd0) := Lib.hid hst2.1
  have HB2 : Hid (Below w.heap.size w w2) := Lib.hid (HB1.out.trans (hst2.2.1 _ hXle))
  clear hst2
  go_wp2_with fail
  refine bodyPost_ret (results_dr rfl _ w2 X pd0 (.int .i64 3) rfl HX2.out rfl) rfl ⟨rfl, HB2.out⟩
set_option maxHeartbeats 4000000 in
set_option maxRecDepth 100000 in
theorem dr_head (b off n c : Nat) (z : Nat → Int) (w : World) (hr : Row8 w b off n z) (hn2 : n ≤ 1492) (h8 : 8 ≤ n) (q : Nat) (hk : cls (z 4) = q) (hq : q ≤ 4) (hh : n < hdN q) : Calls Tryz.prog 47 #[.slice (some ⟨b, off, none⟩) n c] w (RdErr w 3) := by
  obtain ⟨W1, hW1⟩ : ∃ W1, w.alloc (.cells (pdC pd0) 39) = W1 := ⟨_, rfl⟩
  obtain ⟨X, hX⟩ : ∃ X, w.heap.size = X := ⟨_, rfl⟩
  have HX1 : Hid (PdT 39 W1 X pd0) := Lib.hid (by rw [← hW1, ← hX]; exact heap_alloc_new w _)
  have HB1 : Hid (Below w.heap.size w W1) := Lib.hid (by rw [← hW1]; exact (bself w).alloc (Nat.le_refl _) _)
  have HW1 := Lib.hid hW1
  have HXW := Lib.hid hX
  have hXle : w.heap.size ≤ X := by omega
  have fl1 : decide ((1492 : Int) < (n : Int)) = false := by simp; omega
  clear hW1 hX
  have fl8 : decide ((n : Int) < 8) = false := by simp; omega
  have c4 : W1.cell? ⟨b, off + 4, none⟩ = some (.int .u8 (z 4)) := by rw [← hr.2.1 4 (by omega)]; exact HB1.out.cell hr.1
  have HH := Lib.hid (refHead_any (z 4) q hk hq)
  have h4n : (4 : Int) < (n : Int) := by omega
  have h17 := hdN_bd q hq
  obtain ⟨H, hH⟩ : ∃ H, hdN q = H := ⟨_, rfl⟩
  rw [hH] at HH hh h17
  have fH : ((H : Int) == 0) = false := by simp; omega
  have fl9 : decide ((n : Int) < (H : Int)) = true := by simp; omega
  clear hr hk hH
  go_enter Tryz.func47, Tryz.ntmps47
  go_wp2_with (refine wpList_v (op := ⟨some 2, _, _, _, _, _⟩) rfl _ (alloc_R' _ _ rfl w W1 X HXW.out HW1.out) ?_)
  refine (HH.out _).mono ?_
  rintro e wx ⟨rfl, rfl⟩
  go_wp2_with fail
  refine (HH.out _).mono ?_
  rintro e wx ⟨rfl, rfl⟩
  go_wp2_with (first
    | (refine wpList_v (op := ⟨some 32, _, _, _, _, _⟩) rfl _ (build_0d _ _ rfl _) ?_)
    | (refine wpList_st rfl 39 (.tmp 2) (.tmp 32) rfl X 0 rfl (.agg (pdC pd0)) (pdC pd0) rfl rfl info_pdR (pdC_one _) HX1.out (Nat.le_of_ble_eq_true rfl) (pd_all _ _) ?_; intro w2 hst2; refine Hid.out ?_))
  refine Lib.hid ?_
  have HX2 : Hid (PdT 39 w2 X pd0) := Lib.hid hst2.1
  have HB2 : Hid (Below w.heap.size w w2) := Lib.hid (HB1.out.trans (hst2.2.1 _ hXle))
  clear hst2
  go_wp2_with fail
  refine bodyPost_ret (results_dr rfl _ w2 X pd0 (.int .i64 3) rfl HX2.out rfl) rfl ⟨rfl, HB2.out⟩
end Go.Proofs.YtkiaijmhoikdiaaGreat
