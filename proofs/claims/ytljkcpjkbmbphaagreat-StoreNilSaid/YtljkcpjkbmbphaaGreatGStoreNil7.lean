/- Texts of this claim put together; each theorem states its conditions. -/
import Derived.Test.YtljkcpjkbmbphaaGreatGStoreNil6
import Derived.Test.YtljkcpjkbmbphaaGreatGStoreNil2
import Derived.Test.YtljkcpjkbmbphaaGreatRows
import Derived.Test.YtljkcpjkbmbphaaGreatGStoreNil1
import Derived.Deep.SlicePairs
import Derived.OpenShut
import Derived.ProofKit
import Derived.SizedLaws
import Derived.Test.YtljkcpjkbmbphaaGreatGStoreNil3
import Derived.Test.YtljkcpjkbmbphaaGreatGStoreNil4
/- A nil store; Drop; Refused; the document's calls of none. Each theorem states its conditions. -/
namespace Go.Proofs.YtljkcpjkbmbphaaGreat
open Go.RowKit
set_option linter.unusedVariables false
set_option linter.unusedSimpArgs false

theorem zero_idN : (Tryz.prog.info? 35).map (·.zero) = some (some (.agg (iC 0))) := by kernel_rfl
theorem build_l1 (o : Oper) (e : Operand → Value) (ho : o.op = .build 31 #[(0, .const (.int .u8 255)), (1, .const (.int .u8 255)), (2, .const (.int .u8 255)), (3, .const (.int .u8 255)), (4, .const (.int .u8 255)), (5, .const (.int .u8 255))]) (hc : ∀ v, e (.const v) = v) (W : World) : (execOp e o).run Tryz.prog W = .ok (.value (.agg #[.int .u8 255, .int .u8 255, .int .u8 255, .int .u8 255, .int .u8 255, .int .u8 255])) W := by
  unfold execOp
  simp only [ho]
  simp only [List.map_toArray, List.map_cons, List.map_nil, hc]
  kernel_rfl
theorem build_l2 (o : Oper) (e : Operand → Value) (x : Operand) (ho : o.op = .build 33 #[(0, x), (1, .const (.int .u8 255))]) (hc : ∀ v, e (.const v) = v) (h0 : e x = .agg #[.int .u8 255, .int .u8 255, .int .u8 255, .int .u8 255, .int .u8 255, .int .u8 255]) (W : World) : (execOp e o).run Tryz.prog W = .ok (.value (.agg #[.int .u8 255, .int .u8 255, .int .u8 255, .int .u8 255, .int .u8 255, .int .u8 255, .int .u8 255])) W := by
  unfold execOp
  simp only [ho]
  simp only [List.map_toArray, List.map_cons, List.map_nil, hc, h0]
  kernel_rfl
theorem build_l3 (o : Oper) (e : Operand → Value) (x : Operand) (ho : o.op = .build 35 #[(0, x), (1, .const (.int .u8 255))]) (hc : ∀ v, e (.const v) = v) (h0 : e x = .agg #[.int .u8 255, .int .u8 255, .int .u8 255, .int .u8 255, .int .u8 255, .int .u8 255, .int .u8 255]) (W : World) : (execOp e o).run Tryz.prog W = .ok (.value (.agg (iC 18446744073709551615))) W := by
  unfold execOp
  simp only [ho]
  simp only [List.map_toArray, List.map_cons, List.map_nil, hc, h0]
  kernel_rfl
theorem id_overN (a b : Nat) : putMany (iC a) 0 (iC b).toList = iC b := by kernel_rfl
set_option maxHeartbeats 16000000 in
set_option maxRecDepth 100000 in
theorem least_6 (E : Int) (hE : E = 0 ∨ E = 2 ∨ E = 3 ∨ E = 8) (w : World) : Calls Tryz.prog 44 #[.int .i64 E, .int .i64 6] w fun e w' => e = .returned (.int .i64 (if E = 0 ∨ E = 8 then 6 else E)) ∧ w' = w := by
  rcases hE with rfl | rfl | rfl | rfl
  all_goals
    go_enter Tryz.func44, Tryz.ntmps44
    go_wp2
    go_ret
    exact ⟨rfl, rfl⟩
set_option maxHeartbeats 16000000 in
set_option maxRecDepth 100000 in
theorem read_other (B : Option Addr) (n c : Nat) (z : Nat → Int) (q m : Nat) (w : World) (hq : cls (z 4) = q) (hq2 : q ≠ 2) (hrd : Calls Tryz.prog 68 #[.slice B n c] w (RdOk w q z m)) :
    Calls Tryz.prog 43 #[.slice B n c] w (ReadNo w 3) := by
  have HRD := Lib.hid hrd
  have HQ := Lib.hid (And.intro hq hq2)
  clear hrd hq hq2
  go_enter Tryz.func43, Tryz.ntmps43
  go_wp2_with fail
  refine HRD.out.mono ?_
  rintro e w1 ⟨A7, c7, L, rfl, ho, hI, hA7, hc71, hc72, b1⟩
  clear ho hI hA7 hc71 hc72
  have HB := Lib.hid b1
  clear b1 HRD
  obtain ⟨p, hp⟩ : ∃ p, withT (rdP q z) A7 m c7 = p := ⟨_, rfl⟩
  rw [hp]
  have hkd : p.kd = z 4 := by rw [← hp]; exact rdP_kd q z
  have HKD := Lib.hid hkd
  clear hp hkd
  obtain ⟨N2, hN2⟩ : ∃ N, w1.heap.size = N := ⟨_, rfl⟩
  have HN2 := Lib.hid hN2
  clear hN2
  go_wp2_with (refine wpList_new (op := ⟨some 4, _, _, _, _, _⟩) rfl 127 rfl (pdC pd0) zero_pdP N2 HN2.out ?_; intro w2 k1 b1 s1; refine Hid.out ?_)
  refine Lib.hid ?_
  have K4 := Lib.hid k1
  clear k1
  have le_HB_N2 : w.heap.size ≤ N2 := by rw [← HN2.out]; exact HB.out.size
  have HBn := Lib.hid (HB.out.trans (b1.mono HB.out.size))
  clear HB
  have HB := HBn
  clear HBn
  clear b1 HN2
  go_wp2_with (refine wpList_st rfl 127 (.tmp 4) (.tmp 10) rfl N2 0 rfl (.agg (pdC p)) (pdC p) rfl rfl info_pdP (pdC_one _) K4.out (Nat.le_of_ble_eq_true rfl) (C' := pdC p) (pd_over _ _) ?_; intro w20 q1; refine Hid.out ?_)
  refine Lib.hid ?_
  have HBn := Lib.hid (HB.out.trans (q1.2.1 _ (by omega)))
  clear HB
  have HB := HBn
  clear HBn
  have K4n : Hid (Blk 127 w20 N2 (pdC p)) := Lib.hid q1.1
  clear K4
  have K4 := K4n
  clear K4n q1
  obtain ⟨kd, hkd⟩ : ∃ k, z 4 = k := ⟨_, rfl⟩
  rw [hkd] at HQ HKD
  have c0 : w20.cell? ⟨N2, 0, none⟩ = some (.int .u8 kd) := (K4.out.cell 0).trans (by rw [pdC_0, HKD.out])
  clear hkd
  have k1 : kd ≠ 18 := fun e => by have := HQ.out; subst e; exact this.2 (by rw [← this.1]; rfl)
  have k2 : kd ≠ 20 := fun e => by have := HQ.out; subst e; exact this.2 (by rw [← this.1]; rfl)
  have k3 : (kd != 18) = true := by simp [k1]
  have k4 : (kd != 20) = true := by simp [k2]
  go_wp2_with fail
  refine bodyPost_ret (v := .tuple #[.pointer none, .int .i64 3]) (by simp [results, Tryz.f43, go_sem]) rfl ?_
  exact ⟨rfl, HB.out⟩
/-- what a nil store's Put and the document's answer of bytes -/
def nilE (E : Int) : Int := if E = 0 ∨ E = 8 then 6 else E
/-- read says an error, or none -/
def ReadE (w : World) (E : Int) (e : Ending) (w' : World) : Prop := ∃ v, e = .returned (.tuple #[v, .int .i64 E]) ∧ Below w.heap.size w w'
set_option maxHeartbeats 16000000 in
set_option maxRecDepth 100000 in
theorem put_nil (A : Option Addr) (n c : Nat) (E : Int) (hE : E = 0 ∨ E = 2 ∨ E = 3 ∨ E = 8) (w : World) (hrd : Calls Tryz.prog 43 #[.slice A n c] w (ReadE w E)) :
    Calls Tryz.prog 14 #[.pointer none, .slice A n c] w fun e w' => e = .returned (.tuple #[.int .i64 0, .int .i64 (nilE E)]) ∧ Below w.heap.size w w' := by
  have HRD := Lib.hid hrd
  have HE := Lib.hid hE
  clear hrd hE
  go_enter Tryz.func14, Tryz.ntmps14
  go_wp2_with fail
  refine HRD.out.mono ?_
  rintro e w1 ⟨v, rfl, b1⟩
  have HB := Lib.hid b1
  clear b1
  go_wp2_with fail
  refine (least_6 E HE.out w1).mono ?_
  rintro e w2 ⟨rfl, rfl⟩
  obtain ⟨x, hx⟩ : ∃ x, (if E = 0 ∨ E = 8 then 6 else E) = x := ⟨_, rfl⟩
  rw [hx]
  have HX := Lib.hid hx
  clear hx
  go_wp2_with fail
  refine bodyPost_ret (v := .tuple #[.int .i64 0, .int .i64 x]) (by simp [results, Tryz.f14, go_sem]) rfl ?_
  exact ⟨by rw [← HX.out]; rfl, HB.out⟩
set_option maxHeartbeats 16000000 in
set_option maxRecDepth 100000 in
theorem docPut_no (A : Option Addr) (n c : Nat) (E : Int) (hE : E = 2 ∨ E = 3 ∨ E = 8) (w : World) (hrd : Calls Tryz.prog 47 #[.slice A n c] w (RdErr w E)) :
    Calls Tryz.prog 16 #[.pointer none, .slice A n c] w fun e w' => e = .returned (.tuple #[.int .i64 0, .int .i64 (nilE E)]) ∧ Below w.heap.size w w' := by
  have HRD := Lib.hid hrd
  clear hrd
  obtain ⟨X, hX⟩ : ∃ X, (nilE E) = X := ⟨_, rfl⟩
  rw [hX]
  have HXX := Lib.hid hX
  clear hX
  go_enter Tryz.func16, Tryz.ntmps16
  go_wp2_with fail
  refine HRD.out.mono ?_
  rintro e w1 ⟨rfl, b1⟩
  have HB := Lib.hid b1
  clear b1 HRD
  obtain ⟨N2, hN2⟩ : ∃ N, w1.heap.size = N := ⟨_, rfl⟩
  have HN2 := Lib.hid hN2
  clear hN2
  go_wp2_with (refine wpList_new (op := ⟨some 6, _, _, _, _, _⟩) rfl 39 rfl (pdC pd0) zero_pdR N2 HN2.out ?_; intro w2 k1 b1 s1; refine Hid.out ?_)
  refine Lib.hid ?_
  have K6 := Lib.hid k1
  clear k1
  have le_HB_N2 : w.heap.size ≤ N2 := by rw [← HN2.out]; exact HB.out.size
  have HBn := Lib.hid (HB.out.trans (b1.mono HB.out.size))
  clear HB
  have HB := HBn
  clear HBn
  clear b1 HN2
  go_wp2_with (refine wpList_st rfl 39 (.tmp 6) (.tmp 14) rfl N2 0 rfl (.agg (pdC pd0)) (pdC pd0) rfl rfl info_pdR (pdC_one _) K6.out (Nat.le_of_ble_eq_true rfl) (C' := pdC pd0) (pd_over' _ _) ?_; intro w20 q1; refine Hid.out ?_)
  refine Lib.hid ?_
  have HBn := Lib.hid (HB.out.trans (q1.2.1 _ (by omega)))
  clear HB
  have HB := HBn
  clear HBn
  have K6n : Hid (Blk 39 w20 N2 (pdC pd0)) := Lib.hid q1.1
  clear K6
  have K6 := K6n
  clear K6n q1
  rcases hE with rfl | rfl | rfl
  · skip
    go_wp2_with fail
    refine bodyPost_ret (v := .tuple #[.int .i64 0, .int .i64 2]) (by simp [results, Tryz.f16, go_sem]) rfl ?_
    exact ⟨by rw [← HXX.out]; rfl, HB.out⟩
  · skip
    go_wp2_with fail
    refine bodyPost_ret (v := .tuple #[.int .i64 0, .int .i64 3]) (by simp [results, Tryz.f16, go_sem]) rfl ?_
    exact ⟨by rw [← HXX.out]; rfl, HB.out⟩
  · skip
    go_wp2_with fail
    refine bodyPost_ret (v := .tuple #[.int .i64 0, .int .i64 6]) (by simp [results, Tryz.f16, go_sem]) rfl ?_
    exact ⟨by rw [← HXX.out]; rfl, HB.out⟩
set_option maxHeartbeats 16000000 in
set_option maxRecDepth 100000 in
theorem docPut_yes (A : Option Addr) (n c : Nat) (z : Nat → Int) (q m : Nat) (w : World) (hrd : Calls Tryz.prog 47 #[.slice A n c] w (RdOk w q z m)) (hq : cls (z 4) = q) :
    Calls Tryz.prog 16 #[.pointer none, .slice A n c] w fun e w' => e = .returned (.tuple #[.int .i64 0, .int .i64 (nilE (if q = 2 then 0 else 3))]) ∧ Below w.heap.size w w' := by
  have HRD := Lib.hid hrd
  clear hrd
  obtain ⟨X, hX⟩ : ∃ X, (nilE (if q = 2 then 0 else 3)) = X := ⟨_, rfl⟩
  rw [hX]
  have HXX := Lib.hid hX
  clear hX
  go_enter Tryz.func16, Tryz.ntmps16
  go_wp2_with fail
  refine HRD.out.mono ?_
  rintro e w1 ⟨A7, c7, L, rfl, ho, hI, hA7, hc71, hc72, b1⟩
  have HB := Lib.hid b1
  clear b1 HRD
  clear ho hI hA7 hc71 hc72
  obtain ⟨p, hp⟩ : ∃ p, withT (rdP q z) A7 m c7 = p := ⟨_, rfl⟩
  rw [hp]
  have hkd : p.kd = z 4 := by rw [← hp]; exact rdP_kd q z
  have HKD := Lib.hid hkd
  have HQ := Lib.hid hq
  clear hp hkd hq
  obtain ⟨N2, hN2⟩ : ∃ N, w1.heap.size = N := ⟨_, rfl⟩
  have HN2 := Lib.hid hN2
  clear hN2
  go_wp2_with (refine wpList_new (op := ⟨some 6, _, _, _, _, _⟩) rfl 39 rfl (pdC pd0) zero_pdR N2 HN2.out ?_; intro w2 k1 b1 s1; refine Hid.out ?_)
  refine Lib.hid ?_
  have K6 := Lib.hid k1
  clear k1
  have le_HB_N2 : w.heap.size ≤ N2 := by rw [← HN2.out]; exact HB.out.size
  have HBn := Lib.hid (HB.out.trans (b1.mono HB.out.size))
  clear HB
  have HB := HBn
  clear HBn
  clear b1 HN2
  go_wp2_with (refine wpList_st rfl 39 (.tmp 6) (.tmp 14) rfl N2 0 rfl (.agg (pdC p)) (pdC p) rfl rfl info_pdR (pdC_one _) K6.out (Nat.le_of_ble_eq_true rfl) (C' := pdC p) (pd_over' _ _) ?_; intro w20 q1; refine Hid.out ?_)
  refine Lib.hid ?_
  have HBn := Lib.hid (HB.out.trans (q1.2.1 _ (by omega)))
  clear HB
  have HB := HBn
  clear HBn
  have K6n : Hid (Blk 39 w20 N2 (pdC p)) := Lib.hid q1.1
  clear K6
  have K6 := K6n
  clear K6n q1
  obtain ⟨kd, hkd⟩ : ∃ k, z 4 = k := ⟨_, rfl⟩
  rw [hkd] at HQ HKD
  clear hkd
  have c0 : w20.cell? ⟨N2, 0, none⟩ = some (.int .u8 kd) := (K6.out.cell 0).trans (by rw [pdC_0, HKD.out])
  go_wp2_with fail
  by_cases hk : kd = 18 ∨ kd = 20
  · skip
    have HK := Lib.hid hk
    have HX : Hid (X = 6) := Lib.hid (by rw [← HXX.out]; rw [if_pos (by rw [← HQ.out]; rcases hk with rfl | rfl <;> rfl)]; rfl)
    clear hk
    refine (lsp_yes kd HK.out w20).mono ?_
    rintro e w21 ⟨rfl, rfl⟩
    go_wp2_with fail
    refine bodyPost_ret (v := .tuple #[.int .i64 0, .int .i64 6]) (by simp [results, Tryz.f16, go_sem]) rfl ?_
    exact ⟨by rw [HX.out], HB.out⟩
  · skip
    have HK := Lib.hid hk
    have HX : Hid (X = 3) := Lib.hid (by rw [← HXX.out]; rw [if_neg (fun e9 => hk (by have h9 := HQ.out; rw [e9] at h9; unfold cls at h9; (repeat' split at h9) <;> omega))]; rfl)
    clear hk
    refine (lsp_no kd HK.out w20).mono ?_
    rintro e w21 ⟨rfl, rfl⟩
    go_wp2_with fail
    refine bodyPost_ret (v := .tuple #[.int .i64 0, .int .i64 3]) (by simp [results, Tryz.f16, go_sem]) rfl ?_
    exact ⟨by rw [HX.out], HB.out⟩
theorem en_idN {w : World} {g n : Nat} {sq su : Nat} {li : Int} (k : Blk 58 w g (enC ⟨dg n, sq, li, su⟩)) : w.rangeAt g 0 (iC n).toList := k.range (eight8 ⟨rfl, rfl, rfl, rfl, rfl, rfl, rfl, rfl⟩)
set_option maxHeartbeats 16000000 in
set_option maxRecDepth 100000 in
theorem find_nil (n : Nat) (w : World) : Calls Tryz.prog 30 #[.pointer none, .agg (iC n)] w fun e w' => e = .returned (.tuple #[.pointer none, .int .i64 6]) ∧ Below w.heap.size w w' := by
  go_enter Tryz.func30, Tryz.ntmps30
  have HB := Lib.hid (Below.refl w.heap.size w)
  obtain ⟨N1, hN1⟩ : ∃ N, w.heap.size = N := ⟨_, rfl⟩
  have HN1 := Lib.hid hN1
  clear hN1
  go_wp2_with (refine wpList_box (op := ⟨some 3, _, _, _, _, _⟩) rfl 35 (.tmp 1) rfl (iC n) rfl N1 HN1.out ?_; intro w1 k1 b1 s1; refine Hid.out ?_)
  refine Lib.hid ?_
  have K3 := Lib.hid k1
  clear k1
  have le_HB_N1 : w.heap.size ≤ N1 := by rw [← HN1.out]; exact HB.out.size
  have HBn := Lib.hid (HB.out.trans (b1.mono HB.out.size))
  clear HB
  have HB := HBn
  clear HBn
  clear b1 HN1
  go_wp2_with fail
  refine bodyPost_ret (v := .tuple #[.pointer none, .int .i64 6]) (by simp [results, Tryz.f30, go_sem]) rfl ?_
  exact ⟨rfl, HB.out⟩
set_option maxHeartbeats 16000000 in
set_option maxRecDepth 100000 in
theorem drop_nil (n : Nat) (w : World) : Calls Tryz.prog 9 #[.pointer none, .agg (iC n)] w fun e w' => e = .returned (.int .i64 6) ∧ Below w.heap.size w w' := by
  go_enter Tryz.func9, Tryz.ntmps9
  have HB := Lib.hid (Below.refl w.heap.size w)
  obtain ⟨N1, hN1⟩ : ∃ N, w.heap.size = N := ⟨_, rfl⟩
  have HN1 := Lib.hid hN1
  clear hN1
  go_wp2_with (refine wpList_box (op := ⟨some 3, _, _, _, _, _⟩) rfl 35 (.tmp 1) rfl (iC n) rfl N1 HN1.out ?_; intro w1 k1 b1 s1; refine Hid.out ?_)
  refine Lib.hid ?_
  have K3 := Lib.hid k1
  clear k1
  have le_HB_N1 : w.heap.size ≤ N1 := by rw [← HN1.out]; exact HB.out.size
  have HBn := Lib.hid (HB.out.trans (b1.mono HB.out.size))
  clear HB
  have HB := HBn
  clear HBn
  clear b1 HN1
  go_wp2_with (refine wpList_ld (op := ⟨some 9, _, _, _, _, _⟩) (by rfl) 35 (.tmp 3) rfl N1 0 rfl (iC n) _ K3.out.all Tryz.underlying35 rfl info_iC ?_; refine Hid.out ?_)
  refine Lib.hid ?_
  go_wp2_with fail
  refine (find_nil n w1).mono ?_
  rintro e w2 ⟨rfl, b1⟩
  have K3n := Lib.hid (K3.out.below b1 K3.out.lt)
  clear K3
  have K3 := K3n
  clear K3n
  have HBn := Lib.hid (HB.out.trans (b1.mono HB.out.size))
  clear HB
  have HB := HBn
  clear HBn
  go_wp2_with fail
  go_ret
  exact ⟨rfl, HB.out⟩
set_option maxHeartbeats 16000000 in
set_option maxRecDepth 100000 in
theorem drop_any (B s b k n : Nat) (H : Nat → Option Hd) (r : Bool) (w : World) (hst : StAt w B s b H k r) (hn : IdOk n) (hH : H n ≠ none) : Calls Tryz.prog 9 #[.pointer (some ⟨s, 0, none⟩), .agg (iC n)] w fun e w' => e = .returned (.int .i64 0) ∧ Below B w w' ∧ ∃ M, Blk 76 w' s (stC b false) ∧ MapAt w' b M (k - 1) := by
  have HST := Lib.hid hst
  have HID := Lib.hid hn
  have HH := Lib.hid hH
  have lt_B := hst.ltB
  clear hst hn hH
  go_enter Tryz.func9, Tryz.ntmps9
  have HB := Lib.hid (Below.refl w.heap.size w)
  obtain ⟨N1, hN1⟩ : ∃ N, w.heap.size = N := ⟨_, rfl⟩
  have HN1 := Lib.hid hN1
  clear hN1
  go_wp2_with (refine wpList_box (op := ⟨some 3, _, _, _, _, _⟩) rfl 35 (.tmp 1) rfl (iC n) rfl N1 HN1.out ?_; intro w1 k1 b1 s1; refine Hid.out ?_)
  refine Lib.hid ?_
  have K3 := Lib.hid k1
  clear k1
  have le_HB_N1 : w.heap.size ≤ N1 := by rw [← HN1.out]; exact HB.out.size
  have HBn := Lib.hid (HB.out.trans (b1.mono HB.out.size))
  clear HB
  have HB := HBn
  clear HBn
  clear b1 HN1
  go_wp2_with (refine wpList_ld (op := ⟨some 9, _, _, _, _, _⟩) (by rfl) 35 (.tmp 3) rfl N1 0 rfl (iC n) _ K3.out.all Tryz.underlying35 rfl info_iC ?_; refine Hid.out ?_)
  refine Lib.hid ?_
  have HST2 := Lib.hid (HST.out.below HB.out)
  go_wp2_with fail
  refine (find_any B s b k n H r w1 HST2.out HID.out).mono ?_
  rintro e w2 ⟨b1, hc⟩
  have K3n := Lib.hid (K3.out.below b1 K3.out.lt)
  clear K3
  have K3 := K3n
  clear K3n
  have HBn := Lib.hid (HB.out.trans (b1.mono HB.out.size))
  clear HB
  have HB := HBn
  clear HBn
  have hR : ∃ v, e = .returned (.tuple #[v, .int .i64 0]) := by
    rcases hc with ⟨h1, _⟩ | ⟨g9, h9, _, h2, _⟩
    · exact absurd h1 HH.out
    · exact ⟨_, h2⟩
  obtain ⟨v, rfl⟩ := hR
  have HST3 := Lib.hid (HST2.out.below b1)
  clear hc b1
  obtain ⟨M, hM, hMH, hMA, hMI⟩ := HST3.out.map
  have KM := Lib.hid hM
  have HMH := Lib.hid hMH
  clear hM hMH hMA hMI
  go_wp2_with (refine wpList_ld (op := ⟨some 17, _, _, _, _, _⟩) (by rfl) 35 (.tmp 3) rfl N1 0 rfl (iC n) _ K3.out.all Tryz.underlying35 rfl info_iC ?_; refine Hid.out ?_)
  refine Lib.hid ?_
  go_wp2_with fail
  refine (drop_map s b k n r M w2 HST3.out.blk KM.out HST3.out.ne HID.out).mono ?_
  rintro e w9 ⟨rfl, hf, hk9, hm9⟩
  have HBn := Lib.hid ((HB.out.mono lt_B).trans (hf.below HST.out.hs HST.out.hb HST3.out.ltB))
  have hMn : (M n).isSome = true := by
    cases h9 : M n with
    | none => exact absurd ((HMH.out n).1 h9) HH.out
    | some x => rfl
  rw [if_pos hMn] at hm9
  have HK9 := Lib.hid hk9
  have HM9 := Lib.hid hm9
  clear hf hk9 hm9 hMn
  go_wp2_with fail
  go_ret
  exact ⟨rfl, HBn.out, _, HK9.out, HM9.out⟩
set_option maxHeartbeats 16000000 in
set_option maxRecDepth 100000 in
theorem comp_nil (n sq su : Nat) (li : Int) (w : World) : Calls Tryz.prog 18 #[.pointer none, .agg (enC ⟨dg n, sq, li, su⟩)] w fun e w' => e = .returned (.tuple #[.int .i64 0, .int .i64 6]) ∧ Below w.heap.size w w' := by
  go_enter Tryz.func18, Tryz.ntmps18
  have HB := Lib.hid (Below.refl w.heap.size w)
  obtain ⟨N1, hN1⟩ : ∃ N, w.heap.size = N := ⟨_, rfl⟩
  have HN1 := Lib.hid hN1
  clear hN1
  go_wp2_with (refine wpList_box (op := ⟨some 3, _, _, _, _, _⟩) rfl 58 (.tmp 1) rfl (enC ⟨dg n, sq, li, su⟩) rfl N1 HN1.out ?_; intro w1 k1 b1 s1; refine Hid.out ?_)
  refine Lib.hid ?_
  have K3 := Lib.hid k1
  clear k1
  have le_HB_N1 : w.heap.size ≤ N1 := by rw [← HN1.out]; exact HB.out.size
  have HBn := Lib.hid (HB.out.trans (b1.mono HB.out.size))
  clear HB
  have HB := HBn
  clear HBn
  clear b1 HN1
  go_wp2_with (refine wpList_ld (op := ⟨some 11, _, _, _, _, _⟩) (by rfl) 35 (.tmp 10) rfl N1 0 rfl (iC n) _ (en_idN K3.out) Tryz.underlying35 rfl info_iC ?_; refine Hid.out ?_)
  refine Lib.hid ?_
  go_wp2_with fail
  refine (find_nil n w1).mono ?_
  rintro e w2 ⟨rfl, b1⟩
  have K3n := Lib.hid (K3.out.below b1 K3.out.lt)
  clear K3
  have K3 := K3n
  clear K3n
  have HBn := Lib.hid (HB.out.trans (b1.mono HB.out.size))
  clear HB
  have HB := HBn
  clear HBn
  go_wp2_with fail
  refine bodyPost_ret (v := .tuple #[.int .i64 0, .int .i64 6]) (by simp [results, Tryz.f18, go_sem]) rfl ?_
  exact ⟨rfl, HB.out⟩
set_option maxHeartbeats 16000000 in
set_option maxRecDepth 100000 in
theorem list_nil (m n : Nat) (w : World) : Calls Tryz.prog 19 #[.pointer none, .agg (iC m), .agg (iC n)] w fun e w' => e = .returned (.slice none 0 0) ∧ Below w.heap.size w w' := by
  go_enter Tryz.func19, Tryz.ntmps19
  have HB := Lib.hid (Below.refl w.heap.size w)
  obtain ⟨N1, hN1⟩ : ∃ N, w.heap.size = N := ⟨_, rfl⟩
  have HN1 := Lib.hid hN1
  clear hN1
  go_wp2_with (refine wpList_box (op := ⟨some 4, _, _, _, _, _⟩) rfl 35 (.tmp 1) rfl (iC m) rfl N1 HN1.out ?_; intro w1 k1 b1 s1; refine Hid.out ?_)
  refine Lib.hid ?_
  have K4 := Lib.hid k1
  clear k1
  have le_HB_N1 : w.heap.size ≤ N1 := by rw [← HN1.out]; exact HB.out.size
  have HBn := Lib.hid (HB.out.trans (b1.mono HB.out.size))
  clear HB
  have HB := HBn
  clear HBn
  clear b1 HN1
  obtain ⟨N2, hN2⟩ : ∃ N, w1.heap.size = N := ⟨_, rfl⟩
  have HN2 := Lib.hid hN2
  clear hN2
  go_wp2_with (refine wpList_box (op := ⟨some 5, _, _, _, _, _⟩) rfl 35 (.tmp 2) rfl (iC n) rfl N2 HN2.out ?_; intro w2 k1 b1 s1; refine Hid.out ?_)
  refine Lib.hid ?_
  have K5 := Lib.hid k1
  clear k1
  have lt_N1_N2 : N1 < N2 := by rw [← HN2.out]; exact K4.out.lt
  have le_HB_N2 : w.heap.size ≤ N2 := by rw [← HN2.out]; exact HB.out.size
  have K4n := Lib.hid (K4.out.below b1 K4.out.lt)
  clear K4
  have K4 := K4n
  clear K4n
  have HBn := Lib.hid (HB.out.trans (b1.mono HB.out.size))
  clear HB
  have HB := HBn
  clear HBn
  clear b1 HN2
  go_wp2_with fail
  go_ret
  exact ⟨rfl, HB.out⟩
set_option maxHeartbeats 16000000 in
set_option maxRecDepth 100000 in
theorem get_nil (n : Nat) (w : World) : Calls Tryz.prog 17 #[.pointer none, .agg (iC n)] w fun e w' => e = .returned (.tuple #[.slice none 0 0, .agg (enC en0), .int .i64 6]) ∧ Below w.heap.size w w' := by
  go_enter Tryz.func17, Tryz.ntmps17
  have HB := Lib.hid (Below.refl w.heap.size w)
  obtain ⟨N1, hN1⟩ : ∃ N, w.heap.size = N := ⟨_, rfl⟩
  have HN1 := Lib.hid hN1
  clear hN1
  go_wp2_with (refine wpList_box (op := ⟨some 3, _, _, _, _, _⟩) rfl 35 (.tmp 1) rfl (iC n) rfl N1 HN1.out ?_; intro w1 k1 b1 s1; refine Hid.out ?_)
  refine Lib.hid ?_
  have K3 := Lib.hid k1
  clear k1
  have le_HB_N1 : w.heap.size ≤ N1 := by rw [← HN1.out]; exact HB.out.size
  have HBn := Lib.hid (HB.out.trans (b1.mono HB.out.size))
  clear HB
  have HB := HBn
  clear HBn
  clear b1 HN1
  obtain ⟨N2, hN2⟩ : ∃ N, w1.heap.size = N := ⟨_, rfl⟩
  have HN2 := Lib.hid hN2
  clear hN2
  go_wp2_with (refine wpList_new (op := ⟨some 5, _, _, _, _, _⟩) rfl 58 rfl (enC en0) zero_en N2 HN2.out ?_; intro w2 k1 b1 s1; refine Hid.out ?_)
  refine Lib.hid ?_
  have K5 := Lib.hid k1
  clear k1
  have lt_N1_N2 : N1 < N2 := by rw [← HN2.out]; exact K3.out.lt
  have le_HB_N2 : w.heap.size ≤ N2 := by rw [← HN2.out]; exact HB.out.size
  have K3n := Lib.hid (K3.out.below b1 K3.out.lt)
  clear K3
  have K3 := K3n
  clear K3n
  have HBn := Lib.hid (HB.out.trans (b1.mono HB.out.size))
  clear HB
  have HB := HBn
  clear HBn
  clear b1 HN2
  go_wp2_with (refine wpList_ld (op := ⟨some 12, _, _, _, _, _⟩) (by rfl) 35 (.tmp 3) rfl N1 0 rfl (iC n) _ K3.out.all Tryz.underlying35 rfl info_iC ?_; refine Hid.out ?_)
  refine Lib.hid ?_
  go_wp2_with fail
  refine (find_nil n w2).mono ?_
  rintro e w3 ⟨rfl, b1⟩
  have K3n := Lib.hid (K3.out.below b1 K3.out.lt)
  clear K3
  have K3 := K3n
  clear K3n
  have K5n := Lib.hid (K5.out.below b1 K5.out.lt)
  clear K5
  have K5 := K5n
  clear K5n
  have HBn := Lib.hid (HB.out.trans (b1.mono HB.out.size))
  clear HB
  have HB := HBn
  clear HBn
  go_wp2_with (refine wpList_v (op := ⟨some 18, _, _, _, _, _⟩) rfl (.agg (enC en0)) (build_en0 _ _ rfl _) ?_; refine Hid.out ?_)
  refine Lib.hid ?_
  go_wp2_with (refine wpList_st rfl 58 (.tmp 5) (.tmp 18) rfl N2 0 rfl (.agg (enC en0)) (enC en0) rfl rfl info_enP (enC_all _) K5.out (Nat.le_of_ble_eq_true rfl) (C' := enC en0) (en_over _ _) ?_; intro w20 q1; refine Hid.out ?_)
  refine Lib.hid ?_
  have K3n := Lib.hid (K3.out.far q1 (by omega))
  clear K3
  have K3 := K3n
  clear K3n
  have HBn := Lib.hid (HB.out.trans (q1.2.1 _ (by omega)))
  clear HB
  have HB := HBn
  clear HBn
  have K5n : Hid (Blk 58 w20 N2 (enC en0)) := Lib.hid q1.1
  clear K5
  have K5 := K5n
  clear K5n q1
  go_wp2_with fail
  exact bodyPost_ret (results_c rfl _ _ N2 (enC en0) (.slice none 0 0) (.int .i64 6) Tryz.underlying58 rfl info_enP rfl rfl rfl K5.out) rfl ⟨rfl, HB.out⟩
set_option maxHeartbeats 16000000 in
set_option maxRecDepth 100000 in
theorem last_any (w : World) : Calls Tryz.prog 20 #[] w fun e w' => e = .returned (.agg (iC 18446744073709551615)) ∧ Below w.heap.size w w' := by
  go_enter Tryz.func20, Tryz.ntmps20
  have HB := Lib.hid (Below.refl w.heap.size w)
  obtain ⟨N1, hN1⟩ : ∃ N, w.heap.size = N := ⟨_, rfl⟩
  have HN1 := Lib.hid hN1
  clear hN1
  go_wp2_with (refine wpList_new (op := ⟨some 0, _, _, _, _, _⟩) rfl 35 rfl (iC 0) zero_idN N1 HN1.out ?_; intro w1 k1 b1 s1; refine Hid.out ?_)
  refine Lib.hid ?_
  have K0 := Lib.hid k1
  clear k1
  have le_HB_N1 : w.heap.size ≤ N1 := by rw [← HN1.out]; exact HB.out.size
  have HBn := Lib.hid (HB.out.trans (b1.mono HB.out.size))
  clear HB
  have HB := HBn
  clear HBn
  clear b1 HN1
  go_wp2_with (refine wpList_v (op := ⟨some 1, _, _, _, _, _⟩) rfl (.agg #[.int .u8 255, .int .u8 255, .int .u8 255, .int .u8 255, .int .u8 255, .int .u8 255]) (build_l1 _ _ rfl (fun _ => rfl) _) ?_; refine Hid.out ?_)
  refine Lib.hid ?_
  go_wp2_with (refine wpList_v (op := ⟨some 2, _, _, _, _, _⟩) rfl (.agg #[.int .u8 255, .int .u8 255, .int .u8 255, .int .u8 255, .int .u8 255, .int .u8 255, .int .u8 255]) (build_l2 _ _ _ rfl (fun _ => rfl) rfl _) ?_; refine Hid.out ?_)
  refine Lib.hid ?_
  go_wp2_with (refine wpList_v (op := ⟨some 3, _, _, _, _, _⟩) rfl (.agg (iC 18446744073709551615)) (build_l3 _ _ _ rfl (fun _ => rfl) rfl _) ?_; refine Hid.out ?_)
  refine Lib.hid ?_
  go_wp2_with (refine wpList_st rfl 35 (.tmp 0) (.tmp 3) rfl N1 0 rfl (.agg (iC 18446744073709551615)) (iC 18446744073709551615) rfl rfl info_iC (iC_one' _) K0.out (Nat.le_of_ble_eq_true rfl) (C' := iC 18446744073709551615) (id_overN _ _) ?_; intro w20 q1; refine Hid.out ?_)
  refine Lib.hid ?_
  have HBn := Lib.hid (HB.out.trans (q1.2.1 _ (by omega)))
  clear HB
  have HB := HBn
  clear HBn
  have K0n : Hid (Blk 35 w20 N1 (iC 18446744073709551615)) := Lib.hid q1.1
  clear K0
  have K0 := K0n
  clear K0n q1
  go_wp2_with fail
  exact bodyPost_ret (results_1 rfl _ w20 N1 (iC 18446744073709551615) Tryz.underlying35 rfl info_iC rfl K0.out) rfl ⟨rfl, HB.out⟩
set_option maxHeartbeats 16000000 in
set_option maxRecDepth 100000 in
theorem len_nil (w : World) : Calls Tryz.prog 21 #[.pointer none] w fun e w' => e = .returned (.int .i64 0) ∧ w' = w := by
  go_enter Tryz.func21, Tryz.ntmps21
  go_wp2
  go_ret
  exact ⟨rfl, rfl⟩
set_option maxHeartbeats 16000000 in
set_option maxRecDepth 100000 in
theorem refused_nil (w : World) : Calls Tryz.prog 22 #[.pointer none] w fun e w' => e = .returned (.bool false) ∧ w' = w := by
  go_enter Tryz.func22, Tryz.ntmps22
  go_wp2
  go_ret
  exact ⟨rfl, rfl⟩
set_option maxHeartbeats 16000000 in
set_option maxRecDepth 100000 in
theorem age_nil (t : Int) (w : World) : Calls Tryz.prog 11 #[.pointer none, .int .i64 t] w fun e w' => e = .returned (.tuple #[.slice none 0 0, .int .i64 (if t < 0 ∨ 65535 < t then 1 else 6)]) ∧ w' = w := by
  by_cases h1 : t < 0
  · rw [if_pos (.inl h1)]
    go_enter Tryz.func11, Tryz.ntmps11
    go_wp2
    refine bodyPost_ret (v := .tuple #[.slice none 0 0, .int .i64 1]) (by simp [results, Tryz.f11, go_sem]) rfl ?_
    exact ⟨rfl, rfl⟩
  · by_cases h2 : 65535 < t
    · rw [if_pos (.inr h2)]
      go_enter Tryz.func11, Tryz.ntmps11
      go_wp2
      refine bodyPost_ret (v := .tuple #[.slice none 0 0, .int .i64 1]) (by simp [results, Tryz.f11, go_sem]) rfl ?_
      exact ⟨rfl, rfl⟩
    · rw [if_neg (by omega)]
      go_enter Tryz.func11, Tryz.ntmps11
      go_wp2
      refine bodyPost_ret (v := .tuple #[.slice none 0 0, .int .i64 6]) (by simp [results, Tryz.f11, go_sem]) rfl ?_
      exact ⟨rfl, rfl⟩
set_option maxHeartbeats 16000000 in
set_option maxRecDepth 100000 in
theorem docAge_nil (t : Int) (w : World) : Calls Tryz.prog 12 #[.pointer none, .int .i64 t] w fun e w' => e = .returned (.tuple #[.slice none 0 0, .int .i64 (if t < 0 ∨ 65535 < t then 1 else 6)]) ∧ w' = w := by
  by_cases h1 : t < 0
  · rw [if_pos (.inl h1)]
    go_enter Tryz.func12, Tryz.ntmps12
    go_wp2
    refine bodyPost_ret (v := .tuple #[.slice none 0 0, .int .i64 1]) (by simp [results, Tryz.f12, go_sem]) rfl ?_
    exact ⟨rfl, rfl⟩
  · by_cases h2 : 65535 < t
    · rw [if_pos (.inr h2)]
      go_enter Tryz.func12, Tryz.ntmps12
      go_wp2
      refine bodyPost_ret (v := .tuple #[.slice none 0 0, .int .i64 1]) (by simp [results, Tryz.f12, go_sem]) rfl ?_
      exact ⟨rfl, rfl⟩
    · rw [if_neg (by omega)]
      go_enter Tryz.func12, Tryz.ntmps12
      go_wp2
      refine bodyPost_ret (v := .tuple #[.slice none 0 0, .int .i64 6]) (by simp [results, Tryz.f12, go_sem]) rfl ?_
      exact ⟨rfl, rfl⟩
end Go.Proofs.YtljkcpjkbmbphaaGreat

/- A list of types and values that came in as an argument can be read. No condition. -/
namespace Go.Proofs.YtljkcpjkbmbphaaGreat
open Go.RowKit Go.ChangeShapes Go.WideShapes
set_option linter.unusedVariables false

end Go.Proofs.YtljkcpjkbmbphaaGreat

/- A packet that came in as an argument can be read. No condition. -/
namespace Go.Proofs.YtljkcpjkbmbphaaGreat
open Go.RowKit Go.ChangeShapes Go.WideShapes
set_option linter.unusedVariables false

section
variable {H : Type} {enc : TypeId × Value → H} {w : World} {base : Nat} {spare : Nat → Bool} {held : Bool} {m : Nat} {cs : List Value}
end
end Go.Proofs.YtljkcpjkbmbphaaGreat

/- What the laws of pdu have in common: a copy is made and written. Each theorem states its conditions. -/
namespace Go.Proofs.YtljkcpjkbmbphaaGreat
open Go.RowKit
set_option linter.unusedVariables false

end Go.Proofs.YtljkcpjkbmbphaaGreat

/- An LSP of which a byte is turned is no packet. Each theorem states its conditions. -/
namespace Go.Proofs.YtljkcpjkbmbphaaGreat
open Go.RowKit
set_option linter.unusedVariables false

theorem RdT.cut {w : World} {A : Option Addr} {m : Nat} {L : Nat → It} (h : RdT w A m L) (k : Nat) (hk : k ≤ m) : RdT w A k L := by
  rcases h with h | ⟨b, off, rfl, h⟩
  · exact .inl (by omega)
  · exact .inr ⟨b, off, rfl, h.1, fun j hj => h.2 j (by omega)⟩
end Go.Proofs.YtljkcpjkbmbphaaGreat

/- An LSP whose life alone is another one: its bytes. Each theorem states its conditions. -/
namespace Go.Proofs.YtljkcpjkbmbphaaGreat
open Go.RowKit
set_option linter.unusedVariables false

end Go.Proofs.YtljkcpjkbmbphaaGreat

/- What was read is written as just these bytes, if they are of the form. Each theorem states its conditions. -/
namespace Go.Proofs.YtljkcpjkbmbphaaGreat
open Go.RowKit
set_option linter.unusedVariables false

theorem sz_it {z : Nat → Int} {L : Nat → It} {m : Nat} (h : IsItZ z L m) : ∀ k, k ≤ m → sz L k = pos z k := by
  intro k hk
  induction k with
  | zero => rfl
  | succ k ih =>
    obtain ⟨g, cap, e⟩ := h k (by omega)
    simp only [sz, pos, ih (by omega), e, itZ]
    omega
theorem J_it {z : Nat → Int} {L : Nat → It} {m : Nat} (hz : ∀ j, 0 ≤ z j) (h : IsItZ z L m) : ∀ k, k ≤ m → ∀ j, j < pos z k → J L k j = z j := by
  intro k hk
  induction k with
  | zero => intro j hj; simp [pos] at hj
  | succ k ih =>
    intro j hj
    obtain ⟨g, cap, e⟩ := h k (by omega)
    have hs := sz_it h k (by omega)
    have h0 := hz (pos z k + 1)
    simp only [J, e, itZ, hs]
    unfold cat two
    by_cases h1 : j < pos z k
    · rw [if_pos (by omega), if_pos h1]; exact ih (by omega) j h1
    · by_cases h2 : j < pos z k + 2
      · rw [if_pos h2, if_neg h1]
        by_cases h3 : j = pos z k
        · subst h3; simp
        · rw [if_neg (by omega)]
          rw [show j = pos z k + 1 by omega]
          omega
      · rw [if_neg h2]
        show z (pos z k + 2 + (j - (pos z k + 2))) = z j
        rw [show pos z k + 2 + (j - (pos z k + 2)) = j by omega]
theorem good_it {z : Nat → Int} {L : Nat → It} {m : Nat} (hz : ∀ j, 0 ≤ z j ∧ z j ≤ 255) (h : IsItZ z L m) (hp : pos z m ≤ 1492) : ∀ k, k < m → ¬ bad L k := by
  intro k hk hb
  obtain ⟨g, cap, e⟩ := h k hk
  have hs := sz_it h (k + 1) (by omega)
  have h1 := pos_mono z (k + 1) m (by omega)
  have h2 := hz (pos z k + 1)
  unfold bad at hb
  rw [hs, e] at hb
  simp only [itZ] at hb
  omega
theorem num2 (y : Nat → Int) : numZ y 0 2 = y 0 * 256 + y 1 := by simp [numZ]
theorem num4 (y : Nat → Int) : numZ y 0 4 = ((y 0 * 256 + y 1) * 256 + y 2) * 256 + y 3 := by simp [numZ]
theorem put_num2 (y : Nat → Int) (N : Nat) (hy : ∀ j, 0 ≤ y j ∧ y j ≤ 255) (hN : (numZ y 0 2).toNat = N) : ∀ j, j < 2 → putZ N 2 j = y j := by
  intro j hj
  rw [num2] at hN
  have h0 := hy 0
  have h1 := hy 1
  rcases (by omega : j = 0 ∨ j = 1) with rfl | rfl
  · show ((N / 256 ^ 1 % 256 : Nat) : Int) = _
    rw [show (256 : Nat) ^ 1 = 256 from rfl]
    omega
  · show ((N / 256 ^ 0 % 256 : Nat) : Int) = _
    rw [show (256 : Nat) ^ 0 = 1 from rfl]
    omega
theorem put_num4 (y : Nat → Int) (N : Nat) (hy : ∀ j, 0 ≤ y j ∧ y j ≤ 255) (hN : (numZ y 0 4).toNat = N) : ∀ j, j < 4 → putZ N 4 j = y j := by
  intro j hj
  rw [num4] at hN
  have h0 := hy 0
  have h1 := hy 1
  have h2 := hy 2
  have h3 := hy 3
  rcases (by omega : j = 0 ∨ j = 1 ∨ j = 2 ∨ j = 3) with rfl | rfl | rfl | rfl
  · show ((N / 256 ^ 3 % 256 : Nat) : Int) = _
    rw [show (256 : Nat) ^ 3 = 16777216 from rfl]
    omega
  · show ((N / 256 ^ 2 % 256 : Nat) : Int) = _
    rw [show (256 : Nat) ^ 2 = 65536 from rfl]
    omega
  · show ((N / 256 ^ 1 % 256 : Nat) : Int) = _
    rw [show (256 : Nat) ^ 1 = 256 from rfl]
    omega
  · show ((N / 256 ^ 0 % 256 : Nat) : Int) = _
    rw [show (256 : Nat) ^ 0 = 1 from rfl]
    omega
/-- every byte ahead of the TLVs is of the first eight, or of a field -/
theorem cover_l : ∀ q ∈ List.range 5, ∀ j ∈ List.range 33, 8 ≤ j → j < hdN q → ∃ i ∈ List.range 6, i < (flC q).length ∧ ∃ k ∈ List.range 8, k < fsz (fAt q i) ∧ j = accN q i + k := by decide +kernel
theorem cover (q : Nat) (hq : q < 5) (j : Nat) (h33 : j < 33) (h8 : 8 ≤ j) (hh : j < hdN q) : ∃ i, i < 6 ∧ i < (flC q).length ∧ ∃ k, k < 8 ∧ k < fsz (fAt q i) ∧ j = accN q i + k := by
  obtain ⟨i, h1, h2, k, h3, h4⟩ := cover_l q (List.mem_range.2 hq) j (List.mem_range.2 h33) h8 hh
  exact ⟨i, List.mem_range.1 h1, h2, k, List.mem_range.1 h3, h4⟩
theorem cover_11 : ∀ q, q < 5 → ∀ i, i < 6 → i < (flC q).length → fAt q i = 11 → q = 2 ∧ accN q i = 24 := by decide +kernel
theorem fsz_11 : fsz 11 = 2 := rfl
/-- what stands in a field that was read -/
theorem fld_rd (q : Nat) (hq : q < 5) (z : Nat → Int) (hz : ∀ j, 0 ≤ z j ∧ z j ≤ 255) (A : Option Addr) (m c W : Nat) (i : Nat) (hi : i < (flC q).length) (h4 : fAt q i ≠ 4) (h11 : fAt q i ≠ 11) :
    ∀ k, k < fsz (fAt q i) → fZ (withT (rdP q z) A m c) W (fAt q i) k = z (accN q i + k) := by
  rcases (by omega : q = 0 ∨ q = 1 ∨ q = 2 ∨ q = 3 ∨ q = 4) with rfl | rfl | rfl | rfl | rfl
  · rcases (by have : (flC 0).length = 5 := rfl
               omega : i = 0 ∨ i = 1 ∨ i = 2 ∨ i = 3 ∨ i = 4) with rfl | rfl | rfl | rfl | rfl
    · intro k hk; obtain rfl : k = 0 := by have : fsz (fAt 0 0) = 1 := rfl
                                           omega
      rfl
    · intro k hk
      rcases (by have : fsz (fAt 0 1) = 6 := rfl
                 omega : k = 0 ∨ k = 1 ∨ k = 2 ∨ k = 3 ∨ k = 4 ∨ k = 5) with rfl | rfl | rfl | rfl | rfl | rfl <;> rfl
    · exact put_num2 (fun j => z (15 + j)) _ (fun j => hz _) rfl
    · exact absurd rfl h4
    · intro k hk; obtain rfl : k = 0 := by have : fsz (fAt 0 4) = 1 := rfl
                                           omega
      rfl
  · rcases (by have : (flC 1).length = 6 := rfl
               omega : i = 0 ∨ i = 1 ∨ i = 2 ∨ i = 3 ∨ i = 4 ∨ i = 5) with rfl | rfl | rfl | rfl | rfl | rfl
    · intro k hk; obtain rfl : k = 0 := by have : fsz (fAt 1 0) = 1 := rfl
                                           omega
      rfl
    · intro k hk
      rcases (by have : fsz (fAt 1 1) = 6 := rfl
                 omega : k = 0 ∨ k = 1 ∨ k = 2 ∨ k = 3 ∨ k = 4 ∨ k = 5) with rfl | rfl | rfl | rfl | rfl | rfl <;> rfl
    · exact put_num2 (fun j => z (15 + j)) _ (fun j => hz _) rfl
    · exact absurd rfl h4
    · intro k hk; obtain rfl : k = 0 := by have : fsz (fAt 1 4) = 1 := rfl
                                           omega
      rfl
    · intro k hk; rfl
  · rcases (by have : (flC 2).length = 6 := rfl
               omega : i = 0 ∨ i = 1 ∨ i = 2 ∨ i = 3 ∨ i = 4 ∨ i = 5) with rfl | rfl | rfl | rfl | rfl | rfl
    · exact absurd rfl h4
    · exact put_num2 (fun j => z (10 + j)) _ (fun j => hz _) rfl
    · intro k hk; rfl
    · exact put_num4 (fun j => z (20 + j)) _ (fun j => hz _) rfl
    · exact absurd rfl h11
    · intro k hk; obtain rfl : k = 0 := by have : fsz (fAt 2 5) = 1 := rfl
                                           omega
      rfl
  · rcases (by have : (flC 3).length = 4 := rfl
               omega : i = 0 ∨ i = 1 ∨ i = 2 ∨ i = 3) with rfl | rfl | rfl | rfl
    · exact absurd rfl h4
    · intro k hk; rfl
    · intro k hk; rfl
    · intro k hk; rfl
  · rcases (by have : (flC 4).length = 2 := rfl
               omega : i = 0 ∨ i = 1) with rfl | rfl
    · exact absurd rfl h4
    · intro k hk; rfl
/-- but for check bytes: what was read is written as just these bytes, if they are of the form -/
theorem back_iff (q : Nat) (hq : q ≤ 4) (z : Nat → Int) (n m : Nat) (L : Nat → It) (A : Option Addr) (c : Nat) (hk : cls (z 4) = q) (h8 : 8 ≤ n) (hh : hdN q ≤ n) (hn : n ≤ 1492) (hz : ∀ j, 0 ≤ z j ∧ z j ≤ 255)
    (hI : IsItZ (tlZ q z) L m) (hp : pos (tlZ q z) m = n - hdN q) :
    (∀ j, j < n → (q = 2 → j ≠ 24 ∧ j ≠ 25) → pdZ (withT (rdP q z) A m c) q L j = z j) ↔ FormOk z n := by
  have h17 := hdN_bd q hq
  have hs : sz L m = n - hdN q := (sz_it hI m (Nat.le_refl _)).trans hp
  have hkd : (withT (rdP q z) A m c).kd = z 4 := rdP_kd q z
  have hmm : (withT (rdP q z) A m c).m = m := rfl
  have hW : hdN q + sz L m = n := by omega
  constructor
  · intro hE
    refine ⟨h8, by rw [hk]; exact hq, by rw [hk]; exact hh, ?_, ?_⟩
    · rw [eqB_iff hz (headZ_bd _ _ (hz 4) (by rw [hk]; omega))]
      intro j hj
      rw [hk, ← hE j (by omega) (fun _ => by omega), pd_head _ q L hq j hj, hkd]
    · rw [hk]
      intro i hi h4
      have ht := told_pd (withT (rdP q z) A m c) q L (by rw [hmm]; omega) i hi h4
      rw [hmm, hW] at ht
      rw [← ht]
      unfold toldN
      have hac := accN_hd q i hi
      have hf : fsz (fAt q i) = 2 := by rw [h4]; rfl
      have h11 : q = 2 → accN q i ≠ 24 ∧ accN q i ≠ 25 ∧ accN q i + 1 ≠ 24 := fun e => by
        subst e
        rcases (by have : (flC 2).length = 6 := rfl
                   omega : i = 0 ∨ i = 1 ∨ i = 2 ∨ i = 3 ∨ i = 4 ∨ i = 5) with rfl | rfl | rfl | rfl | rfl | rfl
        · exact ⟨by decide, by decide, by decide⟩
        all_goals exact absurd h4 (by decide)
      rw [dnumZ_congr (fun j => pdZ (withT (rdP q z) A m c) q L (accN q i + j)) (fun j => z (accN q i + j)) 2 (fun j hj => hE _ (by omega) (fun e => by have := h11 e; omega))]
  · rintro ⟨_, _, _, h1, h2⟩ j hj hc
    rw [hk] at h1 h2
    rw [eqB_iff hz (headZ_bd _ _ (hz 4) (by omega))] at h1
    by_cases hj8 : j < 8
    · rw [pd_head _ q L hq j hj8, hkd, ← h1 j hj8]
    · by_cases hjh : j < hdN q
      · obtain ⟨i, hi6, hi, k, hk8, hkf, rfl⟩ := cover q (by omega) j (by omega) (by omega) hjh
        by_cases h11 : fAt q i = 11
        · obtain ⟨e1, e2⟩ := cover_11 q (by omega) i hi6 hi h11
          have := hc e1
          rw [h11, fsz_11] at hkf
          omega
        · rw [pd_field _ q L i k hi hkf h11]
          by_cases h4 : fAt q i = 4
          · have ht := h2 i hi h4
            rw [h4] at hkf ⊢
            show putZ (hdN q + sz L m) 2 k = _
            rw [hW]
            exact put_num2 (fun j => z (accN q i + j)) n (fun j => hz _) ht k hkf
          · exact fld_rd q (by omega) z hz A m c _ i hi h4 h11 k hkf
      · obtain ⟨k, rfl⟩ : ∃ k, j = hdN q + k := ⟨j - hdN q, by omega⟩
        rw [pd_tail _ q L hq k]
        exact J_it (z := tlZ q z) (fun j => (hz _).1) hI m (Nat.le_refl _) k (by rw [hp]; omega)
/-- the check bytes of what is written -/
theorem pdZ_chk (p : Pd) (L : Nat → It) (n : Nat) (hW : hdN 2 + sz L p.m = n) (z : Nat → Int) (hE : ∀ j, j < n → (j ≠ 24 ∧ j ≠ 25) → pdZ p 2 L j = z j) :
    pdZ p 2 L 24 = chkX (fun j => z (12 + j)) 12 (n - 12) ∧ pdZ p 2 L 25 = chkY (fun j => z (12 + j)) 12 (n - 12) := by
  have hw : ∀ j, j < n - 12 → j ≠ 12 → j ≠ 12 + 1 → (fun j => wZ p 2 L (12 + j)) j = (fun j => z (12 + j)) j := fun j hj h1 h2 => by
    show wZ p 2 L (12 + j) = z (12 + j)
    rw [← hE (12 + j) (by omega) (by omega), pdZ_far p 2 L (12 + j) (fun _ => by omega)]
  have e : pdZ p 2 L = sgZ (wZ p 2 L) n := by unfold pdZ; rw [if_pos rfl, hW]
  rw [e]
  unfold sgZ
  rw [← chkX_congr _ _ 12 (n - 12) hw, ← chkY_congr _ _ 12 (n - 12) hw]
  exact ⟨if_pos rfl, by rw [if_neg (by decide), if_pos rfl]⟩
/-- with check bytes: all is alike just if they are right -/
theorem all_iff (p : Pd) (L : Nat → It) (n : Nat) (hn : 27 ≤ n) (hW : hdN 2 + sz L p.m = n) (z : Nat → Int) (hE : ∀ j, j < n → (j ≠ 24 ∧ j ≠ 25) → pdZ p 2 L j = z j) :
    (∀ j, j < n → pdZ p 2 L j = z j) ↔ rightB (fun j => z (12 + j)) 12 (n - 12) = true := by
  obtain ⟨e1, e2⟩ := pdZ_chk p L n hW z hE
  unfold rightB
  simp only [Bool.and_eq_true, beq_iff_eq]
  show _ ↔ z 24 = _ ∧ z 25 = _
  constructor
  · intro h
    exact ⟨by rw [← e1, h 24 (by omega)], by rw [← e2, h 25 (by omega)]⟩
  · rintro ⟨h1, h2⟩ j hj
    by_cases h24 : j = 24
    · subst h24; rw [e1, h1]
    · by_cases h25 : j = 25
      · subst h25; rw [e2, h2]
      · exact hE j hj ⟨h24, h25⟩
end Go.Proofs.YtljkcpjkbmbphaaGreat

/- Packets with other lists that are alike; Plain of every kind. Each theorem states its conditions. -/
namespace Go.Proofs.YtljkcpjkbmbphaaGreat
open Go.RowKit
set_option linter.unusedVariables false

theorem below_drewN (w : World) (k : Nat) : Below w.heap.size w (w.drewN k) := ⟨rfl, rfl, rfl, Nat.le_refl _, fun k hk => rfl⟩
end Go.Proofs.YtljkcpjkbmbphaaGreat

/- The document's number, NodeAt, IDAt. Each theorem states its conditions. -/
namespace Go.Proofs.YtljkcpjkbmbphaaGreat
open Go.RowKit
set_option linter.unusedVariables false

theorem wrI (e : Int) (h0 : -9223372036854775808 ≤ e) (h1 : e ≤ 9223372036854775807) : IntKind.i64.wrap e = e := by simp [IntKind.wrap, IntKind.signed, IntKind.bits]; omega
set_option maxHeartbeats 2000000 in
set_option maxRecDepth 100000 in
theorem number_two (b off n c : Nat) (z : Nat → Int) (w : World) (hr : Row8 w b off n z) (h2 : 2 ≤ n) :
    Calls Tryz.prog 70 #[.slice (some ⟨b, off, none⟩) n c] w fun e w' => e = .returned (.int .i64 (((numZ z 0 2).toNat : Nat) : Int)) ∧ Below w.heap.size w w' := by
  have c0 : w.cell? ⟨b, off, none⟩ = some (.int .u8 (z 0)) := hr.2.1 0 (by omega)
  have c1 : w.cell? ⟨b, off + 1, none⟩ = some (.int .u8 (z 1)) := hr.2.1 1 (by omega)
  have z0 := hr.2.2 0
  have z1 := hr.2.2 1
  have hb := numZ_lt z 0 2 (fun j => hr.2.2 _)
  have hM : (((numZ z 0 2).toNat : Nat) : Int) = z 0 * 256 + z 1 := by
    rw [Int.toNat_of_nonneg hb.1]
    simp only [numZ]
    simp
  rw [hM]
  have i1 : (1 : Int) < (n : Int) := by omega
  have i0 : (0 : Int) < (n : Int) := by omega
  have n0 : ¬ n = 0 := by omega
  clear hb hM hr
  go_enter Tryz.func70, Tryz.ntmps70
  go_wp2_with fail
  refine wp_region_held_drew (S := fun w' => w'.cell? ⟨b, off, none⟩ = some (.int .u8 (z 0)) ∧ w'.cell? ⟨b, off + 1, none⟩ = some (.int .u8 (z 1))) (by kernel_rfl) ⟨c0, c1⟩ (fun hS0 => ?_)
  refine takeY (i := 0) (some 3) (v := .slice (some ⟨b, off, none⟩) n c) rfl rfl (by kernel_rfl) (by kernel_rfl) (by kernel_rfl) (fun _ _ _ h => h) (by rfl) (fun w' hS => by obtain ⟨s0, s1⟩ := hS; go_simp) hS0 ?_
  simp only [Act.put, List.setIfInBounds_toArray, List.set_cons_zero, List.set_cons_succ]
  refine takeY (i := 1) (some 4) (v := .pointer (some ⟨b, off, none⟩)) rfl rfl (by kernel_rfl) (by kernel_rfl) (by kernel_rfl) (fun _ _ _ h => h) (by rfl) (fun w' hS => by obtain ⟨s0, s1⟩ := hS; go_simp) hS0 ?_
  simp only [Act.put, List.setIfInBounds_toArray, List.set_cons_zero, List.set_cons_succ]
  refine takeY (i := 2) (some 5) (v := .int .u8 (z 0)) rfl rfl (by kernel_rfl) (by kernel_rfl) (by kernel_rfl) (fun _ _ _ h => h) (by rfl) (fun w' hS => by obtain ⟨s0, s1⟩ := hS; go_simp) hS0 ?_
  simp only [Act.put, List.setIfInBounds_toArray, List.set_cons_zero, List.set_cons_succ]
  refine takeY (i := 3) (some 6) (v := .int .i64 (z 0)) rfl rfl (by kernel_rfl) (by kernel_rfl) (by kernel_rfl) (fun _ _ _ h => h) (by rfl) (fun w' hS => by obtain ⟨s0, s1⟩ := hS; first | (go_simp; done) | (go_simp; exact wrI _ (by omega) (by omega))) hS0 ?_
  simp only [Act.put, List.setIfInBounds_toArray, List.set_cons_zero, List.set_cons_succ]
  refine takeY (i := 4) (some 7) (v := .int .i64 (z 0 * 256)) rfl rfl (by kernel_rfl) (by kernel_rfl) (by kernel_rfl) (fun _ _ _ h => h) (by rfl) (fun w' hS => by obtain ⟨s0, s1⟩ := hS; first | (go_simp; done) | (go_simp; exact wrI _ (by omega) (by omega))) hS0 ?_
  simp only [Act.put, List.setIfInBounds_toArray, List.set_cons_zero, List.set_cons_succ]
  refine takeY (i := 5) (some 8) (v := .slice (some ⟨b, off, none⟩) n c) rfl rfl (by kernel_rfl) (by kernel_rfl) (by kernel_rfl) (fun _ _ _ h => h) (by rfl) (fun w' hS => by obtain ⟨s0, s1⟩ := hS; go_simp) hS0 ?_
  simp only [Act.put, List.setIfInBounds_toArray, List.set_cons_zero, List.set_cons_succ]
  refine takeY (i := 6) (some 9) (v := .pointer (some ⟨b, off + 1, none⟩)) rfl rfl (by kernel_rfl) (by kernel_rfl) (by kernel_rfl) (fun _ _ _ h => h) (by rfl) (fun w' hS => by obtain ⟨s0, s1⟩ := hS; go_simp) hS0 ?_
  simp only [Act.put, List.setIfInBounds_toArray, List.set_cons_zero, List.set_cons_succ]
  refine takeY (i := 7) (some 10) (v := .int .u8 (z 1)) rfl rfl (by kernel_rfl) (by kernel_rfl) (by kernel_rfl) (fun _ _ _ h => h) (by rfl) (fun w' hS => by obtain ⟨s0, s1⟩ := hS; go_simp) hS0 ?_
  simp only [Act.put, List.setIfInBounds_toArray, List.set_cons_zero, List.set_cons_succ]
  refine takeY (i := 8) (some 11) (v := .int .i64 (z 1)) rfl rfl (by kernel_rfl) (by kernel_rfl) (by kernel_rfl) (fun _ _ _ h => h) (by rfl) (fun w' hS => by obtain ⟨s0, s1⟩ := hS; first | (go_simp; done) | (go_simp; exact wrI _ (by omega) (by omega))) hS0 ?_
  simp only [Act.put, List.setIfInBounds_toArray, List.set_cons_zero, List.set_cons_succ]
  refine takeY (i := 9) (some 12) (v := .int .i64 (z 0 * 256 + z 1)) rfl rfl (by kernel_rfl) (by kernel_rfl) (by kernel_rfl) (fun _ _ _ h => h) (by rfl) (fun w' hS => by obtain ⟨s0, s1⟩ := hS; first | (go_simp; done) | (go_simp; exact wrI _ (by omega) (by omega))) hS0 ?_
  simp only [Act.put, List.setIfInBounds_toArray, List.set_cons_zero, List.set_cons_succ]
  refine takeY (i := 10) (some 2) (v := .int .i64 (z 0 * 256 + z 1)) rfl rfl (by kernel_rfl) (by kernel_rfl) (by kernel_rfl) (fun _ _ _ h => h) (by rfl) (fun w' hS => by obtain ⟨s0, s1⟩ := hS; go_simp) hS0 ?_
  simp only [Act.put, List.setIfInBounds_toArray, List.set_cons_zero, List.set_cons_succ]
  refine wpAnyH_done (by kernel_rfl) ?_ _
  clear hS0
  go_wp2_with fail
  go_ret
  exact ⟨rfl, (bself w).drew⟩
def hdzA (z : Nat → Int) (i : Nat) : Nat → Int := fun j => if j < i then z j else 0
theorem hd_putA (z : Nat → Int) (i : Nat) (hi : i < 7) : (ndC (hdzA z i)).setIfInBounds i (.int .u8 (z i)) = ndC (hdzA z (i + 1)) := by
  rcases (by omega : i = 0 ∨ i = 1 ∨ i = 2 ∨ i = 3 ∨ i = 4 ∨ i = 5 ∨ i = 6) with rfl | rfl | rfl | rfl | rfl | rfl | rfl <;> rfl
theorem hd_at (z : Nat → Int) (i : Nat) (hi : i < 7) : (ndC (hdzA z i))[i]? = some (.int .u8 0) := by
  rcases (by omega : i = 0 ∨ i = 1 ∨ i = 2 ∨ i = 3 ∨ i = 4 ∨ i = 5 ∨ i = 6) with rfl | rfl | rfl | rfl | rfl | rfl | rfl <;> rfl
set_option maxHeartbeats 4000000 in
set_option maxRecDepth 100000 in
theorem nodeAt_any (b off n c : Nat) (z : Nat → Int) (w : World) (hr : Row8 w b off n z) (h7 : 7 ≤ n) (hn : n ≤ 1492) :
    Calls Tryz.prog 71 #[.slice (some ⟨b, off, none⟩) n c] w fun e w' => e = .returned (.agg (ndC z)) ∧ Below w.heap.size w w' := by
  obtain ⟨W2, hW2⟩ : ∃ W2, (w.alloc (.cells nd0 33)).alloc (.cells nd0 33) = W2 := ⟨_, rfl⟩
  have hB2 : Below w.heap.size w W2 := by rw [← hW2]; exact ((bself w).alloc (Nat.le_refl _) _).alloc (by simp) _
  have hX1 : W2.heap[w.heap.size + 1]? = some (.cells (ndC (hdzA z 0)) 33 (0, 0)) := by
    have := heap_alloc_new (w.alloc (.cells nd0 33)) (.cells nd0 33)
    rw [World.size_alloc, hW2] at this
    exact this
  have hX0 : W2.heap[w.heap.size]? = some (.cells nd0 33 (0, 0)) := by
    rw [← hW2]
    exact (Below.heap_alloc _ _ _ (by simp)).trans (heap_alloc_new w _)
  have HX1 := Lib.hid hX1
  have HX0 := Lib.hid hX0
  have HB2 := Lib.hid hB2
  have HR := Lib.hid hr
  have hbw := hr.1
  have HW2 := Lib.hid hW2
  clear hr hB2 hX1 hX0 hW2
  unfold nd0 at HW2
  go_enter Tryz.func71, Tryz.ntmps71
  go_wp2_with fail
  rw [HW2.out]
  go_loopw [5] (fun t wr => ∃ i : Nat, i ≤ 6 ∧ t = .int .i64 i ∧ Hid (wr.heap[w.heap.size + 1]? = some (.cells (ndC (hdzA z i)) 33 (0, 0))) ∧ Hid (wr.heap[w.heap.size]? = some (.cells nd0 33 (0, 0))) ∧ Hid (Below w.heap.size w wr))
    (fun t _ => 6 - (intOf t).toNat)
  case atStart => exact ⟨0, by omega, rfl, HX1, HX0, HB2⟩
  case round =>
    clear HX1 HX0 HB2
    obtain ⟨i, hi, rfl, HX, HY, HB⟩ := hrel
    have hRi := HR.out.below HB.out hbw
    by_cases hi6 : i < 6
    · have ci := hRi.2.1 i (by omega)
      have cx : wr.cell? ⟨w.heap.size + 1, i, none⟩ = some (.int .u8 0) := (cell_of_row wr _ i _ _ _ HX.out).trans (hd_at z i (by omega))
      have fx : wr.frozen? ⟨w.heap.size + 1, i, none⟩ = false := by have := HX.out; simp [World.frozen?, this]
      have HX' := Lib.hid (row_put (i := i) (v := .int .u8 (z i)) HX.out (hd_putA z i (by omega)))
      have HY' := Lib.hid ((Below.heap_setCell wr ⟨w.heap.size + 1, i, none⟩ (.int .u8 (z i)) w.heap.size (by show _ ≠ w.heap.size + 1; omega)).trans HY.out)
      have HB' := Lib.hid (HB.out.setCell (p := ⟨w.heap.size + 1, i, none⟩) (by show w.heap.size ≤ w.heap.size + 1; omega) (.int .u8 (z i)))
      have hin : (i : Int) < (n : Int) := by omega
      have hi6' : (i : Int) < 6 := by omega
      clear hRi
      go_wp2_with fail
      go_roundw
      case rel => first | exact ⟨i + 1, by omega, by go_num, HX', HY', HB'⟩ | exact ⟨_, _, ⟨i + 1, by omega, by go_num, HX', HY', HB'⟩, rfl, rfl⟩
      case measure => simp only [intOf]; omega
    · obtain rfl : i = 6 := by omega
      have c6 := hRi.2.1 6 (by omega)
      have d6 : wr.cell? ⟨w.heap.size + 1, 6, none⟩ = some (.int .u8 0) := (cell_of_row wr _ 6 _ _ _ HX.out).trans rfl
      have f6 : wr.frozen? ⟨w.heap.size + 1, 6, none⟩ = false := by have := HX.out; simp [World.frozen?, this]
      have HX' := Lib.hid (row_put (i := 6) (v := .int .u8 (z 6)) HX.out (hd_putA z 6 (by omega)))
      have HY' := Lib.hid ((Below.heap_setCell wr ⟨w.heap.size + 1, 6, none⟩ (.int .u8 (z 6)) w.heap.size (by show _ ≠ w.heap.size + 1; omega)).trans HY.out)
      have HB' := Lib.hid (HB.out.setCell (p := ⟨w.heap.size + 1, 6, none⟩) (by show w.heap.size ≤ w.heap.size + 1; omega) (.int .u8 (z 6)))
      have i6 : (6 : Int) < (n : Int) := by omega
      clear hRi
      go_wp2_with (first
        | (refine wpList_load_mid rfl 33 (.tmp 3) rfl (w.heap.size + 1) 0 rfl _ _ (nd_range HX'.out) Tryz.underlying33 rfl info_nd ?_)
        | (refine store_blk rfl (.tmp 2) (.tmp 20) (cells := ndC z) rfl rfl rfl HY'.out info_nd rfl (nd_all z) ?_; intro w5 hg5 hb5 ho5; refine Hid.out ?_))
      refine Lib.hid ?_
      have HQ := Lib.hid hg5
      have HB5 := Lib.hid (HB'.out.trans (hb5 w.heap.size (Nat.le_refl _)))
      clear hg5 hb5 ho5
      go_wp2_with fail
      refine bodyPost_ret (results_nd rfl _ w5 w.heap.size z rfl HQ.out) rfl ⟨rfl, HB5.out⟩
set_option maxHeartbeats 2000000 in
set_option maxRecDepth 100000 in
theorem idAt_any (b off n c : Nat) (z : Nat → Int) (w : World) (hr : Row8 w b off n z) (h8 : 8 ≤ n) (hn : n ≤ 1492) :
    Calls Tryz.prog 72 #[.slice (some ⟨b, off, none⟩) n c] w fun e w' => e = .returned (.agg (idC z)) ∧ Below w.heap.size w w' := by
  have hbw := hr.1
  have HB1 := Lib.hid ((bself w).alloc (Nat.le_refl _) (.cells id0 35))
  have HX1 := Lib.hid (heap_alloc_new w (.cells id0 35))
  have hs1 : (w.alloc (.cells id0 35)).heap.size = w.heap.size + 1 := by simp
  have HR1 := Lib.hid (hr.below HB1.out hbw)
  obtain ⟨W1, hW1⟩ : ∃ W1, w.alloc (.cells id0 35) = W1 := ⟨_, rfl⟩
  rw [hW1] at HB1 HX1 hs1 HR1
  have HW1 := Lib.hid hW1
  have i7 : (7 : Int) < (n : Int) := by omega
  clear hr hW1
  unfold id0 at HW1
  go_enter Tryz.func72, Tryz.ntmps72
  go_wp2_with fail
  rw [HW1.out]
  refine wp_region_held_drew (S := fun w' => w'.cell? ⟨b, off + 7, none⟩ = some (.int .u8 (z 7))) (by kernel_rfl) (HR1.out.2.1 7 (by omega)) (fun hS0 => ?_)
  refine takeY (i := 0) (some 3) (v := .slice (some ⟨b, off, none⟩) n c) rfl rfl (by kernel_rfl) (by kernel_rfl) (by kernel_rfl) (fun _ _ _ h => h) (by rfl) (fun w' hS => by go_simp) hS0 ?_
  simp only [Act.put, List.setIfInBounds_toArray, List.set_cons_zero, List.set_cons_succ]
  refine takeY (i := 2) (some 5) (v := .slice (some ⟨b, off, none⟩) n c) rfl rfl (by kernel_rfl) (by kernel_rfl) (by kernel_rfl) (fun _ _ _ h => h) (by rfl) (fun w' hS => by go_simp) hS0 ?_
  simp only [Act.put, List.setIfInBounds_toArray, List.set_cons_zero, List.set_cons_succ]
  refine takeY (i := 3) (some 6) (v := .pointer (some ⟨b, off + 7, none⟩)) rfl rfl (by kernel_rfl) (by kernel_rfl) (by kernel_rfl) (fun _ _ _ h => h) (by rfl) (fun w' hS => by go_simp) hS0 ?_
  simp only [Act.put, List.setIfInBounds_toArray, List.set_cons_zero, List.set_cons_succ]
  refine takeY (i := 4) (some 7) (v := .int .u8 (z 7)) rfl rfl (by kernel_rfl) (by kernel_rfl) (by kernel_rfl) (fun _ _ _ h => h) (by rfl) (fun w' hS => by go_simp) hS0 ?_
  simp only [Act.put, List.setIfInBounds_toArray, List.set_cons_zero, List.set_cons_succ]
  refine takeC (i := 1) (some 4) 71 #[.slice (some ⟨b, off, none⟩) n c] (.agg (ndC z)) (R := fun w' => Below W1.heap.size W1 w') rfl rfl (by kernel_rfl) (by rfl) (by go_simp) ((nodeAt_any b off n c z W1.drew HR1.out (by omega) hn).mono fun e w' h => ⟨h.1, (bself W1).drew.trans h.2⟩) (fun w' h => by rw [h.cell (show b < W1.heap.size by omega)]; exact HR1.out.2.1 7 (by omega)) (fun w2 h2 hS0 => ?_)
  simp only [Act.put, List.setIfInBounds_toArray, List.set_cons_zero, List.set_cons_succ]
  refine takeY (i := 5) (some 8) (v := .agg (idC z)) rfl rfl (by kernel_rfl) (by kernel_rfl) (by kernel_rfl) (fun _ _ _ h => h) (by rfl) (fun w' hS => build_id _ _ _ _ rfl z rfl rfl w') hS0 ?_
  simp only [Act.put, List.setIfInBounds_toArray, List.set_cons_zero, List.set_cons_succ]
  have hX2 := (h2.block w.heap.size (by omega)).trans HX1.out
  refine takeS (i := 6) (.tmp 2) (.tmp 8) rfl rfl rfl (by kernel_rfl) (by rfl) rfl rfl hX2 (hi_id z) rfl (id_all z) (fun w' _ hb _ => by rw [(hb w.heap.size (Nat.le_refl _)).cell hbw]; exact hS0) (fun w3 hg3 hb3 _ hS3 => ?_)
  simp only [Act.put]
  refine wpAnyH_done (by kernel_rfl) ?_ _
  have HQ := Lib.hid hg3
  have HB3 := Lib.hid (HB1.out.trans ((h2.mono (by omega)).trans (hb3 w.heap.size (Nat.le_refl _))))
  clear hg3 hb3 h2 hX2 hS3 hS0
  go_wp2_with fail
  refine bodyPost_ret (results_id rfl _ w3 w.heap.size z rfl HQ.out) rfl ⟨rfl, HB3.out⟩
end Go.Proofs.YtljkcpjkbmbphaaGreat

/- SameBytes answers false where bytes differ. Each theorem states its conditions. -/
namespace Go.Proofs.YtljkcpjkbmbphaaGreat
open Go.RowKit
set_option linter.unusedVariables false

/-- whether two rows of bytes are the same, by the document -/
theorem same_no (A B : Option Addr) (n n' c d : Nat) (z z' : Nat → Int) (w : World) (ha : Rd w A n z) (hb : Rd w B n' z') (he : ¬ (n = n' ∧ ∀ j, j < n → z j = z' j)) (hm : n ≤ 9223372036854775807) (hm' : n' ≤ 9223372036854775807) :
    Calls Tryz.prog 37 #[.slice A n c, .slice B n' d] w fun e w' => e = .returned (.bool false) ∧ ∃ m, w' = w.drewN m := by
  by_cases hn : n = n'
  · subst hn
    have hx : ∃ k, k < n ∧ z k ≠ z' k ∧ ∀ j, j < k → z j = z' j := by
      have hne : ∃ k, k < n ∧ z k ≠ z' k := by
        apply Classical.byContradiction
        intro hno
        exact he ⟨rfl, fun j hj => Classical.byContradiction fun h => hno ⟨j, hj, h⟩⟩
      obtain ⟨k0, h1, h2⟩ := hne
      have key : ∀ t, t ≤ n → (∃ k, k < t ∧ z k ≠ z' k ∧ ∀ j, j < k → z j = z' j) ∨ ∀ j, j < t → z j = z' j := by
        intro t
        induction t with
        | zero => intro _; exact .inr (fun j hj => by omega)
        | succ t ih =>
          intro ht
          rcases ih (by omega) with ⟨k, h1, h2, h3⟩ | h3
          · exact .inl ⟨k, by omega, h2, h3⟩
          · by_cases h4 : z t = z' t
            · exact .inr (fun j hj => by
                by_cases e : j = t
                · subst e; exact h4
                · exact h3 j (by omega))
            · exact .inl ⟨t, by omega, h4, h3⟩
      rcases key n (Nat.le_refl _) with ⟨k, h3, h4, h5⟩ | h3
      · exact ⟨k, h3, h4, h5⟩
      · exact absurd (h3 k0 h1) h2
    obtain ⟨k0, hk0, hne, hpre⟩ := hx
    obtain ⟨b, off, rfl, hr⟩ := ha.row (by omega)
    obtain ⟨b', off', rfl, hr'⟩ := hb.row (by omega)
    have hc := hr.2.1
    have hc' := hr'.2.1
    have HE := Lib.hid hpre
    have HNE := Lib.hid hne
    clear ha hb hr hr' he hpre hne
    go_enter Tryz.func37, Tryz.ntmps37
    go_wp2
    go_loopw [13] (fun t wr => ∃ k m : Nat, k ≤ k0 ∧ t = .int .i64 k ∧ wr = w.drewN m) (fun t _ => n - (intOf t).toNat)
    case atStart => exact ⟨0, 0, by omega, rfl, rfl⟩
    case round =>
      obtain ⟨k, m, hk, rfl, rfl⟩ := hrel
      have hlt : k < n := by omega
      have g1 := hc k hlt
      have g2 := hc' k hlt
      by_cases e : k = k0
      · subst e
        have hq : (z k != z' k) = true := by simpa using HNE.out
        generalize z k = v at *
        generalize z' k = v' at *
        clear hc hc'
        go_wp2
        go_region
        go_wp2
        go_ret
        exact ⟨rfl, m + 1, rfl⟩
      · rw [← HE.out k (by omega)] at g2
        generalize z k = v at *
        clear hc hc'
        go_wp2
        go_region
        go_wp2
        go_roundw
        case rel => exact ⟨k + 1, m + 1, by omega, by go_num, rfl⟩
        case measure => simp [intOf]; omega
  · have hnb : ((n : Int) != (n' : Int)) = true := by simp; omega
    clear ha hb he
    go_enter Tryz.func37, Tryz.ntmps37
    go_wp2
    go_ret
    exact ⟨rfl, 0, rfl⟩
end Go.Proofs.YtljkcpjkbmbphaaGreat

/- The document's DocSplit reads a list out of bytes. Each theorem states its conditions. -/
namespace Go.Proofs.YtljkcpjkbmbphaaGreat
open Go.RowKit
set_option linter.unusedVariables false

set_option maxHeartbeats 4000000 in
set_option maxRecDepth 100000 in
theorem docsplit_any (A : Option Addr) (n c m : Nat) (z : Nat → Int) (w : World) (h : Rd w A n z) (hA : A = none → n = 0 ∧ c = 0) (hn : n ≤ 1492) (hc : n ≤ c) (hcm : c ≤ 9223372036854775807) (hm : Ends z n m) :
    Calls Tryz.prog 69 #[.slice A n c] w (SplitPost w z n m) := by
  obtain ⟨i0, hi, hz0, hz1, hz2⟩ := info_parts info_tlv
  have hz := h.2
  have HM := Lib.hid hm
  have HR := Lib.hid h
  clear h hm
  go_enter Tryz.func69, Tryz.ntmps69
  go_wp2_with fail
  go_loopw [4, 5] (fun v p wr => ∃ (k : Nat) (L : Nat → It), pos z k ≤ n ∧ k ≤ m ∧ p = .int .i64 (pos z k : Nat) ∧ OwnT wr w.heap.size v k L ∧ Hid (IsItZ z L k) ∧ Below w.heap.size w wr)
    (fun _ p _ => n - (intOf p).toNat)
  case atStart => exact ⟨0, fun _ => ⟨0, none, 0, 0, z⟩, by simp [pos], by omega, rfl, OwnT.nil _ _ _, Lib.hid (fun j hj => by omega), bself w⟩
  case round =>
    obtain ⟨k, L, hk, hkm, rfl, hown, hL, hb⟩ := hrel
    by_cases hkm1 : k < m
    · have hlt : pos z k < n := by
        have := HM.out.1; have := pos_mono z k m (by omega); omega
      obtain ⟨b, off, rfl, hr⟩ := HR.out.row (by omega)
      have hn1 : pos z (k + 1) ≤ n := by
        have := HM.out.1; have := pos_mono z (k + 1) m (by omega); omega
      have hp := pos_lt z k
      have c0 : wr.cell? ⟨b, off + pos z k, none⟩ = some (.int .u8 (z (pos z k))) := (hb.cell (p := ⟨b, off + pos z k, none⟩) hr.1).trans (hr.2.1 _ hlt)
      have c1 : wr.cell? ⟨b, off + (pos z k + 1), none⟩ = some (.int .u8 (z (pos z k + 1))) := (hb.cell (p := ⟨b, off + (pos z k + 1), none⟩) hr.1).trans (hr.2.1 (pos z k + 1) (by omega))
      have z0 := hz (pos z k)
      have z1 := hz (pos z k + 1)
      obtain ⟨v1, hv1⟩ := Int.eq_ofNat_of_zero_le z1.1
      have hv1n : (z (pos z k + 1)).toNat = v1 := by omega
      have hpk : pos z (k + 1) = pos z k + 2 + v1 := by simp only [pos]; omega
      have H := Lib.hid (fun (W : World) (hW : Row8 W b off n z) (ad : Addr) (cc : Nat) (had : v1 = 0 ∨ ad = ⟨b, off + (pos z k + 2), none⟩) => twin_any (some ad) v1 cc (fun j => z (pos z k + 2 + j)) W ⟨by
        rcases Nat.eq_zero_or_pos v1 with h0 | h0
        · exact .inl h0
        · rcases had with had | rfl
          · omega
          · exact .inr ⟨b, off + (pos z k + 2), rfl, hW.1, fun j hj => by
              have := hW.2.1 (pos z k + 2 + j) (by omega)
              rw [← this]; congr 2; omega, fun j => hz _⟩, fun j => hz _⟩ (fun e => by cases e) (by omega))
      have hrr := Lib.hid (hr.below hb hr.1)
      have hlb : b < wr.heap.size := by have := hr.1; have := hb.size; omega
      have hbs := hb.size
      have ho := Lib.hid hown
      have hE := Lib.hid hv1
      have hEn := Lib.hid hv1n
      rw [hv1] at c1 z1
      have HN1 := Lib.hid hn1
      rw [hpk] at hn1
      have hk31 : (k + 1) * 32 ≤ 140737488355328 := by have := pos_mono z 0 k (by omega); simp only [pos] at this; omega
      have hk63 : k + 1 ≤ maxLen := by unfold maxLen; omega
      have hbase : ∀ g1 cap1 (W : World), wr.heap.size ≤ W.heap.size → w.heap.size ≤ (W.alloc (.cells #[.int .u8 (z (pos z k)), .slice (some ⟨g1, 0, none⟩) v1 cap1] 114)).heap.size := fun g1 cap1 W h => by simp; omega
      have HB := Lib.hid hbase
      have hr1 := hr.1
      have hfar : u4.ownBlock ≠ some b := fun e => by have := (hown.1.lt b e).1; omega
      have HPK := Lib.hid hpk
      clear hv1 hv1n hpk hp hr hk hown hbase
      generalize hz0' : z (pos z k) = v0 at *
      have HZ0 := Lib.hid hz0'
      clear hz0'
      generalize hopos : pos z k = o at c0 c1 hlt hn1 H ⊢
      have HO := Lib.hid hopos
      clear hopos
      have q1 : (o : Int) < (n : Int) := by omega
      have q2 : ¬ (o : Int) = (n : Int) - 1 := by omega
      have q3 : ¬ ((n : Int) - (o : Int) - 2 < (v1 : Int)) := by omega
      have q4 : (0 : Int) ≤ (o : Int) + 1 := by omega
      have q5 : (o : Int) + 1 < (n : Int) := by omega
      have q6 : (o : Int) + 2 ≤ (o : Int) + 2 + (v1 : Int) := by omega
      have q7 : (o : Int) + 2 + (v1 : Int) ≤ (c : Int) := by omega
      have q71 : (0 : Int) ≤ (o : Int) + 2 + (v1 : Int) := by omega
      have q72 : (0 : Int) ≤ (o : Int) + 2 := by omega
      have q73 : (o : Int) + 2 ≤ (c : Int) := by omega
      have hlen2 : ((o : Int) + 2 + (v1 : Int)).toNat = o + 2 + v1 := by omega
      have hw1 : IntKind.i64.wrap ((o : Int) + 2) = (o : Int) + 2 := by rw [IntKind.wrap_i64]; omega
      have hw2 : IntKind.i64.wrap ((o : Int) + 2 + (v1 : Int)) = (o : Int) + 2 + (v1 : Int) := by rw [IntKind.wrap_i64]; omega
      have hlen3 : ((o : Int) + 2).toNat = o + 2 := by omega
      by_cases hcap : c = o + 2
      · have HV0 := Lib.hid (show v1 = 0 by omega)
        have hcap' : (c = o + 2) = True := eq_true hcap
        clear hcap
        go_wp2_with fail
        go_region_held3 (fun w' => w'.cell? ⟨b, off + o, none⟩ = some (.int .u8 v0))
          (first | go_keep | (exact (hb1.cell (by exact hlb)).trans c0) | (rw [hgrow.cell_far _ (by have := hbx.size; simp; omega) (Ne.symm hfar)]; assumption))
          (first | (go_at_call 15; refine (H.out _ (by exact hrr.out) _ _ (.inl HV0.out)).mono ?_; (rintro e w1 ⟨g1, cap1, rfl, hg1, ho1, hb1⟩; have hbx : Below wr.heap.size wr w1 := (Below.refl _ wr).drew.trans hb1; have hbz := HB.out g1 cap1 w1 hbx.size)) | (refine step_append_lies _ (by rfl) _ _ _ (by rfl) w.heap.size 114 i0 _ 2 32 Tryz.underlying37 hi hz0 hz1 hz2 rfl (by omega) u4 k (cellsT L k) (by rfl) ((ownsRow_below ho.out.1 hbx).alloc _) ⟨w1.heap.size, 0, none⟩ 1 1 [.int .u8 v0, .slice (some ⟨g1, 0, none⟩) v1 cap1] (by rfl) (by rfl) (World.news_of_block (heap_alloc_new w1 _)) (two_one _ _ _ _) (by omega) hk63 hk31 hbz (w1.heap.size + 1) (by simp) ?_; intro gg cap w2 hown2 hgrow hat hlt2))
        have hz0' := HZ0.out
        have hit : OwnV (w1.alloc (.cells #[.int .u8 v0, .slice (some ⟨g1, 0, none⟩) v1 cap1] 114)) w.heap.size ⟨v0, some ⟨g1, 0, none⟩, v1, cap1, fun j => z (o + 2 + j)⟩ := ⟨z0, by show v1 ≤ _; omega, g1, rfl, by have := hb.size; simp at hg1; omega, ho1.alloc _⟩
        have R := Lib.hid (OwnT.push ((ho.out.below hbx).below ((bself w1).alloc (Nat.le_refl _) (.cells #[.int .u8 v0, .slice (some ⟨g1, 0, none⟩) v1 cap1] 114))) hit hown2 hgrow)
        have hI : IsItZ z (updT L k ⟨v0, some ⟨g1, 0, none⟩, v1, cap1, fun j => z (o + 2 + j)⟩) (k + 1) := by
          intro j hj
          by_cases e : j = k
          · subst e; rw [updT_same]; exact ⟨g1, cap1, by unfold itZ; rw [hz0', hEn.out, HO.out]⟩
          · rw [updT_other _ _ _ _ e]; exact hL.out j (by omega)
        have hB2 : Below w.heap.size w w2 := ((hb.trans (hbx.mono hbs)).alloc (by have := hbx.size; omega) _).grown hgrow (by have := hbx.size; simp; omega) (fun x e => (ho.out.1.lt x e).1)
        have HI := Lib.hid hI
        have HB2 := Lib.hid hB2
        clear hI hB2 hit hown2 hgrow ho1 hb1 hbx hbz hz0' hat hlt2 c0 c1 hg1
        go_wp2
        go_roundw
        case rel => exact ⟨k + 1, _, HN1.out, hkm1, by rw [HPK.out, HO.out]; go_num, R.out, HI, HB2.out⟩
        case measure =>
          have hm1 := HPK.out
          have hm2 := HN1.out
          have hm3 := HO.out
          simp only [intOf]
          omega
      · have q99 : ¬ (c : Int) = (o : Int) + 2 := by omega
        go_wp2_with fail
        go_region_held3 (fun w' => w'.cell? ⟨b, off + o, none⟩ = some (.int .u8 v0))
          (first | go_keep | (exact (hb1.cell (by exact hlb)).trans c0) | (rw [hgrow.cell_far _ (by have := hbx.size; simp; omega) (Ne.symm hfar)]; assumption))
          (first | (go_at_call 15; refine (H.out _ (by exact hrr.out) _ _ (.inr rfl)).mono ?_; (rintro e w1 ⟨g1, cap1, rfl, hg1, ho1, hb1⟩; have hbx : Below wr.heap.size wr w1 := (Below.refl _ wr).drew.trans hb1; have hbz := HB.out g1 cap1 w1 hbx.size)) | (refine step_append_lies _ (by rfl) _ _ _ (by rfl) w.heap.size 114 i0 _ 2 32 Tryz.underlying37 hi hz0 hz1 hz2 rfl (by omega) u4 k (cellsT L k) (by rfl) ((ownsRow_below ho.out.1 hbx).alloc _) ⟨w1.heap.size, 0, none⟩ 1 1 [.int .u8 v0, .slice (some ⟨g1, 0, none⟩) v1 cap1] (by rfl) (by rfl) (World.news_of_block (heap_alloc_new w1 _)) (two_one _ _ _ _) (by omega) hk63 hk31 hbz (w1.heap.size + 1) (by simp) ?_; intro gg cap w2 hown2 hgrow hat hlt2))
        have hz0' := HZ0.out
        have hit : OwnV (w1.alloc (.cells #[.int .u8 v0, .slice (some ⟨g1, 0, none⟩) v1 cap1] 114)) w.heap.size ⟨v0, some ⟨g1, 0, none⟩, v1, cap1, fun j => z (o + 2 + j)⟩ := ⟨z0, by show v1 ≤ _; omega, g1, rfl, by have := hb.size; simp at hg1; omega, ho1.alloc _⟩
        have R := Lib.hid (OwnT.push ((ho.out.below hbx).below ((bself w1).alloc (Nat.le_refl _) (.cells #[.int .u8 v0, .slice (some ⟨g1, 0, none⟩) v1 cap1] 114))) hit hown2 hgrow)
        have hI : IsItZ z (updT L k ⟨v0, some ⟨g1, 0, none⟩, v1, cap1, fun j => z (o + 2 + j)⟩) (k + 1) := by
          intro j hj
          by_cases e : j = k
          · subst e; rw [updT_same]; exact ⟨g1, cap1, by unfold itZ; rw [hz0', hEn.out, HO.out]⟩
          · rw [updT_other _ _ _ _ e]; exact hL.out j (by omega)
        have hB2 : Below w.heap.size w w2 := ((hb.trans (hbx.mono hbs)).alloc (by have := hbx.size; omega) _).grown hgrow (by have := hbx.size; simp; omega) (fun x e => (ho.out.1.lt x e).1)
        have HI := Lib.hid hI
        have HB2 := Lib.hid hB2
        clear hI hB2 hit hown2 hgrow ho1 hb1 hbx hbz hz0' hat hlt2 c0 c1 hg1
        go_wp2
        go_roundw
        case rel => exact ⟨k + 1, _, HN1.out, hkm1, by rw [HPK.out, HO.out]; go_num, R.out, HI, HB2.out⟩
        case measure =>
          have hm1 := HPK.out
          have hm2 := HN1.out
          have hm3 := HO.out
          simp only [intOf]
          omega
    · have hkm2 : k = m := by omega
      subst hkm2
      have ho := Lib.hid hown
      by_cases hend : pos z k = n
      · have he := Lib.hid hend
        clear hown hk hkm1
        rw [hend]
        clear hend
        go_wp2
        go_ret2
        exact .inl ⟨he.out, _, L, rfl, ho.out, hL.out, hb⟩
      · have HE := Lib.hid hend
        have hM := HM.out.2
        by_cases h2 : n < pos z k + 2
        · have q1 : pos z k = n - 1 := by omega
          have q2 : 0 < n := by omega
          rw [q1]
          have q3 : ((n - 1 : Nat) : Int) = (n : Int) - 1 := by omega
          rw [q3]
          have q4 : (n : Int) - 1 < (n : Int) := by omega
          clear hown hk hkm1 hM h2 q1 q3 hend
          go_wp2
          go_ret2
          exact .inr ⟨HE.out, rfl, hb⟩
        · obtain ⟨b, off, rfl, hr⟩ := HR.out.row (by omega)
          have c1 : wr.cell? ⟨b, off + (pos z k + 1), none⟩ = some (.int .u8 (z (pos z k + 1))) := (hb.cell (p := ⟨b, off + (pos z k + 1), none⟩) hr.1).trans (hr.2.1 (pos z k + 1) (by omega))
          have z1 := hz (pos z k + 1)
          obtain ⟨v1, hv1⟩ := Int.eq_ofNat_of_zero_le z1.1
          have hpk : pos z (k + 1) = pos z k + 2 + v1 := by simp only [pos]; omega
          rw [hv1] at c1 z1
          generalize hopos : pos z k = o at c1 hpk hk hend h2 hM ⊢
          have q1 : (o : Int) < (n : Int) := by omega
          have q2 : ¬ (o : Int) = (n : Int) - 1 := by omega
          have q3 : ((n : Int) - (o : Int) - 2 < (v1 : Int)) := by omega
          have q4 : (0 : Int) ≤ (o : Int) + 1 := by omega
          have q5 : (o : Int) + 1 < (n : Int) := by omega
          clear hown hk hkm1 hM h2 hr hv1 hpk hopos hend
          go_wp2
          go_ret2
          exact .inr ⟨HE.out, rfl, hb⟩
end Go.Proofs.YtljkcpjkbmbphaaGreat

/- What the document's DocRead is walked with. Each theorem states its conditions. -/
namespace Go.Proofs.YtljkcpjkbmbphaaGreat
open Go.RowKit
set_option linter.unusedVariables false

/-- while DocRead fills a packet -/
def DrS (w : World) (P X b off n : Nat) (z : Nat → Int) (B : Nat) (A : Option Addr) (m cL : Nat) (L : Nat → It) (x : Pd) (w' : World) : Prop :=
  PdT 39 w' P x ∧ PdT 39 w' X pd0 ∧ Row8 w' b off n z ∧ Below w.heap.size w w' ∧ OwnT w' B (.slice A m cL) m L ∧ (X < P ∧ w.heap.size ≤ X ∧ b < w.heap.size ∧ P < B ∧ B ≤ w'.heap.size)
theorem row_keep {w w' : World} {b off n : Nat} {z : Nat → Int} (h : Row8 w b off n z) (hb : w'.heap[b]? = w.heap[b]?) : Row8 w' b off n z := by
  have hlt : b < w'.heap.size := by
    have := (Array.getElem?_eq_some_iff (xs := w'.heap) (i := b) (b := w.heap[b]'h.1)).1 (by rw [hb]; exact Array.getElem?_eq_getElem h.1)
    exact this.1
  refine ⟨hlt, fun j hj => ?_, h.2.2⟩
  rw [← h.2.1 j hj]
  simp only [World.cell?, hb]
section
variable {w : World} {P X b off n : Nat} {z : Nat → Int} {B : Nat} {A : Option Addr} {m cL : Nat} {L : Nat → It} {x y : Pd} {w' w'' : World}
theorem DrS.below (h : DrS w P X b off n z B A m cL L x w') (hb : Below w'.heap.size w' w'') : DrS w P X b off n z B A m cL L x w'' := by
  obtain ⟨h1, h2, h3, h4, h5, h6, h7, h8, h9, h10⟩ := h
  exact ⟨h1.below hb h1.lt, h2.below hb h2.lt, row_keep h3 (hb.block _ h3.1), h4.trans (hb.mono h4.size), h5.below hb, h6, h7, h8, h9, Nat.le_trans h10 hb.size⟩
theorem DrS.put (h : DrS w P X b off n z B A m cL L x w') (q : Stored w' w'' P (pdC y) 39) : DrS w P X b off n z B A m cL L y w'' := by
  obtain ⟨h1, h2, h3, h4, h5, h6, h7, h8, h9, h10⟩ := h
  exact ⟨q.1, h2.far q (by omega), row_keep h3 (q.2.2 _ (by omega)), h4.trans (q.2.1 _ (by omega)), h5.far q h9, h6, h7, h8, h9, Nat.le_trans h10 (q.2.1 0 (Nat.zero_le _)).size⟩
theorem DrS.eq (h : DrS w P X b off n z B A m cL L x w') (e : pdC x = pdC y) : DrS w P X b off n z B A m cL L y w' := by
  obtain ⟨h1, h2⟩ := h
  refine ⟨?_, h2⟩
  unfold PdT at h1 ⊢
  rw [← e]; exact h1
end
/-- what DocRead leaves -/
def DrOk (q : Nat) (z : Nat → Int) (n m : Nat) : Prop := pos (tlZ q z) m = n - hdN q ∧ fitP (rdP q z) q = true ∧ FormOk z n
def DrP (w : World) (q : Nat) (z : Nat → Int) (n m : Nat) (e : Ending) (w' : World) : Prop :=
  (¬ DrOk q z n m ∧ RdErr w 3 e w') ∨ (DrOk q z n m ∧ q = 2 ∧ rightB (fun j => z (12 + j)) 12 (n - 12) = false ∧ RdErr w 8 e w') ∨
  (DrOk q z n m ∧ (q = 2 → rightB (fun j => z (12 + j)) 12 (n - 12) = true) ∧ RdOk w q z m e w')
/-- a packet ahead of its name -/
def swP (q : Nat) (z : Nat → Int) (A : Option Addr) (m c : Nat) : Pd :=
  if q = 0 then ⟨z 4, z (8 + 0), z0, (((numZ (fun j => z (15 + j)) 0 2).toNat : Nat) : Int), z (19 + 0), 0, z0, 0, z0, 0, 0, z0, z0, A, m, c⟩
  else if q = 1 then ⟨z 4, z (8 + 0), z0, (((numZ (fun j => z (15 + j)) 0 2).toNat : Nat) : Int), 0, z (19 + 0), fun j => z (20 + j), 0, z0, 0, 0, z0, z0, A, m, c⟩
  else withT (rdP q z) A m c
theorem hello_q (k : Int) (q : Nat) (hk : cls k = q) (hq : q ≤ 4) (w : World) : Calls Tryz.prog 55 #[.int .u8 k] w fun e w' => e = .returned (.bool (decide (q ≤ 1))) ∧ w = w' := by
  rcases cls_cases k q hk hq with ⟨h, rfl⟩ | ⟨h, rfl⟩ | ⟨h, rfl⟩ | ⟨h, rfl⟩ | ⟨h, rfl⟩ | ⟨h, rfl⟩ | ⟨h, rfl⟩ | ⟨h, rfl⟩ | ⟨h, rfl⟩
  · exact hello_yes k (by omega) w
  · exact hello_yes k (by omega) w
  · exact hello_yes k (by omega) w
  all_goals exact hello_no k (by omega) w
theorem lsp_q (k : Int) (q : Nat) (hk : cls k = q) (hq : q ≤ 4) (w : World) : Calls Tryz.prog 48 #[.int .u8 k] w fun e w' => e = .returned (.bool (decide (q = 2))) ∧ w = w' := by
  rcases cls_cases k q hk hq with ⟨h, rfl⟩ | ⟨h, rfl⟩ | ⟨h, rfl⟩ | ⟨h, rfl⟩ | ⟨h, rfl⟩ | ⟨h, rfl⟩ | ⟨h, rfl⟩ | ⟨h, rfl⟩ | ⟨h, rfl⟩
  · exact lsp_no k (by omega) w
  · exact lsp_no k (by omega) w
  · exact lsp_no k (by omega) w
  · exact lsp_yes k (by omega) w
  · exact lsp_yes k (by omega) w
  all_goals exact lsp_no k (by omega) w
theorem rdP_ok (q : Nat) (hq : q ≤ 4) (z : Nat → Int) (hz : ∀ j, 0 ≤ z j ∧ z j ≤ 255) : PdOk (rdP q z) := by
  have zb : ∀ j, 0 ≤ z0 j ∧ z0 j ≤ 255 := fun j => (⟨Int.le_refl 0, by decide⟩ : (0 : Int) ≤ 0 ∧ (0 : Int) ≤ 255)
  have b0 : by1 0 := ⟨Int.le_refl 0, by decide⟩
  have i0 : in64 0 := ⟨by decide, by decide⟩
  have hn : ∀ s, in64 (((numZ (fun j => z (s + j)) 0 2).toNat : Nat) : Int) := fun s => by
    have h0 := hz (s + 0)
    have h1 := hz (s + 1)
    rw [num2]
    unfold in64
    omega
  have hn4 : ∀ s, (numZ (fun j => z (s + j)) 0 4).toNat ≤ 4294967295 := fun s => by
    have h0 := hz (s + 0)
    have h1 := hz (s + 1)
    have h2 := hz (s + 2)
    have h3 := hz (s + 3)
    rw [num4]
    omega
  rcases (by omega : q = 0 ∨ q = 1 ∨ q = 2 ∨ q = 3 ∨ q = 4) with rfl | rfl | rfl | rfl | rfl
  · exact ⟨⟨hz 4, hz _, mixS_bd (fun j => hz _) zb, hn 15, hz _, b0, zb⟩, i0, zb, Nat.zero_le _, b0, zb, zb⟩
  · exact ⟨⟨hz 4, hz _, mixS_bd (fun j => hz _) zb, hn 15, b0, hz _, fun j => hz _⟩, i0, zb, Nat.zero_le _, b0, zb, zb⟩
  · exact ⟨⟨hz 4, b0, zb, i0, b0, b0, zb⟩, hn 10, fun j => hz _, hn4 20, hz _, zb, zb⟩
  · exact ⟨⟨hz 4, b0, fun j => hz _, i0, b0, b0, zb⟩, i0, zb, Nat.zero_le _, b0, fun j => hz _, fun j => hz _⟩
  · exact ⟨⟨hz 4, b0, fun j => hz _, i0, b0, b0, zb⟩, i0, zb, Nat.zero_le _, b0, zb, zb⟩
theorem fit_withT (p : Pd) (q : Nat) (A : Option Addr) (m c : Nat) : fitP (withT p A m c) q = fitP p q :=
  fitsTo_congr (p := withT p A m c) (p' := p) (q := q) _ fun i _ => by unfold fitB; split <;> rfl
/-- a slice from a place within -/
theorem slice_in (W : World) (o : Oper) (e : Operand → Value) (x : Operand) (b off n c l : Nat) (li : Int) (hli : li = (l : Int)) (ho : o.op = .slice 40 x (some (.const (.int .i64 li))) none none) (hx : e x = .slice (some ⟨b, off, none⟩) n c) (he : e (.const (.int .i64 li)) = .int .i64 li) (h1 : l < n) (h2 : n ≤ c) (hcm : c ≤ 9223372036854775807) :
    (execOp e o).run Tryz.prog W = .ok (.value (.slice (some ⟨b, off + l, none⟩) (n - l) (c - l))) W := by
  subst hli
  have := run_from W b off n c l (by omega) h2 hcm
  rw [if_neg (by omega)] at this
  exact slice_op o e x _ ho _ _ hx he _ this
theorem results_dr {fn : Func} {q u : Tmp} (h : fn.results = #[.cell q 39, .tmp u]) (tmps : Array Value) (W : World) (g : Nat) (p : Pd) (x : Value)
    (hp : tmps.getD q undef = .pointer (some ⟨g, 0, none⟩)) (hg : PdT 39 W g p) (hx : tmps.getD u undef = x) : (results fn tmps).run Tryz.prog W = .ok (.tuple #[.agg (pdC p), x]) W := by
  have h1 := run_loadVar_row (P := Tryz.prog) W g 39 39 (pdC p) (0, 0) _ hg Tryz.underlying39 rfl info_pdR
  have hp' : (tmps[q]?).getD undef = .pointer (some ⟨g, 0, none⟩) := by simpa using hp
  have hx' : (tmps[u]?).getD undef = x := by simpa using hx
  simp only [results, h]
  simp [hp', hx', asAddr, h1]
theorem build_0d (o : Oper) (e : Operand → Value) (ho : o.op = .build 39 #[]) (W : World) : (execOp e o).run Tryz.prog W = .ok (.value (.agg (pdC pd0))) W := by
  unfold execOp
  simp only [ho]
  kernel_rfl
theorem build_1d (o : Oper) (e : Operand → Value) (x0 : Operand) (ho : o.op = .build 39 #[(0, x0)]) (k : Int) (h0 : e x0 = .int .u8 k) (W : World) : (execOp e o).run Tryz.prog W = .ok (.value (.agg (pdC (kdP k)))) W := by
  unfold execOp
  simp only [ho, List.map_toArray, List.map_cons, List.map_nil, h0]
  kernel_rfl
theorem rd_from {w : World} {b off n c H : Nat} {z : Nat → Int} (h : Row8 w b off n z) (hh : H ≤ n) (hc : n ≤ c) : Rd w (if c = H then some ⟨b, off, none⟩ else some ⟨b, off + H, none⟩) (n - H) (fun j => z (H + j)) := by
  by_cases e : c = H
  · exact ⟨.inl (by omega), fun j => h.2.2 _⟩
  · rw [if_neg e]
    exact ⟨.inr ⟨b, off + H, rfl, h.shift H (n - H) (by omega)⟩, fun j => h.2.2 _⟩
theorem swP_kd (q : Nat) (z : Nat → Int) (A : Option Addr) (m c : Nat) : (swP q z A m c).kd = z 4 := by
  unfold swP
  split
  · rfl
  · split
    · rfl
    · exact rdP_kd q z
def setSo (x : Pd) (s : Nat → Int) : Pd := ⟨x.kd, x.ci, s, x.ho, x.nu, x.pr, x.la, x.li, x.id, x.sq, x.bi, x.st, x.en, x.A, x.m, x.c⟩
theorem num4_le (z : Nat → Int) (s : Nat) (hz : ∀ j, 0 ≤ z j ∧ z j ≤ 255) : (numZ (fun j => z (s + j)) 0 4).toNat ≤ 4294967295 := by
  have h0 := hz (s + 0)
  have h1 := hz (s + 1)
  have h2 := hz (s + 2)
  have h3 := hz (s + 3)
  rw [num4]
  omega
theorem number_four (b off c : Nat) (z : Nat → Int) (w : World) (hr : Row8 w b off 4 z) :
    Calls Tryz.prog 49 #[.slice (some ⟨b, off, none⟩) 4 c] w fun e w' => e = .returned (.int .u64 (((numZ z 0 4).toNat : Nat) : Int)) ∧ Below w.heap.size w w' :=
  (number_any b off 4 c z w hr (by decide)).mono fun e w' h => by
    obtain ⟨rfl, rfl⟩ := h
    exact ⟨by rw [Int.toNat_of_nonneg (numZ_lt z 0 4 hr.2.2).1], bself _⟩
theorem ownT_mono {w : World} {B B' m : Nat} {v : Value} {L : Nat → It} (h : OwnT w B v m L) (hb : B' ≤ B) : OwnT w B' v m L := ⟨ownsRow_mono h.1 hb, fun j hj => (h.2 j hj).mono hb⟩
/-- two bytes of a copy are laid -/
theorem lay_two {w wg wh : World} {P X b off n : Nat} {z y : Nat → Int} {B : Nat} {A : Option Addr} {m cL g1 c1 g2 c2 : Nat} {L : Nat → It} {x : Pd} (q : Nat) (hD : DrS w P X b off n z B A m cL L x wg) (hO1 : Own8 wg g1 n c1 y) (hb : Below wg.heap.size wg wh) (hO2 : Own8 wh g2 n c2 z) (hg2 : wg.heap.size ≤ g2) (hn : 27 ≤ n) :
    ∃ yz, Hid (∀ j, j < n → (q = 2 → j ≠ 24 ∧ j ≠ 25) → q = 2 → yz j = z j) ∧ Hid (q = 2 → yz 24 = y 24 ∧ yz 25 = y 25) ∧ Hid (Rd ((wh.setCell ⟨g2, 24, none⟩ (.int .u8 (y 24))).setCell ⟨g2, 25, none⟩ (.int .u8 (y 25))).drew (some ⟨g1, 0, none⟩) n y) ∧ Hid (Rd ((wh.setCell ⟨g2, 24, none⟩ (.int .u8 (y 24))).setCell ⟨g2, 25, none⟩ (.int .u8 (y 25))).drew (some ⟨g2, 0, none⟩) n yz) ∧
      Hid (DrS w P X b off n z B A m cL L x ((wh.setCell ⟨g2, 24, none⟩ (.int .u8 (y 24))).setCell ⟨g2, 25, none⟩ (.int .u8 (y 25))).drew) := by
  have hbW : Below wg.heap.size wg ((wh.setCell ⟨g2, 24, none⟩ (.int .u8 (y 24))).setCell ⟨g2, 25, none⟩ (.int .u8 (y 25))).drew := ((hb.setCell (p := ⟨g2, 24, none⟩) hg2 _).setCell (p := ⟨g2, 25, none⟩) hg2 _).drew
  have h2 := (hO2.put 24 (by omega) (y 24) (hO1.2 24)).put 25 (by omega) (y 25) (hO1.2 25)
  refine ⟨upd (upd z 24 (y 24)) 25 (y 25), Lib.hid fun j hj hc hq => ?_, Lib.hid fun _ => ⟨rfl, rfl⟩, Lib.hid (hO1.below hbW hO1.lt).rd, Lib.hid h2.rd, Lib.hid (hD.below hbW)⟩
  obtain ⟨h24, h25⟩ := hc hq
  unfold upd
  rw [if_neg h25, if_neg h24]
def drSet_ci (x : Pd) (v : Int) : Pd := ⟨x.kd, v, x.so, x.ho, x.nu, x.pr, x.la, x.li, x.id, x.sq, x.bi, x.st, x.en, x.A, x.m, x.c⟩
theorem drPut_ci (x : Pd) (v : Int) : putMany (pdC x) 1 (#[.int .u8 v] : Array Value).toList = pdC (drSet_ci x v) := by kernel_rfl
def drSet_so (x : Pd) (v : Nat → Int) : Pd := ⟨x.kd, x.ci, v, x.ho, x.nu, x.pr, x.la, x.li, x.id, x.sq, x.bi, x.st, x.en, x.A, x.m, x.c⟩
theorem drPut_so (x : Pd) (v : Nat → Int) : putMany (pdC x) 2 ((ndC v) : Array Value).toList = pdC (drSet_so x v) := by kernel_rfl
def drSet_ho (x : Pd) (v : Int) : Pd := ⟨x.kd, x.ci, x.so, v, x.nu, x.pr, x.la, x.li, x.id, x.sq, x.bi, x.st, x.en, x.A, x.m, x.c⟩
theorem drPut_ho (x : Pd) (v : Int) : putMany (pdC x) 9 (#[.int .i64 v] : Array Value).toList = pdC (drSet_ho x v) := by kernel_rfl
def drSet_nu (x : Pd) (v : Int) : Pd := ⟨x.kd, x.ci, x.so, x.ho, v, x.pr, x.la, x.li, x.id, x.sq, x.bi, x.st, x.en, x.A, x.m, x.c⟩
theorem drPut_nu (x : Pd) (v : Int) : putMany (pdC x) 10 (#[.int .u8 v] : Array Value).toList = pdC (drSet_nu x v) := by kernel_rfl
def drSet_pr (x : Pd) (v : Int) : Pd := ⟨x.kd, x.ci, x.so, x.ho, x.nu, v, x.la, x.li, x.id, x.sq, x.bi, x.st, x.en, x.A, x.m, x.c⟩
theorem drPut_pr (x : Pd) (v : Int) : putMany (pdC x) 11 (#[.int .u8 v] : Array Value).toList = pdC (drSet_pr x v) := by kernel_rfl
def drSet_la (x : Pd) (v : Nat → Int) : Pd := ⟨x.kd, x.ci, x.so, x.ho, x.nu, x.pr, v, x.li, x.id, x.sq, x.bi, x.st, x.en, x.A, x.m, x.c⟩
theorem drPut_la (x : Pd) (v : Nat → Int) : putMany (pdC x) 12 ((ndC v) : Array Value).toList = pdC (drSet_la x v) := by kernel_rfl
def drSet_li (x : Pd) (v : Int) : Pd := ⟨x.kd, x.ci, x.so, x.ho, x.nu, x.pr, x.la, v, x.id, x.sq, x.bi, x.st, x.en, x.A, x.m, x.c⟩
theorem drPut_li (x : Pd) (v : Int) : putMany (pdC x) 19 (#[.int .i64 v] : Array Value).toList = pdC (drSet_li x v) := by kernel_rfl
def drSet_id (x : Pd) (v : Nat → Int) : Pd := ⟨x.kd, x.ci, x.so, x.ho, x.nu, x.pr, x.la, x.li, v, x.sq, x.bi, x.st, x.en, x.A, x.m, x.c⟩
theorem drPut_id (x : Pd) (v : Nat → Int) : putMany (pdC x) 20 ((idC v) : Array Value).toList = pdC (drSet_id x v) := by kernel_rfl
def drSet_sq (x : Pd) (v : Nat) : Pd := ⟨x.kd, x.ci, x.so, x.ho, x.nu, x.pr, x.la, x.li, x.id, v, x.bi, x.st, x.en, x.A, x.m, x.c⟩
theorem drPut_sq (x : Pd) (v : Nat) : putMany (pdC x) 28 (#[.int .u32 (v : Int)] : Array Value).toList = pdC (drSet_sq x v) := by kernel_rfl
def drSet_bi (x : Pd) (v : Int) : Pd := ⟨x.kd, x.ci, x.so, x.ho, x.nu, x.pr, x.la, x.li, x.id, x.sq, v, x.st, x.en, x.A, x.m, x.c⟩
theorem drPut_bi (x : Pd) (v : Int) : putMany (pdC x) 29 (#[.int .u8 v] : Array Value).toList = pdC (drSet_bi x v) := by kernel_rfl
def drSet_st (x : Pd) (v : Nat → Int) : Pd := ⟨x.kd, x.ci, x.so, x.ho, x.nu, x.pr, x.la, x.li, x.id, x.sq, x.bi, v, x.en, x.A, x.m, x.c⟩
theorem drPut_st (x : Pd) (v : Nat → Int) : putMany (pdC x) 30 ((idC v) : Array Value).toList = pdC (drSet_st x v) := by kernel_rfl
def drSet_en (x : Pd) (v : Nat → Int) : Pd := ⟨x.kd, x.ci, x.so, x.ho, x.nu, x.pr, x.la, x.li, x.id, x.sq, x.bi, x.st, v, x.A, x.m, x.c⟩
theorem drPut_en (x : Pd) (v : Nat → Int) : putMany (pdC x) 38 ((idC v) : Array Value).toList = pdC (drSet_en x v) := by kernel_rfl
theorem swD_0 (z : Nat → Int) (A : Option Addr) (m cL : Nat) : pdC (drSet_nu (drSet_ho (drSet_ci (withT (kdP (z 4)) A m cL) (z (8 + 0))) ((((numZ (fun j => z (15 + j)) 0 2).toNat : Nat) : Int))) (z (19 + 0))) = pdC (swP 0 z A m cL) := by kernel_rfl
theorem swD_1 (z : Nat → Int) (A : Option Addr) (m cL : Nat) : pdC (drSet_la (drSet_pr (drSet_ho (drSet_ci (withT (kdP (z 4)) A m cL) (z (8 + 0))) ((((numZ (fun j => z (15 + j)) 0 2).toNat : Nat) : Int))) (z (19 + 0))) ((fun j => z (20 + j)))) = pdC (swP 1 z A m cL) := by kernel_rfl
theorem swD_2 (z : Nat → Int) (A : Option Addr) (m cL : Nat) : pdC (drSet_bi (drSet_sq (drSet_id (drSet_li (withT (kdP (z 4)) A m cL) ((((numZ (fun j => z (10 + j)) 0 2).toNat : Nat) : Int))) ((fun j => z (12 + j)))) ((numZ (fun j => z (20 + j)) 0 4).toNat)) (z (26 + 0))) = pdC (swP 2 z A m cL) := by kernel_rfl
theorem swD_3 (z : Nat → Int) (A : Option Addr) (m cL : Nat) : pdC (drSet_en (drSet_st (drSet_so (withT (kdP (z 4)) A m cL) ((fun j => z (10 + j)))) ((fun j => z (17 + j)))) ((fun j => z (25 + j)))) = pdC (swP 3 z A m cL) := by kernel_rfl
theorem swD_4 (z : Nat → Int) (A : Option Addr) (m cL : Nat) : pdC (drSet_so (withT (kdP (z 4)) A m cL) (fun j => z (10 + j))) = pdC (swP 4 z A m cL) := by kernel_rfl
end Go.Proofs.YtljkcpjkbmbphaaGreat

/- The document's DocRead: what it answers, for all bytes. Each theorem states its conditions. -/
namespace Go.Proofs.YtljkcpjkbmbphaaGreat
open Go.RowKit
set_option linter.unusedVariables false

set_option maxHeartbeats 4000000 in
set_option maxRecDepth 100000 in
theorem dr_long (A : Option Addr) (n c : Nat) (w : World) (h : 1492 < n) : Calls Tryz.prog 47 #[.slice A n c] w (RdErr w 2) := by
  obtain ⟨W1, hW1⟩ : ∃ W1, w.alloc (.cells (pdC pd0) 39) = W1 := ⟨_, rfl⟩
  obtain ⟨X, hX⟩ : ∃ X, w.heap.size = X := ⟨_, rfl⟩
  have HX1 : Hid (PdT 39 W1 X pd0) := Lib.hid (by rw [← hW1, ← hX]; exact heap_alloc_new w _)
  have HB1 : Hid (Below w.heap.size w W1) := Lib.hid (by rw [← hW1]; exact (bself w).alloc (Nat.le_refl _) _)
  have HW1 := Lib.hid hW1
  have HXW := Lib.hid hX
  have hXle : w.heap.size ≤ X := by omega
  have fl1 : decide ((1492 : Int) < (n : Int)) = true := by simp; omega
  clear hW1 hX
  go_enter Tryz.func47, Tryz.ntmps47
  go_wp2_with (first
    | (refine wpList_v (op := ⟨some 2, _, _, _, _, _⟩) rfl _ (alloc_R' _ _ rfl w W1 X HXW.out HW1.out) ?_)
    | (refine wpList_v (op := ⟨some 12, _, _, _, _, _⟩) rfl _ (build_0d _ _ rfl _) ?_)
    | (refine wpList_st rfl 39 (.tmp 2) (.tmp 12) rfl X 0 rfl (.agg (pdC pd0)) (pdC pd0) rfl rfl info_pdR (pdC_one _) HX1.out (Nat.le_of_ble_eq_true rfl) (pd_all _ _) ?_; intro w2 hst2; refine Hid.out ?_))
  refine Lib.hid ?_
  have HX2 : Hid (PdT 39 w2 X pd0) := Lib.hid hst2.1
  have HB2 : Hid (Below w.heap.size w w2) := Lib.hid (HB1.out.trans (hst2.2.1 _ hXle))
  clear hst2
  go_wp2_with fail
  refine bodyPost_ret (results_dr rfl _ w2 X pd0 (.int .i64 2) rfl HX2.out rfl) rfl ⟨rfl, HB2.out⟩
end Go.Proofs.YtljkcpjkbmbphaaGreat

/- The document's DocRead: what it answers, for all bytes. Each theorem states its conditions. -/
namespace Go.Proofs.YtljkcpjkbmbphaaGreat
open Go.RowKit
set_option linter.unusedVariables false

set_option maxHeartbeats 4000000 in
set_option maxRecDepth 100000 in
theorem dr_short (A : Option Addr) (n c : Nat) (w : World) (hn2 : n ≤ 1492) (h : n < 8) : Calls Tryz.prog 47 #[.slice A n c] w (RdErr w 3) := by
  obtain ⟨W1, hW1⟩ : ∃ W1, w.alloc (.cells (pdC pd0) 39) = W1 := ⟨_, rfl⟩
  obtain ⟨X, hX⟩ : ∃ X, w.heap.size = X := ⟨_, rfl⟩
  have HX1 : Hid (PdT 39 W1 X pd0) := Lib.hid (by rw [← hW1, ← hX]; exact heap_alloc_new w _)
  have HB1 : Hid (Below w.heap.size w W1) := Lib.hid (by rw [← hW1]; exact (bself w).alloc (Nat.le_refl _) _)
  have HW1 := Lib.hid hW1
  have HXW := Lib.hid hX
  have hXle : w.heap.size ≤ X := by omega
  have fl1 : decide ((1492 : Int) < (n : Int)) = false := by simp; omega
  clear hW1 hX
  have fl8 : decide ((n : Int) < 8) = true := by simp; omega
  go_enter Tryz.func47, Tryz.ntmps47
  go_wp2_with (first
    | (refine wpList_v (op := ⟨some 2, _, _, _, _, _⟩) rfl _ (alloc_R' _ _ rfl w W1 X HXW.out HW1.out) ?_)
    | (refine wpList_v (op := ⟨some 32, _, _, _, _, _⟩) rfl _ (build_0d _ _ rfl _) ?_)
    | (refine wpList_st rfl 39 (.tmp 2) (.tmp 32) rfl X 0 rfl (.agg (pdC pd0)) (pdC pd0) rfl rfl info_pdR (pdC_one _) HX1.out (Nat.le_of_ble_eq_true rfl) (pd_all _ _) ?_; intro w2 hst2; refine Hid.out ?_))
  refine Lib.hid ?_
  have HX2 : Hid (PdT 39 w2 X pd0) := Lib.hid hst2.1
  have HB2 : Hid (Below w.heap.size w w2) := Lib.hid (HB1.out.trans (hst2.2.1 _ hXle))
  clear hst2
  go_wp2_with fail
  refine bodyPost_ret (results_dr rfl _ w2 X pd0 (.int .i64 3) rfl HX2.out rfl) rfl ⟨rfl, HB2.out⟩
set_option maxHeartbeats 4000000 in
set_option maxRecDepth 100000 in
theorem dr_kind (b off n c : Nat) (z : Nat → Int) (w : World) (hr : Row8 w b off n z) (hn2 : n ≤ 1492) (h8 : 8 ≤ n) (hk : cls (z 4) = 5) : Calls Tryz.prog 47 #[.slice (some ⟨b, off, none⟩) n c] w (RdErr w 3) := by
  obtain ⟨W1, hW1⟩ : ∃ W1, w.alloc (.cells (pdC pd0) 39) = W1 := ⟨_, rfl⟩
  obtain ⟨X, hX⟩ : ∃ X, w.heap.size = X := ⟨_, rfl⟩
  have HX1 : Hid (PdT 39 W1 X pd0) := Lib.hid (by rw [← hW1, ← hX]; exact heap_alloc_new w _)
  have HB1 : Hid (Below w.heap.size w W1) := Lib.hid (by rw [← hW1]; exact (bself w).alloc (Nat.le_refl _) _)
  have HW1 := Lib.hid hW1
  have HXW := Lib.hid hX
  have hXle : w.heap.size ≤ X := by omega
  have fl1 : decide ((1492 : Int) < (n : Int)) = false := by simp; omega
  clear hW1 hX
  have fl8 : decide ((n : Int) < 8) = false := by simp; omega
  have c4 : W1.cell? ⟨b, off + 4, none⟩ = some (.int .u8 (z 4)) := by rw [← hr.2.1 4 (by omega)]; exact HB1.out.cell hr.1
  have HH := Lib.hid (refHead_none (z 4) hk)
  have h4n : (4 : Int) < (n : Int) := by omega
  clear hr hk
  go_enter Tryz.func47, Tryz.ntmps47
  go_wp2_with (refine wpList_v (op := ⟨some 2, _, _, _, _, _⟩) rfl _ (alloc_R' _ _ rfl w W1 X HXW.out HW1.out) ?_)
  refine (HH.out _).mono ?_
  rintro e wx ⟨rfl, rfl⟩
  go_wp2_with (first
    | (refine wpList_v (op := ⟨some 32, _, _, _, _, _⟩) rfl _ (build_0d _ _ rfl _) ?_)
    | (refine wpList_st rfl 39 (.tmp 2) (.tmp 32) rfl X 0 rfl (.agg (pdC pd0)) (pdC pd0) rfl rfl info_pdR (pdC_one _) HX1.out (Nat.le_of_ble_eq_true rfl) (pd_all _ _) ?_; intro w2 hst2; refine Hid.out ?_))
  refine Lib.hid ?_
  have HX2 : Hid (PdT 39 w2 X pd0) := Lib.hid hst2.1
  have HB2 : Hid (Below w.heap.size w w2) := Lib.hid (HB1.out.trans (hst2.2.1 _ hXle))
  clear hst2
  go_wp2_with fail
  refine bodyPost_ret (results_dr rfl _ w2 X pd0 (.int .i64 3) rfl HX2.out rfl) rfl ⟨rfl, HB2.out⟩
set_option maxHeartbeats 4000000 in
set_option maxRecDepth 100000 in
theorem dr_head (b off n c : Nat) (z : Nat → Int) (w : World) (hr : Row8 w b off n z) (hn2 : n ≤ 1492) (h8 : 8 ≤ n) (q : Nat) (hk : cls (z 4) = q) (hq : q ≤ 4) (hh : n < hdN q) : Calls Tryz.prog 47 #[.slice (some ⟨b, off, none⟩) n c] w (RdErr w 3) := by
  obtain ⟨W1, hW1⟩ : ∃ W1, w.alloc (.cells (pdC pd0) 39) = W1 := ⟨_, rfl⟩
  obtain ⟨X, hX⟩ : ∃ X, w.heap.size = X := ⟨_, rfl⟩
  have HX1 : Hid (PdT 39 W1 X pd0) := Lib.hid (by rw [← hW1, ← hX]; exact heap_alloc_new w _)
  have HB1 : Hid (Below w.heap.size w W1) := Lib.hid (by rw [← hW1]; exact (bself w).alloc (Nat.le_refl _) _)
  have HW1 := Lib.hid hW1
  have HXW := Lib.hid hX
  have hXle : w.heap.size ≤ X := by omega
  have fl1 : decide ((1492 : Int) < (n : Int)) = false := by simp; omega
  clear hW1 hX
  have fl8 : decide ((n : Int) < 8) = false := by simp; omega
  have c4 : W1.cell? ⟨b, off + 4, none⟩ = some (.int .u8 (z 4)) := by rw [← hr.2.1 4 (by omega)]; exact HB1.out.cell hr.1
  have HH := Lib.hid (refHead_any (z 4) q hk hq)
  have h4n : (4 : Int) < (n : Int) := by omega
  have h17 := hdN_bd q hq
  obtain ⟨H, hH⟩ : ∃ H, hdN q = H := ⟨_, rfl⟩
  rw [hH] at HH hh h17
  have fH : ((H : Int) == 0) = false := by simp; omega
  have fl9 : decide ((n : Int) < (H : Int)) = true := by simp; omega
  clear hr hk hH
  go_enter Tryz.func47, Tryz.ntmps47
  go_wp2_with (refine wpList_v (op := ⟨some 2, _, _, _, _, _⟩) rfl _ (alloc_R' _ _ rfl w W1 X HXW.out HW1.out) ?_)
  refine (HH.out _).mono ?_
  rintro e wx ⟨rfl, rfl⟩
  go_wp2_with fail
  refine (HH.out _).mono ?_
  rintro e wx ⟨rfl, rfl⟩
  go_wp2_with (first
    | (refine wpList_v (op := ⟨some 32, _, _, _, _, _⟩) rfl _ (build_0d _ _ rfl _) ?_)
    | (refine wpList_st rfl 39 (.tmp 2) (.tmp 32) rfl X 0 rfl (.agg (pdC pd0)) (pdC pd0) rfl rfl info_pdR (pdC_one _) HX1.out (Nat.le_of_ble_eq_true rfl) (pd_all _ _) ?_; intro w2 hst2; refine Hid.out ?_))
  refine Lib.hid ?_
  have HX2 : Hid (PdT 39 w2 X pd0) := Lib.hid hst2.1
  have HB2 : Hid (Below w.heap.size w w2) := Lib.hid (HB1.out.trans (hst2.2.1 _ hXle))
  clear hst2
  go_wp2_with fail
  refine bodyPost_ret (results_dr rfl _ w2 X pd0 (.int .i64 3) rfl HX2.out rfl) rfl ⟨rfl, HB2.out⟩
end Go.Proofs.YtljkcpjkbmbphaaGreat
