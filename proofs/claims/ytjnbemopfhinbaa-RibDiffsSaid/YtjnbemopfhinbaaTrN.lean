/- Nil tries, the program's and the document's, answer alike. Each theorem states its conditions. -/
import Derived.Test.YtjnbemopfhinbaaTrRx
namespace Go.Proofs.Ytjnbemopfhinbaa
open Go.RowKit
set_option linter.unusedVariables false
set_option linter.unusedSimpArgs false

def eN (fam len : Int) (z : Nat → Int) : Int := if Form fam len z then 6 else 3
def fN (fam : Int) : Int := if fam = 4 ∨ fam = 6 then 6 else 1
theorem eN_cases (fam len : Int) (z : Nat → Int) : (Form fam len z ∧ eN fam len z = 6) ∨ (¬ Form fam len z ∧ eN fam len z = 3) := by
  unfold eN
  by_cases h : Form fam len z
  · rw [if_pos h]; exact .inl ⟨h, rfl⟩
  · rw [if_neg h]; exact .inr ⟨h, rfl⟩
theorem getN (fam len : Int) (z : Nat → Int) (hz : Bytes z) (w : World) : Calls Try.prog 42 #[.pointer none, .agg (pvC fam len z)] w fun e w' => e = .returned (.tuple #[.int .i64 0, .bool false, .int .i64 (eN fam len z)]) ∧ Below w.heap.size w w' := by
  rcases eN_cases fam len z with ⟨h, e⟩ | ⟨h, e⟩ <;> rw [e]
  · exact get_nil fam len z hz h w
  · exact get_bad none fam len z hz h w
theorem insN (fam len v : Int) (z : Nat → Int) (hz : Bytes z) (w : World) : Calls Try.prog 14 #[.pointer none, .agg (pvC fam len z), .int .i64 v] w fun e w' => e = .returned (.int .i64 (eN fam len z)) ∧ Below w.heap.size w w' := by
  rcases eN_cases fam len z with ⟨h, e⟩ | ⟨h, e⟩ <;> rw [e]
  · exact insert_nil fam len v z hz h w
  · exact insert_bad none fam len v z hz h w
theorem remN (fam len : Int) (z : Nat → Int) (hz : Bytes z) (w : World) : Calls Try.prog 16 #[.pointer none, .agg (pvC fam len z)] w fun e w' => e = .returned (.int .i64 (eN fam len z)) ∧ Below w.heap.size w w' := by
  rcases eN_cases fam len z with ⟨h, e⟩ | ⟨h, e⟩ <;> rw [e]
  · exact remove_nil fam len z hz h w
  · exact remove_bad none fam len z hz h w
theorem findN (fam : Int) (z : Nat → Int) (hz : Bytes z) (w : World) : Calls Try.prog 23 #[.pointer none, .int .u8 fam, .agg (agC z)] w fun e w' => e = .returned (.tuple #[.agg (pvC 0 0 Z0), .int .i64 0, .bool false, .int .i64 (fN fam)]) ∧ Below w.heap.size w w' := by
  unfold fN
  by_cases h4 : fam = 4
  · rw [if_pos (.inl h4), h4]; exact find_nil4 z hz w
  by_cases h6 : fam = 6
  · rw [if_pos (.inr h6), h6]; exact find_nil6 z hz w
  rw [if_neg (fun h => h.elim h4 h6)]
  exact find_bad none fam z ⟨h4, h6⟩ w
theorem neq_u8 (o : Oper) (e : Operand → Value) (x : Operand) (k : Int) (ho : o.op = .binOp .neq 5 x (.const (.int .u8 k)) 5) (a : Int) (b : Bool) (hb : decide (a ≠ k) = b) (h0 : e x = .int .u8 a) (hc : e (.const (.int .u8 k)) = .int .u8 k) (W : World) : (execOp e o).run Try.prog W = .ok (.value (.bool b)) W := by
  subst hb
  unfold execOp
  simp only [ho, h0, hc]
  by_cases h : a = k
  · subst h; simp [go_sem]
  · have h2 : (a == k) = false := by simp [h]
    simp [go_sem, h, h2]
set_option maxHeartbeats 16000000 in
set_option maxRecDepth 100000 in
theorem ck_y (fam n : Int) (z : Nat → Int) (hz : Bytes z) (hf : Form fam n z) (w : World) : Calls Try.prog 45 #[.pointer none, .agg (pvC fam n z)] w fun e w' => e = .returned (.int .i64 6) ∧ Below w.heap.size w w' := by
  have HF := Lib.hid (fun W => form_any fam n z W hz)
  rw [decide_eq_true hf] at HF
  clear hz hf
  go_enter Try.func45, Try.ntmps45
  have HB := Lib.hid (Below.refl w.heap.size w)
  obtain ⟨N1, hN1⟩ : ∃ N, w.heap.size = N := ⟨_, rfl⟩
  have HN1 := Lib.hid hN1
  clear hN1
  go_wp2_with (refine wpList_box (op := ⟨some 3, _, _, _, _, _⟩) rfl 32 (.tmp 1) rfl (pvC fam n z) rfl N1 HN1.out ?_; intro w1 k1 b1 s1; refine Hid.out ?_)
  refine Lib.hid ?_
  have K3 := Lib.hid k1
  clear k1
  have le_HB_N1 : w.heap.size ≤ N1 := by rw [← HN1.out]; exact HB.out.size
  have HBn := Lib.hid (HB.out.trans (b1.mono HB.out.size))
  clear HB
  have HB := HBn
  clear HBn
  clear b1 HN1
  go_wp2_with (refine wpList_ld (op := ⟨some 5, _, _, _, _, _⟩) (by rfl) 32 (.tmp 3) rfl N1 0 rfl (pvC fam n z) _ K3.out.all Try.underlying32 rfl (hi_pv fam n z) ?_; refine Hid.out ?_)
  refine Lib.hid ?_
  go_wp2_with fail
  refine (HF.out _).mono ?_
  rintro e w2 ⟨rfl, b1⟩
  have K3n := Lib.hid (K3.out.below b1 K3.out.lt)
  clear K3
  have K3 := K3n
  clear K3n
  have HBn := Lib.hid (HB.out.trans (b1.mono HB.out.size))
  clear HB
  have HB := HBn
  clear HBn
  clear b1
  go_wp2_with fail
  refine bodyPost_ret (v := .int .i64 6) (by simp [results, Try.f45, go_sem]) rfl ?_
  exact ⟨rfl, HB.out⟩
set_option maxHeartbeats 16000000 in
set_option maxRecDepth 100000 in
theorem dg_y (fam n : Int) (z : Nat → Int) (hz : Bytes z) (hf : Form fam n z) (w : World) : Calls Try.prog 49 #[.pointer none, .agg (pvC fam n z)] w fun e w' => e = .returned (.tuple #[.int .i64 0, .bool false, .int .i64 6]) ∧ Below w.heap.size w w' := by
  have HF := Lib.hid (fun W => ck_y fam n z hz hf W)
  clear hz hf
  go_enter Try.func49, Try.ntmps49
  have HB := Lib.hid (Below.refl w.heap.size w)
  obtain ⟨N1, hN1⟩ : ∃ N, w.heap.size = N := ⟨_, rfl⟩
  have HN1 := Lib.hid hN1
  clear hN1
  go_wp2_with (refine wpList_box (op := ⟨some 3, _, _, _, _, _⟩) rfl 32 (.tmp 1) rfl (pvC fam n z) rfl N1 HN1.out ?_; intro w1 k1 b1 s1; refine Hid.out ?_)
  refine Lib.hid ?_
  have K3 := Lib.hid k1
  clear k1
  have le_HB_N1 : w.heap.size ≤ N1 := by rw [← HN1.out]; exact HB.out.size
  have HBn := Lib.hid (HB.out.trans (b1.mono HB.out.size))
  clear HB
  have HB := HBn
  clear HBn
  clear b1 HN1
  go_wp2_with (refine wpList_ld (op := ⟨some 11, _, _, _, _, _⟩) (by rfl) 32 (.tmp 3) rfl N1 0 rfl (pvC fam n z) _ K3.out.all Try.underlying32 rfl (hi_pv fam n z) ?_; refine Hid.out ?_)
  refine Lib.hid ?_
  go_wp2_with fail
  refine (HF.out _).mono ?_
  rintro e w2 ⟨rfl, b1⟩
  have K3n := Lib.hid (K3.out.below b1 K3.out.lt)
  clear K3
  have K3 := K3n
  clear K3n
  have HBn := Lib.hid (HB.out.trans (b1.mono HB.out.size))
  clear HB
  have HB := HBn
  clear HBn
  clear b1
  go_wp2_with fail
  refine bodyPost_ret (v := .tuple #[.int .i64 0, .bool false, .int .i64 6]) (by simp [results, Try.f49, go_sem]) rfl ?_
  exact ⟨rfl, HB.out⟩
set_option maxHeartbeats 16000000 in
set_option maxRecDepth 100000 in
theorem di_y (fam n v : Int) (z : Nat → Int) (hz : Bytes z) (hf : Form fam n z) (w : World) : Calls Try.prog 15 #[.pointer none, .agg (pvC fam n z), .int .i64 v] w fun e w' => e = .returned (.int .i64 6) ∧ Below w.heap.size w w' := by
  have HF := Lib.hid (fun W => ck_y fam n z hz hf W)
  clear hz hf
  go_enter Try.func15, Try.ntmps15
  have HB := Lib.hid (Below.refl w.heap.size w)
  obtain ⟨N1, hN1⟩ : ∃ N, w.heap.size = N := ⟨_, rfl⟩
  have HN1 := Lib.hid hN1
  clear hN1
  go_wp2_with (refine wpList_box (op := ⟨some 4, _, _, _, _, _⟩) rfl 32 (.tmp 1) rfl (pvC fam n z) rfl N1 HN1.out ?_; intro w1 k1 b1 s1; refine Hid.out ?_)
  refine Lib.hid ?_
  have K3 := Lib.hid k1
  clear k1
  have le_HB_N1 : w.heap.size ≤ N1 := by rw [← HN1.out]; exact HB.out.size
  have HBn := Lib.hid (HB.out.trans (b1.mono HB.out.size))
  clear HB
  have HB := HBn
  clear HBn
  clear b1 HN1
  go_wp2_with (refine wpList_ld (op := ⟨some 13, _, _, _, _, _⟩) (by rfl) 32 (.tmp 4) rfl N1 0 rfl (pvC fam n z) _ K3.out.all Try.underlying32 rfl (hi_pv fam n z) ?_; refine Hid.out ?_)
  refine Lib.hid ?_
  go_wp2_with fail
  refine (HF.out _).mono ?_
  rintro e w2 ⟨rfl, b1⟩
  have K3n := Lib.hid (K3.out.below b1 K3.out.lt)
  clear K3
  have K3 := K3n
  clear K3n
  have HBn := Lib.hid (HB.out.trans (b1.mono HB.out.size))
  clear HB
  have HB := HBn
  clear HBn
  clear b1
  go_wp2_with fail
  refine bodyPost_ret (v := .int .i64 6) (by simp [results, Try.f15, go_sem]) rfl ?_
  exact ⟨rfl, HB.out⟩
set_option maxHeartbeats 16000000 in
set_option maxRecDepth 100000 in
theorem dr_y (fam n : Int) (z : Nat → Int) (hz : Bytes z) (hf : Form fam n z) (w : World) : Calls Try.prog 17 #[.pointer none, .agg (pvC fam n z)] w fun e w' => e = .returned (.int .i64 6) ∧ Below w.heap.size w w' := by
  have HF := Lib.hid (fun W => dg_y fam n z hz hf W)
  clear hz hf
  go_enter Try.func17, Try.ntmps17
  have HB := Lib.hid (Below.refl w.heap.size w)
  obtain ⟨N1, hN1⟩ : ∃ N, w.heap.size = N := ⟨_, rfl⟩
  have HN1 := Lib.hid hN1
  clear hN1
  go_wp2_with (refine wpList_box (op := ⟨some 3, _, _, _, _, _⟩) rfl 32 (.tmp 1) rfl (pvC fam n z) rfl N1 HN1.out ?_; intro w1 k1 b1 s1; refine Hid.out ?_)
  refine Lib.hid ?_
  have K3 := Lib.hid k1
  clear k1
  have le_HB_N1 : w.heap.size ≤ N1 := by rw [← HN1.out]; exact HB.out.size
  have HBn := Lib.hid (HB.out.trans (b1.mono HB.out.size))
  clear HB
  have HB := HBn
  clear HBn
  clear b1 HN1
  go_wp2_with (refine wpList_ld (op := ⟨some 10, _, _, _, _, _⟩) (by rfl) 32 (.tmp 3) rfl N1 0 rfl (pvC fam n z) _ K3.out.all Try.underlying32 rfl (hi_pv fam n z) ?_; refine Hid.out ?_)
  refine Lib.hid ?_
  go_wp2_with fail
  refine (HF.out _).mono ?_
  rintro e w2 ⟨rfl, b1⟩
  have K3n := Lib.hid (K3.out.below b1 K3.out.lt)
  clear K3
  have K3 := K3n
  clear K3n
  have HBn := Lib.hid (HB.out.trans (b1.mono HB.out.size))
  clear HB
  have HB := HBn
  clear HBn
  clear b1
  go_wp2_with fail
  refine bodyPost_ret (v := .int .i64 6) (by simp [results, Try.f17, go_sem]) rfl ?_
  exact ⟨rfl, HB.out⟩
set_option maxHeartbeats 16000000 in
set_option maxRecDepth 100000 in
theorem ck_n (fam n : Int) (z : Nat → Int) (hz : Bytes z) (hf : ¬ Form fam n z) (w : World) : Calls Try.prog 45 #[.pointer none, .agg (pvC fam n z)] w fun e w' => e = .returned (.int .i64 3) ∧ Below w.heap.size w w' := by
  have HF := Lib.hid (fun W => form_any fam n z W hz)
  rw [decide_eq_false hf] at HF
  clear hz hf
  go_enter Try.func45, Try.ntmps45
  have HB := Lib.hid (Below.refl w.heap.size w)
  obtain ⟨N1, hN1⟩ : ∃ N, w.heap.size = N := ⟨_, rfl⟩
  have HN1 := Lib.hid hN1
  clear hN1
  go_wp2_with (refine wpList_box (op := ⟨some 3, _, _, _, _, _⟩) rfl 32 (.tmp 1) rfl (pvC fam n z) rfl N1 HN1.out ?_; intro w1 k1 b1 s1; refine Hid.out ?_)
  refine Lib.hid ?_
  have K3 := Lib.hid k1
  clear k1
  have le_HB_N1 : w.heap.size ≤ N1 := by rw [← HN1.out]; exact HB.out.size
  have HBn := Lib.hid (HB.out.trans (b1.mono HB.out.size))
  clear HB
  have HB := HBn
  clear HBn
  clear b1 HN1
  go_wp2_with (refine wpList_ld (op := ⟨some 5, _, _, _, _, _⟩) (by rfl) 32 (.tmp 3) rfl N1 0 rfl (pvC fam n z) _ K3.out.all Try.underlying32 rfl (hi_pv fam n z) ?_; refine Hid.out ?_)
  refine Lib.hid ?_
  go_wp2_with fail
  refine (HF.out _).mono ?_
  rintro e w2 ⟨rfl, b1⟩
  have K3n := Lib.hid (K3.out.below b1 K3.out.lt)
  clear K3
  have K3 := K3n
  clear K3n
  have HBn := Lib.hid (HB.out.trans (b1.mono HB.out.size))
  clear HB
  have HB := HBn
  clear HBn
  clear b1
  go_wp2_with fail
  refine bodyPost_ret (v := .int .i64 3) (by simp [results, Try.f45, go_sem]) rfl ?_
  exact ⟨rfl, HB.out⟩
set_option maxHeartbeats 16000000 in
set_option maxRecDepth 100000 in
theorem dg_n (fam n : Int) (z : Nat → Int) (hz : Bytes z) (hf : ¬ Form fam n z) (w : World) : Calls Try.prog 49 #[.pointer none, .agg (pvC fam n z)] w fun e w' => e = .returned (.tuple #[.int .i64 0, .bool false, .int .i64 3]) ∧ Below w.heap.size w w' := by
  have HF := Lib.hid (fun W => ck_n fam n z hz hf W)
  clear hz hf
  go_enter Try.func49, Try.ntmps49
  have HB := Lib.hid (Below.refl w.heap.size w)
  obtain ⟨N1, hN1⟩ : ∃ N, w.heap.size = N := ⟨_, rfl⟩
  have HN1 := Lib.hid hN1
  clear hN1
  go_wp2_with (refine wpList_box (op := ⟨some 3, _, _, _, _, _⟩) rfl 32 (.tmp 1) rfl (pvC fam n z) rfl N1 HN1.out ?_; intro w1 k1 b1 s1; refine Hid.out ?_)
  refine Lib.hid ?_
  have K3 := Lib.hid k1
  clear k1
  have le_HB_N1 : w.heap.size ≤ N1 := by rw [← HN1.out]; exact HB.out.size
  have HBn := Lib.hid (HB.out.trans (b1.mono HB.out.size))
  clear HB
  have HB := HBn
  clear HBn
  clear b1 HN1
  go_wp2_with (refine wpList_ld (op := ⟨some 11, _, _, _, _, _⟩) (by rfl) 32 (.tmp 3) rfl N1 0 rfl (pvC fam n z) _ K3.out.all Try.underlying32 rfl (hi_pv fam n z) ?_; refine Hid.out ?_)
  refine Lib.hid ?_
  go_wp2_with fail
  refine (HF.out _).mono ?_
  rintro e w2 ⟨rfl, b1⟩
  have K3n := Lib.hid (K3.out.below b1 K3.out.lt)
  clear K3
  have K3 := K3n
  clear K3n
  have HBn := Lib.hid (HB.out.trans (b1.mono HB.out.size))
  clear HB
  have HB := HBn
  clear HBn
  clear b1
  go_wp2_with fail
  refine bodyPost_ret (v := .tuple #[.int .i64 0, .bool false, .int .i64 3]) (by simp [results, Try.f49, go_sem]) rfl ?_
  exact ⟨rfl, HB.out⟩
set_option maxHeartbeats 16000000 in
set_option maxRecDepth 100000 in
theorem di_n (fam n v : Int) (z : Nat → Int) (hz : Bytes z) (hf : ¬ Form fam n z) (w : World) : Calls Try.prog 15 #[.pointer none, .agg (pvC fam n z), .int .i64 v] w fun e w' => e = .returned (.int .i64 3) ∧ Below w.heap.size w w' := by
  have HF := Lib.hid (fun W => ck_n fam n z hz hf W)
  clear hz hf
  go_enter Try.func15, Try.ntmps15
  have HB := Lib.hid (Below.refl w.heap.size w)
  obtain ⟨N1, hN1⟩ : ∃ N, w.heap.size = N := ⟨_, rfl⟩
  have HN1 := Lib.hid hN1
  clear hN1
  go_wp2_with (refine wpList_box (op := ⟨some 4, _, _, _, _, _⟩) rfl 32 (.tmp 1) rfl (pvC fam n z) rfl N1 HN1.out ?_; intro w1 k1 b1 s1; refine Hid.out ?_)
  refine Lib.hid ?_
  have K3 := Lib.hid k1
  clear k1
  have le_HB_N1 : w.heap.size ≤ N1 := by rw [← HN1.out]; exact HB.out.size
  have HBn := Lib.hid (HB.out.trans (b1.mono HB.out.size))
  clear HB
  have HB := HBn
  clear HBn
  clear b1 HN1
  go_wp2_with (refine wpList_ld (op := ⟨some 13, _, _, _, _, _⟩) (by rfl) 32 (.tmp 4) rfl N1 0 rfl (pvC fam n z) _ K3.out.all Try.underlying32 rfl (hi_pv fam n z) ?_; refine Hid.out ?_)
  refine Lib.hid ?_
  go_wp2_with fail
  refine (HF.out _).mono ?_
  rintro e w2 ⟨rfl, b1⟩
  have K3n := Lib.hid (K3.out.below b1 K3.out.lt)
  clear K3
  have K3 := K3n
  clear K3n
  have HBn := Lib.hid (HB.out.trans (b1.mono HB.out.size))
  clear HB
  have HB := HBn
  clear HBn
  clear b1
  go_wp2_with fail
  refine bodyPost_ret (v := .int .i64 3) (by simp [results, Try.f15, go_sem]) rfl ?_
  exact ⟨rfl, HB.out⟩
set_option maxHeartbeats 16000000 in
set_option maxRecDepth 100000 in
theorem dr_n (fam n : Int) (z : Nat → Int) (hz : Bytes z) (hf : ¬ Form fam n z) (w : World) : Calls Try.prog 17 #[.pointer none, .agg (pvC fam n z)] w fun e w' => e = .returned (.int .i64 3) ∧ Below w.heap.size w w' := by
  have HF := Lib.hid (fun W => dg_n fam n z hz hf W)
  clear hz hf
  go_enter Try.func17, Try.ntmps17
  have HB := Lib.hid (Below.refl w.heap.size w)
  obtain ⟨N1, hN1⟩ : ∃ N, w.heap.size = N := ⟨_, rfl⟩
  have HN1 := Lib.hid hN1
  clear hN1
  go_wp2_with (refine wpList_box (op := ⟨some 3, _, _, _, _, _⟩) rfl 32 (.tmp 1) rfl (pvC fam n z) rfl N1 HN1.out ?_; intro w1 k1 b1 s1; refine Hid.out ?_)
  refine Lib.hid ?_
  have K3 := Lib.hid k1
  clear k1
  have le_HB_N1 : w.heap.size ≤ N1 := by rw [← HN1.out]; exact HB.out.size
  have HBn := Lib.hid (HB.out.trans (b1.mono HB.out.size))
  clear HB
  have HB := HBn
  clear HBn
  clear b1 HN1
  go_wp2_with (refine wpList_ld (op := ⟨some 10, _, _, _, _, _⟩) (by rfl) 32 (.tmp 3) rfl N1 0 rfl (pvC fam n z) _ K3.out.all Try.underlying32 rfl (hi_pv fam n z) ?_; refine Hid.out ?_)
  refine Lib.hid ?_
  go_wp2_with fail
  refine (HF.out _).mono ?_
  rintro e w2 ⟨rfl, b1⟩
  have K3n := Lib.hid (K3.out.below b1 K3.out.lt)
  clear K3
  have K3 := K3n
  clear K3n
  have HBn := Lib.hid (HB.out.trans (b1.mono HB.out.size))
  clear HB
  have HB := HBn
  clear HBn
  clear b1
  go_wp2_with fail
  refine bodyPost_ret (v := .int .i64 3) (by simp [results, Try.f17, go_sem]) rfl ?_
  exact ⟨rfl, HB.out⟩
theorem dgN (fam n : Int) (z : Nat → Int) (hz : Bytes z) (w : World) : Calls Try.prog 49 #[.pointer none, .agg (pvC fam n z)] w fun e w' => e = .returned (.tuple #[.int .i64 0, .bool false, .int .i64 (eN fam n z)]) ∧ Below w.heap.size w w' := by
  rcases eN_cases fam n z with ⟨h, e⟩ | ⟨h, e⟩ <;> rw [e]
  · exact dg_y fam n z hz h w
  · exact dg_n fam n z hz h w
theorem diN (fam n v : Int) (z : Nat → Int) (hz : Bytes z) (w : World) : Calls Try.prog 15 #[.pointer none, .agg (pvC fam n z), .int .i64 v] w fun e w' => e = .returned (.int .i64 (eN fam n z)) ∧ Below w.heap.size w w' := by
  rcases eN_cases fam n z with ⟨h, e⟩ | ⟨h, e⟩ <;> rw [e]
  · exact di_y fam n v z hz h w
  · exact di_n fam n v z hz h w
theorem drN (fam n : Int) (z : Nat → Int) (hz : Bytes z) (w : World) : Calls Try.prog 17 #[.pointer none, .agg (pvC fam n z)] w fun e w' => e = .returned (.int .i64 (eN fam n z)) ∧ Below w.heap.size w w' := by
  rcases eN_cases fam n z with ⟨h, e⟩ | ⟨h, e⟩ <;> rw [e]
  · exact dr_y fam n z hz h w
  · exact dr_n fam n z hz h w
set_option maxHeartbeats 16000000 in
set_option maxRecDepth 100000 in
theorem df_bad (fam : Int) (z : Nat → Int) (hf : fam ≠ 4 ∧ fam ≠ 6) (w : World) : Calls Try.prog 50 #[.pointer none, .int .u8 fam, .agg (agC z)] w fun e w' => e = .returned (.tuple #[.agg (pvC 0 0 Z0), .int .i64 0, .bool false, .int .i64 1]) ∧ Below w.heap.size w w' := by
  have HF := Lib.hid hf
  clear hf
  go_enter Try.func50, Try.ntmps50
  have HB := Lib.hid (Below.refl w.heap.size w)
  obtain ⟨N1, hN1⟩ : ∃ N, w.heap.size = N := ⟨_, rfl⟩
  have HN1 := Lib.hid hN1
  clear hN1
  go_wp2_with (refine wpList_box (op := ⟨some 5, _, _, _, _, _⟩) rfl 23 (.tmp 2) rfl (agC z) rfl N1 HN1.out ?_; intro w1 k1 b1 s1; refine Hid.out ?_)
  refine Lib.hid ?_
  have K5 := Lib.hid k1
  clear k1
  have le_HB_N1 : w.heap.size ≤ N1 := by rw [← HN1.out]; exact HB.out.size
  have HBn := Lib.hid (HB.out.trans (b1.mono HB.out.size))
  clear HB
  have HB := HBn
  clear HBn
  clear b1 HN1
  obtain ⟨N2, hN2⟩ : ∃ N, w1.heap.size = N := ⟨_, rfl⟩
  have HN2 := Lib.hid hN2
  clear hN2
  go_wp2_with (refine wpList_new (op := ⟨some 6, _, _, _, _, _⟩) rfl 32 rfl (pvC 0 0 Z0) zero_pvT N2 HN2.out ?_; intro w2 k1 b1 s1; refine Hid.out ?_)
  refine Lib.hid ?_
  have K6 := Lib.hid k1
  clear k1
  have lt_N1_N2 : N1 < N2 := by rw [← HN2.out]; exact K5.out.lt
  have le_HB_N2 : w.heap.size ≤ N2 := by rw [← HN2.out]; exact HB.out.size
  have K5n := Lib.hid (K5.out.below b1 K5.out.lt)
  clear K5
  have K5 := K5n
  clear K5n
  have HBn := Lib.hid (HB.out.trans (b1.mono HB.out.size))
  clear HB
  have HB := HBn
  clear HBn
  clear b1 HN2
  go_wp2_with (refine wpList_v (op := ⟨some 15, _, _, _, _, _⟩) rfl (.bool true) (neq_u8 _ _ _ 4 rfl fam true (by have := HF.out; simp; omega) rfl rfl _) ?_; refine Hid.out ?_)
  refine Lib.hid ?_
  go_wp2_with (refine wpList_gv (op := ⟨some 18, _, _, _, _, _⟩) (.bool true) (by rfl) (neq_u8 _ _ _ 6 rfl fam true (by have := HF.out; simp; omega) rfl rfl _) ?_; refine Hid.out ?_)
  refine Lib.hid ?_
  go_wp2_with (refine wpList_v (op := ⟨some 20, _, _, _, _, _⟩) rfl (.agg (pvC 0 0 Z0)) (build_pv0 _ _ rfl _) ?_; refine Hid.out ?_)
  refine Lib.hid ?_
  go_wp2_with (refine wpList_st rfl 32 (.tmp 6) (.tmp 20) rfl N2 0 rfl (.agg (pvC 0 0 Z0)) (pvC 0 0 Z0) rfl rfl info_pv (all_pv _ _ _) K6.out (Nat.le_of_ble_eq_true rfl) (C' := pvC 0 0 Z0) (pv_over _ _ _ _ _ _) ?_; intro w3 q1; refine Hid.out ?_)
  refine Lib.hid ?_
  have K5n := Lib.hid (K5.out.far q1 (by omega))
  clear K5
  have K5 := K5n
  clear K5n
  have HBn := Lib.hid (HB.out.trans (q1.2.1 _ (by omega)))
  clear HB
  have HB := HBn
  clear HBn
  have K6n : Hid (Blk 32 w3 N2 (pvC 0 0 Z0)) := Lib.hid q1.1
  clear K6
  have K6 := K6n
  clear K6n q1
  go_wp2_with fail
  exact bodyPost_ret (results_4 rfl _ _ N2 (pvC 0 0 Z0) (.int .i64 0) (.bool false) (.int .i64 1) Try.underlying32 rfl info_pv rfl rfl rfl rfl K6.out) rfl ⟨rfl, HB.out⟩
set_option maxHeartbeats 16000000 in
set_option maxRecDepth 100000 in
theorem df_4 (fam : Int) (z : Nat → Int) (hf : fam = 4) (w : World) : Calls Try.prog 50 #[.pointer none, .int .u8 fam, .agg (agC z)] w fun e w' => e = .returned (.tuple #[.agg (pvC 0 0 Z0), .int .i64 0, .bool false, .int .i64 6]) ∧ Below w.heap.size w w' := by
  have HF := Lib.hid hf
  clear hf
  go_enter Try.func50, Try.ntmps50
  have HB := Lib.hid (Below.refl w.heap.size w)
  obtain ⟨N1, hN1⟩ : ∃ N, w.heap.size = N := ⟨_, rfl⟩
  have HN1 := Lib.hid hN1
  clear hN1
  go_wp2_with (refine wpList_box (op := ⟨some 5, _, _, _, _, _⟩) rfl 23 (.tmp 2) rfl (agC z) rfl N1 HN1.out ?_; intro w1 k1 b1 s1; refine Hid.out ?_)
  refine Lib.hid ?_
  have K5 := Lib.hid k1
  clear k1
  have le_HB_N1 : w.heap.size ≤ N1 := by rw [← HN1.out]; exact HB.out.size
  have HBn := Lib.hid (HB.out.trans (b1.mono HB.out.size))
  clear HB
  have HB := HBn
  clear HBn
  clear b1 HN1
  obtain ⟨N2, hN2⟩ : ∃ N, w1.heap.size = N := ⟨_, rfl⟩
  have HN2 := Lib.hid hN2
  clear hN2
  go_wp2_with (refine wpList_new (op := ⟨some 6, _, _, _, _, _⟩) rfl 32 rfl (pvC 0 0 Z0) zero_pvT N2 HN2.out ?_; intro w2 k1 b1 s1; refine Hid.out ?_)
  refine Lib.hid ?_
  have K6 := Lib.hid k1
  clear k1
  have lt_N1_N2 : N1 < N2 := by rw [← HN2.out]; exact K5.out.lt
  have le_HB_N2 : w.heap.size ≤ N2 := by rw [← HN2.out]; exact HB.out.size
  have K5n := Lib.hid (K5.out.below b1 K5.out.lt)
  clear K5
  have K5 := K5n
  clear K5n
  have HBn := Lib.hid (HB.out.trans (b1.mono HB.out.size))
  clear HB
  have HB := HBn
  clear HBn
  clear b1 HN2
  go_wp2_with (refine wpList_v (op := ⟨some 15, _, _, _, _, _⟩) rfl (.bool false) (neq_u8 _ _ _ 4 rfl fam false (by have := HF.out; simp; omega) rfl rfl _) ?_; refine Hid.out ?_)
  refine Lib.hid ?_
  go_wp2_with (refine wpList_v (op := ⟨some 23, _, _, _, _, _⟩) rfl (.agg (pvC 0 0 Z0)) (build_pv0 _ _ rfl _) ?_; refine Hid.out ?_)
  refine Lib.hid ?_
  go_wp2_with (refine wpList_st rfl 32 (.tmp 6) (.tmp 23) rfl N2 0 rfl (.agg (pvC 0 0 Z0)) (pvC 0 0 Z0) rfl rfl info_pv (all_pv _ _ _) K6.out (Nat.le_of_ble_eq_true rfl) (C' := pvC 0 0 Z0) (pv_over _ _ _ _ _ _) ?_; intro w3 q1; refine Hid.out ?_)
  refine Lib.hid ?_
  have K5n := Lib.hid (K5.out.far q1 (by omega))
  clear K5
  have K5 := K5n
  clear K5n
  have HBn := Lib.hid (HB.out.trans (q1.2.1 _ (by omega)))
  clear HB
  have HB := HBn
  clear HBn
  have K6n : Hid (Blk 32 w3 N2 (pvC 0 0 Z0)) := Lib.hid q1.1
  clear K6
  have K6 := K6n
  clear K6n q1
  go_wp2_with fail
  exact bodyPost_ret (results_4 rfl _ _ N2 (pvC 0 0 Z0) (.int .i64 0) (.bool false) (.int .i64 6) Try.underlying32 rfl info_pv rfl rfl rfl rfl K6.out) rfl ⟨rfl, HB.out⟩
set_option maxHeartbeats 16000000 in
set_option maxRecDepth 100000 in
theorem df_6 (fam : Int) (z : Nat → Int) (hf : fam = 6) (w : World) : Calls Try.prog 50 #[.pointer none, .int .u8 fam, .agg (agC z)] w fun e w' => e = .returned (.tuple #[.agg (pvC 0 0 Z0), .int .i64 0, .bool false, .int .i64 6]) ∧ Below w.heap.size w w' := by
  have HF := Lib.hid hf
  clear hf
  go_enter Try.func50, Try.ntmps50
  have HB := Lib.hid (Below.refl w.heap.size w)
  obtain ⟨N1, hN1⟩ : ∃ N, w.heap.size = N := ⟨_, rfl⟩
  have HN1 := Lib.hid hN1
  clear hN1
  go_wp2_with (refine wpList_box (op := ⟨some 5, _, _, _, _, _⟩) rfl 23 (.tmp 2) rfl (agC z) rfl N1 HN1.out ?_; intro w1 k1 b1 s1; refine Hid.out ?_)
  refine Lib.hid ?_
  have K5 := Lib.hid k1
  clear k1
  have le_HB_N1 : w.heap.size ≤ N1 := by rw [← HN1.out]; exact HB.out.size
  have HBn := Lib.hid (HB.out.trans (b1.mono HB.out.size))
  clear HB
  have HB := HBn
  clear HBn
  clear b1 HN1
  obtain ⟨N2, hN2⟩ : ∃ N, w1.heap.size = N := ⟨_, rfl⟩
  have HN2 := Lib.hid hN2
  clear hN2
  go_wp2_with (refine wpList_new (op := ⟨some 6, _, _, _, _, _⟩) rfl 32 rfl (pvC 0 0 Z0) zero_pvT N2 HN2.out ?_; intro w2 k1 b1 s1; refine Hid.out ?_)
  refine Lib.hid ?_
  have K6 := Lib.hid k1
  clear k1
  have lt_N1_N2 : N1 < N2 := by rw [← HN2.out]; exact K5.out.lt
  have le_HB_N2 : w.heap.size ≤ N2 := by rw [← HN2.out]; exact HB.out.size
  have K5n := Lib.hid (K5.out.below b1 K5.out.lt)
  clear K5
  have K5 := K5n
  clear K5n
  have HBn := Lib.hid (HB.out.trans (b1.mono HB.out.size))
  clear HB
  have HB := HBn
  clear HBn
  clear b1 HN2
  go_wp2_with (refine wpList_v (op := ⟨some 15, _, _, _, _, _⟩) rfl (.bool true) (neq_u8 _ _ _ 4 rfl fam true (by have := HF.out; simp; omega) rfl rfl _) ?_; refine Hid.out ?_)
  refine Lib.hid ?_
  go_wp2_with (refine wpList_gv (op := ⟨some 18, _, _, _, _, _⟩) (.bool false) (by rfl) (neq_u8 _ _ _ 6 rfl fam false (by have := HF.out; simp; omega) rfl rfl _) ?_; refine Hid.out ?_)
  refine Lib.hid ?_
  go_wp2_with (refine wpList_v (op := ⟨some 23, _, _, _, _, _⟩) rfl (.agg (pvC 0 0 Z0)) (build_pv0 _ _ rfl _) ?_; refine Hid.out ?_)
  refine Lib.hid ?_
  go_wp2_with (refine wpList_st rfl 32 (.tmp 6) (.tmp 23) rfl N2 0 rfl (.agg (pvC 0 0 Z0)) (pvC 0 0 Z0) rfl rfl info_pv (all_pv _ _ _) K6.out (Nat.le_of_ble_eq_true rfl) (C' := pvC 0 0 Z0) (pv_over _ _ _ _ _ _) ?_; intro w3 q1; refine Hid.out ?_)
  refine Lib.hid ?_
  have K5n := Lib.hid (K5.out.far q1 (by omega))
  clear K5
  have K5 := K5n
  clear K5n
  have HBn := Lib.hid (HB.out.trans (q1.2.1 _ (by omega)))
  clear HB
  have HB := HBn
  clear HBn
  have K6n : Hid (Blk 32 w3 N2 (pvC 0 0 Z0)) := Lib.hid q1.1
  clear K6
  have K6 := K6n
  clear K6n q1
  go_wp2_with fail
  exact bodyPost_ret (results_4 rfl _ _ N2 (pvC 0 0 Z0) (.int .i64 0) (.bool false) (.int .i64 6) Try.underlying32 rfl info_pv rfl rfl rfl rfl K6.out) rfl ⟨rfl, HB.out⟩
theorem dfN (fam : Int) (z : Nat → Int) (w : World) : Calls Try.prog 50 #[.pointer none, .int .u8 fam, .agg (agC z)] w fun e w' => e = .returned (.tuple #[.agg (pvC 0 0 Z0), .int .i64 0, .bool false, .int .i64 (fN fam)]) ∧ Below w.heap.size w w' := by
  unfold fN
  by_cases h4 : fam = 4
  · rw [if_pos (.inl h4)]; exact df_4 fam z h4 w
  by_cases h6 : fam = 6
  · rw [if_pos (.inr h6)]; exact df_6 fam z h6 w
  rw [if_neg (fun h => h.elim h4 h6)]
  exact df_bad fam z ⟨h4, h6⟩ w
theorem tlist_nil (w : World) : Calls Try.prog 20 #[.pointer none] w fun e w' => e = .returned (.slice none 0 0) ∧ w = w' := by
  go_enter Try.func20, Try.ntmps20
  go_wp2
  exact bodyPost_ret (v := .slice none 0 0) (by simp [results, Try.f20, go_sem]) rfl ⟨rfl, rfl⟩
/-- a call's cells -/
def opC (k : Int) (p : Pf) (v : Int) : Array Value := #[.int .u8 k, .int .u8 p.fam, .int .i64 p.len, .int .u8 (p.z 0), .int .u8 (p.z 1), .int .u8 (p.z 2), .int .u8 (p.z 3), .int .u8 (p.z 4), .int .u8 (p.z 5), .int .u8 (p.z 6), .int .u8 (p.z 7), .int .u8 (p.z 8), .int .u8 (p.z 9), .int .u8 (p.z 10), .int .u8 (p.z 11), .int .u8 (p.z 12), .int .u8 (p.z 13), .int .u8 (p.z 14), .int .u8 (p.z 15), .int .i64 v]
theorem opC_pre (k : Int) (p : Pf) (v : Int) (j : Nat) (hj : j < 18) : (opC k p v)[1 + j]? = (pfC p)[j]? := by
  rcases (by omega : j = 0 ∨ j = 1 ∨ j = 2 ∨ j = 3 ∨ j = 4 ∨ j = 5 ∨ j = 6 ∨ j = 7 ∨ j = 8 ∨ j = 9 ∨ j = 10 ∨ j = 11 ∨ j = 12 ∨ j = 13 ∨ j = 14 ∨ j = 15 ∨ j = 16 ∨ j = 17) with rfl | rfl | rfl | rfl | rfl | rfl | rfl | rfl | rfl | rfl | rfl | rfl | rfl | rfl | rfl | rfl | rfl | rfl <;> rfl
section
variable {w : World} {g : Nat} {k v : Int} {p : Pf}
theorem Blk.oppv (h : Blk 34 w g (opC k p v)) : w.rangeAt g 1 (pfC p).toList := h.range fun j hj => by
  have hj' : j < 18 := hj
  rw [opC_pre _ _ _ j hj', Array.getElem?_toList]
theorem Blk.opag (h : Blk 34 w g (opC k p v)) : w.rangeAt g 3 (agC p.z).toList := h.range fun j hj => by
  have hj' : j < 16 := hj
  rw [show 3 + j = 1 + (2 + j) by omega, opC_pre _ _ _ (2 + j) (by omega), Array.getElem?_toList, agC_at _ j hj']
  exact pvC_at p.fam p.len p.z j hj'
end
set_option maxHeartbeats 16000000 in
set_option maxRecDepth 100000 in
theorem looks_nil (k fam v : Int) (p : Pf) (a : Nat → Int) (hp : Bytes p.z) (ha : Bytes a) (w : World) : Calls Try.prog 18 #[.pointer none, .pointer none, .agg (opC k p v), .int .u8 fam, .agg (agC a)] w fun e w' => e = .returned (.bool true) ∧ Below w.heap.size w w' := by
  have HG := Lib.hid (fun W => getN p.fam p.len p.z hp W)
  have HD := Lib.hid (fun W => dgN p.fam p.len p.z hp W)
  have HF1 := Lib.hid (fun W => findN fam a ha W)
  have HE1 := Lib.hid (fun W => dfN fam a W)
  have HF2 := Lib.hid (fun W => findN p.fam p.z hp W)
  have HE2 := Lib.hid (fun W => dfN p.fam p.z W)
  obtain ⟨E, hE⟩ : ∃ E, eN p.fam p.len p.z = E := ⟨_, rfl⟩
  obtain ⟨E1, hE1⟩ : ∃ E, fN fam = E := ⟨_, rfl⟩
  obtain ⟨E2, hE2⟩ : ∃ E, fN p.fam = E := ⟨_, rfl⟩
  rw [hE] at HG HD
  rw [hE1] at HF1 HE1
  rw [hE2] at HF2 HE2
  clear hp ha hE hE1 hE2
  go_enter Try.func18, Try.ntmps18
  have HB := Lib.hid (Below.refl w.heap.size w)
  obtain ⟨N1, hN1⟩ : ∃ N, w.heap.size = N := ⟨_, rfl⟩
  have HN1 := Lib.hid hN1
  clear hN1
  go_wp2_with (refine wpList_box (op := ⟨some 7, _, _, _, _, _⟩) rfl 34 (.tmp 2) rfl (opC k p v) rfl N1 HN1.out ?_; intro w1 k1 b1 s1; refine Hid.out ?_)
  refine Lib.hid ?_
  have K7 := Lib.hid k1
  clear k1
  have le_HB_N1 : w.heap.size ≤ N1 := by rw [← HN1.out]; exact HB.out.size
  have HBn := Lib.hid (HB.out.trans (b1.mono HB.out.size))
  clear HB
  have HB := HBn
  clear HBn
  clear b1 HN1
  obtain ⟨N2, hN2⟩ : ∃ N, w1.heap.size = N := ⟨_, rfl⟩
  have HN2 := Lib.hid hN2
  clear hN2
  go_wp2_with (refine wpList_box (op := ⟨some 9, _, _, _, _, _⟩) rfl 23 (.tmp 4) rfl (agC a) rfl N2 HN2.out ?_; intro w2 k1 b1 s1; refine Hid.out ?_)
  refine Lib.hid ?_
  have K9 := Lib.hid k1
  clear k1
  have lt_N1_N2 : N1 < N2 := by rw [← HN2.out]; exact K7.out.lt
  have le_HB_N2 : w.heap.size ≤ N2 := by rw [← HN2.out]; exact HB.out.size
  have K7n := Lib.hid (K7.out.below b1 K7.out.lt)
  clear K7
  have K7 := K7n
  clear K7n
  have HBn := Lib.hid (HB.out.trans (b1.mono HB.out.size))
  clear HB
  have HB := HBn
  clear HBn
  clear b1 HN2
  go_wp2_with (refine wpList_ld (op := ⟨some 36, _, _, _, _, _⟩) (by rfl) 32 (.tmp 35) rfl N1 1 rfl (pfC p) _ K7.out.oppv Try.underlying32 rfl (hi_pv _ _ _) ?_; refine Hid.out ?_)
  refine Lib.hid ?_
  go_wp2_with fail
  refine (HG.out _).mono ?_
  rintro e w3 ⟨rfl, b1⟩
  have K7n := Lib.hid (K7.out.below b1 K7.out.lt)
  clear K7
  have K7 := K7n
  clear K7n
  have K9n := Lib.hid (K9.out.below b1 K9.out.lt)
  clear K9
  have K9 := K9n
  clear K9n
  have HBn := Lib.hid (HB.out.trans (b1.mono HB.out.size))
  clear HB
  have HB := HBn
  clear HBn
  clear b1
  go_wp2_with (refine wpList_ld (op := ⟨some 44, _, _, _, _, _⟩) (by rfl) 32 (.tmp 43) rfl N1 1 rfl (pfC p) _ K7.out.oppv Try.underlying32 rfl (hi_pv _ _ _) ?_; refine Hid.out ?_)
  refine Lib.hid ?_
  go_wp2_with fail
  refine (HD.out _).mono ?_
  rintro e w4 ⟨rfl, b1⟩
  have K7n := Lib.hid (K7.out.below b1 K7.out.lt)
  clear K7
  have K7 := K7n
  clear K7n
  have K9n := Lib.hid (K9.out.below b1 K9.out.lt)
  clear K9
  have K9 := K9n
  clear K9n
  have HBn := Lib.hid (HB.out.trans (b1.mono HB.out.size))
  clear HB
  have HB := HBn
  clear HBn
  clear b1
  go_wp2_with (refine wpList_ld (op := ⟨some 52, _, _, _, _, _⟩) (by rfl) 23 (.tmp 9) rfl N2 0 rfl (agC a) _ K9.out.all Try.underlying23 rfl (hi_ag _) ?_; refine Hid.out ?_)
  refine Lib.hid ?_
  go_wp2_with fail
  refine (HF1.out _).mono ?_
  rintro e w5 ⟨rfl, b1⟩
  have K7n := Lib.hid (K7.out.below b1 K7.out.lt)
  clear K7
  have K7 := K7n
  clear K7n
  have K9n := Lib.hid (K9.out.below b1 K9.out.lt)
  clear K9
  have K9 := K9n
  clear K9n
  have HBn := Lib.hid (HB.out.trans (b1.mono HB.out.size))
  clear HB
  have HB := HBn
  clear HBn
  clear b1
  obtain ⟨N6, hN6⟩ : ∃ N, w5.heap.size = N := ⟨_, rfl⟩
  have HN6 := Lib.hid hN6
  clear hN6
  go_wp2_with (refine wpList_new (op := ⟨some 17, _, _, _, _, _⟩) rfl 32 rfl (pvC 0 0 Z0) zero_pvT N6 HN6.out ?_; intro w6 k1 b1 s1; refine Hid.out ?_)
  refine Lib.hid ?_
  have K17 := Lib.hid k1
  clear k1
  have lt_N1_N6 : N1 < N6 := by rw [← HN6.out]; exact K7.out.lt
  have lt_N2_N6 : N2 < N6 := by rw [← HN6.out]; exact K9.out.lt
  have le_HB_N6 : w.heap.size ≤ N6 := by rw [← HN6.out]; exact HB.out.size
  have K7n := Lib.hid (K7.out.below b1 K7.out.lt)
  clear K7
  have K7 := K7n
  clear K7n
  have K9n := Lib.hid (K9.out.below b1 K9.out.lt)
  clear K9
  have K9 := K9n
  clear K9n
  have HBn := Lib.hid (HB.out.trans (b1.mono HB.out.size))
  clear HB
  have HB := HBn
  clear HBn
  clear b1 HN6
  go_wp2_with (refine wpList_st rfl 32 (.tmp 17) (.tmp 54) rfl N6 0 rfl (.agg (pvC 0 0 Z0)) (pvC 0 0 Z0) rfl rfl info_pv (all_pv _ _ _) K17.out (Nat.le_of_ble_eq_true rfl) (C' := pvC 0 0 Z0) (pv_over _ _ _ _ _ _) ?_; intro w7 q1; refine Hid.out ?_)
  refine Lib.hid ?_
  have K7n := Lib.hid (K7.out.far q1 (by omega))
  clear K7
  have K7 := K7n
  clear K7n
  have K9n := Lib.hid (K9.out.far q1 (by omega))
  clear K9
  have K9 := K9n
  clear K9n
  have HBn := Lib.hid (HB.out.trans (q1.2.1 _ (by omega)))
  clear HB
  have HB := HBn
  clear HBn
  have K17n : Hid (Blk 32 w7 N6 (pvC 0 0 Z0)) := Lib.hid q1.1
  clear K17
  have K17 := K17n
  clear K17n q1
  go_wp2_with (refine wpList_ld (op := ⟨some 61, _, _, _, _, _⟩) (by rfl) 23 (.tmp 9) rfl N2 0 rfl (agC a) _ K9.out.all Try.underlying23 rfl (hi_ag _) ?_; refine Hid.out ?_)
  refine Lib.hid ?_
  go_wp2_with fail
  refine (HE1.out _).mono ?_
  rintro e w8 ⟨rfl, b1⟩
  have K7n := Lib.hid (K7.out.below b1 K7.out.lt)
  clear K7
  have K7 := K7n
  clear K7n
  have K9n := Lib.hid (K9.out.below b1 K9.out.lt)
  clear K9
  have K9 := K9n
  clear K9n
  have K17n := Lib.hid (K17.out.below b1 K17.out.lt)
  clear K17
  have K17 := K17n
  clear K17n
  have HBn := Lib.hid (HB.out.trans (b1.mono HB.out.size))
  clear HB
  have HB := HBn
  clear HBn
  clear b1
  obtain ⟨N9, hN9⟩ : ∃ N, w8.heap.size = N := ⟨_, rfl⟩
  have HN9 := Lib.hid hN9
  clear hN9
  go_wp2_with (refine wpList_new (op := ⟨some 21, _, _, _, _, _⟩) rfl 32 rfl (pvC 0 0 Z0) zero_pvT N9 HN9.out ?_; intro w9 k1 b1 s1; refine Hid.out ?_)
  refine Lib.hid ?_
  have K21 := Lib.hid k1
  clear k1
  have lt_N1_N9 : N1 < N9 := by rw [← HN9.out]; exact K7.out.lt
  have lt_N2_N9 : N2 < N9 := by rw [← HN9.out]; exact K9.out.lt
  have lt_N6_N9 : N6 < N9 := by rw [← HN9.out]; exact K17.out.lt
  have le_HB_N9 : w.heap.size ≤ N9 := by rw [← HN9.out]; exact HB.out.size
  have K7n := Lib.hid (K7.out.below b1 K7.out.lt)
  clear K7
  have K7 := K7n
  clear K7n
  have K9n := Lib.hid (K9.out.below b1 K9.out.lt)
  clear K9
  have K9 := K9n
  clear K9n
  have K17n := Lib.hid (K17.out.below b1 K17.out.lt)
  clear K17
  have K17 := K17n
  clear K17n
  have HBn := Lib.hid (HB.out.trans (b1.mono HB.out.size))
  clear HB
  have HB := HBn
  clear HBn
  clear b1 HN9
  go_wp2_with (refine wpList_st rfl 32 (.tmp 21) (.tmp 63) rfl N9 0 rfl (.agg (pvC 0 0 Z0)) (pvC 0 0 Z0) rfl rfl info_pv (all_pv _ _ _) K21.out (Nat.le_of_ble_eq_true rfl) (C' := pvC 0 0 Z0) (pv_over _ _ _ _ _ _) ?_; intro w10 q1; refine Hid.out ?_)
  refine Lib.hid ?_
  have K7n := Lib.hid (K7.out.far q1 (by omega))
  clear K7
  have K7 := K7n
  clear K7n
  have K9n := Lib.hid (K9.out.far q1 (by omega))
  clear K9
  have K9 := K9n
  clear K9n
  have K17n := Lib.hid (K17.out.far q1 (by omega))
  clear K17
  have K17 := K17n
  clear K17n
  have HBn := Lib.hid (HB.out.trans (q1.2.1 _ (by omega)))
  clear HB
  have HB := HBn
  clear HBn
  have K21n : Hid (Blk 32 w10 N9 (pvC 0 0 Z0)) := Lib.hid q1.1
  clear K21
  have K21 := K21n
  clear K21n q1
  have cf : w10.cell? ⟨N1, 1, none⟩ = some (.int .u8 p.fam) := (K7.out.cell 1).trans rfl
  go_wp2_with (refine wpList_ld (op := ⟨some 74, _, _, _, _, _⟩) (by rfl) 23 (.tmp 73) rfl N1 3 rfl (agC p.z) _ K7.out.opag Try.underlying23 rfl (hi_ag _) ?_; refine Hid.out ?_)
  refine Lib.hid ?_
  clear cf
  go_wp2_with fail
  refine (HF2.out _).mono ?_
  rintro e w11 ⟨rfl, b1⟩
  have K7n := Lib.hid (K7.out.below b1 K7.out.lt)
  clear K7
  have K7 := K7n
  clear K7n
  have K9n := Lib.hid (K9.out.below b1 K9.out.lt)
  clear K9
  have K9 := K9n
  clear K9n
  have K17n := Lib.hid (K17.out.below b1 K17.out.lt)
  clear K17
  have K17 := K17n
  clear K17n
  have K21n := Lib.hid (K21.out.below b1 K21.out.lt)
  clear K21
  have K21 := K21n
  clear K21n
  have HBn := Lib.hid (HB.out.trans (b1.mono HB.out.size))
  clear HB
  have HB := HBn
  clear HBn
  clear b1
  obtain ⟨N12, hN12⟩ : ∃ N, w11.heap.size = N := ⟨_, rfl⟩
  have HN12 := Lib.hid hN12
  clear hN12
  go_wp2_with (refine wpList_new (op := ⟨some 25, _, _, _, _, _⟩) rfl 32 rfl (pvC 0 0 Z0) zero_pvT N12 HN12.out ?_; intro w12 k1 b1 s1; refine Hid.out ?_)
  refine Lib.hid ?_
  have K25 := Lib.hid k1
  clear k1
  have lt_N1_N12 : N1 < N12 := by rw [← HN12.out]; exact K7.out.lt
  have lt_N2_N12 : N2 < N12 := by rw [← HN12.out]; exact K9.out.lt
  have lt_N6_N12 : N6 < N12 := by rw [← HN12.out]; exact K17.out.lt
  have lt_N9_N12 : N9 < N12 := by rw [← HN12.out]; exact K21.out.lt
  have le_HB_N12 : w.heap.size ≤ N12 := by rw [← HN12.out]; exact HB.out.size
  have K7n := Lib.hid (K7.out.below b1 K7.out.lt)
  clear K7
  have K7 := K7n
  clear K7n
  have K9n := Lib.hid (K9.out.below b1 K9.out.lt)
  clear K9
  have K9 := K9n
  clear K9n
  have K17n := Lib.hid (K17.out.below b1 K17.out.lt)
  clear K17
  have K17 := K17n
  clear K17n
  have K21n := Lib.hid (K21.out.below b1 K21.out.lt)
  clear K21
  have K21 := K21n
  clear K21n
  have HBn := Lib.hid (HB.out.trans (b1.mono HB.out.size))
  clear HB
  have HB := HBn
  clear HBn
  clear b1 HN12
  go_wp2_with (refine wpList_st rfl 32 (.tmp 25) (.tmp 76) rfl N12 0 rfl (.agg (pvC 0 0 Z0)) (pvC 0 0 Z0) rfl rfl info_pv (all_pv _ _ _) K25.out (Nat.le_of_ble_eq_true rfl) (C' := pvC 0 0 Z0) (pv_over _ _ _ _ _ _) ?_; intro w13 q1; refine Hid.out ?_)
  refine Lib.hid ?_
  have K7n := Lib.hid (K7.out.far q1 (by omega))
  clear K7
  have K7 := K7n
  clear K7n
  have K9n := Lib.hid (K9.out.far q1 (by omega))
  clear K9
  have K9 := K9n
  clear K9n
  have K17n := Lib.hid (K17.out.far q1 (by omega))
  clear K17
  have K17 := K17n
  clear K17n
  have K21n := Lib.hid (K21.out.far q1 (by omega))
  clear K21
  have K21 := K21n
  clear K21n
  have HBn := Lib.hid (HB.out.trans (q1.2.1 _ (by omega)))
  clear HB
  have HB := HBn
  clear HBn
  have K25n : Hid (Blk 32 w13 N12 (pvC 0 0 Z0)) := Lib.hid q1.1
  clear K25
  have K25 := K25n
  clear K25n q1
  have cf : w13.cell? ⟨N1, 1, none⟩ = some (.int .u8 p.fam) := (K7.out.cell 1).trans rfl
  go_wp2_with (refine wpList_ld (op := ⟨some 87, _, _, _, _, _⟩) (by rfl) 23 (.tmp 86) rfl N1 3 rfl (agC p.z) _ K7.out.opag Try.underlying23 rfl (hi_ag _) ?_; refine Hid.out ?_)
  refine Lib.hid ?_
  clear cf
  go_wp2_with fail
  refine (HE2.out _).mono ?_
  rintro e w14 ⟨rfl, b1⟩
  have K7n := Lib.hid (K7.out.below b1 K7.out.lt)
  clear K7
  have K7 := K7n
  clear K7n
  have K9n := Lib.hid (K9.out.below b1 K9.out.lt)
  clear K9
  have K9 := K9n
  clear K9n
  have K17n := Lib.hid (K17.out.below b1 K17.out.lt)
  clear K17
  have K17 := K17n
  clear K17n
  have K21n := Lib.hid (K21.out.below b1 K21.out.lt)
  clear K21
  have K21 := K21n
  clear K21n
  have K25n := Lib.hid (K25.out.below b1 K25.out.lt)
  clear K25
  have K25 := K25n
  clear K25n
  have HBn := Lib.hid (HB.out.trans (b1.mono HB.out.size))
  clear HB
  have HB := HBn
  clear HBn
  clear b1
  obtain ⟨N15, hN15⟩ : ∃ N, w14.heap.size = N := ⟨_, rfl⟩
  have HN15 := Lib.hid hN15
  clear hN15
  go_wp2_with (refine wpList_new (op := ⟨some 29, _, _, _, _, _⟩) rfl 32 rfl (pvC 0 0 Z0) zero_pvT N15 HN15.out ?_; intro w15 k1 b1 s1; refine Hid.out ?_)
  refine Lib.hid ?_
  have K29 := Lib.hid k1
  clear k1
  have lt_N1_N15 : N1 < N15 := by rw [← HN15.out]; exact K7.out.lt
  have lt_N2_N15 : N2 < N15 := by rw [← HN15.out]; exact K9.out.lt
  have lt_N6_N15 : N6 < N15 := by rw [← HN15.out]; exact K17.out.lt
  have lt_N9_N15 : N9 < N15 := by rw [← HN15.out]; exact K21.out.lt
  have lt_N12_N15 : N12 < N15 := by rw [← HN15.out]; exact K25.out.lt
  have le_HB_N15 : w.heap.size ≤ N15 := by rw [← HN15.out]; exact HB.out.size
  have K7n := Lib.hid (K7.out.below b1 K7.out.lt)
  clear K7
  have K7 := K7n
  clear K7n
  have K9n := Lib.hid (K9.out.below b1 K9.out.lt)
  clear K9
  have K9 := K9n
  clear K9n
  have K17n := Lib.hid (K17.out.below b1 K17.out.lt)
  clear K17
  have K17 := K17n
  clear K17n
  have K21n := Lib.hid (K21.out.below b1 K21.out.lt)
  clear K21
  have K21 := K21n
  clear K21n
  have K25n := Lib.hid (K25.out.below b1 K25.out.lt)
  clear K25
  have K25 := K25n
  clear K25n
  have HBn := Lib.hid (HB.out.trans (b1.mono HB.out.size))
  clear HB
  have HB := HBn
  clear HBn
  clear b1 HN15
  go_wp2_with (refine wpList_st rfl 32 (.tmp 29) (.tmp 89) rfl N15 0 rfl (.agg (pvC 0 0 Z0)) (pvC 0 0 Z0) rfl rfl info_pv (all_pv _ _ _) K29.out (Nat.le_of_ble_eq_true rfl) (C' := pvC 0 0 Z0) (pv_over _ _ _ _ _ _) ?_; intro w16 q1; refine Hid.out ?_)
  refine Lib.hid ?_
  have K7n := Lib.hid (K7.out.far q1 (by omega))
  clear K7
  have K7 := K7n
  clear K7n
  have K9n := Lib.hid (K9.out.far q1 (by omega))
  clear K9
  have K9 := K9n
  clear K9n
  have K17n := Lib.hid (K17.out.far q1 (by omega))
  clear K17
  have K17 := K17n
  clear K17n
  have K21n := Lib.hid (K21.out.far q1 (by omega))
  clear K21
  have K21 := K21n
  clear K21n
  have K25n := Lib.hid (K25.out.far q1 (by omega))
  clear K25
  have K25 := K25n
  clear K25n
  have HBn := Lib.hid (HB.out.trans (q1.2.1 _ (by omega)))
  clear HB
  have HB := HBn
  clear HBn
  have K29n : Hid (Blk 32 w16 N15 (pvC 0 0 Z0)) := Lib.hid q1.1
  clear K29
  have K29 := K29n
  clear K29n q1
  go_wp2_with (refine wpList_gv (op := ⟨some 104, _, _, _, _, _⟩) (.bool true) (by rfl) (eqI_run _ _ _ _ _ rfl E rfl rfl _) ?_; refine Hid.out ?_)
  refine Lib.hid ?_
  go_wp2_with (refine wpList_ld (op := ⟨some 107, _, _, _, _, _⟩) (by rfl) 32 (.tmp 17) rfl N6 0 rfl (pvC 0 0 Z0) _ K17.out.all Try.underlying32 rfl (hi_pv 0 0 Z0) ?_; refine Hid.out ?_)
  refine Lib.hid ?_
  go_wp2_with (refine wpList_ld (op := ⟨some 108, _, _, _, _, _⟩) (by rfl) 32 (.tmp 21) rfl N9 0 rfl (pvC 0 0 Z0) _ K21.out.all Try.underlying32 rfl (hi_pv 0 0 Z0) ?_; refine Hid.out ?_)
  refine Lib.hid ?_
  go_wp2_with (refine wpList_gv (op := ⟨some 109, _, _, _, _, _⟩) (.bool true) (by rfl) (eql_same _ _ _ _ rfl 0 0 Z0 (fun j => show (0 : Int) ≤ 0 ∧ (0 : Int) ≤ 255 from by omega) rfl rfl _) ?_; refine Hid.out ?_)
  refine Lib.hid ?_
  go_wp2_with (refine wpList_gv (op := ⟨some 124, _, _, _, _, _⟩) (.bool true) (by rfl) (eqI_run _ _ _ _ _ rfl E1 rfl rfl _) ?_; refine Hid.out ?_)
  refine Lib.hid ?_
  go_wp2_with (refine wpList_ld (op := ⟨some 127, _, _, _, _, _⟩) (by rfl) 32 (.tmp 25) rfl N12 0 rfl (pvC 0 0 Z0) _ K25.out.all Try.underlying32 rfl (hi_pv 0 0 Z0) ?_; refine Hid.out ?_)
  refine Lib.hid ?_
  go_wp2_with (refine wpList_ld (op := ⟨some 128, _, _, _, _, _⟩) (by rfl) 32 (.tmp 29) rfl N15 0 rfl (pvC 0 0 Z0) _ K29.out.all Try.underlying32 rfl (hi_pv 0 0 Z0) ?_; refine Hid.out ?_)
  refine Lib.hid ?_
  go_wp2_with (refine wpList_gv (op := ⟨some 129, _, _, _, _, _⟩) (.bool true) (by rfl) (eql_same _ _ _ _ rfl 0 0 Z0 (fun j => show (0 : Int) ≤ 0 ∧ (0 : Int) ≤ 255 from by omega) rfl rfl _) ?_; refine Hid.out ?_)
  refine Lib.hid ?_
  go_wp2_with (refine wpList_gv (op := ⟨some 144, _, _, _, _, _⟩) (.bool true) (by rfl) (eqI_run _ _ _ _ _ rfl E2 rfl rfl _) ?_; refine Hid.out ?_)
  refine Lib.hid ?_
  go_wp2
  first | exact ⟨.bool true, by simp [results, Try.f18, go_sem], rfl, HB.out⟩ | exact bodyPost_ret (v := .bool true) (by simp [results, Try.f18, go_sem]) rfl ⟨rfl, HB.out⟩
end Go.Proofs.Ytjnbemopfhinbaa
