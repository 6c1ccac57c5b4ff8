/- Find and List of the program's trie. Each theorem states its conditions. -/
import Derived.Test.YtjnbemopfhinbaaTrT
namespace Go.Proofs.Ytjnbemopfhinbaa
open Go.RowKit
set_option linter.unusedVariables false
set_option linter.unusedSimpArgs false

def lenB (pl : Bool) : Nat := if pl then 128 else 32
theorem whole_form {z : Nat → Int} (hz : Bytes z) (pl : Bool) : Form (famB pl) (lenB pl) (firstZ z (lenB pl)) := by
  refine (form_same _ _ _).2 ⟨?_, ?_⟩
  · cases pl
    · left; simp [famB, lenB]
    · right; simp [famB, lenB]
  · exact first_first z hz _ _ (Nat.le_refl _)
theorem eql_u8 (o : Oper) (e : Operand → Value) (x : Operand) (k : Int) (ho : o.op = .binOp .eql 5 x (.const (.int .u8 k)) 5) (a : Int) (b : Bool) (hb : decide (a = k) = b) (h0 : e x = .int .u8 a) (hc : e (.const (.int .u8 k)) = .int .u8 k) (W : World) : (execOp e o).run Try.prog W = .ok (.value (.bool b)) W := by
  subst hb
  unfold execOp
  simp only [ho, h0, hc]
  by_cases h : a = k
  · subst h; simp [go_sem]
  · have h2 : (a == k) = false := by simp [h]
    simp [go_sem, h, h2]
theorem build_pv0 (o : Oper) (e : Operand → Value) (ho : o.op = .build 32 #[]) (W : World) : (execOp e o).run Try.prog W = .ok (.value (.agg (pvC 0 0 Z0))) W := by
  unfold execOp
  simp only [ho]
  kernel_rfl
def findV (fam : Int) : Option Fd → Value
  | none => .tuple #[.agg (pvC 0 0 Z0), .int .i64 0, .bool false, .int .i64 0]
  | some f => .tuple #[.agg (pvC fam f.n f.z), .int .i64 f.v, .bool true, .int .i64 0]
theorem nd_not {w : World} {g : Nat} {t : TypeId} {C : Array Value} (h : Blk t w g C) (ht : t ≠ 106) {fam : Int} : ∀ {T : Ht}, T.At w fam → g ∉ T.fp
  | .nil, _ => by simp [Ht.fp]
  | .nd g1 n z v l r, hA => fun hm => by
    rcases mem_nd.1 hm with h1 | h1 | h1
    · subst h1
      have h2 : w.heap[g]? = _ := h
      have h3 : w.heap[g]? = _ := hA.1
      rw [h2] at h3
      injection h3 with h3
      injection h3 with _ h3 _
      exact ht h3
    · exact nd_not h ht hA.2.2.2.1 h1
    · exact nd_not h ht hA.2.2.2.2 h1
theorem ts_not {w : World} {g : Nat} {t : TypeId} {C : Array Value} (h : Blk t w g C) (ht : t ≠ 106) {B s : Nat} {T : Ts} (hT : TsAt w B s T) : g ∉ T.fp := fun hm => by
  rcases List.mem_append.1 hm with h1 | h1
  · exact nd_not h ht hT.a4 h1
  · exact nd_not h ht hT.a6 h1
theorem ts_far {w w' : World} {g : Nat} {C C' : Array Value} {B s : Nat} {T : Ts} (hT : TsAt w B s T) (h : Blk 32 w g C) (q : Stored w w' g C' 32) : TsAt w' B s T := by
  have h1 := ts_not h (by decide) hT
  refine hT.kp (S := [g]) ((Kp.refl _ w).st q (.inl (by simp))) (fun e => ?_) (fun x hx e => h1 (List.mem_singleton.1 e ▸ hx))
  have e := List.mem_singleton.1 e
  subst e
  have h2 : w.heap[s]? = _ := h
  have h3 : w.heap[s]? = _ := hT.blk
  rw [h2] at h3
  injection h3 with h3
  injection h3 with _ h3 _
  exact absurd h3 (by decide)
theorem results_4 {fn : Func} {p q r s : Tmp} {t : TypeId} (h : fn.results = #[.cell p t, .tmp q, .tmp r, .tmp s]) (tmps : Array Value) (W : World) (g : Nat) (C : Array Value) (a b c : Value) {d : TypeDesc} (hu : Try.prog.underlying t = some d) (hd : d.isRow = true) (hi : (Try.prog.info? t).map (·.size) = some C.size)
    (hp : tmps.getD p undef = .pointer (some ⟨g, 0, none⟩)) (hq : tmps.getD q undef = a) (hr : tmps.getD r undef = b) (hs : tmps.getD s undef = c) (hg : Blk t W g C) : (results fn tmps).run Try.prog W = .ok (.tuple #[.agg C, a, b, c]) W := by
  have h1 := run_loadVar_mid (P := Try.prog) W g 0 t C.toList _ hg.all hu hd (by simpa using hi)
  have hp' : (tmps[p]?).getD undef = .pointer (some ⟨g, 0, none⟩) := by simpa using hp
  have hq' : (tmps[q]?).getD undef = a := by simpa using hq
  have hr' : (tmps[r]?).getD undef = b := by simpa using hr
  have hs' : (tmps[s]?).getD undef = c := by simpa using hs
  simp only [results, h]
  simp [hp', hq', hr', hs', asAddr, h1]
set_option maxHeartbeats 16000000 in
set_option maxRecDepth 100000 in
theorem whole_bad (fam : Int) (z : Nat → Int) (hf : fam ≠ 4 ∧ fam ≠ 6) (w : World) : Calls Try.prog 52 #[.int .u8 fam, .agg (agC z)] w fun e w' => e = .returned (.tuple #[.agg (pvC 0 0 Z0), .int .i64 1]) ∧ Below w.heap.size w w' := by
  have HF := Lib.hid hf
  clear hf
  go_enter Try.func52, Try.ntmps52
  have HB := Lib.hid (Below.refl w.heap.size w)
  obtain ⟨N1, hN1⟩ : ∃ N, w.heap.size = N := ⟨_, rfl⟩
  have HN1 := Lib.hid hN1
  clear hN1
  go_wp2_with (refine wpList_box (op := ⟨some 3, _, _, _, _, _⟩) rfl 23 (.tmp 1) rfl (agC z) rfl N1 HN1.out ?_; intro w1 k1 b1 s1; refine Hid.out ?_)
  refine Lib.hid ?_
  have K3 := Lib.hid k1
  clear k1
  have le_HB_N1 : w.heap.size ≤ N1 := by rw [← HN1.out]; exact HB.out.size
  have HBn := Lib.hid (HB.out.trans (b1.mono HB.out.size))
  clear HB
  have HB := HBn
  clear HBn
  clear b1 HN1
  obtain ⟨N2, hN2⟩ : ∃ N, w1.heap.size = N := ⟨_, rfl⟩
  have HN2 := Lib.hid hN2
  clear hN2
  go_wp2_with (refine wpList_new (op := ⟨some 4, _, _, _, _, _⟩) rfl 32 rfl (pvC 0 0 Z0) zero_pvT N2 HN2.out ?_; intro w2 k1 b1 s1; refine Hid.out ?_)
  refine Lib.hid ?_
  have K4 := Lib.hid k1
  clear k1
  have lt_N1_N2 : N1 < N2 := by rw [← HN2.out]; exact K3.out.lt
  have le_HB_N2 : w.heap.size ≤ N2 := by rw [← HN2.out]; exact HB.out.size
  have K3n := Lib.hid (K3.out.below b1 K3.out.lt)
  clear K3
  have K3 := K3n
  clear K3n
  have HBn := Lib.hid (HB.out.trans (b1.mono HB.out.size))
  clear HB
  have HB := HBn
  clear HBn
  clear b1 HN2
  go_wp2_with (refine wpList_v (op := ⟨some 10, _, _, _, _, _⟩) rfl (.bool false) (eql_u8 _ _ _ 4 rfl fam false (decide_eq_false HF.out.1) rfl rfl _) ?_; refine Hid.out ?_)
  refine Lib.hid ?_
  go_wp2_with (refine wpList_v (op := ⟨some 12, _, _, _, _, _⟩) rfl (.bool false) (eql_u8 _ _ _ 6 rfl fam false (decide_eq_false HF.out.2) rfl rfl _) ?_; refine Hid.out ?_)
  refine Lib.hid ?_
  go_wp2_with (refine wpList_v (op := ⟨some 8, _, _, _, _, _⟩) rfl (.agg (pvC 0 0 Z0)) (build_pv0 _ _ rfl _) ?_; refine Hid.out ?_)
  refine Lib.hid ?_
  go_wp2_with (refine wpList_st rfl 32 (.tmp 4) (.tmp 8) rfl N2 0 rfl (.agg (pvC 0 0 Z0)) (pvC 0 0 Z0) rfl rfl info_pv (all_pv _ _ _) K4.out (Nat.le_of_ble_eq_true rfl) (C' := pvC 0 0 Z0) (pv_over _ _ _ _ _ _) ?_; intro w3 q1; refine Hid.out ?_)
  refine Lib.hid ?_
  have K3n := Lib.hid (K3.out.far q1 (by omega))
  clear K3
  have K3 := K3n
  clear K3n
  have HBn := Lib.hid (HB.out.trans (q1.2.1 _ (by omega)))
  clear HB
  have HB := HBn
  clear HBn
  have K4n : Hid (Blk 32 w3 N2 (pvC 0 0 Z0)) := Lib.hid q1.1
  clear K4
  have K4 := K4n
  clear K4n q1
  go_wp2_with fail
  exact bodyPost_ret (results_2 rfl _ _ N2 (pvC 0 0 Z0) (.int .i64 1) Try.underlying32 rfl info_pv rfl rfl K4.out) rfl ⟨rfl, HB.out⟩
set_option maxHeartbeats 16000000 in
set_option maxRecDepth 100000 in
theorem whole_4 (z : Nat → Int) (hz : Bytes z) (w : World) : Calls Try.prog 52 #[.int .u8 4, .agg (agC z)] w fun e w' => e = .returned (.tuple #[.agg (pvC 4 32 (firstZ z 32)), .int .i64 0]) ∧ Below w.heap.size w w' := by
  have HCU := Lib.hid (fun W => (cut_ok 4 32 32 z W hz (Nat.le_refl _) (by unfold Sized; omega) : Calls Try.prog 24 #[.agg (pvC 4 32 z), .int .i64 32] W fun e w' => e = .returned (.tuple #[.agg (pvC 4 32 (firstZ z 32)), .int .i64 0]) ∧ Below W.heap.size W w'))
  clear hz
  go_enter Try.func52, Try.ntmps52
  have HB := Lib.hid (Below.refl w.heap.size w)
  obtain ⟨N1, hN1⟩ : ∃ N, w.heap.size = N := ⟨_, rfl⟩
  have HN1 := Lib.hid hN1
  clear hN1
  go_wp2_with (refine wpList_box (op := ⟨some 3, _, _, _, _, _⟩) rfl 23 (.tmp 1) rfl (agC z) rfl N1 HN1.out ?_; intro w1 k1 b1 s1; refine Hid.out ?_)
  refine Lib.hid ?_
  have K3 := Lib.hid k1
  clear k1
  have le_HB_N1 : w.heap.size ≤ N1 := by rw [← HN1.out]; exact HB.out.size
  have HBn := Lib.hid (HB.out.trans (b1.mono HB.out.size))
  clear HB
  have HB := HBn
  clear HBn
  clear b1 HN1
  obtain ⟨N2, hN2⟩ : ∃ N, w1.heap.size = N := ⟨_, rfl⟩
  have HN2 := Lib.hid hN2
  clear hN2
  go_wp2_with (refine wpList_new (op := ⟨some 4, _, _, _, _, _⟩) rfl 32 rfl (pvC 0 0 Z0) zero_pvT N2 HN2.out ?_; intro w2 k1 b1 s1; refine Hid.out ?_)
  refine Lib.hid ?_
  have K4 := Lib.hid k1
  clear k1
  have lt_N1_N2 : N1 < N2 := by rw [← HN2.out]; exact K3.out.lt
  have le_HB_N2 : w.heap.size ≤ N2 := by rw [← HN2.out]; exact HB.out.size
  have K3n := Lib.hid (K3.out.below b1 K3.out.lt)
  clear K3
  have K3 := K3n
  clear K3n
  have HBn := Lib.hid (HB.out.trans (b1.mono HB.out.size))
  clear HB
  have HB := HBn
  clear HBn
  clear b1 HN2
  go_wp2_with (refine wpList_ld (op := ⟨some 15, _, _, _, _, _⟩) (by rfl) 23 (.tmp 3) rfl N1 0 rfl (agC z) _ K3.out.all Try.underlying23 rfl (hi_ag z) ?_; refine Hid.out ?_)
  refine Lib.hid ?_
  go_wp2_with (refine wpList_v (op := ⟨some 16, _, _, _, _, _⟩) rfl (.agg (pvC 4 32 z)) (build_pv _ _ _ _ _ rfl 4 32 z rfl rfl rfl _) ?_; refine Hid.out ?_)
  refine Lib.hid ?_
  go_wp2_with fail
  refine (HCU.out _).mono ?_
  rintro e w3 ⟨rfl, b1⟩
  have K3n := Lib.hid (K3.out.below b1 K3.out.lt)
  clear K3
  have K3 := K3n
  clear K3n
  have K4n := Lib.hid (K4.out.below b1 K4.out.lt)
  clear K4
  have K4 := K4n
  clear K4n
  have HBn := Lib.hid (HB.out.trans (b1.mono HB.out.size))
  clear HB
  have HB := HBn
  clear HBn
  clear b1
  go_wp2_with (refine wpList_st rfl 32 (.tmp 4) (.tmp 19) rfl N2 0 rfl (.agg (pvC 4 32 (firstZ z 32))) (pvC 4 32 (firstZ z 32)) rfl rfl info_pv (all_pv _ _ _) K4.out (Nat.le_of_ble_eq_true rfl) (C' := pvC 4 32 (firstZ z 32)) (pv_over _ _ _ _ _ _) ?_; intro w4 q1; refine Hid.out ?_)
  refine Lib.hid ?_
  have K3n := Lib.hid (K3.out.far q1 (by omega))
  clear K3
  have K3 := K3n
  clear K3n
  have HBn := Lib.hid (HB.out.trans (q1.2.1 _ (by omega)))
  clear HB
  have HB := HBn
  clear HBn
  have K4n : Hid (Blk 32 w4 N2 (pvC 4 32 (firstZ z 32))) := Lib.hid q1.1
  clear K4
  have K4 := K4n
  clear K4n q1
  go_wp2_with fail
  exact bodyPost_ret (results_2 rfl _ _ N2 (pvC 4 32 (firstZ z 32)) (.int .i64 0) Try.underlying32 rfl info_pv rfl rfl K4.out) rfl ⟨rfl, HB.out⟩
set_option maxHeartbeats 16000000 in
set_option maxRecDepth 100000 in
theorem whole_6 (z : Nat → Int) (hz : Bytes z) (w : World) : Calls Try.prog 52 #[.int .u8 6, .agg (agC z)] w fun e w' => e = .returned (.tuple #[.agg (pvC 6 128 (firstZ z 128)), .int .i64 0]) ∧ Below w.heap.size w w' := by
  have HCU := Lib.hid (fun W => (cut_ok 6 128 128 z W hz (Nat.le_refl _) (by unfold Sized; omega) : Calls Try.prog 24 #[.agg (pvC 6 128 z), .int .i64 128] W fun e w' => e = .returned (.tuple #[.agg (pvC 6 128 (firstZ z 128)), .int .i64 0]) ∧ Below W.heap.size W w'))
  clear hz
  go_enter Try.func52, Try.ntmps52
  have HB := Lib.hid (Below.refl w.heap.size w)
  obtain ⟨N1, hN1⟩ : ∃ N, w.heap.size = N := ⟨_, rfl⟩
  have HN1 := Lib.hid hN1
  clear hN1
  go_wp2_with (refine wpList_box (op := ⟨some 3, _, _, _, _, _⟩) rfl 23 (.tmp 1) rfl (agC z) rfl N1 HN1.out ?_; intro w1 k1 b1 s1; refine Hid.out ?_)
  refine Lib.hid ?_
  have K3 := Lib.hid k1
  clear k1
  have le_HB_N1 : w.heap.size ≤ N1 := by rw [← HN1.out]; exact HB.out.size
  have HBn := Lib.hid (HB.out.trans (b1.mono HB.out.size))
  clear HB
  have HB := HBn
  clear HBn
  clear b1 HN1
  obtain ⟨N2, hN2⟩ : ∃ N, w1.heap.size = N := ⟨_, rfl⟩
  have HN2 := Lib.hid hN2
  clear hN2
  go_wp2_with (refine wpList_new (op := ⟨some 4, _, _, _, _, _⟩) rfl 32 rfl (pvC 0 0 Z0) zero_pvT N2 HN2.out ?_; intro w2 k1 b1 s1; refine Hid.out ?_)
  refine Lib.hid ?_
  have K4 := Lib.hid k1
  clear k1
  have lt_N1_N2 : N1 < N2 := by rw [← HN2.out]; exact K3.out.lt
  have le_HB_N2 : w.heap.size ≤ N2 := by rw [← HN2.out]; exact HB.out.size
  have K3n := Lib.hid (K3.out.below b1 K3.out.lt)
  clear K3
  have K3 := K3n
  clear K3n
  have HBn := Lib.hid (HB.out.trans (b1.mono HB.out.size))
  clear HB
  have HB := HBn
  clear HBn
  clear b1 HN2
  go_wp2_with (refine wpList_ld (op := ⟨some 15, _, _, _, _, _⟩) (by rfl) 23 (.tmp 3) rfl N1 0 rfl (agC z) _ K3.out.all Try.underlying23 rfl (hi_ag z) ?_; refine Hid.out ?_)
  refine Lib.hid ?_
  go_wp2_with (refine wpList_v (op := ⟨some 16, _, _, _, _, _⟩) rfl (.agg (pvC 6 128 z)) (build_pv _ _ _ _ _ rfl 6 128 z rfl rfl rfl _) ?_; refine Hid.out ?_)
  refine Lib.hid ?_
  go_wp2_with fail
  refine (HCU.out _).mono ?_
  rintro e w3 ⟨rfl, b1⟩
  have K3n := Lib.hid (K3.out.below b1 K3.out.lt)
  clear K3
  have K3 := K3n
  clear K3n
  have K4n := Lib.hid (K4.out.below b1 K4.out.lt)
  clear K4
  have K4 := K4n
  clear K4n
  have HBn := Lib.hid (HB.out.trans (b1.mono HB.out.size))
  clear HB
  have HB := HBn
  clear HBn
  clear b1
  go_wp2_with (refine wpList_st rfl 32 (.tmp 4) (.tmp 19) rfl N2 0 rfl (.agg (pvC 6 128 (firstZ z 128))) (pvC 6 128 (firstZ z 128)) rfl rfl info_pv (all_pv _ _ _) K4.out (Nat.le_of_ble_eq_true rfl) (C' := pvC 6 128 (firstZ z 128)) (pv_over _ _ _ _ _ _) ?_; intro w4 q1; refine Hid.out ?_)
  refine Lib.hid ?_
  have K3n := Lib.hid (K3.out.far q1 (by omega))
  clear K3
  have K3 := K3n
  clear K3n
  have HBn := Lib.hid (HB.out.trans (q1.2.1 _ (by omega)))
  clear HB
  have HB := HBn
  clear HBn
  have K4n : Hid (Blk 32 w4 N2 (pvC 6 128 (firstZ z 128))) := Lib.hid q1.1
  clear K4
  have K4 := K4n
  clear K4n q1
  go_wp2_with fail
  exact bodyPost_ret (results_2 rfl _ _ N2 (pvC 6 128 (firstZ z 128)) (.int .i64 0) Try.underlying32 rfl info_pv rfl rfl K4.out) rfl ⟨rfl, HB.out⟩
set_option maxHeartbeats 16000000 in
set_option maxRecDepth 100000 in
theorem find_bad (q : Option Addr) (fam : Int) (z : Nat → Int) (hf : fam ≠ 4 ∧ fam ≠ 6) (w : World) : Calls Try.prog 23 #[.pointer q, .int .u8 fam, .agg (agC z)] w fun e w' => e = .returned (.tuple #[.agg (pvC 0 0 Z0), .int .i64 0, .bool false, .int .i64 1]) ∧ Below w.heap.size w w' := by
  have HWH := Lib.hid (fun W => whole_bad fam z hf W)
  clear hf
  go_enter Try.func23, Try.ntmps23
  have HB := Lib.hid (Below.refl w.heap.size w)
  obtain ⟨N1, hN1⟩ : ∃ N, w.heap.size = N := ⟨_, rfl⟩
  have HN1 := Lib.hid hN1
  clear hN1
  go_wp2_with (refine wpList_box (op := ⟨some 5, _, _, _, _, _⟩) rfl 23 (.tmp 2) rfl (agC z) rfl N1 HN1.out ?_; intro w1 k1 b1 s1; refine Hid.out ?_)
  refine Lib.hid ?_
  have K5 := Lib.hid k1
  clear k1
  have le_HB_N1 : w.heap.size ≤ N1 := by rw [← HN1.out]; exact HB.out.size
  have HBn := Lib.hid (HB.out.trans (b1.mono HB.out.size))
  clear HB
  have HB := HBn
  clear HBn
  clear b1 HN1
  obtain ⟨N2, hN2⟩ : ∃ N, w1.heap.size = N := ⟨_, rfl⟩
  have HN2 := Lib.hid hN2
  clear hN2
  go_wp2_with (refine wpList_new (op := ⟨some 6, _, _, _, _, _⟩) rfl 32 rfl (pvC 0 0 Z0) zero_pvT N2 HN2.out ?_; intro w2 k1 b1 s1; refine Hid.out ?_)
  refine Lib.hid ?_
  have K6 := Lib.hid k1
  clear k1
  have lt_N1_N2 : N1 < N2 := by rw [← HN2.out]; exact K5.out.lt
  have le_HB_N2 : w.heap.size ≤ N2 := by rw [← HN2.out]; exact HB.out.size
  have K5n := Lib.hid (K5.out.below b1 K5.out.lt)
  clear K5
  have K5 := K5n
  clear K5n
  have HBn := Lib.hid (HB.out.trans (b1.mono HB.out.size))
  clear HB
  have HB := HBn
  clear HBn
  clear b1 HN2
  go_wp2_with (refine wpList_ld (op := ⟨some 15, _, _, _, _, _⟩) (by rfl) 23 (.tmp 5) rfl N1 0 rfl (agC z) _ K5.out.all Try.underlying23 rfl (hi_ag z) ?_; refine Hid.out ?_)
  refine Lib.hid ?_
  go_wp2_with fail
  refine (HWH.out _).mono ?_
  rintro e w3 ⟨rfl, b1⟩
  have K5n := Lib.hid (K5.out.below b1 K5.out.lt)
  clear K5
  have K5 := K5n
  clear K5n
  have K6n := Lib.hid (K6.out.below b1 K6.out.lt)
  clear K6
  have K6 := K6n
  clear K6n
  have HBn := Lib.hid (HB.out.trans (b1.mono HB.out.size))
  clear HB
  have HB := HBn
  clear HBn
  clear b1
  obtain ⟨N4, hN4⟩ : ∃ N, w3.heap.size = N := ⟨_, rfl⟩
  have HN4 := Lib.hid hN4
  clear hN4
  go_wp2_with (refine wpList_new (op := ⟨some 10, _, _, _, _, _⟩) rfl 32 rfl (pvC 0 0 Z0) zero_pvT N4 HN4.out ?_; intro w4 k1 b1 s1; refine Hid.out ?_)
  refine Lib.hid ?_
  have K10 := Lib.hid k1
  clear k1
  have lt_N1_N4 : N1 < N4 := by rw [← HN4.out]; exact K5.out.lt
  have lt_N2_N4 : N2 < N4 := by rw [← HN4.out]; exact K6.out.lt
  have le_HB_N4 : w.heap.size ≤ N4 := by rw [← HN4.out]; exact HB.out.size
  have K5n := Lib.hid (K5.out.below b1 K5.out.lt)
  clear K5
  have K5 := K5n
  clear K5n
  have K6n := Lib.hid (K6.out.below b1 K6.out.lt)
  clear K6
  have K6 := K6n
  clear K6n
  have HBn := Lib.hid (HB.out.trans (b1.mono HB.out.size))
  clear HB
  have HB := HBn
  clear HBn
  clear b1 HN4
  go_wp2_with (refine wpList_st rfl 32 (.tmp 10) (.tmp 17) rfl N4 0 rfl (.agg (pvC 0 0 Z0)) (pvC 0 0 Z0) rfl rfl info_pv (all_pv _ _ _) K10.out (Nat.le_of_ble_eq_true rfl) (C' := pvC 0 0 Z0) (pv_over _ _ _ _ _ _) ?_; intro w5 q1; refine Hid.out ?_)
  refine Lib.hid ?_
  have K5n := Lib.hid (K5.out.far q1 (by omega))
  clear K5
  have K5 := K5n
  clear K5n
  have K6n := Lib.hid (K6.out.far q1 (by omega))
  clear K6
  have K6 := K6n
  clear K6n
  have HBn := Lib.hid (HB.out.trans (q1.2.1 _ (by omega)))
  clear HB
  have HB := HBn
  clear HBn
  have K10n : Hid (Blk 32 w5 N4 (pvC 0 0 Z0)) := Lib.hid q1.1
  clear K10
  have K10 := K10n
  clear K10n q1
  go_wp2_with (refine wpList_v (op := ⟨some 21, _, _, _, _, _⟩) rfl (.agg (pvC 0 0 Z0)) (build_pv0 _ _ rfl _) ?_; refine Hid.out ?_)
  refine Lib.hid ?_
  go_wp2_with (refine wpList_st rfl 32 (.tmp 6) (.tmp 21) rfl N2 0 rfl (.agg (pvC 0 0 Z0)) (pvC 0 0 Z0) rfl rfl info_pv (all_pv _ _ _) K6.out (Nat.le_of_ble_eq_true rfl) (C' := pvC 0 0 Z0) (pv_over _ _ _ _ _ _) ?_; intro w6 q1; refine Hid.out ?_)
  refine Lib.hid ?_
  have K5n := Lib.hid (K5.out.far q1 (by omega))
  clear K5
  have K5 := K5n
  clear K5n
  have K10n := Lib.hid (K10.out.far q1 (by omega))
  clear K10
  have K10 := K10n
  clear K10n
  have HBn := Lib.hid (HB.out.trans (q1.2.1 _ (by omega)))
  clear HB
  have HB := HBn
  clear HBn
  have K6n : Hid (Blk 32 w6 N2 (pvC 0 0 Z0)) := Lib.hid q1.1
  clear K6
  have K6 := K6n
  clear K6n q1
  go_wp2_with fail
  exact bodyPost_ret (results_4 rfl _ _ N2 (pvC 0 0 Z0) (.int .i64 0) (.bool false) (.int .i64 1) Try.underlying32 rfl info_pv rfl rfl rfl rfl K6.out) rfl ⟨rfl, HB.out⟩
set_option maxHeartbeats 16000000 in
set_option maxRecDepth 100000 in
theorem find_nil4 (z : Nat → Int) (hz : Bytes z) (w : World) : Calls Try.prog 23 #[.pointer none, .int .u8 4, .agg (agC z)] w fun e w' => e = .returned (.tuple #[.agg (pvC 0 0 Z0), .int .i64 0, .bool false, .int .i64 6]) ∧ Below w.heap.size w w' := by
  have HWH := Lib.hid (fun W => whole_4 z hz W)
  clear hz
  go_enter Try.func23, Try.ntmps23
  have HB := Lib.hid (Below.refl w.heap.size w)
  obtain ⟨N1, hN1⟩ : ∃ N, w.heap.size = N := ⟨_, rfl⟩
  have HN1 := Lib.hid hN1
  clear hN1
  go_wp2_with (refine wpList_box (op := ⟨some 5, _, _, _, _, _⟩) rfl 23 (.tmp 2) rfl (agC z) rfl N1 HN1.out ?_; intro w1 k1 b1 s1; refine Hid.out ?_)
  refine Lib.hid ?_
  have K5 := Lib.hid k1
  clear k1
  have le_HB_N1 : w.heap.size ≤ N1 := by rw [← HN1.out]; exact HB.out.size
  have HBn := Lib.hid (HB.out.trans (b1.mono HB.out.size))
  clear HB
  have HB := HBn
  clear HBn
  clear b1 HN1
  obtain ⟨N2, hN2⟩ : ∃ N, w1.heap.size = N := ⟨_, rfl⟩
  have HN2 := Lib.hid hN2
  clear hN2
  go_wp2_with (refine wpList_new (op := ⟨some 6, _, _, _, _, _⟩) rfl 32 rfl (pvC 0 0 Z0) zero_pvT N2 HN2.out ?_; intro w2 k1 b1 s1; refine Hid.out ?_)
  refine Lib.hid ?_
  have K6 := Lib.hid k1
  clear k1
  have lt_N1_N2 : N1 < N2 := by rw [← HN2.out]; exact K5.out.lt
  have le_HB_N2 : w.heap.size ≤ N2 := by rw [← HN2.out]; exact HB.out.size
  have K5n := Lib.hid (K5.out.below b1 K5.out.lt)
  clear K5
  have K5 := K5n
  clear K5n
  have HBn := Lib.hid (HB.out.trans (b1.mono HB.out.size))
  clear HB
  have HB := HBn
  clear HBn
  clear b1 HN2
  go_wp2_with (refine wpList_ld (op := ⟨some 15, _, _, _, _, _⟩) (by rfl) 23 (.tmp 5) rfl N1 0 rfl (agC z) _ K5.out.all Try.underlying23 rfl (hi_ag z) ?_; refine Hid.out ?_)
  refine Lib.hid ?_
  go_wp2_with fail
  refine (HWH.out _).mono ?_
  rintro e w3 ⟨rfl, b1⟩
  have K5n := Lib.hid (K5.out.below b1 K5.out.lt)
  clear K5
  have K5 := K5n
  clear K5n
  have K6n := Lib.hid (K6.out.below b1 K6.out.lt)
  clear K6
  have K6 := K6n
  clear K6n
  have HBn := Lib.hid (HB.out.trans (b1.mono HB.out.size))
  clear HB
  have HB := HBn
  clear HBn
  clear b1
  obtain ⟨N4, hN4⟩ : ∃ N, w3.heap.size = N := ⟨_, rfl⟩
  have HN4 := Lib.hid hN4
  clear hN4
  go_wp2_with (refine wpList_new (op := ⟨some 10, _, _, _, _, _⟩) rfl 32 rfl (pvC 0 0 Z0) zero_pvT N4 HN4.out ?_; intro w4 k1 b1 s1; refine Hid.out ?_)
  refine Lib.hid ?_
  have K10 := Lib.hid k1
  clear k1
  have lt_N1_N4 : N1 < N4 := by rw [← HN4.out]; exact K5.out.lt
  have lt_N2_N4 : N2 < N4 := by rw [← HN4.out]; exact K6.out.lt
  have le_HB_N4 : w.heap.size ≤ N4 := by rw [← HN4.out]; exact HB.out.size
  have K5n := Lib.hid (K5.out.below b1 K5.out.lt)
  clear K5
  have K5 := K5n
  clear K5n
  have K6n := Lib.hid (K6.out.below b1 K6.out.lt)
  clear K6
  have K6 := K6n
  clear K6n
  have HBn := Lib.hid (HB.out.trans (b1.mono HB.out.size))
  clear HB
  have HB := HBn
  clear HBn
  clear b1 HN4
  go_wp2_with (refine wpList_st rfl 32 (.tmp 10) (.tmp 17) rfl N4 0 rfl (.agg (pvC 4 32 (firstZ z 32))) (pvC 4 32 (firstZ z 32)) rfl rfl info_pv (all_pv _ _ _) K10.out (Nat.le_of_ble_eq_true rfl) (C' := pvC 4 32 (firstZ z 32)) (pv_over _ _ _ _ _ _) ?_; intro w5 q1; refine Hid.out ?_)
  refine Lib.hid ?_
  have K5n := Lib.hid (K5.out.far q1 (by omega))
  clear K5
  have K5 := K5n
  clear K5n
  have K6n := Lib.hid (K6.out.far q1 (by omega))
  clear K6
  have K6 := K6n
  clear K6n
  have HBn := Lib.hid (HB.out.trans (q1.2.1 _ (by omega)))
  clear HB
  have HB := HBn
  clear HBn
  have K10n : Hid (Blk 32 w5 N4 (pvC 4 32 (firstZ z 32))) := Lib.hid q1.1
  clear K10
  have K10 := K10n
  clear K10n q1
  go_wp2_with (refine wpList_v (op := ⟨some 25, _, _, _, _, _⟩) rfl (.agg (pvC 0 0 Z0)) (build_pv0 _ _ rfl _) ?_; refine Hid.out ?_)
  refine Lib.hid ?_
  go_wp2_with (refine wpList_st rfl 32 (.tmp 6) (.tmp 25) rfl N2 0 rfl (.agg (pvC 0 0 Z0)) (pvC 0 0 Z0) rfl rfl info_pv (all_pv _ _ _) K6.out (Nat.le_of_ble_eq_true rfl) (C' := pvC 0 0 Z0) (pv_over _ _ _ _ _ _) ?_; intro w6 q1; refine Hid.out ?_)
  refine Lib.hid ?_
  have K5n := Lib.hid (K5.out.far q1 (by omega))
  clear K5
  have K5 := K5n
  clear K5n
  have K10n := Lib.hid (K10.out.far q1 (by omega))
  clear K10
  have K10 := K10n
  clear K10n
  have HBn := Lib.hid (HB.out.trans (q1.2.1 _ (by omega)))
  clear HB
  have HB := HBn
  clear HBn
  have K6n : Hid (Blk 32 w6 N2 (pvC 0 0 Z0)) := Lib.hid q1.1
  clear K6
  have K6 := K6n
  clear K6n q1
  go_wp2_with fail
  exact bodyPost_ret (results_4 rfl _ _ N2 (pvC 0 0 Z0) (.int .i64 0) (.bool false) (.int .i64 6) Try.underlying32 rfl info_pv rfl rfl rfl rfl K6.out) rfl ⟨rfl, HB.out⟩
set_option maxHeartbeats 16000000 in
set_option maxRecDepth 100000 in
theorem find_4 (B s : Nat) (T : Ts) (z : Nat → Int) (hz : Bytes z) (w : World) (hT : TsAt w B s T) : Calls Try.prog 23 #[.pointer (some ⟨s, 0, none⟩), .int .u8 4, .agg (agC z)] w fun e w' => ∃ f : Option Fd, e = .returned (findV 4 f) ∧ Below w.heap.size w w' ∧ fbit f = Tr.lng (btP 32 (firstZ z 32)) T.h4.bits none ∧ ∀ x, f = some x → Bytes x.z ∧ Form 4 x.n x.z := by
  have HWH := Lib.hid (fun W => whole_4 z hz W)
  have HPL := Lib.hid (fun W => place_any false W)
  have HLG := Lib.hid (fun W hW => (longest_any 4 32 (firstZ z 32) (firstZ_bd hz _) (whole_form hz false) T.h4 W hW : Calls Try.prog 53 #[T.h4.root, .agg (pvC 4 32 (firstZ z 32))] W (LongP W 4 (Tr.lng (btP 32 (firstZ z 32)) T.h4.bits none))))
  obtain ⟨R, hR⟩ : ∃ R, Tr.lng (btP 32 (firstZ z 32)) T.h4.bits none = R := ⟨_, rfl⟩
  rw [hR] at HLG ⊢
  have HT := Lib.hid hT
  clear hz hT hR
  go_enter Try.func23, Try.ntmps23
  have HB := Lib.hid (Below.refl w.heap.size w)
  obtain ⟨N1, hN1⟩ : ∃ N, w.heap.size = N := ⟨_, rfl⟩
  have HN1 := Lib.hid hN1
  clear hN1
  go_wp2_with (refine wpList_box (op := ⟨some 5, _, _, _, _, _⟩) rfl 23 (.tmp 2) rfl (agC z) rfl N1 HN1.out ?_; intro w1 k1 b1 s1; refine Hid.out ?_)
  refine Lib.hid ?_
  have K5 := Lib.hid k1
  clear k1
  have le_HB_N1 : w.heap.size ≤ N1 := by rw [← HN1.out]; exact HB.out.size
  have HBn := Lib.hid (HB.out.trans (b1.mono HB.out.size))
  clear HB
  have HB := HBn
  clear HBn
  have HTn := Lib.hid (HT.out.below b1 HT.out.lt)
  clear HT
  have HT := HTn
  clear HTn
  clear b1 HN1
  obtain ⟨N2, hN2⟩ : ∃ N, w1.heap.size = N := ⟨_, rfl⟩
  have HN2 := Lib.hid hN2
  clear hN2
  go_wp2_with (refine wpList_new (op := ⟨some 6, _, _, _, _, _⟩) rfl 32 rfl (pvC 0 0 Z0) zero_pvT N2 HN2.out ?_; intro w2 k1 b1 s1; refine Hid.out ?_)
  refine Lib.hid ?_
  have K6 := Lib.hid k1
  clear k1
  have lt_N1_N2 : N1 < N2 := by rw [← HN2.out]; exact K5.out.lt
  have le_HB_N2 : w.heap.size ≤ N2 := by rw [← HN2.out]; exact HB.out.size
  have K5n := Lib.hid (K5.out.below b1 K5.out.lt)
  clear K5
  have K5 := K5n
  clear K5n
  have HBn := Lib.hid (HB.out.trans (b1.mono HB.out.size))
  clear HB
  have HB := HBn
  clear HBn
  have HTn := Lib.hid (HT.out.below b1 HT.out.lt)
  clear HT
  have HT := HTn
  clear HTn
  clear b1 HN2
  go_wp2_with (refine wpList_ld (op := ⟨some 15, _, _, _, _, _⟩) (by rfl) 23 (.tmp 5) rfl N1 0 rfl (agC z) _ K5.out.all Try.underlying23 rfl (hi_ag z) ?_; refine Hid.out ?_)
  refine Lib.hid ?_
  go_wp2_with fail
  refine (HWH.out _).mono ?_
  rintro e w3 ⟨rfl, b1⟩
  have K5n := Lib.hid (K5.out.below b1 K5.out.lt)
  clear K5
  have K5 := K5n
  clear K5n
  have K6n := Lib.hid (K6.out.below b1 K6.out.lt)
  clear K6
  have K6 := K6n
  clear K6n
  have HBn := Lib.hid (HB.out.trans (b1.mono HB.out.size))
  clear HB
  have HB := HBn
  clear HBn
  have HTn := Lib.hid (HT.out.below b1 HT.out.lt)
  clear HT
  have HT := HTn
  clear HTn
  clear b1
  have HTL := Lib.hid HT.out.fpl
  have HSL := Lib.hid HT.out.lt
  obtain ⟨N4, hN4⟩ : ∃ N, w3.heap.size = N := ⟨_, rfl⟩
  have HN4 := Lib.hid hN4
  clear hN4
  go_wp2_with (refine wpList_new (op := ⟨some 10, _, _, _, _, _⟩) rfl 32 rfl (pvC 0 0 Z0) zero_pvT N4 HN4.out ?_; intro w4 k1 b1 s1; refine Hid.out ?_)
  refine Lib.hid ?_
  have K10 := Lib.hid k1
  clear k1
  have lt_N1_N4 : N1 < N4 := by rw [← HN4.out]; exact K5.out.lt
  have lt_N2_N4 : N2 < N4 := by rw [← HN4.out]; exact K6.out.lt
  have le_HB_N4 : w.heap.size ≤ N4 := by rw [← HN4.out]; exact HB.out.size
  have K5n := Lib.hid (K5.out.below b1 K5.out.lt)
  clear K5
  have K5 := K5n
  clear K5n
  have K6n := Lib.hid (K6.out.below b1 K6.out.lt)
  clear K6
  have K6 := K6n
  clear K6n
  have HBn := Lib.hid (HB.out.trans (b1.mono HB.out.size))
  clear HB
  have HB := HBn
  clear HBn
  have HTn := Lib.hid (HT.out.below b1 HT.out.lt)
  clear HT
  have HT := HTn
  clear HTn
  clear b1 HN4
  have ltT : w4.heap.size = w4.heap.size := rfl
  go_wp2_with (refine wpList_st rfl 32 (.tmp 10) (.tmp 17) rfl N4 0 rfl (.agg (pvC 4 32 (firstZ z 32))) (pvC 4 32 (firstZ z 32)) rfl rfl info_pv (all_pv _ _ _) K10.out (Nat.le_of_ble_eq_true rfl) (C' := pvC 4 32 (firstZ z 32)) (pv_over _ _ _ _ _ _) ?_; intro w5 q1; refine Hid.out ?_)
  refine Lib.hid ?_
  have HTn := Lib.hid (ts_far HT.out K10.out q1)
  clear HT
  have HT := HTn
  clear HTn
  have K5n := Lib.hid (K5.out.far q1 (by omega))
  clear K5
  have K5 := K5n
  clear K5n
  have K6n := Lib.hid (K6.out.far q1 (by omega))
  clear K6
  have K6 := K6n
  clear K6n
  have HBn := Lib.hid (HB.out.trans (q1.2.1 _ (by omega)))
  clear HB
  have HB := HBn
  clear HBn
  have K10n : Hid (Blk 32 w5 N4 (pvC 4 32 (firstZ z 32))) := Lib.hid q1.1
  clear K10
  have K10 := K10n
  clear K10n q1
  go_wp2_with (refine wpList_v (op := ⟨some 24, _, _, _, _, _⟩) rfl (.bool false) (eql_nil _ _ _ rfl s _ rfl rfl) ?_; refine Hid.out ?_)
  refine Lib.hid ?_
  go_wp2_with fail
  have KS := Lib.hid HT.out.blk
  have HTd := Lib.hid HT.out.drew
  clear HT
  refine wp_region_held_drew (S := fun w' => Blk 23 w' N1 (agC z) ∧ Blk 32 w' N2 (pvC 0 0 Z0) ∧ Blk 32 w' N4 (pvC 4 32 (firstZ z 32)) ∧ Blk 90 w' s (tsC T) ∧ Below w.heap.size w w') (by kernel_rfl) ⟨K5.out, K6.out, K10.out, KS.out, HB.out.drew⟩ (fun hS => ?_)
  generalize hW6 : w5.drew = W6 at hS HTd ⊢
  clear hW6
  clear K5
  clear K6
  clear K10
  clear KS
  clear HB
  have HT := HTd
  clear HTd
  have K5 := Lib.hid hS.1
  have K6 := Lib.hid hS.2.1
  have K10 := Lib.hid hS.2.2.1
  have KS := Lib.hid hS.2.2.2.1
  have HB := Lib.hid hS.2.2.2.2
  refine takeY (i := 0) (some 26) (v := .pointer (some ⟨s, 0, none⟩)) rfl rfl (by kernel_rfl) (by kernel_rfl) (by kernel_rfl) (fun _ _ _ h => h) (by rfl) (fun w' hS => by clear hS; go_simp) hS ?_
  simp only [Act.put, List.setIfInBounds_toArray, List.set_cons_zero, List.set_cons_succ]
  refine takeY (i := 1) (some 27) (v := .int .u8 4) rfl rfl (by kernel_rfl) (by kernel_rfl) (by kernel_rfl) (fun _ _ _ h => h) (by rfl) (fun w' hS => by clear hS; go_simp) hS ?_
  simp only [Act.put, List.setIfInBounds_toArray, List.set_cons_zero, List.set_cons_succ]
  refine takeY (i := 3) (some 29) (v := .pointer (some ⟨s, 0, none⟩)) rfl rfl (by kernel_rfl) (by kernel_rfl) (by kernel_rfl) (fun _ _ _ h => h) (by rfl) (fun w' hS => by clear hS; go_simp) hS ?_
  simp only [Act.put, List.setIfInBounds_toArray, List.set_cons_zero, List.set_cons_succ]
  refine takeY (i := 4) (some 30) (v := .pointer (some ⟨s, 0, none⟩)) rfl rfl (by kernel_rfl) (by kernel_rfl) (by kernel_rfl) (fun _ _ _ h => h) (by rfl) (fun w' hS => by clear hS; go_simp) hS ?_
  simp only [Act.put, List.setIfInBounds_toArray, List.set_cons_zero, List.set_cons_succ]
  refine takeL (i := 7) (some 33) 32 (.tmp 10) N4 0 (pvC 4 32 (firstZ z 32)) _ rfl rfl (by kernel_rfl) (by kernel_rfl) (by kernel_rfl) (fun _ _ _ h => h) (by rfl) rfl rfl (fun w' hS => hS.2.2.1.all) Try.underlying32 rfl (hi_pv 4 (32 : Int) (firstZ z 32)) hS ?_
  simp only [Act.put, List.setIfInBounds_toArray, List.set_cons_zero, List.set_cons_succ]
  refine takeC (i := 2) (some 28) 43 #[.int .u8 4] (.int .i64 0) (R := fun w' => W6 = w') rfl rfl (by kernel_rfl) (by rfl) (by go_simp) (HPL.out _) (fun w' hb => hb ▸ hS) (fun W7 hb1 hS2 => ?_)
  subst hb1
  clear hS2
  simp only [Act.put, List.setIfInBounds_toArray, List.set_cons_zero, List.set_cons_succ]
  refine takeY (i := 5) (some 31) (v := .pointer (some ⟨s, 0, none⟩)) rfl rfl (by kernel_rfl) (by kernel_rfl) (by kernel_rfl) (fun _ _ _ h => h) (by rfl) (fun w' hS => by clear hS; go_simp) hS ?_
  simp only [Act.put, List.setIfInBounds_toArray, List.set_cons_zero, List.set_cons_succ]
  refine takeY (i := 6) (some 32) (v := T.h4.root) rfl rfl (by kernel_rfl) (by kernel_rfl) (by kernel_rfl) (fun _ _ _ h => h) (by rfl) (fun w' hS => by (refine load_ptr _ _ _ rfl s 0 rfl T.h4 ?_; exact (hS.2.2.2.1.cell 0).trans rfl)) hS ?_
  simp only [Act.put, List.setIfInBounds_toArray, List.set_cons_zero, List.set_cons_succ]
  have HT9 := Lib.hid HT.out.a4
  refine takeCE (i := 8) (some 34) 53 #[T.h4.root, .agg (pvC 4 32 (firstZ z 32))] (R := fun v w' => ∃ f : Option Fd, v = fptr f ∧ Below W6.heap.size W6 w' ∧ fbit f = R ∧ ∀ x, f = some x → FdAt W6 4 x) rfl rfl (by kernel_rfl) (by rfl) (by go_simp) ((HLG.out W6 HT9.out).mono (by rintro e w9 ⟨f, rfl, h9⟩; exact ⟨_, rfl, f, rfl, h9⟩)) (fun v w' h => by obtain ⟨f, rfl, hb, h9⟩ := h; exact ⟨hS.1.below hb hS.1.lt, hS.2.1.below hb hS.2.1.lt, hS.2.2.1.below hb hS.2.2.1.lt, hS.2.2.2.1.below hb hS.2.2.2.1.lt, hS.2.2.2.2.trans (hb.mono hS.2.2.2.2.size)⟩) (fun v W8 h hS2 => ?_)
  obtain ⟨f, rfl, hb, hfb, hfd⟩ := h
  clear hS2
  simp only [Act.put, List.setIfInBounds_toArray, List.set_cons_zero, List.set_cons_succ]
  have HFB := Lib.hid hfb
  have HFD : Hid (∀ x, f = some x → FdAt W8 4 x) := Lib.hid (fun x hx => (hfd x hx).below hb (hfd x hx).lt)
  clear hfb hfd HT9
  have HTn := Lib.hid (HT.out.below hb HT.out.lt)
  clear HT
  have HT := HTn
  clear HTn
  have K5n := Lib.hid (K5.out.below hb K5.out.lt)
  clear K5
  have K5 := K5n
  clear K5n
  have K6n := Lib.hid (K6.out.below hb K6.out.lt)
  clear K6
  have K6 := K6n
  clear K6n
  have K10n := Lib.hid (K10.out.below hb K10.out.lt)
  clear K10
  have K10 := K10n
  clear K10n
  have KSn := Lib.hid (KS.out.below hb KS.out.lt)
  clear KS
  have KS := KSn
  clear KSn
  have HBn := Lib.hid (HB.out.trans (hb.mono HB.out.size))
  clear HB
  have HB := HBn
  clear HBn
  clear hb hS
  have hS := (And.intro K5.out (And.intro K6.out (And.intro K10.out (And.intro KS.out HB.out))))
  refine takeY (i := 9) (some 12) (v := fptr f) rfl rfl (by kernel_rfl) (by kernel_rfl) (by kernel_rfl) (fun _ _ _ h => h) (by rfl) (fun w' hS => by clear hS; go_simp) hS ?_
  simp only [Act.put, List.setIfInBounds_toArray, List.set_cons_zero, List.set_cons_succ]
  clear hS
  refine wpAnyH_done (by kernel_rfl) ?_ _
  clear HT
  clear KS
  cases f with
  | none =>
    have e8 : fptr none = .pointer none := rfl
    rw [e8]
    clear e8
    go_wp2_with (refine wpList_v (op := ⟨some 37, _, _, _, _, _⟩) rfl (.agg (pvC 0 0 Z0)) (build_pv0 _ _ rfl _) ?_; refine Hid.out ?_)
    refine Lib.hid ?_
    go_wp2_with (refine wpList_st rfl 32 (.tmp 6) (.tmp 37) rfl N2 0 rfl (.agg (pvC 0 0 Z0)) (pvC 0 0 Z0) rfl rfl info_pv (all_pv _ _ _) K6.out (Nat.le_of_ble_eq_true rfl) (C' := pvC 0 0 Z0) (pv_over _ _ _ _ _ _) ?_; intro w9 q1; refine Hid.out ?_)
    refine Lib.hid ?_
    have K5n := Lib.hid (K5.out.far q1 (by omega))
    clear K5
    have K5 := K5n
    clear K5n
    have K10n := Lib.hid (K10.out.far q1 (by omega))
    clear K10
    have K10 := K10n
    clear K10n
    have HBn := Lib.hid (HB.out.trans (q1.2.1 _ (by omega)))
    clear HB
    have HB := HBn
    clear HBn
    have K6n : Hid (Blk 32 w9 N2 (pvC 0 0 Z0)) := Lib.hid q1.1
    clear K6
    have K6 := K6n
    clear K6n q1
    go_wp2_with fail
    exact bodyPost_ret (results_4 rfl _ _ N2 (pvC 0 0 Z0) (.int .i64 0) (.bool false) (.int .i64 0) Try.underlying32 rfl info_pv rfl rfl rfl rfl K6.out) rfl ⟨none, rfl, HB.out, HFB.out, fun x hx => by cases hx⟩
  | some x =>
    obtain ⟨xg, xn, xz, xv⟩ := x
    obtain ⟨fz, ff, fa, fb2, fk⟩ : Bytes xz ∧ Form 4 xn xz ∧ ∃ a b, Blk 106 W8 xg (ndC 4 xn xz true xv a b) := HFD.out _ rfl
    have KF := Lib.hid fk
    have HFZ := Lib.hid fz
    have HFF := Lib.hid ff
    clear fz ff fk HFD
    have e8 : fptr (some ⟨xg, xn, xz, xv⟩) = .pointer (some ⟨xg, 0, none⟩) := rfl
    rw [e8]
    clear e8
    go_wp2_with fail
    have ne6 : xg ≠ N2 := fun e => by have h1 : W8.heap[xg]? = _ := KF.out; have h2 : W8.heap[N2]? = _ := K6.out; rw [e, h2] at h1; injection h1 with h1; injection h1 with _ h1 _; exact absurd h1 (by decide)
    have K6d := Lib.hid K6.out.drew
    clear K6
    refine wp_region_held_drew (S := fun w' => Blk 23 w' N1 (agC z) ∧ Blk 32 w' N4 (pvC 4 32 (firstZ z 32)) ∧ Blk 106 w' xg (ndC 4 xn xz true xv fa fb2) ∧ Below w.heap.size w w') (by kernel_rfl) ⟨K5.out, K10.out, KF.out, HB.out.drew⟩ (fun hS => ?_)
    generalize hW9 : W8.drew = W9 at hS K6d ⊢
    clear hW9
    clear K5
    clear K10
    clear KF
    clear HB
    have K6 := K6d
    clear K6d
    have K5 := Lib.hid hS.1
    have K10 := Lib.hid hS.2.1
    have KF := Lib.hid hS.2.2.1
    have HB := Lib.hid hS.2.2.2
    refine takeY (i := 0) (some 38) (v := .pointer (some ⟨xg, 0, none⟩)) rfl rfl (by kernel_rfl) (by kernel_rfl) (by kernel_rfl) (fun _ _ _ h => h) (by rfl) (fun w' hS => by clear hS; go_simp) hS ?_
    simp only [Act.put, List.setIfInBounds_toArray, List.set_cons_zero, List.set_cons_succ]
    refine takeY (i := 1) (some 39) (v := .pointer (some ⟨xg, 0, none⟩)) rfl rfl (by kernel_rfl) (by kernel_rfl) (by kernel_rfl) (fun _ _ _ h => h) (by rfl) (fun w' hS => by clear hS; go_simp) hS ?_
    simp only [Act.put, List.setIfInBounds_toArray, List.set_cons_zero, List.set_cons_succ]
    refine takeY (i := 2) (some 40) (v := .pointer (some ⟨xg, 0, none⟩)) rfl rfl (by kernel_rfl) (by kernel_rfl) (by kernel_rfl) (fun _ _ _ h => h) (by rfl) (fun w' hS => by clear hS; go_simp) hS ?_
    simp only [Act.put, List.setIfInBounds_toArray, List.set_cons_zero, List.set_cons_succ]
    refine takeL (i := 3) (some 41) 32 (.tmp 40) xg 0 (pvC 4 xn xz) _ rfl rfl (by kernel_rfl) (by kernel_rfl) (by kernel_rfl) (fun _ _ _ h => h) (by rfl) rfl rfl (fun w' hS => hS.2.2.1.ndpv) Try.underlying32 rfl (hi_pv 4 (xn : Int) xz) hS ?_
    simp only [Act.put, List.setIfInBounds_toArray, List.set_cons_zero, List.set_cons_succ]
    refine takeY (i := 4) (some 42) (v := .pointer (some ⟨xg, 0, none⟩)) rfl rfl (by kernel_rfl) (by kernel_rfl) (by kernel_rfl) (fun _ _ _ h => h) (by rfl) (fun w' hS => by clear hS; go_simp) hS ?_
    simp only [Act.put, List.setIfInBounds_toArray, List.set_cons_zero, List.set_cons_succ]
    refine takeY (i := 5) (some 43) (v := .pointer (some ⟨xg, 0, none⟩)) rfl rfl (by kernel_rfl) (by kernel_rfl) (by kernel_rfl) (fun _ _ _ h => h) (by rfl) (fun w' hS => by clear hS; go_simp) hS ?_
    simp only [Act.put, List.setIfInBounds_toArray, List.set_cons_zero, List.set_cons_succ]
    refine takeY (i := 6) (some 44) (v := .pointer (some ⟨xg, 19, none⟩)) rfl rfl (by kernel_rfl) (by kernel_rfl) (by kernel_rfl) (fun _ _ _ h => h) (by rfl) (fun w' hS => by clear hS; go_simp) hS ?_
    simp only [Act.put, List.setIfInBounds_toArray, List.set_cons_zero, List.set_cons_succ]
    refine takeY (i := 7) (some 45) (v := .int .i64 xv) rfl rfl (by kernel_rfl) (by kernel_rfl) (by kernel_rfl) (fun _ _ _ h => h) (by rfl) (fun w' hS => by (have c9 : w'.cell? ⟨xg, 19, none⟩ = some (.int .i64 xv) := (hS.2.2.1.cell 19).trans rfl; clear hS; go_simp)) hS ?_
    simp only [Act.put, List.setIfInBounds_toArray, List.set_cons_zero, List.set_cons_succ]
    refine takeSt (i := 8) 32 (.tmp 6) (.tmp 41) N2 0 (.agg (pvC 4 xn xz)) (pvC 4 xn xz) (pvC 4 xn xz) rfl rfl (by kernel_rfl) (by rfl) rfl rfl rfl rfl info_pv (all_pv _ _ _) K6.out (Nat.le_of_ble_eq_true rfl) (pv_over _ _ _ _ _ _) ?_
    intro W10 q1
    refine ⟨⟨K5.out.far q1 (by omega), K10.out.far q1 (by omega), KF.out.far q1 ne6, HB.out.trans (q1.2.1 _ (by omega))⟩, ?_⟩
    simp only [Act.put, List.setIfInBounds_toArray, List.set_cons_zero, List.set_cons_succ]
    have K6n : Hid (Blk 32 W10 N2 (pvC 4 xn xz)) := Lib.hid q1.1
    clear K6
    have K6 := K6n
    clear K6n
    have K5n := Lib.hid (K5.out.far q1 (by omega))
    clear K5
    have K5 := K5n
    clear K5n
    have K10n := Lib.hid (K10.out.far q1 (by omega))
    clear K10
    have K10 := K10n
    clear K10n
    have KFn := Lib.hid (KF.out.far q1 ne6)
    clear KF
    have KF := KFn
    clear KFn
    have HBn := Lib.hid (HB.out.trans (q1.2.1 _ (by omega)))
    clear HB
    have HB := HBn
    clear HBn
    clear q1 hS
    have hS := (And.intro K5.out (And.intro K10.out (And.intro KF.out HB.out)))
    refine takeY (i := 9) (some 7) (v := .int .i64 xv) rfl rfl (by kernel_rfl) (by kernel_rfl) (by kernel_rfl) (fun _ _ _ h => h) (by rfl) (fun w' hS => by clear hS; go_simp) hS ?_
    simp only [Act.put, List.setIfInBounds_toArray, List.set_cons_zero, List.set_cons_succ]
    refine takeY (i := 10) (some 8) (v := .bool true) rfl rfl (by kernel_rfl) (by kernel_rfl) (by kernel_rfl) (fun _ _ _ h => h) (by rfl) (fun w' hS => by clear hS; go_simp) hS ?_
    simp only [Act.put, List.setIfInBounds_toArray, List.set_cons_zero, List.set_cons_succ]
    refine takeY (i := 11) (some 9) (v := .int .i64 0) rfl rfl (by kernel_rfl) (by kernel_rfl) (by kernel_rfl) (fun _ _ _ h => h) (by rfl) (fun w' hS => by clear hS; go_simp) hS ?_
    simp only [Act.put, List.setIfInBounds_toArray, List.set_cons_zero, List.set_cons_succ]
    clear hS
    refine wpAnyH_done (by kernel_rfl) ?_ _
    go_wp2_with fail
    exact bodyPost_ret (results_4 rfl _ _ N2 (pvC 4 xn xz) (.int .i64 xv) (.bool true) (.int .i64 0) Try.underlying32 rfl info_pv rfl rfl rfl rfl K6.out) rfl ⟨some ⟨xg, xn, xz, xv⟩, rfl, HB.out, HFB.out, fun x hx => by cases hx; exact ⟨HFZ.out, HFF.out⟩⟩
set_option maxHeartbeats 16000000 in
set_option maxRecDepth 100000 in
theorem find_nil6 (z : Nat → Int) (hz : Bytes z) (w : World) : Calls Try.prog 23 #[.pointer none, .int .u8 6, .agg (agC z)] w fun e w' => e = .returned (.tuple #[.agg (pvC 0 0 Z0), .int .i64 0, .bool false, .int .i64 6]) ∧ Below w.heap.size w w' := by
  have HWH := Lib.hid (fun W => whole_6 z hz W)
  clear hz
  go_enter Try.func23, Try.ntmps23
  have HB := Lib.hid (Below.refl w.heap.size w)
  obtain ⟨N1, hN1⟩ : ∃ N, w.heap.size = N := ⟨_, rfl⟩
  have HN1 := Lib.hid hN1
  clear hN1
  go_wp2_with (refine wpList_box (op := ⟨some 5, _, _, _, _, _⟩) rfl 23 (.tmp 2) rfl (agC z) rfl N1 HN1.out ?_; intro w1 k1 b1 s1; refine Hid.out ?_)
  refine Lib.hid ?_
  have K5 := Lib.hid k1
  clear k1
  have le_HB_N1 : w.heap.size ≤ N1 := by rw [← HN1.out]; exact HB.out.size
  have HBn := Lib.hid (HB.out.trans (b1.mono HB.out.size))
  clear HB
  have HB := HBn
  clear HBn
  clear b1 HN1
  obtain ⟨N2, hN2⟩ : ∃ N, w1.heap.size = N := ⟨_, rfl⟩
  have HN2 := Lib.hid hN2
  clear hN2
  go_wp2_with (refine wpList_new (op := ⟨some 6, _, _, _, _, _⟩) rfl 32 rfl (pvC 0 0 Z0) zero_pvT N2 HN2.out ?_; intro w2 k1 b1 s1; refine Hid.out ?_)
  refine Lib.hid ?_
  have K6 := Lib.hid k1
  clear k1
  have lt_N1_N2 : N1 < N2 := by rw [← HN2.out]; exact K5.out.lt
  have le_HB_N2 : w.heap.size ≤ N2 := by rw [← HN2.out]; exact HB.out.size
  have K5n := Lib.hid (K5.out.below b1 K5.out.lt)
  clear K5
  have K5 := K5n
  clear K5n
  have HBn := Lib.hid (HB.out.trans (b1.mono HB.out.size))
  clear HB
  have HB := HBn
  clear HBn
  clear b1 HN2
  go_wp2_with (refine wpList_ld (op := ⟨some 15, _, _, _, _, _⟩) (by rfl) 23 (.tmp 5) rfl N1 0 rfl (agC z) _ K5.out.all Try.underlying23 rfl (hi_ag z) ?_; refine Hid.out ?_)
  refine Lib.hid ?_
  go_wp2_with fail
  refine (HWH.out _).mono ?_
  rintro e w3 ⟨rfl, b1⟩
  have K5n := Lib.hid (K5.out.below b1 K5.out.lt)
  clear K5
  have K5 := K5n
  clear K5n
  have K6n := Lib.hid (K6.out.below b1 K6.out.lt)
  clear K6
  have K6 := K6n
  clear K6n
  have HBn := Lib.hid (HB.out.trans (b1.mono HB.out.size))
  clear HB
  have HB := HBn
  clear HBn
  clear b1
  obtain ⟨N4, hN4⟩ : ∃ N, w3.heap.size = N := ⟨_, rfl⟩
  have HN4 := Lib.hid hN4
  clear hN4
  go_wp2_with (refine wpList_new (op := ⟨some 10, _, _, _, _, _⟩) rfl 32 rfl (pvC 0 0 Z0) zero_pvT N4 HN4.out ?_; intro w4 k1 b1 s1; refine Hid.out ?_)
  refine Lib.hid ?_
  have K10 := Lib.hid k1
  clear k1
  have lt_N1_N4 : N1 < N4 := by rw [← HN4.out]; exact K5.out.lt
  have lt_N2_N4 : N2 < N4 := by rw [← HN4.out]; exact K6.out.lt
  have le_HB_N4 : w.heap.size ≤ N4 := by rw [← HN4.out]; exact HB.out.size
  have K5n := Lib.hid (K5.out.below b1 K5.out.lt)
  clear K5
  have K5 := K5n
  clear K5n
  have K6n := Lib.hid (K6.out.below b1 K6.out.lt)
  clear K6
  have K6 := K6n
  clear K6n
  have HBn := Lib.hid (HB.out.trans (b1.mono HB.out.size))
  clear HB
  have HB := HBn
  clear HBn
  clear b1 HN4
  go_wp2_with (refine wpList_st rfl 32 (.tmp 10) (.tmp 17) rfl N4 0 rfl (.agg (pvC 6 128 (firstZ z 128))) (pvC 6 128 (firstZ z 128)) rfl rfl info_pv (all_pv _ _ _) K10.out (Nat.le_of_ble_eq_true rfl) (C' := pvC 6 128 (firstZ z 128)) (pv_over _ _ _ _ _ _) ?_; intro w5 q1; refine Hid.out ?_)
  refine Lib.hid ?_
  have K5n := Lib.hid (K5.out.far q1 (by omega))
  clear K5
  have K5 := K5n
  clear K5n
  have K6n := Lib.hid (K6.out.far q1 (by omega))
  clear K6
  have K6 := K6n
  clear K6n
  have HBn := Lib.hid (HB.out.trans (q1.2.1 _ (by omega)))
  clear HB
  have HB := HBn
  clear HBn
  have K10n : Hid (Blk 32 w5 N4 (pvC 6 128 (firstZ z 128))) := Lib.hid q1.1
  clear K10
  have K10 := K10n
  clear K10n q1
  go_wp2_with (refine wpList_v (op := ⟨some 25, _, _, _, _, _⟩) rfl (.agg (pvC 0 0 Z0)) (build_pv0 _ _ rfl _) ?_; refine Hid.out ?_)
  refine Lib.hid ?_
  go_wp2_with (refine wpList_st rfl 32 (.tmp 6) (.tmp 25) rfl N2 0 rfl (.agg (pvC 0 0 Z0)) (pvC 0 0 Z0) rfl rfl info_pv (all_pv _ _ _) K6.out (Nat.le_of_ble_eq_true rfl) (C' := pvC 0 0 Z0) (pv_over _ _ _ _ _ _) ?_; intro w6 q1; refine Hid.out ?_)
  refine Lib.hid ?_
  have K5n := Lib.hid (K5.out.far q1 (by omega))
  clear K5
  have K5 := K5n
  clear K5n
  have K10n := Lib.hid (K10.out.far q1 (by omega))
  clear K10
  have K10 := K10n
  clear K10n
  have HBn := Lib.hid (HB.out.trans (q1.2.1 _ (by omega)))
  clear HB
  have HB := HBn
  clear HBn
  have K6n : Hid (Blk 32 w6 N2 (pvC 0 0 Z0)) := Lib.hid q1.1
  clear K6
  have K6 := K6n
  clear K6n q1
  go_wp2_with fail
  exact bodyPost_ret (results_4 rfl _ _ N2 (pvC 0 0 Z0) (.int .i64 0) (.bool false) (.int .i64 6) Try.underlying32 rfl info_pv rfl rfl rfl rfl K6.out) rfl ⟨rfl, HB.out⟩
set_option maxHeartbeats 16000000 in
set_option maxRecDepth 100000 in
theorem find_6 (B s : Nat) (T : Ts) (z : Nat → Int) (hz : Bytes z) (w : World) (hT : TsAt w B s T) : Calls Try.prog 23 #[.pointer (some ⟨s, 0, none⟩), .int .u8 6, .agg (agC z)] w fun e w' => ∃ f : Option Fd, e = .returned (findV 6 f) ∧ Below w.heap.size w w' ∧ fbit f = Tr.lng (btP 128 (firstZ z 128)) T.h6.bits none ∧ ∀ x, f = some x → Bytes x.z ∧ Form 6 x.n x.z := by
  have HWH := Lib.hid (fun W => whole_6 z hz W)
  have HPL := Lib.hid (fun W => place_any true W)
  have HLG := Lib.hid (fun W hW => (longest_any 6 128 (firstZ z 128) (firstZ_bd hz _) (whole_form hz true) T.h6 W hW : Calls Try.prog 53 #[T.h6.root, .agg (pvC 6 128 (firstZ z 128))] W (LongP W 6 (Tr.lng (btP 128 (firstZ z 128)) T.h6.bits none))))
  obtain ⟨R, hR⟩ : ∃ R, Tr.lng (btP 128 (firstZ z 128)) T.h6.bits none = R := ⟨_, rfl⟩
  rw [hR] at HLG ⊢
  have HT := Lib.hid hT
  clear hz hT hR
  go_enter Try.func23, Try.ntmps23
  have HB := Lib.hid (Below.refl w.heap.size w)
  obtain ⟨N1, hN1⟩ : ∃ N, w.heap.size = N := ⟨_, rfl⟩
  have HN1 := Lib.hid hN1
  clear hN1
  go_wp2_with (refine wpList_box (op := ⟨some 5, _, _, _, _, _⟩) rfl 23 (.tmp 2) rfl (agC z) rfl N1 HN1.out ?_; intro w1 k1 b1 s1; refine Hid.out ?_)
  refine Lib.hid ?_
  have K5 := Lib.hid k1
  clear k1
  have le_HB_N1 : w.heap.size ≤ N1 := by rw [← HN1.out]; exact HB.out.size
  have HBn := Lib.hid (HB.out.trans (b1.mono HB.out.size))
  clear HB
  have HB := HBn
  clear HBn
  have HTn := Lib.hid (HT.out.below b1 HT.out.lt)
  clear HT
  have HT := HTn
  clear HTn
  clear b1 HN1
  obtain ⟨N2, hN2⟩ : ∃ N, w1.heap.size = N := ⟨_, rfl⟩
  have HN2 := Lib.hid hN2
  clear hN2
  go_wp2_with (refine wpList_new (op := ⟨some 6, _, _, _, _, _⟩) rfl 32 rfl (pvC 0 0 Z0) zero_pvT N2 HN2.out ?_; intro w2 k1 b1 s1; refine Hid.out ?_)
  refine Lib.hid ?_
  have K6 := Lib.hid k1
  clear k1
  have lt_N1_N2 : N1 < N2 := by rw [← HN2.out]; exact K5.out.lt
  have le_HB_N2 : w.heap.size ≤ N2 := by rw [← HN2.out]; exact HB.out.size
  have K5n := Lib.hid (K5.out.below b1 K5.out.lt)
  clear K5
  have K5 := K5n
  clear K5n
  have HBn := Lib.hid (HB.out.trans (b1.mono HB.out.size))
  clear HB
  have HB := HBn
  clear HBn
  have HTn := Lib.hid (HT.out.below b1 HT.out.lt)
  clear HT
  have HT := HTn
  clear HTn
  clear b1 HN2
  go_wp2_with (refine wpList_ld (op := ⟨some 15, _, _, _, _, _⟩) (by rfl) 23 (.tmp 5) rfl N1 0 rfl (agC z) _ K5.out.all Try.underlying23 rfl (hi_ag z) ?_; refine Hid.out ?_)
  refine Lib.hid ?_
  go_wp2_with fail
  refine (HWH.out _).mono ?_
  rintro e w3 ⟨rfl, b1⟩
  have K5n := Lib.hid (K5.out.below b1 K5.out.lt)
  clear K5
  have K5 := K5n
  clear K5n
  have K6n := Lib.hid (K6.out.below b1 K6.out.lt)
  clear K6
  have K6 := K6n
  clear K6n
  have HBn := Lib.hid (HB.out.trans (b1.mono HB.out.size))
  clear HB
  have HB := HBn
  clear HBn
  have HTn := Lib.hid (HT.out.below b1 HT.out.lt)
  clear HT
  have HT := HTn
  clear HTn
  clear b1
  have HTL := Lib.hid HT.out.fpl
  have HSL := Lib.hid HT.out.lt
  obtain ⟨N4, hN4⟩ : ∃ N, w3.heap.size = N := ⟨_, rfl⟩
  have HN4 := Lib.hid hN4
  clear hN4
  go_wp2_with (refine wpList_new (op := ⟨some 10, _, _, _, _, _⟩) rfl 32 rfl (pvC 0 0 Z0) zero_pvT N4 HN4.out ?_; intro w4 k1 b1 s1; refine Hid.out ?_)
  refine Lib.hid ?_
  have K10 := Lib.hid k1
  clear k1
  have lt_N1_N4 : N1 < N4 := by rw [← HN4.out]; exact K5.out.lt
  have lt_N2_N4 : N2 < N4 := by rw [← HN4.out]; exact K6.out.lt
  have le_HB_N4 : w.heap.size ≤ N4 := by rw [← HN4.out]; exact HB.out.size
  have K5n := Lib.hid (K5.out.below b1 K5.out.lt)
  clear K5
  have K5 := K5n
  clear K5n
  have K6n := Lib.hid (K6.out.below b1 K6.out.lt)
  clear K6
  have K6 := K6n
  clear K6n
  have HBn := Lib.hid (HB.out.trans (b1.mono HB.out.size))
  clear HB
  have HB := HBn
  clear HBn
  have HTn := Lib.hid (HT.out.below b1 HT.out.lt)
  clear HT
  have HT := HTn
  clear HTn
  clear b1 HN4
  have ltT : w4.heap.size = w4.heap.size := rfl
  go_wp2_with (refine wpList_st rfl 32 (.tmp 10) (.tmp 17) rfl N4 0 rfl (.agg (pvC 6 128 (firstZ z 128))) (pvC 6 128 (firstZ z 128)) rfl rfl info_pv (all_pv _ _ _) K10.out (Nat.le_of_ble_eq_true rfl) (C' := pvC 6 128 (firstZ z 128)) (pv_over _ _ _ _ _ _) ?_; intro w5 q1; refine Hid.out ?_)
  refine Lib.hid ?_
  have HTn := Lib.hid (ts_far HT.out K10.out q1)
  clear HT
  have HT := HTn
  clear HTn
  have K5n := Lib.hid (K5.out.far q1 (by omega))
  clear K5
  have K5 := K5n
  clear K5n
  have K6n := Lib.hid (K6.out.far q1 (by omega))
  clear K6
  have K6 := K6n
  clear K6n
  have HBn := Lib.hid (HB.out.trans (q1.2.1 _ (by omega)))
  clear HB
  have HB := HBn
  clear HBn
  have K10n : Hid (Blk 32 w5 N4 (pvC 6 128 (firstZ z 128))) := Lib.hid q1.1
  clear K10
  have K10 := K10n
  clear K10n q1
  go_wp2_with (refine wpList_v (op := ⟨some 24, _, _, _, _, _⟩) rfl (.bool false) (eql_nil _ _ _ rfl s _ rfl rfl) ?_; refine Hid.out ?_)
  refine Lib.hid ?_
  go_wp2_with fail
  have KS := Lib.hid HT.out.blk
  have HTd := Lib.hid HT.out.drew
  clear HT
  refine wp_region_held_drew (S := fun w' => Blk 23 w' N1 (agC z) ∧ Blk 32 w' N2 (pvC 0 0 Z0) ∧ Blk 32 w' N4 (pvC 6 128 (firstZ z 128)) ∧ Blk 90 w' s (tsC T) ∧ Below w.heap.size w w') (by kernel_rfl) ⟨K5.out, K6.out, K10.out, KS.out, HB.out.drew⟩ (fun hS => ?_)
  generalize hW6 : w5.drew = W6 at hS HTd ⊢
  clear hW6
  clear K5
  clear K6
  clear K10
  clear KS
  clear HB
  have HT := HTd
  clear HTd
  have K5 := Lib.hid hS.1
  have K6 := Lib.hid hS.2.1
  have K10 := Lib.hid hS.2.2.1
  have KS := Lib.hid hS.2.2.2.1
  have HB := Lib.hid hS.2.2.2.2
  refine takeY (i := 0) (some 26) (v := .pointer (some ⟨s, 0, none⟩)) rfl rfl (by kernel_rfl) (by kernel_rfl) (by kernel_rfl) (fun _ _ _ h => h) (by rfl) (fun w' hS => by clear hS; go_simp) hS ?_
  simp only [Act.put, List.setIfInBounds_toArray, List.set_cons_zero, List.set_cons_succ]
  refine takeY (i := 1) (some 27) (v := .int .u8 6) rfl rfl (by kernel_rfl) (by kernel_rfl) (by kernel_rfl) (fun _ _ _ h => h) (by rfl) (fun w' hS => by clear hS; go_simp) hS ?_
  simp only [Act.put, List.setIfInBounds_toArray, List.set_cons_zero, List.set_cons_succ]
  refine takeY (i := 3) (some 29) (v := .pointer (some ⟨s, 0, none⟩)) rfl rfl (by kernel_rfl) (by kernel_rfl) (by kernel_rfl) (fun _ _ _ h => h) (by rfl) (fun w' hS => by clear hS; go_simp) hS ?_
  simp only [Act.put, List.setIfInBounds_toArray, List.set_cons_zero, List.set_cons_succ]
  refine takeY (i := 4) (some 30) (v := .pointer (some ⟨s, 0, none⟩)) rfl rfl (by kernel_rfl) (by kernel_rfl) (by kernel_rfl) (fun _ _ _ h => h) (by rfl) (fun w' hS => by clear hS; go_simp) hS ?_
  simp only [Act.put, List.setIfInBounds_toArray, List.set_cons_zero, List.set_cons_succ]
  refine takeL (i := 7) (some 33) 32 (.tmp 10) N4 0 (pvC 6 128 (firstZ z 128)) _ rfl rfl (by kernel_rfl) (by kernel_rfl) (by kernel_rfl) (fun _ _ _ h => h) (by rfl) rfl rfl (fun w' hS => hS.2.2.1.all) Try.underlying32 rfl (hi_pv 6 (128 : Int) (firstZ z 128)) hS ?_
  simp only [Act.put, List.setIfInBounds_toArray, List.set_cons_zero, List.set_cons_succ]
  refine takeC (i := 2) (some 28) 43 #[.int .u8 6] (.int .i64 1) (R := fun w' => W6 = w') rfl rfl (by kernel_rfl) (by rfl) (by go_simp) (HPL.out _) (fun w' hb => hb ▸ hS) (fun W7 hb1 hS2 => ?_)
  subst hb1
  clear hS2
  simp only [Act.put, List.setIfInBounds_toArray, List.set_cons_zero, List.set_cons_succ]
  refine takeY (i := 5) (some 31) (v := .pointer (some ⟨s, 1, none⟩)) rfl rfl (by kernel_rfl) (by kernel_rfl) (by kernel_rfl) (fun _ _ _ h => h) (by rfl) (fun w' hS => by clear hS; go_simp) hS ?_
  simp only [Act.put, List.setIfInBounds_toArray, List.set_cons_zero, List.set_cons_succ]
  refine takeY (i := 6) (some 32) (v := T.h6.root) rfl rfl (by kernel_rfl) (by kernel_rfl) (by kernel_rfl) (fun _ _ _ h => h) (by rfl) (fun w' hS => by (refine load_ptr _ _ _ rfl s 1 rfl T.h6 ?_; exact (hS.2.2.2.1.cell 1).trans rfl)) hS ?_
  simp only [Act.put, List.setIfInBounds_toArray, List.set_cons_zero, List.set_cons_succ]
  have HT9 := Lib.hid HT.out.a6
  refine takeCE (i := 8) (some 34) 53 #[T.h6.root, .agg (pvC 6 128 (firstZ z 128))] (R := fun v w' => ∃ f : Option Fd, v = fptr f ∧ Below W6.heap.size W6 w' ∧ fbit f = R ∧ ∀ x, f = some x → FdAt W6 6 x) rfl rfl (by kernel_rfl) (by rfl) (by go_simp) ((HLG.out W6 HT9.out).mono (by rintro e w9 ⟨f, rfl, h9⟩; exact ⟨_, rfl, f, rfl, h9⟩)) (fun v w' h => by obtain ⟨f, rfl, hb, h9⟩ := h; exact ⟨hS.1.below hb hS.1.lt, hS.2.1.below hb hS.2.1.lt, hS.2.2.1.below hb hS.2.2.1.lt, hS.2.2.2.1.below hb hS.2.2.2.1.lt, hS.2.2.2.2.trans (hb.mono hS.2.2.2.2.size)⟩) (fun v W8 h hS2 => ?_)
  obtain ⟨f, rfl, hb, hfb, hfd⟩ := h
  clear hS2
  simp only [Act.put, List.setIfInBounds_toArray, List.set_cons_zero, List.set_cons_succ]
  have HFB := Lib.hid hfb
  have HFD : Hid (∀ x, f = some x → FdAt W8 6 x) := Lib.hid (fun x hx => (hfd x hx).below hb (hfd x hx).lt)
  clear hfb hfd HT9
  have HTn := Lib.hid (HT.out.below hb HT.out.lt)
  clear HT
  have HT := HTn
  clear HTn
  have K5n := Lib.hid (K5.out.below hb K5.out.lt)
  clear K5
  have K5 := K5n
  clear K5n
  have K6n := Lib.hid (K6.out.below hb K6.out.lt)
  clear K6
  have K6 := K6n
  clear K6n
  have K10n := Lib.hid (K10.out.below hb K10.out.lt)
  clear K10
  have K10 := K10n
  clear K10n
  have KSn := Lib.hid (KS.out.below hb KS.out.lt)
  clear KS
  have KS := KSn
  clear KSn
  have HBn := Lib.hid (HB.out.trans (hb.mono HB.out.size))
  clear HB
  have HB := HBn
  clear HBn
  clear hb hS
  have hS := (And.intro K5.out (And.intro K6.out (And.intro K10.out (And.intro KS.out HB.out))))
  refine takeY (i := 9) (some 12) (v := fptr f) rfl rfl (by kernel_rfl) (by kernel_rfl) (by kernel_rfl) (fun _ _ _ h => h) (by rfl) (fun w' hS => by clear hS; go_simp) hS ?_
  simp only [Act.put, List.setIfInBounds_toArray, List.set_cons_zero, List.set_cons_succ]
  clear hS
  refine wpAnyH_done (by kernel_rfl) ?_ _
  clear HT
  clear KS
  cases f with
  | none =>
    have e8 : fptr none = .pointer none := rfl
    rw [e8]
    clear e8
    go_wp2_with (refine wpList_v (op := ⟨some 37, _, _, _, _, _⟩) rfl (.agg (pvC 0 0 Z0)) (build_pv0 _ _ rfl _) ?_; refine Hid.out ?_)
    refine Lib.hid ?_
    go_wp2_with (refine wpList_st rfl 32 (.tmp 6) (.tmp 37) rfl N2 0 rfl (.agg (pvC 0 0 Z0)) (pvC 0 0 Z0) rfl rfl info_pv (all_pv _ _ _) K6.out (Nat.le_of_ble_eq_true rfl) (C' := pvC 0 0 Z0) (pv_over _ _ _ _ _ _) ?_; intro w9 q1; refine Hid.out ?_)
    refine Lib.hid ?_
    have K5n := Lib.hid (K5.out.far q1 (by omega))
    clear K5
    have K5 := K5n
    clear K5n
    have K10n := Lib.hid (K10.out.far q1 (by omega))
    clear K10
    have K10 := K10n
    clear K10n
    have HBn := Lib.hid (HB.out.trans (q1.2.1 _ (by omega)))
    clear HB
    have HB := HBn
    clear HBn
    have K6n : Hid (Blk 32 w9 N2 (pvC 0 0 Z0)) := Lib.hid q1.1
    clear K6
    have K6 := K6n
    clear K6n q1
    go_wp2_with fail
    exact bodyPost_ret (results_4 rfl _ _ N2 (pvC 0 0 Z0) (.int .i64 0) (.bool false) (.int .i64 0) Try.underlying32 rfl info_pv rfl rfl rfl rfl K6.out) rfl ⟨none, rfl, HB.out, HFB.out, fun x hx => by cases hx⟩
  | some x =>
    obtain ⟨xg, xn, xz, xv⟩ := x
    obtain ⟨fz, ff, fa, fb2, fk⟩ : Bytes xz ∧ Form 6 xn xz ∧ ∃ a b, Blk 106 W8 xg (ndC 6 xn xz true xv a b) := HFD.out _ rfl
    have KF := Lib.hid fk
    have HFZ := Lib.hid fz
    have HFF := Lib.hid ff
    clear fz ff fk HFD
    have e8 : fptr (some ⟨xg, xn, xz, xv⟩) = .pointer (some ⟨xg, 0, none⟩) := rfl
    rw [e8]
    clear e8
    go_wp2_with fail
    have ne6 : xg ≠ N2 := fun e => by have h1 : W8.heap[xg]? = _ := KF.out; have h2 : W8.heap[N2]? = _ := K6.out; rw [e, h2] at h1; injection h1 with h1; injection h1 with _ h1 _; exact absurd h1 (by decide)
    have K6d := Lib.hid K6.out.drew
    clear K6
    refine wp_region_held_drew (S := fun w' => Blk 23 w' N1 (agC z) ∧ Blk 32 w' N4 (pvC 6 128 (firstZ z 128)) ∧ Blk 106 w' xg (ndC 6 xn xz true xv fa fb2) ∧ Below w.heap.size w w') (by kernel_rfl) ⟨K5.out, K10.out, KF.out, HB.out.drew⟩ (fun hS => ?_)
    generalize hW9 : W8.drew = W9 at hS K6d ⊢
    clear hW9
    clear K5
    clear K10
    clear KF
    clear HB
    have K6 := K6d
    clear K6d
    have K5 := Lib.hid hS.1
    have K10 := Lib.hid hS.2.1
    have KF := Lib.hid hS.2.2.1
    have HB := Lib.hid hS.2.2.2
    refine takeY (i := 0) (some 38) (v := .pointer (some ⟨xg, 0, none⟩)) rfl rfl (by kernel_rfl) (by kernel_rfl) (by kernel_rfl) (fun _ _ _ h => h) (by rfl) (fun w' hS => by clear hS; go_simp) hS ?_
    simp only [Act.put, List.setIfInBounds_toArray, List.set_cons_zero, List.set_cons_succ]
    refine takeY (i := 1) (some 39) (v := .pointer (some ⟨xg, 0, none⟩)) rfl rfl (by kernel_rfl) (by kernel_rfl) (by kernel_rfl) (fun _ _ _ h => h) (by rfl) (fun w' hS => by clear hS; go_simp) hS ?_
    simp only [Act.put, List.setIfInBounds_toArray, List.set_cons_zero, List.set_cons_succ]
    refine takeY (i := 2) (some 40) (v := .pointer (some ⟨xg, 0, none⟩)) rfl rfl (by kernel_rfl) (by kernel_rfl) (by kernel_rfl) (fun _ _ _ h => h) (by rfl) (fun w' hS => by clear hS; go_simp) hS ?_
    simp only [Act.put, List.setIfInBounds_toArray, List.set_cons_zero, List.set_cons_succ]
    refine takeL (i := 3) (some 41) 32 (.tmp 40) xg 0 (pvC 6 xn xz) _ rfl rfl (by kernel_rfl) (by kernel_rfl) (by kernel_rfl) (fun _ _ _ h => h) (by rfl) rfl rfl (fun w' hS => hS.2.2.1.ndpv) Try.underlying32 rfl (hi_pv 6 (xn : Int) xz) hS ?_
    simp only [Act.put, List.setIfInBounds_toArray, List.set_cons_zero, List.set_cons_succ]
    refine takeY (i := 4) (some 42) (v := .pointer (some ⟨xg, 0, none⟩)) rfl rfl (by kernel_rfl) (by kernel_rfl) (by kernel_rfl) (fun _ _ _ h => h) (by rfl) (fun w' hS => by clear hS; go_simp) hS ?_
    simp only [Act.put, List.setIfInBounds_toArray, List.set_cons_zero, List.set_cons_succ]
    refine takeY (i := 5) (some 43) (v := .pointer (some ⟨xg, 0, none⟩)) rfl rfl (by kernel_rfl) (by kernel_rfl) (by kernel_rfl) (fun _ _ _ h => h) (by rfl) (fun w' hS => by clear hS; go_simp) hS ?_
    simp only [Act.put, List.setIfInBounds_toArray, List.set_cons_zero, List.set_cons_succ]
    refine takeY (i := 6) (some 44) (v := .pointer (some ⟨xg, 19, none⟩)) rfl rfl (by kernel_rfl) (by kernel_rfl) (by kernel_rfl) (fun _ _ _ h => h) (by rfl) (fun w' hS => by clear hS; go_simp) hS ?_
    simp only [Act.put, List.setIfInBounds_toArray, List.set_cons_zero, List.set_cons_succ]
    refine takeY (i := 7) (some 45) (v := .int .i64 xv) rfl rfl (by kernel_rfl) (by kernel_rfl) (by kernel_rfl) (fun _ _ _ h => h) (by rfl) (fun w' hS => by (have c9 : w'.cell? ⟨xg, 19, none⟩ = some (.int .i64 xv) := (hS.2.2.1.cell 19).trans rfl; clear hS; go_simp)) hS ?_
    simp only [Act.put, List.setIfInBounds_toArray, List.set_cons_zero, List.set_cons_succ]
    refine takeSt (i := 8) 32 (.tmp 6) (.tmp 41) N2 0 (.agg (pvC 6 xn xz)) (pvC 6 xn xz) (pvC 6 xn xz) rfl rfl (by kernel_rfl) (by rfl) rfl rfl rfl rfl info_pv (all_pv _ _ _) K6.out (Nat.le_of_ble_eq_true rfl) (pv_over _ _ _ _ _ _) ?_
    intro W10 q1
    refine ⟨⟨K5.out.far q1 (by omega), K10.out.far q1 (by omega), KF.out.far q1 ne6, HB.out.trans (q1.2.1 _ (by omega))⟩, ?_⟩
    simp only [Act.put, List.setIfInBounds_toArray, List.set_cons_zero, List.set_cons_succ]
    have K6n : Hid (Blk 32 W10 N2 (pvC 6 xn xz)) := Lib.hid q1.1
    clear K6
    have K6 := K6n
    clear K6n
    have K5n := Lib.hid (K5.out.far q1 (by omega))
    clear K5
    have K5 := K5n
    clear K5n
    have K10n := Lib.hid (K10.out.far q1 (by omega))
    clear K10
    have K10 := K10n
    clear K10n
    have KFn := Lib.hid (KF.out.far q1 ne6)
    clear KF
    have KF := KFn
    clear KFn
    have HBn := Lib.hid (HB.out.trans (q1.2.1 _ (by omega)))
    clear HB
    have HB := HBn
    clear HBn
    clear q1 hS
    have hS := (And.intro K5.out (And.intro K10.out (And.intro KF.out HB.out)))
    refine takeY (i := 9) (some 7) (v := .int .i64 xv) rfl rfl (by kernel_rfl) (by kernel_rfl) (by kernel_rfl) (fun _ _ _ h => h) (by rfl) (fun w' hS => by clear hS; go_simp) hS ?_
    simp only [Act.put, List.setIfInBounds_toArray, List.set_cons_zero, List.set_cons_succ]
    refine takeY (i := 10) (some 8) (v := .bool true) rfl rfl (by kernel_rfl) (by kernel_rfl) (by kernel_rfl) (fun _ _ _ h => h) (by rfl) (fun w' hS => by clear hS; go_simp) hS ?_
    simp only [Act.put, List.setIfInBounds_toArray, List.set_cons_zero, List.set_cons_succ]
    refine takeY (i := 11) (some 9) (v := .int .i64 0) rfl rfl (by kernel_rfl) (by kernel_rfl) (by kernel_rfl) (fun _ _ _ h => h) (by rfl) (fun w' hS => by clear hS; go_simp) hS ?_
    simp only [Act.put, List.setIfInBounds_toArray, List.set_cons_zero, List.set_cons_succ]
    clear hS
    refine wpAnyH_done (by kernel_rfl) ?_ _
    go_wp2_with fail
    exact bodyPost_ret (results_4 rfl _ _ N2 (pvC 6 xn xz) (.int .i64 xv) (.bool true) (.int .i64 0) Try.underlying32 rfl info_pv rfl rfl rfl rfl K6.out) rfl ⟨some ⟨xg, xn, xz, xv⟩, rfl, HB.out, HFB.out, fun x hx => by cases hx; exact ⟨HFZ.out, HFF.out⟩⟩
end Go.Proofs.Ytjnbemopfhinbaa
