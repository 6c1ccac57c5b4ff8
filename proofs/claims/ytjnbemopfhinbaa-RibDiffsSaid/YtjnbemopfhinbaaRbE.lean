/- Equality of hops and of routes. Each theorem states its conditions. -/
import Derived.Test.YtjnbemopfhinbaaRbSm
import Derived.Test.YtjnbemopfhinbaaPKey
import Derived.Deep.DeepCutAuto
namespace Go.Proofs.Ytjnbemopfhinbaa
open Go.RowKit
set_option linter.unusedVariables false
set_option linter.unusedSimpArgs false

def Same6 (z z' : Nat → Int) : Prop := ∀ j, j < 6 → z j = z' j
instance (z z' : Nat → Int) : Decidable (Same6 z z') := by unfold Same6; infer_instance
theorem bs6 (z z' : Nat → Int) (hz : ∀ j, 0 ≤ z j ∧ z j ≤ 255) (hz' : ∀ j, 0 ≤ z' j ∧ z' j ≤ 255) : (((List.range 6).map fun j => UInt8.ofNat (z j).toNat) == ((List.range 6).map fun j => UInt8.ofNat (z' j).toNat)) = decide (Same6 z z') := by
  rw [Bool.eq_iff_iff]
  simp only [beq_iff_eq, decide_eq_true_eq]
  constructor
  · intro h j hj
    have h1 := congrArg (fun l : List UInt8 => l[j]?) h
    simp [hj] at h1
    have h2 := congrArg UInt8.toNat h1
    simp at h2
    have := hz j
    have := hz' j
    omega
  · intro h
    exact List.map_congr_left (fun j hj => by rw [h j (List.mem_range.1 hj)])
theorem eq_sy_at (d : Nat) (z z' : Nat → Int) (hz : ∀ j, 0 ≤ z j ∧ z j ≤ 255) (hz' : ∀ j, 0 ≤ z' j ∧ z' j ≤ 255) (W : World) : (Op.equalIn (d + 2) 72 (.agg (vals z 6).toArray) (.agg (vals z' 6).toArray)).run Try.prog W = .ok (decide (Same6 z z')) W := by
  rw [vals_cells z 6 hz, vals_cells z' 6 hz']
  rw [run_equalIn_bytes W d 72 5 6 Try.underlying72 Try.underlying5 size_u8 _ _ (by simp) (by simp), bs6 z z' hz hz']
theorem part_hc (h : Hp) (W : World) : (part 3 (hopC h) 0).run Try.prog W = .ok (.int .i64 h.c) W := by kernel_rfl
theorem part_hy (h : Hp) (W : World) : (part 72 (hopC h) 1).run Try.prog W = .ok (.agg (vals h.y 6).toArray) W := by kernel_rfl
theorem fields_hop : (Try.prog.fieldsOf 74).toList.map (fun f => (f.name == "_", f.type, f.offset)) = [(false, 3, 0), (false, 72, 1)] := by kernel_rfl
def HopEq (a b : Hp) : Prop := a.c = b.c ∧ Same6 a.y b.y
instance (a b : Hp) : Decidable (HopEq a b) := by unfold HopEq; infer_instance
set_option maxRecDepth 100000 in
theorem eq_hop (a b : Hp) (ha : ∀ j, 0 ≤ a.y j ∧ a.y j ≤ 255) (hb : ∀ j, 0 ≤ b.y j ∧ b.y j ≤ 255) (W : World) : (Op.equalIn 10000 74 (.agg (hopC a)) (.agg (hopC b))).run Try.prog W = .ok (decide (HopEq a b)) W := by
  rw [run_equalIn_struct W 9999 74 _ _ (by kernel_rfl) (by kernel_rfl)]
  have hm := fields_hop
  generalize (Try.prog.fieldsOf 74).toList = fs at hm
  obtain ⟨f0, f1, rfl⟩ : ∃ f0 f1, fs = [f0, f1] := by
    rcases fs with _ | ⟨f0, _ | ⟨f1, _ | ⟨f2, r⟩⟩⟩
    · simp at hm
    · simp at hm
    · exact ⟨f0, f1, rfl⟩
    · simp at hm
  simp at hm
  obtain ⟨⟨n0, t0, o0⟩, n1, t1, o1⟩ := hm
  have e0 : ∀ w, (Op.equalIn 9999 3 (.int .i64 a.c) (.int .i64 b.c)).run Try.prog w = .ok (a.c == b.c) w := fun w => run_equalIn_int w 9998 _ _ _ _ _ Try.underlying3
  have e1 : ∀ w, (Op.equalIn 9999 72 (.agg (vals a.y 6).toArray) (.agg (vals b.y 6).toArray)).run Try.prog w = .ok (decide (Same6 a.y b.y)) w := fun w => eq_sy_at 9997 a.y b.y ha hb w
  simp only [Op.eqFields, ne_eq, n0, n1, not_false_eq_true, if_true, t0, t1, o0, o1, Sem.run_bind, part_hc, Result.andThen_ok, e0]
  unfold HopEq
  by_cases h : a.c = b.c
  · have h' : (a.c == b.c) = true := by simpa using h
    simp only [h', Bool.not_true, Bool.false_eq_true, if_false, Sem.run_bind, part_hy, Result.andThen_ok, e1]
    by_cases k : Same6 a.y b.y
    · simp [h, k]
    · simp [h, k]
  · have h' : (a.c == b.c) = false := by simpa using h
    simp [h', h]
theorem neq_hopB (r : Bool) {a b : Hp} (hr : (!decide (HopEq a b)) = r) (o : Oper) (e : Operand → Value) (x y : Operand) (ho : o.op = .binOp .neq 74 x y 74) (ha : ∀ j, 0 ≤ a.y j ∧ a.y j ≤ 255) (hb : ∀ j, 0 ≤ b.y j ∧ b.y j ≤ 255) (h0 : e x = .agg (hopC a)) (h1 : e y = .agg (hopC b)) (W : World) : (execOp e o).run Try.prog W = .ok (.value (.bool r)) W := by
  subst hr
  have hq := fun W => eq_hop a b ha hb W
  unfold execOp
  simp only [ho, h0, h1]
  simp [Sem.run_bind, run_eqGuard_agg _ _ _ _ _ _ _ guard_hop, run_neq_struct, hq]
/-- two rows of hops are alike -/
def HopsEq (n m : Nat) (a b : Nat → Hp) : Prop := n = m ∧ ∀ j, j < n → HopEq (a j) (b j)
set_option maxHeartbeats 16000000 in
set_option maxRecDepth 100000 in
theorem eqHops_any (n m : Nat) (a b : Nat → Hp) (A1 A2 : Option Addr) (c1 c2 : Nat) (w : World) (h1 : RdR w A1 n 7 (fun j => hopC (a j))) (h2 : RdR w A2 m 7 (fun j => hopC (b j))) (ha : ∀ j i, 0 ≤ (a j).y i ∧ (a j).y i ≤ 255) (hb : ∀ j i, 0 ≤ (b j).y i ∧ (b j).y i ≤ 255) (hn : n ≤ 8796093021952) (hm : m ≤ 8796093021952) :
    Calls Try.prog 82 #[.slice A1 n c1, .slice A2 m c2] w fun e w' => ∃ r : Bool, e = .returned (.bool r) ∧ (r = true ↔ HopsEq n m a b) ∧ Below w.heap.size w w' := by
  have H1 := Lib.hid h1
  have H2 := Lib.hid h2
  have HA := Lib.hid ha
  have HB0 := Lib.hid hb
  have hnI : (n : Int) ≤ 9223372036854775807 := by omega
  have hmI : (m : Int) ≤ 9223372036854775807 := by omega
  clear h1 h2 ha hb
  go_enter Try.func82, Try.ntmps82
  by_cases hnm : n = m
  · subst hnm
    have hnn : (n : Int) = (n : Int) := rfl
    go_wp2_with fail
    go_loopw [13] (fun t wr => ∃ j : Nat, j ≤ n ∧ t = .int .i64 j ∧ Hid (∀ k, k < j → HopEq (a k) (b k)) ∧ Hid (Below w.heap.size w wr)) (fun t _ => n - (intOf t).toNat)
    case atStart => exact ⟨0, by omega, rfl, Lib.hid (fun k hk => by omega), Lib.hid (Below.refl _ _)⟩
    case round =>
      obtain ⟨j, hj, rfl, HQ, HB⟩ := hrel
      by_cases hlt : j < n
      · have hki : (j : Int) < (n : Int) := by omega
        have HLT := Lib.hid hlt
        have hj0 : (0 : Int) ≤ (j : Int) := by omega
        obtain ⟨b1, o1, rfl, r1⟩ := H1.out.row (by omega)
        obtain ⟨b2, o2, rfl, r2⟩ := H2.out.row (by omega)
        have R1 := Lib.hid r1
        have R2 := Lib.hid r2
        clear r1 r2 hlt hj
        obtain ⟨r, hr⟩ : ∃ r, (!decide (HopEq (a j) (b j))) = r := ⟨_, rfl⟩
        have HR := Lib.hid hr
        clear hr
        go_wp2_with fail
        go_cut [24] (fun s1 wc => s1 = .bool r ∧ Hid (Below w.heap.size w wc))
        case first =>
          refine wp_region_held_drew (S := fun w' => Below w.heap.size w w') (by kernel_rfl) HB.out.drew (fun hS => ?_)
          generalize hW61 : wr.drew = W61 at hS  ⊢
          clear hW61
          clear HB
          have HB := Lib.hid hS
          refine takeY (i := 0) (some 16) (v := .slice (some ⟨b1, o1, none⟩) n c1) rfl rfl (by kernel_rfl) (by kernel_rfl) (by kernel_rfl) (fun _ _ _ h => h) (by rfl) (fun w' hS => by clear hS; go_simp) hS ?_
          simp only [Act.put, List.setIfInBounds_toArray, List.set_cons_zero, List.set_cons_succ]
          refine takeY (i := 1) (some 17) (v := .int .i64 (j : Int)) rfl rfl (by kernel_rfl) (by kernel_rfl) (by kernel_rfl) (fun _ _ _ h => h) (by rfl) (fun w' hS => by clear hS; go_simp) hS ?_
          simp only [Act.put, List.setIfInBounds_toArray, List.set_cons_zero, List.set_cons_succ]
          refine takeY (i := 2) (some 18) (v := .pointer (some ⟨b1, o1 + j * 7, none⟩)) rfl rfl (by kernel_rfl) (by kernel_rfl) (by kernel_rfl) (fun _ _ _ h => h) (by rfl) (fun w' hS => by clear hS; exact index_h _ _ _ _ rfl b1 o1 n c1 j rfl rfl HLT.out _) hS ?_
          simp only [Act.put, List.setIfInBounds_toArray, List.set_cons_zero, List.set_cons_succ]
          refine takeL (i := 3) (some 19) 74 (.tmp 18) b1 (o1 + j * 7) (hopC (a j)) _ rfl rfl (by kernel_rfl) (by kernel_rfl) (by kernel_rfl) (fun _ _ _ h => h) (by rfl) rfl rfl (fun w' hS => rangeAt_below (R1.out.2 j HLT.out) hS R1.out.1) Try.underlying74 rfl info_hop hS ?_
          simp only [Act.put, List.setIfInBounds_toArray, List.set_cons_zero, List.set_cons_succ]
          refine takeY (i := 4) (some 20) (v := .slice (some ⟨b2, o2, none⟩) n c2) rfl rfl (by kernel_rfl) (by kernel_rfl) (by kernel_rfl) (fun _ _ _ h => h) (by rfl) (fun w' hS => by clear hS; go_simp) hS ?_
          simp only [Act.put, List.setIfInBounds_toArray, List.set_cons_zero, List.set_cons_succ]
          refine takeY (i := 5) (some 21) (v := .int .i64 (j : Int)) rfl rfl (by kernel_rfl) (by kernel_rfl) (by kernel_rfl) (fun _ _ _ h => h) (by rfl) (fun w' hS => by clear hS; go_simp) hS ?_
          simp only [Act.put, List.setIfInBounds_toArray, List.set_cons_zero, List.set_cons_succ]
          refine takeY (i := 6) (some 22) (v := .pointer (some ⟨b2, o2 + j * 7, none⟩)) rfl rfl (by kernel_rfl) (by kernel_rfl) (by kernel_rfl) (fun _ _ _ h => h) (by rfl) (fun w' hS => by clear hS; exact index_h _ _ _ _ rfl b2 o2 n c2 j rfl rfl HLT.out _) hS ?_
          simp only [Act.put, List.setIfInBounds_toArray, List.set_cons_zero, List.set_cons_succ]
          refine takeL (i := 7) (some 23) 74 (.tmp 22) b2 (o2 + j * 7) (hopC (b j)) _ rfl rfl (by kernel_rfl) (by kernel_rfl) (by kernel_rfl) (fun _ _ _ h => h) (by rfl) rfl rfl (fun w' hS => rangeAt_below (R2.out.2 j HLT.out) hS R2.out.1) Try.underlying74 rfl info_hop hS ?_
          simp only [Act.put, List.setIfInBounds_toArray, List.set_cons_zero, List.set_cons_succ]
          refine takeY (i := 8) (some 24) (v := .bool r) rfl rfl (by kernel_rfl) (by kernel_rfl) (by kernel_rfl) (fun _ _ _ h => h) (by rfl) (fun w' hS => by clear hS; exact neq_hopB r HR.out _ _ _ _ rfl (HA.out j) (HB0.out j) rfl rfl _) hS ?_
          simp only [Act.put, List.setIfInBounds_toArray, List.set_cons_zero, List.set_cons_succ]
          clear hS
          refine wpAnyH_done (by kernel_rfl) ?_ _
          go_wp2_with fail
          go_meet
          case rel => exact ⟨rfl, HB⟩
        case rest =>
          obtain ⟨rfl, HBc⟩ := hcut
          cases r with
          | true =>
            have HNE : Hid (¬ HopsEq n n a b) := Lib.hid (fun h => by have h9 := HR.out; rw [decide_eq_true (h.2 j HLT.out)] at h9; cases h9)
            go_wp2_with fail
            go_ret
            exact ⟨false, rfl, ⟨(fun h => by cases h), fun h => absurd h HNE.out⟩, HBc.out⟩
          | false =>
            have HEQ : Hid (HopEq (a j) (b j)) := Lib.hid (by have h9 := HR.out; by_cases hx : HopEq (a j) (b j); exact hx; rw [decide_eq_false hx] at h9; cases h9)
            go_wp2_with fail
            go_roundw
            case rel => exact ⟨j + 1, HLT.out, by go_num, Lib.hid (fun k hk => by by_cases h : k = j; exact h ▸ HEQ.out; exact HQ.out k (by omega)), HBc⟩
            case measure => have := HLT.out; simp only [intOf]; omega
      · obtain rfl : n = j := by omega
        go_wp2_with fail
        go_ret
        exact ⟨true, rfl, ⟨fun _ => ⟨rfl, HQ.out⟩, fun _ => rfl⟩, HB.out⟩
  · have hne : ¬ (n : Int) = (m : Int) := by omega
    have HNM := Lib.hid hnm
    go_wp2_with fail
    go_ret
    exact ⟨false, rfl, ⟨(fun h => by cases h), fun h => absurd h.1 HNM.out⟩, Below.refl _ _⟩
/-- what rib's equal answers -/
def EqQ (w : World) (x y : Rt) (e : Ending) (w' : World) : Prop := ∃ r : Bool, e = .returned (.bool r) ∧ (r = true ↔ (x.k = y.k ∧ x.m = y.m ∧ HopsEq x.n y.n x.h y.h)) ∧ Below w.heap.size w w'
set_option maxHeartbeats 16000000 in
set_option maxRecDepth 100000 in
theorem equal_any (x y : Rx) (w : World) (h1 : HopAt w x) (h2 : HopAt w y) (b1 : RtB x.r) (b2 : RtB y.r) : Calls Try.prog 70 #[.agg (rxC x), .agg (rxC y)] w (EqQ w x.r y.r) := by
  have HE := Lib.hid (fun W (hW : Below w.heap.size w W) => eqHops_any x.r.n y.r.n x.r.h y.r.h x.A y.A x.c y.c W (h1.below hW).rd (h2.below hW).rd b1.h b2.h h1.le h2.le)
  clear h1 h2 b1 b2
  obtain ⟨⟨p1, k1, m1, n1, f1⟩, A1, c1⟩ := x
  obtain ⟨⟨p2, k2, m2, n2, f2⟩, A2, c2⟩ := y
  go_enter Try.func70, Try.ntmps70
  have HB := Lib.hid (Below.refl w.heap.size w)
  obtain ⟨N1, hN1⟩ : ∃ N, w.heap.size = N := ⟨_, rfl⟩
  have HN1 := Lib.hid hN1
  clear hN1
  go_wp2_with (refine wpList_box (op := ⟨some 2, _, _, _, _, _⟩) rfl 70 (.tmp 0) rfl (rxC ⟨⟨p1, k1, m1, n1, f1⟩, A1, c1⟩) rfl N1 HN1.out ?_; intro w1 k1 b1 s1; refine Hid.out ?_)
  refine Lib.hid ?_
  have K2 := Lib.hid k1
  clear k1
  have le_HB_N1 : w.heap.size ≤ N1 := by rw [← HN1.out]; exact HB.out.size
  have HBn := Lib.hid (HB.out.trans (b1.mono HB.out.size))
  clear HB
  have HB := HBn
  clear HBn
  clear b1 HN1
  obtain ⟨N2, hN2⟩ : ∃ N, w1.heap.size = N := ⟨_, rfl⟩
  have HN2 := Lib.hid hN2
  clear hN2
  go_wp2_with (refine wpList_box (op := ⟨some 3, _, _, _, _, _⟩) rfl 70 (.tmp 1) rfl (rxC ⟨⟨p2, k2, m2, n2, f2⟩, A2, c2⟩) rfl N2 HN2.out ?_; intro w2 k1 b1 s1; refine Hid.out ?_)
  refine Lib.hid ?_
  have K3 := Lib.hid k1
  clear k1
  have lt_N1_N2 : N1 < N2 := by rw [← HN2.out]; exact K2.out.lt
  have le_HB_N2 : w.heap.size ≤ N2 := by rw [← HN2.out]; exact HB.out.size
  have K2n := Lib.hid (K2.out.below b1 K2.out.lt)
  clear K2
  have K2 := K2n
  clear K2n
  have HBn := Lib.hid (HB.out.trans (b1.mono HB.out.size))
  clear HB
  have HB := HBn
  clear HBn
  clear b1 HN2
  have d0a : w2.cell? ⟨N1, 18, none⟩ = some (.int .i64 k1) := (K2.out.cell 18).trans rfl
  have d0b : w2.cell? ⟨N1, 19, none⟩ = some (.int .u32 m1) := (K2.out.cell 19).trans rfl
  have d0c : w2.cell? ⟨N1, 20, none⟩ = some (.slice A1 n1 c1) := (K2.out.cell 20).trans rfl
  have d1a : w2.cell? ⟨N2, 18, none⟩ = some (.int .i64 k2) := (K3.out.cell 18).trans rfl
  have d1b : w2.cell? ⟨N2, 19, none⟩ = some (.int .u32 m2) := (K3.out.cell 19).trans rfl
  have d1c : w2.cell? ⟨N2, 20, none⟩ = some (.slice A2 n2 c2) := (K3.out.cell 20).trans rfl
  by_cases hk : k1 = k2
  · subst hk
    by_cases hm : m1 = m2
    · subst hm
      go_wp2_with fail
      refine (HE.out _ HB.out).mono ?_
      rintro e w9 ⟨r, rfl, hr, b1⟩
      have HR := Lib.hid hr
      have HB9 := Lib.hid (HB.out.trans (b1.mono HB.out.size))
      clear hr b1
      go_wp2_with fail
      go_ret
      unfold EqQ
      exact ⟨r, rfl, ⟨fun h => ⟨rfl, rfl, HR.out.1 h⟩, fun h => HR.out.2 h.2.2⟩, HB9.out⟩
    · have hmf : (m1 == m2) = false := by simpa using hm
      go_wp2_with fail
      go_ret
      unfold EqQ
      exact ⟨false, rfl, ⟨(fun h => by cases h), fun h => absurd h.2.1 hm⟩, HB.out⟩
  · have hkf : (k1 == k2) = false := by simpa using hk
    go_wp2_with fail
    go_ret
    unfold EqQ
    exact ⟨false, rfl, ⟨(fun h => by cases h), fun h => absurd h.1 hk⟩, HB.out⟩
end Go.Proofs.Ytjnbemopfhinbaa
