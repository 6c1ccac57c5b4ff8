/- Texts of this claim put together; each theorem states its conditions. -/
import Derived.Test.YtkiaijmhoikdiaaGStoreCompares4
import Derived.Test.YtkiaijmhoikdiaaGStoreCompares3
import Derived.Stop.BytesEq
import Derived.Laws.StructEq
import Derived.Laws.Cover1
import Derived.Test.YtkiaijmhoikdiaaGStoreCompares7
import Derived.Test.YtkiaijmhoikdiaaGStoreCompares2
import Derived.Test.YtkiaijmhoikdiaaGStoreCompares1
/- The document's order of IDs, and its ends. Each theorem states its conditions. -/
namespace Go.Proofs.Ytkiaijmhoikdiaa
open Go.RowKit
set_option linter.unusedVariables false
set_option linter.unusedSimpArgs false

def mxI : Nat := 18446744073709551615
theorem le_mx {n : Nat} (h : IdOk n) : n ≤ mxI := by unfold IdOk at h; unfold mxI; omega
/-- the same down to the k-th byte -/
def UpTo (x y k : Nat) : Prop := match k with
  | 0 => True
  | k + 1 => x / pw k = y / pw k
theorem upTo_step {x y k : Nat} (hx : IdOk x) (hy : IdOk y) (hk : k < 8) (h : UpTo x y k) (hd : dg x k = dg y k) : UpTo x y (k + 1) := by
  unfold IdOk at hx hy
  rcases (by omega : k = 0 ∨ k = 1 ∨ k = 2 ∨ k = 3 ∨ k = 4 ∨ k = 5 ∨ k = 6 ∨ k = 7) with rfl | rfl | rfl | rfl | rfl | rfl | rfl | rfl <;> simp only [UpTo, dg, pw] at h hd ⊢ <;> omega
theorem upTo_all {x y : Nat} (h : UpTo x y 8) : x = y := by
  simp only [UpTo, pw] at h
  omega
theorem upTo_lt {x y k : Nat} (hx : IdOk x) (hy : IdOk y) (hk : k < 8) (h : UpTo x y k) (hd : dg x k ≠ dg y k) : decide (dg x k < dg y k) = decide (x < y) := by
  unfold IdOk at hx hy
  have e : (dg x k < dg y k) ↔ x < y := by
    rcases (by omega : k = 0 ∨ k = 1 ∨ k = 2 ∨ k = 3 ∨ k = 4 ∨ k = 5 ∨ k = 6 ∨ k = 7) with rfl | rfl | rfl | rfl | rfl | rfl | rfl | rfl <;> simp only [UpTo, dg, pw] at h hd ⊢ <;> omega
  simp only [e]
set_option maxHeartbeats 8000000 in
set_option maxRecDepth 100000 in
theorem less_any (x y : Nat) (w : World) (hx : IdOk x) (hy : IdOk y) : Calls Try.prog 25 #[.agg (iC x), .agg (iC y)] w fun e w' => e = .returned (.bool (decide (x < y))) ∧ Below w.heap.size w w' := by
  have HX := Lib.hid hx
  have HY := Lib.hid hy
  clear hx hy
  go_enter Try.func25, Try.ntmps25
  have HB := Lib.hid (Below.refl w.heap.size w)
  obtain ⟨N1, hN1⟩ : ∃ N, w.heap.size = N := ⟨_, rfl⟩
  have HN1 := Lib.hid hN1
  clear hN1
  go_wp2_with (refine wpList_box (op := ⟨some 2, _, _, _, _, _⟩) rfl 28 (.tmp 0) rfl (iC x) rfl N1 HN1.out ?_; intro w1 k1 b1 s1; refine Hid.out ?_)
  refine Lib.hid ?_
  have K2 := Lib.hid k1
  clear k1
  have le_HB_N1 : w.heap.size ≤ N1 := by rw [← HN1.out]; exact HB.out.size
  have HBn := Lib.hid (HB.out.trans (b1.mono HB.out.size))
  clear HB
  have HB := HBn
  clear HBn
  clear b1 HN1
  obtain ⟨N2, hN2⟩ : ∃ N, w1.heap.size = N := ⟨_, rfl⟩
  have HN2 := Lib.hid hN2
  clear hN2
  go_wp2_with (refine wpList_box (op := ⟨some 3, _, _, _, _, _⟩) rfl 28 (.tmp 1) rfl (iC y) rfl N2 HN2.out ?_; intro w2 k1 b1 s1; refine Hid.out ?_)
  refine Lib.hid ?_
  have K3 := Lib.hid k1
  clear k1
  have lt_N1_N2 : N1 < N2 := by rw [← HN2.out]; exact K2.out.lt
  have le_HB_N2 : w.heap.size ≤ N2 := by rw [← HN2.out]; exact HB.out.size
  have K2n := Lib.hid (K2.out.below b1 K2.out.lt)
  clear K2
  have K2 := K2n
  clear K2n
  have HBn := Lib.hid (HB.out.trans (b1.mono HB.out.size))
  clear HB
  have HB := HBn
  clear HBn
  clear b1 HN2
  go_wp2_with fail
  refine wp_region_held_drew (S := fun w' => Blk 28 w' N1 (iC x) ∧ Blk 28 w' N2 (iC y) ∧ Below w.heap.size w w') (by kernel_rfl) ⟨K2.out, K3.out, HB.out.drew⟩ (fun hS => ?_)
  generalize hW3 : w2.drew = W3 at hS  ⊢
  clear hW3
  clear K2
  clear K3
  clear HB
  have K2 := Lib.hid hS.1
  have K3 := Lib.hid hS.2.1
  have HB := Lib.hid hS.2.2
  refine takeL (i := 0) (some 8) 28 (.tmp 2) N1 0 (iC x) _ rfl rfl (by kernel_rfl) (by kernel_rfl) (by kernel_rfl) (fun _ _ _ h => h) (by rfl) rfl rfl (fun w' hS => hS.1.all) Try.underlying28 rfl info_iC hS ?_
  simp only [Act.put, List.setIfInBounds_toArray, List.set_cons_zero, List.set_cons_succ]
  refine takeL (i := 2) (some 10) 28 (.tmp 3) N2 0 (iC y) _ rfl rfl (by kernel_rfl) (by kernel_rfl) (by kernel_rfl) (fun _ _ _ h => h) (by rfl) rfl rfl (fun w' hS => hS.2.1.all) Try.underlying28 rfl info_iC hS ?_
  simp only [Act.put, List.setIfInBounds_toArray, List.set_cons_zero, List.set_cons_succ]
  refine takeCE (i := 1) (some 9) 49 #[.agg (iC x)] (R := fun v w' => OwnB w' W3.heap.size v 8 (dg x) ∧ Below W3.heap.size W3 w') rfl rfl (by kernel_rfl) (by rfl) (by go_simp) (refID_any (dg x) W3 (dg_bd x)) (fun v w' h => by obtain ⟨ho, b1⟩ := h; exact ⟨hS.1.below b1 hS.1.lt, hS.2.1.below b1 hS.2.1.lt, hS.2.2.trans (b1.mono hS.2.2.size)⟩) (fun v W4 h hS2 => ?_)
  obtain ⟨ho, b1⟩ := h
  clear hS2
  simp only [Act.put, List.setIfInBounds_toArray, List.set_cons_zero, List.set_cons_succ]
  obtain ⟨Ax, cx, rfl, _⟩ := ho.shape
  have HP : Hid (OwnB W4 W3.heap.size (.slice Ax 8 cx) 8 (dg x)) := Lib.hid ho
  clear ho
  have K2n := Lib.hid (K2.out.below b1 K2.out.lt)
  clear K2
  have K2 := K2n
  clear K2n
  have K3n := Lib.hid (K3.out.below b1 K3.out.lt)
  clear K3
  have K3 := K3n
  clear K3n
  have HBn := Lib.hid (HB.out.trans (b1.mono HB.out.size))
  clear HB
  have HB := HBn
  clear HBn
  clear b1 hS
  have hS := (And.intro K2.out (And.intro K3.out HB.out))
  refine takeCE (i := 3) (some 11) 49 #[.agg (iC y)] (R := fun v w' => OwnB w' W4.heap.size v 8 (dg y) ∧ Below W4.heap.size W4 w') rfl rfl (by kernel_rfl) (by rfl) (by go_simp) (refID_any (dg y) W4 (dg_bd y)) (fun v w' h => by obtain ⟨ho, b1⟩ := h; exact ⟨hS.1.below b1 hS.1.lt, hS.2.1.below b1 hS.2.1.lt, hS.2.2.trans (b1.mono hS.2.2.size)⟩) (fun v W5 h hS2 => ?_)
  obtain ⟨ho, b1⟩ := h
  clear hS2
  simp only [Act.put, List.setIfInBounds_toArray, List.set_cons_zero, List.set_cons_succ]
  obtain ⟨Ay, cy, rfl, _⟩ := ho.shape
  have HQz : Hid (OwnB W5 W4.heap.size (.slice Ay 8 cy) 8 (dg y)) := Lib.hid ho
  clear ho
  have HPn := Lib.hid (HP.out.below b1)
  clear HP
  have HP := HPn
  clear HPn
  have K2n := Lib.hid (K2.out.below b1 K2.out.lt)
  clear K2
  have K2 := K2n
  clear K2n
  have K3n := Lib.hid (K3.out.below b1 K3.out.lt)
  clear K3
  have K3 := K3n
  clear K3n
  have HBn := Lib.hid (HB.out.trans (b1.mono HB.out.size))
  clear HB
  have HB := HBn
  clear HBn
  clear b1 hS
  have hS := (And.intro K2.out (And.intro K3.out HB.out))
  have HQ := HQz
  clear HQz
  refine takeY (i := 4) (some 5) (v := .slice Ax 8 cx) rfl rfl (by kernel_rfl) (by kernel_rfl) (by kernel_rfl) (fun _ _ _ h => h) (by rfl) (fun w' hS => by clear hS; go_simp) hS ?_
  simp only [Act.put, List.setIfInBounds_toArray, List.set_cons_zero, List.set_cons_succ]
  refine takeY (i := 5) (some 6) (v := .slice Ay 8 cy) rfl rfl (by kernel_rfl) (by kernel_rfl) (by kernel_rfl) (fun _ _ _ h => h) (by rfl) (fun w' hS => by clear hS; go_simp) hS ?_
  simp only [Act.put, List.setIfInBounds_toArray, List.set_cons_zero, List.set_cons_succ]
  clear hS
  refine wpAnyH_done (by kernel_rfl) ?_ _
  obtain ⟨_, _, e1, _, _, _, r1⟩ := HP.out.shape
  cases e1
  obtain ⟨b1, o1, rfl, h1⟩ := r1.row (by decide)
  obtain ⟨_, _, e2, _, _, _, r2⟩ := HQ.out.shape
  cases e2
  obtain ⟨b2, o2, rfl, h2⟩ := r2.row (by decide)
  have hc1 := h1.2.1
  have hc2 := h2.2.1
  clear r1 r2 h1 h2 HP HQ K2 K3
  go_wp2_with fail
  go_loopw [14] (fun t wr => ∃ k m : Nat, k ≤ 8 ∧ t = .int .i64 k ∧ wr = W5.drewN m ∧ Hid (UpTo x y k)) (fun t _ => 8 - (intOf t).toNat)
  case atStart => exact ⟨0, 0, by omega, rfl, rfl, Lib.hid trivial⟩
  case round =>
    obtain ⟨k, m, hk, rfl, rfl, HU⟩ := hrel
    by_cases hlt : k < 8
    · have HLT := Lib.hid hlt
      have g1 := hc1 k hlt
      have g2 := hc2 k hlt
      have HB2 : Hid (∀ r, Below w.heap.size w (W5.drewN r)) := Lib.hid (fun r => ⟨HB.out.os, HB.out.tape, HB.out.output, HB.out.size, HB.out.block⟩)
      obtain ⟨a, ha⟩ : ∃ a, dg x k = a := ⟨_, rfl⟩
      obtain ⟨b, hb⟩ : ∃ a, dg y k = a := ⟨_, rfl⟩
      rw [ha] at g1
      rw [hb] at g2
      have HA := Lib.hid ha
      have HBb := Lib.hid hb
      clear ha hb hc1 hc2
      have hlt2 : (k : Int) < 8 := by omega
      by_cases hab : a = b
      · have HAB : Hid (dg x k = dg y k) := Lib.hid (by rw [HA.out, HBb.out, hab])
        subst hab
        go_wp2
        go_region
        go_wp2
        go_roundw
        case rel => exact ⟨k + 1, m + 1, by omega, by go_num, rfl, Lib.hid (upTo_step HX.out HY.out HLT.out HU.out HAB.out)⟩
        case measure => simp [intOf]; omega
      · have HAB : Hid (decide (a < b) = decide (x < y)) := Lib.hid (by rw [← HA.out, ← HBb.out]; exact upTo_lt HX.out HY.out HLT.out HU.out (by rw [HA.out, HBb.out]; exact hab))
        have hne : (a != b) = true := by simpa using hab
        go_wp2
        go_region
        go_wp2
        go_region
        go_wp2
        go_ret
        exact ⟨by first | (rw [← HAB.out]; done) | (rw [← HAB.out]; rfl) | simp [← HAB.out], HB2.out _⟩
    · obtain rfl : k = 8 := by omega
      have hxy := upTo_all HU.out
      have HE : Hid (decide (x < y) = false) := Lib.hid (by simp [hxy])
      clear hxy
      go_wp2
      go_ret
      exact ⟨by rw [HE.out]; rfl, ⟨HB.out.os, HB.out.tape, HB.out.output, HB.out.size, HB.out.block⟩⟩
end Go.Proofs.Ytkiaijmhoikdiaa

/- IDs held against one another. Each theorem states its conditions. -/
namespace Go.Proofs.Ytkiaijmhoikdiaa
open Go.RowKit
set_option linter.unusedVariables false

theorem num6_inj {y z : Nat → Int} (hy : byte6 y) (hz : byte6 z) (h : numZ y 0 6 = numZ z 0 6) : ∀ j, j < 6 → y j = z j := by
  have a0 := hy 0; have a1 := hy 1; have a2 := hy 2; have a3 := hy 3; have a4 := hy 4; have a5 := hy 5
  have b0 := hz 0; have b1 := hz 1; have b2 := hz 2; have b3 := hz 3; have b4 := hz 4; have b5 := hz 5
  simp only [numZ, Nat.zero_add] at h
  intro j hj
  rcases (by omega : j = 0 ∨ j = 1 ∨ j = 2 ∨ j = 3 ∨ j = 4 ∨ j = 5) with rfl | rfl | rfl | rfl | rfl | rfl <;> omega
/-- two names are alike -/
def eq6 (y z : Nat → Int) : Bool := numZ y 0 6 == numZ z 0 6
theorem eq6_iff {y z : Nat → Int} (hy : byte6 y) (hz : byte6 z) : eq6 y z = true ↔ ∀ j, j < 6 → y j = z j := by
  unfold eq6
  rw [beq_iff_eq]
  refine ⟨fun h => num6_inj hy hz h, fun h => ?_⟩
  simp only [numZ, Nat.zero_add, h 0 (by omega), h 1 (by omega), h 2 (by omega), h 3 (by omega), h 4 (by omega), h 5 (by omega)]
theorem u8_cell {a : Int} (h : 0 ≤ a ∧ a ≤ 255) : Extern.Stop.cell a.toNat.toUInt8 = .int .u8 a := by
  unfold Extern.Stop.cell
  congr 1
  simp only [Nat.toUInt8, UInt8.toNat_ofNat', Int.ofNat_eq_natCast]
  omega
theorem bytes_cells {z : Nat → Int} (h : byte6 z) : syC z = ((Lib.bytesOf (lst6 z)).map Extern.Stop.cell).toArray := by
  simp only [Lib.bytesOf, lst6, List.map_cons, List.map_nil, u8_cell (h _)]
  rfl
theorem u8_inj {a b : Int} (ha : 0 ≤ a ∧ a ≤ 255) (hb : 0 ≤ b ∧ b ≤ 255) (h : a.toNat.toUInt8 = b.toNat.toUInt8) : a = b := by
  have h2 := congrArg UInt8.toNat h
  simp only [Nat.toUInt8, UInt8.toNat_ofNat'] at h2
  omega
theorem bytes_eq6 {y z : Nat → Int} (hy : byte6 y) (hz : byte6 z) : (Lib.bytesOf (lst6 y) == Lib.bytesOf (lst6 z)) = eq6 y z := by
  rw [Bool.eq_iff_iff, eq6_iff hy hz, beq_iff_eq]
  refine ⟨fun h j hj => ?_, fun h => ?_⟩
  · simp only [Lib.bytesOf, lst6, List.map_cons, List.map_nil, List.cons.injEq, and_true] at h
    obtain ⟨h0, h1, h2, h3, h4, h5⟩ := h
    rcases (by omega : j = 0 ∨ j = 1 ∨ j = 2 ∨ j = 3 ∨ j = 4 ∨ j = 5) with rfl | rfl | rfl | rfl | rfl | rfl
    · exact u8_inj (hy _) (hz _) h0
    · exact u8_inj (hy _) (hz _) h1
    · exact u8_inj (hy _) (hz _) h2
    · exact u8_inj (hy _) (hz _) h3
    · exact u8_inj (hy _) (hz _) h4
    · exact u8_inj (hy _) (hz _) h5
  · simp only [Lib.bytesOf, lst6, h 0 (by omega), h 1 (by omega), h 2 (by omega), h 3 (by omega), h 4 (by omega), h 5 (by omega)]
theorem equal6 (t : TypeId) (ht : Try.prog.underlying t = some (.array 6 5)) (y z : Nat → Int) (hy : byte6 y) (hz : byte6 z) (d : Nat) (W : World) : (Op.equalIn (d + 2) t (.agg (syC y)) (.agg (syC z))).run Try.prog W = .ok (eq6 y z) W := by
  rw [bytes_cells hy, bytes_cells hz]
  rw [run_equalIn_bytes W d t 5 6 ht Try.underlying5 size_u8 _ _ (by simp [Lib.bytesOf, lst6]) (by simp [Lib.bytesOf, lst6]), bytes_eq6 hy hz]
theorem eqFields_two (d : Nat) (xs ys : Array Value) (T0 T1 : TypeId) (o0 o1 : Nat) (u0 v0 u1 v1 : Value) (r0 r1 : Bool) (w : World)
    (p0 : (part T0 xs o0).run Try.prog w = .ok u0 w) (q0 : (part T0 ys o0).run Try.prog w = .ok v0 w) (e0 : (Op.equalIn d T0 u0 v0).run Try.prog w = .ok r0 w)
    (p1 : (part T1 xs o1).run Try.prog w = .ok u1 w) (q1 : (part T1 ys o1).run Try.prog w = .ok v1 w) (e1 : (Op.equalIn d T1 u1 v1).run Try.prog w = .ok r1 w) :
    ∀ fs : List Field, fs.map (fun f => (f.type, f.offset, f.name == "_")) = [(T0, o0, false), (T1, o1, false)] → (Op.eqFields d xs ys fs).run Try.prog w = .ok (r0 && r1) w := by
  intro fs hl
  rcases fs with _ | ⟨f0, _ | ⟨f1, _ | ⟨f2, r⟩⟩⟩
  · simp at hl
  · simp at hl
  rotate_left
  · simp at hl
  · simp only [List.map_cons, List.map_nil, List.cons.injEq, Prod.mk.injEq, and_true, beq_eq_false_iff_ne] at hl
    obtain ⟨⟨rfl, rfl, n0⟩, rfl, rfl, n1⟩ := hl
    unfold Op.eqFields
    rw [if_pos n0]
    simp only [Sem.run_bind, p0, q0, e0, Result.andThen_ok]
    cases r0
    · rfl
    · unfold Op.eqFields
      rw [if_pos n1]
      simp only [Bool.not_true, Bool.false_eq_true, if_false, Sem.run_bind, p1, q1, e1, Result.andThen_ok]
      cases r1 <;> rfl

def nqC (n : Nat) : Array Value := #[.int .u8 (dg n 0), .int .u8 (dg n 1), .int .u8 (dg n 2), .int .u8 (dg n 3), .int .u8 (dg n 4), .int .u8 (dg n 5), .int .u8 (dg n 6)]
theorem guard_iq : Try.prog.eqGuardType Try.prog.depth 28 = false := by kernel_rfl
theorem fields_nq : (Try.prog.fieldsOf 26).toList.map (fun f => (f.type, f.offset, f.name == "_")) = [(24, 0, false), (5, 6, false)] := by kernel_rfl
theorem fields_iq : (Try.prog.fieldsOf 28).toList.map (fun f => (f.type, f.offset, f.name == "_")) = [(26, 0, false), (5, 7, false)] := by kernel_rfl
theorem equal_nd (x y : Nat) (W : World) : (Op.equalIn 9999 26 (.agg (nqC x)) (.agg (nqC y))).run Try.prog W = .ok (eq6 (dg x) (dg y) && (dg x 6 == dg y 6)) W := by
  rw [run_equalIn_struct W 9998 26 _ _ (by kernel_rfl) (by kernel_rfl)]
  exact eqFields_two 9998 (nqC x) (nqC y) 24 5 0 6 (.agg (syC (dg x))) (.agg (syC (dg y))) (.int .u8 (dg x 6)) (.int .u8 (dg y 6)) _ _ W (by kernel_rfl) (by kernel_rfl) (equal6 24 Try.underlying24 (dg x) (dg y) (dg_bd x) (dg_bd y) 9996 W) (by kernel_rfl) (by kernel_rfl) (by rw [run_equalIn_int W 9997 5 .u8 .u8 _ _ Try.underlying5]) _ fields_nq
theorem equal_id (x y : Nat) (W : World) : (Op.equalIn 10000 28 (.agg (iC x)) (.agg (iC y))).run Try.prog W = .ok ((eq6 (dg x) (dg y) && (dg x 6 == dg y 6)) && (dg x 7 == dg y 7)) W := by
  rw [run_equalIn_struct W 9999 28 _ _ (by kernel_rfl) (by kernel_rfl)]
  exact eqFields_two 9999 (iC x) (iC y) 26 5 0 7 (.agg (nqC x)) (.agg (nqC y)) (.int .u8 (dg x 7)) (.int .u8 (dg y 7)) _ _ W (by kernel_rfl) (by kernel_rfl) (equal_nd x y W) (by kernel_rfl) (by kernel_rfl) (by rw [run_equalIn_int W 9998 5 .u8 .u8 _ _ Try.underlying5]) _ fields_iq
theorem eq_ids {x y : Nat} (hx : IdOk x) (hy : IdOk y) : ((eq6 (dg x) (dg y) && (dg x 6 == dg y 6)) && (dg x 7 == dg y 7)) = (x == y) := by
  rw [Bool.eq_iff_iff]
  simp only [Bool.and_eq_true, beq_iff_eq, eq6_iff (dg_bd x) (dg_bd y)]
  constructor
  · rintro ⟨⟨h, h6⟩, h7⟩
    apply idC_inj hx hy
    simp only [iC, h 0 (by omega), h 1 (by omega), h 2 (by omega), h 3 (by omega), h 4 (by omega), h 5 (by omega), h6, h7]
  · rintro rfl
    exact ⟨⟨fun _ _ => rfl, rfl⟩, rfl⟩
theorem eql_id (o : Oper) (e : Operand → Value) (x y : Operand) (t' : TypeId) (ho : o.op = .binOp .eql 28 x y t') (htt : 28 = t') (a b : Nat) (ha : IdOk a) (hb : IdOk b) (h0 : e x = .agg (iC a)) (h1 : e y = .agg (iC b)) (W : World) :
    (execOp e o).run Try.prog W = .ok (.value (.bool (a == b))) W := by
  subst htt
  unfold execOp
  simp only [ho, h0, h1]
  simp [Sem.run_bind, run_eqGuard_agg _ _ _ _ _ _ _ guard_iq, run_eql_struct, equal_id a b W, eq_ids ha hb]
theorem neq_id (o : Oper) (e : Operand → Value) (x y : Operand) (t' : TypeId) (ho : o.op = .binOp .neq 28 x y t') (htt : 28 = t') (a b : Nat) (ha : IdOk a) (hb : IdOk b) (h0 : e x = .agg (iC a)) (h1 : e y = .agg (iC b)) (W : World) :
    (execOp e o).run Try.prog W = .ok (.value (.bool (!(a == b)))) W := by
  subst htt
  unfold execOp
  simp only [ho, h0, h1]
  simp [Sem.run_bind, run_eqGuard_agg _ _ _ _ _ _ _ guard_iq, run_neq_struct, equal_id a b W, eq_ids ha hb]
end Go.Proofs.Ytkiaijmhoikdiaa

/- The document's store in memory; its Entry, Age and Find. Each theorem states its conditions. -/
namespace Go.Proofs.Ytkiaijmhoikdiaa
open Go.RowKit Go.MapKept
set_option linter.unusedVariables false
set_option linter.unusedSimpArgs false

/-- one that the document holds -/
structure Rh where
  x : HdI
  g : Nat
  c : Nat
instance : Inhabited Rh := ⟨⟨default, 0, 0⟩⟩
def rhC (r : Rh) : Array Value := #[.int .u8 (dg r.x.1.id 0), .int .u8 (dg r.x.1.id 1), .int .u8 (dg r.x.1.id 2), .int .u8 (dg r.x.1.id 3), .int .u8 (dg r.x.1.id 4), .int .u8 (dg r.x.1.id 5), .int .u8 (dg r.x.1.id 6), .int .u8 (dg r.x.1.id 7), .int .u32 (r.x.1.sq : Int), .int .u16 (r.x.1.su : Int), .int .i64 r.x.1.li, .slice (some ⟨r.g, 0, none⟩) r.x.1.n r.c, .int .i64 r.x.1.pu]
def rhA (R : List Rh) : Nat → Array Value := fun j => rhC (R[j]?.getD default)
theorem rhC_one (r : Rh) : (rhC r).all (·.oneCell') = true := by kernel_rfl
theorem rhC_ones (r : Rh) : ∀ u ∈ (rhC r).toList, u.oneCell' = true := fun u hu => (Array.all_eq_true_iff_forall_mem.1 (rhC_one r)) u (Array.mem_toList_iff.1 hu)
theorem recs_rh (R : List Rh) : Recs 13 (rhA R) := fun j => ⟨rfl, rhC_ones _⟩
theorem rhA_at (R : List Rh) (j : Nat) (r : Rh) (h : R[j]? = some r) : rhA R j = rhC r := by unfold rhA; rw [h]; rfl
theorem info_rh : (Try.prog.info? 96).map (·.size) = some 13 := by kernel_rfl
def rhZ : Array Value := #[.int .u8 0, .int .u8 0, .int .u8 0, .int .u8 0, .int .u8 0, .int .u8 0, .int .u8 0, .int .u8 0, .int .u32 0, .int .u16 0, .int .i64 0, .slice none 0 0, .int .i64 0]
theorem zero_rh : (Try.prog.info? 96).map (·.zero) = some (some (.agg rhZ)) := by kernel_rfl
theorem infoA_rh : (Try.prog.info? 96).map (fun i => (i.zero, i.size, i.bytes)) = some (some (.agg rhZ), 13, 56) := by kernel_rfl
theorem rh_overZ (r : Rh) : putMany rhZ 0 (rhC r).toList = rhC r := by kernel_rfl
theorem rh_id {w : World} {g : Nat} {r : Rh} (k : Blk 96 w g (rhC r)) : w.rangeAt g 0 (iC r.x.1.id).toList := k.range (eight8 ⟨rfl, rfl, rfl, rfl, rfl, rfl, rfl, rfl⟩)
/-- its bytes are an LSP's -/
def RhOk (w : World) (r : Rh) : Prop := Own8 w r.g r.x.1.n r.c r.x.1.z ∧ cls (r.x.1.z 4) = 2 ∧ (27 ≤ r.x.1.n ∧ r.x.1.n ≤ 1492) ∧ ∃ m, GoodZ r.x.1.z r.x.1.n m
theorem RhOk.below {w w' : World} {r : Rh} (h : RhOk w r) (hb : Below w.heap.size w w') : RhOk w' r := ⟨Own8.below h.1 hb (Own8.lt h.1), h.2⟩
theorem RhOk.lt {w : World} {r : Rh} (h : RhOk w r) : r.g < w.heap.size := Own8.lt h.1
/-- the document's store at sr -/
structure RfAt (w : World) (B sr : Nat) (R : List Rh) (rf : Bool) : Prop where
  hs : B ≤ sr
  ok : ∀ r ∈ R, RhOk w r ∧ B ≤ r.g
  st : ∃ v, Blk 39 w sr #[v, .bool rf] ∧ OwnR w B 96 13 v R.length (rhA R)
section
variable {w w' : World} {B sr : Nat} {R : List Rh} {rf : Bool}
theorem RfAt.lt (h : RfAt w B sr R rf) : sr < w.heap.size := by obtain ⟨v, h1, _⟩ := h.st; exact h1.lt
theorem RfAt.below (h : RfAt w B sr R rf) (hb : Below w.heap.size w w') : RfAt w' B sr R rf := by
  obtain ⟨h1, h2, v, h3, h4⟩ := h
  exact ⟨h1, fun r hr => ⟨(h2 r hr).1.below hb, (h2 r hr).2⟩, v, h3.below hb h3.lt, h4.below hb⟩
theorem RfAt.open (h : RfAt w B sr R rf) : ∃ A c, Blk 39 w sr #[.slice A R.length c, .bool rf] ∧ R.length ≤ c ∧ c ≤ maxLen ∧ RdR w A R.length 13 (rhA R) ∧ OwnR w B 96 13 (.slice A R.length c) R.length (rhA R) := by
  obtain ⟨h1, h2, v, h3, h4⟩ := h
  obtain ⟨A, c, rfl, a1, a2, a3, a4⟩ := h4.shape (recs_rh R) (by decide)
  exact ⟨A, c, h3, a1, a2, a4, h4⟩
end
set_option maxHeartbeats 8000000 in
set_option maxRecDepth 100000 in
theorem entryR_any (r : Rh) (w : World) : Calls Try.prog 38 #[.agg (rhC r)] w fun e w' => e = .returned (.agg (enC (hdE r.x.1))) ∧ Below w.heap.size w w' := by
  go_enter Try.func38, Try.ntmps38
  have HB := Lib.hid (Below.refl w.heap.size w)
  obtain ⟨N1, hN1⟩ : ∃ N, w.heap.size = N := ⟨_, rfl⟩
  have HN1 := Lib.hid hN1
  clear hN1
  go_wp2_with (refine wpList_box (op := ⟨some 1, _, _, _, _, _⟩) rfl 96 (.tmp 0) rfl (rhC r) rfl N1 HN1.out ?_; intro w1 k1 b1 s1; refine Hid.out ?_)
  refine Lib.hid ?_
  have K1 := Lib.hid k1
  clear k1
  have le_HB_N1 : w.heap.size ≤ N1 := by rw [← HN1.out]; exact HB.out.size
  have HBn := Lib.hid (HB.out.trans (b1.mono HB.out.size))
  clear HB
  have HB := HBn
  clear HBn
  clear b1 HN1
  obtain ⟨N2, hN2⟩ : ∃ N, w1.heap.size = N := ⟨_, rfl⟩
  have HN2 := Lib.hid hN2
  clear hN2
  go_wp2_with (refine wpList_new (op := ⟨some 2, _, _, _, _, _⟩) rfl 32 rfl (enC en0) zero_en N2 HN2.out ?_; intro w2 k1 b1 s1; refine Hid.out ?_)
  refine Lib.hid ?_
  have K2 := Lib.hid k1
  clear k1
  have lt_N1_N2 : N1 < N2 := by rw [← HN2.out]; exact K1.out.lt
  have le_HB_N2 : w.heap.size ≤ N2 := by rw [← HN2.out]; exact HB.out.size
  have K1n := Lib.hid (K1.out.below b1 K1.out.lt)
  clear K1
  have K1 := K1n
  clear K1n
  have HBn := Lib.hid (HB.out.trans (b1.mono HB.out.size))
  clear HB
  have HB := HBn
  clear HBn
  clear b1 HN2
  obtain ⟨h, hh⟩ : ∃ h, r.x.1 = h := ⟨_, rfl⟩
  have HH := Lib.hid hh
  clear hh
  have c8 : w2.cell? ⟨N1, 8, none⟩ = some (.int .u32 (h.sq : Int)) := (K1.out.cell 8).trans (by rw [← HH.out]; rfl)
  have c9 : w2.cell? ⟨N1, 9, none⟩ = some (.int .u16 (h.su : Int)) := (K1.out.cell 9).trans (by rw [← HH.out]; rfl)
  have c10 : w2.cell? ⟨N1, 10, none⟩ = some (.int .i64 h.li) := (K1.out.cell 10).trans (by rw [← HH.out]; rfl)
  have HR1 : Hid (w2.rangeAt N1 0 (iC h.id).toList) := Lib.hid (by rw [← HH.out]; exact rh_id K1.out)
  go_wp2_with (refine wpList_ld (op := ⟨some 4, _, _, _, _, _⟩) (by rfl) 28 (.tmp 3) rfl N1 0 rfl (iC h.id) _ HR1.out Try.underlying28 rfl info_iC ?_; refine Hid.out ?_)
  refine Lib.hid ?_
  go_wp2_with (refine wpList_v (op := ⟨some 11, _, _, _, _, _⟩) rfl (.agg (enC (hdE h))) (build_enS _ _ _ _ _ _ rfl h.id h.sq h.su h.li rfl rfl rfl rfl _) ?_; refine Hid.out ?_)
  refine Lib.hid ?_
  clear c8 c9 c10 HR1
  go_wp2_with (refine wpList_st rfl 32 (.tmp 2) (.tmp 11) rfl N2 0 rfl (.agg (enC (hdE h))) (enC (hdE h)) rfl rfl info_enP (enC_all _) K2.out (Nat.le_of_ble_eq_true rfl) (C' := enC (hdE h)) (en_over _ _) ?_; intro w3 q1; refine Hid.out ?_)
  refine Lib.hid ?_
  have K1n := Lib.hid (K1.out.far q1 (by omega))
  clear K1
  have K1 := K1n
  clear K1n
  have HBn := Lib.hid (HB.out.trans (q1.2.1 _ (by omega)))
  clear HB
  have HB := HBn
  clear HBn
  have K2n : Hid (Blk 32 w3 N2 (enC (hdE h))) := Lib.hid q1.1
  clear K2
  have K2 := K2n
  clear K2n q1
  go_wp2_with fail
  exact bodyPost_ret (results_1 rfl _ w3 N2 (enC (hdE h)) Try.underlying32 rfl info_enP rfl K2.out) rfl ⟨by rw [HH.out], HB.out⟩
theorem relE_gt {a b : En} (h : (b.sq : Int) < (a.sq : Int)) : relE a b = 1 := by
  unfold relE
  have e : cmp3 (a.sq : Int) (b.sq : Int) = 1 := by unfold cmp3; rw [if_neg (by omega), if_pos h]
  rw [e]; rfl
theorem relE_lt {a b : En} (h : (a.sq : Int) < (b.sq : Int)) : relE a b = -1 := by
  unfold relE
  have e : cmp3 (a.sq : Int) (b.sq : Int) = -1 := by unfold cmp3; rw [if_pos h]
  rw [e]; rfl
theorem relE_eq {a b : En} (h : (a.sq : Int) = (b.sq : Int)) : relE a b = or2 (cmp3 (if a.li = 0 then 1 else 0) (if b.li = 0 then 1 else 0)) (cmp3 (a.su : Int) (b.su : Int)) := by
  unfold relE
  have e : cmp3 (a.sq : Int) (b.sq : Int) = 0 := by unfold cmp3; rw [if_neg (by omega), if_neg (by omega)]
  rw [e]; rfl
set_option maxHeartbeats 8000000 in
set_option maxRecDepth 100000 in
theorem ageR_any (a b : En) (w : World) : Calls Try.prog 37 #[.agg (enC a), .agg (enC b)] w fun e w' => e = .returned (.int .i64 (relE a b)) ∧ Below w.heap.size w w' := by
  obtain ⟨rl, hrl⟩ : ∃ v, relE a b = v := ⟨_, rfl⟩
  have HRL := Lib.hid hrl
  rw [hrl]
  clear hrl
  go_enter Try.func37, Try.ntmps37
  have HB := Lib.hid (Below.refl w.heap.size w)
  obtain ⟨N1, hN1⟩ : ∃ N, w.heap.size = N := ⟨_, rfl⟩
  have HN1 := Lib.hid hN1
  clear hN1
  go_wp2_with (refine wpList_box (op := ⟨some 2, _, _, _, _, _⟩) rfl 32 (.tmp 0) rfl (enC a) rfl N1 HN1.out ?_; intro w1 k1 b1 s1; refine Hid.out ?_)
  refine Lib.hid ?_
  have K2 := Lib.hid k1
  clear k1
  have le_HB_N1 : w.heap.size ≤ N1 := by rw [← HN1.out]; exact HB.out.size
  have HBn := Lib.hid (HB.out.trans (b1.mono HB.out.size))
  clear HB
  have HB := HBn
  clear HBn
  clear b1 HN1
  obtain ⟨N2, hN2⟩ : ∃ N, w1.heap.size = N := ⟨_, rfl⟩
  have HN2 := Lib.hid hN2
  clear hN2
  go_wp2_with (refine wpList_box (op := ⟨some 3, _, _, _, _, _⟩) rfl 32 (.tmp 1) rfl (enC b) rfl N2 HN2.out ?_; intro w2 k1 b1 s1; refine Hid.out ?_)
  refine Lib.hid ?_
  have K3 := Lib.hid k1
  clear k1
  have lt_N1_N2 : N1 < N2 := by rw [← HN2.out]; exact K2.out.lt
  have le_HB_N2 : w.heap.size ≤ N2 := by rw [← HN2.out]; exact HB.out.size
  have K2n := Lib.hid (K2.out.below b1 K2.out.lt)
  clear K2
  have K2 := K2n
  clear K2n
  have HBn := Lib.hid (HB.out.trans (b1.mono HB.out.size))
  clear HB
  have HB := HBn
  clear HBn
  clear b1 HN2
  have sa : w2.cell? ⟨N1, 8, none⟩ = some (.int .u32 (a.sq : Int)) := (K2.out.cell 8).trans rfl
  have la : w2.cell? ⟨N1, 9, none⟩ = some (.int .i64 a.li) := (K2.out.cell 9).trans rfl
  have ua : w2.cell? ⟨N1, 10, none⟩ = some (.int .u16 (a.su : Int)) := (K2.out.cell 10).trans rfl
  have sb : w2.cell? ⟨N2, 8, none⟩ = some (.int .u32 (b.sq : Int)) := (K3.out.cell 8).trans rfl
  have lb : w2.cell? ⟨N2, 9, none⟩ = some (.int .i64 b.li) := (K3.out.cell 9).trans rfl
  have ub : w2.cell? ⟨N2, 10, none⟩ = some (.int .u16 (b.su : Int)) := (K3.out.cell 10).trans rfl
  obtain ⟨asq, has⟩ : ∃ n : Int, (a.sq : Int) = n := ⟨_, rfl⟩
  obtain ⟨bsq, hbs⟩ : ∃ n : Int, (b.sq : Int) = n := ⟨_, rfl⟩
  obtain ⟨asu, hau⟩ : ∃ n : Int, (a.su : Int) = n := ⟨_, rfl⟩
  obtain ⟨bsu, hbu⟩ : ∃ n : Int, (b.su : Int) = n := ⟨_, rfl⟩
  obtain ⟨ali, hal⟩ : ∃ n : Int, a.li = n := ⟨_, rfl⟩
  obtain ⟨bli, hbl⟩ : ∃ n : Int, b.li = n := ⟨_, rfl⟩
  rw [has] at sa
  rw [hbs] at sb
  rw [hau] at ua
  rw [hbu] at ub
  rw [hal] at la
  rw [hbl] at lb
  have HGT : Hid (bsq < asq → rl = 1) := Lib.hid (fun h => by rw [← HRL.out]; exact relE_gt (by rw [has, hbs]; exact h))
  have HLT : Hid (asq < bsq → rl = -1) := Lib.hid (fun h => by rw [← HRL.out]; exact relE_lt (by rw [has, hbs]; exact h))
  have HEQ : Hid (asq = bsq → rl = or2 (cmp3 (if ali = 0 then 1 else 0) (if bli = 0 then 1 else 0)) (cmp3 asu bsu)) := Lib.hid (fun h => by rw [← HRL.out, relE_eq (by rw [has, hbs]; exact h), hal, hbl, hau, hbu])
  clear has hbs hau hbu hal hbl K2 K3 HRL
  by_cases h1 : asq = bsq
  · have HQ := Lib.hid (HEQ.out h1)
    have n1 : (asq != bsq) = false := by simp [h1]
    clear h1 HGT HLT HEQ
    by_cases z1 : ali = 0
    · by_cases z2 : bli = 0
      · skip
        have f1 : (ali == 0) = true := by simp [z1]
        have f2 : (bli == 0) = true := by simp [z2]
        have HV : Hid (rl = cmp3 asu bsu) := Lib.hid (by rw [HQ.out, if_pos z1, if_pos z2]; rfl)
        clear z1 z2 HQ
        by_cases h3 : asu = bsu
        · have n3 : (asu != bsu) = false := by simp [h3]
          have HW : Hid (rl = 0) := Lib.hid (by rw [HV.out, h3]; unfold cmp3; rw [if_neg (by omega), if_neg (by omega)])
          clear h3
          go_wp2_with fail
          go_ret
          exact ⟨by rw [HW.out]; rfl, HB.out⟩
        · have n3 : (asu != bsu) = true := by simpa using h3
          by_cases h4 : bsu < asu
          · have HW : Hid (rl = 1) := Lib.hid (by rw [HV.out]; unfold cmp3; rw [if_neg (by omega), if_pos h4])
            clear h3
            go_wp2_with fail
            go_ret
            exact ⟨by rw [HW.out]; rfl, HB.out⟩
          · have HW : Hid (rl = -1) := Lib.hid (by rw [HV.out]; unfold cmp3; rw [if_pos (by omega)])
            clear h3
            go_wp2_with fail
            go_ret
            exact ⟨by rw [HW.out]; rfl, HB.out⟩
      · skip
        have f1 : (ali == 0) = true := by simp [z1]
        have f2 : (bli == 0) = false := by simp [z2]
        have HV : Hid (rl = 1) := Lib.hid (by rw [HQ.out, if_pos z1, if_neg z2]; rfl)
        clear z1 z2 HQ
        go_wp2_with fail
        go_ret
        exact ⟨by rw [HV.out]; rfl, HB.out⟩
    · by_cases z2 : bli = 0
      · skip
        have f1 : (ali == 0) = false := by simp [z1]
        have f2 : (bli == 0) = true := by simp [z2]
        have HV : Hid (rl = -1) := Lib.hid (by rw [HQ.out, if_neg z1, if_pos z2]; rfl)
        clear z1 z2 HQ
        go_wp2_with fail
        go_ret
        exact ⟨by rw [HV.out]; rfl, HB.out⟩
      · skip
        have f1 : (ali == 0) = false := by simp [z1]
        have f2 : (bli == 0) = false := by simp [z2]
        have HV : Hid (rl = cmp3 asu bsu) := Lib.hid (by rw [HQ.out, if_neg z1, if_neg z2]; rfl)
        clear z1 z2 HQ
        by_cases h3 : asu = bsu
        · have n3 : (asu != bsu) = false := by simp [h3]
          have HW : Hid (rl = 0) := Lib.hid (by rw [HV.out, h3]; unfold cmp3; rw [if_neg (by omega), if_neg (by omega)])
          clear h3
          go_wp2_with fail
          go_ret
          exact ⟨by rw [HW.out]; rfl, HB.out⟩
        · have n3 : (asu != bsu) = true := by simpa using h3
          by_cases h4 : bsu < asu
          · have HW : Hid (rl = 1) := Lib.hid (by rw [HV.out]; unfold cmp3; rw [if_neg (by omega), if_pos h4])
            clear h3
            go_wp2_with fail
            go_ret
            exact ⟨by rw [HW.out]; rfl, HB.out⟩
          · have HW : Hid (rl = -1) := Lib.hid (by rw [HV.out]; unfold cmp3; rw [if_pos (by omega)])
            clear h3
            go_wp2_with fail
            go_ret
            exact ⟨by rw [HW.out]; rfl, HB.out⟩
  · have n1 : (asq != bsq) = true := by simpa using h1
    by_cases h2 : bsq < asq
    · have HV := Lib.hid (HGT.out h2)
      clear h1 HGT HLT HEQ
      go_wp2_with fail
      go_ret
      exact ⟨by rw [HV.out]; rfl, HB.out⟩
    · have HV := Lib.hid (HLT.out (by omega))
      clear h1 HGT HLT HEQ
      go_wp2_with fail
      go_ret
      exact ⟨by rw [HV.out]; rfl, HB.out⟩
/-- where one of that ID stands -/
def FindR (R : List Rh) (n : Nat) (w : World) (e : Ending) (w' : World) : Prop := ∃ i : Int, e = .returned (.int .i64 i) ∧ Below w.heap.size w w' ∧ ((i = -1 ∧ ∀ (j : Nat) (r : Rh), R[j]? = some r → r.x.1.id ≠ n) ∨ ∃ (k : Nat) (r : Rh), i = (k : Int) ∧ R[k]? = some r ∧ r.x.1.id = n)
set_option maxHeartbeats 8000000 in
set_option maxRecDepth 100000 in
theorem findR_any (B sr n : Nat) (R : List Rh) (rf : Bool) (w : World) (h : RfAt w B sr R rf) (hn : IdOk n) : Calls Try.prog 36 #[.pointer (some ⟨sr, 0, none⟩), .agg (iC n)] w (FindR R n w) := by
  have HN := Lib.hid hn
  obtain ⟨A, c, hst, hc1, hc2, hrd, _⟩ := h.open
  have KS := Lib.hid hst
  have HRD := Lib.hid hrd
  obtain ⟨m, hm⟩ : ∃ m, R.length = m := ⟨_, rfl⟩
  have HM := Lib.hid hm
  have hmI : (m : Int) ≤ 9223372036854775807 := by have h9 : maxLen = 9223372036854775807 := rfl; omega
  rw [hm] at HRD KS
  clear h hn hst hrd hm hc1 hc2
  go_enter Try.func36, Try.ntmps36
  have HB := Lib.hid (Below.refl w.heap.size w)
  obtain ⟨N1, hN1⟩ : ∃ N, w.heap.size = N := ⟨_, rfl⟩
  have HN1 := Lib.hid hN1
  clear hN1
  go_wp2_with (refine wpList_box (op := ⟨some 3, _, _, _, _, _⟩) rfl 28 (.tmp 1) rfl (iC n) rfl N1 HN1.out ?_; intro w1 k1 b1 s1; refine Hid.out ?_)
  refine Lib.hid ?_
  have K3 := Lib.hid k1
  clear k1
  have lt_sr_N1 : sr < N1 := by rw [← HN1.out]; exact KS.out.lt
  have le_HB_N1 : w.heap.size ≤ N1 := by rw [← HN1.out]; exact HB.out.size
  have KSn := Lib.hid (KS.out.below b1 KS.out.lt)
  clear KS
  have KS := KSn
  clear KSn
  have HBn := Lib.hid (HB.out.trans (b1.mono HB.out.size))
  clear HB
  have HB := HBn
  clear HBn
  clear b1 HN1
  have c0 : w1.cell? ⟨sr, 0, none⟩ = some (.slice A m c) := (KS.out.cell 0).trans rfl
  go_wp2_with fail
  clear c0 KS
  obtain ⟨BL, hBL⟩ : ∃ N, w1.heap.size = N := ⟨_, rfl⟩
  have HBL := Lib.hid hBL
  have le_BL : w.heap.size ≤ BL := by rw [← hBL]; exact HB.out.size
  clear hBL
  go_loopw [12] (fun t wr => ∃ i : Nat, i ≤ m ∧ t = .int .i64 i ∧ Hid (Below BL w1 wr) ∧ Hid (∀ (j : Nat) (r : Rh), j < i → R[j]? = some r → r.x.1.id ≠ n)) (fun t _ => m - (intOf t).toNat)
  case atStart => exact ⟨0, by omega, rfl, Lib.hid (Below.refl _ _), Lib.hid (fun j r hj => by omega)⟩
  case round =>
    obtain ⟨i, hi, rfl, HQ, HNO⟩ := hrel
    have HF : Hid (Below w.heap.size w wr) := Lib.hid (HB.out.trans (HQ.out.mono le_BL))
    by_cases hlt : i < m
    · have hki : (i : Int) < (m : Int) := by omega
      obtain ⟨bA, off, rfl, hr⟩ := HRD.out.row (by omega)
      obtain ⟨r, hx⟩ : ∃ r, R[i]? = some r := ⟨_, List.getElem?_eq_getElem (by rw [HM.out]; exact hlt)⟩
      have HX := Lib.hid hx
      have h1 : Hid (wr.rangeAt bA (off + i * 13) (rhC r).toList) := Lib.hid (by have h9 := rangeAt_below (rangeAt_below (hr.2 i hlt) HB.out hr.1) HQ.out (by have := hr.1; omega); rw [rhA_at R i r hx] at h9; exact h9)
      clear hr hx
      go_wp2_with (refine wpList_ld (op := ⟨some 16, _, _, _, _, _⟩) (by rfl) 96 (.tmp 15) rfl bA (off + i * 13) rfl (rhC r) _ h1.out Try.underlying96 rfl info_rh ?_; refine Hid.out ?_)
      refine Lib.hid ?_
      clear h1
      obtain ⟨N6, hN6⟩ : ∃ N, wr.heap.size = N := ⟨_, rfl⟩
      have HN6 := Lib.hid hN6
      clear hN6
      go_wp2_with (refine wpList_new (op := ⟨some 6, _, _, _, _, _⟩) rfl 96 rfl rhZ zero_rh N6 HN6.out ?_; intro w5 k1 b1 s9; refine Hid.out ?_)
      refine Lib.hid ?_
      have K6 := Lib.hid k1
      have HB1 := Lib.hid b1
      clear k1 b1 s9
      go_wp2_with (refine wpList_st rfl 96 (.tmp 6) (.tmp 16) rfl N6 0 rfl (.agg (rhC r)) (rhC r) rfl rfl info_rh (rhC_one _) K6.out (Nat.le_of_ble_eq_true rfl) (C' := rhC r) (rh_overZ _) ?_; intro w6 q1; refine Hid.out ?_)
      refine Lib.hid ?_
      have b1 : Below wr.heap.size wr w6 := HB1.out.trans (q1.2.1 _ (by rw [HN6.out]; exact Nat.le_refl _))
      have K6n : Hid (Blk 96 w6 N6 (rhC r)) := Lib.hid q1.1
      clear K6
      have K6 := K6n
      clear K6n q1 HB1 HN6
      have HQn : Hid (Below BL w1 w6) := Lib.hid (HQ.out.trans (b1.mono (by have := HQ.out.size; rw [HBL.out] at this; exact this)))
      clear HQ
      have HQ := HQn
      clear HQn
      have HFn : Hid (Below w.heap.size w w6) := Lib.hid (HF.out.trans (b1.mono HF.out.size))
      clear HF
      have HF := HFn
      clear HFn
      clear b1
      have K3w := Lib.hid (K3.out.below HQ.out (by rw [← HBL.out]; exact K3.out.lt))
      go_wp2_with (refine wpList_ld (op := ⟨some 18, _, _, _, _, _⟩) (by rfl) 28 (.tmp 17) rfl N6 0 rfl (iC r.x.1.id) _ (rh_id K6.out) Try.underlying28 rfl info_iC ?_; refine Hid.out ?_)
      refine Lib.hid ?_
      go_wp2_with (refine wpList_ld (op := ⟨some 19, _, _, _, _, _⟩) (by rfl) 28 (.tmp 3) rfl N1 0 rfl (iC n) _ K3w.out.all Try.underlying28 rfl info_iC ?_; refine Hid.out ?_)
      refine Lib.hid ?_
      go_wp2_with (refine wpList_v (op := ⟨some 20, _, _, _, _, _⟩) rfl (.bool (r.x.1.id == n)) (eql_id _ _ _ _ _ rfl rfl r.x.1.id n r.x.2 HN.out rfl rfl _) ?_; refine Hid.out ?_)
      refine Lib.hid ?_
      clear K6 K3w
      obtain ⟨q, hq⟩ : ∃ q, (r.x.1.id == n) = q := ⟨_, rfl⟩
      rw [hq]
      have HQQ := Lib.hid hq
      clear hq
      cases q with
      | true =>
        go_wp2_with fail
        go_ret
        exact ⟨_, rfl, HF.out, .inr ⟨i, r, rfl, HX.out, by simpa using HQQ.out⟩⟩
      | false =>
        go_wp2_with fail
        go_roundw
        case rel => exact ⟨i + 1, by omega, by go_num, HQ, Lib.hid (fun j r9 hj h9 => by
          by_cases e : j = i
          · subst e; rw [HX.out] at h9; cases h9; simpa using HQQ.out
          · exact HNO.out j r9 (by omega) h9)⟩
        case measure => simp only [intOf]; omega
    · obtain rfl : m = i := by omega
      go_wp2_with fail
      go_ret
      exact ⟨_, rfl, HF.out, .inl ⟨rfl, fun j r h9 => HNO.out j r (by rw [← HM.out]; exact (List.getElem?_eq_some_iff.1 h9).1) h9⟩⟩
end Go.Proofs.Ytkiaijmhoikdiaa

/- The document's Newer: how one that is held stands to another. Each theorem states its conditions. -/
namespace Go.Proofs.Ytkiaijmhoikdiaa
open Go.RowKit Go.MapKept
set_option linter.unusedVariables false
set_option linter.unusedSimpArgs false

theorem cmpL_first : ∀ (n m i : Nat) (f g : Nat → Int), i < n → i < m → (∀ j, j < i → f j = g j) → f i ≠ g i → cmpL ((List.range n).map f) ((List.range m).map g) = if g i < f i then 1 else -1
  | 0, _, _, _, _, h, _, _, _ => by omega
  | _, 0, _, _, _, _, h, _, _ => by omega
  | n + 1, m + 1, 0, f, g, _, _, _, hne => by
    rw [List.range_succ_eq_map, List.range_succ_eq_map]
    simp only [List.map_cons]
    unfold cmpL
    by_cases h : f 0 < g 0
    · rw [if_pos h, if_neg (by omega)]
    · rw [if_neg h, if_pos (by omega), if_pos (by omega)]
  | n + 1, m + 1, i + 1, f, g, hn, hm, he, hne => by
    rw [List.range_succ_eq_map, List.range_succ_eq_map]
    simp only [List.map_cons, List.map_map]
    unfold cmpL
    have h0 := he 0 (by omega)
    rw [if_neg (by omega), if_neg (by omega)]
    exact cmpL_first n m i (f ∘ Nat.succ) (g ∘ Nat.succ) (by omega) (by omega) (fun j hj => he (j + 1) (by omega)) hne
theorem cmpL_self : ∀ a : List Int, cmpL a a = 0
  | [] => rfl
  | x :: xs => by
    unfold cmpL
    rw [if_neg (by omega), if_neg (by omega)]
    exact cmpL_self xs
theorem lstZ_first {y z : Nat → Int} {a n m i : Nat} (hn : i < n) (hm : i < m) (he : ∀ j, j < i → y (a + j) = z (a + j)) (hne : y (a + i) ≠ z (a + i)) : cmpL (lstZ y a n) (lstZ z a m) = if z (a + i) < y (a + i) then 1 else -1 :=
  cmpL_first n m i (fun j => y (a + j)) (fun j => z (a + j)) hn hm he hne
theorem lstZ_same {y z : Nat → Int} {a n : Nat} (he : ∀ j, j < n → y (a + j) = z (a + j)) : cmpL (lstZ y a n) (lstZ z a n) = 0 := by
  have : lstZ y a n = lstZ z a n := List.map_congr_left fun j hj => he j (by simpa using hj)
  rw [this]
  exact cmpL_self _
/-- the first byte that differs, but for the life's, tells -/
theorem relH_first {a b : Hd} {i : Nat} (h0 : relE (hdE a) (hdE b) = 0) (hi : i < a.n ∧ i < b.n) (h10 : i ≠ 10 ∧ i ≠ 11) (he : ∀ j, j < i → j ≠ 10 → j ≠ 11 → a.z j = b.z j) (hne : a.z i ≠ b.z i) : relH a b = if b.z i < a.z i then 1 else -1 := by
  unfold relH
  rw [h0]
  show or2 (cmpL (lstZ a.z 0 10) (lstZ b.z 0 10)) _ = _
  by_cases hl : i < 10
  · have h1 := lstZ_first (y := a.z) (z := b.z) (a := 0) (n := 10) (m := 10) (i := i) hl hl (fun j hj => by rw [Nat.zero_add]; exact he j hj (by omega) (by omega)) (by rw [Nat.zero_add]; exact hne)
    rw [Nat.zero_add] at h1
    rw [h1]
    by_cases hz : b.z i < a.z i
    · rw [if_pos hz]; rfl
    · rw [if_neg hz]; rfl
  · have h1 : cmpL (lstZ a.z 0 10) (lstZ b.z 0 10) = 0 := lstZ_same (fun j hj => by rw [Nat.zero_add]; exact he j (by omega) (by omega) (by omega))
    rw [h1]
    show cmpL _ _ = _
    have h2 := lstZ_first (y := a.z) (z := b.z) (a := 12) (n := a.n - 12) (m := b.n - 12) (i := i - 12) (by omega) (by omega) (fun j hj => he (12 + j) (by omega) (by omega) (by omega)) (by rw [show 12 + (i - 12) = i by omega]; exact hne)
    rw [show 12 + (i - 12) = i by omega] at h2
    exact h2
theorem relH_none {a b : Hd} (h0 : relE (hdE a) (hdE b) = 0) (hn : a.n = b.n) (he : ∀ j, j < a.n → j ≠ 10 → j ≠ 11 → a.z j = b.z j) (h12 : 12 ≤ a.n) : relH a b = 0 := by
  unfold relH
  have h1 : cmpL (lstZ a.z 0 10) (lstZ b.z 0 10) = 0 := lstZ_same (fun j hj => by rw [Nat.zero_add]; exact he j (by omega) (by omega) (by omega))
  have h2 : cmpL (lstZ a.z 12 (a.n - 12)) (lstZ b.z 12 (b.n - 12)) = 0 := by
    rw [← hn]
    exact lstZ_same (fun j hj => he (12 + j) (by omega) (by omega) (by omega))
  rw [h0, h1, h2]
  rfl
theorem relH_ent {a b : Hd} (h : relE (hdE a) (hdE b) ≠ 0) : relH a b = relE (hdE a) (hdE b) := by
  unfold relH or2
  rw [if_neg h]
/-- a packet tells its length -/
theorem good_len {z y : Nat → Int} {n m k l : Nat} (hz : GoodZ z n k) (hy : GoodZ y m l) (h4 : cls (z 4) = 2) (he : ∀ j, j < 10 → z j = y j) : n = m := by
  have h1 := hz.1.2.2.2.2 0 (by rw [h4]; decide) (by rw [h4]; rfl)
  have h4y : cls (y 4) = 2 := by rw [← he 4 (by decide)]; exact h4
  have h2 := hy.1.2.2.2.2 0 (by rw [h4y]; decide) (by rw [h4y]; rfl)
  rw [h4] at h1
  rw [h4y] at h2
  rw [← h1, ← h2]
  unfold toldN
  show (numZ (fun j => z (8 + j)) 0 2).toNat = (numZ (fun j => y (8 + j)) 0 2).toNat
  have e8 := he 8 (by decide)
  have e9 := he 9 (by decide)
  simp [numZ, e8, e9]
theorem own8_at {w : World} {g n c j : Nat} {z : Nat → Int} (h : Own8 w g n c z) (hj : j < n) : w.cell? ⟨g, j, none⟩ = some (.int .u8 (z j)) := by
  obtain ⟨⟨cur, h1, h2, h3, h4, h5⟩, h6⟩ := h
  rw [cell_of_row w g j _ _ _ h1]
  exact h5 j hj
set_option maxHeartbeats 16000000 in
set_option maxRecDepth 100000 in
theorem newerR_any (a b : Rh) (w : World) (ha : RhOk w a) (hb : RhOk w b) : Calls Try.prog 60 #[.agg (rhC a), .agg (rhC b)] w fun e w' => e = .returned (.int .i64 (relH a.x.1 b.x.1)) ∧ Below w.heap.size w w' := by
  have HA := Lib.hid ha
  have HBB := Lib.hid hb
  clear ha hb
  go_enter Try.func60, Try.ntmps60
  have HB := Lib.hid (Below.refl w.heap.size w)
  obtain ⟨N1, hN1⟩ : ∃ N, w.heap.size = N := ⟨_, rfl⟩
  have HN1 := Lib.hid hN1
  clear hN1
  go_wp2_with (refine wpList_box (op := ⟨some 2, _, _, _, _, _⟩) rfl 96 (.tmp 0) rfl (rhC a) rfl N1 HN1.out ?_; intro w1 k1 b1 s1; refine Hid.out ?_)
  refine Lib.hid ?_
  have K2 := Lib.hid k1
  clear k1
  have le_HB_N1 : w.heap.size ≤ N1 := by rw [← HN1.out]; exact HB.out.size
  have HBn := Lib.hid (HB.out.trans (b1.mono HB.out.size))
  clear HB
  have HB := HBn
  clear HBn
  clear b1 HN1
  obtain ⟨N2, hN2⟩ : ∃ N, w1.heap.size = N := ⟨_, rfl⟩
  have HN2 := Lib.hid hN2
  clear hN2
  go_wp2_with (refine wpList_box (op := ⟨some 3, _, _, _, _, _⟩) rfl 96 (.tmp 1) rfl (rhC b) rfl N2 HN2.out ?_; intro w2 k1 b1 s1; refine Hid.out ?_)
  refine Lib.hid ?_
  have K3 := Lib.hid k1
  clear k1
  have lt_N1_N2 : N1 < N2 := by rw [← HN2.out]; exact K2.out.lt
  have le_HB_N2 : w.heap.size ≤ N2 := by rw [← HN2.out]; exact HB.out.size
  have K2n := Lib.hid (K2.out.below b1 K2.out.lt)
  clear K2
  have K2 := K2n
  clear K2n
  have HBn := Lib.hid (HB.out.trans (b1.mono HB.out.size))
  clear HB
  have HB := HBn
  clear HBn
  clear b1 HN2
  go_wp2_with fail
  refine wp_region_held_drew (S := fun w' => Blk 96 w' N1 (rhC a) ∧ Blk 96 w' N2 (rhC b) ∧ Below w.heap.size w w') (by kernel_rfl) ⟨K2.out, K3.out, HB.out.drew⟩ (fun hS => ?_)
  generalize hW3 : w2.drew = W3 at hS  ⊢
  clear hW3
  clear K2
  clear K3
  clear HB
  have K2 := Lib.hid hS.1
  have K3 := Lib.hid hS.2.1
  have HB := Lib.hid hS.2.2
  refine takeL (i := 0) (some 7) 96 (.tmp 2) N1 0 (rhC a) _ rfl rfl (by kernel_rfl) (by kernel_rfl) (by kernel_rfl) (fun _ _ _ h => h) (by rfl) rfl rfl (fun w' hS => hS.1.all) Try.underlying96 rfl info_rh hS ?_
  simp only [Act.put, List.setIfInBounds_toArray, List.set_cons_zero, List.set_cons_succ]
  refine takeL (i := 2) (some 9) 96 (.tmp 3) N2 0 (rhC b) _ rfl rfl (by kernel_rfl) (by kernel_rfl) (by kernel_rfl) (fun _ _ _ h => h) (by rfl) rfl rfl (fun w' hS => hS.2.1.all) Try.underlying96 rfl info_rh hS ?_
  simp only [Act.put, List.setIfInBounds_toArray, List.set_cons_zero, List.set_cons_succ]
  refine takeC (i := 1) (some 8) 38 #[.agg (rhC a)] (.agg (enC (hdE a.x.1))) (R := fun w' => Below W3.heap.size W3 w') rfl rfl (by kernel_rfl) (by rfl) (by go_simp) (entryR_any a W3) (fun w' hb => ⟨hS.1.below hb hS.1.lt, hS.2.1.below hb hS.2.1.lt, hS.2.2.trans (hb.mono hS.2.2.size)⟩) (fun W4 hb1 hS2 => ?_)
  simp only [Act.put, List.setIfInBounds_toArray, List.set_cons_zero, List.set_cons_succ]
  clear K2
  clear K3
  clear HB
  clear hS hb1
  have hS := hS2
  clear hS2
  have K2 := Lib.hid hS.1
  have K3 := Lib.hid hS.2.1
  have HB := Lib.hid hS.2.2
  refine takeC (i := 3) (some 10) 38 #[.agg (rhC b)] (.agg (enC (hdE b.x.1))) (R := fun w' => Below W4.heap.size W4 w') rfl rfl (by kernel_rfl) (by rfl) (by go_simp) (entryR_any b W4) (fun w' hb => ⟨hS.1.below hb hS.1.lt, hS.2.1.below hb hS.2.1.lt, hS.2.2.trans (hb.mono hS.2.2.size)⟩) (fun W5 hb1 hS2 => ?_)
  simp only [Act.put, List.setIfInBounds_toArray, List.set_cons_zero, List.set_cons_succ]
  clear K2
  clear K3
  clear HB
  clear hS hb1
  have hS := hS2
  clear hS2
  have K2 := Lib.hid hS.1
  have K3 := Lib.hid hS.2.1
  have HB := Lib.hid hS.2.2
  refine takeC (i := 4) (some 11) 37 #[.agg (enC (hdE a.x.1)), .agg (enC (hdE b.x.1))] (.int .i64 (relE (hdE a.x.1) (hdE b.x.1))) (R := fun w' => Below W5.heap.size W5 w') rfl rfl (by kernel_rfl) (by rfl) (by go_simp) (ageR_any _ _ W5) (fun w' hb => ⟨hS.1.below hb hS.1.lt, hS.2.1.below hb hS.2.1.lt, hS.2.2.trans (hb.mono hS.2.2.size)⟩) (fun W6 hb1 hS2 => ?_)
  simp only [Act.put, List.setIfInBounds_toArray, List.set_cons_zero, List.set_cons_succ]
  clear K2
  clear K3
  clear HB
  clear hS hb1
  have hS := hS2
  clear hS2
  have K2 := Lib.hid hS.1
  have K3 := Lib.hid hS.2.1
  have HB := Lib.hid hS.2.2
  refine takeY (i := 5) (some 5) (v := .int .i64 (relE (hdE a.x.1) (hdE b.x.1))) rfl rfl (by kernel_rfl) (by kernel_rfl) (by kernel_rfl) (fun _ _ _ h => h) (by rfl) (fun w' hS => by clear hS; go_simp) hS ?_
  simp only [Act.put, List.setIfInBounds_toArray, List.set_cons_zero, List.set_cons_succ]
  clear hS
  refine wpAnyH_done (by kernel_rfl) ?_ _
  obtain ⟨re, hre⟩ : ∃ v, relE (hdE a.x.1) (hdE b.x.1) = v := ⟨_, rfl⟩
  rw [hre]
  have HRE := Lib.hid hre
  clear hre
  by_cases h0 : re = 0
  · subst h0
    have HAW := Lib.hid (HA.out.below HB.out)
    have HBW := Lib.hid (HBB.out.below HB.out)
    obtain ⟨ga, ea⟩ : ∃ x, a.g = x := ⟨_, rfl⟩
    obtain ⟨gb, eb⟩ : ∃ x, b.g = x := ⟨_, rfl⟩
    obtain ⟨ca, eca⟩ : ∃ x, a.c = x := ⟨_, rfl⟩
    obtain ⟨cb, ecb⟩ : ∃ x, b.c = x := ⟨_, rfl⟩
    obtain ⟨x, ex⟩ : ∃ x, a.x.1 = x := ⟨_, rfl⟩
    obtain ⟨y, ey⟩ : ∃ x, b.x.1 = x := ⟨_, rfl⟩
    obtain ⟨na, ena⟩ : ∃ n, x.n = n := ⟨_, rfl⟩
    obtain ⟨nb, enb⟩ : ∃ n, y.n = n := ⟨_, rfl⟩
    have ha1 : Own8 W6 ga na ca x.z := by have h9 := HAW.out.1; rw [ea, eca, ex, ena] at h9; exact h9
    have hb1 : Own8 W6 gb nb cb y.z := by have h9 := HBW.out.1; rw [eb, ecb, ey, enb] at h9; exact h9
    have HG : Hid (cls (x.z 4) = 2 ∧ (27 ≤ na ∧ na ≤ 1492) ∧ (27 ≤ nb ∧ nb ≤ 1492) ∧ (∃ m, GoodZ x.z na m) ∧ ∃ m, GoodZ y.z nb m) := Lib.hid (by have h8 := HAW.out.2; have h9 := HBW.out.2; rw [ex, ena] at h8; rw [ey, enb] at h9; exact ⟨h8.1, h8.2.1, h9.2.1, h8.2.2, h9.2.2⟩)
    have HXY : Hid (x.n = na ∧ y.n = nb) := Lib.hid ⟨ena, enb⟩
    have cA : W6.cell? ⟨N1, 11, none⟩ = some (.slice (some ⟨ga, 0, none⟩) na ca) := (K2.out.cell 11).trans (by rw [← ea, ← eca, ← ena, ← ex]; rfl)
    have cB : W6.cell? ⟨N2, 11, none⟩ = some (.slice (some ⟨gb, 0, none⟩) nb cb) := (K3.out.cell 11).trans (by rw [← eb, ← ecb, ← enb, ← ey]; rfl)
    have HR0 : Hid (relE (hdE x) (hdE y) = 0) := Lib.hid (by rw [← ex, ← ey]; exact HRE.out)
    have HEX := Lib.hid (And.intro ex ey)
    have HZA : Hid (∀ j, j < na → W6.cell? ⟨ga, j, none⟩ = some (.int .u8 (x.z j))) := Lib.hid (fun j hj => own8_at ha1 hj)
    have HZB : Hid (∀ j, j < nb → W6.cell? ⟨gb, j, none⟩ = some (.int .u8 (y.z j))) := Lib.hid (fun j hj => own8_at hb1 hj)
    have hna : (na : Int) ≤ 9223372036854775807 := by have := HG.out.2.1; omega
    have hnb : (nb : Int) ≤ 9223372036854775807 := by have := HG.out.2.2.1; omega
    clear ea eb eca ecb ex ey ena enb ha1 hb1 HAW HBW K2 K3 HRE
    go_wp2_with fail
    go_loopw [6] (fun t wr => ∃ i r : Nat, i ≤ na ∧ i ≤ nb ∧ t = .int .i64 i ∧ wr = W6.drewN r ∧ Hid (∀ j, j < i → j ≠ 10 → j ≠ 11 → x.z j = y.z j)) (fun t _ => na - (intOf t).toNat)
    case atStart => exact ⟨0, 0, by omega, by omega, rfl, rfl, Lib.hid (fun j hj => by omega)⟩
    case round =>
      obtain ⟨i, r, hia, hib, rfl, rfl, HE⟩ := hrel
      have HBr : Hid (∀ r, Below w.heap.size w (W6.drewN r)) := Lib.hid (fun r => ⟨HB.out.os, HB.out.tape, HB.out.output, HB.out.size, HB.out.block⟩)
      by_cases hlt : i < na ∧ i < nb
      · have hka : (i : Int) < (na : Int) := by omega
        have hkb : (i : Int) < (nb : Int) := by omega
        have HLT := Lib.hid hlt
        go_wp2_with fail
        by_cases h10 : i = 10
        · skip
          have HI := Lib.hid h10
          have hiI : (i : Int) = 10 := by omega
          subst h10
          refine wp_region_held_drew (S := fun w' => w' = (W6.drewN r).drew) (by kernel_rfl) rfl (fun _ => ?_)
          refine takeY (i := 0) (some 29) (v := .int .i64 10) rfl rfl (by kernel_rfl) (by kernel_rfl) (by kernel_rfl) (fun _ _ _ h => h) (by rfl) (fun w' hS => by go_simp) rfl ?_
          simp only [Act.put, List.setIfInBounds_toArray, List.set_cons_zero, List.set_cons_succ]
          refine takeY (i := 1) (some 30) (v := .bool true) rfl rfl (by kernel_rfl) (by kernel_rfl) (by kernel_rfl) (fun _ _ _ h => h) (by rfl) (fun w' hS => by go_simp) rfl ?_
          simp only [Act.put, List.setIfInBounds_toArray, List.set_cons_zero, List.set_cons_succ]
          refine takeY (i := 2) (some 31) (v := .bool true) rfl rfl (by kernel_rfl) (by kernel_rfl) (by kernel_rfl) (fun _ _ _ h => h) (by rfl) (fun w' hS => by go_simp) rfl ?_
          simp only [Act.put, List.setIfInBounds_toArray, List.set_cons_zero, List.set_cons_succ]
          refine takeN (i := 3) (some 32) rfl rfl (by kernel_rfl) (by kernel_rfl) (by kernel_rfl) (fun _ _ _ h => h) (by rfl) rfl ?_
          simp only [Act.put, List.setIfInBounds_toArray, List.set_cons_zero, List.set_cons_succ]
          refine takeN (i := 4) (some 33) rfl rfl (by kernel_rfl) (by kernel_rfl) (by kernel_rfl) (fun _ _ _ h => h) (by rfl) rfl ?_
          simp only [Act.put, List.setIfInBounds_toArray, List.set_cons_zero, List.set_cons_succ]
          refine takeY (i := 5) (some 34) (v := .bool true) rfl rfl (by kernel_rfl) (by kernel_rfl) (by kernel_rfl) (fun _ _ _ h => h) (by rfl) (fun w' hS => by go_simp) rfl ?_
          simp only [Act.put, List.setIfInBounds_toArray, List.set_cons_zero, List.set_cons_succ]
          refine takeY (i := 6) (some 35) (v := .bool true) rfl rfl (by kernel_rfl) (by kernel_rfl) (by kernel_rfl) (fun _ _ _ h => h) (by rfl) (fun w' hS => by go_simp) rfl ?_
          simp only [Act.put, List.setIfInBounds_toArray, List.set_cons_zero, List.set_cons_succ]
          refine takeN (i := 7) (some 36) rfl rfl (by kernel_rfl) (by kernel_rfl) (by kernel_rfl) (fun _ _ _ h => h) (by rfl) rfl ?_
          simp only [Act.put, List.setIfInBounds_toArray, List.set_cons_zero, List.set_cons_succ]
          refine takeN (i := 8) (some 37) rfl rfl (by kernel_rfl) (by kernel_rfl) (by kernel_rfl) (fun _ _ _ h => h) (by rfl) rfl ?_
          simp only [Act.put, List.setIfInBounds_toArray, List.set_cons_zero, List.set_cons_succ]
          refine takeN (i := 9) (some 38) rfl rfl (by kernel_rfl) (by kernel_rfl) (by kernel_rfl) (fun _ _ _ h => h) (by rfl) rfl ?_
          simp only [Act.put, List.setIfInBounds_toArray, List.set_cons_zero, List.set_cons_succ]
          refine takeN (i := 10) (some 39) rfl rfl (by kernel_rfl) (by kernel_rfl) (by kernel_rfl) (fun _ _ _ h => h) (by rfl) rfl ?_
          simp only [Act.put, List.setIfInBounds_toArray, List.set_cons_zero, List.set_cons_succ]
          refine takeN (i := 11) (some 40) rfl rfl (by kernel_rfl) (by kernel_rfl) (by kernel_rfl) (fun _ _ _ h => h) (by rfl) rfl ?_
          simp only [Act.put, List.setIfInBounds_toArray, List.set_cons_zero, List.set_cons_succ]
          refine takeN (i := 12) (some 41) rfl rfl (by kernel_rfl) (by kernel_rfl) (by kernel_rfl) (fun _ _ _ h => h) (by rfl) rfl ?_
          simp only [Act.put, List.setIfInBounds_toArray, List.set_cons_zero, List.set_cons_succ]
          refine takeN (i := 13) (some 42) rfl rfl (by kernel_rfl) (by kernel_rfl) (by kernel_rfl) (fun _ _ _ h => h) (by rfl) rfl ?_
          simp only [Act.put, List.setIfInBounds_toArray, List.set_cons_zero, List.set_cons_succ]
          refine takeN (i := 14) (some 43) rfl rfl (by kernel_rfl) (by kernel_rfl) (by kernel_rfl) (fun _ _ _ h => h) (by rfl) rfl ?_
          simp only [Act.put, List.setIfInBounds_toArray, List.set_cons_zero, List.set_cons_succ]
          refine takeN (i := 15) (some 44) rfl rfl (by kernel_rfl) (by kernel_rfl) (by kernel_rfl) (fun _ _ _ h => h) (by rfl) rfl ?_
          simp only [Act.put, List.setIfInBounds_toArray, List.set_cons_zero, List.set_cons_succ]
          refine takeN (i := 16) (some 45) rfl rfl (by kernel_rfl) (by kernel_rfl) (by kernel_rfl) (fun _ _ _ h => h) (by rfl) rfl ?_
          simp only [Act.put, List.setIfInBounds_toArray, List.set_cons_zero, List.set_cons_succ]
          refine takeN (i := 17) (some 46) rfl rfl (by kernel_rfl) (by kernel_rfl) (by kernel_rfl) (fun _ _ _ h => h) (by rfl) rfl ?_
          simp only [Act.put, List.setIfInBounds_toArray, List.set_cons_zero, List.set_cons_succ]
          refine takeY (i := 18) (some 47) (v := .bool true) rfl rfl (by kernel_rfl) (by kernel_rfl) (by kernel_rfl) (fun _ _ _ h => h) (by rfl) (fun w' hS => by go_simp) rfl ?_
          simp only [Act.put, List.setIfInBounds_toArray, List.set_cons_zero, List.set_cons_succ]
          refine wpAnyH_done (by kernel_rfl) ?_ _
          go_wp2_with fail
          go_roundw
          case rel => exact ⟨10 + 1, r + 1, by omega, by omega, by go_num, rfl, Lib.hid (fun j hj h10 h11 => HE.out j (by omega) h10 h11)⟩
          case measure => simp only [intOf]; omega
        by_cases h11 : i = 11
        · skip
          have HI := Lib.hid h11
          have hiI : (i : Int) = 11 := by omega
          subst h11
          refine wp_region_held_drew (S := fun w' => w' = (W6.drewN r).drew) (by kernel_rfl) rfl (fun _ => ?_)
          refine takeY (i := 0) (some 29) (v := .int .i64 11) rfl rfl (by kernel_rfl) (by kernel_rfl) (by kernel_rfl) (fun _ _ _ h => h) (by rfl) (fun w' hS => by go_simp) rfl ?_
          simp only [Act.put, List.setIfInBounds_toArray, List.set_cons_zero, List.set_cons_succ]
          refine takeY (i := 1) (some 30) (v := .bool false) rfl rfl (by kernel_rfl) (by kernel_rfl) (by kernel_rfl) (fun _ _ _ h => h) (by rfl) (fun w' hS => by go_simp) rfl ?_
          simp only [Act.put, List.setIfInBounds_toArray, List.set_cons_zero, List.set_cons_succ]
          refine takeY (i := 2) (some 31) (v := .bool false) rfl rfl (by kernel_rfl) (by kernel_rfl) (by kernel_rfl) (fun _ _ _ h => h) (by rfl) (fun w' hS => by go_simp) rfl ?_
          simp only [Act.put, List.setIfInBounds_toArray, List.set_cons_zero, List.set_cons_succ]
          refine takeY (i := 3) (some 32) (v := .int .i64 11) rfl rfl (by kernel_rfl) (by kernel_rfl) (by kernel_rfl) (fun _ _ _ h => h) (by rfl) (fun w' hS => by go_simp) rfl ?_
          simp only [Act.put, List.setIfInBounds_toArray, List.set_cons_zero, List.set_cons_succ]
          refine takeY (i := 4) (some 33) (v := .bool true) rfl rfl (by kernel_rfl) (by kernel_rfl) (by kernel_rfl) (fun _ _ _ h => h) (by rfl) (fun w' hS => by go_simp) rfl ?_
          simp only [Act.put, List.setIfInBounds_toArray, List.set_cons_zero, List.set_cons_succ]
          refine takeY (i := 5) (some 34) (v := .bool true) rfl rfl (by kernel_rfl) (by kernel_rfl) (by kernel_rfl) (fun _ _ _ h => h) (by rfl) (fun w' hS => by go_simp) rfl ?_
          simp only [Act.put, List.setIfInBounds_toArray, List.set_cons_zero, List.set_cons_succ]
          refine takeY (i := 6) (some 35) (v := .bool true) rfl rfl (by kernel_rfl) (by kernel_rfl) (by kernel_rfl) (fun _ _ _ h => h) (by rfl) (fun w' hS => by go_simp) rfl ?_
          simp only [Act.put, List.setIfInBounds_toArray, List.set_cons_zero, List.set_cons_succ]
          refine takeN (i := 7) (some 36) rfl rfl (by kernel_rfl) (by kernel_rfl) (by kernel_rfl) (fun _ _ _ h => h) (by rfl) rfl ?_
          simp only [Act.put, List.setIfInBounds_toArray, List.set_cons_zero, List.set_cons_succ]
          refine takeN (i := 8) (some 37) rfl rfl (by kernel_rfl) (by kernel_rfl) (by kernel_rfl) (fun _ _ _ h => h) (by rfl) rfl ?_
          simp only [Act.put, List.setIfInBounds_toArray, List.set_cons_zero, List.set_cons_succ]
          refine takeN (i := 9) (some 38) rfl rfl (by kernel_rfl) (by kernel_rfl) (by kernel_rfl) (fun _ _ _ h => h) (by rfl) rfl ?_
          simp only [Act.put, List.setIfInBounds_toArray, List.set_cons_zero, List.set_cons_succ]
          refine takeN (i := 10) (some 39) rfl rfl (by kernel_rfl) (by kernel_rfl) (by kernel_rfl) (fun _ _ _ h => h) (by rfl) rfl ?_
          simp only [Act.put, List.setIfInBounds_toArray, List.set_cons_zero, List.set_cons_succ]
          refine takeN (i := 11) (some 40) rfl rfl (by kernel_rfl) (by kernel_rfl) (by kernel_rfl) (fun _ _ _ h => h) (by rfl) rfl ?_
          simp only [Act.put, List.setIfInBounds_toArray, List.set_cons_zero, List.set_cons_succ]
          refine takeN (i := 12) (some 41) rfl rfl (by kernel_rfl) (by kernel_rfl) (by kernel_rfl) (fun _ _ _ h => h) (by rfl) rfl ?_
          simp only [Act.put, List.setIfInBounds_toArray, List.set_cons_zero, List.set_cons_succ]
          refine takeN (i := 13) (some 42) rfl rfl (by kernel_rfl) (by kernel_rfl) (by kernel_rfl) (fun _ _ _ h => h) (by rfl) rfl ?_
          simp only [Act.put, List.setIfInBounds_toArray, List.set_cons_zero, List.set_cons_succ]
          refine takeN (i := 14) (some 43) rfl rfl (by kernel_rfl) (by kernel_rfl) (by kernel_rfl) (fun _ _ _ h => h) (by rfl) rfl ?_
          simp only [Act.put, List.setIfInBounds_toArray, List.set_cons_zero, List.set_cons_succ]
          refine takeN (i := 15) (some 44) rfl rfl (by kernel_rfl) (by kernel_rfl) (by kernel_rfl) (fun _ _ _ h => h) (by rfl) rfl ?_
          simp only [Act.put, List.setIfInBounds_toArray, List.set_cons_zero, List.set_cons_succ]
          refine takeN (i := 16) (some 45) rfl rfl (by kernel_rfl) (by kernel_rfl) (by kernel_rfl) (fun _ _ _ h => h) (by rfl) rfl ?_
          simp only [Act.put, List.setIfInBounds_toArray, List.set_cons_zero, List.set_cons_succ]
          refine takeN (i := 17) (some 46) rfl rfl (by kernel_rfl) (by kernel_rfl) (by kernel_rfl) (fun _ _ _ h => h) (by rfl) rfl ?_
          simp only [Act.put, List.setIfInBounds_toArray, List.set_cons_zero, List.set_cons_succ]
          refine takeY (i := 18) (some 47) (v := .bool true) rfl rfl (by kernel_rfl) (by kernel_rfl) (by kernel_rfl) (fun _ _ _ h => h) (by rfl) (fun w' hS => by go_simp) rfl ?_
          simp only [Act.put, List.setIfInBounds_toArray, List.set_cons_zero, List.set_cons_succ]
          refine wpAnyH_done (by kernel_rfl) ?_ _
          go_wp2_with fail
          go_roundw
          case rel => exact ⟨11 + 1, r + 1, by omega, by omega, by go_num, rfl, Lib.hid (fun j hj h10 h11 => HE.out j (by omega) h10 h11)⟩
          case measure => simp only [intOf]; omega
        have H1 := Lib.hid (And.intro h10 h11)
        have e10 : ((i : Int) == 10) = false := beq_eq_false_iff_ne.2 (by omega)
        have e11 : ((i : Int) == 11) = false := beq_eq_false_iff_ne.2 (by omega)
        have z1 := HZA.out i hlt.1
        have z2 := HZB.out i hlt.2
        obtain ⟨p, hp⟩ : ∃ v, x.z i = v := ⟨_, rfl⟩
        obtain ⟨q, hq⟩ : ∃ v, y.z i = v := ⟨_, rfl⟩
        rw [hp] at z1
        rw [hq] at z2
        have HPQ := Lib.hid (And.intro hp hq)
        clear hp hq h10 h11 hlt
        refine wp_region_held_drew (S := fun w' => w' = (W6.drewN r).drew) (by kernel_rfl) rfl (fun _ => ?_)
        refine takeY (i := 0) (some 29) (v := .int .i64 (i : Int)) rfl rfl (by kernel_rfl) (by kernel_rfl) (by kernel_rfl) (fun _ _ _ h => h) (by rfl) (fun w' hS => by go_simp) rfl ?_
        simp only [Act.put, List.setIfInBounds_toArray, List.set_cons_zero, List.set_cons_succ]
        refine takeY (i := 1) (some 30) (v := .bool false) rfl rfl (by kernel_rfl) (by kernel_rfl) (by kernel_rfl) (fun _ _ _ h => h) (by rfl) (fun w' hS => by go_simp) rfl ?_
        simp only [Act.put, List.setIfInBounds_toArray, List.set_cons_zero, List.set_cons_succ]
        refine takeY (i := 2) (some 31) (v := .bool false) rfl rfl (by kernel_rfl) (by kernel_rfl) (by kernel_rfl) (fun _ _ _ h => h) (by rfl) (fun w' hS => by go_simp) rfl ?_
        simp only [Act.put, List.setIfInBounds_toArray, List.set_cons_zero, List.set_cons_succ]
        refine takeY (i := 3) (some 32) (v := .int .i64 (i : Int)) rfl rfl (by kernel_rfl) (by kernel_rfl) (by kernel_rfl) (fun _ _ _ h => h) (by rfl) (fun w' hS => by go_simp) rfl ?_
        simp only [Act.put, List.setIfInBounds_toArray, List.set_cons_zero, List.set_cons_succ]
        refine takeY (i := 4) (some 33) (v := .bool false) rfl rfl (by kernel_rfl) (by kernel_rfl) (by kernel_rfl) (fun _ _ _ h => h) (by rfl) (fun w' hS => by go_simp) rfl ?_
        simp only [Act.put, List.setIfInBounds_toArray, List.set_cons_zero, List.set_cons_succ]
        refine takeY (i := 5) (some 34) (v := .bool false) rfl rfl (by kernel_rfl) (by kernel_rfl) (by kernel_rfl) (fun _ _ _ h => h) (by rfl) (fun w' hS => by go_simp) rfl ?_
        simp only [Act.put, List.setIfInBounds_toArray, List.set_cons_zero, List.set_cons_succ]
        refine takeY (i := 6) (some 35) (v := .bool false) rfl rfl (by kernel_rfl) (by kernel_rfl) (by kernel_rfl) (fun _ _ _ h => h) (by rfl) (fun w' hS => by go_simp) rfl ?_
        simp only [Act.put, List.setIfInBounds_toArray, List.set_cons_zero, List.set_cons_succ]
        refine takeY (i := 7) (some 36) (v := .pointer (some ⟨N1, 11, none⟩)) rfl rfl (by kernel_rfl) (by kernel_rfl) (by kernel_rfl) (fun _ _ _ h => h) (by rfl) (fun w' hS => by go_simp) rfl ?_
        simp only [Act.put, List.setIfInBounds_toArray, List.set_cons_zero, List.set_cons_succ]
        refine takeY (i := 8) (some 37) (v := .slice (some ⟨ga, 0, none⟩) na ca) rfl rfl (by kernel_rfl) (by kernel_rfl) (by kernel_rfl) (fun _ _ _ h => h) (by rfl) (fun w' hS => by subst hS; go_simp) rfl ?_
        simp only [Act.put, List.setIfInBounds_toArray, List.set_cons_zero, List.set_cons_succ]
        refine takeY (i := 9) (some 38) (v := .int .i64 (i : Int)) rfl rfl (by kernel_rfl) (by kernel_rfl) (by kernel_rfl) (fun _ _ _ h => h) (by rfl) (fun w' hS => by go_simp) rfl ?_
        simp only [Act.put, List.setIfInBounds_toArray, List.set_cons_zero, List.set_cons_succ]
        refine takeY (i := 10) (some 39) (v := .pointer (some ⟨ga, i, none⟩)) rfl rfl (by kernel_rfl) (by kernel_rfl) (by kernel_rfl) (fun _ _ _ h => h) (by rfl) (fun w' hS => by go_simp) rfl ?_
        simp only [Act.put, List.setIfInBounds_toArray, List.set_cons_zero, List.set_cons_succ]
        refine takeY (i := 11) (some 40) (v := .int .u8 p) rfl rfl (by kernel_rfl) (by kernel_rfl) (by kernel_rfl) (fun _ _ _ h => h) (by rfl) (fun w' hS => by subst hS; go_simp) rfl ?_
        simp only [Act.put, List.setIfInBounds_toArray, List.set_cons_zero, List.set_cons_succ]
        refine takeY (i := 12) (some 41) (v := .pointer (some ⟨N2, 11, none⟩)) rfl rfl (by kernel_rfl) (by kernel_rfl) (by kernel_rfl) (fun _ _ _ h => h) (by rfl) (fun w' hS => by go_simp) rfl ?_
        simp only [Act.put, List.setIfInBounds_toArray, List.set_cons_zero, List.set_cons_succ]
        refine takeY (i := 13) (some 42) (v := .slice (some ⟨gb, 0, none⟩) nb cb) rfl rfl (by kernel_rfl) (by kernel_rfl) (by kernel_rfl) (fun _ _ _ h => h) (by rfl) (fun w' hS => by subst hS; go_simp) rfl ?_
        simp only [Act.put, List.setIfInBounds_toArray, List.set_cons_zero, List.set_cons_succ]
        refine takeY (i := 14) (some 43) (v := .int .i64 (i : Int)) rfl rfl (by kernel_rfl) (by kernel_rfl) (by kernel_rfl) (fun _ _ _ h => h) (by rfl) (fun w' hS => by go_simp) rfl ?_
        simp only [Act.put, List.setIfInBounds_toArray, List.set_cons_zero, List.set_cons_succ]
        refine takeY (i := 15) (some 44) (v := .pointer (some ⟨gb, i, none⟩)) rfl rfl (by kernel_rfl) (by kernel_rfl) (by kernel_rfl) (fun _ _ _ h => h) (by rfl) (fun w' hS => by go_simp) rfl ?_
        simp only [Act.put, List.setIfInBounds_toArray, List.set_cons_zero, List.set_cons_succ]
        refine takeY (i := 16) (some 45) (v := .int .u8 q) rfl rfl (by kernel_rfl) (by kernel_rfl) (by kernel_rfl) (fun _ _ _ h => h) (by rfl) (fun w' hS => by subst hS; go_simp) rfl ?_
        simp only [Act.put, List.setIfInBounds_toArray, List.set_cons_zero, List.set_cons_succ]
        refine takeY (i := 17) (some 46) (v := .bool (p == q)) rfl rfl (by kernel_rfl) (by kernel_rfl) (by kernel_rfl) (fun _ _ _ h => h) (by rfl) (fun w' hS => by go_simp) rfl ?_
        simp only [Act.put, List.setIfInBounds_toArray, List.set_cons_zero, List.set_cons_succ]
        refine takeY (i := 18) (some 47) (v := .bool (p == q)) rfl rfl (by kernel_rfl) (by kernel_rfl) (by kernel_rfl) (fun _ _ _ h => h) (by rfl) (fun w' hS => by go_simp) rfl ?_
        simp only [Act.put, List.setIfInBounds_toArray, List.set_cons_zero, List.set_cons_succ]
        refine wpAnyH_done (by kernel_rfl) ?_ _
        by_cases hpq : p = q
        · have hb9 : (p == q) = true := by simpa using hpq
          have HEQ : Hid (x.z i = y.z i) := Lib.hid (by rw [HPQ.out.1, HPQ.out.2]; exact hpq)
          clear hpq
          go_wp2_with fail
          go_roundw
          case rel => exact ⟨i + 1, r + 1, by have := HLT.out; omega, by have := HLT.out; omega, by go_num, rfl, Lib.hid (fun j hj h10 h11 => by
            by_cases e : j = i
            · subst e; exact HEQ.out
            · exact HE.out j (by omega) h10 h11)⟩
          case measure => simp only [intOf]; omega
        · have hb9 : (p == q) = false := by simpa using hpq
          have HV : Hid (relH x y = if q < p then 1 else -1) := Lib.hid (by have h9 := relH_first HR0.out (by rw [HXY.out.1, HXY.out.2]; exact HLT.out) H1.out HE.out (by rw [HPQ.out.1, HPQ.out.2]; exact hpq); rw [HPQ.out.1, HPQ.out.2] at h9; exact h9)
          go_wp2_with fail
          by_cases hgt : q < p
          · skip
            have HW : Hid (relH a.x.1 b.x.1 = 1) := Lib.hid (by rw [HEX.out.1, HEX.out.2, HV.out, if_pos hgt])
            clear hpq hb9
            refine wp_region_held_drew (S := fun w' => w' = ((W6.drewN r).drew).drew) (by kernel_rfl) rfl (fun _ => ?_)
            refine takeY (i := 0) (some 48) (v := .pointer (some ⟨N1, 11, none⟩)) rfl rfl (by kernel_rfl) (by kernel_rfl) (by kernel_rfl) (fun _ _ _ h => h) (by rfl) (fun w' hS => by go_simp) rfl ?_
            simp only [Act.put, List.setIfInBounds_toArray, List.set_cons_zero, List.set_cons_succ]
            refine takeY (i := 1) (some 49) (v := .slice (some ⟨ga, 0, none⟩) na ca) rfl rfl (by kernel_rfl) (by kernel_rfl) (by kernel_rfl) (fun _ _ _ h => h) (by rfl) (fun w' hS => by subst hS; go_simp) rfl ?_
            simp only [Act.put, List.setIfInBounds_toArray, List.set_cons_zero, List.set_cons_succ]
            refine takeY (i := 2) (some 50) (v := .int .i64 (i : Int)) rfl rfl (by kernel_rfl) (by kernel_rfl) (by kernel_rfl) (fun _ _ _ h => h) (by rfl) (fun w' hS => by go_simp) rfl ?_
            simp only [Act.put, List.setIfInBounds_toArray, List.set_cons_zero, List.set_cons_succ]
            refine takeY (i := 3) (some 51) (v := .pointer (some ⟨ga, i, none⟩)) rfl rfl (by kernel_rfl) (by kernel_rfl) (by kernel_rfl) (fun _ _ _ h => h) (by rfl) (fun w' hS => by go_simp) rfl ?_
            simp only [Act.put, List.setIfInBounds_toArray, List.set_cons_zero, List.set_cons_succ]
            refine takeY (i := 4) (some 52) (v := .int .u8 p) rfl rfl (by kernel_rfl) (by kernel_rfl) (by kernel_rfl) (fun _ _ _ h => h) (by rfl) (fun w' hS => by subst hS; go_simp) rfl ?_
            simp only [Act.put, List.setIfInBounds_toArray, List.set_cons_zero, List.set_cons_succ]
            refine takeY (i := 5) (some 53) (v := .pointer (some ⟨N2, 11, none⟩)) rfl rfl (by kernel_rfl) (by kernel_rfl) (by kernel_rfl) (fun _ _ _ h => h) (by rfl) (fun w' hS => by go_simp) rfl ?_
            simp only [Act.put, List.setIfInBounds_toArray, List.set_cons_zero, List.set_cons_succ]
            refine takeY (i := 6) (some 54) (v := .slice (some ⟨gb, 0, none⟩) nb cb) rfl rfl (by kernel_rfl) (by kernel_rfl) (by kernel_rfl) (fun _ _ _ h => h) (by rfl) (fun w' hS => by subst hS; go_simp) rfl ?_
            simp only [Act.put, List.setIfInBounds_toArray, List.set_cons_zero, List.set_cons_succ]
            refine takeY (i := 7) (some 55) (v := .int .i64 (i : Int)) rfl rfl (by kernel_rfl) (by kernel_rfl) (by kernel_rfl) (fun _ _ _ h => h) (by rfl) (fun w' hS => by go_simp) rfl ?_
            simp only [Act.put, List.setIfInBounds_toArray, List.set_cons_zero, List.set_cons_succ]
            refine takeY (i := 8) (some 56) (v := .pointer (some ⟨gb, i, none⟩)) rfl rfl (by kernel_rfl) (by kernel_rfl) (by kernel_rfl) (fun _ _ _ h => h) (by rfl) (fun w' hS => by go_simp) rfl ?_
            simp only [Act.put, List.setIfInBounds_toArray, List.set_cons_zero, List.set_cons_succ]
            refine takeY (i := 9) (some 57) (v := .int .u8 q) rfl rfl (by kernel_rfl) (by kernel_rfl) (by kernel_rfl) (fun _ _ _ h => h) (by rfl) (fun w' hS => by subst hS; go_simp) rfl ?_
            simp only [Act.put, List.setIfInBounds_toArray, List.set_cons_zero, List.set_cons_succ]
            refine takeY (i := 10) (some 58) (v := .bool true) rfl rfl (by kernel_rfl) (by kernel_rfl) (by kernel_rfl) (fun _ _ _ h => h) (by rfl) (fun w' hS => by go_simp; try omega) rfl ?_
            simp only [Act.put, List.setIfInBounds_toArray, List.set_cons_zero, List.set_cons_succ]
            refine wpAnyH_done (by kernel_rfl) ?_ _
            go_wp2_with fail
            go_ret
            exact ⟨by rw [HW.out]; rfl, HBr.out (r + 1 + 1)⟩
          · skip
            have HW : Hid (relH a.x.1 b.x.1 = -1) := Lib.hid (by rw [HEX.out.1, HEX.out.2, HV.out, if_neg hgt])
            have hlt9 : p < q := by omega
            clear hpq hb9
            refine wp_region_held_drew (S := fun w' => w' = ((W6.drewN r).drew).drew) (by kernel_rfl) rfl (fun _ => ?_)
            refine takeY (i := 0) (some 48) (v := .pointer (some ⟨N1, 11, none⟩)) rfl rfl (by kernel_rfl) (by kernel_rfl) (by kernel_rfl) (fun _ _ _ h => h) (by rfl) (fun w' hS => by go_simp) rfl ?_
            simp only [Act.put, List.setIfInBounds_toArray, List.set_cons_zero, List.set_cons_succ]
            refine takeY (i := 1) (some 49) (v := .slice (some ⟨ga, 0, none⟩) na ca) rfl rfl (by kernel_rfl) (by kernel_rfl) (by kernel_rfl) (fun _ _ _ h => h) (by rfl) (fun w' hS => by subst hS; go_simp) rfl ?_
            simp only [Act.put, List.setIfInBounds_toArray, List.set_cons_zero, List.set_cons_succ]
            refine takeY (i := 2) (some 50) (v := .int .i64 (i : Int)) rfl rfl (by kernel_rfl) (by kernel_rfl) (by kernel_rfl) (fun _ _ _ h => h) (by rfl) (fun w' hS => by go_simp) rfl ?_
            simp only [Act.put, List.setIfInBounds_toArray, List.set_cons_zero, List.set_cons_succ]
            refine takeY (i := 3) (some 51) (v := .pointer (some ⟨ga, i, none⟩)) rfl rfl (by kernel_rfl) (by kernel_rfl) (by kernel_rfl) (fun _ _ _ h => h) (by rfl) (fun w' hS => by go_simp) rfl ?_
            simp only [Act.put, List.setIfInBounds_toArray, List.set_cons_zero, List.set_cons_succ]
            refine takeY (i := 4) (some 52) (v := .int .u8 p) rfl rfl (by kernel_rfl) (by kernel_rfl) (by kernel_rfl) (fun _ _ _ h => h) (by rfl) (fun w' hS => by subst hS; go_simp) rfl ?_
            simp only [Act.put, List.setIfInBounds_toArray, List.set_cons_zero, List.set_cons_succ]
            refine takeY (i := 5) (some 53) (v := .pointer (some ⟨N2, 11, none⟩)) rfl rfl (by kernel_rfl) (by kernel_rfl) (by kernel_rfl) (fun _ _ _ h => h) (by rfl) (fun w' hS => by go_simp) rfl ?_
            simp only [Act.put, List.setIfInBounds_toArray, List.set_cons_zero, List.set_cons_succ]
            refine takeY (i := 6) (some 54) (v := .slice (some ⟨gb, 0, none⟩) nb cb) rfl rfl (by kernel_rfl) (by kernel_rfl) (by kernel_rfl) (fun _ _ _ h => h) (by rfl) (fun w' hS => by subst hS; go_simp) rfl ?_
            simp only [Act.put, List.setIfInBounds_toArray, List.set_cons_zero, List.set_cons_succ]
            refine takeY (i := 7) (some 55) (v := .int .i64 (i : Int)) rfl rfl (by kernel_rfl) (by kernel_rfl) (by kernel_rfl) (fun _ _ _ h => h) (by rfl) (fun w' hS => by go_simp) rfl ?_
            simp only [Act.put, List.setIfInBounds_toArray, List.set_cons_zero, List.set_cons_succ]
            refine takeY (i := 8) (some 56) (v := .pointer (some ⟨gb, i, none⟩)) rfl rfl (by kernel_rfl) (by kernel_rfl) (by kernel_rfl) (fun _ _ _ h => h) (by rfl) (fun w' hS => by go_simp) rfl ?_
            simp only [Act.put, List.setIfInBounds_toArray, List.set_cons_zero, List.set_cons_succ]
            refine takeY (i := 9) (some 57) (v := .int .u8 q) rfl rfl (by kernel_rfl) (by kernel_rfl) (by kernel_rfl) (fun _ _ _ h => h) (by rfl) (fun w' hS => by subst hS; go_simp) rfl ?_
            simp only [Act.put, List.setIfInBounds_toArray, List.set_cons_zero, List.set_cons_succ]
            refine takeY (i := 10) (some 58) (v := .bool false) rfl rfl (by kernel_rfl) (by kernel_rfl) (by kernel_rfl) (fun _ _ _ h => h) (by rfl) (fun w' hS => by go_simp; try omega) rfl ?_
            simp only [Act.put, List.setIfInBounds_toArray, List.set_cons_zero, List.set_cons_succ]
            refine wpAnyH_done (by kernel_rfl) ?_ _
            go_wp2_with fail
            go_ret
            exact ⟨by rw [HW.out]; rfl, HBr.out (r + 1 + 1)⟩
      · have HEND : Hid (relH a.x.1 b.x.1 = 0) := Lib.hid (by
          have h27 := HG.out.2.1; have h28 := HG.out.2.2.1; obtain ⟨m1, g1⟩ := HG.out.2.2.2.1; obtain ⟨m2, g2⟩ := HG.out.2.2.2.2
          have hn : na = nb := good_len g1 g2 HG.out.1 (fun j hj => HE.out j (by omega) (by omega) (by omega))
          rw [HEX.out.1, HEX.out.2]
          exact relH_none HR0.out (by rw [HXY.out.1, HXY.out.2, hn]) (fun j hj h10 h11 => HE.out j (by rw [HXY.out.1] at hj; omega) h10 h11) (by rw [HXY.out.1]; omega))
        by_cases hla : i < na
        · have hka : (i : Int) < (na : Int) := by omega
          have hkb : ¬ (i : Int) < (nb : Int) := by omega
          go_wp2_with fail
          go_ret
          exact ⟨by rw [HEND.out]; rfl, HBr.out r⟩
        · have hka : ¬ (i : Int) < (na : Int) := by omega
          go_wp2_with fail
          go_ret
          exact ⟨by rw [HEND.out]; rfl, HBr.out r⟩
  · have hne : (re != 0) = true := by simpa using h0
    have HV : Hid (relH a.x.1 b.x.1 = re) := Lib.hid (by rw [← HRE.out]; exact relH_ent (by rw [HRE.out]; exact h0))
    clear h0
    go_wp2_with fail
    go_ret
    exact ⟨by rw [HV.out]; rfl, HB.out⟩
end Go.Proofs.Ytkiaijmhoikdiaa

/- The document's insert: one is laid at its place. Each theorem states its conditions. -/
namespace Go.Proofs.Ytkiaijmhoikdiaa
open Go.RowKit Go.MapKept
set_option linter.unusedVariables false
set_option linter.unusedSimpArgs false

def idR (r : Rh) : Nat := r.x.1.id
def ltR (h : Rh) (x : Rh) : Bool := decide (idR x < idR h)
def gtR (h : Rh) (x : Rh) : Bool := decide (idR h < idR x)
/-- the list with h at its place -/
def insR (R : List Rh) (h : Rh) : List Rh := R.filter (ltR h) ++ ([h] ++ R.filter (gtR h))
/-- behind i of them -/
def InsP (R : List Rh) (h : Rh) (i : Nat) (dn : Bool) (S : List Rh) : Prop := S = (R.take i).filter (ltR h) ++ ((if dn then [h] else []) ++ (R.take i).filter (gtR h)) ∧ (dn = false → ∀ x ∈ R.take i, idR x < idR h) ∧ (dn = true → ∃ x ∈ R.take i, idR h ≤ idR x)
def AscR (R : List Rh) : Prop := R.Pairwise (fun x y => idR x < idR y)
section
variable {R S : List Rh} {h x : Rh} {i : Nat} {dn : Bool}
theorem no_gt (hl : ∀ x ∈ R.take i, idR x < idR h) : (R.take i).filter (gtR h) = [] := List.filter_eq_nil_iff.2 fun x hx => by
  have := hl x hx
  unfold gtR
  simp
  omega
theorem ins_start : InsP R h 0 false [] := ⟨by simp, fun _ x hx => by simp at hx, fun e => by cases e⟩
theorem take_snoc (hx : R[i]? = some x) : R.take (i + 1) = R.take i ++ [x] := by rw [List.take_add_one, hx]; rfl
theorem ins_lt (hp : InsP R h i false S) (hx : R[i]? = some x) (hl : idR x < idR h) : InsP R h (i + 1) false (S ++ [x]) := by
  obtain ⟨e, h1, _⟩ := hp
  have h1 := h1 rfl
  refine ⟨?_, fun _ y hy => ?_, fun e => by cases e⟩
  · rw [take_snoc hx, List.filter_append, List.filter_append, e, no_gt h1]
    have e1 : ltR h x = true := by unfold ltR; simpa using hl
    have e2 : gtR h x = false := by unfold gtR; simp; omega
    simp [e1, e2]
  · rw [take_snoc hx] at hy
    rcases List.mem_append.1 hy with hy | hy
    · exact h1 y hy
    · obtain rfl := List.mem_singleton.1 hy; exact hl
theorem ins_ge (hp : InsP R h i false S) (hx : R[i]? = some x) (hl : ¬ idR x < idR h) (hne : idR x ≠ idR h) : InsP R h (i + 1) true ((S ++ [h]) ++ [x]) := by
  obtain ⟨e, h1, _⟩ := hp
  have h1 := h1 rfl
  refine ⟨?_, fun e => (by cases e), fun _ => ⟨x, ?_, by omega⟩⟩
  · rw [take_snoc hx, List.filter_append, List.filter_append, e, no_gt h1]
    have e1 : ltR h x = false := by unfold ltR; simpa using hl
    have e2 : gtR h x = true := by unfold gtR; simp; omega
    simp [e1, e2]
  · rw [take_snoc hx]; simp
theorem ins_eq (hp : InsP R h i false S) (hx : R[i]? = some x) (hne : idR x = idR h) : InsP R h (i + 1) true (S ++ [h]) := by
  obtain ⟨e, h1, _⟩ := hp
  have h1 := h1 rfl
  refine ⟨?_, fun e => (by cases e), fun _ => ⟨x, ?_, by omega⟩⟩
  · rw [take_snoc hx, List.filter_append, List.filter_append, e, no_gt h1]
    have e1 : ltR h x = false := by unfold ltR; simp; omega
    have e2 : gtR h x = false := by unfold gtR; simp; omega
    simp [e1, e2]
  · rw [take_snoc hx]; simp
theorem ins_dn (hp : InsP R h i true S) (ha : AscR R) (hx : R[i]? = some x) : idR x ≠ idR h ∧ InsP R h (i + 1) true (S ++ [x]) := by
  obtain ⟨e, _, h2⟩ := hp
  obtain ⟨y, hy, hge⟩ := h2 rfl
  have hlt : idR y < idR x := by
    obtain ⟨j, hj⟩ := List.getElem?_of_mem hy
    have hji : j < i := by
      rcases Nat.lt_or_ge j i with h | h
      · exact h
      · rw [List.getElem?_take_eq_none h] at hj; cases hj
    rw [List.getElem?_take_of_lt hji] at hj
    obtain ⟨hj1, hj2⟩ := List.getElem?_eq_some_iff.1 hj
    obtain ⟨hi1, hi2⟩ := List.getElem?_eq_some_iff.1 hx
    have := List.pairwise_iff_getElem.1 ha j i hj1 hi1 hji
    rw [hj2, hi2] at this
    exact this
  refine ⟨by omega, ?_, fun e => (by cases e), fun _ => ⟨y, ?_, hge⟩⟩
  · rw [take_snoc hx, List.filter_append, List.filter_append, e]
    have e1 : ltR h x = false := by unfold ltR; simp; omega
    have e2 : gtR h x = true := by unfold gtR; simp; omega
    simp [e1, e2]
  · rw [take_snoc hx]; exact List.mem_append.2 (.inl hy)
theorem ins_end_f (hp : InsP R h R.length false S) : insR R h = S ++ [h] := by
  obtain ⟨e, h1, _⟩ := hp
  have h1 := h1 rfl
  have h3 := no_gt h1
  rw [List.take_length] at h3 e
  rw [e]
  unfold insR
  simp [h3]
theorem ins_end_t (hp : InsP R h R.length true S) : insR R h = S := by
  obtain ⟨e, _, _⟩ := hp
  rw [List.take_length] at e
  rw [e]
  unfold insR
  simp
theorem ins_len (hp : InsP R h i dn S) (hi : i ≤ R.length) : S.length ≤ i + 1 := by
  have key : ∀ T : List Rh, (T.filter (ltR h)).length + (T.filter (gtR h)).length ≤ T.length := fun T => by
    induction T with
    | nil => simp
    | cons y T ih =>
      by_cases e1 : ltR h y = true
      · have e2 : gtR h y = false := by unfold ltR at e1; unfold gtR; simp at e1 ⊢; omega
        simp [e1, e2]; omega
      · by_cases e2 : gtR h y = true
        · simp [e1, e2]; omega
        · simp [e1, e2]; omega
  have h1 := key (R.take i)
  rw [hp.1]
  have h2 : (R.take i).length = i := by rw [List.length_take]; omega
  simp only [List.length_append]
  cases dn <;> simp <;> omega
theorem ins_mem (hm : x ∈ insR R h) : x ∈ R ∨ x = h := by
  unfold insR at hm
  rcases List.mem_append.1 hm with hm | hm
  · exact .inl (List.mem_filter.1 hm).1
  · rcases List.mem_append.1 hm with hm | hm
    · exact .inr (List.mem_singleton.1 hm)
    · exact .inl (List.mem_filter.1 hm).1
theorem ins_asc (ha : AscR R) : AscR (insR R h) := by
  unfold AscR insR
  rw [List.pairwise_append]
  refine ⟨List.Pairwise.filter _ ha, ?_, fun a h1 b h2 => ?_⟩
  · rw [List.pairwise_append]
    refine ⟨List.pairwise_singleton _ _, List.Pairwise.filter _ ha, fun a h1 b h2 => ?_⟩
    obtain rfl := List.mem_singleton.1 h1
    have := (List.mem_filter.1 h2).2
    simpa [gtR] using this
  · have h3 : idR a < idR h := by simpa [ltR] using (List.mem_filter.1 h1).2
    rcases List.mem_append.1 h2 with h2 | h2
    · obtain rfl := List.mem_singleton.1 h2; exact h3
    · have h4 : idR h < idR b := by simpa [gtR] using (List.mem_filter.1 h2).2
      omega
end
/-- what the document holds is what the store holds -/
def SameHR (H : Nat → Option Hd) (R : List Rh) : Prop := AscR R ∧ ∀ i g, H i = some g ↔ ∃ r ∈ R, r.x.1 = g ∧ g.id = i
theorem same_ins {H : Nat → Option Hd} {R : List Rh} {h : Rh} (hs : SameHR H R) : SameHR (putH H h.x.1) (insR R h) := by
  obtain ⟨ha, hm⟩ := hs
  refine ⟨ins_asc ha, fun i g => ?_⟩
  unfold putH
  by_cases e : i = h.x.1.id
  · rw [if_pos e]
    constructor
    · intro hg
      cases hg
      exact ⟨h, by unfold insR; simp, rfl, e.symm⟩
    · rintro ⟨r, hr, rfl, hi⟩
      unfold insR at hr
      rcases List.mem_append.1 hr with hr | hr
      · have : idR r < idR h := by simpa [ltR] using (List.mem_filter.1 hr).2
        unfold idR at this; omega
      · rcases List.mem_append.1 hr with hr | hr
        · rw [List.mem_singleton.1 hr]
        · have : idR h < idR r := by simpa [gtR] using (List.mem_filter.1 hr).2
          unfold idR at this; omega
  · rw [if_neg e, hm]
    constructor
    · rintro ⟨r, hr, rfl, hi⟩
      refine ⟨r, ?_, rfl, hi⟩
      unfold insR
      by_cases hl : r.x.1.id < h.x.1.id
      · exact List.mem_append.2 (.inl (List.mem_filter.2 ⟨hr, by unfold ltR idR; simpa using hl⟩))
      · exact List.mem_append.2 (.inr (List.mem_append.2 (.inr (List.mem_filter.2 ⟨hr, by unfold gtR idR; simp; omega⟩))))
    · rintro ⟨r, hr, rfl, hi⟩
      rcases ins_mem hr with hr | rfl
      · exact ⟨r, hr, rfl, hi⟩
      · exact absurd hi.symm e
theorem bs_rh1 (W : World) (o : Oper) (e : Operand → Value) {x : Operand} (ho : o.op = .buildSlice 37 1 #[(0, x)]) (r : Rh) (h0 : e x = .agg (rhC r)) : (execOp e o).run Try.prog W = .ok (.value (.slice (some ⟨W.heap.size, 0, none⟩) 1 1)) (W.alloc (.cells (rhC r) 96)) := by
  unfold execOp
  simp only [ho]
  simp only [List.map_toArray, List.map_cons, List.map_nil, h0]
  kernel_rfl
theorem rh_snoc (S : List Rh) (x : Rh) : ∀ j, j < S.length + 1 → catR (rhA S) S.length (fun _ => rhC x) j = rhA (S ++ [x]) j := by
  intro j hj
  unfold catR rhA
  by_cases h : j < S.length
  · rw [if_pos h, List.getElem?_append_left h]
  · rw [if_neg h, show j = S.length by omega, List.getElem?_append_right (Nat.le_refl _)]
    simp
/-- nothing that was there has turned but block s -/
structure Fr1 (w w' : World) (s : Nat) : Prop where
  os : w'.os = w.os
  tape : w'.tape = w.tape
  output : w'.output = w.output
  size : w.heap.size ≤ w'.heap.size
  block : ∀ i, i < w.heap.size → i ≠ s → w'.heap[i]? = w.heap[i]?
theorem Fr1.below {w w' : World} {s B : Nat} (h : Fr1 w w' s) (hs : B ≤ s) (hB : B ≤ w.heap.size) : Below B w w' := ⟨h.os, h.tape, h.output, h.size, fun i hi => h.block i (by omega) (by omega)⟩
theorem Fr1.of_below {w w' : World} (s : Nat) (h : Below w.heap.size w w') : Fr1 w w' s := ⟨h.os, h.tape, h.output, h.size, fun i hi _ => h.block i hi⟩
theorem Fr1.trans {w w1 w2 : World} {s : Nat} (h : Fr1 w w1 s) (k : Fr1 w1 w2 s) : Fr1 w w2 s := ⟨k.os.trans h.os, k.tape.trans h.tape, k.output.trans h.output, Nat.le_trans h.size k.size, fun i hi h1 => (k.block i (Nat.lt_of_lt_of_le hi h.size) h1).trans (h.block i hi h1)⟩
theorem Fr1.stored {w w' : World} {s : Nat} {C : Array Value} {t : TypeId} (h : Stored w w' s C t) : Fr1 w w' s := ⟨(h.2.1 0 (Nat.zero_le _)).os, (h.2.1 0 (Nat.zero_le _)).tape, (h.2.1 0 (Nat.zero_le _)).output, (h.2.1 0 (Nat.zero_le _)).size, fun i _ hi => h.2.2 i hi⟩
theorem own8_ne {w : World} {g n c s : Nat} {z : Nat → Int} {C : Array Value} (h : Own8 w g n c z) (hs : Blk 39 w s C) : g ≠ s := by
  rintro rfl
  obtain ⟨⟨cur, h1, _⟩, _⟩ := h
  have e2 : w.heap[g]? = _ := hs
  rw [h1] at e2
  injection e2 with e2
  injection e2 with _ e2 _
  exact absurd e2 (by decide)
theorem RhOk.fr1 {w w' : World} {r : Rh} {s : Nat} {C : Array Value} (h : RhOk w r) (hf : Fr1 w w' s) (hs : Blk 39 w s C) : RhOk w' r := ⟨Own8.block h.1 (hf.block _ h.lt (own8_ne h.1 hs)), h.2⟩
theorem info_lr : (Try.prog.info? 37).map (·.size) = some 1 := by kernel_rfl
theorem one_lr {A : Option Addr} {n c : Nat} : (#[Value.slice A n c] : Array Value).all (·.oneCell') = true := by kernel_rfl
/-- what insert leaves -/
def InsQ (w : World) (B sr : Nat) (R : List Rh) (h : Rh) (rf : Bool) (e : Ending) (w' : World) : Prop := e = .returned (.tuple #[]) ∧ Fr1 w w' sr ∧ RfAt w' B sr (insR R h) rf
set_option maxHeartbeats 16000000 in
set_option maxRecDepth 100000 in
theorem insert_any (B sr : Nat) (R : List Rh) (h : Rh) (rf : Bool) (w : World) (hst : RfAt w B sr R rf) (hh : RhOk w h) (hg : B ≤ h.g) (ha : AscR R) (hl : R.length ≤ 600) : Calls Try.prog 59 #[.pointer (some ⟨sr, 0, none⟩), .agg (rhC h)] w (InsQ w B sr R h rf) := by
  obtain ⟨A, c, hs, hc1, hc2, hrd, _⟩ := hst.open
  have KS := Lib.hid hs
  have KS0 := Lib.hid hs
  have HRD := Lib.hid hrd
  have HOK := Lib.hid hst.ok
  have HHO := Lib.hid (And.intro hh hg)
  have HAS := Lib.hid ha
  have le_B : B ≤ sr := hst.hs
  obtain ⟨m, hm⟩ : ∃ m, R.length = m := ⟨_, rfl⟩
  have HM := Lib.hid hm
  rw [hm] at HRD KS
  have hm6 : m ≤ 600 := by omega
  have hmI : (m : Int) ≤ 9223372036854775807 := by omega
  clear hst hh hg ha hs hrd hm hc1 hc2 hl
  go_enter Try.func59, Try.ntmps59
  have HB := Lib.hid (Below.refl w.heap.size w)
  obtain ⟨N1, hN1⟩ : ∃ N, w.heap.size = N := ⟨_, rfl⟩
  have HN1 := Lib.hid hN1
  clear hN1
  go_wp2_with (refine wpList_box (op := ⟨some 3, _, _, _, _, _⟩) rfl 96 (.tmp 1) rfl (rhC h) rfl N1 HN1.out ?_; intro w1 k1 b1 s1; refine Hid.out ?_)
  refine Lib.hid ?_
  have K3 := Lib.hid k1
  clear k1
  have lt_sr_N1 : sr < N1 := by rw [← HN1.out]; exact KS.out.lt
  have le_HB_N1 : w.heap.size ≤ N1 := by rw [← HN1.out]; exact HB.out.size
  have KSn := Lib.hid (KS.out.below b1 KS.out.lt)
  clear KS
  have KS := KSn
  clear KSn
  have HBn := Lib.hid (HB.out.trans (b1.mono HB.out.size))
  clear HB
  have HB := HBn
  clear HBn
  clear b1 HN1
  have c0 : w1.cell? ⟨sr, 0, none⟩ = some (.slice A m c) := (KS.out.cell 0).trans rfl
  go_wp2_with fail
  clear c0
  obtain ⟨BL, hBL⟩ : ∃ N, w1.heap.size = N := ⟨_, rfl⟩
  have HBL := Lib.hid hBL
  have le_BL : w.heap.size ≤ BL := by rw [← hBL]; exact HB.out.size
  have lt_sr : sr < BL := by rw [← hBL]; exact KS.out.lt
  clear hBL
  go_loopw [4, 5, 13] (fun v d t wr => ∃ (i : Nat) (dn : Bool) (S : List Rh), i ≤ m ∧ t = .int .i64 i ∧ d = .bool dn ∧ Hid (OwnR wr BL 96 13 v S.length (rhA S)) ∧ Hid (Below BL w1 wr) ∧ Hid (InsP R h i dn S)) (fun _ _ t _ => m - (intOf t).toNat)
  case atStart => exact ⟨0, false, [], by omega, rfl, rfl, Lib.hid (OwnR.nil _ _ _ _ _), Lib.hid (Below.refl _ _), Lib.hid ins_start⟩
  case round =>
    obtain ⟨i, dn, S, hi, rfl, rfl, HO, HQ, HP⟩ := hrel
    have HSL : Hid (S.length ≤ 601) := Lib.hid (by have := ins_len HP.out (by rw [HM.out]; exact hi); omega)
    by_cases hlt : i < m
    · have hki : (i : Int) < (m : Int) := by omega
      obtain ⟨bA, off, rfl, hr⟩ := HRD.out.row (by omega)
      obtain ⟨r, hx⟩ : ∃ r, R[i]? = some r := ⟨_, List.getElem?_eq_getElem (by rw [HM.out]; exact hlt)⟩
      have HX := Lib.hid hx
      have h1 : Hid (wr.rangeAt bA (off + i * 13) (rhC r).toList) := Lib.hid (by have h9 := rangeAt_below (rangeAt_below (hr.2 i hlt) HB.out hr.1) HQ.out (by have := hr.1; omega); rw [rhA_at R i r hx] at h9; exact h9)
      clear hr hx
      go_wp2_with (refine wpList_ld (op := ⟨some 16, _, _, _, _, _⟩) (by rfl) 96 (.tmp 15) rfl bA (off + i * 13) rfl (rhC r) _ h1.out Try.underlying96 rfl info_rh ?_; refine Hid.out ?_)
      refine Lib.hid ?_
      clear h1
      obtain ⟨N7, hN7⟩ : ∃ N, wr.heap.size = N := ⟨_, rfl⟩
      have HN7 := Lib.hid hN7
      have HNE0 := Lib.hid (fun e => Nat.lt_irrefl _ (Nat.lt_of_lt_of_eq ((HO.out.lt N7 e).2) hN7))
      have le_7 : BL ≤ N7 := by rw [← hN7]; have := HQ.out.size; rw [HBL.out] at this; exact this
      clear hN7
      go_wp2_with (refine wpList_new (op := ⟨some 7, _, _, _, _, _⟩) rfl 96 rfl rhZ zero_rh N7 HN7.out ?_; intro w5 k1 b1 s9; refine Hid.out ?_)
      refine Lib.hid ?_
      have K7 := Lib.hid k1
      have HB1 := Lib.hid b1
      clear k1 b1 s9
      go_wp2_with (refine wpList_st rfl 96 (.tmp 7) (.tmp 16) rfl N7 0 rfl (.agg (rhC r)) (rhC r) rfl rfl info_rh (rhC_one _) K7.out (Nat.le_of_ble_eq_true rfl) (C' := rhC r) (rh_overZ _) ?_; intro w6 q1; refine Hid.out ?_)
      refine Lib.hid ?_
      have b1 : Below wr.heap.size wr w6 := HB1.out.trans (q1.2.1 _ (by rw [HN7.out]; exact Nat.le_refl _))
      have K7n : Hid (Blk 96 w6 N7 (rhC r)) := Lib.hid q1.1
      clear K7
      have K7 := K7n
      clear K7n q1 HB1 HN7
      have HOn := Lib.hid (HO.out.below b1)
      clear HO
      have HO := HOn
      clear HOn
      have HQn := Lib.hid (HQ.out.trans (b1.mono (by have := HQ.out.size; rw [HBL.out] at this; exact this)))
      clear HQ
      have HQ := HQn
      clear HQn
      clear b1
      cases dn with
      | false =>
        have K3w := Lib.hid (K3.out.below HQ.out (by rw [← HBL.out]; exact K3.out.lt))
        go_wp2_with (refine wpList_ld (op := ⟨some 21, _, _, _, _, _⟩) (by rfl) 28 (.tmp 20) rfl N7 0 rfl (iC r.x.1.id) _ (rh_id K7.out) Try.underlying28 rfl info_iC ?_; refine Hid.out ?_)
        refine Lib.hid ?_
        go_wp2_with (refine wpList_ld (op := ⟨some 23, _, _, _, _, _⟩) (by rfl) 28 (.tmp 22) rfl N1 0 rfl (iC h.x.1.id) _ (rh_id K3w.out) Try.underlying28 rfl info_iC ?_; refine Hid.out ?_)
        refine Lib.hid ?_
        go_wp2_with fail
        refine (less_any r.x.1.id h.x.1.id w6 r.x.2 h.x.2).mono ?_
        rintro e w7 ⟨rfl, b1⟩
        have HOn := Lib.hid (HO.out.below b1)
        clear HO
        have HO := HOn
        clear HOn
        have HQn := Lib.hid (HQ.out.trans (b1.mono (by have := HQ.out.size; rw [HBL.out] at this; exact this)))
        clear HQ
        have HQ := HQn
        clear HQn
        have K7n := Lib.hid (K7.out.below b1 K7.out.lt)
        clear K7
        have K7 := K7n
        clear K7n
        have K3n := Lib.hid (K3w.out.below b1 K3w.out.lt)
        clear K3w
        have K3w := K3n
        clear K3n b1
        by_cases hl : r.x.1.id < h.x.1.id
        · have hd : decide (r.x.1.id < h.x.1.id) = true := by simpa using hl
          have HL := Lib.hid hl
          rw [hd]
          clear hl hd
          go_upto_region 9 with (fail)
          go_wp2_with (refine wpList_ld (op := ⟨some 32, _, _, _, _, _⟩) (by rfl) 28 (.tmp 31) rfl N7 0 rfl (iC r.x.1.id) _ (rh_id K7.out) Try.underlying28 rfl info_iC ?_; refine Hid.out ?_)
          refine Lib.hid ?_
          go_wp2_with (refine wpList_ld (op := ⟨some 34, _, _, _, _, _⟩) (by rfl) 28 (.tmp 33) rfl N1 0 rfl (iC h.x.1.id) _ (rh_id K3w.out) Try.underlying28 rfl info_iC ?_; refine Hid.out ?_)
          refine Lib.hid ?_
          go_wp2_with (refine wpList_v (op := ⟨some 35, _, _, _, _, _⟩) rfl (.bool true) ((neq_id _ _ _ _ _ rfl rfl r.x.1.id h.x.1.id r.x.2 h.x.2 rfl rfl _).trans (by rw [beq_eq_false_iff_ne.2 (fun e => by have := HL.out; omega)]; rfl)) ?_; refine Hid.out ?_)
          refine Lib.hid ?_
          go_wp2_with (refine wpList_ld (op := ⟨some 37, _, _, _, _, _⟩) (by rfl) 96 (.tmp 7) rfl N7 0 rfl (rhC r) _ K7.out.all Try.underlying96 rfl info_rh ?_; refine Hid.out ?_)
          refine Lib.hid ?_
          obtain ⟨Pa, hPa⟩ : ∃ N, w7.heap.size = N := ⟨_, rfl⟩
          have HPa := Lib.hid hPa
          clear hPa
          go_wp2_with (refine wpList_bsn (op := ⟨some 38, _, _, _, _, _⟩) 1 rfl 96 (rhC r) (bs_rh1 _ _ _ rfl r rfl) Pa HPa.out ?_; intro awa k1 b1 s9; refine Hid.out ?_)
          refine Lib.hid ?_
          have HRR : Hid (RdR awa (some ⟨Pa, 0, none⟩) 1 13 (fun _ => rhC r)) := Lib.hid (rdR_blk k1)
          clear k1 s9
          have HOn := Lib.hid (HO.out.below b1)
          clear HO
          have HO := HOn
          clear HOn
          have HQn := Lib.hid (HQ.out.trans (b1.mono (by have := HQ.out.size; rw [HBL.out] at this; exact this)))
          clear HQ
          have HQ := HQn
          clear HQn
          clear b1 K7 K3w
          have hml : maxLen = 9223372036854775807 := rfl
          have HMLa := Lib.hid hml
          clear hml
          have HZa : Hid (BL ≤ awa.heap.size) := Lib.hid (by have := HQ.out.size; rw [HBL.out] at this; exact this)
          go_wp2_with (at_builtin; refine app_Y 37 96 13 56 _ Try.underlying37 infoA_rh rfl (by decide) rfl (.tmp 36) (.tmp 38) rfl BL _ (S).length (rhA (S)) rfl HO.out HZa.out ⟨Pa, 0, none⟩ 1 1 (fun _ => rhC r) rfl HRR.out (fun _ => ⟨rfl, rhC_ones _⟩) (by have := HSL.out; rw [HMLa.out]; (try simp only [List.length_append, List.length_singleton]); omega) (by have := HSL.out; (try simp only [List.length_append, List.length_singleton]); omega) ?_; intro va ca ho9 hg9 hk9; refine Hid.out ?_)
          refine Lib.hid ?_
          have HOn : Hid (OwnR ca BL 96 13 va ((S) ++ [r]).length (rhA ((S) ++ [r]))) := Lib.hid (by rw [List.length_append]; exact OwnR.congr ho9 (fun j hj => rh_snoc _ _ j hj))
          have HQn : Hid (Below BL w1 ca) := Lib.hid (HQ.out.grown hg9 HZa.out (fun k e => hk9 k e))
          clear HO HQ ho9 hg9 hk9 HRR
          have HO := HOn
          have HQ := HQn
          clear HOn HQn
          go_wp2_with fail
          go_roundw
          case rel => exact ⟨i + 1, false, S ++ [r], by omega, by go_num, rfl, HO, HQ, Lib.hid (ins_lt HP.out HX.out HL.out)⟩
          case measure => simp only [intOf]; omega
        · have hd : decide (r.x.1.id < h.x.1.id) = false := by simpa using hl
          have HL := Lib.hid hl
          rw [hd]
          clear hl hd
          go_wp2_with (refine wpList_ld (op := ⟨some 28, _, _, _, _, _⟩) (by rfl) 96 (.tmp 3) rfl N1 0 rfl (rhC h) _ K3w.out.all Try.underlying96 rfl info_rh ?_; refine Hid.out ?_)
          refine Lib.hid ?_
          obtain ⟨Pb, hPb⟩ : ∃ N, w7.heap.size = N := ⟨_, rfl⟩
          have HPb := Lib.hid hPb
          clear hPb
          go_wp2_with (refine wpList_bsn (op := ⟨some 29, _, _, _, _, _⟩) 1 rfl 96 (rhC h) (bs_rh1 _ _ _ rfl h rfl) Pb HPb.out ?_; intro awb k1 b1 s9; refine Hid.out ?_)
          refine Lib.hid ?_
          have HRR : Hid (RdR awb (some ⟨Pb, 0, none⟩) 1 13 (fun _ => rhC h)) := Lib.hid (rdR_blk k1)
          clear k1 s9
          have HOn := Lib.hid (HO.out.below b1)
          clear HO
          have HO := HOn
          clear HOn
          have HQn := Lib.hid (HQ.out.trans (b1.mono (by have := HQ.out.size; rw [HBL.out] at this; exact this)))
          clear HQ
          have HQ := HQn
          clear HQn
          have K7n := Lib.hid (K7.out.below b1 K7.out.lt)
          clear K7
          have K7 := K7n
          clear K7n
          clear b1
          have HNE := Lib.hid (HNE0.out)
          have hml : maxLen = 9223372036854775807 := rfl
          have HMLb := Lib.hid hml
          clear hml
          have HZb : Hid (BL ≤ awb.heap.size) := Lib.hid (by have := HQ.out.size; rw [HBL.out] at this; exact this)
          go_wp2_with (at_builtin; refine app_Y 37 96 13 56 _ Try.underlying37 infoA_rh rfl (by decide) rfl (.tmp 27) (.tmp 29) rfl BL _ (S).length (rhA (S)) rfl HO.out HZb.out ⟨Pb, 0, none⟩ 1 1 (fun _ => rhC h) rfl HRR.out (fun _ => ⟨rfl, rhC_ones _⟩) (by have := HSL.out; rw [HMLb.out]; (try simp only [List.length_append, List.length_singleton]); omega) (by have := HSL.out; (try simp only [List.length_append, List.length_singleton]); omega) ?_; intro vb cb ho9 hg9 hk9; refine Hid.out ?_)
          refine Lib.hid ?_
          have K7n : Hid (Blk 96 cb N7 (rhC r)) := Lib.hid ((hg9.block N7 K7.out.lt (fun e => HNE.out e.symm)).trans K7.out)
          have HOn : Hid (OwnR cb BL 96 13 vb ((S) ++ [h]).length (rhA ((S) ++ [h]))) := Lib.hid (by rw [List.length_append]; exact OwnR.congr ho9 (fun j hj => rh_snoc _ _ j hj))
          have HQn : Hid (Below BL w1 cb) := Lib.hid (HQ.out.grown hg9 HZb.out (fun k e => hk9 k e))
          clear HO HQ ho9 hg9 hk9 HRR K7 HNE
          have K7 := K7n
          clear K7n
          have HO := HOn
          have HQ := HQn
          clear HOn HQn
          clear K3w
          go_upto_region 9 with (fail)
          have K3x := Lib.hid (K3.out.below HQ.out (by rw [← HBL.out]; exact K3.out.lt))
          go_wp2_with (refine wpList_ld (op := ⟨some 32, _, _, _, _, _⟩) (by rfl) 28 (.tmp 31) rfl N7 0 rfl (iC r.x.1.id) _ (rh_id K7.out) Try.underlying28 rfl info_iC ?_; refine Hid.out ?_)
          refine Lib.hid ?_
          go_wp2_with (refine wpList_ld (op := ⟨some 34, _, _, _, _, _⟩) (by rfl) 28 (.tmp 33) rfl N1 0 rfl (iC h.x.1.id) _ (rh_id K3x.out) Try.underlying28 rfl info_iC ?_; refine Hid.out ?_)
          refine Lib.hid ?_
          by_cases he : r.x.1.id = h.x.1.id
          · have HE := Lib.hid he
            clear he
            go_wp2_with (refine wpList_v (op := ⟨some 35, _, _, _, _, _⟩) rfl (.bool false) ((neq_id _ _ _ _ _ rfl rfl r.x.1.id h.x.1.id r.x.2 h.x.2 rfl rfl _).trans (by rw [beq_iff_eq.2 HE.out]; rfl)) ?_; refine Hid.out ?_)
            refine Lib.hid ?_
            go_wp2_with fail
            go_roundw
            case rel => exact ⟨i + 1, true, S ++ [h], by omega, by go_num, rfl, HO, HQ, Lib.hid (ins_eq HP.out HX.out HE.out)⟩
            case measure => simp only [intOf]; omega
          · have HE := Lib.hid he
            clear he
            go_wp2_with (refine wpList_v (op := ⟨some 35, _, _, _, _, _⟩) rfl (.bool true) ((neq_id _ _ _ _ _ rfl rfl r.x.1.id h.x.1.id r.x.2 h.x.2 rfl rfl _).trans (by rw [beq_eq_false_iff_ne.2 HE.out]; rfl)) ?_; refine Hid.out ?_)
            refine Lib.hid ?_
            go_wp2_with (refine wpList_ld (op := ⟨some 37, _, _, _, _, _⟩) (by rfl) 96 (.tmp 7) rfl N7 0 rfl (rhC r) _ K7.out.all Try.underlying96 rfl info_rh ?_; refine Hid.out ?_)
            refine Lib.hid ?_
            obtain ⟨Pd, hPd⟩ : ∃ N, cb.heap.size = N := ⟨_, rfl⟩
            have HPd := Lib.hid hPd
            clear hPd
            go_wp2_with (refine wpList_bsn (op := ⟨some 38, _, _, _, _, _⟩) 1 rfl 96 (rhC r) (bs_rh1 _ _ _ rfl r rfl) Pd HPd.out ?_; intro awd k1 b1 s9; refine Hid.out ?_)
            refine Lib.hid ?_
            have HRR : Hid (RdR awd (some ⟨Pd, 0, none⟩) 1 13 (fun _ => rhC r)) := Lib.hid (rdR_blk k1)
            clear k1 s9
            have HOn := Lib.hid (HO.out.below b1)
            clear HO
            have HO := HOn
            clear HOn
            have HQn := Lib.hid (HQ.out.trans (b1.mono (by have := HQ.out.size; rw [HBL.out] at this; exact this)))
            clear HQ
            have HQ := HQn
            clear HQn
            clear b1 K7 K3x
            have hml : maxLen = 9223372036854775807 := rfl
            have HMLd := Lib.hid hml
            clear hml
            have HZd : Hid (BL ≤ awd.heap.size) := Lib.hid (by have := HQ.out.size; rw [HBL.out] at this; exact this)
            go_wp2_with (at_builtin; refine app_Y 37 96 13 56 _ Try.underlying37 infoA_rh rfl (by decide) rfl (.tmp 36) (.tmp 38) rfl BL _ (S ++ [h]).length (rhA (S ++ [h])) rfl HO.out HZd.out ⟨Pd, 0, none⟩ 1 1 (fun _ => rhC r) rfl HRR.out (fun _ => ⟨rfl, rhC_ones _⟩) (by have := HSL.out; rw [HMLd.out]; (try simp only [List.length_append, List.length_singleton]); omega) (by have := HSL.out; (try simp only [List.length_append, List.length_singleton]); omega) ?_; intro vd cd ho9 hg9 hk9; refine Hid.out ?_)
            refine Lib.hid ?_
            have HOn : Hid (OwnR cd BL 96 13 vd ((S ++ [h]) ++ [r]).length (rhA ((S ++ [h]) ++ [r]))) := Lib.hid (by rw [List.length_append]; exact OwnR.congr ho9 (fun j hj => rh_snoc _ _ j hj))
            have HQn : Hid (Below BL w1 cd) := Lib.hid (HQ.out.grown hg9 HZd.out (fun k e => hk9 k e))
            clear HO HQ ho9 hg9 hk9 HRR
            have HO := HOn
            have HQ := HQn
            clear HOn HQn
            go_wp2_with fail
            go_roundw
            case rel => exact ⟨i + 1, true, (S ++ [h]) ++ [r], by omega, by go_num, rfl, HO, HQ, Lib.hid (ins_ge HP.out HX.out HL.out HE.out)⟩
            case measure => simp only [intOf]; omega
      | true =>
        have HD := Lib.hid (ins_dn HP.out HAS.out HX.out)
        have K3w := Lib.hid (K3.out.below HQ.out (by rw [← HBL.out]; exact K3.out.lt))
        go_upto_region 9 with (fail)
        go_wp2_with (refine wpList_ld (op := ⟨some 32, _, _, _, _, _⟩) (by rfl) 28 (.tmp 31) rfl N7 0 rfl (iC r.x.1.id) _ (rh_id K7.out) Try.underlying28 rfl info_iC ?_; refine Hid.out ?_)
        refine Lib.hid ?_
        go_wp2_with (refine wpList_ld (op := ⟨some 34, _, _, _, _, _⟩) (by rfl) 28 (.tmp 33) rfl N1 0 rfl (iC h.x.1.id) _ (rh_id K3w.out) Try.underlying28 rfl info_iC ?_; refine Hid.out ?_)
        refine Lib.hid ?_
        go_wp2_with (refine wpList_v (op := ⟨some 35, _, _, _, _, _⟩) rfl (.bool true) ((neq_id _ _ _ _ _ rfl rfl r.x.1.id h.x.1.id r.x.2 h.x.2 rfl rfl _).trans (by rw [beq_eq_false_iff_ne.2 (show r.x.1.id ≠ h.x.1.id from HD.out.1)]; rfl)) ?_; refine Hid.out ?_)
        refine Lib.hid ?_
        go_wp2_with (refine wpList_ld (op := ⟨some 37, _, _, _, _, _⟩) (by rfl) 96 (.tmp 7) rfl N7 0 rfl (rhC r) _ K7.out.all Try.underlying96 rfl info_rh ?_; refine Hid.out ?_)
        refine Lib.hid ?_
        obtain ⟨Pt, hPt⟩ : ∃ N, w6.heap.size = N := ⟨_, rfl⟩
        have HPt := Lib.hid hPt
        clear hPt
        go_wp2_with (refine wpList_bsn (op := ⟨some 38, _, _, _, _, _⟩) 1 rfl 96 (rhC r) (bs_rh1 _ _ _ rfl r rfl) Pt HPt.out ?_; intro awt k1 b1 s9; refine Hid.out ?_)
        refine Lib.hid ?_
        have HRR : Hid (RdR awt (some ⟨Pt, 0, none⟩) 1 13 (fun _ => rhC r)) := Lib.hid (rdR_blk k1)
        clear k1 s9
        have HOn := Lib.hid (HO.out.below b1)
        clear HO
        have HO := HOn
        clear HOn
        have HQn := Lib.hid (HQ.out.trans (b1.mono (by have := HQ.out.size; rw [HBL.out] at this; exact this)))
        clear HQ
        have HQ := HQn
        clear HQn
        clear b1 K7 K3w
        have hml : maxLen = 9223372036854775807 := rfl
        have HMLt := Lib.hid hml
        clear hml
        have HZt : Hid (BL ≤ awt.heap.size) := Lib.hid (by have := HQ.out.size; rw [HBL.out] at this; exact this)
        go_wp2_with (at_builtin; refine app_Y 37 96 13 56 _ Try.underlying37 infoA_rh rfl (by decide) rfl (.tmp 36) (.tmp 38) rfl BL _ (S).length (rhA (S)) rfl HO.out HZt.out ⟨Pt, 0, none⟩ 1 1 (fun _ => rhC r) rfl HRR.out (fun _ => ⟨rfl, rhC_ones _⟩) (by have := HSL.out; rw [HMLt.out]; (try simp only [List.length_append, List.length_singleton]); omega) (by have := HSL.out; (try simp only [List.length_append, List.length_singleton]); omega) ?_; intro vt ct ho9 hg9 hk9; refine Hid.out ?_)
        refine Lib.hid ?_
        have HOn : Hid (OwnR ct BL 96 13 vt ((S) ++ [r]).length (rhA ((S) ++ [r]))) := Lib.hid (by rw [List.length_append]; exact OwnR.congr ho9 (fun j hj => rh_snoc _ _ j hj))
        have HQn : Hid (Below BL w1 ct) := Lib.hid (HQ.out.grown hg9 HZt.out (fun k e => hk9 k e))
        clear HO HQ ho9 hg9 hk9 HRR
        have HO := HOn
        have HQ := HQn
        clear HOn HQn
        go_wp2_with fail
        go_roundw
        case rel => exact ⟨i + 1, true, S ++ [r], by omega, by go_num, rfl, HO, HQ, Lib.hid HD.out.2⟩
        case measure => simp only [intOf]; omega
    · obtain rfl : m = i := by omega
      cases dn with
      | false =>
        have K3w := Lib.hid (K3.out.below HQ.out (by rw [← HBL.out]; exact K3.out.lt))
        go_wp2_with (refine wpList_ld (op := ⟨some 44, _, _, _, _, _⟩) (by rfl) 96 (.tmp 3) rfl N1 0 rfl (rhC h) _ K3w.out.all Try.underlying96 rfl info_rh ?_; refine Hid.out ?_)
        refine Lib.hid ?_
        obtain ⟨Pp, hPp⟩ : ∃ N, wr.heap.size = N := ⟨_, rfl⟩
        have HPp := Lib.hid hPp
        clear hPp
        go_wp2_with (refine wpList_bsn (op := ⟨some 45, _, _, _, _, _⟩) 1 rfl 96 (rhC h) (bs_rh1 _ _ _ rfl h rfl) Pp HPp.out ?_; intro awp k1 b1 s9; refine Hid.out ?_)
        refine Lib.hid ?_
        have HRR : Hid (RdR awp (some ⟨Pp, 0, none⟩) 1 13 (fun _ => rhC h)) := Lib.hid (rdR_blk k1)
        clear k1 s9
        have HOn := Lib.hid (HO.out.below b1)
        clear HO
        have HO := HOn
        clear HOn
        have HQn := Lib.hid (HQ.out.trans (b1.mono (by have := HQ.out.size; rw [HBL.out] at this; exact this)))
        clear HQ
        have HQ := HQn
        clear HQn
        clear b1 K3w
        have hml : maxLen = 9223372036854775807 := rfl
        have HMLp := Lib.hid hml
        clear hml
        have HZp : Hid (BL ≤ awp.heap.size) := Lib.hid (by have := HQ.out.size; rw [HBL.out] at this; exact this)
        go_wp2_with (at_builtin; refine app_Y 37 96 13 56 _ Try.underlying37 infoA_rh rfl (by decide) rfl (.tmp 43) (.tmp 45) rfl BL _ (S).length (rhA (S)) rfl HO.out HZp.out ⟨Pp, 0, none⟩ 1 1 (fun _ => rhC h) rfl HRR.out (fun _ => ⟨rfl, rhC_ones _⟩) (by have := HSL.out; rw [HMLp.out]; (try simp only [List.length_append, List.length_singleton]); omega) (by have := HSL.out; (try simp only [List.length_append, List.length_singleton]); omega) ?_; intro vp cp ho9 hg9 hk9; refine Hid.out ?_)
        refine Lib.hid ?_
        have HOn : Hid (OwnR cp BL 96 13 vp ((S) ++ [h]).length (rhA ((S) ++ [h]))) := Lib.hid (by rw [List.length_append]; exact OwnR.congr ho9 (fun j hj => rh_snoc _ _ j hj))
        have HQn : Hid (Below BL w1 cp) := Lib.hid (HQ.out.grown hg9 HZp.out (fun k e => hk9 k e))
        clear HO HQ ho9 hg9 hk9 HRR
        have HO := HOn
        have HQ := HQn
        clear HOn HQn
        have KSw := Lib.hid (KS.out.below HQ.out (by rw [← HBL.out]; exact KS.out.lt))
        go_upto_region 14 with (fail)
        obtain ⟨A9, c9, e9, _⟩ := HO.out.shape (recs_rh _) (by decide)
        subst e9
        go_wp2_with (refine wpList_st rfl 37 (.tmp 50) (.tmp 48) rfl sr 0 rfl (.slice A9 ((S ++ [h])).length c9) #[.slice A9 ((S ++ [h])).length c9] rfl rfl info_lr one_lr KSw.out (Nat.le_of_ble_eq_true rfl) (C' := #[.slice A9 ((S ++ [h])).length c9, .bool rf]) rfl ?_; intro wz q1; refine Hid.out ?_)
        refine Lib.hid ?_
        have HF1 : Hid (Fr1 w cp sr) := Lib.hid (Fr1.of_below sr (HB.out.trans (HQ.out.mono le_BL)))
        have HFZ : Hid (Fr1 w wz sr) := Lib.hid (HF1.out.trans (Fr1.stored q1))
        have HOz : Hid (OwnR wz BL 96 13 (.slice A9 ((S ++ [h])).length c9) ((S ++ [h])).length (rhA ((S ++ [h])))) := Lib.hid (by
          rcases HO.out with ⟨o1, o2 | ⟨g9, cap9, cur9, o2, o3, o4, rest⟩⟩
          · exact ⟨o1, .inl o2⟩
          · exact ⟨o1, .inr ⟨g9, cap9, cur9, o2, o3, (q1.2.2 g9 (by omega)).trans o4, rest⟩⟩)
        have HSz : Hid (Blk 39 wz sr #[.slice A9 ((S ++ [h])).length c9, .bool rf]) := Lib.hid q1.1
        clear q1 HO HQ KSw
        go_wp2_with fail
        go_end0
        have e8 : insR R h = (S ++ [h]) := ins_end_f (by rw [HM.out]; exact HP.out)
        refine ⟨rfl, HFZ.out, le_B, fun x hx => ?_, ?_⟩
        · have hbs : Blk 39 w sr _ := KS0.out
          rcases ins_mem hx with hx | rfl
          · exact ⟨(HOK.out x hx).1.fr1 HFZ.out hbs, (HOK.out x hx).2⟩
          · exact ⟨HHO.out.1.fr1 HFZ.out hbs, HHO.out.2⟩
        · rw [e8]
          exact ⟨_, HSz.out, HOz.out.mono (by omega)⟩
      | true =>
        have KSw := Lib.hid (KS.out.below HQ.out (by rw [← HBL.out]; exact KS.out.lt))
        go_upto_region 14 with (fail)
        obtain ⟨A9, c9, e9, _⟩ := HO.out.shape (recs_rh _) (by decide)
        subst e9
        go_wp2_with (refine wpList_st rfl 37 (.tmp 50) (.tmp 48) rfl sr 0 rfl (.slice A9 (S).length c9) #[.slice A9 (S).length c9] rfl rfl info_lr one_lr KSw.out (Nat.le_of_ble_eq_true rfl) (C' := #[.slice A9 (S).length c9, .bool rf]) rfl ?_; intro wz q1; refine Hid.out ?_)
        refine Lib.hid ?_
        have HF1 : Hid (Fr1 w wr sr) := Lib.hid (Fr1.of_below sr (HB.out.trans (HQ.out.mono le_BL)))
        have HFZ : Hid (Fr1 w wz sr) := Lib.hid (HF1.out.trans (Fr1.stored q1))
        have HOz : Hid (OwnR wz BL 96 13 (.slice A9 (S).length c9) (S).length (rhA (S))) := Lib.hid (by
          rcases HO.out with ⟨o1, o2 | ⟨g9, cap9, cur9, o2, o3, o4, rest⟩⟩
          · exact ⟨o1, .inl o2⟩
          · exact ⟨o1, .inr ⟨g9, cap9, cur9, o2, o3, (q1.2.2 g9 (by omega)).trans o4, rest⟩⟩)
        have HSz : Hid (Blk 39 wz sr #[.slice A9 (S).length c9, .bool rf]) := Lib.hid q1.1
        clear q1 HO HQ KSw
        go_wp2_with fail
        go_end0
        have e8 : insR R h = S := ins_end_t (by rw [HM.out]; exact HP.out)
        refine ⟨rfl, HFZ.out, le_B, fun x hx => ?_, ?_⟩
        · have hbs : Blk 39 w sr _ := KS0.out
          rcases ins_mem hx with hx | rfl
          · exact ⟨(HOK.out x hx).1.fr1 HFZ.out hbs, (HOK.out x hx).2⟩
          · exact ⟨HHO.out.1.fr1 HFZ.out hbs, HHO.out.2⟩
        · rw [e8]
          exact ⟨_, HSz.out, HOz.out.mono (by omega)⟩
end Go.Proofs.Ytkiaijmhoikdiaa

/- What the laws of pdu have in common: a copy is made and written. Each theorem states its conditions. -/
namespace Go.Proofs.Ytkiaijmhoikdiaa
open Go.RowKit
set_option linter.unusedVariables false

end Go.Proofs.Ytkiaijmhoikdiaa

/- An LSP of which a byte is turned is no packet. Each theorem states its conditions. -/
namespace Go.Proofs.Ytkiaijmhoikdiaa
open Go.RowKit
set_option linter.unusedVariables false

theorem RdT.cut {w : World} {A : Option Addr} {m : Nat} {L : Nat → It} (h : RdT w A m L) (k : Nat) (hk : k ≤ m) : RdT w A k L := by
  rcases h with h | ⟨b, off, rfl, h⟩
  · exact .inl (by omega)
  · exact .inr ⟨b, off, rfl, h.1, fun j hj => h.2 j (by omega)⟩
end Go.Proofs.Ytkiaijmhoikdiaa

/- An LSP whose life alone is another one: its bytes. Each theorem states its conditions. -/
namespace Go.Proofs.Ytkiaijmhoikdiaa
open Go.RowKit
set_option linter.unusedVariables false

end Go.Proofs.Ytkiaijmhoikdiaa

/- What was read is written as just these bytes, if they are of the form. Each theorem states its conditions. -/
namespace Go.Proofs.Ytkiaijmhoikdiaa
open Go.RowKit
set_option linter.unusedVariables false

theorem sz_it {z : Nat → Int} {L : Nat → It} {m : Nat} (h : IsItZ z L m) : ∀ k, k ≤ m → sz L k = pos z k := by
  intro k hk
  induction k with
  | zero => rfl
  | succ k ih =>
    obtain ⟨g, cap, e⟩ := h k (by omega)
    simp only [sz, pos, ih (by omega), e, itZ]
    omega
theorem J_it {z : Nat → Int} {L : Nat → It} {m : Nat} (hz : ∀ j, 0 ≤ z j) (h : IsItZ z L m) : ∀ k, k ≤ m → ∀ j, j < pos z k → J L k j = z j := by
  intro k hk
  induction k with
  | zero => intro j hj; simp [pos] at hj
  | succ k ih =>
    intro j hj
    obtain ⟨g, cap, e⟩ := h k (by omega)
    have hs := sz_it h k (by omega)
    have h0 := hz (pos z k + 1)
    simp only [J, e, itZ, hs]
    unfold cat two
    by_cases h1 : j < pos z k
    · rw [if_pos (by omega), if_pos h1]; exact ih (by omega) j h1
    · by_cases h2 : j < pos z k + 2
      · rw [if_pos h2, if_neg h1]
        by_cases h3 : j = pos z k
        · subst h3; simp
        · rw [if_neg (by omega)]
          rw [show j = pos z k + 1 by omega]
          omega
      · rw [if_neg h2]
        show z (pos z k + 2 + (j - (pos z k + 2))) = z j
        rw [show pos z k + 2 + (j - (pos z k + 2)) = j by omega]
theorem good_it {z : Nat → Int} {L : Nat → It} {m : Nat} (hz : ∀ j, 0 ≤ z j ∧ z j ≤ 255) (h : IsItZ z L m) (hp : pos z m ≤ 1492) : ∀ k, k < m → ¬ bad L k := by
  intro k hk hb
  obtain ⟨g, cap, e⟩ := h k hk
  have hs := sz_it h (k + 1) (by omega)
  have h1 := pos_mono z (k + 1) m (by omega)
  have h2 := hz (pos z k + 1)
  unfold bad at hb
  rw [hs, e] at hb
  simp only [itZ] at hb
  omega
theorem num2 (y : Nat → Int) : numZ y 0 2 = y 0 * 256 + y 1 := by simp [numZ]
theorem num4 (y : Nat → Int) : numZ y 0 4 = ((y 0 * 256 + y 1) * 256 + y 2) * 256 + y 3 := by simp [numZ]
theorem put_num2 (y : Nat → Int) (N : Nat) (hy : ∀ j, 0 ≤ y j ∧ y j ≤ 255) (hN : (numZ y 0 2).toNat = N) : ∀ j, j < 2 → putZ N 2 j = y j := by
  intro j hj
  rw [num2] at hN
  have h0 := hy 0
  have h1 := hy 1
  rcases (by omega : j = 0 ∨ j = 1) with rfl | rfl
  · show ((N / 256 ^ 1 % 256 : Nat) : Int) = _
    rw [show (256 : Nat) ^ 1 = 256 from rfl]
    omega
  · show ((N / 256 ^ 0 % 256 : Nat) : Int) = _
    rw [show (256 : Nat) ^ 0 = 1 from rfl]
    omega
theorem put_num4 (y : Nat → Int) (N : Nat) (hy : ∀ j, 0 ≤ y j ∧ y j ≤ 255) (hN : (numZ y 0 4).toNat = N) : ∀ j, j < 4 → putZ N 4 j = y j := by
  intro j hj
  rw [num4] at hN
  have h0 := hy 0
  have h1 := hy 1
  have h2 := hy 2
  have h3 := hy 3
  rcases (by omega : j = 0 ∨ j = 1 ∨ j = 2 ∨ j = 3) with rfl | rfl | rfl | rfl
  · show ((N / 256 ^ 3 % 256 : Nat) : Int) = _
    rw [show (256 : Nat) ^ 3 = 16777216 from rfl]
    omega
  · show ((N / 256 ^ 2 % 256 : Nat) : Int) = _
    rw [show (256 : Nat) ^ 2 = 65536 from rfl]
    omega
  · show ((N / 256 ^ 1 % 256 : Nat) : Int) = _
    rw [show (256 : Nat) ^ 1 = 256 from rfl]
    omega
  · show ((N / 256 ^ 0 % 256 : Nat) : Int) = _
    rw [show (256 : Nat) ^ 0 = 1 from rfl]
    omega
/-- every byte ahead of the TLVs is of the first eight, or of a field -/
theorem cover_l : ∀ q ∈ List.range 5, ∀ j ∈ List.range 33, 8 ≤ j → j < hdN q → ∃ i ∈ List.range 6, i < (flC q).length ∧ ∃ k ∈ List.range 8, k < fsz (fAt q i) ∧ j = accN q i + k := by decide +kernel
theorem cover (q : Nat) (hq : q < 5) (j : Nat) (h33 : j < 33) (h8 : 8 ≤ j) (hh : j < hdN q) : ∃ i, i < 6 ∧ i < (flC q).length ∧ ∃ k, k < 8 ∧ k < fsz (fAt q i) ∧ j = accN q i + k := by
  obtain ⟨i, h1, h2, k, h3, h4⟩ := cover_l q (List.mem_range.2 hq) j (List.mem_range.2 h33) h8 hh
  exact ⟨i, List.mem_range.1 h1, h2, k, List.mem_range.1 h3, h4⟩
theorem cover_11 : ∀ q, q < 5 → ∀ i, i < 6 → i < (flC q).length → fAt q i = 11 → q = 2 ∧ accN q i = 24 := by decide +kernel
theorem fsz_11 : fsz 11 = 2 := rfl
/-- what stands in a field that was read -/
theorem fld_rd (q : Nat) (hq : q < 5) (z : Nat → Int) (hz : ∀ j, 0 ≤ z j ∧ z j ≤ 255) (A : Option Addr) (m c W : Nat) (i : Nat) (hi : i < (flC q).length) (h4 : fAt q i ≠ 4) (h11 : fAt q i ≠ 11) :
    ∀ k, k < fsz (fAt q i) → fZ (withT (rdP q z) A m c) W (fAt q i) k = z (accN q i + k) := by
  rcases (by omega : q = 0 ∨ q = 1 ∨ q = 2 ∨ q = 3 ∨ q = 4) with rfl | rfl | rfl | rfl | rfl
  · rcases (by have : (flC 0).length = 5 := rfl
               omega : i = 0 ∨ i = 1 ∨ i = 2 ∨ i = 3 ∨ i = 4) with rfl | rfl | rfl | rfl | rfl
    · intro k hk; obtain rfl : k = 0 := by have : fsz (fAt 0 0) = 1 := rfl
                                           omega
      rfl
    · intro k hk
      rcases (by have : fsz (fAt 0 1) = 6 := rfl
                 omega : k = 0 ∨ k = 1 ∨ k = 2 ∨ k = 3 ∨ k = 4 ∨ k = 5) with rfl | rfl | rfl | rfl | rfl | rfl <;> rfl
    · exact put_num2 (fun j => z (15 + j)) _ (fun j => hz _) rfl
    · exact absurd rfl h4
    · intro k hk; obtain rfl : k = 0 := by have : fsz (fAt 0 4) = 1 := rfl
                                           omega
      rfl
  · rcases (by have : (flC 1).length = 6 := rfl
               omega : i = 0 ∨ i = 1 ∨ i = 2 ∨ i = 3 ∨ i = 4 ∨ i = 5) with rfl | rfl | rfl | rfl | rfl | rfl
    · intro k hk; obtain rfl : k = 0 := by have : fsz (fAt 1 0) = 1 := rfl
                                           omega
      rfl
    · intro k hk
      rcases (by have : fsz (fAt 1 1) = 6 := rfl
                 omega : k = 0 ∨ k = 1 ∨ k = 2 ∨ k = 3 ∨ k = 4 ∨ k = 5) with rfl | rfl | rfl | rfl | rfl | rfl <;> rfl
    · exact put_num2 (fun j => z (15 + j)) _ (fun j => hz _) rfl
    · exact absurd rfl h4
    · intro k hk; obtain rfl : k = 0 := by have : fsz (fAt 1 4) = 1 := rfl
                                           omega
      rfl
    · intro k hk; rfl
  · rcases (by have : (flC 2).length = 6 := rfl
               omega : i = 0 ∨ i = 1 ∨ i = 2 ∨ i = 3 ∨ i = 4 ∨ i = 5) with rfl | rfl | rfl | rfl | rfl | rfl
    · exact absurd rfl h4
    · exact put_num2 (fun j => z (10 + j)) _ (fun j => hz _) rfl
    · intro k hk; rfl
    · exact put_num4 (fun j => z (20 + j)) _ (fun j => hz _) rfl
    · exact absurd rfl h11
    · intro k hk; obtain rfl : k = 0 := by have : fsz (fAt 2 5) = 1 := rfl
                                           omega
      rfl
  · rcases (by have : (flC 3).length = 4 := rfl
               omega : i = 0 ∨ i = 1 ∨ i = 2 ∨ i = 3) with rfl | rfl | rfl | rfl
    · exact absurd rfl h4
    · intro k hk; rfl
    · intro k hk; rfl
    · intro k hk; rfl
  · rcases (by have : (flC 4).length = 2 := rfl
               omega : i = 0 ∨ i = 1) with rfl | rfl
    · exact absurd rfl h4
    · intro k hk; rfl
/-- but for check bytes: what was read is written as just these bytes, if they are of the form -/
theorem back_iff (q : Nat) (hq : q ≤ 4) (z : Nat → Int) (n m : Nat) (L : Nat → It) (A : Option Addr) (c : Nat) (hk : cls (z 4) = q) (h8 : 8 ≤ n) (hh : hdN q ≤ n) (hn : n ≤ 1492) (hz : ∀ j, 0 ≤ z j ∧ z j ≤ 255)
    (hI : IsItZ (tlZ q z) L m) (hp : pos (tlZ q z) m = n - hdN q) :
    (∀ j, j < n → (q = 2 → j ≠ 24 ∧ j ≠ 25) → pdZ (withT (rdP q z) A m c) q L j = z j) ↔ FormOk z n := by
  have h17 := hdN_bd q hq
  have hs : sz L m = n - hdN q := (sz_it hI m (Nat.le_refl _)).trans hp
  have hkd : (withT (rdP q z) A m c).kd = z 4 := rdP_kd q z
  have hmm : (withT (rdP q z) A m c).m = m := rfl
  have hW : hdN q + sz L m = n := by omega
  constructor
  · intro hE
    refine ⟨h8, by rw [hk]; exact hq, by rw [hk]; exact hh, ?_, ?_⟩
    · rw [eqB_iff hz (headZ_bd _ _ (hz 4) (by rw [hk]; omega))]
      intro j hj
      rw [hk, ← hE j (by omega) (fun _ => by omega), pd_head _ q L hq j hj, hkd]
    · rw [hk]
      intro i hi h4
      have ht := told_pd (withT (rdP q z) A m c) q L (by rw [hmm]; omega) i hi h4
      rw [hmm, hW] at ht
      rw [← ht]
      unfold toldN
      have hac := accN_hd q i hi
      have hf : fsz (fAt q i) = 2 := by rw [h4]; rfl
      have h11 : q = 2 → accN q i ≠ 24 ∧ accN q i ≠ 25 ∧ accN q i + 1 ≠ 24 := fun e => by
        subst e
        rcases (by have : (flC 2).length = 6 := rfl
                   omega : i = 0 ∨ i = 1 ∨ i = 2 ∨ i = 3 ∨ i = 4 ∨ i = 5) with rfl | rfl | rfl | rfl | rfl | rfl
        · exact ⟨by decide, by decide, by decide⟩
        all_goals exact absurd h4 (by decide)
      rw [dnumZ_congr (fun j => pdZ (withT (rdP q z) A m c) q L (accN q i + j)) (fun j => z (accN q i + j)) 2 (fun j hj => hE _ (by omega) (fun e => by have := h11 e; omega))]
  · rintro ⟨_, _, _, h1, h2⟩ j hj hc
    rw [hk] at h1 h2
    rw [eqB_iff hz (headZ_bd _ _ (hz 4) (by omega))] at h1
    by_cases hj8 : j < 8
    · rw [pd_head _ q L hq j hj8, hkd, ← h1 j hj8]
    · by_cases hjh : j < hdN q
      · obtain ⟨i, hi6, hi, k, hk8, hkf, rfl⟩ := cover q (by omega) j (by omega) (by omega) hjh
        by_cases h11 : fAt q i = 11
        · obtain ⟨e1, e2⟩ := cover_11 q (by omega) i hi6 hi h11
          have := hc e1
          rw [h11, fsz_11] at hkf
          omega
        · rw [pd_field _ q L i k hi hkf h11]
          by_cases h4 : fAt q i = 4
          · have ht := h2 i hi h4
            rw [h4] at hkf ⊢
            show putZ (hdN q + sz L m) 2 k = _
            rw [hW]
            exact put_num2 (fun j => z (accN q i + j)) n (fun j => hz _) ht k hkf
          · exact fld_rd q (by omega) z hz A m c _ i hi h4 h11 k hkf
      · obtain ⟨k, rfl⟩ : ∃ k, j = hdN q + k := ⟨j - hdN q, by omega⟩
        rw [pd_tail _ q L hq k]
        exact J_it (z := tlZ q z) (fun j => (hz _).1) hI m (Nat.le_refl _) k (by rw [hp]; omega)
/-- the check bytes of what is written -/
theorem pdZ_chk (p : Pd) (L : Nat → It) (n : Nat) (hW : hdN 2 + sz L p.m = n) (z : Nat → Int) (hE : ∀ j, j < n → (j ≠ 24 ∧ j ≠ 25) → pdZ p 2 L j = z j) :
    pdZ p 2 L 24 = chkX (fun j => z (12 + j)) 12 (n - 12) ∧ pdZ p 2 L 25 = chkY (fun j => z (12 + j)) 12 (n - 12) := by
  have hw : ∀ j, j < n - 12 → j ≠ 12 → j ≠ 12 + 1 → (fun j => wZ p 2 L (12 + j)) j = (fun j => z (12 + j)) j := fun j hj h1 h2 => by
    show wZ p 2 L (12 + j) = z (12 + j)
    rw [← hE (12 + j) (by omega) (by omega), pdZ_far p 2 L (12 + j) (fun _ => by omega)]
  have e : pdZ p 2 L = sgZ (wZ p 2 L) n := by unfold pdZ; rw [if_pos rfl, hW]
  rw [e]
  unfold sgZ
  rw [← chkX_congr _ _ 12 (n - 12) hw, ← chkY_congr _ _ 12 (n - 12) hw]
  exact ⟨if_pos rfl, by rw [if_neg (by decide), if_pos rfl]⟩
/-- with check bytes: all is alike just if they are right -/
theorem all_iff (p : Pd) (L : Nat → It) (n : Nat) (hn : 27 ≤ n) (hW : hdN 2 + sz L p.m = n) (z : Nat → Int) (hE : ∀ j, j < n → (j ≠ 24 ∧ j ≠ 25) → pdZ p 2 L j = z j) :
    (∀ j, j < n → pdZ p 2 L j = z j) ↔ rightB (fun j => z (12 + j)) 12 (n - 12) = true := by
  obtain ⟨e1, e2⟩ := pdZ_chk p L n hW z hE
  unfold rightB
  simp only [Bool.and_eq_true, beq_iff_eq]
  show _ ↔ z 24 = _ ∧ z 25 = _
  constructor
  · intro h
    exact ⟨by rw [← e1, h 24 (by omega)], by rw [← e2, h 25 (by omega)]⟩
  · rintro ⟨h1, h2⟩ j hj
    by_cases h24 : j = 24
    · subst h24; rw [e1, h1]
    · by_cases h25 : j = 25
      · subst h25; rw [e2, h2]
      · exact hE j hj ⟨h24, h25⟩
end Go.Proofs.Ytkiaijmhoikdiaa

/- Packets with other lists that are alike; Plain of every kind. Each theorem states its conditions. -/
namespace Go.Proofs.Ytkiaijmhoikdiaa
open Go.RowKit
set_option linter.unusedVariables false

theorem below_drewN (w : World) (k : Nat) : Below w.heap.size w (w.drewN k) := ⟨rfl, rfl, rfl, Nat.le_refl _, fun k hk => rfl⟩
end Go.Proofs.Ytkiaijmhoikdiaa

/- The document's number, NodeAt, IDAt. Each theorem states its conditions. -/
namespace Go.Proofs.Ytkiaijmhoikdiaa
open Go.RowKit
set_option linter.unusedVariables false

theorem wrI (e : Int) (h0 : -9223372036854775808 ≤ e) (h1 : e ≤ 9223372036854775807) : IntKind.i64.wrap e = e := by simp [IntKind.wrap, IntKind.signed, IntKind.bits]; omega
set_option maxHeartbeats 2000000 in
set_option maxRecDepth 100000 in
theorem number_two (b off n c : Nat) (z : Nat → Int) (w : World) (hr : Row8 w b off n z) (h2 : 2 ≤ n) :
    Calls Try.prog 73 #[.slice (some ⟨b, off, none⟩) n c] w fun e w' => e = .returned (.int .i64 (((numZ z 0 2).toNat : Nat) : Int)) ∧ Below w.heap.size w w' := by
  have c0 : w.cell? ⟨b, off, none⟩ = some (.int .u8 (z 0)) := hr.2.1 0 (by omega)
  have c1 : w.cell? ⟨b, off + 1, none⟩ = some (.int .u8 (z 1)) := hr.2.1 1 (by omega)
  have z0 := hr.2.2 0
  have z1 := hr.2.2 1
  have hb := numZ_lt z 0 2 (fun j => hr.2.2 _)
  have hM : (((numZ z 0 2).toNat : Nat) : Int) = z 0 * 256 + z 1 := by
    rw [Int.toNat_of_nonneg hb.1]
    simp only [numZ]
    simp
  rw [hM]
  have i1 : (1 : Int) < (n : Int) := by omega
  have i0 : (0 : Int) < (n : Int) := by omega
  have n0 : ¬ n = 0 := by omega
  clear hb hM hr
  go_enter Try.func73, Try.ntmps73
  go_wp2_with fail
  refine wp_region_held_drew (S := fun w' => w'.cell? ⟨b, off, none⟩ = some (.int .u8 (z 0)) ∧ w'.cell? ⟨b, off + 1, none⟩ = some (.int .u8 (z 1))) (by kernel_rfl) ⟨c0, c1⟩ (fun hS0 => ?_)
  refine takeY (i := 0) (some 3) (v := .slice (some ⟨b, off, none⟩) n c) rfl rfl (by kernel_rfl) (by kernel_rfl) (by kernel_rfl) (fun _ _ _ h => h) (by rfl) (fun w' hS => by obtain ⟨s0, s1⟩ := hS; go_simp) hS0 ?_
  simp only [Act.put, List.setIfInBounds_toArray, List.set_cons_zero, List.set_cons_succ]
  refine takeY (i := 1) (some 4) (v := .pointer (some ⟨b, off, none⟩)) rfl rfl (by kernel_rfl) (by kernel_rfl) (by kernel_rfl) (fun _ _ _ h => h) (by rfl) (fun w' hS => by obtain ⟨s0, s1⟩ := hS; go_simp) hS0 ?_
  simp only [Act.put, List.setIfInBounds_toArray, List.set_cons_zero, List.set_cons_succ]
  refine takeY (i := 2) (some 5) (v := .int .u8 (z 0)) rfl rfl (by kernel_rfl) (by kernel_rfl) (by kernel_rfl) (fun _ _ _ h => h) (by rfl) (fun w' hS => by obtain ⟨s0, s1⟩ := hS; go_simp) hS0 ?_
  simp only [Act.put, List.setIfInBounds_toArray, List.set_cons_zero, List.set_cons_succ]
  refine takeY (i := 3) (some 6) (v := .int .i64 (z 0)) rfl rfl (by kernel_rfl) (by kernel_rfl) (by kernel_rfl) (fun _ _ _ h => h) (by rfl) (fun w' hS => by obtain ⟨s0, s1⟩ := hS; first | (go_simp; done) | (go_simp; exact wrI _ (by omega) (by omega))) hS0 ?_
  simp only [Act.put, List.setIfInBounds_toArray, List.set_cons_zero, List.set_cons_succ]
  refine takeY (i := 4) (some 7) (v := .int .i64 (z 0 * 256)) rfl rfl (by kernel_rfl) (by kernel_rfl) (by kernel_rfl) (fun _ _ _ h => h) (by rfl) (fun w' hS => by obtain ⟨s0, s1⟩ := hS; first | (go_simp; done) | (go_simp; exact wrI _ (by omega) (by omega))) hS0 ?_
  simp only [Act.put, List.setIfInBounds_toArray, List.set_cons_zero, List.set_cons_succ]
  refine takeY (i := 5) (some 8) (v := .slice (some ⟨b, off, none⟩) n c) rfl rfl (by kernel_rfl) (by kernel_rfl) (by kernel_rfl) (fun _ _ _ h => h) (by rfl) (fun w' hS => by obtain ⟨s0, s1⟩ := hS; go_simp) hS0 ?_
  simp only [Act.put, List.setIfInBounds_toArray, List.set_cons_zero, List.set_cons_succ]
  refine takeY (i := 6) (some 9) (v := .pointer (some ⟨b, off + 1, none⟩)) rfl rfl (by kernel_rfl) (by kernel_rfl) (by kernel_rfl) (fun _ _ _ h => h) (by rfl) (fun w' hS => by obtain ⟨s0, s1⟩ := hS; go_simp) hS0 ?_
  simp only [Act.put, List.setIfInBounds_toArray, List.set_cons_zero, List.set_cons_succ]
  refine takeY (i := 7) (some 10) (v := .int .u8 (z 1)) rfl rfl (by kernel_rfl) (by kernel_rfl) (by kernel_rfl) (fun _ _ _ h => h) (by rfl) (fun w' hS => by obtain ⟨s0, s1⟩ := hS; go_simp) hS0 ?_
  simp only [Act.put, List.setIfInBounds_toArray, List.set_cons_zero, List.set_cons_succ]
  refine takeY (i := 8) (some 11) (v := .int .i64 (z 1)) rfl rfl (by kernel_rfl) (by kernel_rfl) (by kernel_rfl) (fun _ _ _ h => h) (by rfl) (fun w' hS => by obtain ⟨s0, s1⟩ := hS; first | (go_simp; done) | (go_simp; exact wrI _ (by omega) (by omega))) hS0 ?_
  simp only [Act.put, List.setIfInBounds_toArray, List.set_cons_zero, List.set_cons_succ]
  refine takeY (i := 9) (some 12) (v := .int .i64 (z 0 * 256 + z 1)) rfl rfl (by kernel_rfl) (by kernel_rfl) (by kernel_rfl) (fun _ _ _ h => h) (by rfl) (fun w' hS => by obtain ⟨s0, s1⟩ := hS; first | (go_simp; done) | (go_simp; exact wrI _ (by omega) (by omega))) hS0 ?_
  simp only [Act.put, List.setIfInBounds_toArray, List.set_cons_zero, List.set_cons_succ]
  refine takeY (i := 10) (some 2) (v := .int .i64 (z 0 * 256 + z 1)) rfl rfl (by kernel_rfl) (by kernel_rfl) (by kernel_rfl) (fun _ _ _ h => h) (by rfl) (fun w' hS => by obtain ⟨s0, s1⟩ := hS; go_simp) hS0 ?_
  simp only [Act.put, List.setIfInBounds_toArray, List.set_cons_zero, List.set_cons_succ]
  refine wpAnyH_done (by kernel_rfl) ?_ _
  clear hS0
  go_wp2_with fail
  go_ret
  exact ⟨rfl, (bself w).drew⟩
def hdzA (z : Nat → Int) (i : Nat) : Nat → Int := fun j => if j < i then z j else 0
theorem hd_putA (z : Nat → Int) (i : Nat) (hi : i < 7) : (ndC (hdzA z i)).setIfInBounds i (.int .u8 (z i)) = ndC (hdzA z (i + 1)) := by
  rcases (by omega : i = 0 ∨ i = 1 ∨ i = 2 ∨ i = 3 ∨ i = 4 ∨ i = 5 ∨ i = 6) with rfl | rfl | rfl | rfl | rfl | rfl | rfl <;> rfl
theorem hd_at (z : Nat → Int) (i : Nat) (hi : i < 7) : (ndC (hdzA z i))[i]? = some (.int .u8 0) := by
  rcases (by omega : i = 0 ∨ i = 1 ∨ i = 2 ∨ i = 3 ∨ i = 4 ∨ i = 5 ∨ i = 6) with rfl | rfl | rfl | rfl | rfl | rfl | rfl <;> rfl
set_option maxHeartbeats 4000000 in
set_option maxRecDepth 100000 in
theorem nodeAt_any (b off n c : Nat) (z : Nat → Int) (w : World) (hr : Row8 w b off n z) (h7 : 7 ≤ n) (hn : n ≤ 1492) :
    Calls Try.prog 74 #[.slice (some ⟨b, off, none⟩) n c] w fun e w' => e = .returned (.agg (ndC z)) ∧ Below w.heap.size w w' := by
  obtain ⟨W2, hW2⟩ : ∃ W2, (w.alloc (.cells nd0 26)).alloc (.cells nd0 26) = W2 := ⟨_, rfl⟩
  have hB2 : Below w.heap.size w W2 := by rw [← hW2]; exact ((bself w).alloc (Nat.le_refl _) _).alloc (by simp) _
  have hX1 : W2.heap[w.heap.size + 1]? = some (.cells (ndC (hdzA z 0)) 26 (0, 0)) := by
    have := heap_alloc_new (w.alloc (.cells nd0 26)) (.cells nd0 26)
    rw [World.size_alloc, hW2] at this
    exact this
  have hX0 : W2.heap[w.heap.size]? = some (.cells nd0 26 (0, 0)) := by
    rw [← hW2]
    exact (Below.heap_alloc _ _ _ (by simp)).trans (heap_alloc_new w _)
  have HX1 := Lib.hid hX1
  have HX0 := Lib.hid hX0
  have HB2 := Lib.hid hB2
  have HR := Lib.hid hr
  have hbw := hr.1
  have HW2 := Lib.hid hW2
  clear hr hB2 hX1 hX0 hW2
  unfold nd0 at HW2
  go_enter Try.func74, Try.ntmps74
  go_wp2_with fail
  rw [HW2.out]
  go_loopw [5] (fun t wr => ∃ i : Nat, i ≤ 6 ∧ t = .int .i64 i ∧ Hid (wr.heap[w.heap.size + 1]? = some (.cells (ndC (hdzA z i)) 26 (0, 0))) ∧ Hid (wr.heap[w.heap.size]? = some (.cells nd0 26 (0, 0))) ∧ Hid (Below w.heap.size w wr))
    (fun t _ => 6 - (intOf t).toNat)
  case atStart => exact ⟨0, by omega, rfl, HX1, HX0, HB2⟩
  case round =>
    clear HX1 HX0 HB2
    obtain ⟨i, hi, rfl, HX, HY, HB⟩ := hrel
    have hRi := HR.out.below HB.out hbw
    by_cases hi6 : i < 6
    · have ci := hRi.2.1 i (by omega)
      have cx : wr.cell? ⟨w.heap.size + 1, i, none⟩ = some (.int .u8 0) := (cell_of_row wr _ i _ _ _ HX.out).trans (hd_at z i (by omega))
      have fx : wr.frozen? ⟨w.heap.size + 1, i, none⟩ = false := by have := HX.out; simp [World.frozen?, this]
      have HX' := Lib.hid (row_put (i := i) (v := .int .u8 (z i)) HX.out (hd_putA z i (by omega)))
      have HY' := Lib.hid ((Below.heap_setCell wr ⟨w.heap.size + 1, i, none⟩ (.int .u8 (z i)) w.heap.size (by show _ ≠ w.heap.size + 1; omega)).trans HY.out)
      have HB' := Lib.hid (HB.out.setCell (p := ⟨w.heap.size + 1, i, none⟩) (by show w.heap.size ≤ w.heap.size + 1; omega) (.int .u8 (z i)))
      have hin : (i : Int) < (n : Int) := by omega
      have hi6' : (i : Int) < 6 := by omega
      clear hRi
      go_wp2_with fail
      go_roundw
      case rel => first | exact ⟨i + 1, by omega, by go_num, HX', HY', HB'⟩ | exact ⟨_, _, ⟨i + 1, by omega, by go_num, HX', HY', HB'⟩, rfl, rfl⟩
      case measure => simp only [intOf]; omega
    · obtain rfl : i = 6 := by omega
      have c6 := hRi.2.1 6 (by omega)
      have d6 : wr.cell? ⟨w.heap.size + 1, 6, none⟩ = some (.int .u8 0) := (cell_of_row wr _ 6 _ _ _ HX.out).trans rfl
      have f6 : wr.frozen? ⟨w.heap.size + 1, 6, none⟩ = false := by have := HX.out; simp [World.frozen?, this]
      have HX' := Lib.hid (row_put (i := 6) (v := .int .u8 (z 6)) HX.out (hd_putA z 6 (by omega)))
      have HY' := Lib.hid ((Below.heap_setCell wr ⟨w.heap.size + 1, 6, none⟩ (.int .u8 (z 6)) w.heap.size (by show _ ≠ w.heap.size + 1; omega)).trans HY.out)
      have HB' := Lib.hid (HB.out.setCell (p := ⟨w.heap.size + 1, 6, none⟩) (by show w.heap.size ≤ w.heap.size + 1; omega) (.int .u8 (z 6)))
      have i6 : (6 : Int) < (n : Int) := by omega
      clear hRi
      go_wp2_with (first
        | (refine wpList_load_mid rfl 26 (.tmp 3) rfl (w.heap.size + 1) 0 rfl _ _ (nd_range HX'.out) Try.underlying26 rfl info_nd ?_)
        | (refine store_blk rfl (.tmp 2) (.tmp 20) (cells := ndC z) rfl rfl rfl HY'.out info_nd rfl (nd_all z) ?_; intro w5 hg5 hb5 ho5; refine Hid.out ?_))
      refine Lib.hid ?_
      have HQ := Lib.hid hg5
      have HB5 := Lib.hid (HB'.out.trans (hb5 w.heap.size (Nat.le_refl _)))
      clear hg5 hb5 ho5
      go_wp2_with fail
      refine bodyPost_ret (results_nd rfl _ w5 w.heap.size z rfl HQ.out) rfl ⟨rfl, HB5.out⟩
set_option maxHeartbeats 2000000 in
set_option maxRecDepth 100000 in
theorem idAt_any (b off n c : Nat) (z : Nat → Int) (w : World) (hr : Row8 w b off n z) (h8 : 8 ≤ n) (hn : n ≤ 1492) :
    Calls Try.prog 75 #[.slice (some ⟨b, off, none⟩) n c] w fun e w' => e = .returned (.agg (idC z)) ∧ Below w.heap.size w w' := by
  have hbw := hr.1
  have HB1 := Lib.hid ((bself w).alloc (Nat.le_refl _) (.cells id0 28))
  have HX1 := Lib.hid (heap_alloc_new w (.cells id0 28))
  have hs1 : (w.alloc (.cells id0 28)).heap.size = w.heap.size + 1 := by simp
  have HR1 := Lib.hid (hr.below HB1.out hbw)
  obtain ⟨W1, hW1⟩ : ∃ W1, w.alloc (.cells id0 28) = W1 := ⟨_, rfl⟩
  rw [hW1] at HB1 HX1 hs1 HR1
  have HW1 := Lib.hid hW1
  have i7 : (7 : Int) < (n : Int) := by omega
  clear hr hW1
  unfold id0 at HW1
  go_enter Try.func75, Try.ntmps75
  go_wp2_with fail
  rw [HW1.out]
  refine wp_region_held_drew (S := fun w' => w'.cell? ⟨b, off + 7, none⟩ = some (.int .u8 (z 7))) (by kernel_rfl) (HR1.out.2.1 7 (by omega)) (fun hS0 => ?_)
  refine takeY (i := 0) (some 3) (v := .slice (some ⟨b, off, none⟩) n c) rfl rfl (by kernel_rfl) (by kernel_rfl) (by kernel_rfl) (fun _ _ _ h => h) (by rfl) (fun w' hS => by go_simp) hS0 ?_
  simp only [Act.put, List.setIfInBounds_toArray, List.set_cons_zero, List.set_cons_succ]
  refine takeY (i := 2) (some 5) (v := .slice (some ⟨b, off, none⟩) n c) rfl rfl (by kernel_rfl) (by kernel_rfl) (by kernel_rfl) (fun _ _ _ h => h) (by rfl) (fun w' hS => by go_simp) hS0 ?_
  simp only [Act.put, List.setIfInBounds_toArray, List.set_cons_zero, List.set_cons_succ]
  refine takeY (i := 3) (some 6) (v := .pointer (some ⟨b, off + 7, none⟩)) rfl rfl (by kernel_rfl) (by kernel_rfl) (by kernel_rfl) (fun _ _ _ h => h) (by rfl) (fun w' hS => by go_simp) hS0 ?_
  simp only [Act.put, List.setIfInBounds_toArray, List.set_cons_zero, List.set_cons_succ]
  refine takeY (i := 4) (some 7) (v := .int .u8 (z 7)) rfl rfl (by kernel_rfl) (by kernel_rfl) (by kernel_rfl) (fun _ _ _ h => h) (by rfl) (fun w' hS => by go_simp) hS0 ?_
  simp only [Act.put, List.setIfInBounds_toArray, List.set_cons_zero, List.set_cons_succ]
  refine takeC (i := 1) (some 4) 74 #[.slice (some ⟨b, off, none⟩) n c] (.agg (ndC z)) (R := fun w' => Below W1.heap.size W1 w') rfl rfl (by kernel_rfl) (by rfl) (by go_simp) ((nodeAt_any b off n c z W1.drew HR1.out (by omega) hn).mono fun e w' h => ⟨h.1, (bself W1).drew.trans h.2⟩) (fun w' h => by rw [h.cell (show b < W1.heap.size by omega)]; exact HR1.out.2.1 7 (by omega)) (fun w2 h2 hS0 => ?_)
  simp only [Act.put, List.setIfInBounds_toArray, List.set_cons_zero, List.set_cons_succ]
  refine takeY (i := 5) (some 8) (v := .agg (idC z)) rfl rfl (by kernel_rfl) (by kernel_rfl) (by kernel_rfl) (fun _ _ _ h => h) (by rfl) (fun w' hS => build_id _ _ _ _ rfl z rfl rfl w') hS0 ?_
  simp only [Act.put, List.setIfInBounds_toArray, List.set_cons_zero, List.set_cons_succ]
  have hX2 := (h2.block w.heap.size (by omega)).trans HX1.out
  refine takeS (i := 6) (.tmp 2) (.tmp 8) rfl rfl rfl (by kernel_rfl) (by rfl) rfl rfl hX2 (hi_id z) rfl (id_all z) (fun w' _ hb _ => by rw [(hb w.heap.size (Nat.le_refl _)).cell hbw]; exact hS0) (fun w3 hg3 hb3 _ hS3 => ?_)
  simp only [Act.put]
  refine wpAnyH_done (by kernel_rfl) ?_ _
  have HQ := Lib.hid hg3
  have HB3 := Lib.hid (HB1.out.trans ((h2.mono (by omega)).trans (hb3 w.heap.size (Nat.le_refl _))))
  clear hg3 hb3 h2 hX2 hS3 hS0
  go_wp2_with fail
  refine bodyPost_ret (results_id rfl _ w3 w.heap.size z rfl HQ.out) rfl ⟨rfl, HB3.out⟩
end Go.Proofs.Ytkiaijmhoikdiaa

/- SameBytes answers false where bytes differ. Each theorem states its conditions. -/
namespace Go.Proofs.Ytkiaijmhoikdiaa
open Go.RowKit
set_option linter.unusedVariables false

/-- whether two rows of bytes are the same, by the document -/
theorem same_no (A B : Option Addr) (n n' c d : Nat) (z z' : Nat → Int) (w : World) (ha : Rd w A n z) (hb : Rd w B n' z') (he : ¬ (n = n' ∧ ∀ j, j < n → z j = z' j)) (hm : n ≤ 9223372036854775807) (hm' : n' ≤ 9223372036854775807) :
    Calls Try.prog 20 #[.slice A n c, .slice B n' d] w fun e w' => e = .returned (.bool false) ∧ ∃ m, w' = w.drewN m := by
  by_cases hn : n = n'
  · subst hn
    have hx : ∃ k, k < n ∧ z k ≠ z' k ∧ ∀ j, j < k → z j = z' j := by
      have hne : ∃ k, k < n ∧ z k ≠ z' k := by
        apply Classical.byContradiction
        intro hno
        exact he ⟨rfl, fun j hj => Classical.byContradiction fun h => hno ⟨j, hj, h⟩⟩
      obtain ⟨k0, h1, h2⟩ := hne
      have key : ∀ t, t ≤ n → (∃ k, k < t ∧ z k ≠ z' k ∧ ∀ j, j < k → z j = z' j) ∨ ∀ j, j < t → z j = z' j := by
        intro t
        induction t with
        | zero => intro _; exact .inr (fun j hj => by omega)
        | succ t ih =>
          intro ht
          rcases ih (by omega) with ⟨k, h1, h2, h3⟩ | h3
          · exact .inl ⟨k, by omega, h2, h3⟩
          · by_cases h4 : z t = z' t
            · exact .inr (fun j hj => by
                by_cases e : j = t
                · subst e; exact h4
                · exact h3 j (by omega))
            · exact .inl ⟨t, by omega, h4, h3⟩
      rcases key n (Nat.le_refl _) with ⟨k, h3, h4, h5⟩ | h3
      · exact ⟨k, h3, h4, h5⟩
      · exact absurd (h3 k0 h1) h2
    obtain ⟨k0, hk0, hne, hpre⟩ := hx
    obtain ⟨b, off, rfl, hr⟩ := ha.row (by omega)
    obtain ⟨b', off', rfl, hr'⟩ := hb.row (by omega)
    have hc := hr.2.1
    have hc' := hr'.2.1
    have HE := Lib.hid hpre
    have HNE := Lib.hid hne
    clear ha hb hr hr' he hpre hne
    go_enter Try.func20, Try.ntmps20
    go_wp2
    go_loopw [13] (fun t wr => ∃ k m : Nat, k ≤ k0 ∧ t = .int .i64 k ∧ wr = w.drewN m) (fun t _ => n - (intOf t).toNat)
    case atStart => exact ⟨0, 0, by omega, rfl, rfl⟩
    case round =>
      obtain ⟨k, m, hk, rfl, rfl⟩ := hrel
      have hlt : k < n := by omega
      have g1 := hc k hlt
      have g2 := hc' k hlt
      by_cases e : k = k0
      · subst e
        have hq : (z k != z' k) = true := by simpa using HNE.out
        generalize z k = v at *
        generalize z' k = v' at *
        clear hc hc'
        go_wp2
        go_region
        go_wp2
        go_ret
        exact ⟨rfl, m + 1, rfl⟩
      · rw [← HE.out k (by omega)] at g2
        generalize z k = v at *
        clear hc hc'
        go_wp2
        go_region
        go_wp2
        go_roundw
        case rel => exact ⟨k + 1, m + 1, by omega, by go_num, rfl⟩
        case measure => simp [intOf]; omega
  · have hnb : ((n : Int) != (n' : Int)) = true := by simp; omega
    clear ha hb he
    go_enter Try.func20, Try.ntmps20
    go_wp2
    go_ret
    exact ⟨rfl, 0, rfl⟩
end Go.Proofs.Ytkiaijmhoikdiaa
