/- IDs held against one another; SameIDs of two lists alike. Each theorem states its conditions. -/
import Derived.Test.YteamnibgeobcbaaJSp
import Derived.Stop.BytesEq
import Derived.Laws.StructEq
import Derived.Laws.Cover1
namespace Go.Proofs.Yteamnibgeobcbaa
open Go.RowKit
set_option linter.unusedVariables false

/-- two names are alike -/
def eq6 (y z : Nat → Int) : Bool := numZ y 0 6 == numZ z 0 6
theorem eq6_iff {y z : Nat → Int} (hy : byte6 y) (hz : byte6 z) : eq6 y z = true ↔ ∀ j, j < 6 → y j = z j := by
  unfold eq6
  rw [beq_iff_eq]
  refine ⟨fun h => num6_inj hy hz h, fun h => ?_⟩
  simp only [numZ, Nat.zero_add, h 0 (by omega), h 1 (by omega), h 2 (by omega), h 3 (by omega), h 4 (by omega), h 5 (by omega)]
theorem u8_cell {a : Int} (h : 0 ≤ a ∧ a ≤ 255) : Extern.Stop.cell a.toNat.toUInt8 = .int .u8 a := by
  unfold Extern.Stop.cell
  congr 1
  simp only [Nat.toUInt8, UInt8.toNat_ofNat', Int.ofNat_eq_natCast]
  omega
theorem bytes_cells {z : Nat → Int} (h : byte6 z) : syC z = ((Lib.bytesOf (lst6 z)).map Extern.Stop.cell).toArray := by
  simp only [Lib.bytesOf, lst6, List.map_cons, List.map_nil, u8_cell (h _)]
  rfl
theorem u8_inj {a b : Int} (ha : 0 ≤ a ∧ a ≤ 255) (hb : 0 ≤ b ∧ b ≤ 255) (h : a.toNat.toUInt8 = b.toNat.toUInt8) : a = b := by
  have h2 := congrArg UInt8.toNat h
  simp only [Nat.toUInt8, UInt8.toNat_ofNat'] at h2
  omega
theorem bytes_eq6 {y z : Nat → Int} (hy : byte6 y) (hz : byte6 z) : (Lib.bytesOf (lst6 y) == Lib.bytesOf (lst6 z)) = eq6 y z := by
  rw [Bool.eq_iff_iff, eq6_iff hy hz, beq_iff_eq]
  refine ⟨fun h j hj => ?_, fun h => ?_⟩
  · simp only [Lib.bytesOf, lst6, List.map_cons, List.map_nil, List.cons.injEq, and_true] at h
    obtain ⟨h0, h1, h2, h3, h4, h5⟩ := h
    rcases (by omega : j = 0 ∨ j = 1 ∨ j = 2 ∨ j = 3 ∨ j = 4 ∨ j = 5) with rfl | rfl | rfl | rfl | rfl | rfl
    · exact u8_inj (hy _) (hz _) h0
    · exact u8_inj (hy _) (hz _) h1
    · exact u8_inj (hy _) (hz _) h2
    · exact u8_inj (hy _) (hz _) h3
    · exact u8_inj (hy _) (hz _) h4
    · exact u8_inj (hy _) (hz _) h5
  · simp only [Lib.bytesOf, lst6, h 0 (by omega), h 1 (by omega), h 2 (by omega), h 3 (by omega), h 4 (by omega), h 5 (by omega)]
theorem equal6 (t : TypeId) (ht : Try.prog.underlying t = some (.array 6 5)) (y z : Nat → Int) (hy : byte6 y) (hz : byte6 z) (d : Nat) (W : World) : (Op.equalIn (d + 2) t (.agg (syC y)) (.agg (syC z))).run Try.prog W = .ok (eq6 y z) W := by
  rw [bytes_cells hy, bytes_cells hz]
  rw [run_equalIn_bytes W d t 5 6 ht Try.underlying5 size_u8 _ _ (by simp [Lib.bytesOf, lst6]) (by simp [Lib.bytesOf, lst6]), bytes_eq6 hy hz]
theorem eqFields_two (d : Nat) (xs ys : Array Value) (T0 T1 : TypeId) (o0 o1 : Nat) (u0 v0 u1 v1 : Value) (r0 r1 : Bool) (w : World)
    (p0 : (part T0 xs o0).run Try.prog w = .ok u0 w) (q0 : (part T0 ys o0).run Try.prog w = .ok v0 w) (e0 : (Op.equalIn d T0 u0 v0).run Try.prog w = .ok r0 w)
    (p1 : (part T1 xs o1).run Try.prog w = .ok u1 w) (q1 : (part T1 ys o1).run Try.prog w = .ok v1 w) (e1 : (Op.equalIn d T1 u1 v1).run Try.prog w = .ok r1 w) :
    ∀ fs : List Field, fs.map (fun f => (f.type, f.offset, f.name == "_")) = [(T0, o0, false), (T1, o1, false)] → (Op.eqFields d xs ys fs).run Try.prog w = .ok (r0 && r1) w := by
  intro fs hl
  rcases fs with _ | ⟨f0, _ | ⟨f1, _ | ⟨f2, r⟩⟩⟩
  · simp at hl
  · simp at hl
  rotate_left
  · simp at hl
  · simp only [List.map_cons, List.map_nil, List.cons.injEq, Prod.mk.injEq, and_true, beq_eq_false_iff_ne] at hl
    obtain ⟨⟨rfl, rfl, n0⟩, rfl, rfl, n1⟩ := hl
    unfold Op.eqFields
    rw [if_pos n0]
    simp only [Sem.run_bind, p0, q0, e0, Result.andThen_ok]
    cases r0
    · rfl
    · unfold Op.eqFields
      rw [if_pos n1]
      simp only [Bool.not_true, Bool.false_eq_true, if_false, Sem.run_bind, p1, q1, e1, Result.andThen_ok]
      cases r1 <;> rfl

def ndC (n : Nat) : Array Value := #[.int .u8 (dg n 0), .int .u8 (dg n 1), .int .u8 (dg n 2), .int .u8 (dg n 3), .int .u8 (dg n 4), .int .u8 (dg n 5), .int .u8 (dg n 6)]
theorem guard_id : Try.prog.eqGuardType Try.prog.depth 28 = false := by kernel_rfl
theorem fields_nd : (Try.prog.fieldsOf 26).toList.map (fun f => (f.type, f.offset, f.name == "_")) = [(24, 0, false), (5, 6, false)] := by kernel_rfl
theorem fields_id : (Try.prog.fieldsOf 28).toList.map (fun f => (f.type, f.offset, f.name == "_")) = [(26, 0, false), (5, 7, false)] := by kernel_rfl
theorem equal_nd (x y : Nat) (W : World) : (Op.equalIn 9999 26 (.agg (ndC x)) (.agg (ndC y))).run Try.prog W = .ok (eq6 (dg x) (dg y) && (dg x 6 == dg y 6)) W := by
  rw [run_equalIn_struct W 9998 26 _ _ (by kernel_rfl) (by kernel_rfl)]
  exact eqFields_two 9998 (ndC x) (ndC y) 24 5 0 6 (.agg (syC (dg x))) (.agg (syC (dg y))) (.int .u8 (dg x 6)) (.int .u8 (dg y 6)) _ _ W (by kernel_rfl) (by kernel_rfl) (equal6 24 Try.underlying24 (dg x) (dg y) (dg_bd x) (dg_bd y) 9996 W) (by kernel_rfl) (by kernel_rfl) (by rw [run_equalIn_int W 9997 5 .u8 .u8 _ _ Try.underlying5]) _ fields_nd
theorem equal_id (x y : Nat) (W : World) : (Op.equalIn 10000 28 (.agg (idC x)) (.agg (idC y))).run Try.prog W = .ok ((eq6 (dg x) (dg y) && (dg x 6 == dg y 6)) && (dg x 7 == dg y 7)) W := by
  rw [run_equalIn_struct W 9999 28 _ _ (by kernel_rfl) (by kernel_rfl)]
  exact eqFields_two 9999 (idC x) (idC y) 26 5 0 7 (.agg (ndC x)) (.agg (ndC y)) (.int .u8 (dg x 7)) (.int .u8 (dg y 7)) _ _ W (by kernel_rfl) (by kernel_rfl) (equal_nd x y W) (by kernel_rfl) (by kernel_rfl) (by rw [run_equalIn_int W 9998 5 .u8 .u8 _ _ Try.underlying5]) _ fields_id
theorem eq_ids {x y : Nat} (hx : IdOk x) (hy : IdOk y) : ((eq6 (dg x) (dg y) && (dg x 6 == dg y 6)) && (dg x 7 == dg y 7)) = (x == y) := by
  rw [Bool.eq_iff_iff]
  simp only [Bool.and_eq_true, beq_iff_eq, eq6_iff (dg_bd x) (dg_bd y)]
  constructor
  · rintro ⟨⟨h, h6⟩, h7⟩
    apply idC_inj hx hy
    simp only [idC, h 0 (by omega), h 1 (by omega), h 2 (by omega), h 3 (by omega), h 4 (by omega), h 5 (by omega), h6, h7]
  · rintro rfl
    exact ⟨⟨fun _ _ => rfl, rfl⟩, rfl⟩
theorem eql_id (o : Oper) (e : Operand → Value) (x y : Operand) (t' : TypeId) (ho : o.op = .binOp .eql 28 x y t') (htt : 28 = t') (a b : Nat) (ha : IdOk a) (hb : IdOk b) (h0 : e x = .agg (idC a)) (h1 : e y = .agg (idC b)) (W : World) :
    (execOp e o).run Try.prog W = .ok (.value (.bool (a == b))) W := by
  subst htt
  unfold execOp
  simp only [ho, h0, h1]
  simp [Sem.run_bind, run_eqGuard_agg _ _ _ _ _ _ _ guard_id, run_eql_struct, equal_id a b W, eq_ids ha hb]
theorem neq_id (o : Oper) (e : Operand → Value) (x y : Operand) (t' : TypeId) (ho : o.op = .binOp .neq 28 x y t') (htt : 28 = t') (a b : Nat) (ha : IdOk a) (hb : IdOk b) (h0 : e x = .agg (idC a)) (h1 : e y = .agg (idC b)) (W : World) :
    (execOp e o).run Try.prog W = .ok (.value (.bool (!(a == b)))) W := by
  subst htt
  unfold execOp
  simp only [ho, h0, h1]
  simp [Sem.run_bind, run_eqGuard_agg _ _ _ _ _ _ _ guard_id, run_neq_struct, equal_id a b W, eq_ids ha hb]
set_option maxHeartbeats 8000000 in
set_option maxRecDepth 100000 in
theorem same_yes (A B : Option Addr) (n c1 c2 : Nat) (L : Nat → Nat) (w : World) (hA : RdR w A n 8 (idA L)) (hB : RdR w B n 8 (idA L)) (hL : ∀ j, j < n → IdOk (L j)) (hn : n ≤ 140737488355328) :
    Calls Try.prog 16 #[.slice A n c1, .slice B n c2] w fun e w' => e = .returned (.bool true) ∧ Below w.heap.size w w' := by
  have HA := Lib.hid hA
  have HR := Lib.hid hB
  have HL := Lib.hid hL
  clear hA hB hL
  go_enter Try.func16, Try.ntmps16
  go_wp2_with fail
  go_loopw [13] (fun s wr => ∃ k : Nat, k ≤ n ∧ s = .int .i64 (k : Int) ∧ Hid (Below w.heap.size w wr)) (fun s _ => n - (intOf s).toNat)
  case atStart => exact ⟨0, by omega, rfl, Lib.hid (Below.refl _ _)⟩
  case round =>
    obtain ⟨k, hk, rfl, HB⟩ := hrel
    by_cases hlt : k < n
    · obtain ⟨b1, o1, rfl, r1⟩ := HA.out.row (by omega)
      obtain ⟨b2, o2, rfl, r2⟩ := HR.out.row (by omega)
      have hki : (k : Int) < (n : Int) := by omega
      have hov : (k : Int) + 1 ≤ 9223372036854775807 := by omega
      obtain ⟨x, hx⟩ : ∃ x, L k = x := ⟨_, rfl⟩
      have hxo : Hid (IdOk x) := Lib.hid (by rw [← hx]; exact HL.out k hlt)
      have h1 : Hid (wr.rangeAt b1 (o1 + k * 8) (idC x).toList) := Lib.hid (by have h9 := rangeAt_below (r1.2 k hlt) HB.out r1.1; unfold idA at h9; rw [hx] at h9; exact h9)
      have h2 : Hid (wr.rangeAt b2 (o2 + k * 8) (idC x).toList) := Lib.hid (by have h9 := rangeAt_below (r2.2 k hlt) HB.out r2.1; unfold idA at h9; rw [hx] at h9; exact h9)
      clear r1 r2 hx
      go_wp2_with fail
      refine wp_region_held_drew (S := fun w' => w'.rangeAt b1 (o1 + k * 8) (idC x).toList ∧ w'.rangeAt b2 (o2 + k * 8) (idC x).toList) (by kernel_rfl) ⟨h1.out, h2.out⟩ (fun hS => ?_)
      have HBd := Lib.hid HB.out.drew
      clear HB
      generalize hW : wr.drew = W at hS HBd ⊢
      clear hW
      refine takeY (i := 0) (some 16) (v := .slice (some ⟨b1, o1, none⟩) n c1) rfl rfl (by kernel_rfl) (by kernel_rfl) (by kernel_rfl) (fun _ _ _ h => h) (by rfl) (fun w' hS => by clear hS; go_simp) hS ?_
      simp only [Act.put, List.setIfInBounds_toArray, List.set_cons_zero, List.set_cons_succ]
      refine takeY (i := 1) (some 17) (v := .int .i64 (k : Int)) rfl rfl (by kernel_rfl) (by kernel_rfl) (by kernel_rfl) (fun _ _ _ h => h) (by rfl) (fun w' hS => by clear hS; go_simp) hS ?_
      simp only [Act.put, List.setIfInBounds_toArray, List.set_cons_zero, List.set_cons_succ]
      refine takeY (i := 2) (some 18) (v := .pointer (some ⟨b1, o1 + k * 8, none⟩)) rfl rfl (by kernel_rfl) (by kernel_rfl) (by kernel_rfl) (fun _ _ _ h => h) (by rfl) (fun w' hS => by clear hS; go_simp) hS ?_
      simp only [Act.put, List.setIfInBounds_toArray, List.set_cons_zero, List.set_cons_succ]
      refine takeL (i := 3) (some 19) 28 (.tmp 18) b1 (o1 + k * 8) (idC x) _ rfl rfl (by kernel_rfl) (by kernel_rfl) (by kernel_rfl) (fun _ _ _ h => h) (by rfl) rfl rfl (fun w' hS => hS.1) Try.underlying28 rfl info_id hS ?_
      simp only [Act.put, List.setIfInBounds_toArray, List.set_cons_zero, List.set_cons_succ]
      refine takeY (i := 4) (some 20) (v := .slice (some ⟨b2, o2, none⟩) n c2) rfl rfl (by kernel_rfl) (by kernel_rfl) (by kernel_rfl) (fun _ _ _ h => h) (by rfl) (fun w' hS => by clear hS; go_simp) hS ?_
      simp only [Act.put, List.setIfInBounds_toArray, List.set_cons_zero, List.set_cons_succ]
      refine takeY (i := 5) (some 21) (v := .int .i64 (k : Int)) rfl rfl (by kernel_rfl) (by kernel_rfl) (by kernel_rfl) (fun _ _ _ h => h) (by rfl) (fun w' hS => by clear hS; go_simp) hS ?_
      simp only [Act.put, List.setIfInBounds_toArray, List.set_cons_zero, List.set_cons_succ]
      refine takeY (i := 6) (some 22) (v := .pointer (some ⟨b2, o2 + k * 8, none⟩)) rfl rfl (by kernel_rfl) (by kernel_rfl) (by kernel_rfl) (fun _ _ _ h => h) (by rfl) (fun w' hS => by clear hS; go_simp) hS ?_
      simp only [Act.put, List.setIfInBounds_toArray, List.set_cons_zero, List.set_cons_succ]
      refine takeL (i := 7) (some 23) 28 (.tmp 22) b2 (o2 + k * 8) (idC x) _ rfl rfl (by kernel_rfl) (by kernel_rfl) (by kernel_rfl) (fun _ _ _ h => h) (by rfl) rfl rfl (fun w' hS => hS.2) Try.underlying28 rfl info_id hS ?_
      simp only [Act.put, List.setIfInBounds_toArray, List.set_cons_zero, List.set_cons_succ]
      refine takeY (i := 8) (some 24) (v := .bool (!(x == x))) rfl rfl (by kernel_rfl) (by kernel_rfl) (by kernel_rfl) (fun _ _ _ h => h) (by rfl) (fun w' hS => neq_id _ _ (.tmp 19) (.tmp 23) _ rfl rfl x x hxo.out hxo.out rfl rfl w') hS ?_
      rw [show (!(x == x)) = false from by simp]
      simp only [Act.put, List.setIfInBounds_toArray, List.set_cons_zero, List.set_cons_succ]
      clear hS
      refine wpAnyH_done (by kernel_rfl) ?_ _
      go_wp2_with fail
      go_roundw
      case rel => exact ⟨k + 1, by omega, by simp, HBd⟩
      case measure => simp [intOf]; omega
    · obtain rfl : k = n := by omega
      go_wp2_with fail
      go_ret
      exact ⟨rfl, HB.out⟩
end Go.Proofs.Yteamnibgeobcbaa
