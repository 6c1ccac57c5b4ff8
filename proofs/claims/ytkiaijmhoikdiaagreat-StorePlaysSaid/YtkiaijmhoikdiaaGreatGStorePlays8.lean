/- Texts of this claim put together; each theorem states its conditions. -/
import Derived.Test.YtkiaijmhoikdiaaGreatGStorePlays3
import Derived.Stop.BytesEq
import Derived.Laws.StructEq
import Derived.Laws.Cover1
import Derived.Test.YtkiaijmhoikdiaaGreatGStorePlays7
import Derived.Test.YtkiaijmhoikdiaaGreatGStorePlays4
import Derived.Shelf.SlSortCmp.WholeK
import Derived.Ground.SlsfProg
import Derived.Ground.NamesProg
import Derived.Test.YtkiaijmhoikdiaaGreatProg
/- IDs held against one another. Each theorem states its conditions. -/
namespace Go.Proofs.YtkiaijmhoikdiaaGreat
open Go.RowKit
set_option linter.unusedVariables false

theorem num6_inj {y z : Nat → Int} (hy : byte6 y) (hz : byte6 z) (h : numZ y 0 6 = numZ z 0 6) : ∀ j, j < 6 → y j = z j := by
  have a0 := hy 0; have a1 := hy 1; have a2 := hy 2; have a3 := hy 3; have a4 := hy 4; have a5 := hy 5
  have b0 := hz 0; have b1 := hz 1; have b2 := hz 2; have b3 := hz 3; have b4 := hz 4; have b5 := hz 5
  simp only [numZ, Nat.zero_add] at h
  intro j hj
  rcases (by omega : j = 0 ∨ j = 1 ∨ j = 2 ∨ j = 3 ∨ j = 4 ∨ j = 5) with rfl | rfl | rfl | rfl | rfl | rfl <;> omega
def eq6 (y z : Nat → Int) : Bool := numZ y 0 6 == numZ z 0 6
theorem eq6_iff {y z : Nat → Int} (hy : byte6 y) (hz : byte6 z) : eq6 y z = true ↔ ∀ j, j < 6 → y j = z j := by
  unfold eq6
  rw [beq_iff_eq]
  refine ⟨fun h => num6_inj hy hz h, fun h => ?_⟩
  simp only [numZ, Nat.zero_add, h 0 (by omega), h 1 (by omega), h 2 (by omega), h 3 (by omega), h 4 (by omega), h 5 (by omega)]
theorem u8_cell {a : Int} (h : 0 ≤ a ∧ a ≤ 255) : Extern.Stop.cell a.toNat.toUInt8 = .int .u8 a := by
  unfold Extern.Stop.cell
  congr 1
  simp only [Nat.toUInt8, UInt8.toNat_ofNat', Int.ofNat_eq_natCast]
  omega
theorem bytes_cells {z : Nat → Int} (h : byte6 z) : syC z = ((Lib.bytesOf (lst6 z)).map Extern.Stop.cell).toArray := by
  simp only [Lib.bytesOf, lst6, List.map_cons, List.map_nil, u8_cell (h _)]
  rfl
theorem u8_inj {a b : Int} (ha : 0 ≤ a ∧ a ≤ 255) (hb : 0 ≤ b ∧ b ≤ 255) (h : a.toNat.toUInt8 = b.toNat.toUInt8) : a = b := by
  have h2 := congrArg UInt8.toNat h
  simp only [Nat.toUInt8, UInt8.toNat_ofNat'] at h2
  omega
theorem bytes_eq6 {y z : Nat → Int} (hy : byte6 y) (hz : byte6 z) : (Lib.bytesOf (lst6 y) == Lib.bytesOf (lst6 z)) = eq6 y z := by
  rw [Bool.eq_iff_iff, eq6_iff hy hz, beq_iff_eq]
  refine ⟨fun h j hj => ?_, fun h => ?_⟩
  · simp only [Lib.bytesOf, lst6, List.map_cons, List.map_nil, List.cons.injEq, and_true] at h
    obtain ⟨h0, h1, h2, h3, h4, h5⟩ := h
    rcases (by omega : j = 0 ∨ j = 1 ∨ j = 2 ∨ j = 3 ∨ j = 4 ∨ j = 5) with rfl | rfl | rfl | rfl | rfl | rfl
    · exact u8_inj (hy _) (hz _) h0
    · exact u8_inj (hy _) (hz _) h1
    · exact u8_inj (hy _) (hz _) h2
    · exact u8_inj (hy _) (hz _) h3
    · exact u8_inj (hy _) (hz _) h4
    · exact u8_inj (hy _) (hz _) h5
  · simp only [Lib.bytesOf, lst6, h 0 (by omega), h 1 (by omega), h 2 (by omega), h 3 (by omega), h 4 (by omega), h 5 (by omega)]
theorem equal6 (t : TypeId) (ht : Tryz.prog.underlying t = some (.array 6 5)) (y z : Nat → Int) (hy : byte6 y) (hz : byte6 z) (d : Nat) (W : World) : (Op.equalIn (d + 2) t (.agg (syC y)) (.agg (syC z))).run Tryz.prog W = .ok (eq6 y z) W := by
  rw [bytes_cells hy, bytes_cells hz]
  rw [run_equalIn_bytes W d t 5 6 ht Tryz.underlying5 size_u8 _ _ (by simp [Lib.bytesOf, lst6]) (by simp [Lib.bytesOf, lst6]), bytes_eq6 hy hz]
theorem eqFields_two (d : Nat) (xs ys : Array Value) (T0 T1 : TypeId) (o0 o1 : Nat) (u0 v0 u1 v1 : Value) (r0 r1 : Bool) (w : World)
    (p0 : (part T0 xs o0).run Tryz.prog w = .ok u0 w) (q0 : (part T0 ys o0).run Tryz.prog w = .ok v0 w) (e0 : (Op.equalIn d T0 u0 v0).run Tryz.prog w = .ok r0 w)
    (p1 : (part T1 xs o1).run Tryz.prog w = .ok u1 w) (q1 : (part T1 ys o1).run Tryz.prog w = .ok v1 w) (e1 : (Op.equalIn d T1 u1 v1).run Tryz.prog w = .ok r1 w) :
    ∀ fs : List Field, fs.map (fun f => (f.type, f.offset, f.name == "_")) = [(T0, o0, false), (T1, o1, false)] → (Op.eqFields d xs ys fs).run Tryz.prog w = .ok (r0 && r1) w := by
  intro fs hl
  rcases fs with _ | ⟨f0, _ | ⟨f1, _ | ⟨f2, r⟩⟩⟩
  · simp at hl
  · simp at hl
  rotate_left
  · simp at hl
  · simp only [List.map_cons, List.map_nil, List.cons.injEq, Prod.mk.injEq, and_true, beq_eq_false_iff_ne] at hl
    obtain ⟨⟨rfl, rfl, n0⟩, rfl, rfl, n1⟩ := hl
    unfold Op.eqFields
    rw [if_pos n0]
    simp only [Sem.run_bind, p0, q0, e0, Result.andThen_ok]
    cases r0
    · rfl
    · unfold Op.eqFields
      rw [if_pos n1]
      simp only [Bool.not_true, Bool.false_eq_true, if_false, Sem.run_bind, p1, q1, e1, Result.andThen_ok]
      cases r1 <;> rfl

def nqC (n : Nat) : Array Value := #[.int .u8 (dg n 0), .int .u8 (dg n 1), .int .u8 (dg n 2), .int .u8 (dg n 3), .int .u8 (dg n 4), .int .u8 (dg n 5), .int .u8 (dg n 6)]
theorem guard_iq : Tryz.prog.eqGuardType Tryz.prog.depth 35 = false := by kernel_rfl
theorem fields_nq : (Tryz.prog.fieldsOf 33).toList.map (fun f => (f.type, f.offset, f.name == "_")) = [(31, 0, false), (5, 6, false)] := by kernel_rfl
theorem fields_iq : (Tryz.prog.fieldsOf 35).toList.map (fun f => (f.type, f.offset, f.name == "_")) = [(33, 0, false), (5, 7, false)] := by kernel_rfl
theorem equal_nd (x y : Nat) (W : World) : (Op.equalIn 9999 33 (.agg (nqC x)) (.agg (nqC y))).run Tryz.prog W = .ok (eq6 (dg x) (dg y) && (dg x 6 == dg y 6)) W := by
  rw [run_equalIn_struct W 9998 33 _ _ (by kernel_rfl) (by kernel_rfl)]
  exact eqFields_two 9998 (nqC x) (nqC y) 31 5 0 6 (.agg (syC (dg x))) (.agg (syC (dg y))) (.int .u8 (dg x 6)) (.int .u8 (dg y 6)) _ _ W (by kernel_rfl) (by kernel_rfl) (equal6 31 Tryz.underlying31 (dg x) (dg y) (dg_bd x) (dg_bd y) 9996 W) (by kernel_rfl) (by kernel_rfl) (by rw [run_equalIn_int W 9997 5 .u8 .u8 _ _ Tryz.underlying5]) _ fields_nq
theorem equal_id (x y : Nat) (W : World) : (Op.equalIn 10000 35 (.agg (iC x)) (.agg (iC y))).run Tryz.prog W = .ok ((eq6 (dg x) (dg y) && (dg x 6 == dg y 6)) && (dg x 7 == dg y 7)) W := by
  rw [run_equalIn_struct W 9999 35 _ _ (by kernel_rfl) (by kernel_rfl)]
  exact eqFields_two 9999 (iC x) (iC y) 33 5 0 7 (.agg (nqC x)) (.agg (nqC y)) (.int .u8 (dg x 7)) (.int .u8 (dg y 7)) _ _ W (by kernel_rfl) (by kernel_rfl) (equal_nd x y W) (by kernel_rfl) (by kernel_rfl) (by rw [run_equalIn_int W 9998 5 .u8 .u8 _ _ Tryz.underlying5]) _ fields_iq
theorem eq_ids {x y : Nat} (hx : IdOk x) (hy : IdOk y) : ((eq6 (dg x) (dg y) && (dg x 6 == dg y 6)) && (dg x 7 == dg y 7)) = (x == y) := by
  rw [Bool.eq_iff_iff]
  simp only [Bool.and_eq_true, beq_iff_eq, eq6_iff (dg_bd x) (dg_bd y)]
  constructor
  · rintro ⟨⟨h, h6⟩, h7⟩
    apply idC_inj hx hy
    simp only [iC, h 0 (by omega), h 1 (by omega), h 2 (by omega), h 3 (by omega), h 4 (by omega), h 5 (by omega), h6, h7]
  · rintro rfl
    exact ⟨⟨fun _ _ => rfl, rfl⟩, rfl⟩
theorem eql_id (o : Oper) (e : Operand → Value) (x y : Operand) (t' : TypeId) (ho : o.op = .binOp .eql 35 x y t') (htt : 35 = t') (a b : Nat) (ha : IdOk a) (hb : IdOk b) (h0 : e x = .agg (iC a)) (h1 : e y = .agg (iC b)) (W : World) :
    (execOp e o).run Tryz.prog W = .ok (.value (.bool (a == b))) W := by
  subst htt
  unfold execOp
  simp only [ho, h0, h1]
  simp [Sem.run_bind, run_eqGuard_agg _ _ _ _ _ _ _ guard_iq, run_eql_struct, equal_id a b W, eq_ids ha hb]
theorem neq_id (o : Oper) (e : Operand → Value) (x y : Operand) (t' : TypeId) (ho : o.op = .binOp .neq 35 x y t') (htt : 35 = t') (a b : Nat) (ha : IdOk a) (hb : IdOk b) (h0 : e x = .agg (iC a)) (h1 : e y = .agg (iC b)) (W : World) :
    (execOp e o).run Tryz.prog W = .ok (.value (.bool (!(a == b)))) W := by
  subst htt
  unfold execOp
  simp only [ho, h0, h1]
  simp [Sem.run_bind, run_eqGuard_agg _ _ _ _ _ _ _ guard_iq, run_neq_struct, equal_id a b W, eq_ids ha hb]
end Go.Proofs.YtkiaijmhoikdiaaGreat

/- The document's store in memory; its Entry, Age and Find. Each theorem states its conditions. -/
namespace Go.Proofs.YtkiaijmhoikdiaaGreat
open Go.RowKit Go.MapKept
set_option linter.unusedVariables false
set_option linter.unusedSimpArgs false

structure Rh where
  x : HdI
  g : Nat
  c : Nat
instance : Inhabited Rh := ⟨⟨default, 0, 0⟩⟩
def rhC (r : Rh) : Array Value := #[.int .u8 (dg r.x.1.id 0), .int .u8 (dg r.x.1.id 1), .int .u8 (dg r.x.1.id 2), .int .u8 (dg r.x.1.id 3), .int .u8 (dg r.x.1.id 4), .int .u8 (dg r.x.1.id 5), .int .u8 (dg r.x.1.id 6), .int .u8 (dg r.x.1.id 7), .int .u32 (r.x.1.sq : Int), .int .u16 (r.x.1.su : Int), .int .i64 r.x.1.li, .slice (some ⟨r.g, 0, none⟩) r.x.1.n r.c, .int .i64 r.x.1.pu]
def rhA (R : List Rh) : Nat → Array Value := fun j => rhC (R[j]?.getD default)
theorem rhC_one (r : Rh) : (rhC r).all (·.oneCell') = true := by kernel_rfl
theorem rhC_ones (r : Rh) : ∀ u ∈ (rhC r).toList, u.oneCell' = true := fun u hu => (Array.all_eq_true_iff_forall_mem.1 (rhC_one r)) u (Array.mem_toList_iff.1 hu)
theorem recs_rh (R : List Rh) : Recs 13 (rhA R) := fun j => ⟨rfl, rhC_ones _⟩
theorem rhA_at (R : List Rh) (j : Nat) (r : Rh) (h : R[j]? = some r) : rhA R j = rhC r := by unfold rhA; rw [h]; rfl
theorem info_rh : (Tryz.prog.info? 95).map (·.size) = some 13 := by kernel_rfl
def rhZ : Array Value := #[.int .u8 0, .int .u8 0, .int .u8 0, .int .u8 0, .int .u8 0, .int .u8 0, .int .u8 0, .int .u8 0, .int .u32 0, .int .u16 0, .int .i64 0, .slice none 0 0, .int .i64 0]
theorem zero_rh : (Tryz.prog.info? 95).map (·.zero) = some (some (.agg rhZ)) := by kernel_rfl
theorem infoA_rh : (Tryz.prog.info? 95).map (fun i => (i.zero, i.size, i.bytes)) = some (some (.agg rhZ), 13, 56) := by kernel_rfl
theorem rh_overZ (r : Rh) : putMany rhZ 0 (rhC r).toList = rhC r := by kernel_rfl
theorem rh_id {w : World} {g : Nat} {r : Rh} (k : Blk 95 w g (rhC r)) : w.rangeAt g 0 (iC r.x.1.id).toList := k.range (eight8 ⟨rfl, rfl, rfl, rfl, rfl, rfl, rfl, rfl⟩)
def RhOk (w : World) (r : Rh) : Prop := Own8 w r.g r.x.1.n r.c r.x.1.z ∧ cls (r.x.1.z 4) = 2 ∧ (27 ≤ r.x.1.n ∧ r.x.1.n ≤ 1492) ∧ ∃ m, GoodZ r.x.1.z r.x.1.n m
theorem RhOk.below {w w' : World} {r : Rh} (h : RhOk w r) (hb : Below w.heap.size w w') : RhOk w' r := ⟨Own8.below h.1 hb (Own8.lt h.1), h.2⟩
theorem RhOk.lt {w : World} {r : Rh} (h : RhOk w r) : r.g < w.heap.size := Own8.lt h.1
structure RfAt (w : World) (B sr : Nat) (R : List Rh) (rf : Bool) : Prop where
  hs : B ≤ sr
  ok : ∀ r ∈ R, RhOk w r ∧ B ≤ r.g
  st : ∃ v, Blk 29 w sr #[v, .bool rf] ∧ OwnR w B 95 13 v R.length (rhA R)
section
variable {w w' : World} {B sr : Nat} {R : List Rh} {rf : Bool}
theorem RfAt.lt (h : RfAt w B sr R rf) : sr < w.heap.size := by obtain ⟨v, h1, _⟩ := h.st; exact h1.lt
theorem RfAt.below (h : RfAt w B sr R rf) (hb : Below w.heap.size w w') : RfAt w' B sr R rf := by
  obtain ⟨h1, h2, v, h3, h4⟩ := h
  exact ⟨h1, fun r hr => ⟨(h2 r hr).1.below hb, (h2 r hr).2⟩, v, h3.below hb h3.lt, h4.below hb⟩
theorem RfAt.open (h : RfAt w B sr R rf) : ∃ A c, Blk 29 w sr #[.slice A R.length c, .bool rf] ∧ R.length ≤ c ∧ c ≤ maxLen ∧ RdR w A R.length 13 (rhA R) ∧ OwnR w B 95 13 (.slice A R.length c) R.length (rhA R) := by
  obtain ⟨h1, h2, v, h3, h4⟩ := h
  obtain ⟨A, c, rfl, a1, a2, a3, a4⟩ := h4.shape (recs_rh R) (by decide)
  exact ⟨A, c, h3, a1, a2, a4, h4⟩
end
set_option maxHeartbeats 8000000 in
set_option maxRecDepth 100000 in
theorem entryR_any (r : Rh) (w : World) : Calls Tryz.prog 39 #[.agg (rhC r)] w fun e w' => e = .returned (.agg (enC (hdE r.x.1))) ∧ Below w.heap.size w w' := by
  go_enter Tryz.func39, Tryz.ntmps39
  have HB := Lib.hid (Below.refl w.heap.size w)
  obtain ⟨N1, hN1⟩ : ∃ N, w.heap.size = N := ⟨_, rfl⟩
  have HN1 := Lib.hid hN1
  clear hN1
  go_wp2_with (refine wpList_box (op := ⟨some 1, _, _, _, _, _⟩) rfl 95 (.tmp 0) rfl (rhC r) rfl N1 HN1.out ?_; intro w1 k1 b1 s1; refine Hid.out ?_)
  refine Lib.hid ?_
  have K1 := Lib.hid k1
  clear k1
  have le_HB_N1 : w.heap.size ≤ N1 := by rw [← HN1.out]; exact HB.out.size
  replace HB := Lib.hid (HB.out.trans (b1.mono HB.out.size))
  clear b1 HN1
  obtain ⟨N2, hN2⟩ : ∃ N, w1.heap.size = N := ⟨_, rfl⟩
  have HN2 := Lib.hid hN2
  clear hN2
  go_wp2_with (refine wpList_new (op := ⟨some 2, _, _, _, _, _⟩) rfl 58 rfl (enC en0) zero_en N2 HN2.out ?_; intro w2 k1 b1 s1; refine Hid.out ?_)
  refine Lib.hid ?_
  have K2 := Lib.hid k1
  clear k1
  have lt_N1_N2 : N1 < N2 := by rw [← HN2.out]; exact K1.out.lt
  have le_HB_N2 : w.heap.size ≤ N2 := by rw [← HN2.out]; exact HB.out.size
  replace K1 := Lib.hid (K1.out.below b1 K1.out.lt)
  replace HB := Lib.hid (HB.out.trans (b1.mono HB.out.size))
  clear b1 HN2
  obtain ⟨h, hh⟩ : ∃ h, r.x.1 = h := ⟨_, rfl⟩
  have HH := Lib.hid hh
  clear hh
  have c8 : w2.cell? ⟨N1, 8, none⟩ = some (.int .u32 (h.sq : Int)) := (K1.out.cell 8).trans (by rw [← HH.out]; rfl)
  have c9 : w2.cell? ⟨N1, 9, none⟩ = some (.int .u16 (h.su : Int)) := (K1.out.cell 9).trans (by rw [← HH.out]; rfl)
  have c10 : w2.cell? ⟨N1, 10, none⟩ = some (.int .i64 h.li) := (K1.out.cell 10).trans (by rw [← HH.out]; rfl)
  have HR1 : Hid (w2.rangeAt N1 0 (iC h.id).toList) := Lib.hid (by rw [← HH.out]; exact rh_id K1.out)
  go_wp2_with (refine wpList_ld (op := ⟨some 4, _, _, _, _, _⟩) (by rfl) 35 (.tmp 3) rfl N1 0 rfl (iC h.id) _ HR1.out Tryz.underlying35 rfl info_iC ?_; refine Hid.out ?_)
  refine Lib.hid ?_
  go_wp2_with (refine wpList_v (op := ⟨some 11, _, _, _, _, _⟩) rfl (.agg (enC (hdE h))) (build_enS _ _ _ _ _ _ rfl h.id h.sq h.su h.li rfl rfl rfl rfl _) ?_; refine Hid.out ?_)
  refine Lib.hid ?_
  clear c8 c9 c10 HR1
  go_wp2_with (refine wpList_st rfl 58 (.tmp 2) (.tmp 11) rfl N2 0 rfl (.agg (enC (hdE h))) (enC (hdE h)) rfl rfl info_enP (enC_all _) K2.out (Nat.le_of_ble_eq_true rfl) (C' := enC (hdE h)) (en_over _ _) ?_; intro w3 q1; refine Hid.out ?_)
  refine Lib.hid ?_
  replace K1 := Lib.hid (K1.out.far q1 (by omega))
  replace HB := Lib.hid (HB.out.trans (q1.2.1 _ (by omega)))
  replace K2 : Hid (Blk 58 w3 N2 (enC (hdE h))) := Lib.hid q1.1
  clear q1
  go_wp2_with fail
  exact bodyPost_ret (results_1 rfl _ w3 N2 (enC (hdE h)) Tryz.underlying58 rfl info_enP rfl K2.out) rfl ⟨by rw [HH.out], HB.out⟩
theorem relE_gt {a b : En} (h : (b.sq : Int) < (a.sq : Int)) : relE a b = 1 := by
  unfold relE
  have e : cmp3 (a.sq : Int) (b.sq : Int) = 1 := by unfold cmp3; rw [if_neg (by omega), if_pos h]
  rw [e]; rfl
theorem relE_lt {a b : En} (h : (a.sq : Int) < (b.sq : Int)) : relE a b = -1 := by
  unfold relE
  have e : cmp3 (a.sq : Int) (b.sq : Int) = -1 := by unfold cmp3; rw [if_pos h]
  rw [e]; rfl
theorem relE_eq {a b : En} (h : (a.sq : Int) = (b.sq : Int)) : relE a b = or2 (cmp3 (if a.li = 0 then 1 else 0) (if b.li = 0 then 1 else 0)) (cmp3 (a.su : Int) (b.su : Int)) := by
  unfold relE
  have e : cmp3 (a.sq : Int) (b.sq : Int) = 0 := by unfold cmp3; rw [if_neg (by omega), if_neg (by omega)]
  rw [e]; rfl
set_option maxHeartbeats 8000000 in
set_option maxRecDepth 100000 in
theorem ageR_any (a b : En) (w : World) : Calls Tryz.prog 73 #[.agg (enC a), .agg (enC b)] w fun e w' => e = .returned (.int .i64 (relE a b)) ∧ Below w.heap.size w w' := by
  obtain ⟨rl, hrl⟩ : ∃ v, relE a b = v := ⟨_, rfl⟩
  have HRL := Lib.hid hrl
  rw [hrl]
  clear hrl
  go_enter Tryz.func73, Tryz.ntmps73
  have HB := Lib.hid (Below.refl w.heap.size w)
  obtain ⟨N1, hN1⟩ : ∃ N, w.heap.size = N := ⟨_, rfl⟩
  have HN1 := Lib.hid hN1
  clear hN1
  go_wp2_with (refine wpList_box (op := ⟨some 2, _, _, _, _, _⟩) rfl 58 (.tmp 0) rfl (enC a) rfl N1 HN1.out ?_; intro w1 k1 b1 s1; refine Hid.out ?_)
  refine Lib.hid ?_
  have K2 := Lib.hid k1
  clear k1
  have le_HB_N1 : w.heap.size ≤ N1 := by rw [← HN1.out]; exact HB.out.size
  replace HB := Lib.hid (HB.out.trans (b1.mono HB.out.size))
  clear b1 HN1
  obtain ⟨N2, hN2⟩ : ∃ N, w1.heap.size = N := ⟨_, rfl⟩
  have HN2 := Lib.hid hN2
  clear hN2
  go_wp2_with (refine wpList_box (op := ⟨some 3, _, _, _, _, _⟩) rfl 58 (.tmp 1) rfl (enC b) rfl N2 HN2.out ?_; intro w2 k1 b1 s1; refine Hid.out ?_)
  refine Lib.hid ?_
  have K3 := Lib.hid k1
  clear k1
  have lt_N1_N2 : N1 < N2 := by rw [← HN2.out]; exact K2.out.lt
  have le_HB_N2 : w.heap.size ≤ N2 := by rw [← HN2.out]; exact HB.out.size
  replace K2 := Lib.hid (K2.out.below b1 K2.out.lt)
  replace HB := Lib.hid (HB.out.trans (b1.mono HB.out.size))
  clear b1 HN2
  have sa : w2.cell? ⟨N1, 8, none⟩ = some (.int .u32 (a.sq : Int)) := (K2.out.cell 8).trans rfl
  have la : w2.cell? ⟨N1, 9, none⟩ = some (.int .i64 a.li) := (K2.out.cell 9).trans rfl
  have ua : w2.cell? ⟨N1, 10, none⟩ = some (.int .u16 (a.su : Int)) := (K2.out.cell 10).trans rfl
  have sb : w2.cell? ⟨N2, 8, none⟩ = some (.int .u32 (b.sq : Int)) := (K3.out.cell 8).trans rfl
  have lb : w2.cell? ⟨N2, 9, none⟩ = some (.int .i64 b.li) := (K3.out.cell 9).trans rfl
  have ub : w2.cell? ⟨N2, 10, none⟩ = some (.int .u16 (b.su : Int)) := (K3.out.cell 10).trans rfl
  obtain ⟨asq, has⟩ : ∃ n : Int, (a.sq : Int) = n := ⟨_, rfl⟩
  obtain ⟨bsq, hbs⟩ : ∃ n : Int, (b.sq : Int) = n := ⟨_, rfl⟩
  obtain ⟨asu, hau⟩ : ∃ n : Int, (a.su : Int) = n := ⟨_, rfl⟩
  obtain ⟨bsu, hbu⟩ : ∃ n : Int, (b.su : Int) = n := ⟨_, rfl⟩
  obtain ⟨ali, hal⟩ : ∃ n : Int, a.li = n := ⟨_, rfl⟩
  obtain ⟨bli, hbl⟩ : ∃ n : Int, b.li = n := ⟨_, rfl⟩
  rw [has] at sa
  rw [hbs] at sb
  rw [hau] at ua
  rw [hbu] at ub
  rw [hal] at la
  rw [hbl] at lb
  have HGT : Hid (bsq < asq → rl = 1) := Lib.hid (fun h => by rw [← HRL.out]; exact relE_gt (by rw [has, hbs]; exact h))
  have HLT : Hid (asq < bsq → rl = -1) := Lib.hid (fun h => by rw [← HRL.out]; exact relE_lt (by rw [has, hbs]; exact h))
  have HEQ : Hid (asq = bsq → rl = or2 (cmp3 (if ali = 0 then 1 else 0) (if bli = 0 then 1 else 0)) (cmp3 asu bsu)) := Lib.hid (fun h => by rw [← HRL.out, relE_eq (by rw [has, hbs]; exact h), hal, hbl, hau, hbu])
  clear has hbs hau hbu hal hbl K2 K3 HRL
  by_cases h1 : asq = bsq
  · have HQ := Lib.hid (HEQ.out h1)
    have n1 : (asq != bsq) = false := by simp [h1]
    clear h1 HGT HLT HEQ
    by_cases z1 : ali = 0
    · by_cases z2 : bli = 0
      · skip
        have f1 : (ali == 0) = true := by simp [z1]
        have f2 : (bli == 0) = true := by simp [z2]
        have HV : Hid (rl = cmp3 asu bsu) := Lib.hid (by rw [HQ.out, if_pos z1, if_pos z2]; rfl)
        clear z1 z2 HQ
        by_cases h3 : asu = bsu
        · have n3 : (asu != bsu) = false := by simp [h3]
          have HW : Hid (rl = 0) := Lib.hid (by rw [HV.out, h3]; unfold cmp3; rw [if_neg (by omega), if_neg (by omega)])
          clear h3
          go_wp2_with fail
          go_ret
          exact ⟨by rw [HW.out]; rfl, HB.out⟩
        · have n3 : (asu != bsu) = true := by simpa using h3
          by_cases h4 : bsu < asu
          · have HW : Hid (rl = 1) := Lib.hid (by rw [HV.out]; unfold cmp3; rw [if_neg (by omega), if_pos h4])
            clear h3
            go_wp2_with fail
            go_ret
            exact ⟨by rw [HW.out]; rfl, HB.out⟩
          · have HW : Hid (rl = -1) := Lib.hid (by rw [HV.out]; unfold cmp3; rw [if_pos (by omega)])
            clear h3
            go_wp2_with fail
            go_ret
            exact ⟨by rw [HW.out]; rfl, HB.out⟩
      · skip
        have f1 : (ali == 0) = true := by simp [z1]
        have f2 : (bli == 0) = false := by simp [z2]
        have HV : Hid (rl = 1) := Lib.hid (by rw [HQ.out, if_pos z1, if_neg z2]; rfl)
        clear z1 z2 HQ
        go_wp2_with fail
        go_ret
        exact ⟨by rw [HV.out]; rfl, HB.out⟩
    · by_cases z2 : bli = 0
      · skip
        have f1 : (ali == 0) = false := by simp [z1]
        have f2 : (bli == 0) = true := by simp [z2]
        have HV : Hid (rl = -1) := Lib.hid (by rw [HQ.out, if_neg z1, if_pos z2]; rfl)
        clear z1 z2 HQ
        go_wp2_with fail
        go_ret
        exact ⟨by rw [HV.out]; rfl, HB.out⟩
      · skip
        have f1 : (ali == 0) = false := by simp [z1]
        have f2 : (bli == 0) = false := by simp [z2]
        have HV : Hid (rl = cmp3 asu bsu) := Lib.hid (by rw [HQ.out, if_neg z1, if_neg z2]; rfl)
        clear z1 z2 HQ
        by_cases h3 : asu = bsu
        · have n3 : (asu != bsu) = false := by simp [h3]
          have HW : Hid (rl = 0) := Lib.hid (by rw [HV.out, h3]; unfold cmp3; rw [if_neg (by omega), if_neg (by omega)])
          clear h3
          go_wp2_with fail
          go_ret
          exact ⟨by rw [HW.out]; rfl, HB.out⟩
        · have n3 : (asu != bsu) = true := by simpa using h3
          by_cases h4 : bsu < asu
          · have HW : Hid (rl = 1) := Lib.hid (by rw [HV.out]; unfold cmp3; rw [if_neg (by omega), if_pos h4])
            clear h3
            go_wp2_with fail
            go_ret
            exact ⟨by rw [HW.out]; rfl, HB.out⟩
          · have HW : Hid (rl = -1) := Lib.hid (by rw [HV.out]; unfold cmp3; rw [if_pos (by omega)])
            clear h3
            go_wp2_with fail
            go_ret
            exact ⟨by rw [HW.out]; rfl, HB.out⟩
  · have n1 : (asq != bsq) = true := by simpa using h1
    by_cases h2 : bsq < asq
    · have HV := Lib.hid (HGT.out h2)
      clear h1 HGT HLT HEQ
      go_wp2_with fail
      go_ret
      exact ⟨by rw [HV.out]; rfl, HB.out⟩
    · have HV := Lib.hid (HLT.out (by omega))
      clear h1 HGT HLT HEQ
      go_wp2_with fail
      go_ret
      exact ⟨by rw [HV.out]; rfl, HB.out⟩
def FindR (R : List Rh) (n : Nat) (w : World) (e : Ending) (w' : World) : Prop := ∃ i : Int, e = .returned (.int .i64 i) ∧ Below w.heap.size w w' ∧ ((i = -1 ∧ ∀ (j : Nat) (r : Rh), R[j]? = some r → r.x.1.id ≠ n) ∨ ∃ (k : Nat) (r : Rh), i = (k : Int) ∧ R[k]? = some r ∧ r.x.1.id = n)
set_option maxHeartbeats 8000000 in
set_option maxRecDepth 100000 in
theorem findR_any (B sr n : Nat) (R : List Rh) (rf : Bool) (w : World) (h : RfAt w B sr R rf) (hn : IdOk n) : Calls Tryz.prog 32 #[.pointer (some ⟨sr, 0, none⟩), .agg (iC n)] w (FindR R n w) := by
  have HN := Lib.hid hn
  obtain ⟨A, c, hst, hc1, hc2, hrd, _⟩ := h.open
  have KS := Lib.hid hst
  have HRD := Lib.hid hrd
  obtain ⟨m, hm⟩ : ∃ m, R.length = m := ⟨_, rfl⟩
  have HM := Lib.hid hm
  have hmI : (m : Int) ≤ 9223372036854775807 := by have h9 : maxLen = 9223372036854775807 := rfl; omega
  rw [hm] at HRD KS
  clear h hn hst hrd hm hc1 hc2
  go_enter Tryz.func32, Tryz.ntmps32
  have HB := Lib.hid (Below.refl w.heap.size w)
  obtain ⟨N1, hN1⟩ : ∃ N, w.heap.size = N := ⟨_, rfl⟩
  have HN1 := Lib.hid hN1
  clear hN1
  go_wp2_with (refine wpList_box (op := ⟨some 3, _, _, _, _, _⟩) rfl 35 (.tmp 1) rfl (iC n) rfl N1 HN1.out ?_; intro w1 k1 b1 s1; refine Hid.out ?_)
  refine Lib.hid ?_
  have K3 := Lib.hid k1
  clear k1
  have lt_sr_N1 : sr < N1 := by rw [← HN1.out]; exact KS.out.lt
  have le_HB_N1 : w.heap.size ≤ N1 := by rw [← HN1.out]; exact HB.out.size
  replace KS := Lib.hid (KS.out.below b1 KS.out.lt)
  replace HB := Lib.hid (HB.out.trans (b1.mono HB.out.size))
  clear b1 HN1
  have c0 : w1.cell? ⟨sr, 0, none⟩ = some (.slice A m c) := (KS.out.cell 0).trans rfl
  go_wp2_with fail
  clear c0 KS
  obtain ⟨BL, hBL⟩ : ∃ N, w1.heap.size = N := ⟨_, rfl⟩
  have HBL := Lib.hid hBL
  have le_BL : w.heap.size ≤ BL := by rw [← hBL]; exact HB.out.size
  clear hBL
  go_loopw [12] (fun t wr => ∃ i : Nat, i ≤ m ∧ t = .int .i64 i ∧ Hid (Below BL w1 wr) ∧ Hid (∀ (j : Nat) (r : Rh), j < i → R[j]? = some r → r.x.1.id ≠ n)) (fun t _ => m - (intOf t).toNat)
  case atStart => exact ⟨0, by omega, rfl, Lib.hid (Below.refl _ _), Lib.hid (fun j r hj => by omega)⟩
  case round =>
    obtain ⟨i, hi, rfl, HQ, HNO⟩ := hrel
    have HF : Hid (Below w.heap.size w wr) := Lib.hid (HB.out.trans (HQ.out.mono le_BL))
    by_cases hlt : i < m
    · have hki : (i : Int) < (m : Int) := by omega
      obtain ⟨bA, off, rfl, hr⟩ := HRD.out.row (by omega)
      obtain ⟨r, hx⟩ : ∃ r, R[i]? = some r := ⟨_, List.getElem?_eq_getElem (by rw [HM.out]; exact hlt)⟩
      have HX := Lib.hid hx
      have h1 : Hid (wr.rangeAt bA (off + i * 13) (rhC r).toList) := Lib.hid (by have h9 := rangeAt_below (rangeAt_below (hr.2 i hlt) HB.out hr.1) HQ.out (by have := hr.1; omega); rw [rhA_at R i r hx] at h9; exact h9)
      clear hr hx
      go_wp2_with (refine wpList_ld (op := ⟨some 16, _, _, _, _, _⟩) (by rfl) 95 (.tmp 15) rfl bA (off + i * 13) rfl (rhC r) _ h1.out Tryz.underlying95 rfl info_rh ?_; refine Hid.out ?_)
      refine Lib.hid ?_
      clear h1
      obtain ⟨N6, hN6⟩ : ∃ N, wr.heap.size = N := ⟨_, rfl⟩
      have HN6 := Lib.hid hN6
      clear hN6
      go_wp2_with (refine wpList_new (op := ⟨some 6, _, _, _, _, _⟩) rfl 95 rfl rhZ zero_rh N6 HN6.out ?_; intro w5 k1 b1 s9; refine Hid.out ?_)
      refine Lib.hid ?_
      have K6 := Lib.hid k1
      have HB1 := Lib.hid b1
      clear k1 b1 s9
      go_wp2_with (refine wpList_st rfl 95 (.tmp 6) (.tmp 16) rfl N6 0 rfl (.agg (rhC r)) (rhC r) rfl rfl info_rh (rhC_one _) K6.out (Nat.le_of_ble_eq_true rfl) (C' := rhC r) (rh_overZ _) ?_; intro w6 q1; refine Hid.out ?_)
      refine Lib.hid ?_
      have b1 : Below wr.heap.size wr w6 := HB1.out.trans (q1.2.1 _ (by rw [HN6.out]; exact Nat.le_refl _))
      replace K6 : Hid (Blk 95 w6 N6 (rhC r)) := Lib.hid q1.1
      clear q1 HB1 HN6
      replace HQ : Hid (Below BL w1 w6) := Lib.hid (HQ.out.trans (b1.mono (by have := HQ.out.size; rw [HBL.out] at this; exact this)))
      replace HF : Hid (Below w.heap.size w w6) := Lib.hid (HF.out.trans (b1.mono HF.out.size))
      clear b1
      have K3w := Lib.hid (K3.out.below HQ.out (by rw [← HBL.out]; exact K3.out.lt))
      go_wp2_with (refine wpList_ld (op := ⟨some 18, _, _, _, _, _⟩) (by rfl) 35 (.tmp 17) rfl N6 0 rfl (iC r.x.1.id) _ (rh_id K6.out) Tryz.underlying35 rfl info_iC ?_; refine Hid.out ?_)
      refine Lib.hid ?_
      go_wp2_with (refine wpList_ld (op := ⟨some 19, _, _, _, _, _⟩) (by rfl) 35 (.tmp 3) rfl N1 0 rfl (iC n) _ K3w.out.all Tryz.underlying35 rfl info_iC ?_; refine Hid.out ?_)
      refine Lib.hid ?_
      go_wp2_with (refine wpList_v (op := ⟨some 20, _, _, _, _, _⟩) rfl (.bool (r.x.1.id == n)) (eql_id _ _ _ _ _ rfl rfl r.x.1.id n r.x.2 HN.out rfl rfl _) ?_; refine Hid.out ?_)
      refine Lib.hid ?_
      clear K6 K3w
      obtain ⟨q, hq⟩ : ∃ q, (r.x.1.id == n) = q := ⟨_, rfl⟩
      rw [hq]
      have HQQ := Lib.hid hq
      clear hq
      cases q with
      | true =>
        go_wp2_with fail
        go_ret
        exact ⟨_, rfl, HF.out, .inr ⟨i, r, rfl, HX.out, by simpa using HQQ.out⟩⟩
      | false =>
        go_wp2_with fail
        go_roundw
        case rel => exact ⟨i + 1, by omega, by go_num, HQ, Lib.hid (fun j r9 hj h9 => by
          by_cases e : j = i
          · subst e; rw [HX.out] at h9; cases h9; simpa using HQQ.out
          · exact HNO.out j r9 (by omega) h9)⟩
        case measure => simp only [intOf]; omega
    · obtain rfl : m = i := by omega
      go_wp2_with fail
      go_ret
      exact ⟨_, rfl, HF.out, .inl ⟨rfl, fun j r h9 => HNO.out j r (by rw [← HM.out]; exact (List.getElem?_eq_some_iff.1 h9).1) h9⟩⟩
end Go.Proofs.YtkiaijmhoikdiaaGreat

/- The document's Newer: how one that is held stands to another. Each theorem states its conditions. -/
namespace Go.Proofs.YtkiaijmhoikdiaaGreat
open Go.RowKit Go.MapKept
set_option linter.unusedVariables false
set_option linter.unusedSimpArgs false

theorem cmpL_first : ∀ (n m i : Nat) (f g : Nat → Int), i < n → i < m → (∀ j, j < i → f j = g j) → f i ≠ g i → cmpL ((List.range n).map f) ((List.range m).map g) = if g i < f i then 1 else -1
  | 0, _, _, _, _, h, _, _, _ => by omega
  | _, 0, _, _, _, _, h, _, _ => by omega
  | n + 1, m + 1, 0, f, g, _, _, _, hne => by
    rw [List.range_succ_eq_map, List.range_succ_eq_map]
    simp only [List.map_cons]
    unfold cmpL
    by_cases h : f 0 < g 0
    · rw [if_pos h, if_neg (by omega)]
    · rw [if_neg h, if_pos (by omega), if_pos (by omega)]
  | n + 1, m + 1, i + 1, f, g, hn, hm, he, hne => by
    rw [List.range_succ_eq_map, List.range_succ_eq_map]
    simp only [List.map_cons, List.map_map]
    unfold cmpL
    have h0 := he 0 (by omega)
    rw [if_neg (by omega), if_neg (by omega)]
    exact cmpL_first n m i (f ∘ Nat.succ) (g ∘ Nat.succ) (by omega) (by omega) (fun j hj => he (j + 1) (by omega)) hne
theorem cmpL_self : ∀ a : List Int, cmpL a a = 0
  | [] => rfl
  | x :: xs => by
    unfold cmpL
    rw [if_neg (by omega), if_neg (by omega)]
    exact cmpL_self xs
theorem lstZ_first {y z : Nat → Int} {a n m i : Nat} (hn : i < n) (hm : i < m) (he : ∀ j, j < i → y (a + j) = z (a + j)) (hne : y (a + i) ≠ z (a + i)) : cmpL (lstZ y a n) (lstZ z a m) = if z (a + i) < y (a + i) then 1 else -1 :=
  cmpL_first n m i (fun j => y (a + j)) (fun j => z (a + j)) hn hm he hne
theorem lstZ_same {y z : Nat → Int} {a n : Nat} (he : ∀ j, j < n → y (a + j) = z (a + j)) : cmpL (lstZ y a n) (lstZ z a n) = 0 := by
  have : lstZ y a n = lstZ z a n := List.map_congr_left fun j hj => he j (by simpa using hj)
  rw [this]
  exact cmpL_self _
theorem relH_first {a b : Hd} {i : Nat} (h0 : relE (hdE a) (hdE b) = 0) (hi : i < a.n ∧ i < b.n) (h10 : i ≠ 10 ∧ i ≠ 11) (he : ∀ j, j < i → j ≠ 10 → j ≠ 11 → a.z j = b.z j) (hne : a.z i ≠ b.z i) : relH a b = if b.z i < a.z i then 1 else -1 := by
  unfold relH
  rw [h0]
  show or2 (cmpL (lstZ a.z 0 10) (lstZ b.z 0 10)) _ = _
  by_cases hl : i < 10
  · have h1 := lstZ_first (y := a.z) (z := b.z) (a := 0) (n := 10) (m := 10) (i := i) hl hl (fun j hj => by rw [Nat.zero_add]; exact he j hj (by omega) (by omega)) (by rw [Nat.zero_add]; exact hne)
    rw [Nat.zero_add] at h1
    rw [h1]
    by_cases hz : b.z i < a.z i
    · rw [if_pos hz]; rfl
    · rw [if_neg hz]; rfl
  · have h1 : cmpL (lstZ a.z 0 10) (lstZ b.z 0 10) = 0 := lstZ_same (fun j hj => by rw [Nat.zero_add]; exact he j (by omega) (by omega) (by omega))
    rw [h1]
    show cmpL _ _ = _
    have h2 := lstZ_first (y := a.z) (z := b.z) (a := 12) (n := a.n - 12) (m := b.n - 12) (i := i - 12) (by omega) (by omega) (fun j hj => he (12 + j) (by omega) (by omega) (by omega)) (by rw [show 12 + (i - 12) = i by omega]; exact hne)
    rw [show 12 + (i - 12) = i by omega] at h2
    exact h2
theorem relH_none {a b : Hd} (h0 : relE (hdE a) (hdE b) = 0) (hn : a.n = b.n) (he : ∀ j, j < a.n → j ≠ 10 → j ≠ 11 → a.z j = b.z j) (h12 : 12 ≤ a.n) : relH a b = 0 := by
  unfold relH
  have h1 : cmpL (lstZ a.z 0 10) (lstZ b.z 0 10) = 0 := lstZ_same (fun j hj => by rw [Nat.zero_add]; exact he j (by omega) (by omega) (by omega))
  have h2 : cmpL (lstZ a.z 12 (a.n - 12)) (lstZ b.z 12 (b.n - 12)) = 0 := by
    rw [← hn]
    exact lstZ_same (fun j hj => he (12 + j) (by omega) (by omega) (by omega))
  rw [h0, h1, h2]
  rfl
theorem relH_ent {a b : Hd} (h : relE (hdE a) (hdE b) ≠ 0) : relH a b = relE (hdE a) (hdE b) := by
  unfold relH or2
  rw [if_neg h]
theorem good_len {z y : Nat → Int} {n m k l : Nat} (hz : GoodZ z n k) (hy : GoodZ y m l) (h4 : cls (z 4) = 2) (he : ∀ j, j < 10 → z j = y j) : n = m := by
  have h1 := hz.1.2.2.2.2 0 (by rw [h4]; decide) (by rw [h4]; rfl)
  have h4y : cls (y 4) = 2 := by rw [← he 4 (by decide)]; exact h4
  have h2 := hy.1.2.2.2.2 0 (by rw [h4y]; decide) (by rw [h4y]; rfl)
  rw [h4] at h1
  rw [h4y] at h2
  rw [← h1, ← h2]
  unfold toldN
  show (numZ (fun j => z (8 + j)) 0 2).toNat = (numZ (fun j => y (8 + j)) 0 2).toNat
  have e8 := he 8 (by decide)
  have e9 := he 9 (by decide)
  simp [numZ, e8, e9]
theorem own8_at {w : World} {g n c j : Nat} {z : Nat → Int} (h : Own8 w g n c z) (hj : j < n) : w.cell? ⟨g, j, none⟩ = some (.int .u8 (z j)) := by
  obtain ⟨⟨cur, h1, h2, h3, h4, h5⟩, h6⟩ := h
  rw [cell_of_row w g j _ _ _ h1]
  exact h5 j hj
set_option maxHeartbeats 16000000 in
set_option maxRecDepth 100000 in
theorem newerR_any (a b : Rh) (w : World) (ha : RhOk w a) (hb : RhOk w b) : Calls Tryz.prog 51 #[.agg (rhC a), .agg (rhC b)] w fun e w' => e = .returned (.int .i64 (relH a.x.1 b.x.1)) ∧ Below w.heap.size w w' := by
  have HA := Lib.hid ha
  have HBB := Lib.hid hb
  clear ha hb
  go_enter Tryz.func51, Tryz.ntmps51
  have HB := Lib.hid (Below.refl w.heap.size w)
  obtain ⟨N1, hN1⟩ : ∃ N, w.heap.size = N := ⟨_, rfl⟩
  have HN1 := Lib.hid hN1
  clear hN1
  go_wp2_with (refine wpList_box (op := ⟨some 2, _, _, _, _, _⟩) rfl 95 (.tmp 0) rfl (rhC a) rfl N1 HN1.out ?_; intro w1 k1 b1 s1; refine Hid.out ?_)
  refine Lib.hid ?_
  have K2 := Lib.hid k1
  clear k1
  have le_HB_N1 : w.heap.size ≤ N1 := by rw [← HN1.out]; exact HB.out.size
  replace HB := Lib.hid (HB.out.trans (b1.mono HB.out.size))
  clear b1 HN1
  obtain ⟨N2, hN2⟩ : ∃ N, w1.heap.size = N := ⟨_, rfl⟩
  have HN2 := Lib.hid hN2
  clear hN2
  go_wp2_with (refine wpList_box (op := ⟨some 3, _, _, _, _, _⟩) rfl 95 (.tmp 1) rfl (rhC b) rfl N2 HN2.out ?_; intro w2 k1 b1 s1; refine Hid.out ?_)
  refine Lib.hid ?_
  have K3 := Lib.hid k1
  clear k1
  have lt_N1_N2 : N1 < N2 := by rw [← HN2.out]; exact K2.out.lt
  have le_HB_N2 : w.heap.size ≤ N2 := by rw [← HN2.out]; exact HB.out.size
  replace K2 := Lib.hid (K2.out.below b1 K2.out.lt)
  replace HB := Lib.hid (HB.out.trans (b1.mono HB.out.size))
  clear b1 HN2
  go_wp2_with fail
  refine wp_region_held_drew (S := fun w' => Blk 95 w' N1 (rhC a) ∧ Blk 95 w' N2 (rhC b) ∧ Below w.heap.size w w') (by kernel_rfl) ⟨K2.out, K3.out, HB.out.drew⟩ (fun hS => ?_)
  generalize hW3 : w2.drew = W3 at hS  ⊢
  clear hW3
  clear K2
  clear K3
  clear HB
  have K2 := Lib.hid hS.1
  have K3 := Lib.hid hS.2.1
  have HB := Lib.hid hS.2.2
  refine tL (i := 0) (some 7) 95 (.tmp 2) N1 0 (rhC a) _ rfl rfl rfl rfl (fun w' hS => hS.1.all) Tryz.underlying95 rfl info_rh hS ?_
  simp only [Act.put, pA, pB, pC]
  refine tL (i := 2) (some 9) 95 (.tmp 3) N2 0 (rhC b) _ rfl rfl rfl rfl (fun w' hS => hS.2.1.all) Tryz.underlying95 rfl info_rh hS ?_
  simp only [Act.put, pA, pB, pC]
  refine takeC (i := 1) (some 8) 39 #[.agg (rhC a)] (.agg (enC (hdE a.x.1))) (R := fun w' => Below W3.heap.size W3 w') rfl rfl (by kernel_rfl) (by rfl) (by go_simp) (entryR_any a W3) (fun w' hb => ⟨hS.1.below hb hS.1.lt, hS.2.1.below hb hS.2.1.lt, hS.2.2.trans (hb.mono hS.2.2.size)⟩) (fun W4 hb1 hS2 => ?_)
  simp only [Act.put, pA, pB, pC]
  clear K2
  clear K3
  clear HB
  clear hS hb1
  have hS := hS2
  clear hS2
  have K2 := Lib.hid hS.1
  have K3 := Lib.hid hS.2.1
  have HB := Lib.hid hS.2.2
  refine takeC (i := 3) (some 10) 39 #[.agg (rhC b)] (.agg (enC (hdE b.x.1))) (R := fun w' => Below W4.heap.size W4 w') rfl rfl (by kernel_rfl) (by rfl) (by go_simp) (entryR_any b W4) (fun w' hb => ⟨hS.1.below hb hS.1.lt, hS.2.1.below hb hS.2.1.lt, hS.2.2.trans (hb.mono hS.2.2.size)⟩) (fun W5 hb1 hS2 => ?_)
  simp only [Act.put, pA, pB, pC]
  clear K2
  clear K3
  clear HB
  clear hS hb1
  have hS := hS2
  clear hS2
  have K2 := Lib.hid hS.1
  have K3 := Lib.hid hS.2.1
  have HB := Lib.hid hS.2.2
  refine takeC (i := 4) (some 11) 73 #[.agg (enC (hdE a.x.1)), .agg (enC (hdE b.x.1))] (.int .i64 (relE (hdE a.x.1) (hdE b.x.1))) (R := fun w' => Below W5.heap.size W5 w') rfl rfl (by kernel_rfl) (by rfl) (by go_simp) (ageR_any _ _ W5) (fun w' hb => ⟨hS.1.below hb hS.1.lt, hS.2.1.below hb hS.2.1.lt, hS.2.2.trans (hb.mono hS.2.2.size)⟩) (fun W6 hb1 hS2 => ?_)
  simp only [Act.put, pA, pB, pC]
  clear K2
  clear K3
  clear HB
  clear hS hb1
  have hS := hS2
  clear hS2
  have K2 := Lib.hid hS.1
  have K3 := Lib.hid hS.2.1
  have HB := Lib.hid hS.2.2
  refine tY (i := 5) (some 5) (v := .int .i64 (relE (hdE a.x.1) (hdE b.x.1))) rfl rfl (fun w' hS => by clear hS; go_simp) hS ?_
  simp only [Act.put, pA, pB, pC]
  clear hS
  refine wpAnyH_done (by kernel_rfl) ?_ _
  obtain ⟨re, hre⟩ : ∃ v, relE (hdE a.x.1) (hdE b.x.1) = v := ⟨_, rfl⟩
  rw [hre]
  have HRE := Lib.hid hre
  clear hre
  by_cases h0 : re = 0
  · subst h0
    have HAW := Lib.hid (HA.out.below HB.out)
    have HBW := Lib.hid (HBB.out.below HB.out)
    obtain ⟨ga, ea⟩ : ∃ x, a.g = x := ⟨_, rfl⟩
    obtain ⟨gb, eb⟩ : ∃ x, b.g = x := ⟨_, rfl⟩
    obtain ⟨ca, eca⟩ : ∃ x, a.c = x := ⟨_, rfl⟩
    obtain ⟨cb, ecb⟩ : ∃ x, b.c = x := ⟨_, rfl⟩
    obtain ⟨x, ex⟩ : ∃ x, a.x.1 = x := ⟨_, rfl⟩
    obtain ⟨y, ey⟩ : ∃ x, b.x.1 = x := ⟨_, rfl⟩
    obtain ⟨na, ena⟩ : ∃ n, x.n = n := ⟨_, rfl⟩
    obtain ⟨nb, enb⟩ : ∃ n, y.n = n := ⟨_, rfl⟩
    have ha1 : Own8 W6 ga na ca x.z := by have h9 := HAW.out.1; rw [ea, eca, ex, ena] at h9; exact h9
    have hb1 : Own8 W6 gb nb cb y.z := by have h9 := HBW.out.1; rw [eb, ecb, ey, enb] at h9; exact h9
    have HG : Hid (cls (x.z 4) = 2 ∧ (27 ≤ na ∧ na ≤ 1492) ∧ (27 ≤ nb ∧ nb ≤ 1492) ∧ (∃ m, GoodZ x.z na m) ∧ ∃ m, GoodZ y.z nb m) := Lib.hid (by have h8 := HAW.out.2; have h9 := HBW.out.2; rw [ex, ena] at h8; rw [ey, enb] at h9; exact ⟨h8.1, h8.2.1, h9.2.1, h8.2.2, h9.2.2⟩)
    have HXY : Hid (x.n = na ∧ y.n = nb) := Lib.hid ⟨ena, enb⟩
    have cA : W6.cell? ⟨N1, 11, none⟩ = some (.slice (some ⟨ga, 0, none⟩) na ca) := (K2.out.cell 11).trans (by rw [← ea, ← eca, ← ena, ← ex]; rfl)
    have cB : W6.cell? ⟨N2, 11, none⟩ = some (.slice (some ⟨gb, 0, none⟩) nb cb) := (K3.out.cell 11).trans (by rw [← eb, ← ecb, ← enb, ← ey]; rfl)
    have HR0 : Hid (relE (hdE x) (hdE y) = 0) := Lib.hid (by rw [← ex, ← ey]; exact HRE.out)
    have HEX := Lib.hid (And.intro ex ey)
    have HZA : Hid (∀ j, j < na → W6.cell? ⟨ga, j, none⟩ = some (.int .u8 (x.z j))) := Lib.hid (fun j hj => own8_at ha1 hj)
    have HZB : Hid (∀ j, j < nb → W6.cell? ⟨gb, j, none⟩ = some (.int .u8 (y.z j))) := Lib.hid (fun j hj => own8_at hb1 hj)
    have hna : (na : Int) ≤ 9223372036854775807 := by have := HG.out.2.1; omega
    have hnb : (nb : Int) ≤ 9223372036854775807 := by have := HG.out.2.2.1; omega
    clear ea eb eca ecb ex ey ena enb ha1 hb1 HAW HBW K2 K3 HRE
    go_wp2_with fail
    go_loopw [6] (fun t wr => ∃ i r : Nat, i ≤ na ∧ i ≤ nb ∧ t = .int .i64 i ∧ wr = W6.drewN r ∧ Hid (∀ j, j < i → j ≠ 10 → j ≠ 11 → x.z j = y.z j)) (fun t _ => na - (intOf t).toNat)
    case atStart => exact ⟨0, 0, by omega, by omega, rfl, rfl, Lib.hid (fun j hj => by omega)⟩
    case round =>
      obtain ⟨i, r, hia, hib, rfl, rfl, HE⟩ := hrel
      have HBr : Hid (∀ r, Below w.heap.size w (W6.drewN r)) := Lib.hid (fun r => ⟨HB.out.os, HB.out.tape, HB.out.output, HB.out.size, HB.out.block⟩)
      by_cases hlt : i < na ∧ i < nb
      · have hka : (i : Int) < (na : Int) := by omega
        have hkb : (i : Int) < (nb : Int) := by omega
        have HLT := Lib.hid hlt
        go_wp2_with fail
        by_cases h10 : i = 10
        · skip
          have HI := Lib.hid h10
          have hiI : (i : Int) = 10 := by omega
          subst h10
          refine wp_region_held_drew (S := fun w' => w' = (W6.drewN r).drew) (by kernel_rfl) rfl (fun _ => ?_)
          refine tY (i := 0) (some 29) (v := .int .i64 10) rfl rfl (fun w' hS => by go_simp) rfl ?_
          simp only [Act.put, pA, pB, pC]
          refine tY (i := 1) (some 30) (v := .bool true) rfl rfl (fun w' hS => by go_simp) rfl ?_
          simp only [Act.put, pA, pB, pC]
          refine tY (i := 2) (some 31) (v := .bool true) rfl rfl (fun w' hS => by go_simp) rfl ?_
          simp only [Act.put, pA, pB, pC]
          refine tN (i := 3) (some 32) rfl rfl rfl ?_
          simp only [Act.put, pA, pB, pC]
          refine tN (i := 4) (some 33) rfl rfl rfl ?_
          simp only [Act.put, pA, pB, pC]
          refine tY (i := 5) (some 34) (v := .bool true) rfl rfl (fun w' hS => by go_simp) rfl ?_
          simp only [Act.put, pA, pB, pC]
          refine tY (i := 6) (some 35) (v := .bool true) rfl rfl (fun w' hS => by go_simp) rfl ?_
          simp only [Act.put, pA, pB, pC]
          refine tN (i := 7) (some 36) rfl rfl rfl ?_
          simp only [Act.put, pA, pB, pC]
          refine tN (i := 8) (some 37) rfl rfl rfl ?_
          simp only [Act.put, pA, pB, pC]
          refine tN (i := 9) (some 38) rfl rfl rfl ?_
          simp only [Act.put, pA, pB, pC]
          refine tN (i := 10) (some 39) rfl rfl rfl ?_
          simp only [Act.put, pA, pB, pC]
          refine tN (i := 11) (some 40) rfl rfl rfl ?_
          simp only [Act.put, pA, pB, pC]
          refine tN (i := 12) (some 41) rfl rfl rfl ?_
          simp only [Act.put, pA, pB, pC]
          refine tN (i := 13) (some 42) rfl rfl rfl ?_
          simp only [Act.put, pA, pB, pC]
          refine tN (i := 14) (some 43) rfl rfl rfl ?_
          simp only [Act.put, pA, pB, pC]
          refine tN (i := 15) (some 44) rfl rfl rfl ?_
          simp only [Act.put, pA, pB, pC]
          refine tN (i := 16) (some 45) rfl rfl rfl ?_
          simp only [Act.put, pA, pB, pC]
          refine tN (i := 17) (some 46) rfl rfl rfl ?_
          simp only [Act.put, pA, pB, pC]
          refine tY (i := 18) (some 47) (v := .bool true) rfl rfl (fun w' hS => by go_simp) rfl ?_
          simp only [Act.put, pA, pB, pC]
          refine wpAnyH_done (by kernel_rfl) ?_ _
          go_wp2_with fail
          go_roundw
          case rel => exact ⟨10 + 1, r + 1, by omega, by omega, by go_num, rfl, Lib.hid (fun j hj h10 h11 => HE.out j (by omega) h10 h11)⟩
          case measure => simp only [intOf]; omega
        by_cases h11 : i = 11
        · skip
          have HI := Lib.hid h11
          have hiI : (i : Int) = 11 := by omega
          subst h11
          refine wp_region_held_drew (S := fun w' => w' = (W6.drewN r).drew) (by kernel_rfl) rfl (fun _ => ?_)
          refine tY (i := 0) (some 29) (v := .int .i64 11) rfl rfl (fun w' hS => by go_simp) rfl ?_
          simp only [Act.put, pA, pB, pC]
          refine tY (i := 1) (some 30) (v := .bool false) rfl rfl (fun w' hS => by go_simp) rfl ?_
          simp only [Act.put, pA, pB, pC]
          refine tY (i := 2) (some 31) (v := .bool false) rfl rfl (fun w' hS => by go_simp) rfl ?_
          simp only [Act.put, pA, pB, pC]
          refine tY (i := 3) (some 32) (v := .int .i64 11) rfl rfl (fun w' hS => by go_simp) rfl ?_
          simp only [Act.put, pA, pB, pC]
          refine tY (i := 4) (some 33) (v := .bool true) rfl rfl (fun w' hS => by go_simp) rfl ?_
          simp only [Act.put, pA, pB, pC]
          refine tY (i := 5) (some 34) (v := .bool true) rfl rfl (fun w' hS => by go_simp) rfl ?_
          simp only [Act.put, pA, pB, pC]
          refine tY (i := 6) (some 35) (v := .bool true) rfl rfl (fun w' hS => by go_simp) rfl ?_
          simp only [Act.put, pA, pB, pC]
          refine tN (i := 7) (some 36) rfl rfl rfl ?_
          simp only [Act.put, pA, pB, pC]
          refine tN (i := 8) (some 37) rfl rfl rfl ?_
          simp only [Act.put, pA, pB, pC]
          refine tN (i := 9) (some 38) rfl rfl rfl ?_
          simp only [Act.put, pA, pB, pC]
          refine tN (i := 10) (some 39) rfl rfl rfl ?_
          simp only [Act.put, pA, pB, pC]
          refine tN (i := 11) (some 40) rfl rfl rfl ?_
          simp only [Act.put, pA, pB, pC]
          refine tN (i := 12) (some 41) rfl rfl rfl ?_
          simp only [Act.put, pA, pB, pC]
          refine tN (i := 13) (some 42) rfl rfl rfl ?_
          simp only [Act.put, pA, pB, pC]
          refine tN (i := 14) (some 43) rfl rfl rfl ?_
          simp only [Act.put, pA, pB, pC]
          refine tN (i := 15) (some 44) rfl rfl rfl ?_
          simp only [Act.put, pA, pB, pC]
          refine tN (i := 16) (some 45) rfl rfl rfl ?_
          simp only [Act.put, pA, pB, pC]
          refine tN (i := 17) (some 46) rfl rfl rfl ?_
          simp only [Act.put, pA, pB, pC]
          refine tY (i := 18) (some 47) (v := .bool true) rfl rfl (fun w' hS => by go_simp) rfl ?_
          simp only [Act.put, pA, pB, pC]
          refine wpAnyH_done (by kernel_rfl) ?_ _
          go_wp2_with fail
          go_roundw
          case rel => exact ⟨11 + 1, r + 1, by omega, by omega, by go_num, rfl, Lib.hid (fun j hj h10 h11 => HE.out j (by omega) h10 h11)⟩
          case measure => simp only [intOf]; omega
        have H1 := Lib.hid (And.intro h10 h11)
        have e10 : ((i : Int) == 10) = false := beq_eq_false_iff_ne.2 (by omega)
        have e11 : ((i : Int) == 11) = false := beq_eq_false_iff_ne.2 (by omega)
        have z1 := HZA.out i hlt.1
        have z2 := HZB.out i hlt.2
        obtain ⟨p, hp⟩ : ∃ v, x.z i = v := ⟨_, rfl⟩
        obtain ⟨q, hq⟩ : ∃ v, y.z i = v := ⟨_, rfl⟩
        rw [hp] at z1
        rw [hq] at z2
        have HPQ := Lib.hid (And.intro hp hq)
        clear hp hq h10 h11 hlt
        refine wp_region_held_drew (S := fun w' => w' = (W6.drewN r).drew) (by kernel_rfl) rfl (fun _ => ?_)
        refine tY (i := 0) (some 29) (v := .int .i64 (i : Int)) rfl rfl (fun w' hS => by go_simp) rfl ?_
        simp only [Act.put, pA, pB, pC]
        refine tY (i := 1) (some 30) (v := .bool false) rfl rfl (fun w' hS => by go_simp) rfl ?_
        simp only [Act.put, pA, pB, pC]
        refine tY (i := 2) (some 31) (v := .bool false) rfl rfl (fun w' hS => by go_simp) rfl ?_
        simp only [Act.put, pA, pB, pC]
        refine tY (i := 3) (some 32) (v := .int .i64 (i : Int)) rfl rfl (fun w' hS => by go_simp) rfl ?_
        simp only [Act.put, pA, pB, pC]
        refine tY (i := 4) (some 33) (v := .bool false) rfl rfl (fun w' hS => by go_simp) rfl ?_
        simp only [Act.put, pA, pB, pC]
        refine tY (i := 5) (some 34) (v := .bool false) rfl rfl (fun w' hS => by go_simp) rfl ?_
        simp only [Act.put, pA, pB, pC]
        refine tY (i := 6) (some 35) (v := .bool false) rfl rfl (fun w' hS => by go_simp) rfl ?_
        simp only [Act.put, pA, pB, pC]
        refine tY (i := 7) (some 36) (v := .pointer (some ⟨N1, 11, none⟩)) rfl rfl (fun w' hS => by go_simp) rfl ?_
        simp only [Act.put, pA, pB, pC]
        refine tY (i := 8) (some 37) (v := .slice (some ⟨ga, 0, none⟩) na ca) rfl rfl (fun w' hS => by subst hS; go_simp) rfl ?_
        simp only [Act.put, pA, pB, pC]
        refine tY (i := 9) (some 38) (v := .int .i64 (i : Int)) rfl rfl (fun w' hS => by go_simp) rfl ?_
        simp only [Act.put, pA, pB, pC]
        refine tY (i := 10) (some 39) (v := .pointer (some ⟨ga, i, none⟩)) rfl rfl (fun w' hS => by go_simp) rfl ?_
        simp only [Act.put, pA, pB, pC]
        refine tY (i := 11) (some 40) (v := .int .u8 p) rfl rfl (fun w' hS => by subst hS; go_simp) rfl ?_
        simp only [Act.put, pA, pB, pC]
        refine tY (i := 12) (some 41) (v := .pointer (some ⟨N2, 11, none⟩)) rfl rfl (fun w' hS => by go_simp) rfl ?_
        simp only [Act.put, pA, pB, pC]
        refine tY (i := 13) (some 42) (v := .slice (some ⟨gb, 0, none⟩) nb cb) rfl rfl (fun w' hS => by subst hS; go_simp) rfl ?_
        simp only [Act.put, pA, pB, pC]
        refine tY (i := 14) (some 43) (v := .int .i64 (i : Int)) rfl rfl (fun w' hS => by go_simp) rfl ?_
        simp only [Act.put, pA, pB, pC]
        refine tY (i := 15) (some 44) (v := .pointer (some ⟨gb, i, none⟩)) rfl rfl (fun w' hS => by go_simp) rfl ?_
        simp only [Act.put, pA, pB, pC]
        refine tY (i := 16) (some 45) (v := .int .u8 q) rfl rfl (fun w' hS => by subst hS; go_simp) rfl ?_
        simp only [Act.put, pA, pB, pC]
        refine tY (i := 17) (some 46) (v := .bool (p == q)) rfl rfl (fun w' hS => by go_simp) rfl ?_
        simp only [Act.put, pA, pB, pC]
        refine tY (i := 18) (some 47) (v := .bool (p == q)) rfl rfl (fun w' hS => by go_simp) rfl ?_
        simp only [Act.put, pA, pB, pC]
        refine wpAnyH_done (by kernel_rfl) ?_ _
        by_cases hpq : p = q
        · have hb9 : (p == q) = true := by simpa using hpq
          have HEQ : Hid (x.z i = y.z i) := Lib.hid (by rw [HPQ.out.1, HPQ.out.2]; exact hpq)
          clear hpq
          go_wp2_with fail
          go_roundw
          case rel => exact ⟨i + 1, r + 1, by have := HLT.out; omega, by have := HLT.out; omega, by go_num, rfl, Lib.hid (fun j hj h10 h11 => by
            by_cases e : j = i
            · subst e; exact HEQ.out
            · exact HE.out j (by omega) h10 h11)⟩
          case measure => simp only [intOf]; omega
        · have hb9 : (p == q) = false := by simpa using hpq
          have HV : Hid (relH x y = if q < p then 1 else -1) := Lib.hid (by have h9 := relH_first HR0.out (by rw [HXY.out.1, HXY.out.2]; exact HLT.out) H1.out HE.out (by rw [HPQ.out.1, HPQ.out.2]; exact hpq); rw [HPQ.out.1, HPQ.out.2] at h9; exact h9)
          go_wp2_with fail
          by_cases hgt : q < p
          · skip
            have HW : Hid (relH a.x.1 b.x.1 = 1) := Lib.hid (by rw [HEX.out.1, HEX.out.2, HV.out, if_pos hgt])
            clear hpq hb9
            refine wp_region_held_drew (S := fun w' => w' = ((W6.drewN r).drew).drew) (by kernel_rfl) rfl (fun _ => ?_)
            refine tY (i := 0) (some 48) (v := .pointer (some ⟨N1, 11, none⟩)) rfl rfl (fun w' hS => by go_simp) rfl ?_
            simp only [Act.put, pA, pB, pC]
            refine tY (i := 1) (some 49) (v := .slice (some ⟨ga, 0, none⟩) na ca) rfl rfl (fun w' hS => by subst hS; go_simp) rfl ?_
            simp only [Act.put, pA, pB, pC]
            refine tY (i := 2) (some 50) (v := .int .i64 (i : Int)) rfl rfl (fun w' hS => by go_simp) rfl ?_
            simp only [Act.put, pA, pB, pC]
            refine tY (i := 3) (some 51) (v := .pointer (some ⟨ga, i, none⟩)) rfl rfl (fun w' hS => by go_simp) rfl ?_
            simp only [Act.put, pA, pB, pC]
            refine tY (i := 4) (some 52) (v := .int .u8 p) rfl rfl (fun w' hS => by subst hS; go_simp) rfl ?_
            simp only [Act.put, pA, pB, pC]
            refine tY (i := 5) (some 53) (v := .pointer (some ⟨N2, 11, none⟩)) rfl rfl (fun w' hS => by go_simp) rfl ?_
            simp only [Act.put, pA, pB, pC]
            refine tY (i := 6) (some 54) (v := .slice (some ⟨gb, 0, none⟩) nb cb) rfl rfl (fun w' hS => by subst hS; go_simp) rfl ?_
            simp only [Act.put, pA, pB, pC]
            refine tY (i := 7) (some 55) (v := .int .i64 (i : Int)) rfl rfl (fun w' hS => by go_simp) rfl ?_
            simp only [Act.put, pA, pB, pC]
            refine tY (i := 8) (some 56) (v := .pointer (some ⟨gb, i, none⟩)) rfl rfl (fun w' hS => by go_simp) rfl ?_
            simp only [Act.put, pA, pB, pC]
            refine tY (i := 9) (some 57) (v := .int .u8 q) rfl rfl (fun w' hS => by subst hS; go_simp) rfl ?_
            simp only [Act.put, pA, pB, pC]
            refine tY (i := 10) (some 58) (v := .bool true) rfl rfl (fun w' hS => by go_simp; try omega) rfl ?_
            simp only [Act.put, pA, pB, pC]
            refine wpAnyH_done (by kernel_rfl) ?_ _
            go_wp2_with fail
            go_ret
            exact ⟨by rw [HW.out]; rfl, HBr.out (r + 1 + 1)⟩
          · skip
            have HW : Hid (relH a.x.1 b.x.1 = -1) := Lib.hid (by rw [HEX.out.1, HEX.out.2, HV.out, if_neg hgt])
            have hlt9 : p < q := by omega
            clear hpq hb9
            refine wp_region_held_drew (S := fun w' => w' = ((W6.drewN r).drew).drew) (by kernel_rfl) rfl (fun _ => ?_)
            refine tY (i := 0) (some 48) (v := .pointer (some ⟨N1, 11, none⟩)) rfl rfl (fun w' hS => by go_simp) rfl ?_
            simp only [Act.put, pA, pB, pC]
            refine tY (i := 1) (some 49) (v := .slice (some ⟨ga, 0, none⟩) na ca) rfl rfl (fun w' hS => by subst hS; go_simp) rfl ?_
            simp only [Act.put, pA, pB, pC]
            refine tY (i := 2) (some 50) (v := .int .i64 (i : Int)) rfl rfl (fun w' hS => by go_simp) rfl ?_
            simp only [Act.put, pA, pB, pC]
            refine tY (i := 3) (some 51) (v := .pointer (some ⟨ga, i, none⟩)) rfl rfl (fun w' hS => by go_simp) rfl ?_
            simp only [Act.put, pA, pB, pC]
            refine tY (i := 4) (some 52) (v := .int .u8 p) rfl rfl (fun w' hS => by subst hS; go_simp) rfl ?_
            simp only [Act.put, pA, pB, pC]
            refine tY (i := 5) (some 53) (v := .pointer (some ⟨N2, 11, none⟩)) rfl rfl (fun w' hS => by go_simp) rfl ?_
            simp only [Act.put, pA, pB, pC]
            refine tY (i := 6) (some 54) (v := .slice (some ⟨gb, 0, none⟩) nb cb) rfl rfl (fun w' hS => by subst hS; go_simp) rfl ?_
            simp only [Act.put, pA, pB, pC]
            refine tY (i := 7) (some 55) (v := .int .i64 (i : Int)) rfl rfl (fun w' hS => by go_simp) rfl ?_
            simp only [Act.put, pA, pB, pC]
            refine tY (i := 8) (some 56) (v := .pointer (some ⟨gb, i, none⟩)) rfl rfl (fun w' hS => by go_simp) rfl ?_
            simp only [Act.put, pA, pB, pC]
            refine tY (i := 9) (some 57) (v := .int .u8 q) rfl rfl (fun w' hS => by subst hS; go_simp) rfl ?_
            simp only [Act.put, pA, pB, pC]
            refine tY (i := 10) (some 58) (v := .bool false) rfl rfl (fun w' hS => by go_simp; try omega) rfl ?_
            simp only [Act.put, pA, pB, pC]
            refine wpAnyH_done (by kernel_rfl) ?_ _
            go_wp2_with fail
            go_ret
            exact ⟨by rw [HW.out]; rfl, HBr.out (r + 1 + 1)⟩
      · have HEND : Hid (relH a.x.1 b.x.1 = 0) := Lib.hid (by
          have h27 := HG.out.2.1; have h28 := HG.out.2.2.1; obtain ⟨m1, g1⟩ := HG.out.2.2.2.1; obtain ⟨m2, g2⟩ := HG.out.2.2.2.2
          have hn : na = nb := good_len g1 g2 HG.out.1 (fun j hj => HE.out j (by omega) (by omega) (by omega))
          rw [HEX.out.1, HEX.out.2]
          exact relH_none HR0.out (by rw [HXY.out.1, HXY.out.2, hn]) (fun j hj h10 h11 => HE.out j (by rw [HXY.out.1] at hj; omega) h10 h11) (by rw [HXY.out.1]; omega))
        by_cases hla : i < na
        · have hka : (i : Int) < (na : Int) := by omega
          have hkb : ¬ (i : Int) < (nb : Int) := by omega
          go_wp2_with fail
          go_ret
          exact ⟨by rw [HEND.out]; rfl, HBr.out r⟩
        · have hka : ¬ (i : Int) < (na : Int) := by omega
          go_wp2_with fail
          go_ret
          exact ⟨by rw [HEND.out]; rfl, HBr.out r⟩
  · have hne : (re != 0) = true := by simpa using h0
    have HV : Hid (relH a.x.1 b.x.1 = re) := Lib.hid (by rw [← HRE.out]; exact relH_ent (by rw [HRE.out]; exact h0))
    clear h0
    go_wp2_with fail
    go_ret
    exact ⟨by rw [HV.out]; rfl, HB.out⟩
end Go.Proofs.YtkiaijmhoikdiaaGreat

/- The document's insert: one is laid at its place. Each theorem states its conditions. -/
namespace Go.Proofs.YtkiaijmhoikdiaaGreat
open Go.RowKit Go.MapKept
set_option linter.unusedVariables false
set_option linter.unusedSimpArgs false

def idR (r : Rh) : Nat := r.x.1.id
def ltR (h : Rh) (x : Rh) : Bool := decide (idR x < idR h)
def gtR (h : Rh) (x : Rh) : Bool := decide (idR h < idR x)
def insR (R : List Rh) (h : Rh) : List Rh := R.filter (ltR h) ++ ([h] ++ R.filter (gtR h))
def InsP (R : List Rh) (h : Rh) (i : Nat) (dn : Bool) (S : List Rh) : Prop := S = (R.take i).filter (ltR h) ++ ((if dn then [h] else []) ++ (R.take i).filter (gtR h)) ∧ (dn = false → ∀ x ∈ R.take i, idR x < idR h) ∧ (dn = true → ∃ x ∈ R.take i, idR h ≤ idR x)
def AscR (R : List Rh) : Prop := R.Pairwise (fun x y => idR x < idR y)
section
variable {R S : List Rh} {h x : Rh} {i : Nat} {dn : Bool}
theorem no_gt (hl : ∀ x ∈ R.take i, idR x < idR h) : (R.take i).filter (gtR h) = [] := List.filter_eq_nil_iff.2 fun x hx => by
  have := hl x hx
  unfold gtR
  simp
  omega
theorem ins_start : InsP R h 0 false [] := ⟨by simp, fun _ x hx => by simp at hx, fun e => by cases e⟩
theorem take_snoc (hx : R[i]? = some x) : R.take (i + 1) = R.take i ++ [x] := by rw [List.take_add_one, hx]; rfl
theorem ins_lt (hp : InsP R h i false S) (hx : R[i]? = some x) (hl : idR x < idR h) : InsP R h (i + 1) false (S ++ [x]) := by
  obtain ⟨e, h1, _⟩ := hp
  have h1 := h1 rfl
  refine ⟨?_, fun _ y hy => ?_, fun e => by cases e⟩
  · rw [take_snoc hx, List.filter_append, List.filter_append, e, no_gt h1]
    have e1 : ltR h x = true := by unfold ltR; simpa using hl
    have e2 : gtR h x = false := by unfold gtR; simp; omega
    simp [e1, e2]
  · rw [take_snoc hx] at hy
    rcases List.mem_append.1 hy with hy | hy
    · exact h1 y hy
    · obtain rfl := List.mem_singleton.1 hy; exact hl
theorem ins_ge (hp : InsP R h i false S) (hx : R[i]? = some x) (hl : ¬ idR x < idR h) (hne : idR x ≠ idR h) : InsP R h (i + 1) true ((S ++ [h]) ++ [x]) := by
  obtain ⟨e, h1, _⟩ := hp
  have h1 := h1 rfl
  refine ⟨?_, fun e => (by cases e), fun _ => ⟨x, ?_, by omega⟩⟩
  · rw [take_snoc hx, List.filter_append, List.filter_append, e, no_gt h1]
    have e1 : ltR h x = false := by unfold ltR; simpa using hl
    have e2 : gtR h x = true := by unfold gtR; simp; omega
    simp [e1, e2]
  · rw [take_snoc hx]; simp
theorem ins_eq (hp : InsP R h i false S) (hx : R[i]? = some x) (hne : idR x = idR h) : InsP R h (i + 1) true (S ++ [h]) := by
  obtain ⟨e, h1, _⟩ := hp
  have h1 := h1 rfl
  refine ⟨?_, fun e => (by cases e), fun _ => ⟨x, ?_, by omega⟩⟩
  · rw [take_snoc hx, List.filter_append, List.filter_append, e, no_gt h1]
    have e1 : ltR h x = false := by unfold ltR; simp; omega
    have e2 : gtR h x = false := by unfold gtR; simp; omega
    simp [e1, e2]
  · rw [take_snoc hx]; simp
theorem ins_dn (hp : InsP R h i true S) (ha : AscR R) (hx : R[i]? = some x) : idR x ≠ idR h ∧ InsP R h (i + 1) true (S ++ [x]) := by
  obtain ⟨e, _, h2⟩ := hp
  obtain ⟨y, hy, hge⟩ := h2 rfl
  have hlt : idR y < idR x := by
    obtain ⟨j, hj⟩ := List.getElem?_of_mem hy
    have hji : j < i := by
      rcases Nat.lt_or_ge j i with h | h
      · exact h
      · rw [List.getElem?_take_eq_none h] at hj; cases hj
    rw [List.getElem?_take_of_lt hji] at hj
    obtain ⟨hj1, hj2⟩ := List.getElem?_eq_some_iff.1 hj
    obtain ⟨hi1, hi2⟩ := List.getElem?_eq_some_iff.1 hx
    have := List.pairwise_iff_getElem.1 ha j i hj1 hi1 hji
    rw [hj2, hi2] at this
    exact this
  refine ⟨by omega, ?_, fun e => (by cases e), fun _ => ⟨y, ?_, hge⟩⟩
  · rw [take_snoc hx, List.filter_append, List.filter_append, e]
    have e1 : ltR h x = false := by unfold ltR; simp; omega
    have e2 : gtR h x = true := by unfold gtR; simp; omega
    simp [e1, e2]
  · rw [take_snoc hx]; exact List.mem_append.2 (.inl hy)
theorem ins_end_f (hp : InsP R h R.length false S) : insR R h = S ++ [h] := by
  obtain ⟨e, h1, _⟩ := hp
  have h1 := h1 rfl
  have h3 := no_gt h1
  rw [List.take_length] at h3 e
  rw [e]
  unfold insR
  simp [h3]
theorem ins_end_t (hp : InsP R h R.length true S) : insR R h = S := by
  obtain ⟨e, _, _⟩ := hp
  rw [List.take_length] at e
  rw [e]
  unfold insR
  simp
theorem ins_len (hp : InsP R h i dn S) (hi : i ≤ R.length) : S.length ≤ i + 1 := by
  have key : ∀ T : List Rh, (T.filter (ltR h)).length + (T.filter (gtR h)).length ≤ T.length := fun T => by
    induction T with
    | nil => simp
    | cons y T ih =>
      by_cases e1 : ltR h y = true
      · have e2 : gtR h y = false := by unfold ltR at e1; unfold gtR; simp at e1 ⊢; omega
        simp [e1, e2]; omega
      · by_cases e2 : gtR h y = true
        · simp [e1, e2]; omega
        · simp [e1, e2]; omega
  have h1 := key (R.take i)
  rw [hp.1]
  have h2 : (R.take i).length = i := by rw [List.length_take]; omega
  simp only [List.length_append]
  cases dn <;> simp <;> omega
theorem ins_mem (hm : x ∈ insR R h) : x ∈ R ∨ x = h := by
  unfold insR at hm
  rcases List.mem_append.1 hm with hm | hm
  · exact .inl (List.mem_filter.1 hm).1
  · rcases List.mem_append.1 hm with hm | hm
    · exact .inr (List.mem_singleton.1 hm)
    · exact .inl (List.mem_filter.1 hm).1
theorem ins_asc (ha : AscR R) : AscR (insR R h) := by
  unfold AscR insR
  rw [List.pairwise_append]
  refine ⟨List.Pairwise.filter _ ha, ?_, fun a h1 b h2 => ?_⟩
  · rw [List.pairwise_append]
    refine ⟨List.pairwise_singleton _ _, List.Pairwise.filter _ ha, fun a h1 b h2 => ?_⟩
    obtain rfl := List.mem_singleton.1 h1
    have := (List.mem_filter.1 h2).2
    simpa [gtR] using this
  · have h3 : idR a < idR h := by simpa [ltR] using (List.mem_filter.1 h1).2
    rcases List.mem_append.1 h2 with h2 | h2
    · obtain rfl := List.mem_singleton.1 h2; exact h3
    · have h4 : idR h < idR b := by simpa [gtR] using (List.mem_filter.1 h2).2
      omega
end
def SameHR (H : Nat → Option Hd) (R : List Rh) : Prop := AscR R ∧ ∀ i g, H i = some g ↔ ∃ r ∈ R, r.x.1 = g ∧ g.id = i
theorem same_ins {H : Nat → Option Hd} {R : List Rh} {h : Rh} (hs : SameHR H R) : SameHR (putH H h.x.1) (insR R h) := by
  obtain ⟨ha, hm⟩ := hs
  refine ⟨ins_asc ha, fun i g => ?_⟩
  unfold putH
  by_cases e : i = h.x.1.id
  · rw [if_pos e]
    constructor
    · intro hg
      cases hg
      exact ⟨h, by unfold insR; simp, rfl, e.symm⟩
    · rintro ⟨r, hr, rfl, hi⟩
      unfold insR at hr
      rcases List.mem_append.1 hr with hr | hr
      · have : idR r < idR h := by simpa [ltR] using (List.mem_filter.1 hr).2
        unfold idR at this; omega
      · rcases List.mem_append.1 hr with hr | hr
        · rw [List.mem_singleton.1 hr]
        · have : idR h < idR r := by simpa [gtR] using (List.mem_filter.1 hr).2
          unfold idR at this; omega
  · rw [if_neg e, hm]
    constructor
    · rintro ⟨r, hr, rfl, hi⟩
      refine ⟨r, ?_, rfl, hi⟩
      unfold insR
      by_cases hl : r.x.1.id < h.x.1.id
      · exact List.mem_append.2 (.inl (List.mem_filter.2 ⟨hr, by unfold ltR idR; simpa using hl⟩))
      · exact List.mem_append.2 (.inr (List.mem_append.2 (.inr (List.mem_filter.2 ⟨hr, by unfold gtR idR; simp; omega⟩))))
    · rintro ⟨r, hr, rfl, hi⟩
      rcases ins_mem hr with hr | rfl
      · exact ⟨r, hr, rfl, hi⟩
      · exact absurd hi.symm e
theorem bs_rh1 (W : World) (o : Oper) (e : Operand → Value) {x : Operand} (ho : o.op = .buildSlice 27 1 #[(0, x)]) (r : Rh) (h0 : e x = .agg (rhC r)) : (execOp e o).run Tryz.prog W = .ok (.value (.slice (some ⟨W.heap.size, 0, none⟩) 1 1)) (W.alloc (.cells (rhC r) 95)) := by
  unfold execOp
  simp only [ho]
  simp only [List.map_toArray, List.map_cons, List.map_nil, h0]
  kernel_rfl
theorem rh_snoc (S : List Rh) (x : Rh) : ∀ j, j < S.length + 1 → catR (rhA S) S.length (fun _ => rhC x) j = rhA (S ++ [x]) j := by
  intro j hj
  unfold catR rhA
  by_cases h : j < S.length
  · rw [if_pos h, List.getElem?_append_left h]
  · rw [if_neg h, show j = S.length by omega, List.getElem?_append_right (Nat.le_refl _)]
    simp
structure Fr1 (w w' : World) (s : Nat) : Prop where
  os : w'.os = w.os
  tape : w'.tape = w.tape
  output : w'.output = w.output
  size : w.heap.size ≤ w'.heap.size
  block : ∀ i, i < w.heap.size → i ≠ s → w'.heap[i]? = w.heap[i]?
theorem Fr1.below {w w' : World} {s B : Nat} (h : Fr1 w w' s) (hs : B ≤ s) (hB : B ≤ w.heap.size) : Below B w w' := ⟨h.os, h.tape, h.output, h.size, fun i hi => h.block i (by omega) (by omega)⟩
theorem Fr1.of_below {w w' : World} (s : Nat) (h : Below w.heap.size w w') : Fr1 w w' s := ⟨h.os, h.tape, h.output, h.size, fun i hi _ => h.block i hi⟩
theorem Fr1.trans {w w1 w2 : World} {s : Nat} (h : Fr1 w w1 s) (k : Fr1 w1 w2 s) : Fr1 w w2 s := ⟨k.os.trans h.os, k.tape.trans h.tape, k.output.trans h.output, Nat.le_trans h.size k.size, fun i hi h1 => (k.block i (Nat.lt_of_lt_of_le hi h.size) h1).trans (h.block i hi h1)⟩
theorem Fr1.stored {w w' : World} {s : Nat} {C : Array Value} {t : TypeId} (h : Stored w w' s C t) : Fr1 w w' s := ⟨(h.2.1 0 (Nat.zero_le _)).os, (h.2.1 0 (Nat.zero_le _)).tape, (h.2.1 0 (Nat.zero_le _)).output, (h.2.1 0 (Nat.zero_le _)).size, fun i _ hi => h.2.2 i hi⟩
theorem own8_ne {w : World} {g n c s : Nat} {z : Nat → Int} {C : Array Value} (h : Own8 w g n c z) (hs : Blk 29 w s C) : g ≠ s := by
  rintro rfl
  obtain ⟨⟨cur, h1, _⟩, _⟩ := h
  have e2 : w.heap[g]? = _ := hs
  rw [h1] at e2
  injection e2 with e2
  injection e2 with _ e2 _
  exact absurd e2 (by decide)
theorem RhOk.fr1 {w w' : World} {r : Rh} {s : Nat} {C : Array Value} (h : RhOk w r) (hf : Fr1 w w' s) (hs : Blk 29 w s C) : RhOk w' r := ⟨Own8.block h.1 (hf.block _ h.lt (own8_ne h.1 hs)), h.2⟩
theorem info_lr : (Tryz.prog.info? 27).map (·.size) = some 1 := by kernel_rfl
theorem one_lr {A : Option Addr} {n c : Nat} : (#[Value.slice A n c] : Array Value).all (·.oneCell') = true := by kernel_rfl
def InsQ (w : World) (B sr : Nat) (R : List Rh) (h : Rh) (rf : Bool) (e : Ending) (w' : World) : Prop := e = .returned (.tuple #[]) ∧ Fr1 w w' sr ∧ RfAt w' B sr (insR R h) rf
set_option maxHeartbeats 16000000 in
set_option maxRecDepth 100000 in
theorem insert_any (B sr : Nat) (R : List Rh) (h : Rh) (rf : Bool) (w : World) (hst : RfAt w B sr R rf) (hh : RhOk w h) (hg : B ≤ h.g) (ha : AscR R) (hl : R.length ≤ 600) : Calls Tryz.prog 50 #[.pointer (some ⟨sr, 0, none⟩), .agg (rhC h)] w (InsQ w B sr R h rf) := by
  obtain ⟨A, c, hs, hc1, hc2, hrd, _⟩ := hst.open
  have KS := Lib.hid hs
  have KS0 := Lib.hid hs
  have HRD := Lib.hid hrd
  have HOK := Lib.hid hst.ok
  have HHO := Lib.hid (And.intro hh hg)
  have HAS := Lib.hid ha
  have le_B : B ≤ sr := hst.hs
  obtain ⟨m, hm⟩ : ∃ m, R.length = m := ⟨_, rfl⟩
  have HM := Lib.hid hm
  rw [hm] at HRD KS
  have hm6 : m ≤ 600 := by omega
  have hmI : (m : Int) ≤ 9223372036854775807 := by omega
  clear hst hh hg ha hs hrd hm hc1 hc2 hl
  go_enter Tryz.func50, Tryz.ntmps50
  have HB := Lib.hid (Below.refl w.heap.size w)
  obtain ⟨N1, hN1⟩ : ∃ N, w.heap.size = N := ⟨_, rfl⟩
  have HN1 := Lib.hid hN1
  clear hN1
  go_wp2_with (refine wpList_box (op := ⟨some 3, _, _, _, _, _⟩) rfl 95 (.tmp 1) rfl (rhC h) rfl N1 HN1.out ?_; intro w1 k1 b1 s1; refine Hid.out ?_)
  refine Lib.hid ?_
  have K3 := Lib.hid k1
  clear k1
  have lt_sr_N1 : sr < N1 := by rw [← HN1.out]; exact KS.out.lt
  have le_HB_N1 : w.heap.size ≤ N1 := by rw [← HN1.out]; exact HB.out.size
  replace KS := Lib.hid (KS.out.below b1 KS.out.lt)
  replace HB := Lib.hid (HB.out.trans (b1.mono HB.out.size))
  clear b1 HN1
  have c0 : w1.cell? ⟨sr, 0, none⟩ = some (.slice A m c) := (KS.out.cell 0).trans rfl
  go_wp2_with fail
  clear c0
  obtain ⟨BL, hBL⟩ : ∃ N, w1.heap.size = N := ⟨_, rfl⟩
  have HBL := Lib.hid hBL
  have le_BL : w.heap.size ≤ BL := by rw [← hBL]; exact HB.out.size
  have lt_sr : sr < BL := by rw [← hBL]; exact KS.out.lt
  clear hBL
  go_loopw [4, 5, 13] (fun v d t wr => ∃ (i : Nat) (dn : Bool) (S : List Rh), i ≤ m ∧ t = .int .i64 i ∧ d = .bool dn ∧ Hid (OwnR wr BL 95 13 v S.length (rhA S)) ∧ Hid (Below BL w1 wr) ∧ Hid (InsP R h i dn S)) (fun _ _ t _ => m - (intOf t).toNat)
  case atStart => exact ⟨0, false, [], by omega, rfl, rfl, Lib.hid (OwnR.nil _ _ _ _ _), Lib.hid (Below.refl _ _), Lib.hid ins_start⟩
  case round =>
    obtain ⟨i, dn, S, hi, rfl, rfl, HO, HQ, HP⟩ := hrel
    have HSL : Hid (S.length ≤ 601) := Lib.hid (by have := ins_len HP.out (by rw [HM.out]; exact hi); omega)
    by_cases hlt : i < m
    · have hki : (i : Int) < (m : Int) := by omega
      obtain ⟨bA, off, rfl, hr⟩ := HRD.out.row (by omega)
      obtain ⟨r, hx⟩ : ∃ r, R[i]? = some r := ⟨_, List.getElem?_eq_getElem (by rw [HM.out]; exact hlt)⟩
      have HX := Lib.hid hx
      have h1 : Hid (wr.rangeAt bA (off + i * 13) (rhC r).toList) := Lib.hid (by have h9 := rangeAt_below (rangeAt_below (hr.2 i hlt) HB.out hr.1) HQ.out (by have := hr.1; omega); rw [rhA_at R i r hx] at h9; exact h9)
      clear hr hx
      go_wp2_with (refine wpList_ld (op := ⟨some 16, _, _, _, _, _⟩) (by rfl) 95 (.tmp 15) rfl bA (off + i * 13) rfl (rhC r) _ h1.out Tryz.underlying95 rfl info_rh ?_; refine Hid.out ?_)
      refine Lib.hid ?_
      clear h1
      obtain ⟨N7, hN7⟩ : ∃ N, wr.heap.size = N := ⟨_, rfl⟩
      have HN7 := Lib.hid hN7
      have HNE0 := Lib.hid (fun e => Nat.lt_irrefl _ (Nat.lt_of_lt_of_eq ((HO.out.lt N7 e).2) hN7))
      have le_7 : BL ≤ N7 := by rw [← hN7]; have := HQ.out.size; rw [HBL.out] at this; exact this
      clear hN7
      go_wp2_with (refine wpList_new (op := ⟨some 7, _, _, _, _, _⟩) rfl 95 rfl rhZ zero_rh N7 HN7.out ?_; intro w5 k1 b1 s9; refine Hid.out ?_)
      refine Lib.hid ?_
      have K7 := Lib.hid k1
      have HB1 := Lib.hid b1
      clear k1 b1 s9
      go_wp2_with (refine wpList_st rfl 95 (.tmp 7) (.tmp 16) rfl N7 0 rfl (.agg (rhC r)) (rhC r) rfl rfl info_rh (rhC_one _) K7.out (Nat.le_of_ble_eq_true rfl) (C' := rhC r) (rh_overZ _) ?_; intro w6 q1; refine Hid.out ?_)
      refine Lib.hid ?_
      have b1 : Below wr.heap.size wr w6 := HB1.out.trans (q1.2.1 _ (by rw [HN7.out]; exact Nat.le_refl _))
      replace K7 : Hid (Blk 95 w6 N7 (rhC r)) := Lib.hid q1.1
      clear q1 HB1 HN7
      replace HO := Lib.hid (HO.out.below b1)
      replace HQ := Lib.hid (HQ.out.trans (b1.mono (by have := HQ.out.size; rw [HBL.out] at this; exact this)))
      clear b1
      cases dn with
      | false =>
        have K3w := Lib.hid (K3.out.below HQ.out (by rw [← HBL.out]; exact K3.out.lt))
        go_wp2_with (refine wpList_ld (op := ⟨some 21, _, _, _, _, _⟩) (by rfl) 35 (.tmp 20) rfl N7 0 rfl (iC r.x.1.id) _ (rh_id K7.out) Tryz.underlying35 rfl info_iC ?_; refine Hid.out ?_)
        refine Lib.hid ?_
        go_wp2_with (refine wpList_ld (op := ⟨some 23, _, _, _, _, _⟩) (by rfl) 35 (.tmp 22) rfl N1 0 rfl (iC h.x.1.id) _ (rh_id K3w.out) Tryz.underlying35 rfl info_iC ?_; refine Hid.out ?_)
        refine Lib.hid ?_
        go_wp2_with fail
        refine (less_any r.x.1.id h.x.1.id w6 r.x.2 h.x.2).mono ?_
        rintro e w7 ⟨rfl, b1⟩
        replace HO := Lib.hid (HO.out.below b1)
        replace HQ := Lib.hid (HQ.out.trans (b1.mono (by have := HQ.out.size; rw [HBL.out] at this; exact this)))
        replace K7 := Lib.hid (K7.out.below b1 K7.out.lt)
        have K3n := Lib.hid (K3w.out.below b1 K3w.out.lt)
        clear K3w
        have K3w := K3n
        clear K3n b1
        by_cases hl : r.x.1.id < h.x.1.id
        · have hd : decide (r.x.1.id < h.x.1.id) = true := by simpa using hl
          have HL := Lib.hid hl
          rw [hd]
          clear hl hd
          go_upto_region 9 with (fail)
          go_wp2_with (refine wpList_ld (op := ⟨some 32, _, _, _, _, _⟩) (by rfl) 35 (.tmp 31) rfl N7 0 rfl (iC r.x.1.id) _ (rh_id K7.out) Tryz.underlying35 rfl info_iC ?_; refine Hid.out ?_)
          refine Lib.hid ?_
          go_wp2_with (refine wpList_ld (op := ⟨some 34, _, _, _, _, _⟩) (by rfl) 35 (.tmp 33) rfl N1 0 rfl (iC h.x.1.id) _ (rh_id K3w.out) Tryz.underlying35 rfl info_iC ?_; refine Hid.out ?_)
          refine Lib.hid ?_
          go_wp2_with (refine wpList_v (op := ⟨some 35, _, _, _, _, _⟩) rfl (.bool true) ((neq_id _ _ _ _ _ rfl rfl r.x.1.id h.x.1.id r.x.2 h.x.2 rfl rfl _).trans (by rw [beq_eq_false_iff_ne.2 (fun e => by have := HL.out; omega)]; rfl)) ?_; refine Hid.out ?_)
          refine Lib.hid ?_
          go_wp2_with (refine wpList_ld (op := ⟨some 37, _, _, _, _, _⟩) (by rfl) 95 (.tmp 7) rfl N7 0 rfl (rhC r) _ K7.out.all Tryz.underlying95 rfl info_rh ?_; refine Hid.out ?_)
          refine Lib.hid ?_
          obtain ⟨Pa, hPa⟩ : ∃ N, w7.heap.size = N := ⟨_, rfl⟩
          have HPa := Lib.hid hPa
          clear hPa
          go_wp2_with (refine wpList_bsn (op := ⟨some 38, _, _, _, _, _⟩) 1 rfl 95 (rhC r) (bs_rh1 _ _ _ rfl r rfl) Pa HPa.out ?_; intro awa k1 b1 s9; refine Hid.out ?_)
          refine Lib.hid ?_
          have HRR : Hid (RdR awa (some ⟨Pa, 0, none⟩) 1 13 (fun _ => rhC r)) := Lib.hid (rdR_blk k1)
          clear k1 s9
          replace HO := Lib.hid (HO.out.below b1)
          replace HQ := Lib.hid (HQ.out.trans (b1.mono (by have := HQ.out.size; rw [HBL.out] at this; exact this)))
          clear b1 K7 K3w
          have hml : maxLen = 9223372036854775807 := rfl
          have HMLa := Lib.hid hml
          clear hml
          have HZa : Hid (BL ≤ awa.heap.size) := Lib.hid (by have := HQ.out.size; rw [HBL.out] at this; exact this)
          go_wp2_with (at_builtin; refine app_Y 27 95 13 56 _ Tryz.underlying27 infoA_rh rfl (by decide) rfl (.tmp 36) (.tmp 38) rfl BL _ (S).length (rhA (S)) rfl HO.out HZa.out ⟨Pa, 0, none⟩ 1 1 (fun _ => rhC r) rfl HRR.out (fun _ => ⟨rfl, rhC_ones _⟩) (by have := HSL.out; rw [HMLa.out]; (try simp only [List.length_append, List.length_singleton]); omega) (by have := HSL.out; (try simp only [List.length_append, List.length_singleton]); omega) ?_; intro va ca ho9 hg9 hk9; refine Hid.out ?_)
          refine Lib.hid ?_
          have HOn : Hid (OwnR ca BL 95 13 va ((S) ++ [r]).length (rhA ((S) ++ [r]))) := Lib.hid (by rw [List.length_append]; exact OwnR.congr ho9 (fun j hj => rh_snoc _ _ j hj))
          have HQn : Hid (Below BL w1 ca) := Lib.hid (HQ.out.grown hg9 HZa.out (fun k e => hk9 k e))
          clear HO HQ ho9 hg9 hk9 HRR
          have HO := HOn
          have HQ := HQn
          clear HOn HQn
          go_wp2_with fail
          go_roundw
          case rel => exact ⟨i + 1, false, S ++ [r], by omega, by go_num, rfl, HO, HQ, Lib.hid (ins_lt HP.out HX.out HL.out)⟩
          case measure => simp only [intOf]; omega
        · have hd : decide (r.x.1.id < h.x.1.id) = false := by simpa using hl
          have HL := Lib.hid hl
          rw [hd]
          clear hl hd
          go_wp2_with (refine wpList_ld (op := ⟨some 28, _, _, _, _, _⟩) (by rfl) 95 (.tmp 3) rfl N1 0 rfl (rhC h) _ K3w.out.all Tryz.underlying95 rfl info_rh ?_; refine Hid.out ?_)
          refine Lib.hid ?_
          obtain ⟨Pb, hPb⟩ : ∃ N, w7.heap.size = N := ⟨_, rfl⟩
          have HPb := Lib.hid hPb
          clear hPb
          go_wp2_with (refine wpList_bsn (op := ⟨some 29, _, _, _, _, _⟩) 1 rfl 95 (rhC h) (bs_rh1 _ _ _ rfl h rfl) Pb HPb.out ?_; intro awb k1 b1 s9; refine Hid.out ?_)
          refine Lib.hid ?_
          have HRR : Hid (RdR awb (some ⟨Pb, 0, none⟩) 1 13 (fun _ => rhC h)) := Lib.hid (rdR_blk k1)
          clear k1 s9
          replace HO := Lib.hid (HO.out.below b1)
          replace HQ := Lib.hid (HQ.out.trans (b1.mono (by have := HQ.out.size; rw [HBL.out] at this; exact this)))
          replace K7 := Lib.hid (K7.out.below b1 K7.out.lt)
          clear b1
          have HNE := Lib.hid (HNE0.out)
          have hml : maxLen = 9223372036854775807 := rfl
          have HMLb := Lib.hid hml
          clear hml
          have HZb : Hid (BL ≤ awb.heap.size) := Lib.hid (by have := HQ.out.size; rw [HBL.out] at this; exact this)
          go_wp2_with (at_builtin; refine app_Y 27 95 13 56 _ Tryz.underlying27 infoA_rh rfl (by decide) rfl (.tmp 27) (.tmp 29) rfl BL _ (S).length (rhA (S)) rfl HO.out HZb.out ⟨Pb, 0, none⟩ 1 1 (fun _ => rhC h) rfl HRR.out (fun _ => ⟨rfl, rhC_ones _⟩) (by have := HSL.out; rw [HMLb.out]; (try simp only [List.length_append, List.length_singleton]); omega) (by have := HSL.out; (try simp only [List.length_append, List.length_singleton]); omega) ?_; intro vb cb ho9 hg9 hk9; refine Hid.out ?_)
          refine Lib.hid ?_
          have K7n : Hid (Blk 95 cb N7 (rhC r)) := Lib.hid ((hg9.block N7 K7.out.lt (fun e => HNE.out e.symm)).trans K7.out)
          have HOn : Hid (OwnR cb BL 95 13 vb ((S) ++ [h]).length (rhA ((S) ++ [h]))) := Lib.hid (by rw [List.length_append]; exact OwnR.congr ho9 (fun j hj => rh_snoc _ _ j hj))
          have HQn : Hid (Below BL w1 cb) := Lib.hid (HQ.out.grown hg9 HZb.out (fun k e => hk9 k e))
          clear HO HQ ho9 hg9 hk9 HRR K7 HNE
          have K7 := K7n
          clear K7n
          have HO := HOn
          have HQ := HQn
          clear HOn HQn
          clear K3w
          go_upto_region 9 with (fail)
          have K3x := Lib.hid (K3.out.below HQ.out (by rw [← HBL.out]; exact K3.out.lt))
          go_wp2_with (refine wpList_ld (op := ⟨some 32, _, _, _, _, _⟩) (by rfl) 35 (.tmp 31) rfl N7 0 rfl (iC r.x.1.id) _ (rh_id K7.out) Tryz.underlying35 rfl info_iC ?_; refine Hid.out ?_)
          refine Lib.hid ?_
          go_wp2_with (refine wpList_ld (op := ⟨some 34, _, _, _, _, _⟩) (by rfl) 35 (.tmp 33) rfl N1 0 rfl (iC h.x.1.id) _ (rh_id K3x.out) Tryz.underlying35 rfl info_iC ?_; refine Hid.out ?_)
          refine Lib.hid ?_
          by_cases he : r.x.1.id = h.x.1.id
          · have HE := Lib.hid he
            clear he
            go_wp2_with (refine wpList_v (op := ⟨some 35, _, _, _, _, _⟩) rfl (.bool false) ((neq_id _ _ _ _ _ rfl rfl r.x.1.id h.x.1.id r.x.2 h.x.2 rfl rfl _).trans (by rw [beq_iff_eq.2 HE.out]; rfl)) ?_; refine Hid.out ?_)
            refine Lib.hid ?_
            go_wp2_with fail
            go_roundw
            case rel => exact ⟨i + 1, true, S ++ [h], by omega, by go_num, rfl, HO, HQ, Lib.hid (ins_eq HP.out HX.out HE.out)⟩
            case measure => simp only [intOf]; omega
          · have HE := Lib.hid he
            clear he
            go_wp2_with (refine wpList_v (op := ⟨some 35, _, _, _, _, _⟩) rfl (.bool true) ((neq_id _ _ _ _ _ rfl rfl r.x.1.id h.x.1.id r.x.2 h.x.2 rfl rfl _).trans (by rw [beq_eq_false_iff_ne.2 HE.out]; rfl)) ?_; refine Hid.out ?_)
            refine Lib.hid ?_
            go_wp2_with (refine wpList_ld (op := ⟨some 37, _, _, _, _, _⟩) (by rfl) 95 (.tmp 7) rfl N7 0 rfl (rhC r) _ K7.out.all Tryz.underlying95 rfl info_rh ?_; refine Hid.out ?_)
            refine Lib.hid ?_
            obtain ⟨Pd, hPd⟩ : ∃ N, cb.heap.size = N := ⟨_, rfl⟩
            have HPd := Lib.hid hPd
            clear hPd
            go_wp2_with (refine wpList_bsn (op := ⟨some 38, _, _, _, _, _⟩) 1 rfl 95 (rhC r) (bs_rh1 _ _ _ rfl r rfl) Pd HPd.out ?_; intro awd k1 b1 s9; refine Hid.out ?_)
            refine Lib.hid ?_
            have HRR : Hid (RdR awd (some ⟨Pd, 0, none⟩) 1 13 (fun _ => rhC r)) := Lib.hid (rdR_blk k1)
            clear k1 s9
            replace HO := Lib.hid (HO.out.below b1)
            replace HQ := Lib.hid (HQ.out.trans (b1.mono (by have := HQ.out.size; rw [HBL.out] at this; exact this)))
            clear b1 K7 K3x
            have hml : maxLen = 9223372036854775807 := rfl
            have HMLd := Lib.hid hml
            clear hml
            have HZd : Hid (BL ≤ awd.heap.size) := Lib.hid (by have := HQ.out.size; rw [HBL.out] at this; exact this)
            go_wp2_with (at_builtin; refine app_Y 27 95 13 56 _ Tryz.underlying27 infoA_rh rfl (by decide) rfl (.tmp 36) (.tmp 38) rfl BL _ (S ++ [h]).length (rhA (S ++ [h])) rfl HO.out HZd.out ⟨Pd, 0, none⟩ 1 1 (fun _ => rhC r) rfl HRR.out (fun _ => ⟨rfl, rhC_ones _⟩) (by have := HSL.out; rw [HMLd.out]; (try simp only [List.length_append, List.length_singleton]); omega) (by have := HSL.out; (try simp only [List.length_append, List.length_singleton]); omega) ?_; intro vd cd ho9 hg9 hk9; refine Hid.out ?_)
            refine Lib.hid ?_
            have HOn : Hid (OwnR cd BL 95 13 vd ((S ++ [h]) ++ [r]).length (rhA ((S ++ [h]) ++ [r]))) := Lib.hid (by rw [List.length_append]; exact OwnR.congr ho9 (fun j hj => rh_snoc _ _ j hj))
            have HQn : Hid (Below BL w1 cd) := Lib.hid (HQ.out.grown hg9 HZd.out (fun k e => hk9 k e))
            clear HO HQ ho9 hg9 hk9 HRR
            have HO := HOn
            have HQ := HQn
            clear HOn HQn
            go_wp2_with fail
            go_roundw
            case rel => exact ⟨i + 1, true, (S ++ [h]) ++ [r], by omega, by go_num, rfl, HO, HQ, Lib.hid (ins_ge HP.out HX.out HL.out HE.out)⟩
            case measure => simp only [intOf]; omega
      | true =>
        have HD := Lib.hid (ins_dn HP.out HAS.out HX.out)
        have K3w := Lib.hid (K3.out.below HQ.out (by rw [← HBL.out]; exact K3.out.lt))
        go_upto_region 9 with (fail)
        go_wp2_with (refine wpList_ld (op := ⟨some 32, _, _, _, _, _⟩) (by rfl) 35 (.tmp 31) rfl N7 0 rfl (iC r.x.1.id) _ (rh_id K7.out) Tryz.underlying35 rfl info_iC ?_; refine Hid.out ?_)
        refine Lib.hid ?_
        go_wp2_with (refine wpList_ld (op := ⟨some 34, _, _, _, _, _⟩) (by rfl) 35 (.tmp 33) rfl N1 0 rfl (iC h.x.1.id) _ (rh_id K3w.out) Tryz.underlying35 rfl info_iC ?_; refine Hid.out ?_)
        refine Lib.hid ?_
        go_wp2_with (refine wpList_v (op := ⟨some 35, _, _, _, _, _⟩) rfl (.bool true) ((neq_id _ _ _ _ _ rfl rfl r.x.1.id h.x.1.id r.x.2 h.x.2 rfl rfl _).trans (by rw [beq_eq_false_iff_ne.2 (show r.x.1.id ≠ h.x.1.id from HD.out.1)]; rfl)) ?_; refine Hid.out ?_)
        refine Lib.hid ?_
        go_wp2_with (refine wpList_ld (op := ⟨some 37, _, _, _, _, _⟩) (by rfl) 95 (.tmp 7) rfl N7 0 rfl (rhC r) _ K7.out.all Tryz.underlying95 rfl info_rh ?_; refine Hid.out ?_)
        refine Lib.hid ?_
        obtain ⟨Pt, hPt⟩ : ∃ N, w6.heap.size = N := ⟨_, rfl⟩
        have HPt := Lib.hid hPt
        clear hPt
        go_wp2_with (refine wpList_bsn (op := ⟨some 38, _, _, _, _, _⟩) 1 rfl 95 (rhC r) (bs_rh1 _ _ _ rfl r rfl) Pt HPt.out ?_; intro awt k1 b1 s9; refine Hid.out ?_)
        refine Lib.hid ?_
        have HRR : Hid (RdR awt (some ⟨Pt, 0, none⟩) 1 13 (fun _ => rhC r)) := Lib.hid (rdR_blk k1)
        clear k1 s9
        replace HO := Lib.hid (HO.out.below b1)
        replace HQ := Lib.hid (HQ.out.trans (b1.mono (by have := HQ.out.size; rw [HBL.out] at this; exact this)))
        clear b1 K7 K3w
        have hml : maxLen = 9223372036854775807 := rfl
        have HMLt := Lib.hid hml
        clear hml
        have HZt : Hid (BL ≤ awt.heap.size) := Lib.hid (by have := HQ.out.size; rw [HBL.out] at this; exact this)
        go_wp2_with (at_builtin; refine app_Y 27 95 13 56 _ Tryz.underlying27 infoA_rh rfl (by decide) rfl (.tmp 36) (.tmp 38) rfl BL _ (S).length (rhA (S)) rfl HO.out HZt.out ⟨Pt, 0, none⟩ 1 1 (fun _ => rhC r) rfl HRR.out (fun _ => ⟨rfl, rhC_ones _⟩) (by have := HSL.out; rw [HMLt.out]; (try simp only [List.length_append, List.length_singleton]); omega) (by have := HSL.out; (try simp only [List.length_append, List.length_singleton]); omega) ?_; intro vt ct ho9 hg9 hk9; refine Hid.out ?_)
        refine Lib.hid ?_
        have HOn : Hid (OwnR ct BL 95 13 vt ((S) ++ [r]).length (rhA ((S) ++ [r]))) := Lib.hid (by rw [List.length_append]; exact OwnR.congr ho9 (fun j hj => rh_snoc _ _ j hj))
        have HQn : Hid (Below BL w1 ct) := Lib.hid (HQ.out.grown hg9 HZt.out (fun k e => hk9 k e))
        clear HO HQ ho9 hg9 hk9 HRR
        have HO := HOn
        have HQ := HQn
        clear HOn HQn
        go_wp2_with fail
        go_roundw
        case rel => exact ⟨i + 1, true, S ++ [r], by omega, by go_num, rfl, HO, HQ, Lib.hid HD.out.2⟩
        case measure => simp only [intOf]; omega
    · obtain rfl : m = i := by omega
      cases dn with
      | false =>
        have K3w := Lib.hid (K3.out.below HQ.out (by rw [← HBL.out]; exact K3.out.lt))
        go_wp2_with (refine wpList_ld (op := ⟨some 44, _, _, _, _, _⟩) (by rfl) 95 (.tmp 3) rfl N1 0 rfl (rhC h) _ K3w.out.all Tryz.underlying95 rfl info_rh ?_; refine Hid.out ?_)
        refine Lib.hid ?_
        obtain ⟨Pp, hPp⟩ : ∃ N, wr.heap.size = N := ⟨_, rfl⟩
        have HPp := Lib.hid hPp
        clear hPp
        go_wp2_with (refine wpList_bsn (op := ⟨some 45, _, _, _, _, _⟩) 1 rfl 95 (rhC h) (bs_rh1 _ _ _ rfl h rfl) Pp HPp.out ?_; intro awp k1 b1 s9; refine Hid.out ?_)
        refine Lib.hid ?_
        have HRR : Hid (RdR awp (some ⟨Pp, 0, none⟩) 1 13 (fun _ => rhC h)) := Lib.hid (rdR_blk k1)
        clear k1 s9
        replace HO := Lib.hid (HO.out.below b1)
        replace HQ := Lib.hid (HQ.out.trans (b1.mono (by have := HQ.out.size; rw [HBL.out] at this; exact this)))
        clear b1 K3w
        have hml : maxLen = 9223372036854775807 := rfl
        have HMLp := Lib.hid hml
        clear hml
        have HZp : Hid (BL ≤ awp.heap.size) := Lib.hid (by have := HQ.out.size; rw [HBL.out] at this; exact this)
        go_wp2_with (at_builtin; refine app_Y 27 95 13 56 _ Tryz.underlying27 infoA_rh rfl (by decide) rfl (.tmp 43) (.tmp 45) rfl BL _ (S).length (rhA (S)) rfl HO.out HZp.out ⟨Pp, 0, none⟩ 1 1 (fun _ => rhC h) rfl HRR.out (fun _ => ⟨rfl, rhC_ones _⟩) (by have := HSL.out; rw [HMLp.out]; (try simp only [List.length_append, List.length_singleton]); omega) (by have := HSL.out; (try simp only [List.length_append, List.length_singleton]); omega) ?_; intro vp cp ho9 hg9 hk9; refine Hid.out ?_)
        refine Lib.hid ?_
        have HOn : Hid (OwnR cp BL 95 13 vp ((S) ++ [h]).length (rhA ((S) ++ [h]))) := Lib.hid (by rw [List.length_append]; exact OwnR.congr ho9 (fun j hj => rh_snoc _ _ j hj))
        have HQn : Hid (Below BL w1 cp) := Lib.hid (HQ.out.grown hg9 HZp.out (fun k e => hk9 k e))
        clear HO HQ ho9 hg9 hk9 HRR
        have HO := HOn
        have HQ := HQn
        clear HOn HQn
        have KSw := Lib.hid (KS.out.below HQ.out (by rw [← HBL.out]; exact KS.out.lt))
        go_upto_region 14 with (fail)
        obtain ⟨A9, c9, e9, _⟩ := HO.out.shape (recs_rh _) (by decide)
        subst e9
        go_wp2_with (refine wpList_st rfl 27 (.tmp 50) (.tmp 48) rfl sr 0 rfl (.slice A9 ((S ++ [h])).length c9) #[.slice A9 ((S ++ [h])).length c9] rfl rfl info_lr one_lr KSw.out (Nat.le_of_ble_eq_true rfl) (C' := #[.slice A9 ((S ++ [h])).length c9, .bool rf]) rfl ?_; intro wz q1; refine Hid.out ?_)
        refine Lib.hid ?_
        have HF1 : Hid (Fr1 w cp sr) := Lib.hid (Fr1.of_below sr (HB.out.trans (HQ.out.mono le_BL)))
        have HFZ : Hid (Fr1 w wz sr) := Lib.hid (HF1.out.trans (Fr1.stored q1))
        have HOz : Hid (OwnR wz BL 95 13 (.slice A9 ((S ++ [h])).length c9) ((S ++ [h])).length (rhA ((S ++ [h])))) := Lib.hid (by
          rcases HO.out with ⟨o1, o2 | ⟨g9, cap9, cur9, o2, o3, o4, rest⟩⟩
          · exact ⟨o1, .inl o2⟩
          · exact ⟨o1, .inr ⟨g9, cap9, cur9, o2, o3, (q1.2.2 g9 (by omega)).trans o4, rest⟩⟩)
        have HSz : Hid (Blk 29 wz sr #[.slice A9 ((S ++ [h])).length c9, .bool rf]) := Lib.hid q1.1
        clear q1 HO HQ KSw
        go_wp2_with fail
        go_end0
        have e8 : insR R h = (S ++ [h]) := ins_end_f (by rw [HM.out]; exact HP.out)
        refine ⟨rfl, HFZ.out, le_B, fun x hx => ?_, ?_⟩
        · have hbs : Blk 29 w sr _ := KS0.out
          rcases ins_mem hx with hx | rfl
          · exact ⟨(HOK.out x hx).1.fr1 HFZ.out hbs, (HOK.out x hx).2⟩
          · exact ⟨HHO.out.1.fr1 HFZ.out hbs, HHO.out.2⟩
        · rw [e8]
          exact ⟨_, HSz.out, HOz.out.mono (by omega)⟩
      | true =>
        have KSw := Lib.hid (KS.out.below HQ.out (by rw [← HBL.out]; exact KS.out.lt))
        go_upto_region 14 with (fail)
        obtain ⟨A9, c9, e9, _⟩ := HO.out.shape (recs_rh _) (by decide)
        subst e9
        go_wp2_with (refine wpList_st rfl 27 (.tmp 50) (.tmp 48) rfl sr 0 rfl (.slice A9 (S).length c9) #[.slice A9 (S).length c9] rfl rfl info_lr one_lr KSw.out (Nat.le_of_ble_eq_true rfl) (C' := #[.slice A9 (S).length c9, .bool rf]) rfl ?_; intro wz q1; refine Hid.out ?_)
        refine Lib.hid ?_
        have HF1 : Hid (Fr1 w wr sr) := Lib.hid (Fr1.of_below sr (HB.out.trans (HQ.out.mono le_BL)))
        have HFZ : Hid (Fr1 w wz sr) := Lib.hid (HF1.out.trans (Fr1.stored q1))
        have HOz : Hid (OwnR wz BL 95 13 (.slice A9 (S).length c9) (S).length (rhA (S))) := Lib.hid (by
          rcases HO.out with ⟨o1, o2 | ⟨g9, cap9, cur9, o2, o3, o4, rest⟩⟩
          · exact ⟨o1, .inl o2⟩
          · exact ⟨o1, .inr ⟨g9, cap9, cur9, o2, o3, (q1.2.2 g9 (by omega)).trans o4, rest⟩⟩)
        have HSz : Hid (Blk 29 wz sr #[.slice A9 (S).length c9, .bool rf]) := Lib.hid q1.1
        clear q1 HO HQ KSw
        go_wp2_with fail
        go_end0
        have e8 : insR R h = S := ins_end_t (by rw [HM.out]; exact HP.out)
        refine ⟨rfl, HFZ.out, le_B, fun x hx => ?_, ?_⟩
        · have hbs : Blk 29 w sr _ := KS0.out
          rcases ins_mem hx with hx | rfl
          · exact ⟨(HOK.out x hx).1.fr1 HFZ.out hbs, (HOK.out x hx).2⟩
          · exact ⟨HHO.out.1.fr1 HFZ.out hbs, HHO.out.2⟩
        · rw [e8]
          exact ⟨_, HSz.out, HOz.out.mono (by omega)⟩
end Go.Proofs.YtkiaijmhoikdiaaGreat

/- A delete within a range over the map. Each theorem states its conditions. -/
namespace Go.Proofs.YtkiaijmhoikdiaaGreat
open Go.RowKit Go.MapKept
open Go.ChangeMaps (setBlock)
set_option linter.unusedVariables false
set_option linter.unusedSimpArgs false

def Sub (w w' : World) (b : Nat) : Prop := ∃ es cl es', w.heap[b]? = some (.map es cl) ∧ w'.heap[b]? = some (.map es' cl) ∧ es'.toList.Sublist es.toList
theorem map_dropD {w : World} {b k : Nat} {M : Nat → Option Nat} (h : MapAt w b M k) {n : Nat} (hn : IdOk n) (ty : TypeId) : ∃ w', (Builtin.delete_ #[74, 35] ty #[.map (some b), .agg (iC n)]).run Tryz.prog w = .ok (.tuple #[]) w' ∧ MapAt w' b (putM M n none) (if (M n).isSome then k - 1 else k) ∧ Turn w w' b ∧ Sub w w' b := by
  obtain ⟨es, clock, hb, hst, hsz, h1, h2⟩ := h
  obtain ⟨l, hl⟩ := id_key n
  rcases idKeyed.find w hl es.toList (mkeys_of h1) with ⟨f1, f2⟩ | ⟨j, e0, f1, f2, f3⟩
  · have hN : M n = none := by
      cases e : M n with
      | none => rfl
      | some g => obtain ⟨_, x, hx, hk, _⟩ := h2 n g e; exact absurd hk (f2 x hx)
    refine ⟨setBlock w b (.map es clock), ?_, ⟨es, clock, ChangeMaps.heap_setBlock_same hb _, hst, by rw [hN]; exact hsz, ?_, ?_⟩, ⟨_, _, _, _, hb, rfl⟩, ⟨es, clock, es, hb, ChangeMaps.heap_setBlock_same hb _, List.Sublist.refl _⟩⟩
    · simp [Builtin.delete_, run_underlying Tryz.underlying74, MapKept.run_getObj_map hb, idKeyed.check w _ hl, f1, MapKept.run_setObj_map _ hb, Result.andThen, setBlock]
    · intro e he
      obtain ⟨y, g, y1, y2, y3, y4⟩ := h1 e he
      refine ⟨y, g, y1, y2, y3, ?_⟩
      unfold putM
      rw [if_neg (fun e1 => by subst e1; exact f2 e he y2)]; exact y4
    · intro y g hy
      unfold putM at hy
      by_cases e : y = n
      · rw [if_pos e] at hy; cases hy
      · rw [if_neg e] at hy; exact h2 y g hy
  · have hm0 : e0 ∈ es.toList := List.mem_of_getElem? f2
    obtain ⟨m, g0, m1, m2, m3, m4⟩ := h1 e0 hm0
    have hmn : m = n := idC_inj m1 hn ((Value.agg.inj (f3.symm.trans m2)).symm)
    subst hmn
    have hjl : j < es.toList.length := (List.getElem?_eq_some_iff.1 f2).1
    have hjs : j < es.size := by simpa using hjl
    have hsub : (es.eraseIdxIfInBounds j).toList = es.toList.eraseIdx j := by
      unfold Array.eraseIdxIfInBounds
      rw [dif_pos hjs]
      simp
    have hsz' : (es.eraseIdxIfInBounds j).size = k - 1 := by
      rw [← Array.length_toList, hsub, List.length_eraseIdx_of_lt hjl, Array.length_toList, hsz]
    have hap : es.toList.Pairwise (fun x y => x.key ≠ y.key) := ((stamped_iff es clock).1 hst).2.2
    refine ⟨setBlock w b (.map (es.eraseIdxIfInBounds j) clock), ?_, ⟨_, clock, ChangeMaps.heap_setBlock_same hb _, stamped_erase hst j, by rw [m4]; exact hsz', ?_, ?_⟩, ⟨_, _, _, _, hb, rfl⟩, ⟨es, clock, es.eraseIdxIfInBounds j, hb, ChangeMaps.heap_setBlock_same hb _, by rw [hsub]; exact List.eraseIdx_sublist _ _⟩⟩
    · simp [Builtin.delete_, run_underlying Tryz.underlying74, MapKept.run_getObj_map hb, idKeyed.check w _ hl, f1, MapKept.run_setObj_map _ hb, Result.andThen, setBlock]
    · intro e he
      rw [hsub] at he
      obtain ⟨i, hne, hi⟩ := List.mem_eraseIdx_iff_getElem?.1 he
      obtain ⟨y, g, y1, y2, y3, y4⟩ := h1 e (List.mem_of_getElem? hi)
      refine ⟨y, g, y1, y2, y3, ?_⟩
      unfold putM
      rw [if_neg ?_]
      · exact y4
      rintro rfl
      obtain ⟨hil, hie⟩ := List.getElem?_eq_some_iff.1 hi
      obtain ⟨hjl', hje⟩ := List.getElem?_eq_some_iff.1 f2
      rcases Nat.lt_or_gt_of_ne hne with hlt | hlt
      · exact List.pairwise_iff_getElem.1 hap i j hil hjl hlt (by rw [hie, hje, y2, f3])
      · exact List.pairwise_iff_getElem.1 hap j i hjl hil hlt (by rw [hie, hje, y2, f3])
    · intro y g hy
      unfold putM at hy
      by_cases e : y = m
      · rw [if_pos e] at hy; cases hy
      rw [if_neg e] at hy
      obtain ⟨a, x, hx, hk, hv⟩ := h2 y g hy
      refine ⟨a, x, ?_, hk, hv⟩
      rw [hsub]
      obtain ⟨i, hi⟩ := List.getElem?_of_mem hx
      refine List.mem_eraseIdx_iff_getElem?.2 ⟨i, fun e1 => e ?_, hi⟩
      subst e1
      rw [f2] at hi
      cases hi
      rw [f3] at hk
      exact (idC_inj m1 a (Value.agg.inj hk)).symm
theorem rng_del {w w' : World} {b k k' r cnt : Nat} {M M' : Nat → Option Nat} {left : Nat → Bool} (h : RngAt w b M k r left cnt) (hs : Sub w w' b) (hm : MapAt w' b M' k') (hM : ∀ n g, M' n = some g → M n = some g) (hr : w'.heap[r]? = w.heap[r]?) : ∃ cnt', cnt' ≤ cnt ∧ RngAt w' b M' k' r left cnt' := by
  obtain ⟨es, clock, since, seen, c0, hb, a1, a2, a3, a4, hi, a5, a6, a7, a8⟩ := h
  obtain ⟨es1, cl, es', s1, s2, s3⟩ := hs
  rw [hb] at s1
  injection s1 with s1
  injection s1 with e1 e2
  subst e1
  subst e2
  obtain ⟨es2, cl2, m0, m1, m2, m3, m4⟩ := hm
  rw [s2] at m0
  injection m0 with m0
  injection m0 with e1 e2
  subst e1
  subst e2
  have hsub : ∀ e ∈ es'.toList, e ∈ es.toList := fun e he => s3.subset he
  refine ⟨(leftOf es' seen).size, ?_, es', clock, since, seen, c0, s2, m1, m2, fun e he => ?_, m4, hr.trans hi, fun x hx => a5 x (hsub x hx), rfl, a7, a8⟩
  · rw [← a6]
    unfold leftOf
    have key : ∀ x : Array MapEntry, (x.filter (fun e => !seen.contains e.born)).size = (x.toList.filter (fun e => !seen.contains e.born)).length := fun x => by rw [← Array.length_toList, Array.toList_filter]
    rw [key, key]
    exact (s3.filter _).length_le
  · obtain ⟨n, g, n1, n2, n3, n4⟩ := m3 e he
    obtain ⟨m, g', p1, p2, p3, p4, p5⟩ := a3 e (hsub e he)
    have : m = n := idC_inj p1 n1 (Value.agg.inj (p2.symm.trans n2))
    subst this
    exact ⟨m, g, n1, n2, n3, n4, p5⟩
theorem del_runD (o : Oper) (e : Operand → Value) (m x : Operand) (ho : o.op = .call { callee := .builtin .delete, args := #[m, x], argTypes := #[74, 35] }) {w : World} {b k n : Nat} {M : Nat → Option Nat} (h : MapAt w b M k) (hn : IdOk n) (h0 : e m = .map (some b)) (h1 : e x = .agg (iC n)) :
    ∃ w', (execOp e o).run Tryz.prog w = .ok (.value (.tuple #[])) w' ∧ MapAt w' b (putM M n none) (if (M n).isSome then k - 1 else k) ∧ Turn w w' b ∧ Sub w w' b := by
  obtain ⟨w', h3, h4, h5⟩ := map_dropD h hn o.type
  refine ⟨w', ?_, h4, h5⟩
  unfold execOp
  simp only [ho]
  simp [resolve, invoke, builtin, h0, h1, h3, Result.andThen]
theorem takeDlD {ops : Array Oper} {Q : Exit → Act → World → Prop} {md : Region.Mode} {S : World → Prop} {i : Nat} {oi : Oper} {fuel : Nat} {listed : Array Bool} {a : Act} {w : World} (m x : Operand) (hi : ops[i]? = some oi) (hd : oi.dst = none)
    (hr : Region.ready md ops listed = [i]) (hw : Region.wanted oi (yielded ops a.tmps) = true) (ho : oi.op = .call { callee := .builtin .delete, args := #[m, x], argTypes := #[74, 35] }) {b k n : Nat} {M : Nat → Option Nat} (hM : MapAt w b M k) (hn : IdOk n) (h0 : a.eval m = .map (some b)) (h1 : a.eval x = .agg (iC n))
    (h : ∀ w', MapAt w' b (putM M n none) (if (M n).isSome then k - 1 else k) → Turn w w' b → Sub w w' b → S w' ∧ wpAnyH Tryz.prog md ops Q S fuel (listed.setIfInBounds i true) (a.put none (.tuple #[])) w') : wpAnyH Tryz.prog md ops Q S (fuel + 1) listed a w := by
  obtain ⟨w', hx', h3, h4, h5⟩ := del_runD oi a.eval m x ho hM hn h0 h1
  exact takeV none hi hd hr hw hx' (h w' h3 h4 h5).1 (h w' h3 h4 h5).2
def DropD (w : World) (s b n k : Nat) (M : Nat → Option Nat) (e : Ending) (w' : World) : Prop := DropP w s b n k M e w' ∧ Sub w w' b
set_option maxHeartbeats 8000000 in
set_option maxRecDepth 100000 in
theorem drop_mapD (s b k n : Nat) (r : Bool) (M : Nat → Option Nat) (w : World) (hs : Blk 76 w s (stC b r)) (hM : MapAt w b M k) (hne : s ≠ b) (hn : IdOk n) : Calls Tryz.prog 31 #[.pointer (some ⟨s, 0, none⟩), .agg (iC n)] w (DropD w s b n k M) := by
  have KS := Lib.hid hs
  have KM := Lib.hid hM
  have HID := Lib.hid hn
  have HNE := Lib.hid hne
  have lt_s := hs.lt
  have lt_b := hM.lt
  have HLB := Lib.hid lt_b
  clear hs hM hn hne
  go_enter Tryz.func31, Tryz.ntmps31
  have HB := Lib.hid (Below.refl w.heap.size w)
  obtain ⟨N1, hN1⟩ : ∃ N, w.heap.size = N := ⟨_, rfl⟩
  have HN1 := Lib.hid hN1
  clear hN1
  go_wp2_with (refine wpList_box (op := ⟨some 3, _, _, _, _, _⟩) rfl 35 (.tmp 1) rfl (iC n) rfl N1 HN1.out ?_; intro w1 k1 b1 s1; refine Hid.out ?_)
  refine Lib.hid ?_
  have K3 := Lib.hid k1
  clear k1
  have lt_s_N1 : s < N1 := by rw [← HN1.out]; exact KS.out.lt
  have lt_b_N1 : b < N1 := by rw [← HN1.out]; exact KM.out.lt
  have le_HB_N1 : w.heap.size ≤ N1 := by rw [← HN1.out]; exact HB.out.size
  replace KS := Lib.hid (KS.out.below b1 KS.out.lt)
  replace KM := Lib.hid (KM.out.below b1 KM.out.lt)
  replace HB := Lib.hid (HB.out.trans (b1.mono HB.out.size))
  clear b1 HN1
  go_wp2_with fail
  have ns3 : s ≠ N1 := by omega
  have nb3 : b ≠ N1 := by omega
  have KMd : Hid (MapAt w1.drew b M k) := Lib.hid KM.out
  clear KM
  have HBd : Hid (Below w.heap.size w w1.drew) := Lib.hid HB.out.drew
  clear HB
  refine wp_region_held_drew (S := fun w' => Blk 76 w' s (stC b r) ∧ Blk 35 w' N1 (iC n)) (by kernel_rfl) ⟨KS.out, K3.out⟩ (fun hS => ?_)
  generalize hW2 : w1.drew = W2 at hS KMd HBd ⊢
  clear hW2
  clear KS
  clear K3
  have KM := KMd
  clear KMd
  have HB := HBd
  clear HBd
  have KS := Lib.hid hS.1
  have K3 := Lib.hid hS.2
  refine tY (i := 0) (some 4) (v := .pointer (some ⟨s, 0, none⟩)) rfl rfl (fun w' hS => by clear hS; go_simp) hS ?_
  simp only [Act.put, pA, pB, pC]
  refine tY (i := 1) (some 5) (v := .pointer (some ⟨s, 0, none⟩)) rfl rfl (fun w' hS => by clear hS; go_simp) hS ?_
  simp only [Act.put, pA, pB, pC]
  refine tY (i := 2) (some 6) (v := .pointer (some ⟨s, 0, none⟩)) rfl rfl (fun w' hS => by clear hS; go_simp) hS ?_
  simp only [Act.put, pA, pB, pC]
  refine tY (i := 3) (some 7) (v := .map (some b)) rfl rfl (fun w' hS => by (have c9 : w'.cell? ⟨s, 0, none⟩ = some (.map (some b)) := (hS.1.cell 0).trans rfl; clear hS; go_simp)) hS ?_
  simp only [Act.put, pA, pB, pC]
  refine tL (i := 4) (some 8) 35 (.tmp 3) N1 0 (iC n) _ rfl rfl rfl rfl (fun w' hS => hS.2.all) Tryz.underlying35 rfl info_iC hS ?_
  simp only [Act.put, pA, pB, pC]
  refine takeDlD (i := 5) (.tmp 7) (.tmp 8) rfl rfl (by kernel_rfl) (by rfl) rfl KM.out HID.out rfl rfl (fun w60 hm9 ht9 hu9 => ⟨⟨(ht9.block HNE.out).trans KS.out, (ht9.block (fun e => nb3 e.symm)).trans K3.out⟩, ?_⟩)
  simp only [Act.put, pA, pB, pC]
  have KS9 : Hid (Blk 76 w60 s (stC b r)) := Lib.hid ((ht9.block HNE.out).trans KS.out)
  have KM9 := Lib.hid hm9
  have HF9 : Hid (Fr w w60 s b) := Lib.hid ((Fr.of_below s b HB.out).trans (Fr.turn ht9))
  have HU9 := Lib.hid hu9
  clear hm9 ht9 hu9 hS
  refine wpAnyH_done (by kernel_rfl) ?_ _
  go_wp2_with (refine wpList_st rfl 4 (.tmp 11) (.const (.bool false)) rfl s 1 rfl (.bool false) #[.bool false] rfl rfl info_bl (one_b _) KS9.out (Nat.le_of_ble_eq_true rfl) (C' := stC b false) (st_refF _ _) ?_; intro w70 q1; refine Hid.out ?_)
  refine Lib.hid ?_
  have HF8 : Hid (Fr w w70 s b) := Lib.hid (HF9.out.trans ⟨(q1.2.1 0 (Nat.zero_le _)).os, (q1.2.1 0 (Nat.zero_le _)).tape, (q1.2.1 0 (Nat.zero_le _)).output, (q1.2.1 0 (Nat.zero_le _)).size, fun i _ h1 _ => q1.2.2 i h1⟩)
  have KM8 := Lib.hid (KM9.out.far q1 (fun e => HNE.out e.symm))
  have KS8 := Lib.hid q1.1
  have HU8 : Hid (Sub w w70 b) := Lib.hid (by obtain ⟨es, cl, es', u1, u2, u3⟩ := HU9.out; exact ⟨es, cl, es', (HB.out.block b HLB.out).symm.trans u1, (q1.2.2 b (fun e => HNE.out e.symm)).trans u2, u3⟩)
  clear q1
  go_wp2_with fail
  go_end0
  exact ⟨⟨rfl, HF8.out, KS8.out, KM8.out⟩, HU8.out⟩
end Go.Proofs.YtkiaijmhoikdiaaGreat

/-
  DERIVED: THE SHELF's CONTRACTS AT THIS DUMP, IN PLAIN WORDS (tools/lay-plain.mjs out of 'TryShelf.lean', which tools/lay-shelf.mjs wrote): THE SAME DECLARATIONS UNDER THE SAME NAMES: 'import', 'namespace', 'open', 'def', 'theorem' AND NOTHING ELSE: no command of the shelf's: FOR A HAND-IN. Each laying: the table of numbers ('.._ren') and one theorem, a field a fact of the dump's own or the kernel's comparison; each contract: ONE APPLICATION.
-/
namespace Go.Proofs
open Go.Shelf
def Tryz.sortI_ren : Go.Shelf.Ren := ⟨fun | 6 => 35 | 15 => 63 | 14 => 62 | 28 => 87 | 29 => 88 | 20 => 79 | 21 => 80 | 22 => 81 | 23 => 82 | 24 => 83 | 25 => 84 | 26 => 85 | 27 => 86 | 46 => 106 | 47 => 107 | 48 => 108 | 49 => 109 | 50 => 110 | 57 => 123 | n => n, fun | 22 => 49 | 24 => 35 | 25 => 93 | 3 => 3 | 39 => 71 | 0 => 0 | 53 => 36 | 55 => 107 | 4 => 4 | 46 => 140 | 45 => 139 | 50 => 144 | 5 => 5 | 9 => 9 | 66 => 162 | 70 => 166 | 76 => 181 | 77 => 62 | n => n, fun | n => n⟩
theorem Tryz.sortI : Go.Proofs.SlLaysF0.n6 Tryz.prog Tryz.sortI_ren := {
  mixed := by kernel_rfl
  f6 := ⟨Tryz.f35.name, by decide, Tryz.func35.trans (congrArg some (by kernel_rfl))⟩
  f14 := ⟨Tryz.f62.name, by decide, Tryz.func62.trans (congrArg some (by kernel_rfl))⟩
  f15 := Tryz.func63.trans (congrArg some (by kernel_rfl))
  f20 := ⟨Tryz.f79.name, by decide, Tryz.func79.trans (congrArg some (by kernel_rfl))⟩
  f21 := ⟨Tryz.f80.name, by decide, Tryz.func80.trans (congrArg some (by kernel_rfl))⟩
  f22 := ⟨Tryz.f81.name, by decide, Tryz.func81.trans (congrArg some (by kernel_rfl))⟩
  f23 := ⟨Tryz.f82.name, by decide, Tryz.func82.trans (congrArg some (by kernel_rfl))⟩
  f24 := ⟨Tryz.f83.name, by decide, Tryz.func83.trans (congrArg some (by kernel_rfl))⟩
  f25 := ⟨Tryz.f84.name, by decide, Tryz.func84.trans (congrArg some (by kernel_rfl))⟩
  f26 := ⟨Tryz.f85.name, by decide, Tryz.func85.trans (congrArg some (by kernel_rfl))⟩
  f27 := ⟨Tryz.f86.name, by decide, Tryz.func86.trans (congrArg some (by kernel_rfl))⟩
  f28 := Tryz.func87.trans (congrArg some (by kernel_rfl))
  f29 := Tryz.func88.trans (congrArg some (by kernel_rfl))
  f46 := ⟨Tryz.f106.name, by decide, Tryz.func106.trans (congrArg some (by kernel_rfl))⟩
  f47 := Tryz.func107.trans (congrArg some (by kernel_rfl))
  f48 := Tryz.func108.trans (congrArg some (by kernel_rfl))
  f49 := ⟨Tryz.f109.name, by decide, Tryz.func109.trans (congrArg some (by kernel_rfl))⟩
  f50 := ⟨Tryz.f110.name, by decide, Tryz.func110.trans (congrArg some (by kernel_rfl))⟩
  f57 := ⟨Tryz.f123.name, by decide, Tryz.func123.trans (congrArg some (by kernel_rfl))⟩
  t0 := Tryz.underlying0
  a0 := Tryz.isAgg0
  z0 := Tryz.sizeOf0
  v0 := Tryz.zeroValue0
  t3 := Tryz.underlying3
  a3 := Tryz.isAgg3
  z3 := Tryz.sizeOf3
  v3 := Tryz.zeroValue3
  t4 := Tryz.underlying4
  a4 := Tryz.isAgg4
  z4 := Tryz.sizeOf4
  v4 := Tryz.zeroValue4
  t5 := Tryz.underlying5
  a5 := Tryz.isAgg5
  z5 := Tryz.sizeOf5
  v5 := Tryz.zeroValue5
  t9 := Tryz.underlying9
  a9 := Tryz.isAgg9
  z9 := Tryz.sizeOf9
  v9 := Tryz.zeroValue9
  t22 := Tryz.underlying49
  a22 := Tryz.isAgg49
  z22 := Tryz.sizeOf49
  v22 := Tryz.zeroValue49
  t25 := Tryz.underlying93
  a25 := Tryz.isAgg93
  z25 := Tryz.sizeOf93
  v25 := Tryz.zeroValue93
  t39 := Tryz.underlying71
  a39 := Tryz.isAgg71
  z39 := Tryz.sizeOf71
  v39 := Tryz.zeroValue71
  t45 := Tryz.underlying139
  a45 := Tryz.isAgg139
  z45 := Tryz.sizeOf139
  v45 := Tryz.zeroValue139
  t46 := Tryz.underlying140
  a46 := Tryz.isAgg140
  z46 := Tryz.sizeOf140
  v46 := Tryz.zeroValue140
  t50 := Tryz.underlying144
  a50 := Tryz.isAgg144
  z50 := Tryz.sizeOf144
  v50 := Tryz.zeroValue144
  t53 := Tryz.underlying36
  a53 := Tryz.isAgg36
  z53 := Tryz.sizeOf36
  v53 := Tryz.zeroValue36
  t55 := Tryz.underlying107
  a55 := Tryz.isAgg107
  z55 := Tryz.sizeOf107
  v55 := Tryz.zeroValue107
  t66 := Tryz.underlying162
  a66 := Tryz.isAgg162
  z66 := Tryz.sizeOf162
  v66 := Tryz.zeroValue162
  t70 := Tryz.underlying166
  a70 := Tryz.isAgg166
  z70 := Tryz.sizeOf166
  v70 := Tryz.zeroValue166
  t76 := Tryz.underlying181
  a76 := Tryz.isAgg181
  z76 := Tryz.sizeOf181
  v76 := Tryz.zeroValue181
  t77 := Tryz.underlying62
  a77 := Tryz.isAgg62
  z77 := Tryz.sizeOf62
  v77 := Tryz.zeroValue62 }
end Go.Proofs

/- The library's sort at IDs, as Age calls it. Each theorem states its conditions. -/
namespace Go.Proofs.YtkiaijmhoikdiaaGreat
open Go.RowKit Go.Sort
set_option linter.unusedVariables false


abbrev IdI := { n : Nat // IdOk n }
instance : Inhabited IdI := ⟨⟨0, by unfold IdOk; decide⟩⟩
def idB (S : List IdI) : Nat → Array Value := fun j => iC (S[j]?.getD default).1
theorem iC_ones (n : Nat) : ∀ u ∈ (iC n).toList, u.oneCell' = true := fun u hu => (Array.all_eq_true_iff_forall_mem.1 (idC_one _)) u (Array.mem_toList_iff.1 hu)
theorem recs_idI (S : List IdI) : Recs 8 (idB S) := fun j => ⟨rfl, iC_ones _⟩
theorem idB_at (S : List IdI) (j : Nat) (x : IdI) (h : S[j]? = some x) : idB S j = iC x.1 := by unfold idB; rw [h]; rfl
def encI8 (x : IdI) : List Value := (iC x.1).toList
theorem flat_cellsI (S : List IdI) : (flatK encI8 8 S.toArray).toList = cellsR (idB S) S.length := by
  apply List.ext_getElem?
  intro t
  have hl := cellsR_len (recs_idI S) S.length
  have hs : (flatK encI8 8 S.toArray).size = S.length * 8 := by simp
  rcases Nat.lt_or_ge t (S.length * 8) with h | h
  · have hq : t / 8 < S.length := by omega
    have hr : t % 8 < 8 := Nat.mod_lt _ (by decide)
    have e := cellsR_at (recs_idI S) S.length (t / 8) (t % 8) hq hr
    rw [show t / 8 * 8 + t % 8 = t by omega] at e
    rw [e, Array.getElem?_toList, Array.getElem?_eq_getElem (by omega)]
    have g := get_flatK encI8 8 S.toArray t (by simpa using h)
    rw [getElem!_pos _ t (by omega)] at g
    rw [g]
    have hx : S[t / 8]? = some S[t / 8] := List.getElem?_eq_getElem hq
    rw [idB_at S _ _ hx]
    have h2 : S.toArray[t / 8]! = S[t / 8] := by rw [getElem!_pos _ _ (by simpa using hq)]; simp
    rw [h2]
    unfold encI8
    have h4 : t % 8 < (iC S[t / 8].1).size := hr
    rw [List.getElem!_eq_getElem?_getD, Array.getElem?_toList, Array.getElem?_eq_getElem h4]
    rfl
  · rw [List.getElem?_eq_none (by rw [Array.length_toList]; omega), List.getElem?_eq_none (by omega)]
section
variable {w : World} {g cap n base : Nat} {e : TypeId} {os : Array Obj} {cur : Array Value} {S T : List IdI}
theorem holds_ownI (hb : w.heap[g]? = some (.cells cur e (0, 0))) (ht : cur.toList.take (S.length * 8) = cellsR (idB S) S.length) : HoldsK encI8 8 w g 0 S.toArray := by
  intro j hj
  have hj' : j < S.length * 8 := by simpa using hj
  refine ⟨?_, by simp [World.frozen?, hb]⟩
  rw [← flat_cellsI] at ht
  have h1 : (cur.toList.take (S.length * 8))[j]? = (flatK encI8 8 S.toArray).toList[j]? := by rw [ht]
  rw [List.getElem?_take_of_lt hj', Array.getElem?_toList, Array.getElem?_toList] at h1
  rw [Nat.zero_add, cell_of_row w g j cur e (0, 0) hb, h1, Array.getElem?_eq_getElem (by simpa using hj'), getElem!_pos _ j (by simpa using hj')]
  rfl
theorem heap_sortedI (d : Array IdI) (hb : w.heap[g]? = some (.cells cur e (0, 0))) : (grow (putRowK encI8 8 (Sort.ahead w n) g 0 d) os).heap[g]? = some (.cells (putCells id 0 (flatK encI8 8 d) cur) e (0, 0)) := by
  have hg : g < w.heap.size := (Array.getElem?_eq_some_iff.1 hb).1
  rw [heap_grow_old _ _ (by simpa [putRowK] using hg)]
  simp [putRowK, putRow, mapBlock, Sort.ahead, Array.getElem?_modify, hb, onCells]
theorem grownBy_sortedI (d : Array IdI) : w.grownBy (grow (putRowK encI8 8 (Sort.ahead w n) g 0 d) os) (some g) := by
  refine ⟨rfl, rfl, rfl, by simp [putRowK], fun k hk hne => ?_⟩
  rw [heap_grow_old _ _ (by simpa [putRowK] using hk)]
  have : g ≠ k := fun e => hne (by rw [e])
  simp [putRowK, putRow, mapBlock, Sort.ahead, Array.getElem?_modify, this]
theorem take_putI (h : T.length * 8 ≤ cur.size) : (putCells id 0 (flatK encI8 8 T.toArray) cur).toList.take (T.length * 8) = cellsR (idB T) T.length := by
  rw [← flat_cellsI]
  apply List.ext_getElem?
  intro j
  by_cases hj : j < T.length * 8
  · rw [List.getElem?_take_of_lt hj, Array.getElem?_toList, Array.getElem?_toList]
    simp [putCells, hj, show j < cur.size by omega]
  · rw [List.getElem?_take_eq_none (by omega), List.getElem?_eq_none (by simp; omega)]
theorem own_sortedI (hl : T.length = S.length) (hbase : base ≤ g) (hb : w.heap[g]? = some (.cells cur e (0, 0))) (h1 : S.length ≤ cap) (h2 : cap ≤ maxLen) (h3 : cur.size = cap * 8) :
    OwnR (grow (putRowK encI8 8 (Sort.ahead w n) g 0 T.toArray) os) base e 8 (.slice (some ⟨g, 0, none⟩) S.length cap) T.length (idB T) :=
  ⟨by rw [cellsR_len (recs_idI T)], .inr ⟨g, cap, _, by rw [hl], hbase, heap_sortedI _ hb, by omega, h2, by simp [putCells, h3], take_putI (by omega)⟩⟩
end
theorem perm_allI {S T : List IdI} (h : PermIn 0 S.toArray.size S.toArray T.toArray) : T.Perm S := by
  obtain ⟨h1, _, h3⟩ := h
  have e1 : S.toArray.extract 0 S.toArray.size = S.toArray := by simp
  have e2 : T.toArray.extract 0 S.toArray.size = T.toArray := by rw [← h1]; simp
  rw [e1, e2] at h3
  simpa using h3
def idN (x : IdI) : Int := (x.1 : Int)
def cfI (x y : IdI) : Int := cmp3 (idN x) (idN y)
theorem cf_ltI (x y : IdI) : decide (cfI x y < 0) = decide (idN x < idN y) := by
  unfold cfI cmp3
  by_cases h1 : idN x < idN y
  · simp [h1]
  · rw [if_neg h1]
    by_cases h2 : idN y < idN x
    · rw [if_pos h2]; simp; omega
    · rw [if_neg h2]; simp; omega
def AscI (S : List IdI) : Prop := ∀ i j, i < j → j < S.length → idN (S[i]?.getD default) ≤ idN (S[j]?.getD default)


theorem agg_idI (w : World) : (isAgg 35).run Tryz.prog w = .ok true w := by kernel_rfl
theorem sz_idI (w : World) : (Go.sizeOf 35).run Tryz.prog w = .ok 8 w := by kernel_rfl
theorem swo_idI : SWO (ltOf cfI) := by
  have e : ∀ x y, ltOf cfI x y = decide (idN x < idN y) := fun x y => cf_ltI x y
  refine ⟨fun x => ?_, fun x y z h1 h2 => ?_, fun x y z h1 h2 => ?_⟩
  · rw [e]; simp
  · rw [e] at h1 h2 ⊢
    have := of_decide_eq_true h1
    have := of_decide_eq_true h2
    exact decide_eq_true (by omega)
  · rw [e] at h1 h2 ⊢
    have := of_decide_eq_false h1
    have := of_decide_eq_false h2
    exact decide_eq_false (by omega)
theorem ascI_of {T : List IdI} {n : Nat} (hn : T.length = n) (h : SortedIn (ltOf cfI) 0 n T.toArray) : AscI T := by
  intro i j hij hj
  have h9 := h i j (Nat.zero_le _) hij (by omega)
  have e : ∀ x y, ltOf cfI x y = decide (idN x < idN y) := fun x y => cf_ltI x y
  rw [e] at h9
  have h8 := of_decide_eq_false h9
  have g : ∀ k, k < T.length → T.toArray[k]! = T[k]?.getD default := fun k hk => by
    rw [getElem!_pos _ k (by simpa using hk), List.getElem?_eq_getElem hk]; simp
  rw [g i (by omega), g j hj] at h8
  omega
theorem sort_rowI (g cap : Nat) (S : List IdI) (w : World) (cur : Array Value) (hb : w.heap[g]? = some (.cells cur 35 (0, 0))) (ht : cur.toList.take (S.length * 8) = cellsR (idB S) S.length) (hn : S.length < 4611686018427387904) (u : Unit) :
    Calls Tryz.prog 35 #[.slice (some ⟨g, 0, none⟩) S.length cap, .func (.func 36) #[] #[]] w fun e w' => e = .returned (.tuple #[]) ∧ ∃ T n os, T.Perm S ∧ AscI T ∧ w' = grow (putRowK encI8 8 (Sort.ahead w n) g 0 T.toArray) os := by
  have eg : ∀ args w, (callFunc 36 args).run Tryz.prog w = .ok (.enter 36 args) w := enters_of Tryz.func36 (by kernel_rfl) rfl
  have hcon := AnyQ.slices_SortFunc Tryz.sortI 8 agg_idI sz_idI encI8 (fun _ => rfl) (fun x v hv => iC_ones _ v hv) cfI swo_idI 36 #[] g 0 cap S.toArray w eg (fun m os dk _ x y => order_any x.1 y.1 _ x.2 y.2) (holds_ownI hb ht) (Array.getElem?_eq_some_iff.1 hb).1 (by simpa using hn)
  have hc2 : S.toArray.size = S.length := by simp
  rw [hc2] at hcon
  change Calls Tryz.prog 35 #[.slice (some ⟨g, 0, none⟩) S.length cap, .func (.func 36) #[] #[]] w _ at hcon
  refine hcon.mono ?_
  rintro e w' ⟨he, d', n, os, h1, h2, h3⟩
  obtain ⟨T⟩ := d'
  have hl : T.length = S.length := by have := h1.1; simpa using this
  exact ⟨he, T, n, os, perm_allI (by rw [hc2]; exact h1), ascI_of hl h2, h3⟩
end Go.Proofs.YtkiaijmhoikdiaaGreat

/- A store while its LSPs grow old one by one: what stays. Each theorem states its conditions. -/
namespace Go.Proofs.YtkiaijmhoikdiaaGreat
open Go.RowKit Go.MapKept Go.Sort
set_option linter.unusedVariables false
set_option linter.unusedSimpArgs false

def HdN (w : World) (B N g : Nat) (h : Hd) : Prop := B ≤ g ∧ g < N ∧ ∃ ro oa c, Blk 91 w g (hdC h (some ⟨ro, oa, none⟩) c) ∧ RwT w ro oa h.n h.z ∧ B ≤ ro ∧ ro < N ∧ h.n ≤ c ∧ c ≤ maxLen
structure StM (w : World) (B N s b : Nat) (M : Nat → Option Nat) (H : Nat → Option Hd) (k : Nat) (r : Bool) : Prop where
  hs : B ≤ s
  hb : B ≤ b
  sN : s < N
  bN : b < N
  blk : Blk 76 w s (stC b r)
  map : MapAt w b M k
  iff : ∀ i, M i = none ↔ H i = none
  held : ∀ i g h, M i = some g → H i = some h → HdN w B N g h ∧ h.id = i ∧ (27 ≤ h.n ∧ h.n ≤ 1492) ∧ (∀ j, 0 ≤ h.z j ∧ h.z j ≤ 255)
  inj : ∀ i j g, M i = some g → M j = some g → i = j
def setH (H : Nat → Option Hd) (n : Nat) (v : Option Hd) : Nat → Option Hd := fun i => if i = n then v else H i
section
variable {w w' : World} {B N s b k g n : Nat} {M : Nat → Option Nat} {H : Nat → Option Hd} {r : Bool} {h : Hd}
theorem blk_two {t t' : TypeId} {x y : Nat} {C D : Array Value} (h : Blk t w x C) (h' : Blk t' w y D) (ht : t ≠ t') : x ≠ y := by
  rintro rfl
  have e1 : w.heap[x]? = _ := h
  have e2 : w.heap[x]? = _ := h'
  rw [e1] at e2
  injection e2 with e2
  injection e2 with _ e2 _
  exact ht e2
theorem StAt.stm (h : StAt w B s b H k r) : ∃ M, StM w B w.heap.size s b M H k r := by
  have h1 := h.lt
  have h2 := h.ltb
  obtain ⟨a1, a2, a3, M, b1, b2, b3, b4⟩ := h
  refine ⟨M, a1, a2, h1, h2, a3, b1, b2, fun i g h e1 e2 => ?_, b4⟩
  obtain ⟨c1, c2⟩ := b3 i g h e1 e2
  have hl := c1.lt
  obtain ⟨d1, ro, oa, c, d2, d3, d4, d5, d6⟩ := c1
  exact ⟨⟨d1, hl, ro, oa, c, d2, d3, d4, d3.lt, d5, d6⟩, c2⟩
theorem StM.at (h : StM w B N s b M H k r) : StAt w B s b H k r := by
  refine ⟨h.hs, h.hb, h.blk, M, h.map, h.iff, fun i g x e1 e2 => ?_, h.inj⟩
  obtain ⟨⟨d1, _, ro, oa, c, d2, d3, d4, _, d5, d6⟩, c2⟩ := h.held i g x e1 e2
  exact ⟨⟨d1, ro, oa, c, d2, d3, d4, d5, d6⟩, c2⟩
theorem StM.same (h : StM w B N s b M H k r) (e : ∀ x, x < N → w'.heap[x]? = w.heap[x]?) : StM w' B N s b M H k r := by
  refine ⟨h.hs, h.hb, h.sN, h.bN, (e _ h.sN).trans h.blk, h.map.at (e _ h.bN), h.iff, fun i g x e1 e2 => ?_, h.inj⟩
  obtain ⟨⟨d1, dN, ro, oa, c, d2, d3, d4, dO, d5, d6⟩, c2⟩ := h.held i g x e1 e2
  exact ⟨⟨d1, dN, ro, oa, c, (e _ dN).trans d2, d3.block (e _ dO), d4, dO, d5, d6⟩, c2⟩
theorem map_blk {t : TypeId} {C : Array Value} (hm : MapAt w b M k) (h : Blk t w g C) : b ≠ g := by
  rintro rfl
  obtain ⟨es, c, h0, _⟩ := hm
  have e1 : w.heap[b]? = _ := h
  rw [h0] at e1
  cases e1
theorem rw_blk {ro oa m : Nat} {z : Nat → Int} {t : TypeId} {C : Array Value} (hr : RwT w ro oa m z) (h : Blk t w g C) (ht : 5 ≠ t) : ro ≠ g := by
  obtain ⟨cur, h1⟩ := hr.2
  exact blk_two (show Blk 5 w ro cur from h1) h ht
theorem StM.aged {t : Int} {A : Option Addr} {c : Nat} (hst : StM w B N s b M H k r) (hM : M n = some g) (hH : H n = some h) (hk : Blk 91 w g (hdC h A c)) (q : Stored w w' g (hdC (ageH h t) A c) 91) : StM w' B N s b M (setH H n (some (ageH h t))) k r := by
  have hsg : s ≠ g := blk_two hst.blk hk (by decide)
  have hbg : b ≠ g := map_blk hst.map hk
  refine ⟨hst.hs, hst.hb, hst.sN, hst.bN, (q.2.2 _ hsg).trans hst.blk, hst.map.at (q.2.2 _ hbg), fun i => ?_, fun i g' x e1 e2 => ?_, hst.inj⟩
  · unfold setH
    by_cases e : i = n
    · subst e
      rw [if_pos rfl, hM]
      constructor <;> intro h <;> cases h
    · rw [if_neg e]; exact hst.iff i
  · unfold setH at e2
    by_cases e : i = n
    · subst e
      rw [if_pos rfl] at e2
      cases e2
      rw [hM] at e1
      cases e1
      obtain ⟨⟨d1, dN, ro, oa, c9, d2, d3, d4, dO, d5, d6⟩, c2⟩ := hst.held i g h hM hH
      have hroc : A = some ⟨ro, oa, none⟩ ∧ c = c9 := by
        have e3 : w.heap[g]? = _ := hk
        have e4 : w.heap[g]? = _ := d2
        rw [e3] at e4
        injection e4 with e4
        injection e4 with e4 _ _
        have e5 : (hdC h A c)[11]? = (hdC h (some ⟨ro, oa, none⟩) c9)[11]? := by rw [e4]
        have e6 : some (Value.slice A h.n c) = some (Value.slice (some ⟨ro, oa, none⟩) h.n c9) := e5
        injection e6 with e6
        injection e6 with e7 _ e8
        exact ⟨e7, e8⟩
      obtain ⟨rfl, rfl⟩ := hroc
      exact ⟨⟨d1, dN, ro, oa, c, q.1, d3.far q (rw_blk d3 hk (by decide)), d4, dO, d5, d6⟩, c2⟩
    · rw [if_neg e] at e2
      obtain ⟨⟨d1, dN, ro, oa, c9, d2, d3, d4, dO, d5, d6⟩, c2⟩ := hst.held i g' x e1 e2
      have hgg : g' ≠ g := fun e9 => e (hst.inj i n g (by rw [← e9]; exact e1) hM)
      exact ⟨⟨d1, dN, ro, oa, c9, (q.2.2 _ hgg).trans d2, d3.far q (rw_blk d3 hk (by decide)), d4, dO, d5, d6⟩, c2⟩
theorem StM.drop {e : Ending} (hst : StM w B N s b M H k r) (hd : DropP w s b n k M e w') : StM w' B N s b (putM M n none) (setH H n none) (if (M n).isSome then k - 1 else k) false := by
  obtain ⟨_, hf, hs9, hm9⟩ := hd
  refine ⟨hst.hs, hst.hb, hst.sN, hst.bN, hs9, hm9, fun i => ?_, fun i g' x e1 e2 => ?_, fun i j g' e1 e2 => ?_⟩
  · unfold setH putM
    by_cases e : i = n
    · rw [if_pos e, if_pos e]; exact ⟨fun _ => rfl, fun _ => rfl⟩
    · rw [if_neg e, if_neg e]; exact hst.iff i
  · unfold putM at e1
    unfold setH at e2
    by_cases e : i = n
    · rw [if_pos e] at e1; cases e1
    rw [if_neg e] at e1 e2
    obtain ⟨⟨d1, dN, ro, oa, c9, d2, d3, d4, dO, d5, d6⟩, c2⟩ := hst.held i g' x e1 e2
    have k1 : w'.heap[g']? = w.heap[g']? := hf.block g' d2.lt (fun e9 => blk_two hst.blk d2 (by decide) e9.symm) (fun e9 => map_blk hst.map d2 e9.symm)
    have k2 : w'.heap[ro]? = w.heap[ro]? := hf.block ro d3.lt (rw_blk d3 hst.blk (by decide)) (by
      rintro rfl
      obtain ⟨cur, h1⟩ := d3.2
      obtain ⟨es, c, h0, _⟩ := hst.map
      rw [h0] at h1
      cases h1)
    exact ⟨⟨d1, dN, ro, oa, c9, k1.trans d2, d3.block k2, d4, dO, d5, d6⟩, c2⟩
  · unfold putM at e1 e2
    by_cases a1 : i = n
    · rw [if_pos a1] at e1; cases e1
    by_cases a2 : j = n
    · rw [if_pos a2] at e2; cases e2
    rw [if_neg a1] at e1
    rw [if_neg a2] at e2
    exact hst.inj i j g' e1 e2
end
def agL (H : Nat → Option Hd) (t : Int) (left : Nat → Bool) : Nat → Option Hd := fun i => if left i then H i else (H i).bind fun h => if 60 ≤ (ageH h t).pu then none else some (ageH h t)
def agedH (H : Nat → Option Hd) (t : Int) : Nat → Option Hd := fun i => (H i).bind fun h => if 60 ≤ (ageH h t).pu then none else some (ageH h t)
def endB (h : Hd) (t : Int) : Bool := decide (0 < h.li) && (max (h.li - t) 0 == 0)
structure ColI (H : Nat → Option Hd) (t : Int) (left : Nat → Bool) (S : List IdI) : Prop where
  mem : ∀ x : IdI, x ∈ S ↔ left x.1 = false ∧ ∃ h, H x.1 = some h ∧ endB h t = true
  nd : S.Nodup
def RefL (H : Nat → Option Hd) (t : Int) (left : Nat → Bool) (r0 r : Bool) : Prop := (r = r0 ∧ ∀ i h, H i = some h → left i = false → (ageH h t).pu < 60) ∨ (r = false ∧ ∃ i h, H i = some h ∧ left i = false ∧ 60 ≤ (ageH h t).pu)
section
variable {H : Nat → Option Hd} {t : Int} {left : Nat → Bool} {S T : List IdI} {n : Nat} {h : Hd} {r0 r : Bool} {M : Nat → Option Nat}
theorem agL_start (hi : ∀ i, M i = none ↔ H i = none) : agL H t (fun n => (M n).isSome) = H := by
  funext i
  unfold agL
  cases e : M i with
  | none => rw [(hi i).1 e]; simp
  | some g => simp [e]
theorem agL_step (hl : left n = true) (hH : H n = some h) : agL H t (fun x => left x && !(x == n)) = setH (agL H t left) n (if 60 ≤ (ageH h t).pu then none else some (ageH h t)) := by
  funext i
  unfold agL setH
  by_cases e : i = n
  · subst e
    simp [hH]
  · have e2 : (i == n) = false := by simpa using e
    simp [e, e2]
theorem agL_at (hl : left n = true) : agL H t left n = H n := by unfold agL; rw [if_pos hl]
theorem agL_end (hl : ∀ i h, H i = some h → left i = false) : agL H t left = agedH H t := by
  funext i
  unfold agL agedH
  cases e : H i with
  | none => simp
  | some h => rw [hl i h e]; simp
theorem ColI.start (hi : ∀ i, M i = none ↔ H i = none) : ColI H t (fun n => (M n).isSome) [] := by
  refine ⟨fun x => ⟨fun hx => (nomatch hx), fun ⟨h1, h, h2, _⟩ => ?_⟩, List.nodup_nil⟩
  have h3 : M x.1 = none := by simpa using h1
  rw [(hi _).1 h3] at h2
  cases h2
theorem ColI.step (hc : ColI H t left S) (hl : left n = true) (hH : H n = some h) (hn : IdOk n) : ColI H t (fun x => left x && !(x == n)) (if endB h t then S ++ [⟨n, hn⟩] else S) := by
  have hno : (⟨n, hn⟩ : IdI) ∉ S := fun hm => by
    have := ((hc.mem _).1 hm).1
    rw [hl] at this
    cases this
  refine ⟨fun x => ?_, ?_⟩
  · by_cases e : x.1 = n
    · have ex : x = ⟨n, hn⟩ := Subtype.ext e
      subst ex
      by_cases he : endB h t = true
      · rw [if_pos he]
        exact ⟨fun _ => ⟨by simp, h, hH, he⟩, fun _ => List.mem_append.2 (.inr (List.mem_singleton.2 rfl))⟩
      · rw [if_neg he]
        refine ⟨fun hm => absurd hm hno, fun ⟨_, h', h1, h2⟩ => ?_⟩
        have := h1.symm.trans hH
        cases this
        exact absurd h2 he
    · have e2 : (x.1 == n) = false := by simpa using e
      have key : x ∈ (if endB h t then S ++ [⟨n, hn⟩] else S) ↔ x ∈ S := by
        split
        · rw [List.mem_append, List.mem_singleton]
          exact ⟨fun h => h.elim id (fun e9 => absurd (congrArg Subtype.val e9) e), .inl⟩
        · exact Iff.rfl
      rw [key, hc.mem x]
      simp [e2]
  · split
    · rw [List.nodup_append]
      refine ⟨hc.nd, by simp, fun y hy z hz => ?_⟩
      obtain rfl := List.mem_singleton.1 hz
      rintro rfl
      exact hno hy
    · exact hc.nd
theorem RefL.start (hi : ∀ i, M i = none ↔ H i = none) : RefL H t (fun n => (M n).isSome) r r := .inl ⟨rfl, fun i h e1 e2 => by
  have h3 : M i = none := by simpa using e2
  rw [(hi _).1 h3] at e1
  cases e1⟩
theorem RefL.stay (hr : RefL H t left r0 r) (hH : H n = some h) (hp : ¬ 60 ≤ (ageH h t).pu) : RefL H t (fun x => left x && !(x == n)) r0 r := by
  rcases hr with ⟨h1, h2⟩ | ⟨h1, i, g, h2, h3, h4⟩
  · refine .inl ⟨h1, fun i g e1 e2 => ?_⟩
    by_cases e : i = n
    · subst e
      have := e1.symm.trans hH
      cases this
      omega
    · have e3 : (i == n) = false := by simpa using e
      exact h2 i g e1 (by simpa [e3] using e2)
  · exact .inr ⟨h1, i, g, h2, by simp [h3], h4⟩
theorem RefL.lost (hH : H n = some h) (hp : 60 ≤ (ageH h t).pu) : RefL H t (fun x => left x && !(x == n)) r0 false := .inr ⟨rfl, n, h, hH, by simp, hp⟩
end
theorem id_snoc (S : List IdI) (x : IdI) : ∀ j, j < S.length + 1 → catR (idB S) S.length (fun _ => iC x.1) j = idB (S ++ [x]) j := by
  intro j hj
  unfold catR idB
  by_cases h : j < S.length
  · rw [if_pos h, List.getElem?_append_left h]
  · rw [if_neg h, show j = S.length by omega, List.getElem?_append_right (Nat.le_refl _)]
    simp
theorem OwnR.keep {w w' : World} {base s m : Nat} {e : TypeId} {v : Value} {C : Nat → Array Value} (h : OwnR w base e s v m C) (hk : ∀ x, base ≤ x → x < w.heap.size → w'.heap[x]? = w.heap[x]?) : OwnR w' base e s v m C := by
  rcases h with ⟨h1, h2 | ⟨g, cap, cur, e1, e2, e3, rest⟩⟩
  · exact ⟨h1, .inl h2⟩
  · exact ⟨h1, .inr ⟨g, cap, cur, e1, e2, (hk g e2 (Array.getElem?_eq_some_iff.1 e3).1).trans e3, rest⟩⟩
structure AgS (w0 w : World) (B N B0 s b : Nat) (M : Nat → Option Nat) (H : Nat → Option Hd) (k : Nat) (r : Bool) (left : Nat → Bool) (cnt : Nat) (v : Value) (S : List IdI) : Prop where
  lt : B ≤ N ∧ N < B0
  own : OwnR w B0 35 8 v S.length (idB S)
  rg : RngAt w b M k N left cnt
  st : StM w B N s b M H k r
  bel : Below B w0 w
  kp : ∀ (x : Nat) (o : Obj), x < N → w0.heap[x]? = some o → mineS o = false → w.heap[x]? = some o
  sz : B0 ≤ w.heap.size
section
variable {w0 w w' : World} {B N B0 s b k cnt n g : Nat} {M : Nat → Option Nat} {H : Nat → Option Hd} {r : Bool} {left : Nat → Bool} {v : Value} {S : List IdI} {h : Hd}
theorem AgS.below (a : AgS w0 w B N B0 s b M H k r left cnt v S) (hb : Below w.heap.size w w') : AgS w0 w' B N B0 s b M H k r left cnt v S := by
  have h1 := a.lt
  have h2 := a.sz
  exact ⟨a.lt, a.own.below hb, a.rg.below hb, a.st.same (fun x hx => hb.block x (by omega)), a.bel.trans (hb.mono (by omega)), fun x o hx e1 e2 => (hb.block x (by omega)).trans (a.kp x o hx e1 e2), Nat.le_trans h2 hb.size⟩
theorem AgS.next {cnt' : Nat} (a : AgS w0 w B N B0 s b M H k r left cnt v S) (hg : w.grownBy w' (some N)) (hr : RngAt w' b M k N (fun x => left x && !(x == n)) cnt') : AgS w0 w' B N B0 s b M H k r (fun x => left x && !(x == n)) cnt' v S := by
  have h1 := a.lt
  have h2 := a.sz
  exact ⟨a.lt, a.own.ow hg (by omega), hr, a.st.same (fun x hx => hg.block x (by omega) (fun e => by cases e; omega)), a.bel.grown hg (by have := a.bel.size; omega) (fun x e => by cases e; omega), fun x o hx e1 e2 => (hg.block x (by omega) (fun e => by cases e; omega)).trans (a.kp x o hx e1 e2), Nat.le_trans h2 hg.size⟩
theorem AgS.held {t : Int} {A : Option Addr} {c : Nat} (a : AgS w0 w B N B0 s b M H k r left cnt v S) (hM : M n = some g) (hH : H n = some h) (hk : Blk 91 w g (hdC h A c)) (hk0 : ∃ C, Blk 91 w0 g C) (q : Stored w w' g (hdC (ageH h t) A c) 91) : AgS w0 w' B N B0 s b M (setH H n (some (ageH h t))) k r left cnt v S := by
  have h1 := a.lt
  have h2 := a.sz
  obtain ⟨⟨d1, dN, _⟩, _⟩ := a.st.held n g h hM hH
  obtain ⟨C0, hk0⟩ := hk0
  refine ⟨a.lt, a.own.keep (fun x hx _ => q.2.2 x (by omega)), RngAt.far a.rg q (map_blk a.st.map hk) (by omega), a.st.aged hM hH hk q, a.bel.trans (q.2.1 B d1), fun x o hx e1 e2 => (q.2.2 x ?_).trans (a.kp x o hx e1 e2), Nat.le_trans h2 (q.2.1 0 (Nat.zero_le _)).size⟩
  rintro rfl
  rw [show w0.heap[x]? = _ from hk0] at e1
  cases e1
  simp [mineS] at e2
theorem AgS.drop {e : Ending} {C0 : Array Value} {es : Array MapEntry} {cl : Nat} (a : AgS w0 w B N B0 s b M H k r left cnt v S) (hs0 : Blk 76 w0 s C0) (hb0 : w0.heap[b]? = some (.map es cl)) (hd : DropD w s b n k M e w') : ∃ cnt', cnt' ≤ cnt ∧ AgS w0 w' B N B0 s b (putM M n none) (setH H n none) (if (M n).isSome then k - 1 else k) false left cnt' v S := by
  have h1 := a.lt
  have h2 := a.sz
  have h3 := a.st.sN
  have h4 := a.st.bN
  obtain ⟨hp, hu⟩ := hd
  have hf := hp.2.1
  obtain ⟨cnt', hc, hr⟩ := rng_del a.rg hu hp.2.2.2 (fun i g9 e => by unfold putM at e; split at e; cases e; exact e) (hf.block N (by omega) (by omega) (by omega))
  refine ⟨cnt', hc, a.lt, a.own.keep (fun x hx hx2 => hf.block x hx2 (by omega) (by omega)), hr, a.st.drop hp, a.bel.trans (hf.below a.st.hs a.st.hb (by omega)), fun x o hx e1 e2 => (hf.block x (by omega) ?_ ?_).trans (a.kp x o hx e1 e2), Nat.le_trans h2 hf.size⟩
  · rintro rfl
    rw [show w0.heap[x]? = _ from hs0] at e1
    cases e1
    simp [mineS] at e2
  · rintro rfl
    rw [hb0] at e1
    cases e1
    cases e2
theorem AgS.app {v' : Value} {x : IdI} (a : AgS w0 w B N B0 s b M H k r left cnt v S) (ho : OwnR w' B0 35 8 v' (S.length + 1) (catR (idB S) S.length (fun _ => iC x.1))) (hg : w.grownBy w' v.ownBlock) (hk : ∀ y, v.ownBlock = some y → B0 ≤ y) : AgS w0 w' B N B0 s b M H k r left cnt v' (S ++ [x]) := by
  have h1 := a.lt
  have h2 := a.sz
  have far : ∀ y, y < B0 → w'.heap[y]? = w.heap[y]? := fun y hy => hg.block y (by omega) (fun e => by have := hk y e.symm; omega)
  have h3 := a.st.bN
  exact ⟨a.lt, by rw [List.length_append]; exact OwnR.congr ho (fun j hj => id_snoc S x j hj), a.rg.at (far _ (by omega)) (far _ (by omega)), a.st.same (fun y hy => far y (by omega)), a.bel.grown hg (by have := a.bel.size; omega) (fun y e => by have := hk y e; omega), fun y o hy e1 e2 => (far y (by omega)).trans (a.kp y o hy e1 e2), Nat.le_trans h2 hg.size⟩
end
end Go.Proofs.YtkiaijmhoikdiaaGreat
