/- Texts of this claim put together; each theorem states its conditions. -/
import Derived.Test.YtccoicjmmeoggaaDoorGMacSealsCard7
import Derived.Test.YtccoicjmmeoggaaDoorGMacSealsCard8
import Derived.Test.YtccoicjmmeoggaaDoorGMacSealsCard6
import Derived.Test.YtccoicjmmeoggaaDoorGMacSealsCard4
/- The document's Seal. Each theorem states its conditions. -/
namespace Go.Proofs.YtccoicjmmeoggaaDoor
open Go.RowKit
set_option linter.unusedVariables false

theorem run_quo16 (o : Oper) (e : Operand → Value) (x y : Operand) (t u : TypeId) (ho : o.op = .binOp .quo t x y u) (n : Nat) (h0 : e x = .int .u16 (n : Int)) (h1 : e y = .int .u16 256) (W : World) (hn : n ≤ 65535) : (execOp e o).run Tryd.prog W = .ok (.value (.int .u16 ((n / 256 : Nat) : Int))) W := by
  unfold execOp
  simp only [ho, h0, h1]
  have e1 : Int.tdiv (n : Int) 256 = ((n / 256 : Nat) : Int) := by rw [Int.tdiv_eq_ediv_of_nonneg (by omega)]; rfl
  simp [go_sem, e1, IntKind.wrap_u16]
  try omega
theorem run_rem16 (o : Oper) (e : Operand → Value) (x y : Operand) (t u : TypeId) (ho : o.op = .binOp .rem t x y u) (n : Nat) (h0 : e x = .int .u16 (n : Int)) (h1 : e y = .int .u16 256) (W : World) (hn : n ≤ 65535) : (execOp e o).run Tryd.prog W = .ok (.value (.int .u16 ((n % 256 : Nat) : Int))) W := by
  unfold execOp
  simp only [ho, h0, h1]
  have e1 : Int.tmod (n : Int) 256 = ((n % 256 : Nat) : Int) := by rw [Int.tmod_eq_emod_of_nonneg (by omega)]; rfl
  simp [go_sem, e1, IntKind.wrap_u16]
  try omega
theorem run_conv16 (o : Oper) (e : Operand → Value) (x : Operand) (ho : o.op = .convert 43 5 x) (n : Nat) (v : Int) (h0 : e x = .int .u16 (n : Int)) (hn : n ≤ 255) (hv : (n : Int) = v) (W : World) : (execOp e o).run Tryd.prog W = .ok (.value (.int .u8 v)) W := by
  subst hv
  unfold execOp
  simp only [ho, h0]
  simp [go_sem, IntKind.wrap_u8]
  try omega
theorem put_hi {id : Nat} (h : id ≤ 65535) : ((id / 256 : Nat) : Int) = putZ id 2 0 := by unfold putZ qN; show ((id / 256 : Nat) : Int) = ((id / 256 ^ 1 % 256 : Nat) : Int); rw [Nat.pow_one]; omega
theorem put_lo {id : Nat} (h : id ≤ 65535) : ((id % 256 : Nat) : Int) = putZ id 2 1 := by unfold putZ qN; show ((id % 256 : Nat) : Int) = ((id / 256 ^ 0 % 256 : Nat) : Int); rw [Nat.pow_zero, Nat.div_one]
theorem zero_pdR : (Tryd.prog.info? 42).map (·.zero) = some (some (.agg (pdC pd0))) := by kernel_rfl
theorem bs_b3a (W : World) (o : Oper) (e : Operand → Value) {x1 x2 : Operand} (ho : o.op = .buildSlice 22 3 #[(0, .const (.int .u8 3)), (1, x1), (2, x2)]) (a b : Int) (hc : e (.const (.int .u8 3)) = .int .u8 3) (h1 : e x1 = .int .u8 a) (h2 : e x2 = .int .u8 b) :
    (execOp e o).run Tryd.prog W = .ok (.value (.slice (some ⟨W.heap.size, 0, none⟩) 3 3)) (W.alloc (.cells #[.int .u8 3, .int .u8 a, .int .u8 b] 5)) := by
  unfold execOp
  simp only [ho]
  simp only [List.map_toArray, List.map_cons, List.map_nil, hc, h1, h2]
  kernel_rfl
theorem bs_b3 (W : World) (o : Oper) (e : Operand → Value) {x1 x2 : Operand} (ho : o.op = .buildSlice 22 3 #[(0, .const (.int .u8 3)), (1, x1), (2, x2)]) (id : Nat) (hc : e (.const (.int .u8 3)) = .int .u8 3) (h1 : e x1 = .int .u8 (putZ id 2 0)) (h2 : e x2 = .int .u8 (putZ id 2 1)) :
    (execOp e o).run Tryd.prog W = .ok (.value (.slice (some ⟨W.heap.size, 0, none⟩) 3 3)) (W.alloc (.cells (bytC 3 (sigZ id nou)) 5)) :=
  bs_b3a W o e ho _ _ hc h1 h2
theorem mblk_own8 {w : World} {g n : Nat} {z : Nat → Int} (h : Blk 5 w g (bytC n z)) (hz : ∀ j, 0 ≤ z j ∧ z j ≤ 255) (hn : n ≤ maxLen) : Own8 w g n n z :=
  ⟨⟨_, h, Nat.le_refl _, hn, byt_size _ _, fun j hj => byt_at _ _ hj⟩, hz⟩
theorem out_blk {w : World} (w0 : World) {g n : Nat} {z : Nat → Int} (h : Blk 5 w g (bytC n z)) (hz : ∀ j, 0 ≤ z j ∧ z j ≤ 255) (hq : Below w0.heap.size w0 w ∧ w0.heap.size ≤ g) (hn : n ≤ maxLen := by decide) : HOut w0 w (.slice (some ⟨g, 0, none⟩) n n) n z [] :=
  ⟨(mblk_own8 h hz hn).ownB hq.2, hq.1, HKp.nil _, fun p hp => by cases hp⟩
/-- noughts behind bytes of the call's own, in the order of the text -/
theorem wpList_hz {ops : Array Oper} {Q : Exit → Act → World → Prop} {rest : List Oper} {op : Oper} {a : Act} {w0 w : World} {v : Value} {n : Nat} {z : Nat → Int} {l : List (Nat × Obj)} (hgd : op.guard = none) (s x : Operand)
    (ho : op.op = .call { callee := .builtin .append, args := #[s, x], argTypes := #[22, 3] })
    (hs : a.eval s = v) (h : HOut w0 w v n z l) (k : Nat) (hx : a.eval x = .int .i64 (k : Int)) (hn : n + k ≤ 140737488355328)
    (H : ∀ v' w', HOut w0 w' v' (n + k) (catZ z n nou) l → wpList Tryd.prog ops Q rest (a.put op.dst v') w') : wpList Tryd.prog ops Q (op :: rest) a w := by
  obtain ⟨v', w', h2, h3⟩ := hout_zeros s x ho hs h k hx hn
  refine wpList_plain hgd fun K hK => ?_
  unfold Oper.wp
  rw [h2, Oper.upon_value]
  exact hK _ _ (H v' w' h3)
theorem sig_cat (id : Nat) : ∀ j, j < 3 + 32 → catZ (sigZ id nou) 3 nou j = sigZ id nou j := by
  intro j _
  unfold catZ sigZ
  by_cases h : j < 3
  · rw [if_pos h, if_pos h]
  · rw [if_neg h, if_neg (show ¬ j = 0 by omega), if_neg h]
theorem it_news {w : World} {g : Nat} {t : It} (h : Blk 49 w g (itC t)) : ∀ ad, some (⟨g, 0, none⟩ : Addr) = some ad → ∀ j u, (cellsT (fun _ => t) 1)[j]? = some u → w.cell? (ad.add j) = some u := by
  intro ad ha j u hu
  injection ha with ha
  subst ha
  rw [add_none, Nat.zero_add, h.cell]
  match j, hu with
  | 0, hu => exact hu
  | 1, hu => exact hu
  | j + 2, hu => cases hu
/-- values of the call's own, between two marks -/
def LO (w : World) (base top m : Nat) (L : Nat → It) : Prop := base < w.heap.size ∧ ∀ j, j < m → (0 ≤ (L j).ty ∧ (L j).ty ≤ 255) ∧ (L j).n ≤ 140737488351232 ∧ ∃ g, (L j).A = some ⟨g, 0, none⟩ ∧ base ≤ g ∧ g < top ∧ Own8 w g (L j).n (L j).c (L j).z
section
variable {w w' : World} {base top m : Nat} {L : Nat → It}
theorem LO.lt (h : LO w base top m L) : base < w.heap.size := h.1
theorem LO.below {B : Nat} (h : LO w base top m L) (hb : Below w.heap.size w w') (hB : base < B) : LO w' base top m L :=
  ⟨Nat.lt_of_lt_of_le h.1 hb.size, fun j hj => by
    obtain ⟨h1, h2, g, h3, h4, h5, h6⟩ := h.2 j hj
    exact ⟨h1, h2, g, h3, h4, h5, h6.below hb h6.lt⟩⟩
theorem LO.far {b : Nat} {C : Array Value} {t : TypeId} (h : LO w base top m L) (hs : Stored w w' b C t) (hk : b < base ∨ top ≤ b) : LO w' base top m L :=
  ⟨Nat.lt_of_lt_of_le h.1 (hs.2.1 b (Nat.le_refl _)).size, fun j hj => by
    obtain ⟨h1, h2, g, h3, h4, h5, h6⟩ := h.2 j hj
    exact ⟨h1, h2, g, h3, h4, h5, h6.block (hs.2.2 g (by omega))⟩⟩
theorem LO.ok (h : LO w base top m L) : ∀ j, j < m → ItOk w (L j) := fun j hj => by
  obtain ⟨h1, h2, g, h3, h4, h5, h6⟩ := h.2 j hj
  exact ⟨h1, by rw [h3]; exact h6.rd, fun e => (by rw [h3] at e; cases e), h2⟩
end
theorem lo_of {w : World} {base top m : Nat} {L : Nat → It} (h : ∀ j, j < m → OwnV w base (L j)) (ht : w.heap.size = top) (hb : base < w.heap.size) : LO w base top m L :=
  ⟨hb, fun j hj => by
    obtain ⟨h1, h2, g, h3, h4, h5⟩ := h j hj
    exact ⟨h1, h2, g, h3, h4, by rw [← ht]; exact h5.lt, h5⟩⟩
/-- the list with one more, as it lies -/
theorem lo_in (t' : It) {p : Pd} {w : World} {g9 c9 base top : Nat} {cur9 : Array Value} {L2 : Nat → It} {t : It} (hK : Blk 49 w g9 cur9)
    (hQ : (cellsT (addT L2 p.m t) (p.m + 1)).length = (p.m + 1) * 2 ∧ p.m + 1 ≤ c9 ∧ c9 ≤ maxLen ∧ cur9.size = c9 * 2 ∧ cur9.toList.take ((p.m + 1) * 2) = cellsT (addT L2 p.m t) (p.m + 1)) (hL : LO w base top p.m L2) (ht : ItOk w t') (he : t.ty = t'.ty ∧ t.A = t'.A ∧ t.n = t'.n ∧ t.c = t'.c) :
    PdIn w (withT p (some ⟨g9, 0, none⟩) (p.m + 1) c9) (addT L2 p.m t') := by
  have e : cellsT (addT L2 p.m t) (p.m + 1) = cellsT (addT L2 p.m t') (p.m + 1) := cellsT_congr _ _ _ fun j hj => by
    by_cases h : j < p.m
    · rw [addT_lo _ _ _ _ h, addT_lo _ _ _ _ h]; exact ⟨rfl, rfl, rfl, rfl⟩
    · obtain rfl : j = p.m := by omega
      rw [addT_hi, addT_hi]; exact he
  rw [e] at hQ
  obtain ⟨A8, c8, e8, x1, x2, x3, x4, x5⟩ := rdT_row (w := w) (base := 0) (v := .slice (some ⟨g9, 0, none⟩) (p.m + 1) c9) (L := addT L2 p.m t') (n := p.m + 1) ⟨hQ.1, .inr ⟨g9, c9, cur9, rfl, Nat.zero_le _, hK, hQ.2⟩⟩ (fun j hj => by
    by_cases h : j < p.m
    · rw [addT_lo _ _ _ _ h]; exact hL.ok j h
    · obtain rfl : j = p.m := by omega
      rw [addT_hi]; exact ht)
  injection e8 with e81 e82 e83
  subst e81 e83
  exact ⟨x4, x1, x2⟩
theorem cls_x {p : Pd} {L : Nat → It} {m0 : Nat} (h : wrX p L m0 = 0) : cls p.kd ≤ 4 ∧ fitP p (cls p.kd) = true ∧ ¬ (m0 < p.m ∨ 1492 < hdN (cls p.kd) + sz L p.m) := by
  have hc := cls_le p.kd
  by_cases h1 : cls p.kd = 5 ∨ fitP p (cls p.kd) = false
  · rw [(wr_1 p L m0 h1).1] at h; exact absurd h (by decide)
  · by_cases h2 : m0 < p.m ∨ 1492 < hdN (cls p.kd) + sz L p.m
    · rw [(wr_2 p L m0 h1 h2).1] at h; exact absurd h (by decide)
    · refine ⟨by omega, ?_, h2⟩
      cases hf : fitP p (cls p.kd)
      · exact absurd (.inr hf) h1
      · rfl
theorem wrZ_4 {p : Pd} {L : Nat → It} {m0 : Nat} (h : wrX p L m0 = 0) : wrZ p L m0 4 = p.kd := by
  unfold wrZ
  rw [if_pos h, pd_head p _ L (cls_x h).1 4 (by omega)]
  rfl
theorem refWrite_x (p : Pd) (hp : PdOk p) (L : Nat → It) (m0 : Nat) (hm : JEnds L p.m m0) (w : World) (hin : PdIn w p L) (h : wrX p L m0 = 0) :
    Calls Tryd.prog 69 #[.agg (pdC p)] w (RwP w (wrN p L m0) (wrZ p L m0)) := by
  obtain ⟨h1, h2, h3⟩ := cls_x h
  have e : m0 = p.m := by have := hm.1; omega
  subst e
  have := refWrite_any p (cls p.kd) rfl h1 hp h2 L hm.2.1 (by omega) w hin
  unfold wrN wrZ
  rw [if_pos h, if_pos h]
  exact this
/-- an answer, told as a value -/
def BlV (w : World) (n : Nat) (z : Nat → Int) (v : Value) (w' : World) : Prop := ∃ g c, v = .slice (some ⟨g, 0, none⟩) n c ∧ w.heap.size ≤ g ∧ Own8 w' g n c z ∧ Below w.heap.size w w'
theorem BlkP.v {w w' : World} {n : Nat} {z : Nat → Int} {e : Ending} (h : BlkP w n z e w') : ∃ v, e = .returned v ∧ BlV w n z v w' := by
  obtain ⟨g, c, rfl, h⟩ := h
  exact ⟨_, rfl, g, c, rfl, h⟩
theorem RwP.vr {w w' : World} {n n' N : Nat} {z z' Z : Nat → Int} {X X2 : Int} {e : Ending} (h : RwP w n z e w') (he : X = X2 ∧ n = n' ∧ ∀ j, j < n' → z j = z' j) (hN : n' = N) (hZ : cutN N z' = Z) : ∃ v, e = .returned v ∧ BlV w N Z v w' := by
  obtain ⟨g, c, rfl, h1, h2, h3⟩ := h
  obtain ⟨_, e2, e3⟩ := he
  subst hN hZ e2
  exact ⟨_, rfl, g, c, rfl, h1, own8_cut h2 e3, h3⟩
/-- lists that are alike, and one more behind each -/
theorem sl_same {p : Pd} {L L2 : Nat → It} (A : Option Addr) (c : Nat) {id : Nat} {z : Nat → Int} (m0 : Nat) (hal : ∀ j, j < p.m → Alike (L j) (L2 j)) (t : It) (h1 : t.ty = 10) (h2 : t.n = 35) (h3 : t.z = sigZ id z) :
    wrX (withT p A (p.m + 1) c) (addT L2 p.m t) m0 = wrX (slP p) (slT L p.m id z) m0 ∧ wrN (withT p A (p.m + 1) c) (addT L2 p.m t) m0 = wrN (slP p) (slT L p.m id z) m0 ∧ ∀ j, j < wrN (slP p) (slT L p.m id z) m0 → wrZ (withT p A (p.m + 1) c) (addT L2 p.m t) m0 j = wrZ (slP p) (slT L p.m id z) m0 j := by
  have hl : AlikeL (slP p).m (slT L p.m id z) (addT L2 p.m t) := by
    intro j hj
    have hj' : j < p.m + 1 := hj
    unfold slT
    by_cases h : j < p.m
    · rw [addT_lo _ _ _ _ h, addT_lo _ _ _ _ h]
      obtain ⟨a1, a2, a3⟩ := hal j h
      exact ⟨a1, a2, fun _ _ => by rw [a3]⟩
    · obtain rfl : j = p.m := by omega
      rw [addT_hi, addT_hi]; exact ⟨h1.symm, h2.symm, fun _ _ => by rw [h3]⟩
  obtain ⟨e1, e2, e3⟩ := wr_like (p := withT p A (p.m + 1) c) (p' := slP p) ⟨rfl, rfl, fun i _ => ⟨rfl, fun W => rfl⟩⟩ (addT L2 p.m t) m0
  obtain ⟨f1, f2, f3⟩ := wr_items (p := slP p) m0 hl
  exact ⟨by rw [e1, f1], by rw [e2, f2], fun j hj => by rw [e3]; exact f3 j hj⟩
theorem sl_ends2 {L L2 : Nat → It} {m m0 id : Nat} {z : Nat → Int} (t : It) (h : t.n = 35) (hal : ∀ j, j < m → Alike (L j) (L2 j)) (hm : JEnds (slT L m id z) (m + 1) m0) : JEnds (addT L2 m t) (m + 1) m0 :=
  jends_congr (fun j hj => by
    unfold slT
    by_cases h9 : j < m
    · rw [addT_lo _ _ _ _ h9, addT_lo _ _ _ _ h9]; exact (hal j h9).2.1
    · obtain rfl : j = m := by omega
      rw [addT_hi, addT_hi]; exact h.symm) hm
/-- the first i bytes of the sum are laid -/
def sgI (id : Nat) (M : Nat → Int) (i : Nat) : Nat → Int := fun j => if 3 ≤ j ∧ j < 3 + i then M (j - 3) else sigZ id nou j
theorem sgI_0 (id : Nat) (M : Nat → Int) : sgI id M 0 = sigZ id nou := by funext j; unfold sgI; rw [if_neg (by omega)]
theorem sgI_next (id : Nat) (M : Nat → Int) (i : Nat) : upd (sgI id M i) (3 + i) (M i) = sgI id M (i + 1) := by
  funext j
  unfold upd sgI
  by_cases e : j = 3 + i
  · subst e; rw [if_pos rfl, if_pos (by omega), Nat.add_sub_cancel_left]
  · rw [if_neg e]
    by_cases h : 3 ≤ j ∧ j < 3 + i
    · rw [if_pos h, if_pos (by omega)]
    · rw [if_neg h, if_neg (by omega)]
theorem own8_zz {w : World} {g n c : Nat} {z z' : Nat → Int} (h : Own8 w g n c z) (he : ∀ j, j < n → z j = z' j) (hz : ∀ j, 0 ≤ z' j ∧ z' j ≤ 255) : Own8 w g n c z' := by
  obtain ⟨⟨cur, h1, h2, h3, h4, h5⟩, h6⟩ := h
  exact ⟨⟨cur, h1, h2, h3, h4, fun j hj => by rw [← he j hj]; exact h5 j hj⟩, hz⟩
theorem sgI_all (id : Nat) (M : Nat → Int) : ∀ j, j < 35 → sgI id M 32 j = sigZ id M j := by
  intro j hj
  unfold sgI sigZ
  by_cases h : 3 ≤ j ∧ j < 3 + 32
  · rw [if_pos h, if_neg (show ¬ j = 0 by omega), if_neg (show ¬ j < 3 by omega)]
  · have h3 : j < 3 := by omega
    by_cases h0 : j = 0
    · simp only [if_neg h, if_pos h0]
    · simp only [if_neg h, if_neg h0, if_pos h3]
set_option maxHeartbeats 40000000 in
set_option maxRecDepth 100000 in
theorem refSeal_any (p : Pd) (hp : PdOk p) (L : Nat → It) (m0 id : Nat) (A : Option Addr) (sn sc : Nat) (k : Nat → Int) (hm : JEnds (slT L p.m id nou) (p.m + 1) m0) (w : World) (hR : RdT w p.A p.m L) (hA : p.A = none → p.m = 0 ∧ p.c = 0) (h32 : p.m * 32 ≤ 140737488351232)
    (hid : id ≤ 65535) (hk : Rd w A sn k) (hkA : A = none → sn = 0 ∧ sc = 0) (h0 : seX p L m0 id sn false = 0) :
    Calls Tryd.prog 44 #[.agg (pdC p), .agg (keyC id A sn sc)] w (BlkP w (seN p L m0 id sn false) (seZ p L m0 id k sn false)) := by
  have HP := Lib.hid hp
  have HM := Lib.hid hm
  have HR := Lib.hid hR
  have HA := Lib.hid hA
  have H32 := Lib.hid h32
  have HID := Lib.hid hid
  have HK := Lib.hid hk
  have HKA := Lib.hid hkA
  have HE0 := Lib.hid h0
  have hz := lea_zero (show lea (wrX (slP p) (slT L p.m id nou) m0) (secE sn) = 0 from h0)
  have HX0 := Lib.hid hz.1
  have HSN := Lib.hid (secE_zero hz.2)
  obtain ⟨Nu, hNu⟩ : ∃ N, wrN (slP p) (slT L p.m id nou) m0 = N := ⟨_, rfl⟩
  have bN := wrN_le (slP p) (slT L p.m id nou) m0
  have b54 := sl_54 HX0.out
  rw [hNu] at bN b54
  obtain ⟨Zu, hZu⟩ : ∃ Z, cutN Nu (wrZ (slP p) (slT L p.m id nou) m0) = Z := ⟨_, rfl⟩
  have h4 : Zu 4 = p.kd := by rw [← hZu, cutN_lt _ (by omega)]; exact wrZ_4 HX0.out
  have HNu := Lib.hid hNu
  have HZu := Lib.hid hZu
  have H4 := Lib.hid h4
  have BN := Lib.hid (And.intro b54 bN)
  obtain ⟨M, hM⟩ : ∃ M, hmacZ k sn (blkZ (p.kd = 18 ∨ p.kd = 20) Zu Nu) Nu = M := ⟨_, rfl⟩
  have HMM := Lib.hid hM
  have HMB : Hid (∀ j, 0 ≤ M j ∧ M j ≤ 255) := Lib.hid (by rw [← hM]; exact dg_bd _)
  have hid2 : (0 : Int) ≤ (id : Int) ∧ (id : Int) ≤ 65535 := ⟨by omega, by omega⟩
  clear hp hm hR hA h32 hid hk hkA h0 hz hNu hZu bN b54 h4 hM
  go_enter Tryd.func44, Tryd.ntmps44
  have HB := Lib.hid (Below.refl w.heap.size w)
  obtain ⟨N1, hN1⟩ : ∃ N, w.heap.size = N := ⟨_, rfl⟩
  have HN1 := Lib.hid hN1
  clear hN1
  go_wp2_with (refine wpList_box (op := ⟨some 2, _, _, _, _, _⟩) rfl 42 (.tmp 0) rfl (pdC p) rfl N1 HN1.out ?_; intro w1 k1 b1 s1; refine Hid.out ?_)
  refine Lib.hid ?_
  have KP := Lib.hid k1
  clear k1
  have le_HB_N1 : w.heap.size ≤ N1 := by rw [← HN1.out]; exact HB.out.size
  have HBn := Lib.hid (HB.out.trans (b1.mono HB.out.size))
  clear HB
  have HB := HBn
  clear HBn
  clear b1 HN1
  obtain ⟨N2, hN2⟩ : ∃ N, w1.heap.size = N := ⟨_, rfl⟩
  have HN2 := Lib.hid hN2
  clear hN2
  go_wp2_with (refine wpList_box (op := ⟨some 3, _, _, _, _, _⟩) rfl 45 (.tmp 1) rfl (keyC id A sn sc) rfl N2 HN2.out ?_; intro w2 k1 b1 s1; refine Hid.out ?_)
  refine Lib.hid ?_
  have KK := Lib.hid k1
  clear k1
  have lt_N1_N2 : N1 < N2 := by rw [← HN2.out]; exact KP.out.lt
  have le_HB_N2 : w.heap.size ≤ N2 := by rw [← HN2.out]; exact HB.out.size
  have KPn := Lib.hid (KP.out.below b1 KP.out.lt)
  clear KP
  have KP := KPn
  clear KPn
  have HBn := Lib.hid (HB.out.trans (b1.mono HB.out.size))
  clear HB
  have HB := HBn
  clear HBn
  clear b1 HN2
  have ci : w2.cell? ⟨N2, 0, none⟩ = some (.int .u16 (id : Int)) := (KK.out.cell 0).trans rfl
  go_wp2_with (refine wpList_v (op := ⟨some 11, _, _, _, _, _⟩) rfl (.int .u16 ((id / 256 : Nat) : Int)) (run_quo16 _ _ _ _ _ _ rfl id rfl rfl _ HID.out) ?_; refine Hid.out ?_)
  refine Lib.hid ?_
  go_wp2_with (refine wpList_v (op := ⟨some 12, _, _, _, _, _⟩) rfl (.int .u8 (putZ id 2 0)) (run_conv16 _ _ _ rfl (id / 256) _ rfl (by have := HID.out; omega) (put_hi HID.out) _) ?_; refine Hid.out ?_)
  refine Lib.hid ?_
  go_wp2_with (refine wpList_v (op := ⟨some 15, _, _, _, _, _⟩) rfl (.int .u16 ((id % 256 : Nat) : Int)) (run_rem16 _ _ _ _ _ _ rfl id rfl rfl _ HID.out) ?_; refine Hid.out ?_)
  refine Lib.hid ?_
  go_wp2_with (refine wpList_v (op := ⟨some 16, _, _, _, _, _⟩) rfl (.int .u8 (putZ id 2 1)) (run_conv16 _ _ _ rfl (id % 256) _ rfl (by omega) (put_lo HID.out) _) ?_; refine Hid.out ?_)
  refine Lib.hid ?_
  clear ci
  obtain ⟨N3, hN3⟩ : ∃ N, w2.heap.size = N := ⟨_, rfl⟩
  have HN3 := Lib.hid hN3
  clear hN3
  go_wp2_with (refine wpList_bsn (op := ⟨some 17, _, _, _, _, _⟩) 3 rfl 5 (bytC 3 (sigZ id nou)) (bs_b3 _ _ _ rfl _ rfl rfl rfl) N3 HN3.out ?_; intro w3 k1 b1 s1; refine Hid.out ?_)
  refine Lib.hid ?_
  have KB := Lib.hid k1
  have HQB := Lib.hid (And.intro b1 (Nat.le_of_eq HN3.out))
  clear k1
  clear b1 HN3
  have HOB : Hid (HOut w2 w3 (.slice (some ⟨N3, 0, none⟩) 3 3) 3 (sigZ id nou) []) := Lib.hid (out_blk w2 KB.out (sigZ_bd id nou_bd) HQB.out)
  clear KB HQB
  go_wp2_with (at_builtin; refine wpList_hz rfl (.tmp 17) (.const (.int .i64 32)) rfl rfl HOB.out 32 rfl (by decide) ?_; intro v18 w18 ho18; refine Hid.out ?_)
  refine Lib.hid ?_
  have ho19 := ho18.zz (z' := sigZ id nou) (sig_cat id) (sigZ_bd id nou_bd)
  obtain ⟨gs, cs, rfl, hgs, hos⟩ := own_ofB ho19.1 (by decide)
  have b1 := ho19.2.1
  have lt_N1_gs : N1 < gs := Nat.lt_of_lt_of_le KP.out.lt hgs
  have lt_N2_gs : N2 < gs := Nat.lt_of_lt_of_le KK.out.lt hgs
  have le_gs : w.heap.size ≤ gs := Nat.le_trans HB.out.size hgs
  have KPn := Lib.hid (KP.out.below b1 KP.out.lt)
  clear KP
  have KP := KPn
  clear KPn
  have KKn := Lib.hid (KK.out.below b1 KK.out.lt)
  clear KK
  have KK := KKn
  clear KKn
  have HBn := Lib.hid (HB.out.trans (b1.mono HB.out.size))
  clear HB
  have HB := HBn
  clear HBn
  have KS : Hid (By8 w18 gs 35 cs (sigZ id nou)) := Lib.hid hos
  have HCS := Lib.hid (And.intro hos.caps.1 hos.caps.2)
  clear ho18 ho19 hgs hos b1 HOB
  go_wp2_with (refine wpList_ld (op := ⟨some 19, _, _, _, _, _⟩) (by rfl) 42 (.tmp 2) rfl N1 0 rfl (pdC p) _ KP.out.all Tryd.underlying42 rfl info_pdR ?_; refine Hid.out ?_)
  refine Lib.hid ?_
  obtain ⟨N21, hN21⟩ : ∃ N, w18.heap.size = N := ⟨_, rfl⟩
  have HN21 := Lib.hid hN21
  clear hN21
  go_wp2_with (refine wpList_new (op := ⟨some 6, _, _, _, _, _⟩) rfl 42 rfl (pdC pd0) zero_pdR N21 HN21.out ?_; intro w21 k1 b1 s1; refine Hid.out ?_)
  refine Lib.hid ?_
  have K6 := Lib.hid k1
  clear k1
  have lt_N1_N21 : N1 < N21 := by rw [← HN21.out]; exact KP.out.lt
  have lt_N2_N21 : N2 < N21 := by rw [← HN21.out]; exact KK.out.lt
  have lt_gs_N21 : gs < N21 := by rw [← HN21.out]; exact KS.out.lt
  have le_HB_N21 : w.heap.size ≤ N21 := by rw [← HN21.out]; exact HB.out.size
  have KPn := Lib.hid (KP.out.below b1 KP.out.lt)
  clear KP
  have KP := KPn
  clear KPn
  have KKn := Lib.hid (KK.out.below b1 KK.out.lt)
  clear KK
  have KK := KKn
  clear KKn
  have KSn := Lib.hid (KS.out.below b1 KS.out.lt)
  clear KS
  have KS := KSn
  clear KSn
  have HBn := Lib.hid (HB.out.trans (b1.mono HB.out.size))
  clear HB
  have HB := HBn
  clear HBn
  clear b1 HN21
  go_wp2_with (refine wpList_st rfl 42 (.tmp 6) (.tmp 19) rfl N21 0 rfl (.agg (pdC p)) (pdC p) rfl rfl info_pdR (pdC_one _) K6.out (Nat.le_of_ble_eq_true rfl) (C' := pdC p) (pd_over _ _) ?_; intro w30 q1; refine Hid.out ?_)
  refine Lib.hid ?_
  have KPn := Lib.hid (KP.out.far q1 (by omega))
  clear KP
  have KP := KPn
  clear KPn
  have KKn := Lib.hid (KK.out.far q1 (by omega))
  clear KK
  have KK := KKn
  clear KKn
  have KSn := Lib.hid (KS.out.far q1 (by omega))
  clear KS
  have KS := KSn
  clear KSn
  have HBn := Lib.hid (HB.out.trans (q1.2.1 _ (by omega)))
  clear HB
  have HB := HBn
  clear HBn
  have K6n : Hid (Blk 42 w30 N21 (pdC p)) := Lib.hid q1.1
  clear K6
  have K6 := K6n
  clear K6n q1
  have cp : w30.cell? ⟨N1, 46, none⟩ = some (.slice p.A p.m p.c) := (KP.out.cell 46).trans (pd_46 p)
  go_wp2_with fail
  refine (twinT_any p.A p.m p.c L w30 (HR.out.below HB.out) H32.out).mono ?_
  rintro e w31 ⟨v22, L2, rfl, ho, hal, b1⟩
  have HT := Lib.hid ho
  have HAL := Lib.hid hal
  have HB22 := Lib.hid b1
  clear ho hal b1 cp
  go_wp2_with (refine wpList_v (op := ⟨some 24, _, _, _, _, _⟩) rfl (.agg (itC ⟨10, some ⟨gs, 0, none⟩, 35, cs, sigZ id nou⟩)) (build_it _ _ _ _ rfl ⟨10, some ⟨gs, 0, none⟩, 35, cs, sigZ id nou⟩ rfl rfl _) ?_; refine Hid.out ?_)
  refine Lib.hid ?_
  obtain ⟨N41, hN41⟩ : ∃ N, w31.heap.size = N := ⟨_, rfl⟩
  have HN41 := Lib.hid hN41
  clear hN41
  go_wp2_with (refine wpList_bsn (op := ⟨some 25, _, _, _, _, _⟩) 1 rfl 49 (itC ⟨10, some ⟨gs, 0, none⟩, 35, cs, sigZ id nou⟩) (bs_one _ _ _ rfl ⟨10, some ⟨gs, 0, none⟩, 35, cs, sigZ id nou⟩ rfl) N41 HN41.out ?_; intro w41 k1 b1 s1; refine Hid.out ?_)
  refine Lib.hid ?_
  have KT := Lib.hid k1
  clear k1
  have le_HB22_N41 : w30.heap.size ≤ N41 := by rw [← HN41.out]; exact HB22.out.size
  have HTn := Lib.hid (HT.out.below b1)
  clear HT
  have HT := HTn
  clear HTn
  have HB22n := Lib.hid (HB22.out.trans (b1.mono HB22.out.size))
  clear HB22
  have HB22 := HB22n
  clear HB22n
  clear b1 HN41
  obtain ⟨i0, hi, hz0, hz1, hz2⟩ := info_parts info_tlv
  go_wp2_with (at_builtin; refine wpList_append_any rfl (.tmp 22) (.tmp 25) 40 rfl w30.heap.size 49 i0 _ 2 32 Tryd.underlying40 hi hz0 hz1 hz2 rfl (by decide) _ _ _ rfl HT.out.1 (some ⟨N41, 0, none⟩) 1 1 (cellsT (fun _ => ⟨10, some ⟨gs, 0, none⟩, 35, cs, sigZ id nou⟩) 1) rfl (cellsT_len _ _) (fun e => by cases e) (it_news KT.out) (cellsT_one _ _) (by have := H32.out; unfold maxLen; omega) (by have := H32.out; omega) HB22.out.size ?_; intro v26 w50 ho hgr; refine Hid.out ?_)
  refine Lib.hid ?_
  rw [cellsT_cat] at ho
  have b1 := HB22.out.grown hgr HB22.out.size (fun x e => (HT.out.1.lt x e).1)
  obtain ⟨g9, c9, cur9, rfl, hg9, hc9, h91, h92, h93, h94⟩ := ho.2.resolve_left (fun h => by have := h.2; omega)
  have lt_N1_g9 : N1 < g9 := Nat.lt_of_lt_of_le KP.out.lt hg9
  have lt_N2_g9 : N2 < g9 := Nat.lt_of_lt_of_le KK.out.lt hg9
  have lt_gs_g9 : gs < g9 := Nat.lt_of_lt_of_le KS.out.lt hg9
  have lt_N21_g9 : N21 < g9 := Nat.lt_of_lt_of_le K6.out.lt hg9
  have le_g9 : w.heap.size ≤ g9 := Nat.le_trans HB.out.size hg9
  obtain ⟨B9, hB9⟩ : ∃ B, w30.heap.size = B := ⟨_, rfl⟩
  obtain ⟨T9, hT9⟩ : ∃ B, w50.heap.size = B := ⟨_, rfl⟩
  have lt_N1_B9 : N1 < B9 := by rw [← hB9]; exact KP.out.lt
  have lt_N2_B9 : N2 < B9 := by rw [← hB9]; exact KK.out.lt
  have lt_gs_B9 : gs < B9 := by rw [← hB9]; exact KS.out.lt
  have lt_N21_B9 : N21 < B9 := by rw [← hB9]; exact K6.out.lt
  have hlo : LO w50 B9 T9 p.m L2 := lo_of (fun j hj => by rw [← hB9]; exact ownV_grown (v' := .slice none 0 0) (HT.out.2 j hj) HT.out.1 hgr) hT9 (by rw [← hB9]; exact Nat.lt_of_lt_of_le (Nat.lt_of_le_of_lt le_HB22_N41 KT.out.lt) hgr.size)
  have HQ := Lib.hid (And.intro ho.1 (And.intro h91 (And.intro h92 (And.intro h93 h94))))
  have KPn := Lib.hid (KP.out.below b1 KP.out.lt)
  clear KP
  have KP := KPn
  clear KPn
  have KKn := Lib.hid (KK.out.below b1 KK.out.lt)
  clear KK
  have KK := KKn
  clear KKn
  have KSn := Lib.hid (KS.out.below b1 KS.out.lt)
  clear KS
  have KS := KSn
  clear KSn
  have K6n := Lib.hid (K6.out.below b1 K6.out.lt)
  clear K6
  have K6 := K6n
  clear K6n
  have HBn := Lib.hid (HB.out.trans (b1.mono HB.out.size))
  clear HB
  have HB := HBn
  clear HBn
  have K9 : Hid (Blk 49 w50 g9 cur9) := Lib.hid hc9
  have KL := Lib.hid hlo
  have lt_g9_T9 : g9 < T9 := by rw [← hT9]; exact K9.out.lt
  have lt_B9_T9 : B9 < T9 := by rw [← hT9]; exact KL.out.lt
  have HT9 := Lib.hid hT9
  clear ho h91 h92 h93 h94 hg9 b1 hc9 hgr hlo hi hz0 hz1 hz2 hB9 hT9 HT HB22 KT
  go_wp2_with (refine wpList_st rfl 40 (.tmp 27) (.tmp 26) rfl N21 46 rfl (.slice (some ⟨g9, 0, none⟩) (p.m + 1) c9) (#[.slice (some ⟨g9, 0, none⟩) (p.m + 1) c9]) rfl rfl info_lt one_sl K6.out (Nat.le_of_ble_eq_true rfl) (C' := pdC (withT p (some ⟨g9, 0, none⟩) (p.m + 1) c9)) (pd_put _ _ _ _) ?_; intro w61 q1; refine Hid.out ?_)
  refine Lib.hid ?_
  have T9le : Hid (T9 ≤ w61.heap.size) := Lib.hid (by rw [← HT9.out]; exact (q1.2.1 0 (Nat.zero_le _)).size)
  have KPn := Lib.hid (KP.out.far q1 (by omega))
  clear KP
  have KP := KPn
  clear KPn
  have KKn := Lib.hid (KK.out.far q1 (by omega))
  clear KK
  have KK := KKn
  clear KKn
  have KSn := Lib.hid (KS.out.far q1 (by omega))
  clear KS
  have KS := KSn
  clear KSn
  have K9n := Lib.hid (K9.out.far q1 (by omega))
  clear K9
  have K9 := K9n
  clear K9n
  have KLn := Lib.hid (KL.out.far q1 (by omega))
  clear KL
  have KL := KLn
  clear KLn
  have HBn := Lib.hid (HB.out.trans (q1.2.1 _ (by omega)))
  clear HB
  have HB := HBn
  clear HBn
  have K6n : Hid (Blk 42 w61 N21 (pdC (withT p (some ⟨g9, 0, none⟩) (p.m + 1) c9))) := Lib.hid q1.1
  clear K6
  have K6 := K6n
  clear K6n q1
  have HT := Lib.hid (Below.refl w61.heap.size w61)
  go_wp2_with fail
  go_cut [7] (fun s1 wc => ∃ N, s1 = .pointer (some ⟨N, 0, none⟩) ∧ T9 ≤ N ∧ Hid (Blk 26 wc N (bytC 32 M)) ∧ N1 < N ∧ Hid (Blk 42 wc N1 (pdC p)) ∧ N2 < N ∧ Hid (Blk 45 wc N2 (keyC id A sn sc)) ∧ gs < N ∧ Hid (By8 wc gs 35 cs (sigZ id nou)) ∧ N21 < N ∧ Hid (Blk 42 wc N21 (pdC (withT p (some ⟨g9, 0, none⟩) (p.m + 1) c9))) ∧ g9 < N ∧ Hid (Blk 49 wc g9 (cur9)) ∧ B9 < N ∧ Hid (LO wc B9 T9 p.m L2) ∧ w.heap.size ≤ N ∧ Hid (Below w.heap.size w wc) ∧ w61.heap.size ≤ N ∧ Hid (Below w61.heap.size w61 wc))
  case first =>
    refine wp_region_held_drew (S := fun w' => Blk 42 w' N1 (pdC p) ∧ Blk 45 w' N2 (keyC id A sn sc) ∧ By8 w' gs 35 cs (sigZ id nou) ∧ Blk 42 w' N21 (pdC (withT p (some ⟨g9, 0, none⟩) (p.m + 1) c9)) ∧ Blk 49 w' g9 (cur9) ∧ LO w' B9 T9 p.m L2 ∧ Below w.heap.size w w' ∧ Below w61.heap.size w61 w') (by kernel_rfl) ⟨KP.out, KK.out, KS.out, K6.out, K9.out, KL.out, HB.out.drew, HT.out.drew⟩ (fun hS => ?_)
    generalize hW101 : w61.drew = W101 at hS  ⊢
    clear hW101
    clear KP
    clear KK
    clear KS
    clear K6
    clear K9
    clear KL
    clear HB
    clear HT
    have KP := Lib.hid hS.1
    have KK := Lib.hid hS.2.1
    have KS := Lib.hid hS.2.2.1
    have K6 := Lib.hid hS.2.2.2.1
    have K9 := Lib.hid hS.2.2.2.2.1
    have KL := Lib.hid hS.2.2.2.2.2.1
    have HB := Lib.hid hS.2.2.2.2.2.2.1
    have HT := Lib.hid hS.2.2.2.2.2.2.2
    refine takeY (i := 0) (some 28) (v := .pointer (some ⟨N2, 1, none⟩)) rfl rfl (by kernel_rfl) (by kernel_rfl) (by kernel_rfl) (fun _ _ _ h => h) (by rfl) (fun w' hS => by go_simp) hS ?_
    simp only [Act.put, List.setIfInBounds_toArray, List.set_cons_zero, List.set_cons_succ]
    refine takeY (i := 1) (some 29) (v := .slice A sn sc) rfl rfl (by kernel_rfl) (by kernel_rfl) (by kernel_rfl) (fun _ _ _ h => h) (by rfl) (fun w' hS => by (have c9 : w'.cell? ⟨N2, 1, none⟩ = some (.slice A sn sc) := (hS.2.1.cell 1).trans rfl; clear hS; go_simp)) hS ?_
    simp only [Act.put, List.setIfInBounds_toArray, List.set_cons_zero, List.set_cons_succ]
    refine takeL (i := 2) (some 30) 42 (.tmp 6) N21 0 (pdC (withT p (some ⟨g9, 0, none⟩) (p.m + 1) c9)) _ rfl rfl (by kernel_rfl) (by kernel_rfl) (by kernel_rfl) (fun _ _ _ h => h) (by rfl) rfl rfl (fun w' hS => hS.2.2.2.1.all) Tryd.underlying42 rfl info_pdR hS ?_
    simp only [Act.put, List.setIfInBounds_toArray, List.set_cons_zero, List.set_cons_succ]
    obtain ⟨M0, hM0⟩ : ∃ N, W101.heap.size = N := ⟨_, rfl⟩
    have HM0 := Lib.hid hM0
    clear hM0
    refine wpAnyH_ready (show Region.ready _ _ _ = [3, 6] from by kernel_rfl) (by simp) (consCE (i := 3) (some 31) 69 #[.agg (pdC (withT p (some ⟨g9, 0, none⟩) (p.m + 1) c9))] (R := fun v w' => BlV W101 Nu Zu v w') rfl rfl (by rfl) (by go_simp) ((refWrite_x (withT p (some ⟨g9, 0, none⟩) (p.m + 1) c9) HP.out (addT L2 p.m ⟨10, some ⟨gs, 0, none⟩, 35, cs, sigZ id nou⟩) m0 (sl_ends2 ⟨10, some ⟨gs, 0, none⟩, 35, cs, sigZ id nou⟩ rfl HAL.out HM.out) W101 (lo_in ⟨10, some ⟨gs, 0, none⟩, 35, cs, sigZ id nou⟩ K9.out HQ.out KL.out (it_ok KS.out) ⟨rfl, rfl, rfl, rfl⟩) ((sl_same (some ⟨g9, 0, none⟩) c9 m0 HAL.out ⟨10, some ⟨gs, 0, none⟩, 35, cs, sigZ id nou⟩ rfl rfl rfl).1.trans HX0.out)).mono fun e w' h => h.vr (sl_same (some ⟨g9, 0, none⟩) c9 m0 HAL.out ⟨10, some ⟨gs, 0, none⟩, 35, cs, sigZ id nou⟩ rfl rfl rfl) HNu.out HZu.out) (fun v w' h => by obtain ⟨gu, cu, rfl, hgu, hu, hbu⟩ := h; exact ⟨hS.1.below hbu hS.1.lt, hS.2.1.below hbu hS.2.1.lt, hS.2.2.1.below hbu hS.2.2.1.lt, hS.2.2.2.1.below hbu hS.2.2.2.1.lt, hS.2.2.2.2.1.below hbu hS.2.2.2.2.1.lt, hS.2.2.2.2.2.1.below hbu hS.2.2.2.2.2.1.lt, hS.2.2.2.2.2.2.1.trans (hbu.mono hS.2.2.2.2.2.2.1.size), hS.2.2.2.2.2.2.2.trans (hbu.mono hS.2.2.2.2.2.2.2.size)⟩) ?_ (consMk (i := 6) (some 7) 26 (bytC 32 fun _ => 0) rfl rfl (by rfl) rfl zero_d M0 HM0.out ?_ AllReadyH.nil))
    · skip
      clear HM0
      intro v W102 h hS2
      obtain ⟨gu, cu, rfl, hgu, hu, hbu⟩ := h
      simp only [Act.put, List.setIfInBounds_toArray, List.set_cons_zero, List.set_cons_succ]
      clear KP
      clear KK
      clear KS
      clear K6
      clear K9
      clear KL
      clear HB
      clear HT
      clear hS
      have hS := hS2
      clear hS2
      have KP := Lib.hid hS.1
      have KK := Lib.hid hS.2.1
      have KS := Lib.hid hS.2.2.1
      have K6 := Lib.hid hS.2.2.2.1
      have K9 := Lib.hid hS.2.2.2.2.1
      have KL := Lib.hid hS.2.2.2.2.2.1
      have HB := Lib.hid hS.2.2.2.2.2.2.1
      have HT := Lib.hid hS.2.2.2.2.2.2.2
      have HU : Hid (ByO W102 gu Nu cu Zu) := Lib.hid hu
      clear hu hbu hgu
      obtain ⟨M1, hM1⟩ : ∃ N, W102.heap.size = N := ⟨_, rfl⟩
      have HM1 := Lib.hid hM1
      clear hM1
      refine wpAnyH_ready (show Region.ready _ _ _ = [4, 6] from by kernel_rfl) (by simp) (consCE (i := 4) (some 32) 49 #[.slice (some ⟨gu, 0, none⟩) Nu cu] (R := fun v w' => BlV W102 Nu (blkZ (p.kd = 18 ∨ p.kd = 20) Zu Nu) v w') rfl rfl (by rfl) (by go_simp) ((blank_any (some ⟨gu, 0, none⟩) Nu cu Zu p.kd W102 H4.out (Own8.rd HU.out) (fun e => by cases e) BN.out.1 BN.out.2).mono fun e w' h => h.v) (fun v w' h => by obtain ⟨gb, cb, rfl, hgb, hu, hbu⟩ := h; exact ⟨hS.1.below hbu hS.1.lt, hS.2.1.below hbu hS.2.1.lt, hS.2.2.1.below hbu hS.2.2.1.lt, hS.2.2.2.1.below hbu hS.2.2.2.1.lt, hS.2.2.2.2.1.below hbu hS.2.2.2.2.1.lt, hS.2.2.2.2.2.1.below hbu hS.2.2.2.2.2.1.lt, hS.2.2.2.2.2.2.1.trans (hbu.mono hS.2.2.2.2.2.2.1.size), hS.2.2.2.2.2.2.2.trans (hbu.mono hS.2.2.2.2.2.2.2.size)⟩) ?_ (consMk (i := 6) (some 7) 26 (bytC 32 fun _ => 0) rfl rfl (by rfl) rfl zero_d M1 HM1.out ?_ AllReadyH.nil))
      · skip
        clear HM1
        intro v W103 h hS2
        obtain ⟨gb, cb, rfl, hgb, hu, hbu⟩ := h
        simp only [Act.put, List.setIfInBounds_toArray, List.set_cons_zero, List.set_cons_succ]
        have HUn := Lib.hid (HU.out.below hbu)
        clear HU
        have HU := HUn
        clear HUn
        clear KP
        clear KK
        clear KS
        clear K6
        clear K9
        clear KL
        clear HB
        clear HT
        clear hS
        have hS := hS2
        clear hS2
        have KP := Lib.hid hS.1
        have KK := Lib.hid hS.2.1
        have KS := Lib.hid hS.2.2.1
        have K6 := Lib.hid hS.2.2.2.1
        have K9 := Lib.hid hS.2.2.2.2.1
        have KL := Lib.hid hS.2.2.2.2.2.1
        have HB := Lib.hid hS.2.2.2.2.2.2.1
        have HT := Lib.hid hS.2.2.2.2.2.2.2
        have HV : Hid (ByO W103 gb Nu cb (blkZ (p.kd = 18 ∨ p.kd = 20) Zu Nu)) := Lib.hid hu
        clear hu hbu hgb
        obtain ⟨M2, hM2⟩ : ∃ N, W103.heap.size = N := ⟨_, rfl⟩
        have HM2 := Lib.hid hM2
        clear hM2
        refine wpAnyH_ready (show Region.ready _ _ _ = [5, 6] from by kernel_rfl) (by simp) (consCE (i := 5) (some 33) 15 #[.slice A sn sc, .slice (some ⟨gb, 0, none⟩) Nu cb] (R := fun v w' => v = .agg (bytC 32 M) ∧ Below W103.heap.size W103 w') rfl rfl (by rfl) (by go_simp) ((rhmac_any A sn sc k (some ⟨gb, 0, none⟩) Nu cb _ W103 (HK.out.below HB.out rfl) (Own8.rd HV.out) (fun e => by cases e) HSN.out.2 (by have := BN.out; omega)).mono fun e w' h => ⟨_, h.1, by rw [HMM.out], h.2⟩) (fun v w' h => by obtain ⟨rfl, hbu⟩ := h; exact ⟨hS.1.below hbu hS.1.lt, hS.2.1.below hbu hS.2.1.lt, hS.2.2.1.below hbu hS.2.2.1.lt, hS.2.2.2.1.below hbu hS.2.2.2.1.lt, hS.2.2.2.2.1.below hbu hS.2.2.2.2.1.lt, hS.2.2.2.2.2.1.below hbu hS.2.2.2.2.2.1.lt, hS.2.2.2.2.2.2.1.trans (hbu.mono hS.2.2.2.2.2.2.1.size), hS.2.2.2.2.2.2.2.trans (hbu.mono hS.2.2.2.2.2.2.2.size)⟩) ?_ (consMk (i := 6) (some 7) 26 (bytC 32 fun _ => 0) rfl rfl (by rfl) rfl zero_d M2 HM2.out ?_ AllReadyH.nil))
        · skip
          clear HM2
          intro v W104 h hS2
          obtain ⟨rfl, hbu⟩ := h
          simp only [Act.put, List.setIfInBounds_toArray, List.set_cons_zero, List.set_cons_succ]
          have HUn := Lib.hid (HU.out.below hbu)
          clear HU
          have HU := HUn
          clear HUn
          have HVn := Lib.hid (HV.out.below hbu)
          clear HV
          have HV := HVn
          clear HVn
          clear KP
          clear KK
          clear KS
          clear K6
          clear K9
          clear KL
          clear HB
          clear HT
          clear hS
          have hS := hS2
          clear hS2
          have KP := Lib.hid hS.1
          have KK := Lib.hid hS.2.1
          have KS := Lib.hid hS.2.2.1
          have K6 := Lib.hid hS.2.2.2.1
          have K9 := Lib.hid hS.2.2.2.2.1
          have KL := Lib.hid hS.2.2.2.2.2.1
          have HB := Lib.hid hS.2.2.2.2.2.2.1
          have HT := Lib.hid hS.2.2.2.2.2.2.2
          clear hbu HU HV
          obtain ⟨M3, hM3⟩ : ∃ N, W104.heap.size = N := ⟨_, rfl⟩
          have HM3 := Lib.hid hM3
          clear hM3
          refine takeMk (i := 6) (some 7) 26 (bytC 32 fun _ => 0) rfl rfl (by kernel_rfl) (by rfl) rfl zero_d M3 HM3.out ?_
          intro W105 k1 b1 s1
          refine ⟨⟨hS.1.below b1 hS.1.lt, hS.2.1.below b1 hS.2.1.lt, hS.2.2.1.below b1 hS.2.2.1.lt, hS.2.2.2.1.below b1 hS.2.2.2.1.lt, hS.2.2.2.2.1.below b1 hS.2.2.2.2.1.lt, hS.2.2.2.2.2.1.below b1 hS.2.2.2.2.2.1.lt, hS.2.2.2.2.2.2.1.trans (b1.mono hS.2.2.2.2.2.2.1.size), hS.2.2.2.2.2.2.2.trans (b1.mono hS.2.2.2.2.2.2.2.size)⟩, ?_⟩
          simp only [Act.put, List.setIfInBounds_toArray, List.set_cons_zero, List.set_cons_succ]
          have K7 := Lib.hid k1
          clear k1
          have lt_N1_M3 : N1 < M3 := by rw [← HM3.out]; exact KP.out.lt
          have lt_N2_M3 : N2 < M3 := by rw [← HM3.out]; exact KK.out.lt
          have lt_gs_M3 : gs < M3 := by rw [← HM3.out]; exact KS.out.lt
          have lt_N21_M3 : N21 < M3 := by rw [← HM3.out]; exact K6.out.lt
          have lt_g9_M3 : g9 < M3 := by rw [← HM3.out]; exact K9.out.lt
          have lt_B9_M3 : B9 < M3 := by rw [← HM3.out]; exact KL.out.lt
          have le_HB_M3 : w.heap.size ≤ M3 := by rw [← HM3.out]; exact HB.out.size
          have le_HT_M3 : w61.heap.size ≤ M3 := by rw [← HM3.out]; exact HT.out.size
          have KPn := Lib.hid (KP.out.below b1 KP.out.lt)
          clear KP
          have KP := KPn
          clear KPn
          have KKn := Lib.hid (KK.out.below b1 KK.out.lt)
          clear KK
          have KK := KKn
          clear KKn
          have KSn := Lib.hid (KS.out.below b1 KS.out.lt)
          clear KS
          have KS := KSn
          clear KSn
          have K6n := Lib.hid (K6.out.below b1 K6.out.lt)
          clear K6
          have K6 := K6n
          clear K6n
          have K9n := Lib.hid (K9.out.below b1 K9.out.lt)
          clear K9
          have K9 := K9n
          clear K9n
          have KLn := Lib.hid (KL.out.below b1 KL.out.lt)
          clear KL
          have KL := KLn
          clear KLn
          have HBn := Lib.hid (HB.out.trans (b1.mono HB.out.size))
          clear HB
          have HB := HBn
          clear HBn
          have HTn := Lib.hid (HT.out.trans (b1.mono HT.out.size))
          clear HT
          have HT := HTn
          clear HTn
          clear b1 HM3 hS
          have hS := (And.intro KP.out (And.intro KK.out (And.intro KS.out (And.intro K6.out (And.intro K9.out (And.intro KL.out (And.intro HB.out HT.out)))))))
          have T9l := T9le.out
          refine takeSt (i := 7) 26 (.tmp 7) (.tmp 33) M3 0 (.agg (bytC 32 M)) (bytC 32 M) (bytC 32 M) rfl rfl (by kernel_rfl) (by rfl) rfl rfl rfl rfl (info_d _) (byt_one _ _) K7.out (Nat.le_of_ble_eq_true rfl) (byt_all _ _ _) ?_
          intro W106 q1
          refine ⟨⟨KP.out.far q1 (by omega), KK.out.far q1 (by omega), KS.out.far q1 (by omega), K6.out.far q1 (by omega), K9.out.far q1 (by omega), KL.out.far q1 (by omega), HB.out.trans (q1.2.1 _ (by omega)), HT.out.trans (q1.2.1 _ (by omega))⟩, ?_⟩
          simp only [Act.put, List.setIfInBounds_toArray, List.set_cons_zero, List.set_cons_succ]
          have K7n : Hid (Blk 26 W106 M3 (bytC 32 M)) := Lib.hid q1.1
          clear K7
          have K7 := K7n
          clear K7n
          have KPn := Lib.hid (KP.out.far q1 (by omega))
          clear KP
          have KP := KPn
          clear KPn
          have KKn := Lib.hid (KK.out.far q1 (by omega))
          clear KK
          have KK := KKn
          clear KKn
          have KSn := Lib.hid (KS.out.far q1 (by omega))
          clear KS
          have KS := KSn
          clear KSn
          have K6n := Lib.hid (K6.out.far q1 (by omega))
          clear K6
          have K6 := K6n
          clear K6n
          have K9n := Lib.hid (K9.out.far q1 (by omega))
          clear K9
          have K9 := K9n
          clear K9n
          have KLn := Lib.hid (KL.out.far q1 (by omega))
          clear KL
          have KL := KLn
          clear KLn
          have HBn := Lib.hid (HB.out.trans (q1.2.1 _ (by omega)))
          clear HB
          have HB := HBn
          clear HBn
          have HTn := Lib.hid (HT.out.trans (q1.2.1 _ (by omega)))
          clear HT
          have HT := HTn
          clear HTn
          clear q1 hS
          have hS := (And.intro KP.out (And.intro KK.out (And.intro KS.out (And.intro K6.out (And.intro K9.out (And.intro KL.out (And.intro HB.out HT.out)))))))
          clear hS
          refine wpAnyH_done (by kernel_rfl) ?_ _
          go_wp2_with fail
          go_meet
          case rel => exact ⟨M3, rfl, Nat.le_trans T9le.out le_HT_M3, K7, lt_N1_M3, KP, lt_N2_M3, KK, lt_gs_M3, KS, lt_N21_M3, K6, lt_g9_M3, K9, lt_B9_M3, KL, le_HB_M3, HB, le_HT_M3, HT⟩
        · skip
          intro W105 k1 b1 s1
          refine ⟨⟨hS.1.below b1 hS.1.lt, hS.2.1.below b1 hS.2.1.lt, hS.2.2.1.below b1 hS.2.2.1.lt, hS.2.2.2.1.below b1 hS.2.2.2.1.lt, hS.2.2.2.2.1.below b1 hS.2.2.2.2.1.lt, hS.2.2.2.2.2.1.below b1 hS.2.2.2.2.2.1.lt, hS.2.2.2.2.2.2.1.trans (b1.mono hS.2.2.2.2.2.2.1.size), hS.2.2.2.2.2.2.2.trans (b1.mono hS.2.2.2.2.2.2.2.size)⟩, ?_⟩
          simp only [Act.put, List.setIfInBounds_toArray, List.set_cons_zero, List.set_cons_succ]
          have K7 := Lib.hid k1
          clear k1
          have lt_N1_M2 : N1 < M2 := by rw [← HM2.out]; exact KP.out.lt
          have lt_N2_M2 : N2 < M2 := by rw [← HM2.out]; exact KK.out.lt
          have lt_gs_M2 : gs < M2 := by rw [← HM2.out]; exact KS.out.lt
          have lt_N21_M2 : N21 < M2 := by rw [← HM2.out]; exact K6.out.lt
          have lt_g9_M2 : g9 < M2 := by rw [← HM2.out]; exact K9.out.lt
          have lt_B9_M2 : B9 < M2 := by rw [← HM2.out]; exact KL.out.lt
          have le_HB_M2 : w.heap.size ≤ M2 := by rw [← HM2.out]; exact HB.out.size
          have le_HT_M2 : w61.heap.size ≤ M2 := by rw [← HM2.out]; exact HT.out.size
          have HUn := Lib.hid (HU.out.below b1)
          clear HU
          have HU := HUn
          clear HUn
          have HVn := Lib.hid (HV.out.below b1)
          clear HV
          have HV := HVn
          clear HVn
          have KPn := Lib.hid (KP.out.below b1 KP.out.lt)
          clear KP
          have KP := KPn
          clear KPn
          have KKn := Lib.hid (KK.out.below b1 KK.out.lt)
          clear KK
          have KK := KKn
          clear KKn
          have KSn := Lib.hid (KS.out.below b1 KS.out.lt)
          clear KS
          have KS := KSn
          clear KSn
          have K6n := Lib.hid (K6.out.below b1 K6.out.lt)
          clear K6
          have K6 := K6n
          clear K6n
          have K9n := Lib.hid (K9.out.below b1 K9.out.lt)
          clear K9
          have K9 := K9n
          clear K9n
          have KLn := Lib.hid (KL.out.below b1 KL.out.lt)
          clear KL
          have KL := KLn
          clear KLn
          have HBn := Lib.hid (HB.out.trans (b1.mono HB.out.size))
          clear HB
          have HB := HBn
          clear HBn
          have HTn := Lib.hid (HT.out.trans (b1.mono HT.out.size))
          clear HT
          have HT := HTn
          clear HTn
          clear b1 HM2 hS
          have hS := (And.intro KP.out (And.intro KK.out (And.intro KS.out (And.intro K6.out (And.intro K9.out (And.intro KL.out (And.intro HB.out HT.out)))))))
          refine takeCE (i := 5) (some 33) 15 #[.slice A sn sc, .slice (some ⟨gb, 0, none⟩) Nu cb] (R := fun v w' => v = .agg (bytC 32 M) ∧ Below W105.heap.size W105 w') rfl rfl (by kernel_rfl) (by rfl) (by go_simp) ((rhmac_any A sn sc k (some ⟨gb, 0, none⟩) Nu cb _ W105 (HK.out.below HB.out rfl) (Own8.rd HV.out) (fun e => by cases e) HSN.out.2 (by have := BN.out; omega)).mono fun e w' h => ⟨_, h.1, by rw [HMM.out], h.2⟩) (fun v w' h => by obtain ⟨rfl, hbu⟩ := h; exact ⟨hS.1.below hbu hS.1.lt, hS.2.1.below hbu hS.2.1.lt, hS.2.2.1.below hbu hS.2.2.1.lt, hS.2.2.2.1.below hbu hS.2.2.2.1.lt, hS.2.2.2.2.1.below hbu hS.2.2.2.2.1.lt, hS.2.2.2.2.2.1.below hbu hS.2.2.2.2.2.1.lt, hS.2.2.2.2.2.2.1.trans (hbu.mono hS.2.2.2.2.2.2.1.size), hS.2.2.2.2.2.2.2.trans (hbu.mono hS.2.2.2.2.2.2.2.size)⟩) ?_
          intro v W106 h hS2
          obtain ⟨rfl, hbu⟩ := h
          simp only [Act.put, List.setIfInBounds_toArray, List.set_cons_zero, List.set_cons_succ]
          have HUn := Lib.hid (HU.out.below hbu)
          clear HU
          have HU := HUn
          clear HUn
          have HVn := Lib.hid (HV.out.below hbu)
          clear HV
          have HV := HVn
          clear HVn
          have K7n := Lib.hid (K7.out.below hbu K7.out.lt)
          clear K7
          have K7 := K7n
          clear K7n
          clear KP
          clear KK
          clear KS
          clear K6
          clear K9
          clear KL
          clear HB
          clear HT
          clear hS
          have hS := hS2
          clear hS2
          have KP := Lib.hid hS.1
          have KK := Lib.hid hS.2.1
          have KS := Lib.hid hS.2.2.1
          have K6 := Lib.hid hS.2.2.2.1
          have K9 := Lib.hid hS.2.2.2.2.1
          have KL := Lib.hid hS.2.2.2.2.2.1
          have HB := Lib.hid hS.2.2.2.2.2.2.1
          have HT := Lib.hid hS.2.2.2.2.2.2.2
          clear hbu HU HV
          have T9l := T9le.out
          refine takeSt (i := 7) 26 (.tmp 7) (.tmp 33) M2 0 (.agg (bytC 32 M)) (bytC 32 M) (bytC 32 M) rfl rfl (by kernel_rfl) (by rfl) rfl rfl rfl rfl (info_d _) (byt_one _ _) K7.out (Nat.le_of_ble_eq_true rfl) (byt_all _ _ _) ?_
          intro W107 q1
          refine ⟨⟨KP.out.far q1 (by omega), KK.out.far q1 (by omega), KS.out.far q1 (by omega), K6.out.far q1 (by omega), K9.out.far q1 (by omega), KL.out.far q1 (by omega), HB.out.trans (q1.2.1 _ (by omega)), HT.out.trans (q1.2.1 _ (by omega))⟩, ?_⟩
          simp only [Act.put, List.setIfInBounds_toArray, List.set_cons_zero, List.set_cons_succ]
          have K7n : Hid (Blk 26 W107 M2 (bytC 32 M)) := Lib.hid q1.1
          clear K7
          have K7 := K7n
          clear K7n
          have KPn := Lib.hid (KP.out.far q1 (by omega))
          clear KP
          have KP := KPn
          clear KPn
          have KKn := Lib.hid (KK.out.far q1 (by omega))
          clear KK
          have KK := KKn
          clear KKn
          have KSn := Lib.hid (KS.out.far q1 (by omega))
          clear KS
          have KS := KSn
          clear KSn
          have K6n := Lib.hid (K6.out.far q1 (by omega))
          clear K6
          have K6 := K6n
          clear K6n
          have K9n := Lib.hid (K9.out.far q1 (by omega))
          clear K9
          have K9 := K9n
          clear K9n
          have KLn := Lib.hid (KL.out.far q1 (by omega))
          clear KL
          have KL := KLn
          clear KLn
          have HBn := Lib.hid (HB.out.trans (q1.2.1 _ (by omega)))
          clear HB
          have HB := HBn
          clear HBn
          have HTn := Lib.hid (HT.out.trans (q1.2.1 _ (by omega)))
          clear HT
          have HT := HTn
          clear HTn
          clear q1 hS
          have hS := (And.intro KP.out (And.intro KK.out (And.intro KS.out (And.intro K6.out (And.intro K9.out (And.intro KL.out (And.intro HB.out HT.out)))))))
          clear hS
          refine wpAnyH_done (by kernel_rfl) ?_ _
          go_wp2_with fail
          go_meet
          case rel => exact ⟨M2, rfl, Nat.le_trans T9le.out le_HT_M2, K7, lt_N1_M2, KP, lt_N2_M2, KK, lt_gs_M2, KS, lt_N21_M2, K6, lt_g9_M2, K9, lt_B9_M2, KL, le_HB_M2, HB, le_HT_M2, HT⟩
      · skip
        intro W104 k1 b1 s1
        refine ⟨⟨hS.1.below b1 hS.1.lt, hS.2.1.below b1 hS.2.1.lt, hS.2.2.1.below b1 hS.2.2.1.lt, hS.2.2.2.1.below b1 hS.2.2.2.1.lt, hS.2.2.2.2.1.below b1 hS.2.2.2.2.1.lt, hS.2.2.2.2.2.1.below b1 hS.2.2.2.2.2.1.lt, hS.2.2.2.2.2.2.1.trans (b1.mono hS.2.2.2.2.2.2.1.size), hS.2.2.2.2.2.2.2.trans (b1.mono hS.2.2.2.2.2.2.2.size)⟩, ?_⟩
        simp only [Act.put, List.setIfInBounds_toArray, List.set_cons_zero, List.set_cons_succ]
        have K7 := Lib.hid k1
        clear k1
        have lt_N1_M1 : N1 < M1 := by rw [← HM1.out]; exact KP.out.lt
        have lt_N2_M1 : N2 < M1 := by rw [← HM1.out]; exact KK.out.lt
        have lt_gs_M1 : gs < M1 := by rw [← HM1.out]; exact KS.out.lt
        have lt_N21_M1 : N21 < M1 := by rw [← HM1.out]; exact K6.out.lt
        have lt_g9_M1 : g9 < M1 := by rw [← HM1.out]; exact K9.out.lt
        have lt_B9_M1 : B9 < M1 := by rw [← HM1.out]; exact KL.out.lt
        have le_HB_M1 : w.heap.size ≤ M1 := by rw [← HM1.out]; exact HB.out.size
        have le_HT_M1 : w61.heap.size ≤ M1 := by rw [← HM1.out]; exact HT.out.size
        have HUn := Lib.hid (HU.out.below b1)
        clear HU
        have HU := HUn
        clear HUn
        have KPn := Lib.hid (KP.out.below b1 KP.out.lt)
        clear KP
        have KP := KPn
        clear KPn
        have KKn := Lib.hid (KK.out.below b1 KK.out.lt)
        clear KK
        have KK := KKn
        clear KKn
        have KSn := Lib.hid (KS.out.below b1 KS.out.lt)
        clear KS
        have KS := KSn
        clear KSn
        have K6n := Lib.hid (K6.out.below b1 K6.out.lt)
        clear K6
        have K6 := K6n
        clear K6n
        have K9n := Lib.hid (K9.out.below b1 K9.out.lt)
        clear K9
        have K9 := K9n
        clear K9n
        have KLn := Lib.hid (KL.out.below b1 KL.out.lt)
        clear KL
        have KL := KLn
        clear KLn
        have HBn := Lib.hid (HB.out.trans (b1.mono HB.out.size))
        clear HB
        have HB := HBn
        clear HBn
        have HTn := Lib.hid (HT.out.trans (b1.mono HT.out.size))
        clear HT
        have HT := HTn
        clear HTn
        clear b1 HM1 hS
        have hS := (And.intro KP.out (And.intro KK.out (And.intro KS.out (And.intro K6.out (And.intro K9.out (And.intro KL.out (And.intro HB.out HT.out)))))))
        refine takeCE (i := 4) (some 32) 49 #[.slice (some ⟨gu, 0, none⟩) Nu cu] (R := fun v w' => BlV W104 Nu (blkZ (p.kd = 18 ∨ p.kd = 20) Zu Nu) v w') rfl rfl (by kernel_rfl) (by rfl) (by go_simp) ((blank_any (some ⟨gu, 0, none⟩) Nu cu Zu p.kd W104 H4.out (Own8.rd HU.out) (fun e => by cases e) BN.out.1 BN.out.2).mono fun e w' h => h.v) (fun v w' h => by obtain ⟨gb, cb, rfl, hgb, hu, hbu⟩ := h; exact ⟨hS.1.below hbu hS.1.lt, hS.2.1.below hbu hS.2.1.lt, hS.2.2.1.below hbu hS.2.2.1.lt, hS.2.2.2.1.below hbu hS.2.2.2.1.lt, hS.2.2.2.2.1.below hbu hS.2.2.2.2.1.lt, hS.2.2.2.2.2.1.below hbu hS.2.2.2.2.2.1.lt, hS.2.2.2.2.2.2.1.trans (hbu.mono hS.2.2.2.2.2.2.1.size), hS.2.2.2.2.2.2.2.trans (hbu.mono hS.2.2.2.2.2.2.2.size)⟩) ?_
        intro v W105 h hS2
        obtain ⟨gb, cb, rfl, hgb, hu, hbu⟩ := h
        simp only [Act.put, List.setIfInBounds_toArray, List.set_cons_zero, List.set_cons_succ]
        have HUn := Lib.hid (HU.out.below hbu)
        clear HU
        have HU := HUn
        clear HUn
        have K7n := Lib.hid (K7.out.below hbu K7.out.lt)
        clear K7
        have K7 := K7n
        clear K7n
        clear KP
        clear KK
        clear KS
        clear K6
        clear K9
        clear KL
        clear HB
        clear HT
        clear hS
        have hS := hS2
        clear hS2
        have KP := Lib.hid hS.1
        have KK := Lib.hid hS.2.1
        have KS := Lib.hid hS.2.2.1
        have K6 := Lib.hid hS.2.2.2.1
        have K9 := Lib.hid hS.2.2.2.2.1
        have KL := Lib.hid hS.2.2.2.2.2.1
        have HB := Lib.hid hS.2.2.2.2.2.2.1
        have HT := Lib.hid hS.2.2.2.2.2.2.2
        have HV : Hid (ByO W105 gb Nu cb (blkZ (p.kd = 18 ∨ p.kd = 20) Zu Nu)) := Lib.hid hu
        clear hu hbu hgb
        refine takeCE (i := 5) (some 33) 15 #[.slice A sn sc, .slice (some ⟨gb, 0, none⟩) Nu cb] (R := fun v w' => v = .agg (bytC 32 M) ∧ Below W105.heap.size W105 w') rfl rfl (by kernel_rfl) (by rfl) (by go_simp) ((rhmac_any A sn sc k (some ⟨gb, 0, none⟩) Nu cb _ W105 (HK.out.below HB.out rfl) (Own8.rd HV.out) (fun e => by cases e) HSN.out.2 (by have := BN.out; omega)).mono fun e w' h => ⟨_, h.1, by rw [HMM.out], h.2⟩) (fun v w' h => by obtain ⟨rfl, hbu⟩ := h; exact ⟨hS.1.below hbu hS.1.lt, hS.2.1.below hbu hS.2.1.lt, hS.2.2.1.below hbu hS.2.2.1.lt, hS.2.2.2.1.below hbu hS.2.2.2.1.lt, hS.2.2.2.2.1.below hbu hS.2.2.2.2.1.lt, hS.2.2.2.2.2.1.below hbu hS.2.2.2.2.2.1.lt, hS.2.2.2.2.2.2.1.trans (hbu.mono hS.2.2.2.2.2.2.1.size), hS.2.2.2.2.2.2.2.trans (hbu.mono hS.2.2.2.2.2.2.2.size)⟩) ?_
        intro v W106 h hS2
        obtain ⟨rfl, hbu⟩ := h
        simp only [Act.put, List.setIfInBounds_toArray, List.set_cons_zero, List.set_cons_succ]
        have HUn := Lib.hid (HU.out.below hbu)
        clear HU
        have HU := HUn
        clear HUn
        have HVn := Lib.hid (HV.out.below hbu)
        clear HV
        have HV := HVn
        clear HVn
        have K7n := Lib.hid (K7.out.below hbu K7.out.lt)
        clear K7
        have K7 := K7n
        clear K7n
        clear KP
        clear KK
        clear KS
        clear K6
        clear K9
        clear KL
        clear HB
        clear HT
        clear hS
        have hS := hS2
        clear hS2
        have KP := Lib.hid hS.1
        have KK := Lib.hid hS.2.1
        have KS := Lib.hid hS.2.2.1
        have K6 := Lib.hid hS.2.2.2.1
        have K9 := Lib.hid hS.2.2.2.2.1
        have KL := Lib.hid hS.2.2.2.2.2.1
        have HB := Lib.hid hS.2.2.2.2.2.2.1
        have HT := Lib.hid hS.2.2.2.2.2.2.2
        clear hbu HU HV
        have T9l := T9le.out
        refine takeSt (i := 7) 26 (.tmp 7) (.tmp 33) M1 0 (.agg (bytC 32 M)) (bytC 32 M) (bytC 32 M) rfl rfl (by kernel_rfl) (by rfl) rfl rfl rfl rfl (info_d _) (byt_one _ _) K7.out (Nat.le_of_ble_eq_true rfl) (byt_all _ _ _) ?_
        intro W107 q1
        refine ⟨⟨KP.out.far q1 (by omega), KK.out.far q1 (by omega), KS.out.far q1 (by omega), K6.out.far q1 (by omega), K9.out.far q1 (by omega), KL.out.far q1 (by omega), HB.out.trans (q1.2.1 _ (by omega)), HT.out.trans (q1.2.1 _ (by omega))⟩, ?_⟩
        simp only [Act.put, List.setIfInBounds_toArray, List.set_cons_zero, List.set_cons_succ]
        have K7n : Hid (Blk 26 W107 M1 (bytC 32 M)) := Lib.hid q1.1
        clear K7
        have K7 := K7n
        clear K7n
        have KPn := Lib.hid (KP.out.far q1 (by omega))
        clear KP
        have KP := KPn
        clear KPn
        have KKn := Lib.hid (KK.out.far q1 (by omega))
        clear KK
        have KK := KKn
        clear KKn
        have KSn := Lib.hid (KS.out.far q1 (by omega))
        clear KS
        have KS := KSn
        clear KSn
        have K6n := Lib.hid (K6.out.far q1 (by omega))
        clear K6
        have K6 := K6n
        clear K6n
        have K9n := Lib.hid (K9.out.far q1 (by omega))
        clear K9
        have K9 := K9n
        clear K9n
        have KLn := Lib.hid (KL.out.far q1 (by omega))
        clear KL
        have KL := KLn
        clear KLn
        have HBn := Lib.hid (HB.out.trans (q1.2.1 _ (by omega)))
        clear HB
        have HB := HBn
        clear HBn
        have HTn := Lib.hid (HT.out.trans (q1.2.1 _ (by omega)))
        clear HT
        have HT := HTn
        clear HTn
        clear q1 hS
        have hS := (And.intro KP.out (And.intro KK.out (And.intro KS.out (And.intro K6.out (And.intro K9.out (And.intro KL.out (And.intro HB.out HT.out)))))))
        clear hS
        refine wpAnyH_done (by kernel_rfl) ?_ _
        go_wp2_with fail
        go_meet
        case rel => exact ⟨M1, rfl, Nat.le_trans T9le.out le_HT_M1, K7, lt_N1_M1, KP, lt_N2_M1, KK, lt_gs_M1, KS, lt_N21_M1, K6, lt_g9_M1, K9, lt_B9_M1, KL, le_HB_M1, HB, le_HT_M1, HT⟩
    · skip
      intro W103 k1 b1 s1
      refine ⟨⟨hS.1.below b1 hS.1.lt, hS.2.1.below b1 hS.2.1.lt, hS.2.2.1.below b1 hS.2.2.1.lt, hS.2.2.2.1.below b1 hS.2.2.2.1.lt, hS.2.2.2.2.1.below b1 hS.2.2.2.2.1.lt, hS.2.2.2.2.2.1.below b1 hS.2.2.2.2.2.1.lt, hS.2.2.2.2.2.2.1.trans (b1.mono hS.2.2.2.2.2.2.1.size), hS.2.2.2.2.2.2.2.trans (b1.mono hS.2.2.2.2.2.2.2.size)⟩, ?_⟩
      simp only [Act.put, List.setIfInBounds_toArray, List.set_cons_zero, List.set_cons_succ]
      have K7 := Lib.hid k1
      clear k1
      have lt_N1_M0 : N1 < M0 := by rw [← HM0.out]; exact KP.out.lt
      have lt_N2_M0 : N2 < M0 := by rw [← HM0.out]; exact KK.out.lt
      have lt_gs_M0 : gs < M0 := by rw [← HM0.out]; exact KS.out.lt
      have lt_N21_M0 : N21 < M0 := by rw [← HM0.out]; exact K6.out.lt
      have lt_g9_M0 : g9 < M0 := by rw [← HM0.out]; exact K9.out.lt
      have lt_B9_M0 : B9 < M0 := by rw [← HM0.out]; exact KL.out.lt
      have le_HB_M0 : w.heap.size ≤ M0 := by rw [← HM0.out]; exact HB.out.size
      have le_HT_M0 : w61.heap.size ≤ M0 := by rw [← HM0.out]; exact HT.out.size
      have KPn := Lib.hid (KP.out.below b1 KP.out.lt)
      clear KP
      have KP := KPn
      clear KPn
      have KKn := Lib.hid (KK.out.below b1 KK.out.lt)
      clear KK
      have KK := KKn
      clear KKn
      have KSn := Lib.hid (KS.out.below b1 KS.out.lt)
      clear KS
      have KS := KSn
      clear KSn
      have K6n := Lib.hid (K6.out.below b1 K6.out.lt)
      clear K6
      have K6 := K6n
      clear K6n
      have K9n := Lib.hid (K9.out.below b1 K9.out.lt)
      clear K9
      have K9 := K9n
      clear K9n
      have KLn := Lib.hid (KL.out.below b1 KL.out.lt)
      clear KL
      have KL := KLn
      clear KLn
      have HBn := Lib.hid (HB.out.trans (b1.mono HB.out.size))
      clear HB
      have HB := HBn
      clear HBn
      have HTn := Lib.hid (HT.out.trans (b1.mono HT.out.size))
      clear HT
      have HT := HTn
      clear HTn
      clear b1 HM0 hS
      have hS := (And.intro KP.out (And.intro KK.out (And.intro KS.out (And.intro K6.out (And.intro K9.out (And.intro KL.out (And.intro HB.out HT.out)))))))
      refine takeCE (i := 3) (some 31) 69 #[.agg (pdC (withT p (some ⟨g9, 0, none⟩) (p.m + 1) c9))] (R := fun v w' => BlV W103 Nu Zu v w') rfl rfl (by kernel_rfl) (by rfl) (by go_simp) ((refWrite_x (withT p (some ⟨g9, 0, none⟩) (p.m + 1) c9) HP.out (addT L2 p.m ⟨10, some ⟨gs, 0, none⟩, 35, cs, sigZ id nou⟩) m0 (sl_ends2 ⟨10, some ⟨gs, 0, none⟩, 35, cs, sigZ id nou⟩ rfl HAL.out HM.out) W103 (lo_in ⟨10, some ⟨gs, 0, none⟩, 35, cs, sigZ id nou⟩ K9.out HQ.out KL.out (it_ok KS.out) ⟨rfl, rfl, rfl, rfl⟩) ((sl_same (some ⟨g9, 0, none⟩) c9 m0 HAL.out ⟨10, some ⟨gs, 0, none⟩, 35, cs, sigZ id nou⟩ rfl rfl rfl).1.trans HX0.out)).mono fun e w' h => h.vr (sl_same (some ⟨g9, 0, none⟩) c9 m0 HAL.out ⟨10, some ⟨gs, 0, none⟩, 35, cs, sigZ id nou⟩ rfl rfl rfl) HNu.out HZu.out) (fun v w' h => by obtain ⟨gu, cu, rfl, hgu, hu, hbu⟩ := h; exact ⟨hS.1.below hbu hS.1.lt, hS.2.1.below hbu hS.2.1.lt, hS.2.2.1.below hbu hS.2.2.1.lt, hS.2.2.2.1.below hbu hS.2.2.2.1.lt, hS.2.2.2.2.1.below hbu hS.2.2.2.2.1.lt, hS.2.2.2.2.2.1.below hbu hS.2.2.2.2.2.1.lt, hS.2.2.2.2.2.2.1.trans (hbu.mono hS.2.2.2.2.2.2.1.size), hS.2.2.2.2.2.2.2.trans (hbu.mono hS.2.2.2.2.2.2.2.size)⟩) ?_
      intro v W104 h hS2
      obtain ⟨gu, cu, rfl, hgu, hu, hbu⟩ := h
      simp only [Act.put, List.setIfInBounds_toArray, List.set_cons_zero, List.set_cons_succ]
      have K7n := Lib.hid (K7.out.below hbu K7.out.lt)
      clear K7
      have K7 := K7n
      clear K7n
      clear KP
      clear KK
      clear KS
      clear K6
      clear K9
      clear KL
      clear HB
      clear HT
      clear hS
      have hS := hS2
      clear hS2
      have KP := Lib.hid hS.1
      have KK := Lib.hid hS.2.1
      have KS := Lib.hid hS.2.2.1
      have K6 := Lib.hid hS.2.2.2.1
      have K9 := Lib.hid hS.2.2.2.2.1
      have KL := Lib.hid hS.2.2.2.2.2.1
      have HB := Lib.hid hS.2.2.2.2.2.2.1
      have HT := Lib.hid hS.2.2.2.2.2.2.2
      have HU : Hid (ByO W104 gu Nu cu Zu) := Lib.hid hu
      clear hu hbu hgu
      refine takeCE (i := 4) (some 32) 49 #[.slice (some ⟨gu, 0, none⟩) Nu cu] (R := fun v w' => BlV W104 Nu (blkZ (p.kd = 18 ∨ p.kd = 20) Zu Nu) v w') rfl rfl (by kernel_rfl) (by rfl) (by go_simp) ((blank_any (some ⟨gu, 0, none⟩) Nu cu Zu p.kd W104 H4.out (Own8.rd HU.out) (fun e => by cases e) BN.out.1 BN.out.2).mono fun e w' h => h.v) (fun v w' h => by obtain ⟨gb, cb, rfl, hgb, hu, hbu⟩ := h; exact ⟨hS.1.below hbu hS.1.lt, hS.2.1.below hbu hS.2.1.lt, hS.2.2.1.below hbu hS.2.2.1.lt, hS.2.2.2.1.below hbu hS.2.2.2.1.lt, hS.2.2.2.2.1.below hbu hS.2.2.2.2.1.lt, hS.2.2.2.2.2.1.below hbu hS.2.2.2.2.2.1.lt, hS.2.2.2.2.2.2.1.trans (hbu.mono hS.2.2.2.2.2.2.1.size), hS.2.2.2.2.2.2.2.trans (hbu.mono hS.2.2.2.2.2.2.2.size)⟩) ?_
      intro v W105 h hS2
      obtain ⟨gb, cb, rfl, hgb, hu, hbu⟩ := h
      simp only [Act.put, List.setIfInBounds_toArray, List.set_cons_zero, List.set_cons_succ]
      have HUn := Lib.hid (HU.out.below hbu)
      clear HU
      have HU := HUn
      clear HUn
      have K7n := Lib.hid (K7.out.below hbu K7.out.lt)
      clear K7
      have K7 := K7n
      clear K7n
      clear KP
      clear KK
      clear KS
      clear K6
      clear K9
      clear KL
      clear HB
      clear HT
      clear hS
      have hS := hS2
      clear hS2
      have KP := Lib.hid hS.1
      have KK := Lib.hid hS.2.1
      have KS := Lib.hid hS.2.2.1
      have K6 := Lib.hid hS.2.2.2.1
      have K9 := Lib.hid hS.2.2.2.2.1
      have KL := Lib.hid hS.2.2.2.2.2.1
      have HB := Lib.hid hS.2.2.2.2.2.2.1
      have HT := Lib.hid hS.2.2.2.2.2.2.2
      have HV : Hid (ByO W105 gb Nu cb (blkZ (p.kd = 18 ∨ p.kd = 20) Zu Nu)) := Lib.hid hu
      clear hu hbu hgb
      refine takeCE (i := 5) (some 33) 15 #[.slice A sn sc, .slice (some ⟨gb, 0, none⟩) Nu cb] (R := fun v w' => v = .agg (bytC 32 M) ∧ Below W105.heap.size W105 w') rfl rfl (by kernel_rfl) (by rfl) (by go_simp) ((rhmac_any A sn sc k (some ⟨gb, 0, none⟩) Nu cb _ W105 (HK.out.below HB.out rfl) (Own8.rd HV.out) (fun e => by cases e) HSN.out.2 (by have := BN.out; omega)).mono fun e w' h => ⟨_, h.1, by rw [HMM.out], h.2⟩) (fun v w' h => by obtain ⟨rfl, hbu⟩ := h; exact ⟨hS.1.below hbu hS.1.lt, hS.2.1.below hbu hS.2.1.lt, hS.2.2.1.below hbu hS.2.2.1.lt, hS.2.2.2.1.below hbu hS.2.2.2.1.lt, hS.2.2.2.2.1.below hbu hS.2.2.2.2.1.lt, hS.2.2.2.2.2.1.below hbu hS.2.2.2.2.2.1.lt, hS.2.2.2.2.2.2.1.trans (hbu.mono hS.2.2.2.2.2.2.1.size), hS.2.2.2.2.2.2.2.trans (hbu.mono hS.2.2.2.2.2.2.2.size)⟩) ?_
      intro v W106 h hS2
      obtain ⟨rfl, hbu⟩ := h
      simp only [Act.put, List.setIfInBounds_toArray, List.set_cons_zero, List.set_cons_succ]
      have HUn := Lib.hid (HU.out.below hbu)
      clear HU
      have HU := HUn
      clear HUn
      have HVn := Lib.hid (HV.out.below hbu)
      clear HV
      have HV := HVn
      clear HVn
      have K7n := Lib.hid (K7.out.below hbu K7.out.lt)
      clear K7
      have K7 := K7n
      clear K7n
      clear KP
      clear KK
      clear KS
      clear K6
      clear K9
      clear KL
      clear HB
      clear HT
      clear hS
      have hS := hS2
      clear hS2
      have KP := Lib.hid hS.1
      have KK := Lib.hid hS.2.1
      have KS := Lib.hid hS.2.2.1
      have K6 := Lib.hid hS.2.2.2.1
      have K9 := Lib.hid hS.2.2.2.2.1
      have KL := Lib.hid hS.2.2.2.2.2.1
      have HB := Lib.hid hS.2.2.2.2.2.2.1
      have HT := Lib.hid hS.2.2.2.2.2.2.2
      clear hbu HU HV
      have T9l := T9le.out
      refine takeSt (i := 7) 26 (.tmp 7) (.tmp 33) M0 0 (.agg (bytC 32 M)) (bytC 32 M) (bytC 32 M) rfl rfl (by kernel_rfl) (by rfl) rfl rfl rfl rfl (info_d _) (byt_one _ _) K7.out (Nat.le_of_ble_eq_true rfl) (byt_all _ _ _) ?_
      intro W107 q1
      refine ⟨⟨KP.out.far q1 (by omega), KK.out.far q1 (by omega), KS.out.far q1 (by omega), K6.out.far q1 (by omega), K9.out.far q1 (by omega), KL.out.far q1 (by omega), HB.out.trans (q1.2.1 _ (by omega)), HT.out.trans (q1.2.1 _ (by omega))⟩, ?_⟩
      simp only [Act.put, List.setIfInBounds_toArray, List.set_cons_zero, List.set_cons_succ]
      have K7n : Hid (Blk 26 W107 M0 (bytC 32 M)) := Lib.hid q1.1
      clear K7
      have K7 := K7n
      clear K7n
      have KPn := Lib.hid (KP.out.far q1 (by omega))
      clear KP
      have KP := KPn
      clear KPn
      have KKn := Lib.hid (KK.out.far q1 (by omega))
      clear KK
      have KK := KKn
      clear KKn
      have KSn := Lib.hid (KS.out.far q1 (by omega))
      clear KS
      have KS := KSn
      clear KSn
      have K6n := Lib.hid (K6.out.far q1 (by omega))
      clear K6
      have K6 := K6n
      clear K6n
      have K9n := Lib.hid (K9.out.far q1 (by omega))
      clear K9
      have K9 := K9n
      clear K9n
      have KLn := Lib.hid (KL.out.far q1 (by omega))
      clear KL
      have KL := KLn
      clear KLn
      have HBn := Lib.hid (HB.out.trans (q1.2.1 _ (by omega)))
      clear HB
      have HB := HBn
      clear HBn
      have HTn := Lib.hid (HT.out.trans (q1.2.1 _ (by omega)))
      clear HT
      have HT := HTn
      clear HTn
      clear q1 hS
      have hS := (And.intro KP.out (And.intro KK.out (And.intro KS.out (And.intro K6.out (And.intro K9.out (And.intro KL.out (And.intro HB.out HT.out)))))))
      clear hS
      refine wpAnyH_done (by kernel_rfl) ?_ _
      go_wp2_with fail
      go_meet
      case rel => exact ⟨M0, rfl, Nat.le_trans T9le.out le_HT_M0, K7, lt_N1_M0, KP, lt_N2_M0, KK, lt_gs_M0, KS, lt_N21_M0, K6, lt_g9_M0, K9, lt_B9_M0, KL, le_HB_M0, HB, le_HT_M0, HT⟩
  case rest =>
  clear KP
  clear KK
  clear KS
  clear K6
  clear K9
  clear KL
  clear HB
  clear HT
  obtain ⟨N7, rfl, le_T9_N7, K7, lt_N1_N7, KP, lt_N2_N7, KK, lt_gs_N7, KS, lt_N21_N7, K6, lt_g9_N7, K9, lt_B9_N7, KL, le_HB_N7, HB, le_HT_N7, HT⟩ := hcut
  go_wp2_with fail
  go_loopw [34] (fun t wr => ∃ i : Nat, i ≤ 32 ∧ t = .int .i64 (i : Int) ∧ Hid (By8 wr gs 35 cs (sgI id M i)) ∧ Hid (Blk 42 wr N21 (pdC (withT p (some ⟨g9, 0, none⟩) (p.m + 1) c9))) ∧ Hid (Blk 49 wr g9 (cur9)) ∧ Hid (LO wr B9 T9 p.m L2) ∧ Hid (Blk 26 wr N7 (bytC 32 M)) ∧ Hid (Below w.heap.size w wr)) (fun t _ => 32 - (intOf t).toNat)
  case atStart => exact ⟨0, by omega, rfl, Lib.hid (by rw [sgI_0]; exact KS.out), K6, K9, KL, K7, HB⟩
  case round => as_aux_lemma =>
    clear KS HB KP KK K6 K9 KL K7
    obtain ⟨i, hi, rfl, KS, K6, K9, KL, K7, HB⟩ := hrel
    by_cases hlt : i < 32
    · have h1 : (i : Int) < 32 := by omega
      have c7 : wr.cell? ⟨N7, i, none⟩ = some (.int .u8 (M i)) := by rw [K7.out.cell]; exact byt_at _ _ hlt
      have hi3 : 3 + i < 35 := by omega
      have hi4 : (3 : Int) + (i : Int) < 35 := by omega
      have hcs1 : 35 ≤ cs := HCS.out.1
      have hcs2 : cs ≤ 9223372036854775807 := HCS.out.2
      go_wp2_with (refine wpList_put8 (op := ⟨none, _, _, _, _, _⟩) rfl (.tmp 43) _ rfl gs (3 + i) (by first | rfl | (go_simp; done) | (simp; omega)) (M i) rfl (HMB.out i) KS.out hi3 ?_; intro w6 C6 q1 q2; refine Hid.out ?_)
      refine Lib.hid ?_
      have K6n := Lib.hid (K6.out.far q1 (by omega))
      clear K6
      have K6 := K6n
      clear K6n
      have K9n := Lib.hid (K9.out.far q1 (by omega))
      clear K9
      have K9 := K9n
      clear K9n
      have KLn := Lib.hid (KL.out.far q1 (by omega))
      clear KL
      have KL := KLn
      clear KLn
      have K7n := Lib.hid (K7.out.far q1 (by omega))
      clear K7
      have K7 := K7n
      clear K7n
      have HBn := Lib.hid (HB.out.trans (q1.2.1 _ (by omega)))
      clear HB
      have HB := HBn
      clear HBn
      rw [sgI_next] at q2
      have KS2 : Hid (By8 w6 gs 35 cs (sgI id M (i + 1))) := Lib.hid q2
      clear q1 q2 KS c7
      go_wp2_with fail
      go_roundw
      case rel => exact ⟨i + 1, by omega, by go_num, KS2, K6, K9, KL, K7, HB⟩
      case measure => simp only [intOf]; omega
    · obtain rfl : i = 32 := by omega
      have h1 : ¬ (32 : Int) < 32 := by decide
      have ho := own8_zz KS.out (sgI_all id M) (sigZ_bd id HMB.out)
      have HKS := Lib.hid ho
      clear ho KS
      go_wp2_with (refine wpList_ld (op := ⟨some 45, _, _, _, _, _⟩) (by rfl) 42 (.tmp 6) rfl N21 0 rfl (pdC (withT p (some ⟨g9, 0, none⟩) (p.m + 1) c9)) _ K6.out.all Tryd.underlying42 rfl info_pdR ?_; refine Hid.out ?_)
      refine Lib.hid ?_
      go_wp2_with fail
      refine ((refWrite_x (withT p (some ⟨g9, 0, none⟩) (p.m + 1) c9) HP.out (addT L2 p.m ⟨10, some ⟨gs, 0, none⟩, 35, cs, sigZ id M⟩) m0 (sl_ends2 ⟨10, some ⟨gs, 0, none⟩, 35, cs, sigZ id M⟩ rfl HAL.out HM.out) wr (lo_in ⟨10, some ⟨gs, 0, none⟩, 35, cs, sigZ id M⟩ K9.out HQ.out KL.out (it_ok HKS.out) ⟨rfl, rfl, rfl, rfl⟩) ((sl_same (some ⟨g9, 0, none⟩) c9 m0 HAL.out ⟨10, some ⟨gs, 0, none⟩, 35, cs, sigZ id M⟩ rfl rfl rfl).1.trans (sl_x HX0.out))).mono fun e w' h => h.vr (sl_same (some ⟨g9, 0, none⟩) c9 m0 HAL.out ⟨10, some ⟨gs, 0, none⟩, 35, cs, sigZ id M⟩ rfl rfl rfl) (sl_n HX0.out HE0.out) (sl_z HE0.out HX0.out HNu.out HZu.out HMM.out)).mono ?_
      rintro e w9 ⟨v, rfl, g5, c5, rfl, h51, h52, b1⟩
      have H5 := Lib.hid h52
      have HB5 := Lib.hid (HB.out.trans (b1.mono HB.out.size))
      have HG5 := Lib.hid (Nat.le_trans HB.out.size h51)
      clear h52 h51 b1
      go_wp2_with fail
      go_ret
      exact ⟨g5, c5, rfl, HG5.out, H5.out, HB5.out⟩
end Go.Proofs.YtccoicjmmeoggaaDoor

/- Lists of values; the values of a type. Each theorem states its conditions. -/
namespace Go.Proofs.YtccoicjmmeoggaaDoor
open Go.RowKit
set_option linter.unusedVariables false

/-- the cells of the first m values -/
def cellsV (K : Nat → It) : Nat → List Value
  | 0 => []
  | m + 1 => cellsV K m ++ [.slice (K m).A (K m).n (K m).c]
theorem cellsV_congr (K K' : Nat → It) (m : Nat) (h : ∀ j, j < m → (K j).A = (K' j).A ∧ (K j).n = (K' j).n ∧ (K j).c = (K' j).c) : cellsV K m = cellsV K' m := by
  induction m with
  | zero => rfl
  | succ m ih =>
    obtain ⟨h2, h3, h4⟩ := h m (by omega)
    simp only [cellsV, h2, h3, h4]
    rw [ih (fun j hj => h j (by omega))]
theorem cellsV_push (K : Nat → It) (k : Nat) (t : It) : cellsV (updT K k t) (k + 1) = cellsV K k ++ [.slice t.A t.n t.c] := by
  simp only [cellsV, updT_same]
  rw [cellsV_congr (updT K k t) K k (fun j hj => by rw [updT_other _ _ _ _ (by omega)]; exact ⟨rfl, rfl, rfl⟩)]
/-- a value that can be read -/
def ValOk (w : World) (t : It) : Prop := Rd w t.A t.n t.z ∧ (t.A = none → t.n = 0 ∧ t.c = 0) ∧ t.n ≤ 140737488351232
theorem ItOk.val {w : World} {t : It} (h : ItOk w t) : ValOk w t := h.2
theorem ValOk.below {w w' : World} {t : It} (h : ValOk w t) (hb : Below w.heap.size w w') : ValOk w' t := ⟨h.1.below hb rfl, h.2⟩
theorem info_bytes : (Tryd.prog.info? 22).map (fun i => (i.zero, i.size, i.bytes)) = some (some (.slice none 0 0), 1, 24) := by kernel_rfl

/-- how many of the first k are of a type; the values of these -/
def cnt (L : Nat → It) (kind : Int) : Nat → Nat
  | 0 => 0
  | k + 1 => if (L k).ty = kind then cnt L kind k + 1 else cnt L kind k
def Sel (L : Nat → It) (kind : Int) : Nat → Nat → It
  | 0 => fun _ => ⟨0, none, 0, 0, fun _ => 0⟩
  | k + 1 => if (L k).ty = kind then updT (Sel L kind k) (cnt L kind k) (L k) else Sel L kind k
theorem cnt_le (L : Nat → It) (kind : Int) (k : Nat) : cnt L kind k ≤ k := by
  induction k with
  | zero => exact Nat.le_refl _
  | succ k ih => simp only [cnt]; split <;> omega
end Go.Proofs.YtccoicjmmeoggaaDoor

/- Of answers the values of a type; so does the document's Of. Each theorem states its conditions. -/
namespace Go.Proofs.YtccoicjmmeoggaaDoor
open Go.RowKit
set_option linter.unusedVariables false

/-- nil, or bytes of the call's own -/
def NilOrOwn (w : World) (base : Nat) (t : It) : Prop :=
  ((t.A = none ∧ t.n = 0 ∧ t.c = 0) ∨ ∃ g, t.A = some ⟨g, 0, none⟩ ∧ base ≤ g ∧ Own8 w g t.n t.c t.z) ∧ t.n ≤ 140737488351232 ∧ ∀ j, 0 ≤ t.z j ∧ t.z j ≤ 255
theorem NilOrOwn.below {w w' : World} {base : Nat} {t : It} (h : NilOrOwn w base t) (hb : Below w.heap.size w w') : NilOrOwn w' base t := by
  refine ⟨?_, h.2⟩
  rcases h.1 with h | ⟨g, h1, h2, h3⟩
  · exact .inl h
  · exact .inr ⟨g, h1, h2, h3.below hb h3.lt⟩
theorem NilOrOwn.ok {w : World} {base : Nat} {t : It} (h : NilOrOwn w base t) : ValOk w t := by
  rcases h.1 with ⟨h0, h1, h2⟩ | ⟨g, h1, h2, h3⟩
  · exact ⟨⟨.inl h1, h.2.2⟩, fun _ => ⟨h1, h2⟩, h.2.1⟩
  · exact ⟨⟨.inr ⟨g, 0, h1, h3.row⟩, h.2.2⟩, fun e => (by rw [h1] at e; cases e), h.2.1⟩
theorem NilOrOwn.grown {w w' : World} {base n : Nat} {t : It} {v : Value} {xs : List Value} (h : NilOrOwn w base t) (hr : w.ownsRow base 22 1 v n xs) (hg : w.grownBy w' v.ownBlock) : NilOrOwn w' base t := by
  refine ⟨?_, h.2⟩
  rcases h.1 with h | ⟨g, h1, h2, h3⟩
  · exact .inl h
  · refine .inr ⟨g, h1, h2, h3.grown hg ?_⟩
    intro e
    obtain ⟨⟨cur, hc, _⟩, _⟩ := h3
    rcases hr.2 with ⟨rfl, _⟩ | ⟨g', cap, cur', rfl, _, hc', _⟩
    · cases e
    · simp [Value.ownBlock] at e
      subst e
      rw [hc] at hc'
      simp at hc'

def RefOfPost (w : World) (L : Nat → It) (kind : Int) (m : Nat) (e : Ending) (w' : World) : Prop :=
  ∃ v, e = .returned v ∧ w'.ownsRow w.heap.size 22 1 v (cnt L kind m) (cellsV (Sel L kind m) (cnt L kind m)) ∧ Below w.heap.size w w'

set_option maxHeartbeats 4000000 in
set_option maxRecDepth 100000 in
theorem refof_any (A : Option Addr) (m c : Nat) (kind : Int) (L : Nat → It) (w : World) (h : RdT w A m L) (hm : m * 32 ≤ 140737488351232) :
    Calls Tryd.prog 43 #[.slice A m c, .int .u8 kind] w (RefOfPost w L kind m) := by
  obtain ⟨i0, hi, hz0, hz1, hz2⟩ := info_parts info_bytes
  have HR := Lib.hid h
  clear h
  go_enter Tryd.func43, Tryd.ntmps43
  go_wp2_with fail
  go_loopw [5, 9] (fun v i wr => ∃ k : Nat, k ≤ m ∧ i = .int .i64 k ∧ wr.ownsRow w.heap.size 22 1 v (cnt L kind k) (cellsV (Sel L kind k) (cnt L kind k)) ∧ Below w.heap.size w wr)
    (fun _ i _ => m - (intOf i).toNat)
  case atStart => exact ⟨0, by omega, rfl, World.ownsRow_nil _ _ _ _, bself w⟩
  case round =>
    obtain ⟨k, hk, rfl, hown, hb⟩ := hrel
    by_cases hkm : k < m
    · obtain ⟨b, off, rfl, hr⟩ := (HR.out.below hb).row (by omega)
      obtain ⟨c0, c1, c2⟩ := hr.2 k hkm
      have hbs := hb.size
      have HO := Lib.hid hown
      have hcl := cnt_le L kind k
      clear hr hown c2
      by_cases hty : (L k).ty = kind
      · have hc1 : cnt L kind (k + 1) = cnt L kind k + 1 := by simp [cnt, hty]
        have hS : Sel L kind (k + 1) = updT (Sel L kind k) (cnt L kind k) (L k) := by simp [Sel, hty]
        have m1 : cnt L kind k + 1 ≤ maxLen := by unfold maxLen; omega
        have m2 : (cnt L kind k + 1) * 24 ≤ 140737488355328 := by omega
        have HC1 := Lib.hid hc1
        have HS := Lib.hid hS
        rw [hty] at c0
        clear hc1 hS hty
        generalize hcn : cnt L kind k = q at *
        go_wp2_with (at_builtin; refine wpList_append_own_at _ rfl (.tmp 19) (.tmp 25) 89 rfl w.heap.size 22 i0 (.slice none 0 0) 1 24 Tryd.underlying89 hi hz0 hz1 hz2 rfl (by decide) u5 q _ rfl (HO.out.alloc _) ⟨wr.heap.size, 0, none⟩ 1 1 [.slice (L k).A (L k).n (L k).c] rfl rfl (one_new wr _ _) (by intro u hu; simp only [List.mem_cons, List.not_mem_nil, or_false] at hu; subst hu; rfl) m1 m2 (by simp; omega) ?_; intro v1 w1 hown1 hgrow1 hnil1 hat1)
        have HB := Lib.hid ((hb.alloc hbs _).grown hgrow1 (by simp; omega) (fun x e => (HO.out.lt x e).1))
        have HR2 : Hid (w1.ownsRow w.heap.size 22 1 v1 (cnt L kind (k + 1)) (cellsV (Sel L kind (k + 1)) (cnt L kind (k + 1)))) := Lib.hid (by rw [HC1.out, HS.out, cellsV_push]; exact hown1)
        clear hown1 hgrow1 hnil1 hat1 c0 c1
        go_wp2
        go_roundw
        case rel => exact ⟨k + 1, by omega, by go_num, HR2.out, HB.out⟩
        case measure => simp only [intOf]; omega
      · have hc1 : cnt L kind (k + 1) = cnt L kind k := by simp [cnt, hty]
        have hS : Sel L kind (k + 1) = Sel L kind k := by simp [Sel, hty]
        have HR2 : Hid (wr.ownsRow w.heap.size 22 1 u5 (cnt L kind (k + 1)) (cellsV (Sel L kind (k + 1)) (cnt L kind (k + 1)))) := Lib.hid (by rw [hc1, hS]; exact HO.out)
        clear hc1 hS
        generalize hty' : (L k).ty = ty at *
        clear hty'
        go_wp2
        go_roundw
        case rel => exact ⟨k + 1, by omega, by go_num, HR2.out, hb⟩
        case measure => simp only [intOf]; omega
    · obtain rfl : k = m := by omega
      have ho := Lib.hid hown
      clear hown
      go_wp2
      go_ret
      exact ⟨_, rfl, ho.out, hb⟩
end Go.Proofs.YtccoicjmmeoggaaDoor

/- The document's DocSeal: what it answers, for every packet and key. Each theorem states its conditions. -/
namespace Go.Proofs.YtccoicjmmeoggaaDoor
open Go.RowKit
set_option linter.unusedVariables false
set_option linter.unusedSimpArgs false

/-- one item more behind a list of the call's own, as an operation -/
theorem tpush_run {o : Oper} {a : Act} {w : World} (s x : Operand) (ho : o.op = .call { callee := .builtin .append, args := #[s, x], argTypes := #[40, 40] })
    (w0 : World) (v : Value) (m : Nat) (L : Nat → It) (hs : a.eval s = v) (h : OwnT w w0.heap.size v m L) (N : Nat) (hx : a.eval x = .slice (some ⟨N, 0, none⟩) 1 1) (t : It) (hK : Blk 49 w N (itC t)) (ht : OwnV w w0.heap.size t) (hm : (m + 1) * 32 ≤ 140737488355328) (hb : Below w0.heap.size w0 w) :
    ∃ v' w', (execOp a.eval o).run Tryd.prog w = .ok (.value v') w' ∧ OwnT w' w0.heap.size v' (m + 1) (updT L m t) ∧ Below w0.heap.size w0 w' := by
  obtain ⟨i0, hi, hz0, hz1, hz2⟩ := info_parts info_tlv
  obtain ⟨v', w', hr, h2, h3, h4, h5⟩ := run_append_own_at (P := Tryd.prog) w w0.heap.size 40 o.type 49 i0 _ 2 32 Tryd.underlying40 hi hz0 hz1 hz2 rfl (by decide) v m _ h.1 ⟨N, 0, none⟩ 1 1 (cellsT (fun _ => t) 1) rfl (it_news hK _ rfl) (cellsT_one _ _) (by unfold maxLen; omega) (by omega) hb.size
  refine ⟨v', w', ?_, OwnT.push h ht h2 h3, hb.grown h3 hb.size (fun k e => (h.1.lt k e).1)⟩
  unfold execOp
  simp only [ho, resolve, invoke, builtin, Sem.run_bind, Sem.run_pure, Result.andThen_ok, List.map_toArray, List.map_cons, List.map_nil, hs, hx, hr]
/-- where it alone may come up -/
theorem takeTp {ops : Array Oper} {Q : Exit → Act → World → Prop} {md : Region.Mode} {S : World → Prop} {i : Nat} {oi : Oper} (d : Option Tmp) {fuel : Nat} {listed : Array Bool} {a : Act} {w : World} (s x : Operand) (hi : ops[i]? = some oi) (hd : oi.dst = d)
    (hr : Region.ready md ops listed = [i]) (hw : Region.wanted oi (yielded ops a.tmps) = true)
    (ho : oi.op = .call { callee := .builtin .append, args := #[s, x], argTypes := #[40, 40] })
    {w0 : World} {v : Value} {m : Nat} {L : Nat → It} (hs : a.eval s = v) (h : OwnT w w0.heap.size v m L) {N : Nat} (hx : a.eval x = .slice (some ⟨N, 0, none⟩) 1 1) {t : It} (hK : Blk 49 w N (itC t)) (ht : OwnV w w0.heap.size t) (hm : (m + 1) * 32 ≤ 140737488355328) (hb : Below w0.heap.size w0 w)
    (k : ∀ v' w', OwnT w' w0.heap.size v' (m + 1) (updT L m t) → Below w0.heap.size w0 w' → S w' ∧ wpAnyH Tryd.prog md ops Q S fuel (listed.setIfInBounds i true) (a.put d v') w') :
    wpAnyH Tryd.prog md ops Q S (fuel + 1) listed a w := by
  obtain ⟨v', w', h1, h2, h3⟩ := tpush_run s x ho w0 v m L hs h N hx t hK ht hm hb
  obtain ⟨h7, h8⟩ := k v' w' h2 h3
  exact takeV d hi hd hr hw h1 h7 h8
theorem ownT_some {w : World} {base m : Nat} {v : Value} {L : Nat → It} (h : OwnT w base v m L) (hm : 0 < m) : ∃ g c, v = .slice (some ⟨g, 0, none⟩) m c ∧ m ≤ c ∧ c ≤ maxLen := by
  rcases h.1.2 with ⟨rfl, rfl⟩ | ⟨g, cap, cur, rfl, hb, hc, h1, h2, h3, h4⟩
  · omega
  · exact ⟨g, cap, rfl, h1, h2⟩
theorem ownT_in {p : Pd} {w : World} {base g9 c9 : Nat} {L9 : Nat → It} (h : OwnT w base (.slice (some ⟨g9, 0, none⟩) (p.m + 1) c9) (p.m + 1) L9) : PdIn w (withT p (some ⟨g9, 0, none⟩) (p.m + 1) c9) L9 := by
  obtain ⟨A8, c8, e8, x1, x2, x3, x4⟩ := h.shape
  injection e8 with e81 e82 e83
  subst e81 e83
  exact ⟨x4, x1, x2⟩
theorem va_zero {w : World} {base N : Nat} (h : Blk 5 w N (bytC 35 nou)) (hb : base ≤ N) : OwnV w base ⟨10, some ⟨N, 0, none⟩, 35, 35, nou⟩ :=
  ⟨⟨by show (0 : Int) ≤ 10; decide, by show (10 : Int) ≤ 255; decide⟩, by show 35 ≤ 140737488351232; decide, N, rfl, hb, mblk_own8 h nou_bd (by show 35 ≤ maxLen; decide)⟩
/-- carried along -/
def BeO (w0 w : World) : Prop := Below w0.heap.size w0 w
theorem BeO.below {w0 w w' : World} (h : BeO w0 w) (hb : Below w.heap.size w w') : BeO w0 w' := Below.trans h (hb.mono (Below.size h))
/-- of several that may come up: a slice of some values is made -/
theorem consBsn {ops : Array Oper} {Q : Exit → Act → World → Prop} {md : Region.Mode} {S : World → Prop} {i : Nat} {oi : Oper} (d : Option Tmp) {rs : List Nat} {fuel : Nat} {listed : Array Bool} {a : Act} {w : World} (n : Nat) (t : TypeId) (C : Array Value) (hi : ops[i]? = some oi) (hd : oi.dst = d)
    (hw : Region.wanted oi (yielded ops a.tmps) = true) (hx : (execOp a.eval oi).run Tryd.prog w = .ok (.value (.slice (some ⟨w.heap.size, 0, none⟩) n n)) (w.alloc (.cells C t))) (N : Nat) (hN : w.heap.size = N)
    (h : ∀ w', Blk t w' N C → Below w.heap.size w w' → N + 1 ≤ w'.heap.size → S w' ∧ wpAnyH Tryd.prog md ops Q S fuel (listed.setIfInBounds i true) (a.put d (.slice (some ⟨N, 0, none⟩) n n)) w') (hs : AllReadyH Tryd.prog md ops Q S fuel listed a w rs) : AllReadyH Tryd.prog md ops Q S fuel listed a w (i :: rs) := by
  subst hN
  obtain ⟨h1, h2⟩ := h _ (heap_alloc_new w _) ((Below.refl _ _).alloc (Nat.le_refl _) _) (by simp)
  exact consVW d hi hd hw hx h1 h2 hs
theorem make_35 (W : World) (o : Oper) (e : Operand → Value) (ho : o.op = .makeSlice 22 (.const (.int .i64 35)) (.const (.int .i64 35))) (hc : ∀ v, e (.const v) = v) :
    (execOp e o).run Tryd.prog W = .ok (.value (.slice (some ⟨W.heap.size, 0, none⟩) 35 35)) (W.alloc (.cells (bytC 35 nou) 5)) := by
  unfold execOp
  simp only [ho, hc]
  kernel_rfl
/-- carried along -/
def TwO (w : World) (base : Nat) (v : Value) (m : Nat) (L : Nat → It) : Prop := OwnT w base v m L
theorem TwO.below {w w' : World} {base m : Nat} {v : Value} {L : Nat → It} (h : TwO w base v m L) (hb : Below w.heap.size w w') : TwO w' base v m L := OwnT.below h hb
def VaO (w : World) (base : Nat) (t : It) : Prop := OwnV w base t
theorem VaO.below {w w' : World} {base : Nat} {t : It} (h : VaO w base t) (hb : Below w.heap.size w w') : VaO w' base t := OwnV.below h hb
/-- what hangs on sizes alone -/
theorem sl_size {p : Pd} {L L2 : Nat → It} (A : Option Addr) (c id m0 : Nat) (z : Nat → Int) (h : ∀ j, j < p.m + 1 → (slT L p.m id z j).n = (L2 j).n) :
    wrX (withT p A (p.m + 1) c) L2 m0 = wrX (slP p) (slT L p.m id z) m0 := by
  have hs : sz (slT L p.m id z) (p.m + 1) = sz L2 (p.m + 1) := sz_congr (m := p.m + 1) h (p.m + 1) (Nat.le_refl _)
  rw [(wr_like (p := withT p A (p.m + 1) c) (p' := slP p) ⟨rfl, rfl, fun i _ => ⟨rfl, fun W => rfl⟩⟩ L2 m0).1]
  have hm : (slP p).m = p.m + 1 := rfl
  unfold wrX
  rw [hm, hs]
theorem cnt_no {L : Nat → It} {m : Nat} (h : NoSig L m) : cnt L 10 m = 0 := by
  induction m with
  | zero => rfl
  | succ m ih =>
    unfold cnt
    rw [if_neg (h m (by omega)), ih fun j hj => h j (by omega)]
theorem cnt_pos {L : Nat → It} {m k : Nat} (h : AtSig L m k) : 0 < cnt L 10 m := by
  induction m with
  | zero => exact absurd h.1 (by omega)
  | succ m ih =>
    unfold cnt
    by_cases e : (L m).ty = 10
    · rw [if_pos e]; omega
    · rw [if_neg e]
      exact ih ⟨by have := h.1; have : k ≠ m := fun e2 => e (e2 ▸ h.2.1); omega, h.2⟩
theorem sizes_push {L L2 : Nat → It} {m id : Nat} {z : Nat → Int} {t : It} (h : ∀ j, j < m → Alike (L j) (L2 j)) (ht : t.n = 35) : ∀ j, j < m + 1 → (slT L m id z j).n = (updT L2 m t j).n := by
  intro j hj
  unfold slT
  by_cases e : j < m
  · rw [addT_lo _ _ _ _ e, updT_other _ _ _ _ (by omega)]; exact (h j e).2.1
  · obtain rfl : j = m := by omega
    rw [addT_hi, updT_same]; exact ht.symm
theorem info_key : (Tryd.prog.info? 45).map (·.size) = some 2 := by kernel_rfl
theorem secE_cases (sn : Nat) : secE sn = 2 ∨ secE sn = 3 ∨ secE sn = 0 := by unfold secE; (repeat' split) <;> omega
theorem se_1 (sn : Nat) (b : Bool) : (if b = true then lea (lea 1 (secE sn)) 3 else lea 1 (secE sn)) = 1 := by
  rcases secE_cases sn with h | h | h <;> rw [h] <;> cases b <;> rfl
theorem se_2 (sn : Nat) (b : Bool) : (if b = true then lea (lea 2 (secE sn)) 3 else lea 2 (secE sn)) = 2 := by
  rcases secE_cases sn with h | h | h <;> rw [h] <;> cases b <;> rfl
theorem se_64 {sn : Nat} (h : 64 < sn) (b : Bool) : (if b = true then lea (lea 0 (secE sn)) 3 else lea 0 (secE sn)) = 2 := by
  rw [show secE sn = 2 from if_pos h]; cases b <;> rfl
theorem se_0 (b : Bool) : (if b = true then lea (lea 0 (secE 0)) 3 else lea 0 (secE 0)) = 3 := by cases b <;> rfl
theorem se_3 {sn : Nat} (h : 0 < sn ∧ sn ≤ 64) : (if true = true then lea (lea 0 (secE sn)) 3 else lea 0 (secE sn)) = 3 := by
  rw [show secE sn = 0 from by unfold secE; rw [if_neg (by omega), if_neg (by omega)]]; rfl
theorem se_ok {sn : Nat} (h : 0 < sn ∧ sn ≤ 64) : (if false = true then lea (lea 0 (secE sn)) 3 else lea 0 (secE sn)) = 0 := by
  rw [show secE sn = 0 from by unfold secE; rw [if_neg (by omega), if_neg (by omega)]]; rfl
set_option maxHeartbeats 40000000 in
set_option maxRecDepth 100000 in
theorem docSeal_any (p : Pd) (hp : PdOk p) (L : Nat → It) (m0 id : Nat) (A : Option Addr) (sn sc : Nat) (k : Nat → Int) (b : Bool) (hm : JEnds (slT L p.m id nou) (p.m + 1) m0) (w : World) (hR : RdT w p.A p.m L) (hA : p.A = none → p.m = 0 ∧ p.c = 0) (h32 : p.m * 32 ≤ 140737488351232)
    (hid : id ≤ 65535) (hk : Rd w A sn k) (hkA : A = none → sn = 0 ∧ sc = 0) (hb : HasSig L p.m b) :
    Calls Tryd.prog 19 #[.agg (pdC p), .agg (keyC id A sn sc)] w (WrP w (seN p L m0 id sn b) (seX p L m0 id sn b) (seZ p L m0 id k sn b)) := by
  have HP := Lib.hid hp
  have HM := Lib.hid hm
  have HR := Lib.hid hR
  have HA := Lib.hid hA
  have H32 := Lib.hid h32
  have HID := Lib.hid hid
  have HK := Lib.hid hk
  have HKA := Lib.hid hkA
  have HBB := Lib.hid hb
  obtain ⟨Xu, hXu⟩ : ∃ X, wrX (slP p) (slT L p.m id nou) m0 = X := ⟨_, rfl⟩
  have bX := wrX_bd (slP p) (slT L p.m id nou) m0
  rw [hXu] at bX
  have HXu := Lib.hid hXu
  have BX := Lib.hid bX
  clear hp hm hR hA h32 hid hk hkA hb hXu bX
  go_enter Tryd.func19, Tryd.ntmps19
  have HB := Lib.hid (Below.refl w.heap.size w)
  obtain ⟨N1, hN1⟩ : ∃ N, w.heap.size = N := ⟨_, rfl⟩
  have HN1 := Lib.hid hN1
  clear hN1
  go_wp2_with (refine wpList_box (op := ⟨some 2, _, _, _, _, _⟩) rfl 42 (.tmp 0) rfl (pdC p) rfl N1 HN1.out ?_; intro w1 k1 b1 s1; refine Hid.out ?_)
  refine Lib.hid ?_
  have KP := Lib.hid k1
  clear k1
  have le_HB_N1 : w.heap.size ≤ N1 := by rw [← HN1.out]; exact HB.out.size
  have HBn := Lib.hid (HB.out.trans (b1.mono HB.out.size))
  clear HB
  have HB := HBn
  clear HBn
  clear b1 HN1
  obtain ⟨N2, hN2⟩ : ∃ N, w1.heap.size = N := ⟨_, rfl⟩
  have HN2 := Lib.hid hN2
  clear hN2
  go_wp2_with (refine wpList_box (op := ⟨some 3, _, _, _, _, _⟩) rfl 45 (.tmp 1) rfl (keyC id A sn sc) rfl N2 HN2.out ?_; intro w2 k1 b1 s1; refine Hid.out ?_)
  refine Lib.hid ?_
  have KK := Lib.hid k1
  clear k1
  have lt_N1_N2 : N1 < N2 := by rw [← HN2.out]; exact KP.out.lt
  have le_HB_N2 : w.heap.size ≤ N2 := by rw [← HN2.out]; exact HB.out.size
  have KPn := Lib.hid (KP.out.below b1 KP.out.lt)
  clear KP
  have KP := KPn
  clear KPn
  have HBn := Lib.hid (HB.out.trans (b1.mono HB.out.size))
  clear HB
  have HB := HBn
  clear HBn
  clear b1 HN2
  go_wp2_with (refine wpList_ld (op := ⟨some 9, _, _, _, _, _⟩) (by rfl) 42 (.tmp 2) rfl N1 0 rfl (pdC p) _ KP.out.all Tryd.underlying42 rfl info_pdR ?_; refine Hid.out ?_)
  refine Lib.hid ?_
  obtain ⟨N3, hN3⟩ : ∃ N, w2.heap.size = N := ⟨_, rfl⟩
  have HN3 := Lib.hid hN3
  clear hN3
  go_wp2_with (refine wpList_new (op := ⟨some 6, _, _, _, _, _⟩) rfl 42 rfl (pdC pd0) zero_pdR N3 HN3.out ?_; intro w3 k1 b1 s1; refine Hid.out ?_)
  refine Lib.hid ?_
  have K6 := Lib.hid k1
  clear k1
  have lt_N1_N3 : N1 < N3 := by rw [← HN3.out]; exact KP.out.lt
  have lt_N2_N3 : N2 < N3 := by rw [← HN3.out]; exact KK.out.lt
  have le_HB_N3 : w.heap.size ≤ N3 := by rw [← HN3.out]; exact HB.out.size
  have KPn := Lib.hid (KP.out.below b1 KP.out.lt)
  clear KP
  have KP := KPn
  clear KPn
  have KKn := Lib.hid (KK.out.below b1 KK.out.lt)
  clear KK
  have KK := KKn
  clear KKn
  have HBn := Lib.hid (HB.out.trans (b1.mono HB.out.size))
  clear HB
  have HB := HBn
  clear HBn
  clear b1 HN3
  go_wp2_with (refine wpList_st rfl 42 (.tmp 6) (.tmp 9) rfl N3 0 rfl (.agg (pdC p)) (pdC p) rfl rfl info_pdR (pdC_one _) K6.out (Nat.le_of_ble_eq_true rfl) (C' := pdC p) (pd_over _ _) ?_; intro w30 q1; refine Hid.out ?_)
  refine Lib.hid ?_
  have KPn := Lib.hid (KP.out.far q1 (by omega))
  clear KP
  have KP := KPn
  clear KPn
  have KKn := Lib.hid (KK.out.far q1 (by omega))
  clear KK
  have KK := KKn
  clear KKn
  have HBn := Lib.hid (HB.out.trans (q1.2.1 _ (by omega)))
  clear HB
  have HB := HBn
  clear HBn
  have K6n : Hid (Blk 42 w30 N3 (pdC p)) := Lib.hid q1.1
  clear K6
  have K6 := K6n
  clear K6n q1
  go_wp2_with fail
  go_cut [] (fun wc => ∃ g9 c9 L9, Hid (Blk 42 wc N3 (pdC (withT p (some ⟨g9, 0, none⟩) (p.m + 1) c9))) ∧ Hid (PdIn wc (withT p (some ⟨g9, 0, none⟩) (p.m + 1) c9) L9) ∧ Hid (∀ j, j < p.m + 1 → (slT L p.m id nou j).n = (L9 j).n) ∧ Hid (Blk 42 wc N1 (pdC p)) ∧ Hid (Blk 45 wc N2 (keyC id A sn sc)) ∧ Hid (Below w.heap.size w wc))
  case first =>
    have K6O : Hid (BlO 42 w30 N3 (pdC p)) := Lib.hid K6.out
    clear K6
    have K6Od : Hid (BlO 42 w30.drew N3 (pdC p)) := Lib.hid K6O.out
    clear K6O
    refine wp_region_held_drew (S := fun w' => Blk 42 w' N1 (pdC p) ∧ Blk 45 w' N2 (keyC id A sn sc) ∧ Below w.heap.size w w') (by kernel_rfl) ⟨KP.out, KK.out, HB.out.drew⟩ (fun hS => ?_)
    generalize hW31 : w30.drew = W31 at hS K6Od ⊢
    clear hW31
    clear KP
    clear KK
    clear HB
    have K6O := K6Od
    clear K6Od
    have KP := Lib.hid hS.1
    have KK := Lib.hid hS.2.1
    have HB := Lib.hid hS.2.2
    have H0 : Hid (BeO W31 W31) := Lib.hid (Below.refl _ _)
    have K6b := Lib.hid K6O.out
    have KPb := Lib.hid KP.out
    have KKb := Lib.hid KK.out
    have HBb := Lib.hid HB.out
    refine takeY (i := 0) (some 10) (v := .pointer (some ⟨N1, 46, none⟩)) rfl rfl (by kernel_rfl) (by kernel_rfl) (by kernel_rfl) (fun _ _ _ h => h) (by rfl) (fun w' hS => by go_simp) hS ?_
    simp only [Act.put, List.setIfInBounds_toArray, List.set_cons_zero, List.set_cons_succ]
    refine takeY (i := 1) (some 11) (v := .slice p.A p.m p.c) rfl rfl (by kernel_rfl) (by kernel_rfl) (by kernel_rfl) (fun _ _ _ h => h) (by rfl) (fun w' hS => by (have c9 : w'.cell? ⟨N1, 46, none⟩ = some (.slice p.A p.m p.c) := (hS.1.cell 46).trans rfl; clear hS; go_simp)) hS ?_
    simp only [Act.put, List.setIfInBounds_toArray, List.set_cons_zero, List.set_cons_succ]
    obtain ⟨M32, hM32⟩ : ∃ N, W31.heap.size = N := ⟨_, rfl⟩
    have HM32 := Lib.hid hM32
    have le_M32 : W31.heap.size ≤ M32 := by rw [← hM32]; exact Below.size H0.out
    clear hM32
    refine wpAnyH_ready (show Region.ready _ _ _ = [2, 3] from by kernel_rfl) (by simp) (consCE (i := 2) (some 12) 16 #[.slice p.A p.m p.c] (R := fun v w' => ∃ L2, OwnT w' W31.heap.size v p.m L2 ∧ (∀ j, j < p.m → Alike (L j) (L2 j)) ∧ Below W31.heap.size W31 w') rfl rfl (by rfl) (by go_simp) ((twinT_any p.A p.m p.c L W31 (HR.out.below HB.out) H32.out).mono fun e w' h => h.elim fun v h => h.elim fun L2 h => ⟨v, h.1, L2, h.2⟩) (fun v w' h => by obtain ⟨L2, h1, h2, hbt⟩ := h; exact ⟨hS.1.below hbt hS.1.lt, hS.2.1.below hbt hS.2.1.lt, hS.2.2.trans (hbt.mono hS.2.2.size)⟩) ?_ (consBsn (i := 3) (some 13) 35 5 (bytC 35 nou) rfl rfl (by rfl) (make_35 _ _ _ rfl (fun _ => rfl)) M32 HM32.out ?_ AllReadyH.nil))
    · skip
      clear HM32
      intro v W33 h hS2
      obtain ⟨L2, h1, h2, hbt⟩ := h
      clear hS2
      simp only [Act.put, List.setIfInBounds_toArray, List.set_cons_zero, List.set_cons_succ]
      have HT : Hid (TwO W33 W31.heap.size v p.m L2) := Lib.hid (h1.le (Below.size H0.out))
      have HAL := Lib.hid h2
      clear h1 h2
      have K6On := Lib.hid (K6O.out.below hbt)
      clear K6O
      have K6O := K6On
      clear K6On
      have H0n := Lib.hid (H0.out.below hbt)
      clear H0
      have H0 := H0n
      clear H0n
      have KPn := Lib.hid (KP.out.below hbt KP.out.lt)
      clear KP
      have KP := KPn
      clear KPn
      have KKn := Lib.hid (KK.out.below hbt KK.out.lt)
      clear KK
      have KK := KKn
      clear KKn
      have HBn := Lib.hid (HB.out.trans (hbt.mono HB.out.size))
      clear HB
      have HB := HBn
      clear HBn
      clear hbt hS
      have hS := (And.intro KP.out (And.intro KK.out HB.out))
      obtain ⟨M34, hM34⟩ : ∃ N, W33.heap.size = N := ⟨_, rfl⟩
      have HM34 := Lib.hid hM34
      have le_M34 : W31.heap.size ≤ M34 := by rw [← hM34]; exact Below.size H0.out
      clear hM34
      refine takeBsn (i := 3) (some 13) 35 5 (bytC 35 nou) rfl rfl (by kernel_rfl) (by rfl) (make_35 _ _ _ rfl (fun _ => rfl)) M34 HM34.out ?_
      intro W35 k1 b1 s1
      refine ⟨⟨hS.1.below b1 hS.1.lt, hS.2.1.below b1 hS.2.1.lt, hS.2.2.trans (b1.mono hS.2.2.size)⟩, ?_⟩
      simp only [Act.put, List.setIfInBounds_toArray, List.set_cons_zero, List.set_cons_succ]
      have KZ : Hid (BlO 5 W35 M34 (bytC 35 nou)) := Lib.hid k1
      clear k1
      have K6On := Lib.hid (K6O.out.below b1)
      clear K6O
      have K6O := K6On
      clear K6On
      have H0n := Lib.hid (H0.out.below b1)
      clear H0
      have H0 := H0n
      clear H0n
      have HTn := Lib.hid (HT.out.below b1)
      clear HT
      have HT := HTn
      clear HTn
      have KPn := Lib.hid (KP.out.below b1 KP.out.lt)
      clear KP
      have KP := KPn
      clear KPn
      have KKn := Lib.hid (KK.out.below b1 KK.out.lt)
      clear KK
      have KK := KKn
      clear KKn
      have HBn := Lib.hid (HB.out.trans (b1.mono HB.out.size))
      clear HB
      have HB := HBn
      clear HBn
      clear b1 hS HM34
      have hS := (And.intro KP.out (And.intro KK.out HB.out))
      have HV : Hid (VaO W35 W31.heap.size ⟨10, some ⟨M34, 0, none⟩, 35, 35, nou⟩) := Lib.hid (va_zero KZ.out le_M34)
      clear KZ
      refine takeY (i := 4) (some 14) (v := .agg (itC ⟨10, some ⟨M34, 0, none⟩, 35, 35, nou⟩)) rfl rfl (by kernel_rfl) (by kernel_rfl) (by kernel_rfl) (fun _ _ _ h => h) (by rfl) (fun w' hS => by exact build_it _ _ _ _ rfl ⟨10, some ⟨M34, 0, none⟩, 35, 35, nou⟩ rfl rfl _) hS ?_
      simp only [Act.put, List.setIfInBounds_toArray, List.set_cons_zero, List.set_cons_succ]
      obtain ⟨M36, hM36⟩ : ∃ N, W35.heap.size = N := ⟨_, rfl⟩
      have HM36 := Lib.hid hM36
      have le_M36 : W31.heap.size ≤ M36 := by rw [← hM36]; exact Below.size H0.out
      clear hM36
      refine takeBsn (i := 5) (some 15) 1 49 (itC ⟨10, some ⟨M34, 0, none⟩, 35, 35, nou⟩) rfl rfl (by kernel_rfl) (by rfl) (bs_one _ _ _ rfl ⟨10, some ⟨M34, 0, none⟩, 35, 35, nou⟩ rfl) M36 HM36.out ?_
      intro W37 k1 b1 s1
      refine ⟨⟨hS.1.below b1 hS.1.lt, hS.2.1.below b1 hS.2.1.lt, hS.2.2.trans (b1.mono hS.2.2.size)⟩, ?_⟩
      simp only [Act.put, List.setIfInBounds_toArray, List.set_cons_zero, List.set_cons_succ]
      have KT : Hid (BlO 49 W37 M36 (itC ⟨10, some ⟨M34, 0, none⟩, 35, 35, nou⟩)) := Lib.hid k1
      clear k1
      have K6On := Lib.hid (K6O.out.below b1)
      clear K6O
      have K6O := K6On
      clear K6On
      have H0n := Lib.hid (H0.out.below b1)
      clear H0
      have H0 := H0n
      clear H0n
      have HTn := Lib.hid (HT.out.below b1)
      clear HT
      have HT := HTn
      clear HTn
      have HVn := Lib.hid (HV.out.below b1)
      clear HV
      have HV := HVn
      clear HVn
      have KPn := Lib.hid (KP.out.below b1 KP.out.lt)
      clear KP
      have KP := KPn
      clear KPn
      have KKn := Lib.hid (KK.out.below b1 KK.out.lt)
      clear KK
      have KK := KKn
      clear KKn
      have HBn := Lib.hid (HB.out.trans (b1.mono HB.out.size))
      clear HB
      have HB := HBn
      clear HBn
      clear b1 hS HM36
      have hS := (And.intro KP.out (And.intro KK.out HB.out))
      refine takeTp (i := 6) (some 16) (.tmp 12) (.tmp 15) rfl rfl (by kernel_rfl) (by rfl) rfl rfl HT.out rfl KT.out HV.out (by have := H32.out; omega) H0.out ?_
      intro v9 W38 h9 hb9
      have hq := sizes_push (id := id) (z := nou) (t := ⟨10, some ⟨M34, 0, none⟩, 35, 35, nou⟩) HAL.out rfl
      obtain ⟨g9, c9, rfl, h91, h92⟩ := ownT_some h9 (by omega)
      have KP9 := Lib.hid (KPb.out.below hb9 KPb.out.lt)
      have KK9 := Lib.hid (KKb.out.below hb9 KKb.out.lt)
      have HB9 := Lib.hid (HBb.out.trans (hb9.mono HBb.out.size))
      have K69 := Lib.hid (Blk.below K6b.out hb9 (Blk.lt K6b.out))
      refine ⟨⟨KP9.out, KK9.out, HB9.out⟩, ?_⟩
      simp only [Act.put, List.setIfInBounds_toArray, List.set_cons_zero, List.set_cons_succ]
      have H9 := Lib.hid h9
      have HQ9 := Lib.hid hq
      clear h9 hq hS HT HV KT K6O H0
      clear KP
      clear KK
      clear HB
      have hS : Blk 42 W38 N1 (pdC p) ∧ Blk 45 W38 N2 (keyC id A sn sc) ∧ Below w.heap.size w W38 := ⟨KP9.out, KK9.out, HB9.out⟩
      refine takeY (i := 7) (some 17) (v := .pointer (some ⟨N3, 46, none⟩)) rfl rfl (by kernel_rfl) (by kernel_rfl) (by kernel_rfl) (fun _ _ _ h => h) (by rfl) (fun w' hS => by go_simp) hS ?_
      simp only [Act.put, List.setIfInBounds_toArray, List.set_cons_zero, List.set_cons_succ]
      clear hS
      refine takeSt (i := 8) 40 (.tmp 17) (.tmp 16) N3 46 (.slice (some ⟨g9, 0, none⟩) (p.m + 1) c9) #[.slice (some ⟨g9, 0, none⟩) (p.m + 1) c9] (pdC (withT p (some ⟨g9, 0, none⟩) (p.m + 1) c9)) rfl rfl (by kernel_rfl) (by rfl) rfl rfl rfl rfl info_lt one_sl K69.out (Nat.le_of_ble_eq_true rfl) (pd_put _ _ _ _) ?_
      intro W39 q1
      have K6x : Hid (Blk 42 W39 N3 (pdC (withT p (some ⟨g9, 0, none⟩) (p.m + 1) c9))) := Lib.hid q1.1
      have KPx := Lib.hid (KP9.out.far q1 (by omega))
      have KKx := Lib.hid (KK9.out.far q1 (by omega))
      have HBx := Lib.hid (HB9.out.trans (q1.2.1 _ (by omega)))
      have HINx := Lib.hid (ownT_in (p := p) (OwnT.far H9.out q1 (Blk.lt K6b.out)))
      refine ⟨⟨KPx.out, KKx.out, HBx.out⟩, ?_⟩
      simp only [Act.put, List.setIfInBounds_toArray, List.set_cons_zero, List.set_cons_succ]
      refine wpAnyH_done (by kernel_rfl) ?_ _
      go_wp2_with fail
      go_meet
      case rel => exact ⟨g9, c9, _, K6x, HINx, HQ9, KPx, KKx, HBx⟩
    · skip
      intro W33 k1 b1 s1
      refine ⟨⟨hS.1.below b1 hS.1.lt, hS.2.1.below b1 hS.2.1.lt, hS.2.2.trans (b1.mono hS.2.2.size)⟩, ?_⟩
      simp only [Act.put, List.setIfInBounds_toArray, List.set_cons_zero, List.set_cons_succ]
      have KZ : Hid (BlO 5 W33 M32 (bytC 35 nou)) := Lib.hid k1
      clear k1
      have K6On := Lib.hid (K6O.out.below b1)
      clear K6O
      have K6O := K6On
      clear K6On
      have H0n := Lib.hid (H0.out.below b1)
      clear H0
      have H0 := H0n
      clear H0n
      have KPn := Lib.hid (KP.out.below b1 KP.out.lt)
      clear KP
      have KP := KPn
      clear KPn
      have KKn := Lib.hid (KK.out.below b1 KK.out.lt)
      clear KK
      have KK := KKn
      clear KKn
      have HBn := Lib.hid (HB.out.trans (b1.mono HB.out.size))
      clear HB
      have HB := HBn
      clear HBn
      clear b1 hS HM32
      have hS := (And.intro KP.out (And.intro KK.out HB.out))
      have HV : Hid (VaO W33 W31.heap.size ⟨10, some ⟨M32, 0, none⟩, 35, 35, nou⟩) := Lib.hid (va_zero KZ.out le_M32)
      clear KZ
      refine takeY (i := 4) (some 14) (v := .agg (itC ⟨10, some ⟨M32, 0, none⟩, 35, 35, nou⟩)) rfl rfl (by kernel_rfl) (by kernel_rfl) (by kernel_rfl) (fun _ _ _ h => h) (by rfl) (fun w' hS => by exact build_it _ _ _ _ rfl ⟨10, some ⟨M32, 0, none⟩, 35, 35, nou⟩ rfl rfl _) hS ?_
      simp only [Act.put, List.setIfInBounds_toArray, List.set_cons_zero, List.set_cons_succ]
      obtain ⟨M34, hM34⟩ : ∃ N, W33.heap.size = N := ⟨_, rfl⟩
      have HM34 := Lib.hid hM34
      have le_M34 : W31.heap.size ≤ M34 := by rw [← hM34]; exact Below.size H0.out
      clear hM34
      refine wpAnyH_ready (show Region.ready _ _ _ = [2, 5] from by kernel_rfl) (by simp) (consCE (i := 2) (some 12) 16 #[.slice p.A p.m p.c] (R := fun v w' => ∃ L2, OwnT w' W33.heap.size v p.m L2 ∧ (∀ j, j < p.m → Alike (L j) (L2 j)) ∧ Below W33.heap.size W33 w') rfl rfl (by rfl) (by go_simp) ((twinT_any p.A p.m p.c L W33 (HR.out.below HB.out) H32.out).mono fun e w' h => h.elim fun v h => h.elim fun L2 h => ⟨v, h.1, L2, h.2⟩) (fun v w' h => by obtain ⟨L2, h1, h2, hbt⟩ := h; exact ⟨hS.1.below hbt hS.1.lt, hS.2.1.below hbt hS.2.1.lt, hS.2.2.trans (hbt.mono hS.2.2.size)⟩) ?_ (consBsn (i := 5) (some 15) 1 49 (itC ⟨10, some ⟨M32, 0, none⟩, 35, 35, nou⟩) rfl rfl (by rfl) (bs_one _ _ _ rfl ⟨10, some ⟨M32, 0, none⟩, 35, 35, nou⟩ rfl) M34 HM34.out ?_ AllReadyH.nil))
      · skip
        clear HM34
        intro v W35 h hS2
        obtain ⟨L2, h1, h2, hbt⟩ := h
        clear hS2
        simp only [Act.put, List.setIfInBounds_toArray, List.set_cons_zero, List.set_cons_succ]
        have HT : Hid (TwO W35 W31.heap.size v p.m L2) := Lib.hid (h1.le (Below.size H0.out))
        have HAL := Lib.hid h2
        clear h1 h2
        have K6On := Lib.hid (K6O.out.below hbt)
        clear K6O
        have K6O := K6On
        clear K6On
        have H0n := Lib.hid (H0.out.below hbt)
        clear H0
        have H0 := H0n
        clear H0n
        have HVn := Lib.hid (HV.out.below hbt)
        clear HV
        have HV := HVn
        clear HVn
        have KPn := Lib.hid (KP.out.below hbt KP.out.lt)
        clear KP
        have KP := KPn
        clear KPn
        have KKn := Lib.hid (KK.out.below hbt KK.out.lt)
        clear KK
        have KK := KKn
        clear KKn
        have HBn := Lib.hid (HB.out.trans (hbt.mono HB.out.size))
        clear HB
        have HB := HBn
        clear HBn
        clear hbt hS
        have hS := (And.intro KP.out (And.intro KK.out HB.out))
        obtain ⟨M36, hM36⟩ : ∃ N, W35.heap.size = N := ⟨_, rfl⟩
        have HM36 := Lib.hid hM36
        have le_M36 : W31.heap.size ≤ M36 := by rw [← hM36]; exact Below.size H0.out
        clear hM36
        refine takeBsn (i := 5) (some 15) 1 49 (itC ⟨10, some ⟨M32, 0, none⟩, 35, 35, nou⟩) rfl rfl (by kernel_rfl) (by rfl) (bs_one _ _ _ rfl ⟨10, some ⟨M32, 0, none⟩, 35, 35, nou⟩ rfl) M36 HM36.out ?_
        intro W37 k1 b1 s1
        refine ⟨⟨hS.1.below b1 hS.1.lt, hS.2.1.below b1 hS.2.1.lt, hS.2.2.trans (b1.mono hS.2.2.size)⟩, ?_⟩
        simp only [Act.put, List.setIfInBounds_toArray, List.set_cons_zero, List.set_cons_succ]
        have KT : Hid (BlO 49 W37 M36 (itC ⟨10, some ⟨M32, 0, none⟩, 35, 35, nou⟩)) := Lib.hid k1
        clear k1
        have K6On := Lib.hid (K6O.out.below b1)
        clear K6O
        have K6O := K6On
        clear K6On
        have H0n := Lib.hid (H0.out.below b1)
        clear H0
        have H0 := H0n
        clear H0n
        have HVn := Lib.hid (HV.out.below b1)
        clear HV
        have HV := HVn
        clear HVn
        have HTn := Lib.hid (HT.out.below b1)
        clear HT
        have HT := HTn
        clear HTn
        have KPn := Lib.hid (KP.out.below b1 KP.out.lt)
        clear KP
        have KP := KPn
        clear KPn
        have KKn := Lib.hid (KK.out.below b1 KK.out.lt)
        clear KK
        have KK := KKn
        clear KKn
        have HBn := Lib.hid (HB.out.trans (b1.mono HB.out.size))
        clear HB
        have HB := HBn
        clear HBn
        clear b1 hS HM36
        have hS := (And.intro KP.out (And.intro KK.out HB.out))
        refine takeTp (i := 6) (some 16) (.tmp 12) (.tmp 15) rfl rfl (by kernel_rfl) (by rfl) rfl rfl HT.out rfl KT.out HV.out (by have := H32.out; omega) H0.out ?_
        intro v9 W38 h9 hb9
        have hq := sizes_push (id := id) (z := nou) (t := ⟨10, some ⟨M32, 0, none⟩, 35, 35, nou⟩) HAL.out rfl
        obtain ⟨g9, c9, rfl, h91, h92⟩ := ownT_some h9 (by omega)
        have KP9 := Lib.hid (KPb.out.below hb9 KPb.out.lt)
        have KK9 := Lib.hid (KKb.out.below hb9 KKb.out.lt)
        have HB9 := Lib.hid (HBb.out.trans (hb9.mono HBb.out.size))
        have K69 := Lib.hid (Blk.below K6b.out hb9 (Blk.lt K6b.out))
        refine ⟨⟨KP9.out, KK9.out, HB9.out⟩, ?_⟩
        simp only [Act.put, List.setIfInBounds_toArray, List.set_cons_zero, List.set_cons_succ]
        have H9 := Lib.hid h9
        have HQ9 := Lib.hid hq
        clear h9 hq hS HT HV KT K6O H0
        clear KP
        clear KK
        clear HB
        have hS : Blk 42 W38 N1 (pdC p) ∧ Blk 45 W38 N2 (keyC id A sn sc) ∧ Below w.heap.size w W38 := ⟨KP9.out, KK9.out, HB9.out⟩
        refine takeY (i := 7) (some 17) (v := .pointer (some ⟨N3, 46, none⟩)) rfl rfl (by kernel_rfl) (by kernel_rfl) (by kernel_rfl) (fun _ _ _ h => h) (by rfl) (fun w' hS => by go_simp) hS ?_
        simp only [Act.put, List.setIfInBounds_toArray, List.set_cons_zero, List.set_cons_succ]
        clear hS
        refine takeSt (i := 8) 40 (.tmp 17) (.tmp 16) N3 46 (.slice (some ⟨g9, 0, none⟩) (p.m + 1) c9) #[.slice (some ⟨g9, 0, none⟩) (p.m + 1) c9] (pdC (withT p (some ⟨g9, 0, none⟩) (p.m + 1) c9)) rfl rfl (by kernel_rfl) (by rfl) rfl rfl rfl rfl info_lt one_sl K69.out (Nat.le_of_ble_eq_true rfl) (pd_put _ _ _ _) ?_
        intro W39 q1
        have K6x : Hid (Blk 42 W39 N3 (pdC (withT p (some ⟨g9, 0, none⟩) (p.m + 1) c9))) := Lib.hid q1.1
        have KPx := Lib.hid (KP9.out.far q1 (by omega))
        have KKx := Lib.hid (KK9.out.far q1 (by omega))
        have HBx := Lib.hid (HB9.out.trans (q1.2.1 _ (by omega)))
        have HINx := Lib.hid (ownT_in (p := p) (OwnT.far H9.out q1 (Blk.lt K6b.out)))
        refine ⟨⟨KPx.out, KKx.out, HBx.out⟩, ?_⟩
        simp only [Act.put, List.setIfInBounds_toArray, List.set_cons_zero, List.set_cons_succ]
        refine wpAnyH_done (by kernel_rfl) ?_ _
        go_wp2_with fail
        go_meet
        case rel => exact ⟨g9, c9, _, K6x, HINx, HQ9, KPx, KKx, HBx⟩
      · skip
        intro W35 k1 b1 s1
        refine ⟨⟨hS.1.below b1 hS.1.lt, hS.2.1.below b1 hS.2.1.lt, hS.2.2.trans (b1.mono hS.2.2.size)⟩, ?_⟩
        simp only [Act.put, List.setIfInBounds_toArray, List.set_cons_zero, List.set_cons_succ]
        have KT : Hid (BlO 49 W35 M34 (itC ⟨10, some ⟨M32, 0, none⟩, 35, 35, nou⟩)) := Lib.hid k1
        clear k1
        have K6On := Lib.hid (K6O.out.below b1)
        clear K6O
        have K6O := K6On
        clear K6On
        have H0n := Lib.hid (H0.out.below b1)
        clear H0
        have H0 := H0n
        clear H0n
        have HVn := Lib.hid (HV.out.below b1)
        clear HV
        have HV := HVn
        clear HVn
        have KPn := Lib.hid (KP.out.below b1 KP.out.lt)
        clear KP
        have KP := KPn
        clear KPn
        have KKn := Lib.hid (KK.out.below b1 KK.out.lt)
        clear KK
        have KK := KKn
        clear KKn
        have HBn := Lib.hid (HB.out.trans (b1.mono HB.out.size))
        clear HB
        have HB := HBn
        clear HBn
        clear b1 hS HM34
        have hS := (And.intro KP.out (And.intro KK.out HB.out))
        refine takeCE (i := 2) (some 12) 16 #[.slice p.A p.m p.c] (R := fun v w' => ∃ L2, OwnT w' W35.heap.size v p.m L2 ∧ (∀ j, j < p.m → Alike (L j) (L2 j)) ∧ Below W35.heap.size W35 w') rfl rfl (by kernel_rfl) (by rfl) (by go_simp) ((twinT_any p.A p.m p.c L W35 (HR.out.below HB.out) H32.out).mono fun e w' h => h.elim fun v h => h.elim fun L2 h => ⟨v, h.1, L2, h.2⟩) (fun v w' h => by obtain ⟨L2, h1, h2, hbt⟩ := h; exact ⟨hS.1.below hbt hS.1.lt, hS.2.1.below hbt hS.2.1.lt, hS.2.2.trans (hbt.mono hS.2.2.size)⟩) ?_
        intro v W36 h hS2
        obtain ⟨L2, h1, h2, hbt⟩ := h
        clear hS2
        simp only [Act.put, List.setIfInBounds_toArray, List.set_cons_zero, List.set_cons_succ]
        have HT : Hid (TwO W36 W31.heap.size v p.m L2) := Lib.hid (h1.le (Below.size H0.out))
        have HAL := Lib.hid h2
        clear h1 h2
        have K6On := Lib.hid (K6O.out.below hbt)
        clear K6O
        have K6O := K6On
        clear K6On
        have H0n := Lib.hid (H0.out.below hbt)
        clear H0
        have H0 := H0n
        clear H0n
        have HVn := Lib.hid (HV.out.below hbt)
        clear HV
        have HV := HVn
        clear HVn
        have KTn := Lib.hid (KT.out.below hbt)
        clear KT
        have KT := KTn
        clear KTn
        have KPn := Lib.hid (KP.out.below hbt KP.out.lt)
        clear KP
        have KP := KPn
        clear KPn
        have KKn := Lib.hid (KK.out.below hbt KK.out.lt)
        clear KK
        have KK := KKn
        clear KKn
        have HBn := Lib.hid (HB.out.trans (hbt.mono HB.out.size))
        clear HB
        have HB := HBn
        clear HBn
        clear hbt hS
        have hS := (And.intro KP.out (And.intro KK.out HB.out))
        refine takeTp (i := 6) (some 16) (.tmp 12) (.tmp 15) rfl rfl (by kernel_rfl) (by rfl) rfl rfl HT.out rfl KT.out HV.out (by have := H32.out; omega) H0.out ?_
        intro v9 W37 h9 hb9
        have hq := sizes_push (id := id) (z := nou) (t := ⟨10, some ⟨M32, 0, none⟩, 35, 35, nou⟩) HAL.out rfl
        obtain ⟨g9, c9, rfl, h91, h92⟩ := ownT_some h9 (by omega)
        have KP9 := Lib.hid (KPb.out.below hb9 KPb.out.lt)
        have KK9 := Lib.hid (KKb.out.below hb9 KKb.out.lt)
        have HB9 := Lib.hid (HBb.out.trans (hb9.mono HBb.out.size))
        have K69 := Lib.hid (Blk.below K6b.out hb9 (Blk.lt K6b.out))
        refine ⟨⟨KP9.out, KK9.out, HB9.out⟩, ?_⟩
        simp only [Act.put, List.setIfInBounds_toArray, List.set_cons_zero, List.set_cons_succ]
        have H9 := Lib.hid h9
        have HQ9 := Lib.hid hq
        clear h9 hq hS HT HV KT K6O H0
        clear KP
        clear KK
        clear HB
        have hS : Blk 42 W37 N1 (pdC p) ∧ Blk 45 W37 N2 (keyC id A sn sc) ∧ Below w.heap.size w W37 := ⟨KP9.out, KK9.out, HB9.out⟩
        refine takeY (i := 7) (some 17) (v := .pointer (some ⟨N3, 46, none⟩)) rfl rfl (by kernel_rfl) (by kernel_rfl) (by kernel_rfl) (fun _ _ _ h => h) (by rfl) (fun w' hS => by go_simp) hS ?_
        simp only [Act.put, List.setIfInBounds_toArray, List.set_cons_zero, List.set_cons_succ]
        clear hS
        refine takeSt (i := 8) 40 (.tmp 17) (.tmp 16) N3 46 (.slice (some ⟨g9, 0, none⟩) (p.m + 1) c9) #[.slice (some ⟨g9, 0, none⟩) (p.m + 1) c9] (pdC (withT p (some ⟨g9, 0, none⟩) (p.m + 1) c9)) rfl rfl (by kernel_rfl) (by rfl) rfl rfl rfl rfl info_lt one_sl K69.out (Nat.le_of_ble_eq_true rfl) (pd_put _ _ _ _) ?_
        intro W38 q1
        have K6x : Hid (Blk 42 W38 N3 (pdC (withT p (some ⟨g9, 0, none⟩) (p.m + 1) c9))) := Lib.hid q1.1
        have KPx := Lib.hid (KP9.out.far q1 (by omega))
        have KKx := Lib.hid (KK9.out.far q1 (by omega))
        have HBx := Lib.hid (HB9.out.trans (q1.2.1 _ (by omega)))
        have HINx := Lib.hid (ownT_in (p := p) (OwnT.far H9.out q1 (Blk.lt K6b.out)))
        refine ⟨⟨KPx.out, KKx.out, HBx.out⟩, ?_⟩
        simp only [Act.put, List.setIfInBounds_toArray, List.set_cons_zero, List.set_cons_succ]
        refine wpAnyH_done (by kernel_rfl) ?_ _
        go_wp2_with fail
        go_meet
        case rel => exact ⟨g9, c9, _, K6x, HINx, HQ9, KPx, KKx, HBx⟩
  case rest =>
  clear KP
  clear KK
  clear K6
  clear HB
  obtain ⟨g9, c9, L9, K6, HIN, HQ, KP, KK, HB⟩ := hcut
  have HX : Hid (wrX (withT p (some ⟨g9, 0, none⟩) (p.m + 1) c9) L9 m0 = Xu) := Lib.hid ((sl_size (some ⟨g9, 0, none⟩) c9 id m0 nou HQ.out).trans HXu.out)
  have HJ : Hid (JEnds L9 (p.m + 1) m0) := Lib.hid (jends_congr HQ.out HM.out)
  go_wp2_with (refine wpList_ld (op := ⟨some 19, _, _, _, _, _⟩) (by rfl) 42 (.tmp 6) rfl N3 0 rfl (pdC (withT p (some ⟨g9, 0, none⟩) (p.m + 1) c9)) _ K6.out.all Tryd.underlying42 rfl info_pdR ?_; refine Hid.out ?_)
  refine Lib.hid ?_
  go_wp2_with fail
  refine (docWrite_any (withT p (some ⟨g9, 0, none⟩) (p.m + 1) c9) HP.out L9 m0 HJ.out wc HIN.out).mono ?_
  rintro e w210 ⟨AU, cu, rfl, hu1, hu2, hu3, b1, hu4⟩
  clear hu1 hu2 hu3 hu4
  rw [HX.out]
  have KPn := Lib.hid (KP.out.below b1 KP.out.lt)
  clear KP
  have KP := KPn
  clear KPn
  have KKn := Lib.hid (KK.out.below b1 KK.out.lt)
  clear KK
  have KK := KKn
  clear KKn
  have K6n := Lib.hid (K6.out.below b1 K6.out.lt)
  clear K6
  have K6 := K6n
  clear K6n
  have HBn := Lib.hid (HB.out.trans (b1.mono HB.out.size))
  clear HB
  have HB := HBn
  clear HBn
  clear b1
  obtain ⟨Nw, hNw⟩ : ∃ N, wrN (withT p (some ⟨g9, 0, none⟩) (p.m + 1) c9) L9 m0 = N := ⟨_, rfl⟩
  rw [hNw]
  clear hNw K6 HIN HQ HX HJ
  have ck : w210.cell? ⟨N2, 1, none⟩ = some (.slice A sn sc) := (KK.out.cell 1).trans rfl
  have cp : w210.cell? ⟨N1, 46, none⟩ = some (.slice p.A p.m p.c) := (KP.out.cell 46).trans (pd_46 p)
  have BXX := BX.out
  by_cases h1 : Xu = 1
  · have hE : Hid (seX p L m0 id sn b = 1) := Lib.hid (by unfold seX; rw [HXu.out, h1]; exact se_1 sn b)
    subst h1
    clear BXX
    go_wp2_with fail
    go_ret2
    exact wr_err hE.out (by decide) rfl HB.out
  · have q1 : (Xu == 1) = false := by simpa using h1
    by_cases h2 : Xu = 0
    · have q2 : (Xu != 0) = false := by simp [h2]
      by_cases h3 : 64 < sn
      · have hE : Hid (seX p L m0 id sn b = 2) := Lib.hid (by unfold seX; rw [HXu.out, h2]; exact se_64 h3 b)
        have q3 : (64 : Int) < (sn : Int) := by omega
        clear h1 h2 BXX h3
        go_wp2_with fail
        go_ret2
        exact wr_err hE.out (by decide) rfl HB.out
      · have q3 : ¬ (64 : Int) < (sn : Int) := by omega
        by_cases h4 : sn = 0
        · have hE : Hid (seX p L m0 id sn b = 3) := Lib.hid (by unfold seX; rw [HXu.out, h2, h4]; exact se_0 b)
          have q4 : ((sn : Int) == 0) = true := by simp [h4]
          clear h1 h2 BXX h3 h4
          go_wp2_with fail
          go_ret2
          exact wr_err hE.out (by decide) rfl HB.out
        · have q4 : ((sn : Int) == 0) = false := by simp; omega
          have hS : Hid (0 < sn ∧ sn ≤ 64) := Lib.hid ⟨by omega, by omega⟩
          have HX2 := Lib.hid h2
          clear h1 h2 BXX h3 h4
          go_wp2_with fail
          refine (refof_any p.A p.m p.c 10 L w210 (HR.out.below HB.out) H32.out).mono ?_
          rintro e w220 ⟨v5, rfl, ho, b1⟩
          have HB2 := Lib.hid (HB.out.trans (b1.mono HB.out.size))
          have KP2 := Lib.hid (KP.out.below b1 KP.out.lt)
          have KK2 := Lib.hid (KK.out.below b1 KK.out.lt)
          obtain ⟨A5, c5, rfl⟩ : ∃ A c, v5 = .slice A (cnt L 10 p.m) c := by
            rcases ho.2 with ⟨h5, h6⟩ | ⟨g5, cap5, cur5, h5, _⟩
            · exact ⟨none, 0, by rw [h5, h6]⟩
            · exact ⟨_, _, h5⟩
          clear ho b1 HB KP KK ck cp
          rcases HBB.out with ⟨rfl, k5, h6⟩ | ⟨rfl, h6⟩
          · have hE : Hid (seX p L m0 id sn true = 3) := Lib.hid (by unfold seX; rw [HXu.out, HX2.out]; exact se_3 hS.out)
            have h7 := cnt_pos h6
            obtain ⟨n5, hn5⟩ : ∃ n, cnt L 10 p.m = n := ⟨_, rfl⟩
            rw [hn5] at h7
            rw [hn5]
            have q5 : (0 : Int) < (n5 : Int) := by omega
            clear h6 h7 hn5
            go_wp2_with fail
            go_ret2
            exact wr_err hE.out (by decide) rfl HB2.out
          · have hE : Hid (seX p L m0 id sn false = 0) := Lib.hid (by unfold seX; rw [HXu.out, HX2.out]; exact se_ok hS.out)
            rw [cnt_no h6]
            clear h6
            go_wp2_with (refine wpList_ld (op := ⟨some 45, _, _, _, _, _⟩) (by rfl) 42 (.tmp 2) rfl N1 0 rfl (pdC p) _ KP2.out.all Tryd.underlying42 rfl info_pdR ?_; refine Hid.out ?_)
            refine Lib.hid ?_
            go_wp2_with (refine wpList_ld (op := ⟨some 46, _, _, _, _, _⟩) (by rfl) 45 (.tmp 3) rfl N2 0 rfl (keyC id A sn sc) _ KK2.out.all Tryd.underlying45 rfl info_key ?_; refine Hid.out ?_)
            refine Lib.hid ?_
            go_wp2_with fail
            refine (refSeal_any p HP.out L m0 id A sn sc k HM.out w220 (HR.out.below HB2.out) HA.out H32.out HID.out (HK.out.below HB2.out rfl) HKA.out hE.out).mono ?_
            rintro e w230 ⟨g7, c7, rfl, h71, h72, b1⟩
            have H7 := Lib.hid h72
            have HB3 := Lib.hid (HB2.out.trans (b1.mono HB2.out.size))
            have HG7 := Lib.hid (Nat.le_trans HB2.out.size h71)
            clear h72 h71 b1
            go_wp2_with fail
            go_ret2
            exact ⟨_, c7, by rw [hE.out]; rfl, H7.out.rd, H7.out.caps.1, H7.out.caps.2, HB3.out, fun _ => ⟨g7, rfl, HG7.out, H7.out⟩⟩
    · have q2 : (Xu != 0) = true := by simpa using h2
      have hE : Hid (seX p L m0 id sn b = 2) := Lib.hid (by unfold seX; rw [HXu.out, show Xu = 2 by omega]; exact se_2 sn b)
      clear h1 h2 BXX
      go_wp2_with fail
      go_ret2
      exact wr_err hE.out (by decide) rfl HB.out
end Go.Proofs.YtccoicjmmeoggaaDoor

/- Lists of keys; the law's twin of one. Each theorem states its conditions. -/
namespace Go.Proofs.YtccoicjmmeoggaaDoor
open Go.RowKit
set_option linter.unusedVariables false
set_option linter.unusedSimpArgs false

/-- a key's cells: the item's type is its number -/
def kC (t : It) : Array Value := #[.int .u16 t.ty, .slice t.A t.n t.c]
def kR (K : Nat → It) : Nat → Array Value := fun j => kC (K j)
theorem kR_recs (K : Nat → It) : Recs 2 (kR K) := fun j => ⟨rfl, fun u hu => by
  rcases List.mem_cons.1 hu with rfl | hu
  · rfl
  · rcases List.mem_cons.1 hu with rfl | hu
    · rfl
    · cases hu⟩
def KeOk (w : World) (t : It) : Prop := (0 ≤ t.ty ∧ t.ty ≤ 65535) ∧ Rd w t.A t.n t.z ∧ (t.A = none → t.n = 0 ∧ t.c = 0) ∧ t.n ≤ 140737488351232
theorem KeOk.below {w w' : World} {t : It} (h : KeOk w t) (hb : Below w.heap.size w w') : KeOk w' t := ⟨h.1, h.2.1.below hb rfl, h.2.2⟩
/-- a list of keys that can be read -/
def RdK (w : World) (A : Option Addr) (m : Nat) (K : Nat → It) : Prop := RdR w A m 2 (kR K) ∧ ∀ j, j < m → KeOk w (K j)
theorem RdK.below {w w' : World} {A : Option Addr} {m : Nat} {K : Nat → It} (h : RdK w A m K) (hb : Below w.heap.size w w') : RdK w' A m K := ⟨h.1.below hb rfl, fun j hj => (h.2 j hj).below hb⟩
/-- of the call's own -/
def OwnKV (w : World) (base : Nat) (t : It) : Prop := (0 ≤ t.ty ∧ t.ty ≤ 65535) ∧ t.n ≤ 140737488351232 ∧ ∃ g, t.A = some ⟨g, 0, none⟩ ∧ base ≤ g ∧ Own8 w g t.n t.c t.z
def OwnK (w : World) (base : Nat) (v : Value) (m : Nat) (K : Nat → It) : Prop := w.ownsRow base 45 2 v m (cellsR (kR K) m) ∧ ∀ j, j < m → OwnKV w base (K j)
theorem OwnKV.below {w w' : World} {base : Nat} {t : It} (h : OwnKV w base t) (hb : Below w.heap.size w w') : OwnKV w' base t := by
  obtain ⟨h1, h2, g, h3, h4, h5⟩ := h
  exact ⟨h1, h2, g, h3, h4, h5.below hb h5.lt⟩
theorem OwnKV.ok {w : World} {base : Nat} {t : It} (h : OwnKV w base t) : KeOk w t := by
  obtain ⟨h1, h2, g, h3, h4, h5⟩ := h
  exact ⟨h1, by rw [h3]; exact h5.rd, fun e => (by rw [h3] at e; cases e), h2⟩
theorem OwnK.below {w w' : World} {base m : Nat} {v : Value} {K : Nat → It} (h : OwnK w base v m K) (hb : Below w.heap.size w w') : OwnK w' base v m K := ⟨ownsRow_below' h.1 hb, fun j hj => (h.2 j hj).below hb⟩
theorem OwnK.shape {w : World} {base m : Nat} {v : Value} {K : Nat → It} (h : OwnK w base v m K) : ∃ A c, v = .slice A m c ∧ m ≤ c ∧ c ≤ maxLen ∧ (A = none → m = 0 ∧ c = 0) ∧ RdK w A m K := by
  obtain ⟨A, c, h1, h2, h3, h4, h5⟩ := ownR_shape (kR_recs K) (by decide) h.1
  exact ⟨A, c, h1, h2, h3, h4, h5, fun j hj => (h.2 j hj).ok⟩
theorem OwnK.nil (w : World) (base : Nat) (K : Nat → It) : OwnK w base (.slice none 0 0) 0 K := ⟨World.ownsRow_nil _ _ _ _, fun j hj => by omega⟩
theorem kcells_push (K : Nat → It) (m : Nat) (t : It) : cellsR (kR (updT K m t)) (m + 1) = cellsR (kR K) m ++ [.int .u16 t.ty, .slice t.A t.n t.c] := by
  show cellsR (kR (updT K m t)) m ++ (kC (updT K m t m)).toList = _
  rw [updT_same, cellsR_congr m (C' := kR K) fun j hj => by unfold kR; rw [updT_other _ _ _ _ (by omega)]]
  rfl
theorem info_key3 : (Tryd.prog.info? 45).map (fun i => (i.zero, i.size, i.bytes)) = some (some (.agg #[.int .u16 0, .slice none 0 0]), 2, 32) := by kernel_rfl
theorem zero_key : (Tryd.prog.info? 45).map (·.zero) = some (some (.agg #[.int .u16 0, .slice none 0 0])) := by kernel_rfl
theorem kC_one (t : It) : (kC t).all (·.oneCell') = true := by kernel_rfl
/-- blocks of unlike types -/
theorem own8_grownK {w w' : World} {base g n c m : Nat} {z : Nat → Int} {v : Value} {xs : List Value} (h : Own8 w g n c z) (hr : w.ownsRow base 45 2 v m xs) (hg : w.grownBy w' v.ownBlock) : Own8 w' g n c z := by
  refine h.grown hg fun e => ?_
  rcases hr.2 with ⟨rfl, _⟩ | ⟨g2, cap, cur, rfl, hb, hc, _⟩
  · cases e
  · injection e with e
    subst e
    obtain ⟨⟨cur2, h1, _⟩, _⟩ := h
    rw [h1] at hc
    injection hc with hc
    injection hc with _ hc _
    exact absurd hc (by decide)
theorem kpush_run {o : Oper} {a : Act} {w : World} (s x : Operand) (ho : o.op = .call { callee := .builtin .append, args := #[s, x], argTypes := #[50, 50] })
    (w0 : World) (v : Value) (m : Nat) (K : Nat → It) (hs : a.eval s = v) (h : OwnK w w0.heap.size v m K) (N : Nat) (hx : a.eval x = .slice (some ⟨N, 0, none⟩) 1 1) (t : It) (hK : Blk 45 w N (kC t)) (ht : OwnKV w w0.heap.size t) (hm : (m + 1) * 32 ≤ 140737488355328) (hb : Below w0.heap.size w0 w) :
    ∃ v' w', (execOp a.eval o).run Tryd.prog w = .ok (.value v') w' ∧ OwnK w' w0.heap.size v' (m + 1) (updT K m t) ∧ Below w0.heap.size w0 w' ∧ ∀ k, k < w.heap.size → v.ownBlock ≠ some k → w'.heap[k]? = w.heap[k]? := by
  obtain ⟨i0, hi, hz0, hz1, hz2⟩ := info_parts info_key3
  obtain ⟨v', w', hr, h2, h3, h4, h5⟩ := run_append_own_at (P := Tryd.prog) w w0.heap.size 50 o.type 45 i0 _ 2 32 Tryd.underlying50 hi hz0 hz1 hz2 rfl (by decide) v m _ h.1 ⟨N, 0, none⟩ 1 1 (kC t).toList rfl (fun j u hu => by rw [add_none, Nat.zero_add, hK.cell]; simpa using hu) (fun u hu => by simpa using (Array.all_eq_true_iff_forall_mem.1 (kC_one t)) u (by simpa using hu)) (by unfold maxLen; omega) (by omega) hb.size
  have hv : ∀ t, OwnKV w w0.heap.size t → OwnKV w' w0.heap.size t := fun t h9 => by
    obtain ⟨a1, a2, g, a3, a4, a5⟩ := h9
    exact ⟨a1, a2, g, a3, a4, own8_grownK a5 h.1 h3⟩
  refine ⟨v', w', ?_, ⟨by rw [kcells_push]; exact h2, fun j hj => ?_⟩, hb.grown h3 hb.size (fun k e => (h.1.lt k e).1), fun k hk hne => h3.block k hk (fun e => hne e.symm)⟩
  · unfold execOp
    simp only [ho, resolve, invoke, builtin, Sem.run_bind, Sem.run_pure, Result.andThen_ok, List.map_toArray, List.map_cons, List.map_nil, hs, hx, hr]
  · by_cases e : j = m
    · subst e; rw [updT_same]; exact hv t ht
    · rw [updT_other _ _ _ _ e]; exact hv _ (h.2 j (by omega))
/-- where it alone may come up -/
theorem takeKp {ops : Array Oper} {Q : Exit → Act → World → Prop} {md : Region.Mode} {S : World → Prop} {i : Nat} {oi : Oper} (d : Option Tmp) {fuel : Nat} {listed : Array Bool} {a : Act} {w : World} (s x : Operand) (hi : ops[i]? = some oi) (hd : oi.dst = d)
    (hr : Region.ready md ops listed = [i]) (hw : Region.wanted oi (yielded ops a.tmps) = true)
    (ho : oi.op = .call { callee := .builtin .append, args := #[s, x], argTypes := #[50, 50] })
    {w0 : World} {v : Value} {m : Nat} {L : Nat → It} (hs : a.eval s = v) (h : OwnK w w0.heap.size v m L) {N : Nat} (hx : a.eval x = .slice (some ⟨N, 0, none⟩) 1 1) {t : It} (hK : Blk 45 w N (kC t)) (ht : OwnKV w w0.heap.size t) (hm : (m + 1) * 32 ≤ 140737488355328) (hb : Below w0.heap.size w0 w)
    (k : ∀ v' w', OwnK w' w0.heap.size v' (m + 1) (updT L m t) → Below w0.heap.size w0 w' → (∀ k, k < w.heap.size → v.ownBlock ≠ some k → w'.heap[k]? = w.heap[k]?) → S w' ∧ wpAnyH Tryd.prog md ops Q S fuel (listed.setIfInBounds i true) (a.put d v') w') :
    wpAnyH Tryd.prog md ops Q S (fuel + 1) listed a w := by
  obtain ⟨v', w', h1, h2, h3, h4⟩ := kpush_run s x ho w0 v m L hs h N hx t hK ht hm hb
  obtain ⟨h7, h8⟩ := k v' w' h2 h3 h4
  exact takeV d hi hd hr hw h1 h7 h8
theorem build_key (o : Oper) (e : Operand → Value) (x0 x1 : Operand) (ho : o.op = .build 45 #[(0, x0), (1, x1)]) (t : It) (h0 : e x0 = .int .u16 t.ty) (h1 : e x1 = .slice t.A t.n t.c) (W : World) : (execOp e o).run Tryd.prog W = .ok (.value (.agg (kC t))) W := by
  unfold execOp
  simp only [ho]
  simp only [List.map_toArray, List.map_cons, List.map_nil, h0, h1]
  kernel_rfl
theorem bs_key (W : World) (o : Oper) (e : Operand → Value) {x0 : Operand} (ho : o.op = .buildSlice 50 1 #[(0, x0)]) (t : It) (h0 : e x0 = .agg (kC t)) :
    (execOp e o).run Tryd.prog W = .ok (.value (.slice (some ⟨W.heap.size, 0, none⟩) 1 1)) (W.alloc (.cells (kC t) 45)) := by
  unfold execOp
  simp only [ho]
  simp only [List.map_toArray, List.map_cons, List.map_nil, h0]
  kernel_rfl
/-- carried along -/
def OwKO (w : World) (base : Nat) (v : Value) (m : Nat) (K : Nat → It) : Prop := OwnK w base v m K
theorem OwKO.below {w w' : World} {base m : Nat} {v : Value} {K : Nat → It} (h : OwKO w base v m K) (hb : Below w.heap.size w w') : OwKO w' base v m K := OwnK.below h hb
def KvO (w : World) (base : Nat) (t : It) : Prop := OwnKV w base t
theorem KvO.below {w w' : World} {base : Nat} {t : It} (h : KvO w base t) (hb : Below w.heap.size w w') : KvO w' base t := OwnKV.below h hb
theorem OwnK.far {w w' : World} {base m b : Nat} {v : Value} {K : Nat → It} {C : Array Value} {t : TypeId} (h : OwnK w base v m K) (hs : Stored w w' b C t) (hb : ∀ j, j < m → (K j).A ≠ some ⟨b, 0, none⟩) (hv : v.ownBlock ≠ some b) : OwnK w' base v m K := by
  refine ⟨⟨h.1.1, ?_⟩, fun j hj => ?_⟩
  · rcases h.1.2 with h1 | ⟨g, cap, cur, hv2, hg, hc, r⟩
    · exact .inl h1
    · refine .inr ⟨g, cap, cur, hv2, hg, (hs.2.2 g fun e => hv ?_).trans hc, r⟩
      rw [hv2, ← e]; rfl
  · obtain ⟨h1, h2, g, h3, h4, h5⟩ := h.2 j hj
    exact ⟨h1, h2, g, h3, h4, h5.block (hs.2.2 g fun e => hb j hj (by rw [h3, e]))⟩
def TwKP (w : World) (m : Nat) (K : Nat → It) (e : Ending) (w' : World) : Prop := ∃ v K', e = .returned v ∧ OwnK w' w.heap.size v m K' ∧ (∀ j, j < m → Alike (K j) (K' j)) ∧ Below w.heap.size w w'
def TwV (w : World) (n : Nat) (z : Nat → Int) (v : Value) (w' : World) : Prop := ∃ g c, v = .slice (some ⟨g, 0, none⟩) n c ∧ w.heap.size ≤ g ∧ Own8 w' g n c z ∧ Below w.heap.size w w'
theorem TwinPost.twv {w w' : World} {n : Nat} {z : Nat → Int} {e : Ending} (h : TwinPost w n z e w') : ∃ v, e = .returned v ∧ TwV w n z v w' := by
  obtain ⟨g, c, rfl, h⟩ := h
  exact ⟨_, rfl, g, c, rfl, h⟩
set_option maxHeartbeats 8000000 in
set_option maxRecDepth 100000 in
theorem twinK_any (A : Option Addr) (m c : Nat) (K : Nat → It) (w : World) (h : RdK w A m K) (hm : m * 32 ≤ 140737488351232) :
    Calls Tryd.prog 17 #[.slice A m c] w (TwKP w m K) := by
  have HR := Lib.hid h
  have HM := Lib.hid hm
  clear h
  go_enter Tryd.func17, Tryd.ntmps17
  go_wp2_with fail
  go_loopw [3, 8] (fun v i wr => ∃ (k : Nat) (K' : Nat → It), k ≤ m ∧ i = .int .i64 k ∧ Hid (OwnK wr w.heap.size v k K') ∧ Hid (∀ j, j < k → Alike (K j) (K' j)) ∧ Hid (Below w.heap.size w wr)) (fun _ i _ => m - (intOf i).toNat)
  case atStart => exact ⟨0, K, by omega, rfl, Lib.hid (OwnK.nil _ _ _), Lib.hid (fun j hj => by omega), Lib.hid (Below.refl _ _)⟩
  case round =>
    obtain ⟨k, K', hk, rfl, HO, HAL, HB⟩ := hrel
    by_cases hlt : k < m
    · have hki : (k : Int) < (m : Int) := by omega
      obtain ⟨b, off, rfl, hr⟩ := (HR.out.below HB.out).1.row (by omega)
      have hr2 := Lib.hid (hr.2 k hlt)
      have HKE := Lib.hid ((HR.out.below HB.out).2 k hlt)
      clear hr
      obtain ⟨t, ht⟩ : ∃ t, K k = t := ⟨_, rfl⟩
      have HTT := Lib.hid ht
      rw [show kR K k = kC t from by unfold kR; rw [ht]] at hr2
      rw [ht] at HKE
      have hbb : b < wr.heap.size := by
        obtain ⟨b2, off2, e2, hr3⟩ := (HR.out.below HB.out).1.row (by omega)
        injection e2 with e2; injection e2 with e2 _ _; subst e2; exact hr3.1
      clear ht
      go_wp2_with (refine wpList_ld (op := ⟨some 11, _, _, _, _, _⟩) (by rfl) 45 (.tmp 10) rfl b (off + k * 2) rfl (kC t) _ hr2.out Tryd.underlying45 rfl info_key ?_; refine Hid.out ?_)
      refine Lib.hid ?_
      clear hr2
      have HO9 : Hid (OwKO wr w.heap.size u3 k K') := Lib.hid HO.out
      clear HO
      have HO := HO9
      clear HO9
      obtain ⟨N11, hN11⟩ : ∃ N, wr.heap.size = N := ⟨_, rfl⟩
      have HN11 := Lib.hid hN11
      clear hN11
      go_wp2_with (refine wpList_new (op := ⟨some 5, _, _, _, _, _⟩) rfl 45 rfl (#[.int .u16 0, .slice none 0 0]) zero_key N11 HN11.out ?_; intro w11 k1 b1 s1; refine Hid.out ?_)
      refine Lib.hid ?_
      have K5 := Lib.hid k1
      have HBN := Lib.hid b1
      have hN5 := HN11.out
      clear k1
      have le_HB_N11 : w.heap.size ≤ N11 := by rw [← HN11.out]; exact HB.out.size
      have HBn := Lib.hid (HB.out.trans (b1.mono HB.out.size))
      clear HB
      have HB := HBn
      clear HBn
      clear b1 HN11
      go_wp2_with (refine wpList_st rfl 45 (.tmp 5) (.tmp 11) rfl N11 0 rfl (.agg (kC t)) (kC t) rfl rfl info_key (kC_one _) K5.out (Nat.le_of_ble_eq_true rfl) (C' := kC t) (by rfl) ?_; intro w20 q1; refine Hid.out ?_)
      refine Lib.hid ?_
      have HO9 : Hid (OwKO w20 w.heap.size u3 k K') := Lib.hid (OwKO.below HO.out (HBN.out.trans (q1.2.1 _ (Nat.le_of_eq hN5))))
      have HNE : Hid (u3.ownBlock ≠ some N11) := Lib.hid (fun e => by have := (HO.out.1.lt _ e).2; omega)
      clear HO HBN hN5
      have HO := HO9
      clear HO9
      have HBn := Lib.hid (HB.out.trans (q1.2.1 _ (by omega)))
      clear HB
      have HB := HBn
      clear HBn
      have K5n : Hid (Blk 45 w20 N11 (kC t)) := Lib.hid q1.1
      clear K5
      have K5 := K5n
      clear K5n q1
      go_wp2_with fail
      have HOd : Hid (OwKO w20.drew w.heap.size u3 k K') := Lib.hid HO.out
      clear HO
      refine wp_region_held_drew (S := fun w' => Blk 45 w' N11 (kC t) ∧ Below w.heap.size w w') (by kernel_rfl) ⟨K5.out, HB.out.drew⟩ (fun hS => ?_)
      generalize hW31 : w20.drew = W31 at hS HOd ⊢
      clear hW31
      clear K5
      clear HB
      have HO := HOd
      clear HOd
      have K5 := Lib.hid hS.1
      have HB := Lib.hid hS.2
      refine takeY (i := 0) (some 12) (v := u3) rfl rfl (by kernel_rfl) (by kernel_rfl) (by kernel_rfl) (fun _ _ _ h => h) (by rfl) (fun w' hS => by go_simp) hS ?_
      simp only [Act.put, List.setIfInBounds_toArray, List.set_cons_zero, List.set_cons_succ]
      refine takeY (i := 1) (some 13) (v := .pointer (some ⟨N11, 0, none⟩)) rfl rfl (by kernel_rfl) (by kernel_rfl) (by kernel_rfl) (fun _ _ _ h => h) (by rfl) (fun w' hS => by go_simp) hS ?_
      simp only [Act.put, List.setIfInBounds_toArray, List.set_cons_zero, List.set_cons_succ]
      refine takeY (i := 2) (some 14) (v := .int .u16 t.ty) rfl rfl (by kernel_rfl) (by kernel_rfl) (by kernel_rfl) (fun _ _ _ h => h) (by rfl) (fun w' hS => by (have c9 : w'.cell? ⟨N11, 0, none⟩ = some (.int .u16 t.ty) := (hS.1.cell 0).trans rfl; clear hS; go_simp)) hS ?_
      simp only [Act.put, List.setIfInBounds_toArray, List.set_cons_zero, List.set_cons_succ]
      refine takeY (i := 3) (some 15) (v := .pointer (some ⟨N11, 1, none⟩)) rfl rfl (by kernel_rfl) (by kernel_rfl) (by kernel_rfl) (fun _ _ _ h => h) (by rfl) (fun w' hS => by go_simp) hS ?_
      simp only [Act.put, List.setIfInBounds_toArray, List.set_cons_zero, List.set_cons_succ]
      refine takeY (i := 4) (some 16) (v := .slice t.A t.n t.c) rfl rfl (by kernel_rfl) (by kernel_rfl) (by kernel_rfl) (fun _ _ _ h => h) (by rfl) (fun w' hS => by (have c9 : w'.cell? ⟨N11, 1, none⟩ = some (.slice t.A t.n t.c) := (hS.1.cell 1).trans rfl; clear hS; go_simp)) hS ?_
      simp only [Act.put, List.setIfInBounds_toArray, List.set_cons_zero, List.set_cons_succ]
      have HRD : Hid (Rd W31 t.A t.n t.z) := Lib.hid (by have := (HR.out.below HB.out).2 k hlt; rw [HTT.out] at this; exact this.2.1)
      refine takeCE (i := 5) (some 17) 27 #[.slice t.A t.n t.c] (R := fun v w' => TwV W31 t.n t.z v w') rfl rfl (by kernel_rfl) (by rfl) (by go_simp) ((twin_any t.A t.n t.c t.z W31 HRD.out HKE.out.2.2.1 (by have := HKE.out.2.2.2; omega)).mono fun e w' h => TwinPost.twv h) (fun v w' h => by obtain ⟨gs, cs, rfl, hgs, hos, hbs⟩ := h; exact ⟨hS.1.below hbs hS.1.lt, hS.2.trans (hbs.mono hS.2.size)⟩) (fun v W32 h hS2 => ?_)
      obtain ⟨gs, cs, rfl, hgs, hos, hbs⟩ := h
      clear hS2
      simp only [Act.put, List.setIfInBounds_toArray, List.set_cons_zero, List.set_cons_succ]
      have HKV : Hid (KvO W32 w.heap.size ⟨t.ty, some ⟨gs, 0, none⟩, t.n, cs, t.z⟩) := Lib.hid ⟨HKE.out.1, HKE.out.2.2.2, gs, rfl, Nat.le_trans HB.out.size hgs, hos⟩
      clear hgs hos HRD
      have HOn := Lib.hid (HO.out.below hbs)
      clear HO
      have HO := HOn
      clear HOn
      have K5n := Lib.hid (K5.out.below hbs K5.out.lt)
      clear K5
      have K5 := K5n
      clear K5n
      have HBn := Lib.hid (HB.out.trans (hbs.mono HB.out.size))
      clear HB
      have HB := HBn
      clear HBn
      clear hbs hS
      have hS := (And.intro K5.out HB.out)
      refine takeY (i := 6) (some 18) (v := .agg (kC ⟨t.ty, some ⟨gs, 0, none⟩, t.n, cs, t.z⟩)) rfl rfl (by kernel_rfl) (by kernel_rfl) (by kernel_rfl) (fun _ _ _ h => h) (by rfl) (fun w' hS => by exact build_key _ _ _ _ rfl ⟨t.ty, some ⟨gs, 0, none⟩, t.n, cs, t.z⟩ rfl rfl _) hS ?_
      simp only [Act.put, List.setIfInBounds_toArray, List.set_cons_zero, List.set_cons_succ]
      obtain ⟨N33, hN33⟩ : ∃ N, W32.heap.size = N := ⟨_, rfl⟩
      have HN33 := Lib.hid hN33
      clear hN33
      refine takeBsn (i := 7) (some 19) 1 45 (kC ⟨t.ty, some ⟨gs, 0, none⟩, t.n, cs, t.z⟩) rfl rfl (by kernel_rfl) (by rfl) (bs_key _ _ _ rfl ⟨t.ty, some ⟨gs, 0, none⟩, t.n, cs, t.z⟩ rfl) N33 HN33.out (fun W33 k1 b1 s1 => ⟨⟨hS.1.below b1 hS.1.lt, hS.2.trans (b1.mono hS.2.size)⟩, ?_⟩)
      simp only [Act.put, List.setIfInBounds_toArray, List.set_cons_zero, List.set_cons_succ]
      have KT : Hid (BlO 45 W33 N33 (kC ⟨t.ty, some ⟨gs, 0, none⟩, t.n, cs, t.z⟩)) := Lib.hid k1
      clear k1
      have HOn := Lib.hid (HO.out.below b1)
      clear HO
      have HO := HOn
      clear HOn
      have HKVn := Lib.hid (HKV.out.below b1)
      clear HKV
      have HKV := HKVn
      clear HKVn
      have K5n := Lib.hid (K5.out.below b1 K5.out.lt)
      clear K5
      have K5 := K5n
      clear K5n
      have HBn := Lib.hid (HB.out.trans (b1.mono HB.out.size))
      clear HB
      have HB := HBn
      clear HBn
      clear b1 hS HN33
      have hS := (And.intro K5.out HB.out)
      refine takeKp (i := 8) (some 20) (.tmp 12) (.tmp 19) rfl rfl (by kernel_rfl) (by rfl) rfl rfl HO.out rfl KT.out HKV.out (by have := HM.out; omega) HB.out ?_
      intro v9 W34 h9 hb9 hk9
      have K59 : Blk 45 W34 N11 (kC t) := (hk9 N11 K5.out.lt HNE.out).trans K5.out
      refine ⟨⟨K59, hb9⟩, ?_⟩
      simp only [Act.put, List.setIfInBounds_toArray, List.set_cons_zero, List.set_cons_succ]
      have HO9 := Lib.hid h9
      have HB9 := Lib.hid hb9
      have hS : Blk 45 W34 N11 (kC t) ∧ Below w.heap.size w W34 := ⟨K59, hb9⟩
      have hal : ∀ j, j < k + 1 → Alike (K j) (updT K' k ⟨t.ty, some ⟨gs, 0, none⟩, t.n, cs, t.z⟩ j) := fun j hj => by
        by_cases e : j = k
        · subst e; rw [updT_same, HTT.out]; exact ⟨rfl, rfl, rfl⟩
        · rw [updT_other _ _ _ _ e]; exact HAL.out j (by omega)
      have HAL9 := Lib.hid hal
      clear h9 hb9 hk9 K59 hal HO HB K5 KT HKV HAL
      refine takeY (i := 9) (some 3) (v := v9) rfl rfl (by kernel_rfl) (by kernel_rfl) (by kernel_rfl) (fun _ _ _ h => h) (by rfl) (fun w' hS => by go_simp) hS ?_
      simp only [Act.put, List.setIfInBounds_toArray, List.set_cons_zero, List.set_cons_succ]
      clear hS
      refine wpAnyH_done (by kernel_rfl) ?_ _
      go_wp2_with fail
      go_roundw
      case rel => exact ⟨k + 1, _, by omega, by go_num, HO9, HAL9, HB9⟩
      case measure => simp only [intOf]; omega
    · obtain rfl : k = m := by omega
      go_wp2_with fail
      go_ret
      exact ⟨_, K', rfl, HO.out, HAL.out, HB.out⟩
end Go.Proofs.YtccoicjmmeoggaaDoor

/- Keys that came in as arguments can be read. No condition. -/
namespace Go.Proofs.YtccoicjmmeoggaaDoor
open Go.RowKit Go.ChangeShapes Go.WideShapes
set_option linter.unusedVariables false

theorem cell_u16 {H : Type} {enc : TypeId × Value → H} {w : World} {base : Nat} {spare : Nat → Bool} {held : Bool} {m : Nat} {cs : List Value} {k : Nat} {o : Option (DataW H × List MemPlace)} (h : DataW.trod enc Tryd.prog w base spare held m 43 ((cs.drop k).take 1) = o) (ho : o.isSome = true) : ∃ a : Int, cs[k]? = some (.int .u16 a) ∧ 0 ≤ a ∧ a ≤ 65535 := by
  obtain ⟨y, rfl⟩ := Option.isSome_iff_exists.1 ho
  obtain ⟨a, ea, _, wa⟩ := DataW.trod_int Tryd.underlying43 h
  refine ⟨a, ?_, wf_u16 wa⟩
  have := congrArg (·[0]?) ea
  simpa [List.getElem?_take, List.getElem?_drop] using this
set_option maxRecDepth 100000 in
set_option maxHeartbeats 2000000 in
theorem open_key {H : Type} {enc : TypeId × Value → H} {w : World} {base : Nat} {held : Bool} {r : Reach} {b0 : Nat} {v : Value} {d : DataW H} {ps : List MemPlace}
    (hv : Value.okWide Tryd.prog w r b0 45 v) (h : DataW.Trod enc Tryd.prog w base (fun _ => true) held 45 v d ps) (hsz : ∀ n ∈ d.weights Tryd.prog 45, n ≤ 140737488351232) :
    ∃ t, v = .agg (kC t) ∧ KeOk w t := by
  simp only [Value.okWide, Tryd.underlying45] at hv
  obtain ⟨ca, rfl, hca, _⟩ := hv
  obtain ⟨fuel, hf⟩ := h
  have hcc : (Value.agg ca).cells.toList = ca.toList := rfl
  rw [hcc] at hf
  obtain ⟨cs, hcs⟩ : ∃ cs, ca.toList = cs := ⟨_, rfl⟩
  rw [hcs] at hf
  obtain ⟨xs, m1, _, hxd, hl, hn, hel⟩ := DataW.trod_struct Tryd.underlying45 hf
  have hn : xs.length = 2 := hn
  have hl : cs.length = 2 := by rw [hl]; kernel_rfl
  have hd : d = .agg (xs.map (·.1)) := by have := congrArg Prod.fst hxd; simpa using this
  have hc_u : Tryd.prog.cellsOf 43 = 1 := by kernel_rfl
  have hc_t : Tryd.prog.cellsOf 22 = 1 := by kernel_rfl
  have e0 : DataW.trod enc Tryd.prog w base (fun _ => true) held m1 43 ((cs.drop 0).take (Tryd.prog.cellsOf 43)) = xs[0]? := hel 0 _ rfl
  rw [hc_u] at e0
  obtain ⟨kd, hkd, bkd⟩ := cell_u16 e0 (by rw [List.getElem?_eq_getElem (by omega)]; rfl)
  have e1 : DataW.trod enc Tryd.prog w base (fun _ => true) held m1 22 ((cs.drop 1).take (Tryd.prog.cellsOf 22)) = xs[1]? := hel 1 _ rfl
  rw [hc_t] at e1
  have hx1 : xs[1]? = some xs[1] := List.getElem?_eq_getElem (by omega)
  rw [hx1] at e1
  have hone : (cs.drop 1).take 1 = [cs[1]] := by
    rw [List.drop_eq_getElem_cons (by omega), List.take_succ_cons, List.take_zero]
  rw [hone] at e1
  have hwt : ∀ k ∈ (xs[1].1).weights Tryd.prog 22, k ≤ 140737488351232 := by
    intro k hk
    refine hsz k ?_
    rw [hd]
    simp only [DataW.weights, Tryd.underlying45]
    exact DataW.weights_mem_each (j := 1) (t := 22) (d := xs[1].1) rfl (by simp [hx1]) k hk
  have key : ∃ t : Int × Option Addr × Nat × Nat × (Nat → Int), cs[0]? = some (.int .u16 t.1) ∧ cs[1]? = some (.slice t.2.1 t.2.2.1 t.2.2.2.1) ∧ KeOk w ⟨t.1, t.2.1, t.2.2.1, t.2.2.2.1, t.2.2.2.2⟩ := by
    rcases open_ints Tryd.underlying22 Tryd.underlying5 (by kernel_rfl) e1 with ⟨hcs', _⟩ | ⟨y, l, c, zs, hcs', _, hl', hm', hz', hx', hc', hwz⟩
    · injection hcs' with hcs' _
      exact ⟨(kd, none, 0, 0, fun _ => 0), hkd, by rw [List.getElem?_eq_getElem (by omega), hcs'], bkd, ⟨.inl rfl, fun _ => by simp⟩, fun _ => ⟨rfl, rfl⟩, by simp⟩
    · injection hcs' with hcs' _
      rw [if_pos rfl] at hz'
      obtain ⟨hr, hn⟩ := isRow_rd (w := w) (A := some y) (len := l) (cap := c) (zs := zs) (.inr ⟨y, rfl, hl', hm', hz', hc', hwz⟩)
      have hD : xs[1].1 = .slice (lits .u8 (zs.take l)) (lits .u8 (zs.drop l)) := by
        have := congrArg Prod.fst hx'
        simpa using this
      have hbb : Tryd.prog.bytesOf 5 = 1 := by kernel_rfl
      have hw1 := hwt ((l + (c - l)) * 1) (by
        rw [hD]
        simp only [DataW.weights, Tryd.underlying22, lits, List.length_map, List.length_take, List.length_drop, hz', hbb, Nat.min_eq_left hl']
        exact List.mem_cons_self ..)
      exact ⟨(kd, some y, l, c, fun j => zs.getD j 0), hkd, by rw [List.getElem?_eq_getElem (by omega), hcs'], bkd, hr, fun e => (by cases e), by show l ≤ _; omega⟩
  obtain ⟨t, h0, h1, h2⟩ := key
  refine ⟨⟨t.1, t.2.1, t.2.2.1, t.2.2.2.1, t.2.2.2.2⟩, ?_, h2⟩
  congr 1
  apply Array.ext_getElem?
  intro i
  rw [← Array.getElem?_toList, hcs]
  match i with
  | 0 => exact h0
  | 1 => exact h1
  | i + 2 =>
    rw [List.getElem?_eq_none (by omega)]
    rfl
end Go.Proofs.YtccoicjmmeoggaaDoor
