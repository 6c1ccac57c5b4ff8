/- Texts of this claim put together; each theorem states its conditions. -/
import Derived.Test.YtccoicjmmeoggaaDoorGMacBackCard5
import Derived.Test.YtccoicjmmeoggaaDoorGMacBackCard4
import Derived.Test.YtccoicjmmeoggaaDoorGMacBackCard3
import Derived.Test.YtccoicjmmeoggaaDoorGMacBackCard1
import Derived.Test.YtccoicjmmeoggaaDoorGMacBackCard2
import Derived.Laws.MakeOwn
import Derived.RegionTactic
/- mac.signature: the TLV that signs a packet. Each theorem states its conditions. -/
namespace Go.Proofs.YtccoicjmmeoggaaDoor
open Go.RowKit
set_option linter.unusedVariables false

/-- bytes of the call's own, as what is carried along -/
def By8 (w : World) (g n cap : Nat) (z : Nat → Int) : Prop := Own8 w g n cap z
section
variable {w w' : World} {g n cap : Nat} {z : Nat → Int}
theorem By8.lt (h : By8 w g n cap z) : g < w.heap.size := Own8.lt h
theorem By8.below {B : Nat} (h : By8 w g n cap z) (hb : Below B w w') (hB : g < B) : By8 w' g n cap z := Own8.below h hb hB
theorem By8.far {b : Nat} {C : Array Value} {t : TypeId} (h : By8 w g n cap z) (hs : Stored w w' b C t) (hk : g ≠ b) : By8 w' g n cap z := Own8.block h (hs.2.2 g hk)
theorem By8.rd (h : By8 w g n cap z) : Rd w (some ⟨g, 0, none⟩) n z := Own8.rd h
theorem By8.caps (h : By8 w g n cap z) : n ≤ cap ∧ cap ≤ maxLen := Own8.caps h
end
theorem one_rd {w : World} {g : Nat} {x : Int} (h : Blk 5 w g #[.int .u8 x]) (hx : 0 ≤ x ∧ x ≤ 255) : Rd w (some ⟨g, 0, none⟩) 1 (fun _ => x) :=
  ⟨.inr ⟨g, 0, rfl, h.lt, fun j hj => by (obtain rfl : j = 0 := (by omega)); rw [h.cell]; rfl, fun _ => hx⟩, fun _ => hx⟩
/-- a slice of some values is made, in the order of the text -/
theorem wpList_bsn {ops : Array Oper} {Q : Exit → Act → World → Prop} {rest : List Oper} {op : Oper} {a : Act} {w : World} (n : Nat) (hgd : op.guard = none) (t : TypeId) (C : Array Value) (hx : (execOp a.eval op).run Tryd.prog w = .ok (.value (.slice (some ⟨w.heap.size, 0, none⟩) n n)) (w.alloc (.cells C t)))
    (N : Nat) (hN : w.heap.size = N) (h : ∀ w', Blk t w' N C → Below w.heap.size w w' → N + 1 ≤ w'.heap.size → wpList Tryd.prog ops Q rest (a.put op.dst (.slice (some ⟨N, 0, none⟩) n n)) w') : wpList Tryd.prog ops Q (op :: rest) a w := by
  subst hN
  refine wpList_plain hgd fun K hK => ?_
  unfold Oper.wp
  rw [hx, Oper.upon_value]
  exact hK _ _ (h _ (heap_alloc_new w _) ((Below.refl _ _).alloc (Nat.le_refl _) _) (by simp))
theorem bs_three (W : World) (o : Oper) (e : Operand → Value) (ho : o.op = .buildSlice 22 1 #[(0, .const (.int .u8 3))]) (hc : e (.const (.int .u8 3)) = .int .u8 3) :
    (execOp e o).run Tryd.prog W = .ok (.value (.slice (some ⟨W.heap.size, 0, none⟩) 1 1)) (W.alloc (.cells #[.int .u8 3] 5)) := by
  unfold execOp
  simp only [ho]
  simp only [List.map_toArray, List.map_cons, List.map_nil, hc]
  kernel_rfl
theorem bs_rows (W : World) (o : Oper) (e : Operand → Value) {x0 x1 x2 : Operand} (ho : o.op = .buildSlice 89 3 #[(0, x0), (1, x1), (2, x2)]) (A0 A1 A2 : Option Addr) (n0 n1 n2 c0 c1 c2 : Nat) (h0 : e x0 = .slice A0 n0 c0) (h1 : e x1 = .slice A1 n1 c1) (h2 : e x2 = .slice A2 n2 c2) :
    (execOp e o).run Tryd.prog W = .ok (.value (.slice (some ⟨W.heap.size, 0, none⟩) 3 3)) (W.alloc (.cells #[.slice A0 n0 c0, .slice A1 n1 c1, .slice A2 n2 c2] 22)) := by
  unfold execOp
  simp only [ho]
  simp only [List.map_toArray, List.map_cons, List.map_nil, h0, h1, h2]
  kernel_rfl
theorem build_it (o : Oper) (e : Operand → Value) (x0 x1 : Operand) (ho : o.op = .build 49 #[(0, x0), (1, x1)]) (t : It) (h0 : e x0 = .int .u8 t.ty) (h1 : e x1 = .slice t.A t.n t.c) (W : World) : (execOp e o).run Tryd.prog W = .ok (.value (.agg (itC t))) W := by
  unfold execOp
  simp only [ho]
  simp only [List.map_toArray, List.map_cons, List.map_nil, h0, h1]
  kernel_rfl
/-- the bytes of a signature -/
def sigZ (id : Nat) (z : Nat → Int) : Nat → Int := fun j => if j = 0 then 3 else if j < 3 then putZ id 2 (j - 1) else z (j - 3)
theorem sigZ_bd (id : Nat) {z : Nat → Int} (hz : ∀ j, 0 ≤ z j ∧ z j ≤ 255) : ∀ j, 0 ≤ sigZ id z j ∧ sigZ id z j ≤ 255 := by
  intro j
  unfold sigZ
  split
  · omega
  split
  · exact putZ_bd _ _ _
  · exact hz _
def it0 : It := ⟨0, none, 0, 0, nou⟩
theorem zero_it : (Tryd.prog.info? 49).map (·.zero) = some (some (.agg (itC it0))) := by kernel_rfl
/-- the three parts of it -/
def sigS (N g M id : Nat) (z : Nat → Int) : Nat → It
  | 0 => ⟨0, some ⟨N, 0, none⟩, 1, 1, fun _ => 3⟩
  | 1 => ⟨0, some ⟨g, 0, none⟩, 2, 2, putZ id 2⟩
  | _ => ⟨0, some ⟨M, 0, none⟩, 32, 32, z⟩
theorem sig_join (N g M id : Nat) (z : Nat → Int) : sumS (sigS N g M id z) 3 = 35 ∧ ∀ j, j < 35 → joinS (sigS N g M id z) 3 j = sigZ id z j := by
  refine ⟨rfl, fun j hj => ?_⟩
  show catZ (catZ (catZ nou 0 fun _ => 3) 1 (putZ id 2)) 3 z j = sigZ id z j
  unfold catZ sigZ
  by_cases h0 : j = 0
  · subst h0; rfl
  · by_cases h3 : j < 3
    · rw [if_pos h3, if_neg (by omega), if_neg h0, if_pos h3]
    · rw [if_neg h3, if_neg h0, if_neg h3]
def SigP (w : World) (id : Nat) (z : Nat → Int) (e : Ending) (w' : World) : Prop := ∃ g c, e = .returned (.agg (itC ⟨10, some ⟨g, 0, none⟩, 35, c, sigZ id z⟩)) ∧ w.heap.size ≤ g ∧ Own8 w' g 35 c (sigZ id z) ∧ 35 ≤ c ∧ c ≤ maxLen ∧ Below w.heap.size w w'
set_option maxHeartbeats 8000000 in
set_option maxRecDepth 100000 in
theorem signature_any (id : Nat) (z : Nat → Int) (w : World) (hid : id ≤ 65535) (hz : ∀ j, 0 ≤ z j ∧ z j ≤ 255) :
    Calls Tryd.prog 36 #[.int .u16 (id : Int), .agg (bytC 32 z)] w (SigP w id z) := by
  have HZ := Lib.hid hz
  have HID := Lib.hid hid
  have hb1 : (0 : Int) ≤ (id : Int) := by omega
  have hb2 : (id : Int) ≤ 65535 := by omega
  clear hz hid
  go_enter Tryd.func36, Tryd.ntmps36
  have HB := Lib.hid (Below.refl w.heap.size w)
  obtain ⟨N1, hN1⟩ : ∃ N, w.heap.size = N := ⟨_, rfl⟩
  have HN1 := Lib.hid hN1
  clear hN1
  go_wp2_with (refine wpList_box (op := ⟨some 3, _, _, _, _, _⟩) rfl 26 (.tmp 1) rfl (bytC 32 z) rfl N1 HN1.out ?_; intro w1 k1 b1 s1; refine Hid.out ?_)
  refine Lib.hid ?_
  have KM := Lib.hid k1
  clear k1
  have le_HB_N1 : w.heap.size ≤ N1 := by rw [← HN1.out]; exact HB.out.size
  have HBn := Lib.hid (HB.out.trans (b1.mono HB.out.size))
  clear HB
  have HB := HBn
  clear HBn
  clear b1 HN1
  obtain ⟨N2, hN2⟩ : ∃ N, w1.heap.size = N := ⟨_, rfl⟩
  have HN2 := Lib.hid hN2
  clear hN2
  go_wp2_with (refine wpList_new (op := ⟨some 4, _, _, _, _, _⟩) rfl 49 rfl (itC it0) zero_it N2 HN2.out ?_; intro w2 k1 b1 s1; refine Hid.out ?_)
  refine Lib.hid ?_
  have KR := Lib.hid k1
  clear k1
  have lt_N1_N2 : N1 < N2 := by rw [← HN2.out]; exact KM.out.lt
  have le_HB_N2 : w.heap.size ≤ N2 := by rw [← HN2.out]; exact HB.out.size
  have KMn := Lib.hid (KM.out.below b1 KM.out.lt)
  clear KM
  have KM := KMn
  clear KMn
  have HBn := Lib.hid (HB.out.trans (b1.mono HB.out.size))
  clear HB
  have HB := HBn
  clear HBn
  clear b1 HN2
  go_wp2_with fail
  refine (put_any id 2 w2 (by have := HID.out; omega) (by omega) (by omega)).mono ?_
  rintro e w11 ⟨h9, b1⟩
  rw [if_pos (by unfold qN; have := HID.out; omega)] at h9
  obtain ⟨gp, rfl, hgp, hop⟩ := h9
  have HGP : Hid (w.heap.size ≤ gp) := Lib.hid (Nat.le_trans HB.out.size hgp)
  have lt_NM : N1 < gp := Nat.lt_of_lt_of_le KM.out.lt hgp
  have lt_NR : N2 < gp := Nat.lt_of_lt_of_le KR.out.lt hgp
  have KMn := Lib.hid (KM.out.below b1 KM.out.lt)
  clear KM
  have KM := KMn
  clear KMn
  have KRn := Lib.hid (KR.out.below b1 KR.out.lt)
  clear KR
  have KR := KRn
  clear KRn
  have HBn := Lib.hid (HB.out.trans (b1.mono HB.out.size))
  clear HB
  have HB := HBn
  clear HBn
  have KP : Hid (By8 w11 gp 2 2 (putZ id 2)) := Lib.hid hop
  clear hop hgp b1
  obtain ⟨N21, hN21⟩ : ∃ N, w11.heap.size = N := ⟨_, rfl⟩
  have HN21 := Lib.hid hN21
  clear hN21
  go_wp2_with (refine wpList_bsn (op := ⟨some 13, _, _, _, _, _⟩) 1 rfl 5 (#[.int .u8 3]) (bs_three _ _ _ rfl rfl) N21 HN21.out ?_; intro w21 k1 b1 s1; refine Hid.out ?_)
  refine Lib.hid ?_
  have K13 := Lib.hid k1
  clear k1
  have lt_N1_N21 : N1 < N21 := by rw [← HN21.out]; exact KM.out.lt
  have lt_N2_N21 : N2 < N21 := by rw [← HN21.out]; exact KR.out.lt
  have lt_gp_N21 : gp < N21 := by rw [← HN21.out]; exact KP.out.lt
  have le_HB_N21 : w.heap.size ≤ N21 := by rw [← HN21.out]; exact HB.out.size
  have KMn := Lib.hid (KM.out.below b1 KM.out.lt)
  clear KM
  have KM := KMn
  clear KMn
  have KRn := Lib.hid (KR.out.below b1 KR.out.lt)
  clear KR
  have KR := KRn
  clear KRn
  have KPn := Lib.hid (KP.out.below b1 KP.out.lt)
  clear KP
  have KP := KPn
  clear KPn
  have HBn := Lib.hid (HB.out.trans (b1.mono HB.out.size))
  clear HB
  have HB := HBn
  clear HBn
  clear b1 HN21
  go_wp2_with (refine wpList_v (op := ⟨some 15, _, _, _, _, _⟩) rfl _ (run_all32 _ _ _ rfl N1 rfl _) ?_; refine Hid.out ?_)
  refine Lib.hid ?_
  obtain ⟨N22, hN22⟩ : ∃ N, w21.heap.size = N := ⟨_, rfl⟩
  have HN22 := Lib.hid hN22
  clear hN22
  go_wp2_with (refine wpList_bsn (op := ⟨some 16, _, _, _, _, _⟩) 3 rfl 22 (#[.slice (some ⟨N21, 0, none⟩) 1 1, .slice (some ⟨gp, 0, none⟩) 2 2, .slice (some ⟨N1, 0, none⟩) 32 32]) (bs_rows _ _ _ rfl _ _ _ _ _ _ _ _ _ rfl rfl rfl) N22 HN22.out ?_; intro w22 k1 b1 s1; refine Hid.out ?_)
  refine Lib.hid ?_
  have K16 := Lib.hid k1
  clear k1
  have lt_N1_N22 : N1 < N22 := by rw [← HN22.out]; exact KM.out.lt
  have lt_N2_N22 : N2 < N22 := by rw [← HN22.out]; exact KR.out.lt
  have lt_gp_N22 : gp < N22 := by rw [← HN22.out]; exact KP.out.lt
  have lt_N21_N22 : N21 < N22 := by rw [← HN22.out]; exact K13.out.lt
  have le_HB_N22 : w.heap.size ≤ N22 := by rw [← HN22.out]; exact HB.out.size
  have KMn := Lib.hid (KM.out.below b1 KM.out.lt)
  clear KM
  have KM := KMn
  clear KMn
  have KRn := Lib.hid (KR.out.below b1 KR.out.lt)
  clear KR
  have KR := KRn
  clear KRn
  have KPn := Lib.hid (KP.out.below b1 KP.out.lt)
  clear KP
  have KP := KPn
  clear KPn
  have K13n := Lib.hid (K13.out.below b1 K13.out.lt)
  clear K13
  have K13 := K13n
  clear K13n
  have HBn := Lib.hid (HB.out.trans (b1.mono HB.out.size))
  clear HB
  have HB := HBn
  clear HBn
  clear b1 HN22
  go_wp2_with fail
  have e3 := sig_join N21 gp N1 id z
  have HC := concatB_any N22 3 3 (sigS N21 gp N1 id z) w22 (fun j hj => by rw [K16.out.cell]; rcases (by omega : j = 0 ∨ j = 1 ∨ j = 2) with rfl | rfl | rfl <;> rfl) K16.out.lt (fun j hj => by rcases (by omega : j = 0 ∨ j = 1 ∨ j = 2) with rfl | rfl | rfl; exact ⟨one_rd K13.out (by decide), fun e => by cases e⟩; exact ⟨KP.out.rd, fun e => by cases e⟩; exact ⟨blk_rd KM.out HZ.out, fun e => by cases e⟩) (by rw [e3.1]; decide) (by rw [e3.1]; decide) (by decide)
  refine HC.mono ?_
  clear HC
  rintro e w31 ⟨v1, rfl, ho⟩
  rw [e3.1] at ho
  have ho2 := ho.zz (z' := sigZ id z) e3.2 (sigZ_bd id HZ.out)
  obtain ⟨gs, cs, rfl, hgs, hos⟩ := own_ofB ho2.1 (by decide)
  have b1 := ho.2.1
  have HGS : Hid (w.heap.size ≤ gs) := Lib.hid (Nat.le_trans HB.out.size hgs)
  have lt_R : N2 < gs := Nat.lt_of_lt_of_le KR.out.lt hgs
  have KMn := Lib.hid (KM.out.below b1 KM.out.lt)
  clear KM
  have KM := KMn
  clear KMn
  have KRn := Lib.hid (KR.out.below b1 KR.out.lt)
  clear KR
  have KR := KRn
  clear KRn
  have KPn := Lib.hid (KP.out.below b1 KP.out.lt)
  clear KP
  have KP := KPn
  clear KPn
  have K13n := Lib.hid (K13.out.below b1 K13.out.lt)
  clear K13
  have K13 := K13n
  clear K13n
  have K16n := Lib.hid (K16.out.below b1 K16.out.lt)
  clear K16
  have K16 := K16n
  clear K16n
  have HBn := Lib.hid (HB.out.trans (b1.mono HB.out.size))
  clear HB
  have HB := HBn
  clear HBn
  have KS : Hid (By8 w31 gs 35 cs (sigZ id z)) := Lib.hid hos
  clear ho ho2 hos hgs b1 e3
  go_wp2_with (refine wpList_v (op := ⟨some 18, _, _, _, _, _⟩) rfl _ (build_it _ _ _ _ rfl ⟨10, some ⟨gs, 0, none⟩, 35, cs, sigZ id z⟩ rfl rfl _) ?_; refine Hid.out ?_)
  refine Lib.hid ?_
  clear KM
  clear KP
  clear K13
  clear K16
  go_wp2_with (refine wpList_st rfl 49 (.tmp 4) (.tmp 18) rfl N2 0 rfl (.agg (itC ⟨10, some ⟨gs, 0, none⟩, 35, cs, sigZ id z⟩)) (itC ⟨10, some ⟨gs, 0, none⟩, 35, cs, sigZ id z⟩) rfl rfl rfl (itC_one _) KR.out (Nat.le_of_ble_eq_true rfl) (C' := itC ⟨10, some ⟨gs, 0, none⟩, 35, cs, sigZ id z⟩) (by kernel_rfl) ?_; intro w23 q1; refine Hid.out ?_)
  refine Lib.hid ?_
  have KSn := Lib.hid (KS.out.far q1 (by omega))
  clear KS
  have KS := KSn
  clear KSn
  have HBn := Lib.hid (HB.out.trans (q1.2.1 _ (by omega)))
  clear HB
  have HB := HBn
  clear HBn
  have KRn : Hid (Blk 49 w23 N2 (itC ⟨10, some ⟨gs, 0, none⟩, 35, cs, sigZ id z⟩)) := Lib.hid q1.1
  clear KR
  have KR := KRn
  clear KRn q1
  go_wp2_with fail
  exact bodyPost_ret (results_1 rfl _ _ N2 (itC ⟨10, some ⟨gs, 0, none⟩, 35, cs, sigZ id z⟩) Tryd.underlying49 rfl info_it rfl KR.out) rfl ⟨gs, cs, rfl, HGS.out, KS.out, KS.out.caps.1, KS.out.caps.2, HB.out⟩
end Go.Proofs.YtccoicjmmeoggaaDoor

/- mac.with: a packet with one TLV more. Each theorem states its conditions. -/
namespace Go.Proofs.YtccoicjmmeoggaaDoor
open Go.RowKit
set_option linter.unusedVariables false

theorem bs_lists (W : World) (o : Oper) (e : Operand → Value) {x0 x1 : Operand} (ho : o.op = .buildSlice 139 2 #[(0, x0), (1, x1)]) (A0 A1 : Option Addr) (n0 n1 c0 c1 : Nat) (h0 : e x0 = .slice A0 n0 c0) (h1 : e x1 = .slice A1 n1 c1) :
    (execOp e o).run Tryd.prog W = .ok (.value (.slice (some ⟨W.heap.size, 0, none⟩) 2 2)) (W.alloc (.cells #[.slice A0 n0 c0, .slice A1 n1 c1] 40)) := by
  unfold execOp
  simp only [ho]
  simp only [List.map_toArray, List.map_cons, List.map_nil, h0, h1]
  kernel_rfl
theorem zero_pdP : (Tryd.prog.info? 46).map (·.zero) = some (some (.agg (pdC pd0))) := by kernel_rfl
/-- a list that lies in a row of the call's own -/
theorem rdT_row {w : World} {base n : Nat} {v : Value} {L : Nat → It} (h : w.ownsRow base 49 2 v n (cellsT L n)) (hi : ∀ j, j < n → ItOk w (L j)) :
    ∃ A c, v = .slice A n c ∧ n ≤ c ∧ c ≤ maxLen ∧ (A = none → n = 0 ∧ c = 0) ∧ RdT w A n L ∧ (0 < n → ∃ g, A = some ⟨g, 0, none⟩ ∧ base ≤ g) := by
  rcases h.2 with ⟨rfl, rfl⟩ | ⟨g, cap, cur, rfl, hb, hc, h1, h2, h3, h4⟩
  · exact ⟨none, 0, rfl, Nat.le_refl _, by decide, fun _ => ⟨rfl, rfl⟩, .inl rfl, fun h => absurd h (by omega)⟩
  · refine ⟨some ⟨g, 0, none⟩, cap, rfl, h1, h2, fun e => (by cases e), .inr ⟨g, 0, rfl, (Array.getElem?_eq_some_iff.1 hc).1, fun j hj => ?_⟩, fun _ => ⟨g, rfl, hb⟩⟩
    obtain ⟨x0, x1⟩ := cellsT_at L n j hj
    rw [← h4, List.getElem?_take, if_pos (by omega)] at x0 x1
    refine ⟨?_, ?_, hi j hj⟩
    · rw [Nat.zero_add, cell_of_row w g _ cur _ (0, 0) hc]; simpa using x0
    · rw [Nat.zero_add, cell_of_row w g _ cur _ (0, 0) hc]; simpa using x1
/-- a list, and one more behind it -/
def addT (L : Nat → It) (m : Nat) (t : It) : Nat → It := catT L m (fun _ => t)
theorem addT_lo (L : Nat → It) (m j : Nat) (t : It) (h : j < m) : addT L m t j = L j := catT_lo _ _ _ _ h
theorem addT_hi (L : Nat → It) (m : Nat) (t : It) : addT L m t m = t := by unfold addT catT; rw [if_neg (Nat.lt_irrefl _)]
theorem two_join (L : Nat → It) (m : Nat) (t : It) : cellsT (joinT (fun k => if k = 0 then L else fun _ => t) (fun k => if k = 0 then m else 1) 2) (m + 1) = cellsT (addT L m t) (m + 1) := by
  refine cellsT_congr _ _ _ fun j hj => ?_
  have e : joinT (fun k => if k = 0 then L else fun _ => t) (fun k => if k = 0 then m else 1) 2 j = addT L m t j := by
    show catT (catT L 0 L) (0 + m) (fun _ => t) j = _
    unfold addT catT
    rw [Nat.zero_add]
    by_cases h : j < m
    · rw [if_pos h, if_pos h, if_neg (by omega), Nat.sub_zero]
    · rw [if_neg h, if_neg h]
  rw [e]
  exact ⟨rfl, rfl, rfl, rfl⟩
theorem two_sum (m : Nat) : sumM (fun k => if k = 0 then m else 1) 2 = m + 1 := by show 0 + m + 1 = m + 1; omega
def WithP (w : World) (p : Pd) (L : Nat → It) (t : It) (e : Ending) (w' : World) : Prop := ∃ g c, e = .returned (.agg (pdC (withT p (some ⟨g, 0, none⟩) (p.m + 1) c))) ∧ w.heap.size ≤ g ∧ RdT w' (some ⟨g, 0, none⟩) (p.m + 1) (addT L p.m t) ∧ p.m + 1 ≤ c ∧ c ≤ maxLen ∧ Below w.heap.size w w'
set_option maxRecDepth 100000 in
theorem pd_put (p : Pd) (A : Option Addr) (m c : Nat) : putMany (pdC p) 46 [.slice A m c] = pdC (withT p A m c) := by kernel_rfl
set_option maxRecDepth 100000 in
theorem pd_over (p q : Pd) : putMany (pdC q) 0 (pdC p).toList = pdC p := by kernel_rfl
theorem pd_46 (p : Pd) : (pdC p)[46]? = some (.slice p.A p.m p.c) := rfl
theorem info_lt : (Tryd.prog.info? 40).map (·.size) = some 1 := by kernel_rfl
theorem one_sl {A : Option Addr} {n c : Nat} : (#[Value.slice A n c] : Array Value).all (·.oneCell') = true := by kernel_rfl
theorem rdT_one {w : World} {g : Nat} {t : It} (h : Blk 49 w g (itC t)) (hi : ItOk w t) : RdT w (some ⟨g, 0, none⟩) 1 (fun _ => t) :=
  .inr ⟨g, 0, rfl, h.lt, fun j hj => by
    obtain rfl : j = 0 := by omega
    exact ⟨(h.cell 0).trans rfl, (h.cell 1).trans rfl, hi⟩⟩
set_option maxHeartbeats 8000000 in
set_option maxRecDepth 100000 in
theorem with_any (p : Pd) (L : Nat → It) (t : It) (gt : Nat) (w : World) (hR : RdT w p.A p.m L) (hA : p.A = none → p.m = 0 ∧ p.c = 0) (hm : p.m * 32 ≤ 140737488351232) (ht : Blk 49 w gt (itC t)) (hit : ItOk w t) :
    Calls Tryd.prog 35 #[.agg (pdC p), .slice (some ⟨gt, 0, none⟩) 1 1] w (WithP w p L t) := by
  have HR := Lib.hid hR
  have HA := Lib.hid hA
  have KT := Lib.hid ht
  have HIT := Lib.hid hit
  have HM := Lib.hid hm
  clear hR hA ht hit hm
  go_enter Tryd.func35, Tryd.ntmps35
  have HB := Lib.hid (Below.refl w.heap.size w)
  obtain ⟨N1, hN1⟩ : ∃ N, w.heap.size = N := ⟨_, rfl⟩
  have HN1 := Lib.hid hN1
  clear hN1
  go_wp2_with (refine wpList_box (op := ⟨some 2, _, _, _, _, _⟩) rfl 46 (.tmp 0) rfl (pdC p) rfl N1 HN1.out ?_; intro w1 k1 b1 s1; refine Hid.out ?_)
  refine Lib.hid ?_
  have K0 := Lib.hid k1
  clear k1
  have lt_gt_N1 : gt < N1 := by rw [← HN1.out]; exact KT.out.lt
  have le_HB_N1 : w.heap.size ≤ N1 := by rw [← HN1.out]; exact HB.out.size
  have KTn := Lib.hid (KT.out.below b1 KT.out.lt)
  clear KT
  have KT := KTn
  clear KTn
  have HBn := Lib.hid (HB.out.trans (b1.mono HB.out.size))
  clear HB
  have HB := HBn
  clear HBn
  clear b1 HN1
  obtain ⟨N2, hN2⟩ : ∃ N, w1.heap.size = N := ⟨_, rfl⟩
  have HN2 := Lib.hid hN2
  clear hN2
  go_wp2_with (refine wpList_new (op := ⟨some 4, _, _, _, _, _⟩) rfl 46 rfl (pdC pd0) zero_pdP N2 HN2.out ?_; intro w2 k1 b1 s1; refine Hid.out ?_)
  refine Lib.hid ?_
  have K4 := Lib.hid k1
  clear k1
  have lt_gt_N2 : gt < N2 := by rw [← HN2.out]; exact KT.out.lt
  have lt_N1_N2 : N1 < N2 := by rw [← HN2.out]; exact K0.out.lt
  have le_HB_N2 : w.heap.size ≤ N2 := by rw [← HN2.out]; exact HB.out.size
  have KTn := Lib.hid (KT.out.below b1 KT.out.lt)
  clear KT
  have KT := KTn
  clear KTn
  have K0n := Lib.hid (K0.out.below b1 K0.out.lt)
  clear K0
  have K0 := K0n
  clear K0n
  have HBn := Lib.hid (HB.out.trans (b1.mono HB.out.size))
  clear HB
  have HB := HBn
  clear HBn
  clear b1 HN2
  have c1 : w2.cell? ⟨N1, 46, none⟩ = some (.slice p.A p.m p.c) := (K0.out.cell 46).trans (pd_46 p)
  obtain ⟨N3, hN3⟩ : ∃ N, w2.heap.size = N := ⟨_, rfl⟩
  have HN3 := Lib.hid hN3
  clear hN3
  go_wp2_with (refine wpList_bsn (op := ⟨some 8, _, _, _, _, _⟩) 2 rfl 40 (#[.slice p.A p.m p.c, .slice (some ⟨gt, 0, none⟩) 1 1]) (bs_lists _ _ _ rfl _ _ _ _ _ _ rfl rfl) N3 HN3.out ?_; intro w3 k1 b1 s1; refine Hid.out ?_)
  refine Lib.hid ?_
  have K8 := Lib.hid k1
  clear k1
  have lt_gt_N3 : gt < N3 := by rw [← HN3.out]; exact KT.out.lt
  have lt_N1_N3 : N1 < N3 := by rw [← HN3.out]; exact K0.out.lt
  have lt_N2_N3 : N2 < N3 := by rw [← HN3.out]; exact K4.out.lt
  have le_HB_N3 : w.heap.size ≤ N3 := by rw [← HN3.out]; exact HB.out.size
  have KTn := Lib.hid (KT.out.below b1 KT.out.lt)
  clear KT
  have KT := KTn
  clear KTn
  have K0n := Lib.hid (K0.out.below b1 K0.out.lt)
  clear K0
  have K0 := K0n
  clear K0n
  have K4n := Lib.hid (K4.out.below b1 K4.out.lt)
  clear K4
  have K4 := K4n
  clear K4n
  have HBn := Lib.hid (HB.out.trans (b1.mono HB.out.size))
  clear HB
  have HB := HBn
  clear HBn
  clear b1 HN3
  clear c1
  go_wp2_with fail
  have HC := concatT_any N3 2 2 (fun k => if k = 0 then p.A else some ⟨gt, 0, none⟩) (fun k => if k = 0 then p.m else 1) (fun k => if k = 0 then p.c else 1) (fun k => if k = 0 then L else fun _ => t) w3 (fun j hj => by rw [K8.out.cell]; rcases (by omega : j = 0 ∨ j = 1) with rfl | rfl <;> rfl) K8.out.lt (fun j hj => by rcases (by omega : j = 0 ∨ j = 1) with rfl | rfl; exact ⟨HR.out.below HB.out, HA.out⟩; exact ⟨rdT_one KT.out (HIT.out.below HB.out), fun e => by cases e⟩) (by rw [two_sum]; omega) (by rw [two_sum]; have := HM.out; omega) (by decide)
  rw [two_sum, two_join] at HC
  refine HC.mono ?_
  clear HC
  rintro e w31 ⟨v1, rfl, ho, b1⟩
  obtain ⟨g9, c9, cur9, rfl, hg9, hc9, h91, h92, h93, h94⟩ := ho.2.resolve_left (fun h => by have := h.2; omega)
  have HG9 : Hid (w.heap.size ≤ g9) := Lib.hid (Nat.le_trans HB.out.size hg9)
  have lt_N1_g9 : N1 < g9 := Nat.lt_of_lt_of_le K0.out.lt hg9
  have lt_N2_g9 : N2 < g9 := Nat.lt_of_lt_of_le K4.out.lt hg9
  have HQ := Lib.hid (And.intro ho.1 (And.intro h91 (And.intro h92 (And.intro h93 h94))))
  have KTn := Lib.hid (KT.out.below b1 KT.out.lt)
  clear KT
  have KT := KTn
  clear KTn
  have K0n := Lib.hid (K0.out.below b1 K0.out.lt)
  clear K0
  have K0 := K0n
  clear K0n
  have K4n := Lib.hid (K4.out.below b1 K4.out.lt)
  clear K4
  have K4 := K4n
  clear K4n
  have K8n := Lib.hid (K8.out.below b1 K8.out.lt)
  clear K8
  have K8 := K8n
  clear K8n
  have HBn := Lib.hid (HB.out.trans (b1.mono HB.out.size))
  clear HB
  have HB := HBn
  clear HBn
  have K9 : Hid (Blk 49 w31 g9 cur9) := Lib.hid hc9
  clear ho h91 h92 h93 h94 hg9 b1 hc9
  clear KT
  clear K8
  go_wp2_with (refine wpList_st rfl 40 (.tmp 10) (.tmp 9) rfl N1 46 rfl (.slice (some ⟨g9, 0, none⟩) (p.m + 1) c9) #[.slice (some ⟨g9, 0, none⟩) (p.m + 1) c9] rfl rfl info_lt one_sl K0.out (Nat.le_of_ble_eq_true rfl) (C' := pdC (withT p (some ⟨g9, 0, none⟩) (p.m + 1) c9)) (pd_put _ _ _ _) ?_; intro w41 q1; refine Hid.out ?_)
  refine Lib.hid ?_
  have K4n := Lib.hid (K4.out.far q1 (by omega))
  clear K4
  have K4 := K4n
  clear K4n
  have K9n := Lib.hid (K9.out.far q1 (by omega))
  clear K9
  have K9 := K9n
  clear K9n
  have HBn := Lib.hid (HB.out.trans (q1.2.1 _ (by omega)))
  clear HB
  have HB := HBn
  clear HBn
  have K0n : Hid (Blk 46 w41 N1 (pdC (withT p (some ⟨g9, 0, none⟩) (p.m + 1) c9))) := Lib.hid q1.1
  clear K0
  have K0 := K0n
  clear K0n q1
  go_wp2_with (refine wpList_ld (op := ⟨some 11, _, _, _, _, _⟩) (by rfl) 46 (.tmp 2) rfl N1 0 rfl (pdC (withT p (some ⟨g9, 0, none⟩) (p.m + 1) c9)) _ K0.out.all Tryd.underlying46 rfl info_pdP ?_; refine Hid.out ?_)
  refine Lib.hid ?_
  go_wp2_with (refine wpList_st rfl 46 (.tmp 4) (.tmp 11) rfl N2 0 rfl (.agg (pdC (withT p (some ⟨g9, 0, none⟩) (p.m + 1) c9))) (pdC (withT p (some ⟨g9, 0, none⟩) (p.m + 1) c9)) rfl rfl info_pdP (pdC_one _) K4.out (Nat.le_of_ble_eq_true rfl) (C' := pdC (withT p (some ⟨g9, 0, none⟩) (p.m + 1) c9)) (pd_over _ _) ?_; intro w51 q1; refine Hid.out ?_)
  refine Lib.hid ?_
  have K0n := Lib.hid (K0.out.far q1 (by omega))
  clear K0
  have K0 := K0n
  clear K0n
  have K9n := Lib.hid (K9.out.far q1 (by omega))
  clear K9
  have K9 := K9n
  clear K9n
  have HBn := Lib.hid (HB.out.trans (q1.2.1 _ (by omega)))
  clear HB
  have HB := HBn
  clear HBn
  have K4n : Hid (Blk 46 w51 N2 (pdC (withT p (some ⟨g9, 0, none⟩) (p.m + 1) c9))) := Lib.hid q1.1
  clear K4
  have K4 := K4n
  clear K4n q1
  go_wp2_with fail
  have HI1 : ∀ j, j < p.m + 1 → ItOk w51 (addT L p.m t j) := fun j hj => by
    by_cases h : j < p.m
    · rw [addT_lo _ _ _ _ h]; obtain ⟨b, off, _, hr⟩ := (HR.out.below HB.out).row (by omega); exact (hr.2 j h).2.2
    · obtain rfl : j = p.m := by omega
      rw [addT_hi]; exact HIT.out.below HB.out
  obtain ⟨A8, c8, e8, x1, x2, x3, x4, x5⟩ := rdT_row (w := w51) (base := w.heap.size) ⟨HQ.out.1, .inr ⟨g9, c9, cur9, rfl, HG9.out, K9.out, HQ.out.2⟩⟩ HI1
  injection e8 with e81 e82 e83
  subst e81 e83
  exact bodyPost_ret (results_1 rfl _ _ N2 (pdC (withT p (some ⟨g9, 0, none⟩) (p.m + 1) c9)) Tryd.underlying46 rfl info_pdP rfl K4.out) rfl ⟨g9, c9, rfl, HG9.out, x4, x1, x2, HB.out⟩
end Go.Proofs.YtccoicjmmeoggaaDoor

/- mac.macOf: the bytes that sign a packet. Each theorem states its conditions. -/
namespace Go.Proofs.YtccoicjmmeoggaaDoor
open Go.RowKit
set_option linter.unusedVariables false

/-- k bytes from o on are nought -/
def zapZ (z : Nat → Int) (o k : Nat) : Nat → Int := fun j => if o ≤ j ∧ j < o + k then 0 else z j
theorem zapZ_bd {z : Nat → Int} (hz : ∀ j, 0 ≤ z j ∧ z j ≤ 255) (o k : Nat) : ∀ j, 0 ≤ zapZ z o k j ∧ zapZ z o k j ≤ 255 := by
  intro j; unfold zapZ; split
  · omega
  · exact hz j
theorem putMany_size (vs : List Value) : ∀ (o : Nat) (cur : Array Value), (putMany cur o vs).size = cur.size := by
  induction vs with
  | nil => intro o cur; rfl
  | cons v r ih => intro o cur; exact (ih _ _).trans (by simp)
theorem putMany_rep (v : Value) (k : Nat) : ∀ (o : Nat) (cur : Array Value) (j : Nat), o + k ≤ cur.size → (putMany cur o (List.replicate k v))[j]? = if o ≤ j ∧ j < o + k then some v else cur[j]? := by
  induction k with
  | zero => intro o cur j _; rw [if_neg (by omega)]; rfl
  | succ k ih =>
    intro o cur j h
    show (putMany (cur.setIfInBounds o v) (o + 1) (List.replicate k v))[j]? = _
    rw [ih (o + 1) _ j (by simp; omega), Array.getElem?_setIfInBounds]
    by_cases h1 : o + 1 ≤ j ∧ j < o + 1 + k
    · rw [if_pos h1, if_pos (by omega)]
    · rw [if_neg h1]
      by_cases h2 : o = j
      · subst h2; rw [if_pos rfl, if_pos (by omega), if_pos (by omega)]
      · rw [if_neg h2, if_neg (by omega)]
/-- 'clear' of a part of bytes of the call's own -/
theorem wpList_clear {ops : Array Oper} {Q : Exit → Act → World → Prop} {rest : List Oper} {op : Oper} {a : Act} {w : World} (hgd : op.guard = none) (x : Operand)
    (ho : op.op = .call { callee := .builtin .clear, args := #[x], argTypes := #[22] }) (g o k c0 : Nat) (hx : a.eval x = .slice (some ⟨g, o, none⟩) k c0) (hk : 0 < k) {n cap : Nat} {z : Nat → Int} (h : Own8 w g n cap z) (hok : o + k ≤ n)
    (H : ∀ w' C, Stored w w' g C 5 → Own8 w' g n cap (zapZ z o k) → wpList Tryd.prog ops Q rest (a.put op.dst (.tuple #[])) w') : wpList Tryd.prog ops Q (op :: rest) a w := by
  obtain ⟨⟨cur, hg, h1, h2, h3, h4⟩, h5⟩ := h
  obtain ⟨i, hi, hz0, hz1, hz2⟩ := info_parts info_u8
  have hr := Lib.run_clear_slice (P := Tryd.prog) w 22 5 op.type (.int .u8 0) Tryd.underlying22 (fun w => by simp [zeroValue, typeInfo, hi, hz0]) rfl rfl g o k c0 hk
    (fun j hj => by rw [cell_of_row w g (o + j) cur _ (0, 0) hg, Array.getElem?_eq_getElem (by omega)]; rfl) (fun j hj => by simp [World.frozen?, hg])
  have hs : Stored w (w.setCells g o (List.replicate k (.int .u8 0))) g (putMany cur o (List.replicate k (.int .u8 0))) 5 :=
    ⟨heap_setMany g _ _ o w cur hg, fun B hB => below_setMany g _ o w B hB, fun j hj => other_setMany g j hj _ o w⟩
  refine wpList_plain hgd fun K hK => ?_
  unfold Oper.wp execOp
  simp only [ho, resolve, invoke, builtin, Sem.run_bind, Sem.run_pure, Result.andThen_ok, List.map_toArray, List.map_cons, List.map_nil, hx, hr, Oper.upon_value]
  refine hK _ _ (H _ _ hs ⟨⟨_, hs.1, h1, h2, by rw [putMany_size, h3], fun j hj => ?_⟩, zapZ_bd h5 o k⟩)
  rw [putMany_rep _ _ _ _ _ (by omega)]
  unfold zapZ
  by_cases h9 : o ≤ j ∧ j < o + k
  · rw [if_pos h9, if_pos h9]
  · rw [if_neg h9, if_neg h9]; exact h4 j hj
/-- a packet's bytes as they are signed -/
def blkZ (q2 : Prop) [Decidable q2] (z : Nat → Int) (n : Nat) : Nat → Int := if q2 then zapZ (zapZ (zapZ z (n - 32) 32) 10 2) 24 2 else zapZ z (n - 32) 32
theorem hmac_own {w0 w : World} {A : Option Addr} {m ck : Nat} {k : Nat → Int} {g n c : Nat} {z : Nat → Int} (hk : Rd w A m k) (hA : A = none → m = 0 ∧ ck = 0) (hp : By8 w g n c z) (hm : m ≤ 64) (hn : n ≤ 140737488355200) (hg : Rts w 0) :
    Calls Tryd.prog 11 #[.slice A m ck, .slice (some ⟨g, 0, none⟩) n c] w fun e w' => e = .returned (.tuple #[.agg (bytC 32 (hmacZ k m z n)), .int .i64 0]) ∧ Below w.heap.size w w' :=
  hmac_any A m ck k _ n c z w hk hA hp.rd (fun e => by cases e) hm hn hg
set_option maxHeartbeats 8000000 in
set_option maxRecDepth 100000 in
theorem macOf_2 (B : Option Addr) (n c : Nat) (z : Nat → Int) (kd : Int) (A : Option Addr) (m ck : Nat) (k : Nat → Int) (w : World) (hq : kd = 18 ∨ kd = 20) (hB : Rd w B n z) (hBn : B = none → n = 0 ∧ c = 0) (hn : 54 ≤ n) (hn2 : n ≤ 1492) (hk : Rd w A m k) (hA : A = none → m = 0 ∧ ck = 0) (hm : m ≤ 64) (hg : Rts w 0) :
    Calls Tryd.prog 41 #[.slice B n c, .int .u8 kd, .slice A m ck] w fun e w' => e = .returned (.agg (bytC 32 (hmacZ k m (zapZ (zapZ (zapZ z (n - 32) 32) 10 2) 24 2) n))) ∧ Below w.heap.size w w' := by
  have HBB := Lib.hid hB
  have HBN := Lib.hid hBn
  have HK := Lib.hid hk
  have HA := Lib.hid hA
  have HMM := Lib.hid hm
  have RT := Lib.hid hg
  have hg9 := hg.2
  have HN := Lib.hid (And.intro hn hn2)
  obtain ⟨o, ho⟩ : ∃ o, n = o + 32 := ⟨n - 32, by omega⟩
  have HO := Lib.hid ho
  have ho1 : 22 ≤ o := by omega
  have ho2 : o ≤ 1460 := by omega
  obtain ⟨s, es⟩ : ∃ s, hmacZ k m (zapZ (zapZ (zapZ z (n - 32) 32) 10 2) 24 2) n = s := ⟨_, rfl⟩
  have HS := Lib.hid es
  clear hB hBn hk hA hm hg hn hn2 es
  subst ho
  rw [HS.out]
  have H18 : Hid ((kd == 18) = true ∨ ((kd == 18) = false ∧ (kd == 20) = true)) := Lib.hid (by rcases hq with rfl | rfl; exact .inl rfl; exact .inr ⟨rfl, rfl⟩)
  clear hq
  go_enter Tryd.func41, Tryd.ntmps41
  have HB := Lib.hid (Below.refl w.heap.size w)
  obtain ⟨N1, hN1⟩ : ∃ N, w.heap.size = N := ⟨_, rfl⟩
  have HN1 := Lib.hid hN1
  clear hN1
  go_wp2_with (refine wpList_new (op := ⟨some 6, _, _, _, _, _⟩) rfl 26 rfl (bytC 32 fun _ => 0) zero_d N1 HN1.out ?_; intro w1 k1 b1 s1; refine Hid.out ?_)
  refine Lib.hid ?_
  have K6 := Lib.hid k1
  clear k1
  have lt_0_N1 : 0 < N1 := by rw [← HN1.out]; exact RT.out.lt
  have le_HB_N1 : w.heap.size ≤ N1 := by rw [← HN1.out]; exact HB.out.size
  have RTn := Lib.hid (RT.out.below b1 RT.out.lt)
  clear RT
  have RT := RTn
  clear RTn
  have HBn := Lib.hid (HB.out.trans (b1.mono HB.out.size))
  clear HB
  have HB := HBn
  clear HBn
  clear b1 HN1
  go_wp2_with fail
  refine (cloneH_any B (o + 32) c z w1 (HBB.out.below HB.out rfl) HBN.out (by omega)).mono ?_
  rintro e w11 ⟨v7, rfl, h7⟩
  obtain ⟨g7, c7, rfl, hg7, ho7⟩ := own_ofB h7.1 (by omega)
  have b1 := h7.2.1
  have lt_6 : N1 < g7 := Nat.lt_of_lt_of_le K6.out.lt hg7
  have lt_R : 0 < g7 := Nat.lt_of_lt_of_le RT.out.lt hg7
  have le_w : w.heap.size ≤ g7 := Nat.le_trans HB.out.size hg7
  have hcap := ho7.caps.1
  have hcm : c7 ≤ 9223372036854775807 := ho7.caps.2
  have RTn := Lib.hid (RT.out.below b1 RT.out.lt)
  clear RT
  have RT := RTn
  clear RTn
  have K6n := Lib.hid (K6.out.below b1 K6.out.lt)
  clear K6
  have K6 := K6n
  clear K6n
  have HBn := Lib.hid (HB.out.trans (b1.mono HB.out.size))
  clear HB
  have HB := HBn
  clear HBn
  have K7 : Hid (By8 w11 g7 (o + 32) c7 z) := Lib.hid ho7
  clear h7 ho7 hg7 b1
  go_wp2_with (refine wpList_clear (op := ⟨none, _, _, _, _, _⟩) rfl (.tmp 16) rfl g7 (o) 32 _ rfl (by decide) K7.out (by omega) ?_; intro w21 C21 q1 q2; refine Hid.out ?_)
  refine Lib.hid ?_
  have RTn := Lib.hid (RT.out.far q1 (by omega))
  clear RT
  have RT := RTn
  clear RTn
  have K6n := Lib.hid (K6.out.far q1 (by omega))
  clear K6
  have K6 := K6n
  clear K6n
  have HBn := Lib.hid (HB.out.trans (q1.2.1 _ (by omega)))
  clear HB
  have HB := HBn
  clear HBn
  clear K7
  have K7 : Hid (By8 w21 g7 (o + 32) c7 (zapZ z o 32)) := Lib.hid q2
  clear q1 q2
  rcases H18.out with hk1 | ⟨hk1, hk2⟩
  · clear H18
    go_wp2_with (refine wpList_clear (op := ⟨none, _, _, _, _, _⟩) rfl (.tmp 24) rfl g7 (10) 2 _ rfl (by decide) K7.out (by omega) ?_; intro w22 C22 q1 q2; refine Hid.out ?_)
    refine Lib.hid ?_
    have RTn := Lib.hid (RT.out.far q1 (by omega))
    clear RT
    have RT := RTn
    clear RTn
    have K6n := Lib.hid (K6.out.far q1 (by omega))
    clear K6
    have K6 := K6n
    clear K6n
    have HBn := Lib.hid (HB.out.trans (q1.2.1 _ (by omega)))
    clear HB
    have HB := HBn
    clear HBn
    clear K7
    have K7 : Hid (By8 w22 g7 (o + 32) c7 (zapZ (zapZ z o 32) 10 2)) := Lib.hid q2
    clear q1 q2
    go_wp2_with (refine wpList_clear (op := ⟨none, _, _, _, _, _⟩) rfl (.tmp 26) rfl g7 (24) 2 _ rfl (by decide) K7.out (by omega) ?_; intro w23 C23 q1 q2; refine Hid.out ?_)
    refine Lib.hid ?_
    have RTn := Lib.hid (RT.out.far q1 (by omega))
    clear RT
    have RT := RTn
    clear RTn
    have K6n := Lib.hid (K6.out.far q1 (by omega))
    clear K6
    have K6 := K6n
    clear K6n
    have HBn := Lib.hid (HB.out.trans (q1.2.1 _ (by omega)))
    clear HB
    have HB := HBn
    clear HBn
    clear K7
    have K7 : Hid (By8 w23 g7 (o + 32) c7 (zapZ (zapZ (zapZ z o 32) 10 2) 24 2)) := Lib.hid q2
    clear q1 q2
    go_wp2_with fail
    refine (hmac_own (w0 := w) (HK.out.below HB.out rfl) HA.out K7.out HMM.out (by omega) RT.out).mono ?_
    rintro e w31 ⟨rfl, b1⟩
    have RTn := Lib.hid (RT.out.below b1 RT.out.lt)
    clear RT
    have RT := RTn
    clear RTn
    have K6n := Lib.hid (K6.out.below b1 K6.out.lt)
    clear K6
    have K6 := K6n
    clear K6n
    have K7n := Lib.hid (K7.out.below b1 K7.out.lt)
    clear K7
    have K7 := K7n
    clear K7n
    have HBn := Lib.hid (HB.out.trans (b1.mono HB.out.size))
    clear HB
    have HB := HBn
    clear HBn
    clear b1
    rw [show hmacZ k m (zapZ (zapZ (zapZ z o 32) 10 2) 24 2) (o + 32) = s from HS.out]
    obtain ⟨N41, hN41⟩ : ∃ N, w31.heap.size = N := ⟨_, rfl⟩
    have HN41 := Lib.hid hN41
    clear hN41
    go_wp2_with (refine wpList_new (op := ⟨some 8, _, _, _, _, _⟩) rfl 26 rfl (bytC 32 fun _ => 0) zero_d N41 HN41.out ?_; intro w41 k1 b1 s1; refine Hid.out ?_)
    refine Lib.hid ?_
    have K8 := Lib.hid k1
    clear k1
    have lt_0_N41 : 0 < N41 := by rw [← HN41.out]; exact RT.out.lt
    have lt_N1_N41 : N1 < N41 := by rw [← HN41.out]; exact K6.out.lt
    have lt_g7_N41 : g7 < N41 := by rw [← HN41.out]; exact K7.out.lt
    have le_HB_N41 : w.heap.size ≤ N41 := by rw [← HN41.out]; exact HB.out.size
    have RTn := Lib.hid (RT.out.below b1 RT.out.lt)
    clear RT
    have RT := RTn
    clear RTn
    have K6n := Lib.hid (K6.out.below b1 K6.out.lt)
    clear K6
    have K6 := K6n
    clear K6n
    have K7n := Lib.hid (K7.out.below b1 K7.out.lt)
    clear K7
    have K7 := K7n
    clear K7n
    have HBn := Lib.hid (HB.out.trans (b1.mono HB.out.size))
    clear HB
    have HB := HBn
    clear HBn
    clear b1 HN41
    go_wp2_with (refine wpList_st rfl 26 (.tmp 8) (.tmp 31) rfl N41 0 rfl (.agg (bytC 32 s)) (bytC 32 s) rfl rfl (info_d _) (byt_one _ _) K8.out (byt_fit _ _ _) (C' := bytC 32 s) (byt_all _ _ _) ?_; intro w42 q1; refine Hid.out ?_)
    refine Lib.hid ?_
    have RTn := Lib.hid (RT.out.far q1 (by omega))
    clear RT
    have RT := RTn
    clear RTn
    have K6n := Lib.hid (K6.out.far q1 (by omega))
    clear K6
    have K6 := K6n
    clear K6n
    have K7n := Lib.hid (K7.out.far q1 (by omega))
    clear K7
    have K7 := K7n
    clear K7n
    have HBn := Lib.hid (HB.out.trans (q1.2.1 _ (by omega)))
    clear HB
    have HB := HBn
    clear HBn
    have K8n : Hid (Blk 26 w42 N41 (bytC 32 s)) := Lib.hid q1.1
    clear K8
    have K8 := K8n
    clear K8n q1
    go_wp2_with (refine wpList_ld (op := ⟨some 33, _, _, _, _, _⟩) (by rfl) 26 (.tmp 8) rfl N41 0 rfl (bytC 32 s) _ K8.out.all Tryd.underlying26 rfl (info_dL _) ?_; refine Hid.out ?_)
    refine Lib.hid ?_
    go_wp2_with (refine wpList_st rfl 26 (.tmp 6) (.tmp 33) rfl N1 0 rfl (.agg (bytC 32 s)) (bytC 32 s) rfl rfl (info_d _) (byt_one _ _) K6.out (byt_fit _ _ _) (C' := bytC 32 s) (byt_all _ _ _) ?_; intro w51 q1; refine Hid.out ?_)
    refine Lib.hid ?_
    have RTn := Lib.hid (RT.out.far q1 (by omega))
    clear RT
    have RT := RTn
    clear RTn
    have K7n := Lib.hid (K7.out.far q1 (by omega))
    clear K7
    have K7 := K7n
    clear K7n
    have K8n := Lib.hid (K8.out.far q1 (by omega))
    clear K8
    have K8 := K8n
    clear K8n
    have HBn := Lib.hid (HB.out.trans (q1.2.1 _ (by omega)))
    clear HB
    have HB := HBn
    clear HBn
    have K6n : Hid (Blk 26 w51 N1 (bytC 32 s)) := Lib.hid q1.1
    clear K6
    have K6 := K6n
    clear K6n q1
    go_wp2_with fail
    exact bodyPost_ret (results_1 rfl _ _ N1 (bytC 32 s) Tryd.underlying26 rfl (info_d _) rfl K6.out) rfl ⟨rfl, HB.out⟩
  · clear H18
    go_wp2_with (refine wpList_clear (op := ⟨none, _, _, _, _, _⟩) rfl (.tmp 24) rfl g7 (10) 2 _ rfl (by decide) K7.out (by omega) ?_; intro w22 C22 q1 q2; refine Hid.out ?_)
    refine Lib.hid ?_
    have RTn := Lib.hid (RT.out.far q1 (by omega))
    clear RT
    have RT := RTn
    clear RTn
    have K6n := Lib.hid (K6.out.far q1 (by omega))
    clear K6
    have K6 := K6n
    clear K6n
    have HBn := Lib.hid (HB.out.trans (q1.2.1 _ (by omega)))
    clear HB
    have HB := HBn
    clear HBn
    clear K7
    have K7 : Hid (By8 w22 g7 (o + 32) c7 (zapZ (zapZ z o 32) 10 2)) := Lib.hid q2
    clear q1 q2
    go_wp2_with (refine wpList_clear (op := ⟨none, _, _, _, _, _⟩) rfl (.tmp 26) rfl g7 (24) 2 _ rfl (by decide) K7.out (by omega) ?_; intro w23 C23 q1 q2; refine Hid.out ?_)
    refine Lib.hid ?_
    have RTn := Lib.hid (RT.out.far q1 (by omega))
    clear RT
    have RT := RTn
    clear RTn
    have K6n := Lib.hid (K6.out.far q1 (by omega))
    clear K6
    have K6 := K6n
    clear K6n
    have HBn := Lib.hid (HB.out.trans (q1.2.1 _ (by omega)))
    clear HB
    have HB := HBn
    clear HBn
    clear K7
    have K7 : Hid (By8 w23 g7 (o + 32) c7 (zapZ (zapZ (zapZ z o 32) 10 2) 24 2)) := Lib.hid q2
    clear q1 q2
    go_wp2_with fail
    refine (hmac_own (w0 := w) (HK.out.below HB.out rfl) HA.out K7.out HMM.out (by omega) RT.out).mono ?_
    rintro e w31 ⟨rfl, b1⟩
    have RTn := Lib.hid (RT.out.below b1 RT.out.lt)
    clear RT
    have RT := RTn
    clear RTn
    have K6n := Lib.hid (K6.out.below b1 K6.out.lt)
    clear K6
    have K6 := K6n
    clear K6n
    have K7n := Lib.hid (K7.out.below b1 K7.out.lt)
    clear K7
    have K7 := K7n
    clear K7n
    have HBn := Lib.hid (HB.out.trans (b1.mono HB.out.size))
    clear HB
    have HB := HBn
    clear HBn
    clear b1
    rw [show hmacZ k m (zapZ (zapZ (zapZ z o 32) 10 2) 24 2) (o + 32) = s from HS.out]
    obtain ⟨N41, hN41⟩ : ∃ N, w31.heap.size = N := ⟨_, rfl⟩
    have HN41 := Lib.hid hN41
    clear hN41
    go_wp2_with (refine wpList_new (op := ⟨some 8, _, _, _, _, _⟩) rfl 26 rfl (bytC 32 fun _ => 0) zero_d N41 HN41.out ?_; intro w41 k1 b1 s1; refine Hid.out ?_)
    refine Lib.hid ?_
    have K8 := Lib.hid k1
    clear k1
    have lt_0_N41 : 0 < N41 := by rw [← HN41.out]; exact RT.out.lt
    have lt_N1_N41 : N1 < N41 := by rw [← HN41.out]; exact K6.out.lt
    have lt_g7_N41 : g7 < N41 := by rw [← HN41.out]; exact K7.out.lt
    have le_HB_N41 : w.heap.size ≤ N41 := by rw [← HN41.out]; exact HB.out.size
    have RTn := Lib.hid (RT.out.below b1 RT.out.lt)
    clear RT
    have RT := RTn
    clear RTn
    have K6n := Lib.hid (K6.out.below b1 K6.out.lt)
    clear K6
    have K6 := K6n
    clear K6n
    have K7n := Lib.hid (K7.out.below b1 K7.out.lt)
    clear K7
    have K7 := K7n
    clear K7n
    have HBn := Lib.hid (HB.out.trans (b1.mono HB.out.size))
    clear HB
    have HB := HBn
    clear HBn
    clear b1 HN41
    go_wp2_with (refine wpList_st rfl 26 (.tmp 8) (.tmp 31) rfl N41 0 rfl (.agg (bytC 32 s)) (bytC 32 s) rfl rfl (info_d _) (byt_one _ _) K8.out (byt_fit _ _ _) (C' := bytC 32 s) (byt_all _ _ _) ?_; intro w42 q1; refine Hid.out ?_)
    refine Lib.hid ?_
    have RTn := Lib.hid (RT.out.far q1 (by omega))
    clear RT
    have RT := RTn
    clear RTn
    have K6n := Lib.hid (K6.out.far q1 (by omega))
    clear K6
    have K6 := K6n
    clear K6n
    have K7n := Lib.hid (K7.out.far q1 (by omega))
    clear K7
    have K7 := K7n
    clear K7n
    have HBn := Lib.hid (HB.out.trans (q1.2.1 _ (by omega)))
    clear HB
    have HB := HBn
    clear HBn
    have K8n : Hid (Blk 26 w42 N41 (bytC 32 s)) := Lib.hid q1.1
    clear K8
    have K8 := K8n
    clear K8n q1
    go_wp2_with (refine wpList_ld (op := ⟨some 33, _, _, _, _, _⟩) (by rfl) 26 (.tmp 8) rfl N41 0 rfl (bytC 32 s) _ K8.out.all Tryd.underlying26 rfl (info_dL _) ?_; refine Hid.out ?_)
    refine Lib.hid ?_
    go_wp2_with (refine wpList_st rfl 26 (.tmp 6) (.tmp 33) rfl N1 0 rfl (.agg (bytC 32 s)) (bytC 32 s) rfl rfl (info_d _) (byt_one _ _) K6.out (byt_fit _ _ _) (C' := bytC 32 s) (byt_all _ _ _) ?_; intro w51 q1; refine Hid.out ?_)
    refine Lib.hid ?_
    have RTn := Lib.hid (RT.out.far q1 (by omega))
    clear RT
    have RT := RTn
    clear RTn
    have K7n := Lib.hid (K7.out.far q1 (by omega))
    clear K7
    have K7 := K7n
    clear K7n
    have K8n := Lib.hid (K8.out.far q1 (by omega))
    clear K8
    have K8 := K8n
    clear K8n
    have HBn := Lib.hid (HB.out.trans (q1.2.1 _ (by omega)))
    clear HB
    have HB := HBn
    clear HBn
    have K6n : Hid (Blk 26 w51 N1 (bytC 32 s)) := Lib.hid q1.1
    clear K6
    have K6 := K6n
    clear K6n q1
    go_wp2_with fail
    exact bodyPost_ret (results_1 rfl _ _ N1 (bytC 32 s) Tryd.underlying26 rfl (info_d _) rfl K6.out) rfl ⟨rfl, HB.out⟩
set_option maxHeartbeats 8000000 in
set_option maxRecDepth 100000 in
theorem macOf_0 (B : Option Addr) (n c : Nat) (z : Nat → Int) (kd : Int) (A : Option Addr) (m ck : Nat) (k : Nat → Int) (w : World) (h18 : kd ≠ 18) (h20 : kd ≠ 20) (hB : Rd w B n z) (hBn : B = none → n = 0 ∧ c = 0) (hn : 54 ≤ n) (hn2 : n ≤ 1492) (hk : Rd w A m k) (hA : A = none → m = 0 ∧ ck = 0) (hm : m ≤ 64) (hg : Rts w 0) :
    Calls Tryd.prog 41 #[.slice B n c, .int .u8 kd, .slice A m ck] w fun e w' => e = .returned (.agg (bytC 32 (hmacZ k m (zapZ z (n - 32) 32) n))) ∧ Below w.heap.size w w' := by
  have HBB := Lib.hid hB
  have HBN := Lib.hid hBn
  have HK := Lib.hid hk
  have HA := Lib.hid hA
  have HMM := Lib.hid hm
  have RT := Lib.hid hg
  have hg9 := hg.2
  have HN := Lib.hid (And.intro hn hn2)
  obtain ⟨o, ho⟩ : ∃ o, n = o + 32 := ⟨n - 32, by omega⟩
  have HO := Lib.hid ho
  have ho1 : 22 ≤ o := by omega
  have ho2 : o ≤ 1460 := by omega
  obtain ⟨s, es⟩ : ∃ s, hmacZ k m (zapZ z (n - 32) 32) n = s := ⟨_, rfl⟩
  have HS := Lib.hid es
  clear hB hBn hk hA hm hg hn hn2 es
  subst ho
  rw [HS.out]
  have H18 : Hid ((kd == 18) = false ∧ (kd == 20) = false) := Lib.hid ⟨by simpa using h18, by simpa using h20⟩
  clear h18 h20
  go_enter Tryd.func41, Tryd.ntmps41
  have HB := Lib.hid (Below.refl w.heap.size w)
  obtain ⟨N1, hN1⟩ : ∃ N, w.heap.size = N := ⟨_, rfl⟩
  have HN1 := Lib.hid hN1
  clear hN1
  go_wp2_with (refine wpList_new (op := ⟨some 6, _, _, _, _, _⟩) rfl 26 rfl (bytC 32 fun _ => 0) zero_d N1 HN1.out ?_; intro w1 k1 b1 s1; refine Hid.out ?_)
  refine Lib.hid ?_
  have K6 := Lib.hid k1
  clear k1
  have lt_0_N1 : 0 < N1 := by rw [← HN1.out]; exact RT.out.lt
  have le_HB_N1 : w.heap.size ≤ N1 := by rw [← HN1.out]; exact HB.out.size
  have RTn := Lib.hid (RT.out.below b1 RT.out.lt)
  clear RT
  have RT := RTn
  clear RTn
  have HBn := Lib.hid (HB.out.trans (b1.mono HB.out.size))
  clear HB
  have HB := HBn
  clear HBn
  clear b1 HN1
  go_wp2_with fail
  refine (cloneH_any B (o + 32) c z w1 (HBB.out.below HB.out rfl) HBN.out (by omega)).mono ?_
  rintro e w11 ⟨v7, rfl, h7⟩
  obtain ⟨g7, c7, rfl, hg7, ho7⟩ := own_ofB h7.1 (by omega)
  have b1 := h7.2.1
  have lt_6 : N1 < g7 := Nat.lt_of_lt_of_le K6.out.lt hg7
  have lt_R : 0 < g7 := Nat.lt_of_lt_of_le RT.out.lt hg7
  have le_w : w.heap.size ≤ g7 := Nat.le_trans HB.out.size hg7
  have hcap := ho7.caps.1
  have hcm : c7 ≤ 9223372036854775807 := ho7.caps.2
  have RTn := Lib.hid (RT.out.below b1 RT.out.lt)
  clear RT
  have RT := RTn
  clear RTn
  have K6n := Lib.hid (K6.out.below b1 K6.out.lt)
  clear K6
  have K6 := K6n
  clear K6n
  have HBn := Lib.hid (HB.out.trans (b1.mono HB.out.size))
  clear HB
  have HB := HBn
  clear HBn
  have K7 : Hid (By8 w11 g7 (o + 32) c7 z) := Lib.hid ho7
  clear h7 ho7 hg7 b1
  go_wp2_with (refine wpList_clear (op := ⟨none, _, _, _, _, _⟩) rfl (.tmp 16) rfl g7 (o) 32 _ rfl (by decide) K7.out (by omega) ?_; intro w21 C21 q1 q2; refine Hid.out ?_)
  refine Lib.hid ?_
  have RTn := Lib.hid (RT.out.far q1 (by omega))
  clear RT
  have RT := RTn
  clear RTn
  have K6n := Lib.hid (K6.out.far q1 (by omega))
  clear K6
  have K6 := K6n
  clear K6n
  have HBn := Lib.hid (HB.out.trans (q1.2.1 _ (by omega)))
  clear HB
  have HB := HBn
  clear HBn
  clear K7
  have K7 : Hid (By8 w21 g7 (o + 32) c7 (zapZ z o 32)) := Lib.hid q2
  clear q1 q2
  have hk1 := H18.out.1
  have hk2 := H18.out.2
  go_wp2_with fail
  refine (hmac_own (w0 := w) (HK.out.below HB.out rfl) HA.out K7.out HMM.out (by omega) RT.out).mono ?_
  rintro e w31 ⟨rfl, b1⟩
  have RTn := Lib.hid (RT.out.below b1 RT.out.lt)
  clear RT
  have RT := RTn
  clear RTn
  have K6n := Lib.hid (K6.out.below b1 K6.out.lt)
  clear K6
  have K6 := K6n
  clear K6n
  have K7n := Lib.hid (K7.out.below b1 K7.out.lt)
  clear K7
  have K7 := K7n
  clear K7n
  have HBn := Lib.hid (HB.out.trans (b1.mono HB.out.size))
  clear HB
  have HB := HBn
  clear HBn
  clear b1
  rw [show hmacZ k m (zapZ z o 32) (o + 32) = s from HS.out]
  obtain ⟨N41, hN41⟩ : ∃ N, w31.heap.size = N := ⟨_, rfl⟩
  have HN41 := Lib.hid hN41
  clear hN41
  go_wp2_with (refine wpList_new (op := ⟨some 8, _, _, _, _, _⟩) rfl 26 rfl (bytC 32 fun _ => 0) zero_d N41 HN41.out ?_; intro w41 k1 b1 s1; refine Hid.out ?_)
  refine Lib.hid ?_
  have K8 := Lib.hid k1
  clear k1
  have lt_0_N41 : 0 < N41 := by rw [← HN41.out]; exact RT.out.lt
  have lt_N1_N41 : N1 < N41 := by rw [← HN41.out]; exact K6.out.lt
  have lt_g7_N41 : g7 < N41 := by rw [← HN41.out]; exact K7.out.lt
  have le_HB_N41 : w.heap.size ≤ N41 := by rw [← HN41.out]; exact HB.out.size
  have RTn := Lib.hid (RT.out.below b1 RT.out.lt)
  clear RT
  have RT := RTn
  clear RTn
  have K6n := Lib.hid (K6.out.below b1 K6.out.lt)
  clear K6
  have K6 := K6n
  clear K6n
  have K7n := Lib.hid (K7.out.below b1 K7.out.lt)
  clear K7
  have K7 := K7n
  clear K7n
  have HBn := Lib.hid (HB.out.trans (b1.mono HB.out.size))
  clear HB
  have HB := HBn
  clear HBn
  clear b1 HN41
  go_wp2_with (refine wpList_st rfl 26 (.tmp 8) (.tmp 31) rfl N41 0 rfl (.agg (bytC 32 s)) (bytC 32 s) rfl rfl (info_d _) (byt_one _ _) K8.out (byt_fit _ _ _) (C' := bytC 32 s) (byt_all _ _ _) ?_; intro w42 q1; refine Hid.out ?_)
  refine Lib.hid ?_
  have RTn := Lib.hid (RT.out.far q1 (by omega))
  clear RT
  have RT := RTn
  clear RTn
  have K6n := Lib.hid (K6.out.far q1 (by omega))
  clear K6
  have K6 := K6n
  clear K6n
  have K7n := Lib.hid (K7.out.far q1 (by omega))
  clear K7
  have K7 := K7n
  clear K7n
  have HBn := Lib.hid (HB.out.trans (q1.2.1 _ (by omega)))
  clear HB
  have HB := HBn
  clear HBn
  have K8n : Hid (Blk 26 w42 N41 (bytC 32 s)) := Lib.hid q1.1
  clear K8
  have K8 := K8n
  clear K8n q1
  go_wp2_with (refine wpList_ld (op := ⟨some 33, _, _, _, _, _⟩) (by rfl) 26 (.tmp 8) rfl N41 0 rfl (bytC 32 s) _ K8.out.all Tryd.underlying26 rfl (info_dL _) ?_; refine Hid.out ?_)
  refine Lib.hid ?_
  go_wp2_with (refine wpList_st rfl 26 (.tmp 6) (.tmp 33) rfl N1 0 rfl (.agg (bytC 32 s)) (bytC 32 s) rfl rfl (info_d _) (byt_one _ _) K6.out (byt_fit _ _ _) (C' := bytC 32 s) (byt_all _ _ _) ?_; intro w51 q1; refine Hid.out ?_)
  refine Lib.hid ?_
  have RTn := Lib.hid (RT.out.far q1 (by omega))
  clear RT
  have RT := RTn
  clear RTn
  have K7n := Lib.hid (K7.out.far q1 (by omega))
  clear K7
  have K7 := K7n
  clear K7n
  have K8n := Lib.hid (K8.out.far q1 (by omega))
  clear K8
  have K8 := K8n
  clear K8n
  have HBn := Lib.hid (HB.out.trans (q1.2.1 _ (by omega)))
  clear HB
  have HB := HBn
  clear HBn
  have K6n : Hid (Blk 26 w51 N1 (bytC 32 s)) := Lib.hid q1.1
  clear K6
  have K6 := K6n
  clear K6n q1
  go_wp2_with fail
  exact bodyPost_ret (results_1 rfl _ _ N1 (bytC 32 s) Tryd.underlying26 rfl (info_d _) rfl K6.out) rfl ⟨rfl, HB.out⟩
end Go.Proofs.YtccoicjmmeoggaaDoor

/- mac.Seal: what it answers, for every packet and key. Each theorem states its conditions. -/
namespace Go.Proofs.YtccoicjmmeoggaaDoor
open Go.RowKit
set_option linter.unusedVariables false

/-- a key's cells -/
def keyC (id : Nat) (A : Option Addr) (n c : Nat) : Array Value := #[.int .u16 (id : Int), .slice A n c]
/-- facts that are carried along by what lies below -/
def ByO (w : World) (g n cap : Nat) (z : Nat → Int) : Prop := Own8 w g n cap z
theorem ByO.below {w w' : World} {g n cap : Nat} {z : Nat → Int} (h : ByO w g n cap z) (hb : Below w.heap.size w w') : ByO w' g n cap z := Own8.below h hb (Own8.lt h)
def BlO (t : TypeId) (w : World) (g : Nat) (C : Array Value) : Prop := Blk t w g C
theorem BlO.below {t : TypeId} {w w' : World} {g : Nat} {C : Array Value} (h : BlO t w g C) (hb : Below w.heap.size w w') : BlO t w' g C := Blk.below h hb (Blk.lt h)
def RdO (w : World) (A : Option Addr) (n : Nat) (z : Nat → Int) : Prop := Rd w A n z
theorem RdO.below {w w' : World} {A : Option Addr} {n : Nat} {z : Nat → Int} (h : RdO w A n z) (hb : Below w.heap.size w w') : RdO w' A n z := Rd.below h hb rfl
/-- a slice of some values is made, where it alone may come up -/
theorem takeBsn {ops : Array Oper} {Q : Exit → Act → World → Prop} {md : Region.Mode} {S : World → Prop} {i : Nat} {oi : Oper} (d : Option Tmp) {fuel : Nat} {listed : Array Bool} {a : Act} {w : World} (n : Nat) (t : TypeId) (C : Array Value) (hi : ops[i]? = some oi) (hd : oi.dst = d)
    (hr : Region.ready md ops listed = [i]) (hw : Region.wanted oi (yielded ops a.tmps) = true) (hx : (execOp a.eval oi).run Tryd.prog w = .ok (.value (.slice (some ⟨w.heap.size, 0, none⟩) n n)) (w.alloc (.cells C t))) (N : Nat) (hN : w.heap.size = N)
    (h : ∀ w', Blk t w' N C → Below w.heap.size w w' → N + 1 ≤ w'.heap.size → S w' ∧ wpAnyH Tryd.prog md ops Q S fuel (listed.setIfInBounds i true) (a.put d (.slice (some ⟨N, 0, none⟩) n n)) w') : wpAnyH Tryd.prog md ops Q S (fuel + 1) listed a w := by
  subst hN
  obtain ⟨h1, h2⟩ := h _ (heap_alloc_new w _) ((Below.refl _ _).alloc (Nat.le_refl _) _) (by simp)
  exact takeV d hi hd hr hw hx h1 h2
theorem bs_one (W : World) (o : Oper) (e : Operand → Value) {x0 : Operand} (ho : o.op = .buildSlice 40 1 #[(0, x0)]) (t : It) (h0 : e x0 = .agg (itC t)) :
    (execOp e o).run Tryd.prog W = .ok (.value (.slice (some ⟨W.heap.size, 0, none⟩) 1 1)) (W.alloc (.cells (itC t) 49)) := by
  unfold execOp
  simp only [ho]
  simp only [List.map_toArray, List.map_cons, List.map_nil, h0]
  kernel_rfl
theorem nou_bd : ∀ j, 0 ≤ nou j ∧ nou j ≤ 255 := fun _ => ⟨Int.le_refl 0, by show (0 : Int) ≤ 255; decide⟩
theorem it_ok {w : World} {g c : Nat} {z : Nat → Int} (h : ByO w g 35 c z) : ItOk w ⟨10, some ⟨g, 0, none⟩, 35, c, z⟩ :=
  ⟨⟨by show (0 : Int) ≤ 10; decide, by show (10 : Int) ≤ 255; decide⟩, Own8.rd h, fun e => (by cases e), by show 35 ≤ 140737488351232; decide⟩
/-- the first n alone -/
def cutN (n : Nat) (z : Nat → Int) : Nat → Int := fun j => if j < n then z j else 0
theorem cutN_lt {n j : Nat} (z : Nat → Int) (h : j < n) : cutN n z j = z j := if_pos h
theorem cutN_bd {n : Nat} {z z' : Nat → Int} (he : ∀ j, j < n → z j = z' j) (hz : ∀ j, 0 ≤ z j ∧ z j ≤ 255) : ∀ j, 0 ≤ cutN n z' j ∧ cutN n z' j ≤ 255 := by
  intro j
  unfold cutN
  split
  · rename_i h; rw [← he j h]; exact hz j
  · omega
theorem rd_cutN {w : World} {A : Option Addr} {n : Nat} {z z' : Nat → Int} (h : Rd w A n z) (he : ∀ j, j < n → z j = z' j) : Rd w A n (cutN n z') := by
  have hb := cutN_bd he h.2
  refine ⟨?_, hb⟩
  rcases h.1 with h1 | ⟨b, off, e, hr⟩
  · exact .inl h1
  · exact .inr ⟨b, off, e, hr.1, fun j hj => by rw [cutN_lt _ hj, ← he j hj]; exact hr.2.1 j hj, hb⟩
theorem own8_cut {w : World} {g n c : Nat} {z z' : Nat → Int} (h : Own8 w g n c z) (he : ∀ j, j < n → z j = z' j) : Own8 w g n c (cutN n z') := by
  obtain ⟨⟨cur, h1, h2, h3, h4, h5⟩, h6⟩ := h
  exact ⟨⟨cur, h1, h2, h3, h4, fun j hj => by rw [cutN_lt _ hj, ← he j hj]; exact h5 j hj⟩, cutN_bd he h6⟩
/-- the list with a signature behind it; the packet that has it -/
def slT (L : Nat → It) (m id : Nat) (z : Nat → Int) : Nat → It := addT L m ⟨10, none, 35, 35, sigZ id z⟩
def slP (p : Pd) : Pd := withT p none (p.m + 1) 0
theorem wr_sl (p : Pd) (L : Nat → It) (A : Option Addr) (c id : Nat) (z : Nat → Int) (m0 : Nat) (t : It) (h1 : t.ty = 10) (h2 : t.n = 35) (h3 : t.z = sigZ id z) :
    wrX (withT p A (p.m + 1) c) (addT L p.m t) m0 = wrX (slP p) (slT L p.m id z) m0 ∧ wrN (withT p A (p.m + 1) c) (addT L p.m t) m0 = wrN (slP p) (slT L p.m id z) m0 ∧ ∀ j, j < wrN (slP p) (slT L p.m id z) m0 → wrZ (withT p A (p.m + 1) c) (addT L p.m t) m0 j = wrZ (slP p) (slT L p.m id z) m0 j := by
  have hl : AlikeL (slP p).m (slT L p.m id z) (addT L p.m t) := by
    intro j hj
    have hj' : j < p.m + 1 := hj
    unfold slT
    by_cases h : j < p.m
    · rw [addT_lo _ _ _ _ h, addT_lo _ _ _ _ h]; exact ⟨rfl, rfl, fun _ _ => rfl⟩
    · obtain rfl : j = p.m := by omega
      rw [addT_hi, addT_hi]; exact ⟨h1.symm, h2.symm, fun _ _ => by rw [h3]⟩
  obtain ⟨e1, e2, e3⟩ := wr_like (p := withT p A (p.m + 1) c) (p' := slP p) ⟨rfl, rfl, fun i _ => ⟨rfl, fun W => rfl⟩⟩ (addT L p.m t) m0
  obtain ⟨f1, f2, f3⟩ := wr_items (p := slP p) m0 hl
  exact ⟨by rw [e1, f1], by rw [e2, f2], fun j hj => by rw [e3]; exact f3 j hj⟩
theorem sl_ends {L : Nat → It} {m m0 id : Nat} {z : Nat → Int} (t : It) (h : t.n = 35) (hm : JEnds (slT L m id z) (m + 1) m0) : JEnds (addT L m t) (m + 1) m0 :=
  jends_congr (fun j hj => by
    unfold slT
    by_cases h9 : j < m
    · rw [addT_lo _ _ _ _ h9, addT_lo _ _ _ _ h9]
    · obtain rfl : j = m := by omega
      rw [addT_hi, addT_hi]; exact h.symm) hm
/-- is there a signature? -/
def HasSig (L : Nat → It) (m : Nat) (b : Bool) : Prop := (b = true ∧ ∃ k, AtSig L m k) ∨ (b = false ∧ NoSig L m)
theorem hasSig_eq {L : Nat → It} {m : Nat} {q b : Bool} (h : (q = true ∧ ∃ k, AtSig L m k) ∨ (q = false ∧ NoSig L m)) (hb : HasSig L m b) : q = b := by
  rcases h with ⟨rfl, k, h1, h2, _⟩ | ⟨rfl, h1⟩ <;> rcases hb with ⟨rfl, j, g1, g2, _⟩ | ⟨rfl, g1⟩
  · rfl
  · exact absurd h2 (g1 k h1)
  · exact absurd g2 (h1 j g1)
  · rfl
theorem hasSig_ex (L : Nat → It) (m : Nat) : ∃ b, HasSig L m b := by
  induction m with
  | zero => exact ⟨false, .inr ⟨rfl, fun j hj => by omega⟩⟩
  | succ m ih =>
    obtain ⟨b, hb⟩ := ih
    rcases hb with ⟨rfl, k, h1, h2, h3⟩ | ⟨rfl, h1⟩
    · exact ⟨true, .inl ⟨rfl, k, by omega, h2, h3⟩⟩
    · by_cases h : (L m).ty = 10
      · exact ⟨true, .inl ⟨rfl, m, by omega, h, h1⟩⟩
      · exact ⟨false, .inr ⟨rfl, noSig_next h1 (by simpa using h)⟩⟩
/-- what Seal says; how many bytes; which -/
def seX (p : Pd) (L : Nat → It) (m0 id sn : Nat) (b : Bool) : Int := if b = true then lea (lea (wrX (slP p) (slT L p.m id nou) m0) (secE sn)) 3 else lea (wrX (slP p) (slT L p.m id nou) m0) (secE sn)
def seM (p : Pd) (L : Nat → It) (m0 id : Nat) (k : Nat → Int) (sn : Nat) : Nat → Int :=
  hmacZ k sn (blkZ (p.kd = 18 ∨ p.kd = 20) (cutN (wrN (slP p) (slT L p.m id nou) m0) (wrZ (slP p) (slT L p.m id nou) m0)) (wrN (slP p) (slT L p.m id nou) m0)) (wrN (slP p) (slT L p.m id nou) m0)
def seN (p : Pd) (L : Nat → It) (m0 id sn : Nat) (b : Bool) : Nat := if seX p L m0 id sn b = 0 then wrN (slP p) (slT L p.m id nou) m0 else 0
def seZ (p : Pd) (L : Nat → It) (m0 id : Nat) (k : Nat → Int) (sn : Nat) (b : Bool) : Nat → Int := if seX p L m0 id sn b = 0 then cutN (wrN (slP p) (slT L p.m id nou) m0) (wrZ (slP p) (slT L p.m id (seM p L m0 id k sn)) m0) else fun _ => 0
theorem wr_err {w w' : World} {p : Pd} {L : Nat → It} {m0 id sn : Nat} {k : Nat → Int} {b : Bool} {X : Int} {e : Ending} (hX : seX p L m0 id sn b = X) (h0 : X ≠ 0) (he : e = .returned (.tuple #[.slice none 0 0, .int .i64 X])) (hb : Below w.heap.size w w') : WrP w (seN p L m0 id sn b) (seX p L m0 id sn b) (seZ p L m0 id k sn b) e w' := by
  unfold seN seZ
  rw [hX, if_neg h0, if_neg h0]
  exact wr_none h0 he hb
theorem lea_zero {a b : Int} (h : lea a b = 0) : a = 0 ∧ b = 0 := by
  unfold lea at h
  split at h
  · exact ⟨by assumption, h⟩
  · split at h
    · omega
    · split at h <;> omega
theorem secE_zero {n : Nat} (h : secE n = 0) : 0 < n ∧ n ≤ 64 := by
  unfold secE at h
  split at h
  · omega
  · split at h <;> omega
/-- what hangs on the size alone -/
theorem slT_z (p : Pd) (L : Nat → It) (m0 id : Nat) (z z' : Nat → Int) : wrX (slP p) (slT L p.m id z) m0 = wrX (slP p) (slT L p.m id z') m0 ∧ wrN (slP p) (slT L p.m id z) m0 = wrN (slP p) (slT L p.m id z') m0 := by
  have hs : sz (slT L p.m id z) (p.m + 1) = sz (slT L p.m id z') (p.m + 1) := sz_congr (m := p.m + 1) (fun j hj => by
    unfold slT
    by_cases h9 : j < p.m
    · rw [addT_lo _ _ _ _ h9, addT_lo _ _ _ _ h9]
    · obtain rfl : j = p.m := by omega
      rw [addT_hi, addT_hi]) (p.m + 1) (Nat.le_refl _)
  have hm : (slP p).m = p.m + 1 := rfl
  have e1 : wrX (slP p) (slT L p.m id z) m0 = wrX (slP p) (slT L p.m id z') m0 := by unfold wrX; rw [hm, hs]
  exact ⟨e1, by unfold wrN; rw [e1, hm, hs]⟩
theorem sl_54 {p : Pd} {L : Nat → It} {m0 id : Nat} {z : Nat → Int} (h : wrX (slP p) (slT L p.m id z) m0 = 0) : 54 ≤ wrN (slP p) (slT L p.m id z) m0 := by
  unfold wrN
  rw [if_pos h]
  have hc := cls_le (slP p).kd
  have h5 : ¬ cls (slP p).kd = 5 := fun h5 => by rw [(wr_1 _ _ m0 (.inl h5)).1] at h; exact absurd h (by decide)
  have := hdN_bd (cls (slP p).kd) (by omega)
  have e : sz (slT L p.m id z) (p.m + 1) = sz (slT L p.m id z) p.m + ((slT L p.m id z p.m).n + 2) := by simp only [sz]; omega
  have e2 : (slT L p.m id z p.m).n = 35 := by unfold slT; rw [addT_hi]
  have e3 : sz (slT L p.m id z) (slP p).m = sz (slT L p.m id z) (p.m + 1) := rfl
  omega
theorem macOf_any (B : Option Addr) (n c : Nat) (z : Nat → Int) (kd : Int) (A : Option Addr) (m ck : Nat) (k : Nat → Int) (w : World) (hB : Rd w B n z) (hBn : B = none → n = 0 ∧ c = 0) (hn : 54 ≤ n) (hn2 : n ≤ 1492) (hk : Rd w A m k) (hA : A = none → m = 0 ∧ ck = 0) (hm : m ≤ 64) (hg : Rts w 0) :
    Calls Tryd.prog 41 #[.slice B n c, .int .u8 kd, .slice A m ck] w fun e w' => e = .returned (.agg (bytC 32 (hmacZ k m (blkZ (kd = 18 ∨ kd = 20) z n) n))) ∧ Below w.heap.size w w' := by
  by_cases h : kd = 18 ∨ kd = 20
  · unfold blkZ
    rw [if_pos h]
    exact macOf_2 B n c z kd A m ck k w h hB hBn hn hn2 hk hA hm hg
  · unfold blkZ
    rw [if_neg h]
    exact macOf_0 B n c z kd A m ck k w (fun e => h (.inl e)) (fun e => h (.inr e)) hB hBn hn hn2 hk hA hm hg
/-- answers, told as values -/
def SigV (w : World) (id : Nat) (z : Nat → Int) (v : Value) (w' : World) : Prop := ∃ g c, v = .agg (itC ⟨10, some ⟨g, 0, none⟩, 35, c, sigZ id z⟩) ∧ w.heap.size ≤ g ∧ Own8 w' g 35 c (sigZ id z) ∧ 35 ≤ c ∧ c ≤ maxLen ∧ Below w.heap.size w w'
theorem SigP.v {w w' : World} {id : Nat} {z : Nat → Int} {e : Ending} (h : SigP w id z e w') : ∃ v, e = .returned v ∧ SigV w id z v w' := by
  obtain ⟨g, c, rfl, h⟩ := h
  exact ⟨_, rfl, g, c, rfl, h⟩
def WithV (w : World) (p : Pd) (L : Nat → It) (t : It) (v : Value) (w' : World) : Prop := ∃ g c, v = .agg (pdC (withT p (some ⟨g, 0, none⟩) (p.m + 1) c)) ∧ w.heap.size ≤ g ∧ RdT w' (some ⟨g, 0, none⟩) (p.m + 1) (addT L p.m t) ∧ p.m + 1 ≤ c ∧ c ≤ maxLen ∧ Below w.heap.size w w'
theorem WithP.v {w w' : World} {p : Pd} {L : Nat → It} {t : It} {e : Ending} (h : WithP w p L t e w') : ∃ v, e = .returned v ∧ WithV w p L t v w' := by
  obtain ⟨g, c, rfl, h⟩ := h
  exact ⟨_, rfl, g, c, rfl, h⟩
def VrP (w : World) (n : Nat) (X : Int) (z : Nat → Int) (v : Value) (w' : World) : Prop :=
  ∃ A c, v = .tuple #[.slice A n c, .int .i64 X] ∧ Rd w' A n z ∧ n ≤ c ∧ c ≤ maxLen ∧ Below w.heap.size w w' ∧ (X = 0 → ∃ g, A = some ⟨g, 0, none⟩ ∧ w.heap.size ≤ g ∧ Own8 w' g n c z)
theorem WrP.vr {w w' : World} {n N : Nat} {X X' : Int} {z z' Z : Nat → Int} {e : Ending} {n' : Nat} {X2 : Int} (h : WrP w n X z e w') (he : X = X2 ∧ n = n' ∧ ∀ j, j < n' → z j = z' j) (hX : X2 = X') (hN : n' = N) (hZ : cutN N z' = Z) : ∃ v, e = .returned v ∧ VrP w N X' Z v w' := by
  obtain ⟨e1, e2, e3⟩ := he
  subst hX hN hZ e1 e2
  obtain ⟨A, c, rfl, h1, h2, h3, h4, h5⟩ := h
  exact ⟨_, rfl, A, c, rfl, rd_cutN h1 e3, h2, h3, h4, fun h => (h5 h).elim fun g h => ⟨g, h.1, h.2.1, own8_cut h.2.2 e3⟩⟩
theorem sl_x {p : Pd} {L : Nat → It} {m0 id : Nat} {z z' : Nat → Int} (h : wrX (slP p) (slT L p.m id z) m0 = 0) : wrX (slP p) (slT L p.m id z') m0 = 0 := (slT_z p L m0 id z' z).1.trans h
theorem sl_n {p : Pd} {L : Nat → It} {m0 id sn : Nat} {z : Nat → Int} (h : wrX (slP p) (slT L p.m id nou) m0 = 0) (h0 : seX p L m0 id sn false = 0) : wrN (slP p) (slT L p.m id z) m0 = seN p L m0 id sn false := by
  unfold seN
  rw [if_pos h0]
  exact (slT_z p L m0 id z nou).2
theorem sl_z {p : Pd} {L : Nat → It} {m0 id sn N1 : Nat} {k Z1 M : Nat → Int} (h0 : seX p L m0 id sn false = 0) (hx : wrX (slP p) (slT L p.m id nou) m0 = 0) (hN : wrN (slP p) (slT L p.m id nou) m0 = N1) (hZ : cutN N1 (wrZ (slP p) (slT L p.m id nou) m0) = Z1) (hM : hmacZ k sn (blkZ (p.kd = 18 ∨ p.kd = 20) Z1 N1) N1 = M) :
    cutN (seN p L m0 id sn false) (wrZ (slP p) (slT L p.m id M) m0) = seZ p L m0 id k sn false := by
  unfold seN seZ seM
  rw [if_pos h0, if_pos h0, hN, hZ, hM]
set_option maxHeartbeats 40000000 in
set_option maxRecDepth 100000 in
theorem seal_any (p : Pd) (hp : PdOk p) (L : Nat → It) (m0 id : Nat) (A : Option Addr) (sn sc : Nat) (k : Nat → Int) (b : Bool) (hm : JEnds (slT L p.m id nou) (p.m + 1) m0) (w : World) (hR : RdT w p.A p.m L) (hA : p.A = none → p.m = 0 ∧ p.c = 0) (h32 : p.m * 32 ≤ 140737488351232)
    (hid : id ≤ 65535) (hk : Rd w A sn k) (hkA : A = none → sn = 0 ∧ sc = 0) (hb : HasSig L p.m b) (hg : Rts w 0) :
    Calls Tryd.prog 18 #[.agg (pdC p), .agg (keyC id A sn sc)] w (WrP w (seN p L m0 id sn b) (seX p L m0 id sn b) (seZ p L m0 id k sn b)) := by
  have HP := Lib.hid hp
  have HM := Lib.hid hm
  have HR := Lib.hid hR
  have HA := Lib.hid hA
  have H32 := Lib.hid h32
  have HID := Lib.hid hid
  have HK := Lib.hid hk
  have HKA := Lib.hid hkA
  have HBB := Lib.hid hb
  have RT := Lib.hid hg
  have hg9 := hg.2
  obtain ⟨Xu, hXu⟩ : ∃ X, wrX (slP p) (slT L p.m id nou) m0 = X := ⟨_, rfl⟩
  have bX := wrX_bd (slP p) (slT L p.m id nou) m0
  rw [hXu] at bX
  obtain ⟨Nu, hNu⟩ : ∃ N, wrN (slP p) (slT L p.m id nou) m0 = N := ⟨_, rfl⟩
  have bN := wrN_le (slP p) (slT L p.m id nou) m0
  rw [hNu] at bN
  obtain ⟨Zu, hZu⟩ : ∃ Z, cutN Nu (wrZ (slP p) (slT L p.m id nou) m0) = Z := ⟨_, rfl⟩
  have HXu := Lib.hid hXu
  have HNu := Lib.hid hNu
  have HZu := Lib.hid hZu
  have BX := Lib.hid bX
  have BN := Lib.hid bN
  have hid2 : (0 : Int) ≤ (id : Int) ∧ (id : Int) ≤ 65535 := ⟨by omega, by omega⟩
  clear hp hm hR hA h32 hid hk hkA hb hg hXu hNu hZu bX bN
  go_enter Tryd.func18, Tryd.ntmps18
  have HB := Lib.hid (Below.refl w.heap.size w)
  obtain ⟨N1, hN1⟩ : ∃ N, w.heap.size = N := ⟨_, rfl⟩
  have HN1 := Lib.hid hN1
  clear hN1
  go_wp2_with (refine wpList_box (op := ⟨some 2, _, _, _, _, _⟩) rfl 46 (.tmp 0) rfl (pdC p) rfl N1 HN1.out ?_; intro w1 k1 b1 s1; refine Hid.out ?_)
  refine Lib.hid ?_
  have KP := Lib.hid k1
  clear k1
  have lt_0_N1 : 0 < N1 := by rw [← HN1.out]; exact RT.out.lt
  have le_HB_N1 : w.heap.size ≤ N1 := by rw [← HN1.out]; exact HB.out.size
  have RTn := Lib.hid (RT.out.below b1 RT.out.lt)
  clear RT
  have RT := RTn
  clear RTn
  have HBn := Lib.hid (HB.out.trans (b1.mono HB.out.size))
  clear HB
  have HB := HBn
  clear HBn
  clear b1 HN1
  obtain ⟨N2, hN2⟩ : ∃ N, w1.heap.size = N := ⟨_, rfl⟩
  have HN2 := Lib.hid hN2
  clear hN2
  go_wp2_with (refine wpList_box (op := ⟨some 3, _, _, _, _, _⟩) rfl 45 (.tmp 1) rfl (keyC id A sn sc) rfl N2 HN2.out ?_; intro w2 k1 b1 s1; refine Hid.out ?_)
  refine Lib.hid ?_
  have KK := Lib.hid k1
  clear k1
  have lt_0_N2 : 0 < N2 := by rw [← HN2.out]; exact RT.out.lt
  have lt_N1_N2 : N1 < N2 := by rw [← HN2.out]; exact KP.out.lt
  have le_HB_N2 : w.heap.size ≤ N2 := by rw [← HN2.out]; exact HB.out.size
  have RTn := Lib.hid (RT.out.below b1 RT.out.lt)
  clear RT
  have RT := RTn
  clear RTn
  have KPn := Lib.hid (KP.out.below b1 KP.out.lt)
  clear KP
  have KP := KPn
  clear KPn
  have HBn := Lib.hid (HB.out.trans (b1.mono HB.out.size))
  clear HB
  have HB := HBn
  clear HBn
  clear b1 HN2
  go_wp2_with fail
  refine wp_region_held_drew (S := fun w' => Rts w' 0  ∧ Blk 46 w' N1 (pdC p) ∧ Blk 45 w' N2 (keyC id A sn sc) ∧ Below w.heap.size w w') (by kernel_rfl) ⟨RT.out, KP.out, KK.out, HB.out.drew⟩ (fun hS => ?_)
  generalize hW3 : w2.drew = W3 at hS  ⊢
  clear hW3
  clear RT
  clear KP
  clear KK
  clear HB
  have RT := Lib.hid hS.1
  have KP := Lib.hid hS.2.1
  have KK := Lib.hid hS.2.2.1
  have HB := Lib.hid hS.2.2.2
  refine takeL (i := 0) (some 9) 46 (.tmp 2) N1 0 (pdC p) _ rfl rfl (by kernel_rfl) (by kernel_rfl) (by kernel_rfl) (fun _ _ _ h => h) (by rfl) rfl rfl (fun w' hS => hS.2.1.all) Tryd.underlying46 rfl info_pdP hS ?_
  simp only [Act.put, List.setIfInBounds_toArray, List.set_cons_zero, List.set_cons_succ]
  refine takeY (i := 1) (some 10) (v := .pointer (some ⟨N2, 0, none⟩)) rfl rfl (by kernel_rfl) (by kernel_rfl) (by kernel_rfl) (fun _ _ _ h => h) (by rfl) (fun w' hS => by go_simp) hS ?_
  simp only [Act.put, List.setIfInBounds_toArray, List.set_cons_zero, List.set_cons_succ]
  refine takeY (i := 2) (some 11) (v := .int .u16 (id : Int)) rfl rfl (by kernel_rfl) (by kernel_rfl) (by kernel_rfl) (fun _ _ _ h => h) (by rfl) (fun w' hS => by (have c9 : w'.cell? ⟨N2, 0, none⟩ = some (.int .u16 (id : Int)) := (hS.2.2.1.cell 0).trans rfl; clear hS; go_simp)) hS ?_
  simp only [Act.put, List.setIfInBounds_toArray, List.set_cons_zero, List.set_cons_succ]
  refine takeY (i := 3) (some 12) (v := .agg (bytC 32 nou)) rfl rfl (by kernel_rfl) (by kernel_rfl) (by kernel_rfl) (fun _ _ _ h => h) (by rfl) (fun w' hS => by exact build_d0 _ _ rfl _) hS ?_
  simp only [Act.put, List.setIfInBounds_toArray, List.set_cons_zero, List.set_cons_succ]
  refine takeCE (i := 4) (some 13) 36 #[.int .u16 (id : Int), .agg (bytC 32 (nou))] (R := fun v w' => SigV W3 id (nou) v w') rfl rfl (by kernel_rfl) (by rfl) (by go_simp) ((signature_any id (nou) W3 HID.out nou_bd).mono fun e w' h => h.v) (fun v w' h => by obtain ⟨gs, cs, rfl, hgs, hos, hcs, hcm, hbs⟩ := h; exact ⟨hS.1.below hbs hS.1.lt, hS.2.1.below hbs hS.2.1.lt, hS.2.2.1.below hbs hS.2.2.1.lt, hS.2.2.2.trans (hbs.mono hS.2.2.2.size)⟩) (fun v W4 h hS2 => ?_)
  obtain ⟨gs, cs, rfl, hgs, hos, hcs, hcm, hbs⟩ := h
  clear hS2
  simp only [Act.put, List.setIfInBounds_toArray, List.set_cons_zero, List.set_cons_succ]
  have HGS1 : Hid (W3.heap.size ≤ gs) := Lib.hid hgs
  have KS : Hid (ByO W4 gs 35 cs (sigZ id (nou))) := Lib.hid hos
  have HCS := Lib.hid (And.intro hcs hcm)
  clear hos hcs hcm hgs
  have RTn := Lib.hid (RT.out.below hbs RT.out.lt)
  clear RT
  have RT := RTn
  clear RTn
  have KPn := Lib.hid (KP.out.below hbs KP.out.lt)
  clear KP
  have KP := KPn
  clear KPn
  have KKn := Lib.hid (KK.out.below hbs KK.out.lt)
  clear KK
  have KK := KKn
  clear KKn
  have HBn := Lib.hid (HB.out.trans (hbs.mono HB.out.size))
  clear HB
  have HB := HBn
  clear HBn
  clear hbs hS
  have hS := (And.intro RT.out (And.intro KP.out (And.intro KK.out HB.out)))
  obtain ⟨N5, hN5⟩ : ∃ N, W4.heap.size = N := ⟨_, rfl⟩
  have HN5 := Lib.hid hN5
  clear hN5
  refine takeBsn (i := 5) (some 14) 1 49 (itC ⟨10, some ⟨gs, 0, none⟩, 35, cs, sigZ id (nou)⟩) rfl rfl (by kernel_rfl) (by rfl) (bs_one _ _ _ rfl ⟨10, some ⟨gs, 0, none⟩, 35, cs, sigZ id (nou)⟩ rfl) N5 HN5.out (fun W5 k1 b1 s1 => ⟨⟨hS.1.below b1 hS.1.lt, hS.2.1.below b1 hS.2.1.lt, hS.2.2.1.below b1 hS.2.2.1.lt, hS.2.2.2.trans (b1.mono hS.2.2.2.size)⟩, ?_⟩)
  simp only [Act.put, List.setIfInBounds_toArray, List.set_cons_zero, List.set_cons_succ]
  have KT : Hid (BlO 49 W5 N5 (itC ⟨10, some ⟨gs, 0, none⟩, 35, cs, sigZ id (nou)⟩)) := Lib.hid k1
  clear k1
  have KSn := Lib.hid (KS.out.below b1)
  clear KS
  have KS := KSn
  clear KSn
  have RTn := Lib.hid (RT.out.below b1 RT.out.lt)
  clear RT
  have RT := RTn
  clear RTn
  have KPn := Lib.hid (KP.out.below b1 KP.out.lt)
  clear KP
  have KP := KPn
  clear KPn
  have KKn := Lib.hid (KK.out.below b1 KK.out.lt)
  clear KK
  have KK := KKn
  clear KKn
  have HBn := Lib.hid (HB.out.trans (b1.mono HB.out.size))
  clear HB
  have HB := HBn
  clear HBn
  clear b1 hS HN5
  have hS := (And.intro RT.out (And.intro KP.out (And.intro KK.out HB.out)))
  have HIT : Hid (ItOk W5 ⟨10, some ⟨gs, 0, none⟩, 35, cs, sigZ id (nou)⟩) := Lib.hid (it_ok KS.out)
  have HRW := Lib.hid (HR.out.below HB.out)
  refine takeCE (i := 6) (some 15) 35 #[.agg (pdC p), .slice (some ⟨N5, 0, none⟩) 1 1] (R := fun v w' => WithV W5 p L ⟨10, some ⟨gs, 0, none⟩, 35, cs, sigZ id (nou)⟩ v w') rfl rfl (by kernel_rfl) (by rfl) (by go_simp) ((with_any p L ⟨10, some ⟨gs, 0, none⟩, 35, cs, sigZ id (nou)⟩ N5 W5 HRW.out HA.out H32.out KT.out HIT.out).mono fun e w' h => h.v) (fun v w' h => by obtain ⟨g9, c9, rfl, hg9, hl9, hc9, hm9, hb9⟩ := h; exact ⟨hS.1.below hb9 hS.1.lt, hS.2.1.below hb9 hS.2.1.lt, hS.2.2.1.below hb9 hS.2.2.1.lt, hS.2.2.2.trans (hb9.mono hS.2.2.2.size)⟩) (fun v W6 h hS2 => ?_)
  obtain ⟨g9, c9, rfl, hg9, hl9, hc9, hm9, hb9⟩ := h
  clear hS2
  simp only [Act.put, List.setIfInBounds_toArray, List.set_cons_zero, List.set_cons_succ]
  have HL9 : Hid (RdT W6 (some ⟨g9, 0, none⟩) (p.m + 1) (addT L p.m ⟨10, some ⟨gs, 0, none⟩, 35, cs, sigZ id (nou)⟩)) := Lib.hid hl9
  have HC9 := Lib.hid (And.intro hc9 hm9)
  clear hl9 hc9 hm9 hg9 HIT HRW KT
  have KSn := Lib.hid (KS.out.below hb9)
  clear KS
  have KS := KSn
  clear KSn
  have RTn := Lib.hid (RT.out.below hb9 RT.out.lt)
  clear RT
  have RT := RTn
  clear RTn
  have KPn := Lib.hid (KP.out.below hb9 KP.out.lt)
  clear KP
  have KP := KPn
  clear KPn
  have KKn := Lib.hid (KK.out.below hb9 KK.out.lt)
  clear KK
  have KK := KKn
  clear KKn
  have HBn := Lib.hid (HB.out.trans (hb9.mono HB.out.size))
  clear HB
  have HB := HBn
  clear HBn
  clear hb9 hS
  have hS := (And.intro RT.out (And.intro KP.out (And.intro KK.out HB.out)))
  have HEQ := Lib.hid (wr_sl p L (some ⟨g9, 0, none⟩) c9 id (nou) m0 ⟨10, some ⟨gs, 0, none⟩, 35, cs, sigZ id (nou)⟩ rfl rfl rfl)
  have HIN : Hid (PdIn W6 (withT p (some ⟨g9, 0, none⟩) (p.m + 1) c9) (addT L p.m ⟨10, some ⟨gs, 0, none⟩, 35, cs, sigZ id (nou)⟩)) := Lib.hid ⟨HL9.out, HC9.out.1, HC9.out.2⟩
  have HJ : Hid (JEnds (addT L p.m ⟨10, some ⟨gs, 0, none⟩, 35, cs, sigZ id (nou)⟩) (p.m + 1) m0) := Lib.hid (sl_ends ⟨10, some ⟨gs, 0, none⟩, 35, cs, sigZ id (nou)⟩ rfl HM.out)
  refine takeCE (i := 7) (some 16) 28 #[.agg (pdC (withT p (some ⟨g9, 0, none⟩) (p.m + 1) c9))] (R := fun v w' => VrP W6 Nu Xu Zu v w') rfl rfl (by kernel_rfl) (by rfl) (by go_simp) ((write_any (withT p (some ⟨g9, 0, none⟩) (p.m + 1) c9) HP.out (addT L p.m ⟨10, some ⟨gs, 0, none⟩, 35, cs, sigZ id (nou)⟩) m0 HJ.out W6 HIN.out).mono fun e w' h => h.vr HEQ.out HXu.out HNu.out HZu.out) (fun v w' h => by obtain ⟨AU, cu, rfl, hu1, hu2, hu3, hb7, hu4⟩ := h; exact ⟨hS.1.below hb7 hS.1.lt, hS.2.1.below hb7 hS.2.1.lt, hS.2.2.1.below hb7 hS.2.2.1.lt, hS.2.2.2.trans (hb7.mono hS.2.2.2.size)⟩) (fun v W7 h hS2 => ?_)
  obtain ⟨AU, cu, rfl, hu1, hu2, hu3, hb7, hu4⟩ := h
  clear hS2
  simp only [Act.put, List.setIfInBounds_toArray, List.set_cons_zero, List.set_cons_succ]
  have HU : Hid (RdO W7 AU Nu Zu) := Lib.hid hu1
  have HUC := Lib.hid (And.intro hu2 hu3)
  have HUA : Hid (Xu = 0 → ∃ g, AU = some ⟨g, 0, none⟩) := Lib.hid (fun h => (hu4 h).elim fun g h => ⟨g, h.1⟩)
  clear hu1 hu2 hu3 hu4 HEQ HIN HJ HL9 HC9 KS
  have RTn := Lib.hid (RT.out.below hb7 RT.out.lt)
  clear RT
  have RT := RTn
  clear RTn
  have KPn := Lib.hid (KP.out.below hb7 KP.out.lt)
  clear KP
  have KP := KPn
  clear KPn
  have KKn := Lib.hid (KK.out.below hb7 KK.out.lt)
  clear KK
  have KK := KKn
  clear KKn
  have HBn := Lib.hid (HB.out.trans (hb7.mono HB.out.size))
  clear HB
  have HB := HBn
  clear HBn
  clear hb7 hS
  have hS := (And.intro RT.out (And.intro KP.out (And.intro KK.out HB.out)))
  refine takeY (i := 8) (some 8) (v := .tuple #[.slice AU Nu cu, .int .i64 Xu]) rfl rfl (by kernel_rfl) (by kernel_rfl) (by kernel_rfl) (fun _ _ _ h => h) (by rfl) (fun w' hS => by go_simp) hS ?_
  simp only [Act.put, List.setIfInBounds_toArray, List.set_cons_zero, List.set_cons_succ]
  refine takeY (i := 9) (some 17) (v := .slice AU Nu cu) rfl rfl (by kernel_rfl) (by kernel_rfl) (by kernel_rfl) (fun _ _ _ h => h) (by rfl) (fun w' hS => by go_simp) hS ?_
  simp only [Act.put, List.setIfInBounds_toArray, List.set_cons_zero, List.set_cons_succ]
  refine takeY (i := 10) (some 18) (v := .int .i64 Xu) rfl rfl (by kernel_rfl) (by kernel_rfl) (by kernel_rfl) (fun _ _ _ h => h) (by rfl) (fun w' hS => by go_simp) hS ?_
  simp only [Act.put, List.setIfInBounds_toArray, List.set_cons_zero, List.set_cons_succ]
  refine takeY (i := 11) (some 6) (v := .slice AU Nu cu) rfl rfl (by kernel_rfl) (by kernel_rfl) (by kernel_rfl) (fun _ _ _ h => h) (by rfl) (fun w' hS => by go_simp) hS ?_
  simp only [Act.put, List.setIfInBounds_toArray, List.set_cons_zero, List.set_cons_succ]
  refine takeY (i := 12) (some 7) (v := .int .i64 Xu) rfl rfl (by kernel_rfl) (by kernel_rfl) (by kernel_rfl) (fun _ _ _ h => h) (by rfl) (fun w' hS => by go_simp) hS ?_
  simp only [Act.put, List.setIfInBounds_toArray, List.set_cons_zero, List.set_cons_succ]
  clear hS
  refine wpAnyH_done (by kernel_rfl) ?_ _
  have ck : W7.cell? ⟨N2, 1, none⟩ = some (.slice A sn sc) := (KK.out.cell 1).trans rfl
  have cp : W7.cell? ⟨N1, 46, none⟩ = some (.slice p.A p.m p.c) := (KP.out.cell 46).trans (pd_46 p)
  go_wp2_with fail
  refine (secret_any A sn sc W7).mono ?_
  rintro e w90 ⟨rfl, rfl⟩
  go_wp2_with fail
  have BS := secE_bd sn
  refine (least_any Xu (secE sn) w90 (by have := BX.out; omega) (by omega)).mono ?_
  rintro e w91 ⟨rfl, rfl⟩
  have BL := lea_bd (a := Xu) (b := secE sn) (by have := BX.out; omega) (by omega)
  clear BS
  obtain ⟨X2, hX2⟩ : ∃ X, lea Xu (secE sn) = X := ⟨_, rfl⟩
  rw [hX2] at BL
  rw [hX2]
  have HX2 := Lib.hid hX2
  have BLH := Lib.hid BL
  clear hX2 BL
  go_wp2_with fail
  refine (conS_any p.A p.m p.c L w91 (HR.out.below HB.out) (by have := H32.out; omega)).mono ?_
  rintro e w92 ⟨q, rfl, hq, b1⟩
  obtain rfl : q = b := hasSig_eq hq HBB.out
  clear hq ck cp
  have RTn := Lib.hid (RT.out.below b1 RT.out.lt)
  clear RT
  have RT := RTn
  clear RTn
  have KPn := Lib.hid (KP.out.below b1 KP.out.lt)
  clear KP
  have KP := KPn
  clear KPn
  have KKn := Lib.hid (KK.out.below b1 KK.out.lt)
  clear KK
  have KK := KKn
  clear KKn
  have HUn := Lib.hid (HU.out.below b1)
  clear HU
  have HU := HUn
  clear HUn
  have HBn := Lib.hid (HB.out.trans (b1.mono HB.out.size))
  clear HB
  have HB := HBn
  clear HBn
  clear b1
  cases q with
  | true =>
    go_wp2_with fail
    refine (least_any X2 3 w92 BLH.out (by decide)).mono ?_
    rintro e w93 ⟨rfl, rfl⟩
    obtain ⟨X3, hX3⟩ : ∃ X, lea X2 3 = X := ⟨_, rfl⟩
    have hE : Hid (seX p L m0 id sn true = X3) := Lib.hid (by unfold seX; rw [HXu.out, HX2.out]; exact hX3)
    have h0 : X3 ≠ 0 := by rw [← hX3]; have := BLH.out; unfold lea; (repeat' split) <;> omega
    have hX0 : (X3 != 0) = true := by simpa using h0
    rw [hX3]
    have H0 := Lib.hid h0
    clear hX3 h0
    go_wp2_with fail
    go_ret2
    exact wr_err hE.out H0.out rfl HB.out
  | false =>
    have hE : Hid (seX p L m0 id sn false = X2) := Lib.hid (by unfold seX; rw [HXu.out, HX2.out]; rfl)
    by_cases h0 : X2 = 0
    · obtain ⟨h1, h2⟩ := lea_zero (HX2.out.trans h0)
      have hX0 : (X2 != 0) = false := by simp [h0]
      have HE0 : Hid (seX p L m0 id sn false = 0) := Lib.hid (hE.out.trans h0)
      have HX0 : Hid (wrX (slP p) (slT L p.m id nou) m0 = 0) := Lib.hid (HXu.out.trans h1)
      obtain ⟨gu, eu⟩ := HUA.out h1
      subst eu
      have HSN : Hid (0 < sn ∧ sn ≤ 64) := Lib.hid (secE_zero h2)
      have HN54 : Hid (54 ≤ Nu) := Lib.hid (by rw [← HNu.out]; exact sl_54 HX0.out)
      clear h0 h1 h2 hE HUA
      go_wp2_with fail
      have HUd : Hid (RdO w92.drew (some ⟨gu, 0, none⟩) Nu Zu) := Lib.hid HU.out
      clear HU
      refine wp_region_held_drew (S := fun w' => Rts w' 0  ∧ Blk 46 w' N1 (pdC p) ∧ Blk 45 w' N2 (keyC id A sn sc) ∧ Below w.heap.size w w') (by kernel_rfl) ⟨RT.out, KP.out, KK.out, HB.out.drew⟩ (fun hS => ?_)
      generalize hW101 : w92.drew = W101 at hS HUd ⊢
      clear hW101
      clear RT
      clear KP
      clear KK
      clear HB
      have HU := HUd
      clear HUd
      have RT := Lib.hid hS.1
      have KP := Lib.hid hS.2.1
      have KK := Lib.hid hS.2.2.1
      have HB := Lib.hid hS.2.2.2
      refine takeL (i := 0) (some 32) 46 (.tmp 2) N1 0 (pdC p) _ rfl rfl (by kernel_rfl) (by kernel_rfl) (by kernel_rfl) (fun _ _ _ h => h) (by rfl) rfl rfl (fun w' hS => hS.2.1.all) Tryd.underlying46 rfl info_pdP hS ?_
      simp only [Act.put, List.setIfInBounds_toArray, List.set_cons_zero, List.set_cons_succ]
      refine takeY (i := 1) (some 33) (v := .pointer (some ⟨N2, 0, none⟩)) rfl rfl (by kernel_rfl) (by kernel_rfl) (by kernel_rfl) (fun _ _ _ h => h) (by rfl) (fun w' hS => by go_simp) hS ?_
      simp only [Act.put, List.setIfInBounds_toArray, List.set_cons_zero, List.set_cons_succ]
      refine takeY (i := 2) (some 34) (v := .int .u16 (id : Int)) rfl rfl (by kernel_rfl) (by kernel_rfl) (by kernel_rfl) (fun _ _ _ h => h) (by rfl) (fun w' hS => by (have c9 : w'.cell? ⟨N2, 0, none⟩ = some (.int .u16 (id : Int)) := (hS.2.2.1.cell 0).trans rfl; clear hS; go_simp)) hS ?_
      simp only [Act.put, List.setIfInBounds_toArray, List.set_cons_zero, List.set_cons_succ]
      refine takeY (i := 3) (some 35) (v := .slice (some ⟨gu, 0, none⟩) Nu cu) rfl rfl (by kernel_rfl) (by kernel_rfl) (by kernel_rfl) (fun _ _ _ h => h) (by rfl) (fun w' hS => by go_simp) hS ?_
      simp only [Act.put, List.setIfInBounds_toArray, List.set_cons_zero, List.set_cons_succ]
      refine takeY (i := 4) (some 36) (v := .pointer (some ⟨N1, 0, none⟩)) rfl rfl (by kernel_rfl) (by kernel_rfl) (by kernel_rfl) (fun _ _ _ h => h) (by rfl) (fun w' hS => by go_simp) hS ?_
      simp only [Act.put, List.setIfInBounds_toArray, List.set_cons_zero, List.set_cons_succ]
      refine takeY (i := 5) (some 37) (v := .int .u8 p.kd) rfl rfl (by kernel_rfl) (by kernel_rfl) (by kernel_rfl) (fun _ _ _ h => h) (by rfl) (fun w' hS => by (have c9 : w'.cell? ⟨N1, 0, none⟩ = some (.int .u8 p.kd) := (hS.2.1.cell 0).trans rfl; clear hS; go_simp)) hS ?_
      simp only [Act.put, List.setIfInBounds_toArray, List.set_cons_zero, List.set_cons_succ]
      refine takeY (i := 6) (some 38) (v := .pointer (some ⟨N2, 1, none⟩)) rfl rfl (by kernel_rfl) (by kernel_rfl) (by kernel_rfl) (fun _ _ _ h => h) (by rfl) (fun w' hS => by go_simp) hS ?_
      simp only [Act.put, List.setIfInBounds_toArray, List.set_cons_zero, List.set_cons_succ]
      refine takeY (i := 7) (some 39) (v := .slice A sn sc) rfl rfl (by kernel_rfl) (by kernel_rfl) (by kernel_rfl) (fun _ _ _ h => h) (by rfl) (fun w' hS => by (have c9 : w'.cell? ⟨N2, 1, none⟩ = some (.slice A sn sc) := (hS.2.2.1.cell 1).trans rfl; clear hS; go_simp)) hS ?_
      simp only [Act.put, List.setIfInBounds_toArray, List.set_cons_zero, List.set_cons_succ]
      have HKW := Lib.hid (HK.out.below HB.out rfl)
      have HUR : Hid (Rd W101 (some ⟨gu, 0, none⟩) Nu Zu) := Lib.hid HU.out
      obtain ⟨M, hM⟩ : ∃ M, hmacZ k sn (blkZ (p.kd = 18 ∨ p.kd = 20) Zu Nu) Nu = M := ⟨_, rfl⟩
      have HMM := Lib.hid hM
      have HMB : Hid (∀ j, 0 ≤ M j ∧ M j ≤ 255) := Lib.hid (by rw [← hM]; exact dg_bd _)
      clear hM
      refine takeCE (i := 8) (some 40) 41 #[.slice (some ⟨gu, 0, none⟩) Nu cu, .int .u8 p.kd, .slice A sn sc] (R := fun v w' => v = .agg (bytC 32 M) ∧ Below W101.heap.size W101 w') rfl rfl (by kernel_rfl) (by rfl) (by go_simp) ((macOf_any (some ⟨gu, 0, none⟩) Nu cu Zu p.kd A sn sc k W101 HUR.out (fun e => by cases e) HN54.out BN.out HKW.out HKA.out HSN.out.2 RT.out).mono fun e w' h => ⟨_, h.1, by rw [HMM.out], h.2⟩) (fun v w' h => by obtain ⟨rfl, hb8⟩ := h; exact ⟨hS.1.below hb8 hS.1.lt, hS.2.1.below hb8 hS.2.1.lt, hS.2.2.1.below hb8 hS.2.2.1.lt, hS.2.2.2.trans (hb8.mono hS.2.2.2.size)⟩) (fun v W102 h hS2 => ?_)
      obtain ⟨rfl, hb8⟩ := h
      clear hS2
      simp only [Act.put, List.setIfInBounds_toArray, List.set_cons_zero, List.set_cons_succ]
      clear HKW HUR
      have HUn := Lib.hid (HU.out.below hb8)
      clear HU
      have HU := HUn
      clear HUn
      have RTn := Lib.hid (RT.out.below hb8 RT.out.lt)
      clear RT
      have RT := RTn
      clear RTn
      have KPn := Lib.hid (KP.out.below hb8 KP.out.lt)
      clear KP
      have KP := KPn
      clear KPn
      have KKn := Lib.hid (KK.out.below hb8 KK.out.lt)
      clear KK
      have KK := KKn
      clear KKn
      have HBn := Lib.hid (HB.out.trans (hb8.mono HB.out.size))
      clear HB
      have HB := HBn
      clear HBn
      clear hb8 hS
      have hS := (And.intro RT.out (And.intro KP.out (And.intro KK.out HB.out)))
      refine takeCE (i := 9) (some 41) 36 #[.int .u16 (id : Int), .agg (bytC 32 (M))] (R := fun v w' => SigV W102 id (M) v w') rfl rfl (by kernel_rfl) (by rfl) (by go_simp) ((signature_any id (M) W102 HID.out HMB.out).mono fun e w' h => h.v) (fun v w' h => by obtain ⟨gs, cs, rfl, hgs, hos, hcs, hcm, hbs⟩ := h; exact ⟨hS.1.below hbs hS.1.lt, hS.2.1.below hbs hS.2.1.lt, hS.2.2.1.below hbs hS.2.2.1.lt, hS.2.2.2.trans (hbs.mono hS.2.2.2.size)⟩) (fun v W103 h hS2 => ?_)
      obtain ⟨gs, cs, rfl, hgs, hos, hcs, hcm, hbs⟩ := h
      clear hS2
      simp only [Act.put, List.setIfInBounds_toArray, List.set_cons_zero, List.set_cons_succ]
      have HGS2 : Hid (W102.heap.size ≤ gs) := Lib.hid hgs
      have KS : Hid (ByO W103 gs 35 cs (sigZ id (M))) := Lib.hid hos
      have HCS := Lib.hid (And.intro hcs hcm)
      clear hos hcs hcm hgs
      have HUn := Lib.hid (HU.out.below hbs)
      clear HU
      have HU := HUn
      clear HUn
      have RTn := Lib.hid (RT.out.below hbs RT.out.lt)
      clear RT
      have RT := RTn
      clear RTn
      have KPn := Lib.hid (KP.out.below hbs KP.out.lt)
      clear KP
      have KP := KPn
      clear KPn
      have KKn := Lib.hid (KK.out.below hbs KK.out.lt)
      clear KK
      have KK := KKn
      clear KKn
      have HBn := Lib.hid (HB.out.trans (hbs.mono HB.out.size))
      clear HB
      have HB := HBn
      clear HBn
      clear hbs hS
      have hS := (And.intro RT.out (And.intro KP.out (And.intro KK.out HB.out)))
      obtain ⟨N104, hN104⟩ : ∃ N, W103.heap.size = N := ⟨_, rfl⟩
      have HN104 := Lib.hid hN104
      clear hN104
      refine takeBsn (i := 10) (some 42) 1 49 (itC ⟨10, some ⟨gs, 0, none⟩, 35, cs, sigZ id (M)⟩) rfl rfl (by kernel_rfl) (by rfl) (bs_one _ _ _ rfl ⟨10, some ⟨gs, 0, none⟩, 35, cs, sigZ id (M)⟩ rfl) N104 HN104.out (fun W104 k1 b1 s1 => ⟨⟨hS.1.below b1 hS.1.lt, hS.2.1.below b1 hS.2.1.lt, hS.2.2.1.below b1 hS.2.2.1.lt, hS.2.2.2.trans (b1.mono hS.2.2.2.size)⟩, ?_⟩)
      simp only [Act.put, List.setIfInBounds_toArray, List.set_cons_zero, List.set_cons_succ]
      have KT : Hid (BlO 49 W104 N104 (itC ⟨10, some ⟨gs, 0, none⟩, 35, cs, sigZ id (M)⟩)) := Lib.hid k1
      clear k1
      have HUn := Lib.hid (HU.out.below b1)
      clear HU
      have HU := HUn
      clear HUn
      have KSn := Lib.hid (KS.out.below b1)
      clear KS
      have KS := KSn
      clear KSn
      have RTn := Lib.hid (RT.out.below b1 RT.out.lt)
      clear RT
      have RT := RTn
      clear RTn
      have KPn := Lib.hid (KP.out.below b1 KP.out.lt)
      clear KP
      have KP := KPn
      clear KPn
      have KKn := Lib.hid (KK.out.below b1 KK.out.lt)
      clear KK
      have KK := KKn
      clear KKn
      have HBn := Lib.hid (HB.out.trans (b1.mono HB.out.size))
      clear HB
      have HB := HBn
      clear HBn
      clear b1 hS HN104
      have hS := (And.intro RT.out (And.intro KP.out (And.intro KK.out HB.out)))
      have HIT : Hid (ItOk W104 ⟨10, some ⟨gs, 0, none⟩, 35, cs, sigZ id (M)⟩) := Lib.hid (it_ok KS.out)
      have HRW := Lib.hid (HR.out.below HB.out)
      refine takeCE (i := 11) (some 43) 35 #[.agg (pdC p), .slice (some ⟨N104, 0, none⟩) 1 1] (R := fun v w' => WithV W104 p L ⟨10, some ⟨gs, 0, none⟩, 35, cs, sigZ id (M)⟩ v w') rfl rfl (by kernel_rfl) (by rfl) (by go_simp) ((with_any p L ⟨10, some ⟨gs, 0, none⟩, 35, cs, sigZ id (M)⟩ N104 W104 HRW.out HA.out H32.out KT.out HIT.out).mono fun e w' h => h.v) (fun v w' h => by obtain ⟨g9, c9, rfl, hg9, hl9, hc9, hm9, hb9⟩ := h; exact ⟨hS.1.below hb9 hS.1.lt, hS.2.1.below hb9 hS.2.1.lt, hS.2.2.1.below hb9 hS.2.2.1.lt, hS.2.2.2.trans (hb9.mono hS.2.2.2.size)⟩) (fun v W105 h hS2 => ?_)
      obtain ⟨g9, c9, rfl, hg9, hl9, hc9, hm9, hb9⟩ := h
      clear hS2
      simp only [Act.put, List.setIfInBounds_toArray, List.set_cons_zero, List.set_cons_succ]
      have HL9 : Hid (RdT W105 (some ⟨g9, 0, none⟩) (p.m + 1) (addT L p.m ⟨10, some ⟨gs, 0, none⟩, 35, cs, sigZ id (M)⟩)) := Lib.hid hl9
      have HC9 := Lib.hid (And.intro hc9 hm9)
      clear hl9 hc9 hm9 hg9 HIT HRW KT
      have HUn := Lib.hid (HU.out.below hb9)
      clear HU
      have HU := HUn
      clear HUn
      have KSn := Lib.hid (KS.out.below hb9)
      clear KS
      have KS := KSn
      clear KSn
      have RTn := Lib.hid (RT.out.below hb9 RT.out.lt)
      clear RT
      have RT := RTn
      clear RTn
      have KPn := Lib.hid (KP.out.below hb9 KP.out.lt)
      clear KP
      have KP := KPn
      clear KPn
      have KKn := Lib.hid (KK.out.below hb9 KK.out.lt)
      clear KK
      have KK := KKn
      clear KKn
      have HBn := Lib.hid (HB.out.trans (hb9.mono HB.out.size))
      clear HB
      have HB := HBn
      clear HBn
      clear hb9 hS
      have hS := (And.intro RT.out (And.intro KP.out (And.intro KK.out HB.out)))
      have HEQ := Lib.hid (wr_sl p L (some ⟨g9, 0, none⟩) c9 id (M) m0 ⟨10, some ⟨gs, 0, none⟩, 35, cs, sigZ id (M)⟩ rfl rfl rfl)
      have HIN : Hid (PdIn W105 (withT p (some ⟨g9, 0, none⟩) (p.m + 1) c9) (addT L p.m ⟨10, some ⟨gs, 0, none⟩, 35, cs, sigZ id (M)⟩)) := Lib.hid ⟨HL9.out, HC9.out.1, HC9.out.2⟩
      have HJ : Hid (JEnds (addT L p.m ⟨10, some ⟨gs, 0, none⟩, 35, cs, sigZ id (M)⟩) (p.m + 1) m0) := Lib.hid (sl_ends ⟨10, some ⟨gs, 0, none⟩, 35, cs, sigZ id (M)⟩ rfl HM.out)
      refine takeCE (i := 12) (some 44) 28 #[.agg (pdC (withT p (some ⟨g9, 0, none⟩) (p.m + 1) c9))] (R := fun v w' => VrP W105 (seN p L m0 id sn false) 0 (seZ p L m0 id k sn false) v w') rfl rfl (by kernel_rfl) (by rfl) (by go_simp) ((write_any (withT p (some ⟨g9, 0, none⟩) (p.m + 1) c9) HP.out (addT L p.m ⟨10, some ⟨gs, 0, none⟩, 35, cs, sigZ id (M)⟩) m0 HJ.out W105 HIN.out).mono fun e w' h => h.vr HEQ.out (sl_x HX0.out) (sl_n HX0.out HE0.out) (sl_z HE0.out HX0.out HNu.out HZu.out HMM.out)) (fun v w' h => by obtain ⟨AV, cv, rfl, hu1, hu2, hu3, hb7, hu4⟩ := h; exact ⟨hS.1.below hb7 hS.1.lt, hS.2.1.below hb7 hS.2.1.lt, hS.2.2.1.below hb7 hS.2.2.1.lt, hS.2.2.2.trans (hb7.mono hS.2.2.2.size)⟩) (fun v W106 h hS2 => ?_)
      obtain ⟨AV, cv, rfl, hu1, hu2, hu3, hb7, hu4⟩ := h
      clear hS2
      simp only [Act.put, List.setIfInBounds_toArray, List.set_cons_zero, List.set_cons_succ]
      have HV : Hid (RdO W106 AV (seN p L m0 id sn false) (seZ p L m0 id k sn false)) := Lib.hid hu1
      have HVC := Lib.hid (And.intro hu2 hu3)
      obtain ⟨gv, rfl, hgv, hov⟩ := hu4 rfl
      have HOV : Hid (ByO W106 gv (seN p L m0 id sn false) cv (seZ p L m0 id k sn false)) := Lib.hid hov
      have HGV : Hid (w.heap.size ≤ gv) := Lib.hid (Nat.le_trans HB.out.size hgv)
      clear hu1 hu2 hu3 hu4 hgv hov HEQ HIN HJ HL9 HC9 KS
      have HUn := Lib.hid (HU.out.below hb7)
      clear HU
      have HU := HUn
      clear HUn
      have RTn := Lib.hid (RT.out.below hb7 RT.out.lt)
      clear RT
      have RT := RTn
      clear RTn
      have KPn := Lib.hid (KP.out.below hb7 KP.out.lt)
      clear KP
      have KP := KPn
      clear KPn
      have KKn := Lib.hid (KK.out.below hb7 KK.out.lt)
      clear KK
      have KK := KKn
      clear KKn
      have HBn := Lib.hid (HB.out.trans (hb7.mono HB.out.size))
      clear HB
      have HB := HBn
      clear HBn
      clear hb7 hS
      have hS := (And.intro RT.out (And.intro KP.out (And.intro KK.out HB.out)))
      refine takeY (i := 13) (some 45) (v := .slice (some ⟨gv, 0, none⟩) (seN p L m0 id sn false) cv) rfl rfl (by kernel_rfl) (by kernel_rfl) (by kernel_rfl) (fun _ _ _ h => h) (by rfl) (fun w' hS => by go_simp) hS ?_
      simp only [Act.put, List.setIfInBounds_toArray, List.set_cons_zero, List.set_cons_succ]
      refine takeY (i := 14) (some 46) (v := .int .i64 0) rfl rfl (by kernel_rfl) (by kernel_rfl) (by kernel_rfl) (fun _ _ _ h => h) (by rfl) (fun w' hS => by go_simp) hS ?_
      simp only [Act.put, List.setIfInBounds_toArray, List.set_cons_zero, List.set_cons_succ]
      refine takeY (i := 15) (some 4) (v := .slice (some ⟨gv, 0, none⟩) (seN p L m0 id sn false) cv) rfl rfl (by kernel_rfl) (by kernel_rfl) (by kernel_rfl) (fun _ _ _ h => h) (by rfl) (fun w' hS => by go_simp) hS ?_
      simp only [Act.put, List.setIfInBounds_toArray, List.set_cons_zero, List.set_cons_succ]
      refine takeY (i := 16) (some 5) (v := .int .i64 0) rfl rfl (by kernel_rfl) (by kernel_rfl) (by kernel_rfl) (fun _ _ _ h => h) (by rfl) (fun w' hS => by go_simp) hS ?_
      simp only [Act.put, List.setIfInBounds_toArray, List.set_cons_zero, List.set_cons_succ]
      clear hS
      refine wpAnyH_done (by kernel_rfl) ?_ _
      go_wp2_with fail
      go_ret2
      exact ⟨_, cv, by rw [HE0.out]; rfl, HV.out, HVC.out.1, HVC.out.2, HB.out, fun _ => ⟨gv, rfl, HGV.out, HOV.out⟩⟩
    · have hX0 : (X2 != 0) = true := by simpa using h0
      have H0 := Lib.hid h0
      clear h0
      go_wp2_with fail
      go_ret2
      exact wr_err hE.out H0.out rfl HB.out
end Go.Proofs.YtccoicjmmeoggaaDoor

/- What was read is written as just these bytes, if they are of the form. Each theorem states its conditions. -/
namespace Go.Proofs.YtccoicjmmeoggaaDoor
open Go.RowKit
set_option linter.unusedVariables false

theorem sz_it {z : Nat → Int} {L : Nat → It} {m : Nat} (h : IsItZ z L m) : ∀ k, k ≤ m → sz L k = pos z k := by
  intro k hk
  induction k with
  | zero => rfl
  | succ k ih =>
    obtain ⟨g, cap, e⟩ := h k (by omega)
    simp only [sz, pos, ih (by omega), e, itZ]
    omega
theorem num2 (y : Nat → Int) : numZ y 0 2 = y 0 * 256 + y 1 := by simp [numZ]
theorem num4 (y : Nat → Int) : numZ y 0 4 = ((y 0 * 256 + y 1) * 256 + y 2) * 256 + y 3 := by simp [numZ]
end Go.Proofs.YtccoicjmmeoggaaDoor

/- The document's number, NodeAt, IDAt. Each theorem states its conditions. -/
namespace Go.Proofs.YtccoicjmmeoggaaDoor
open Go.RowKit
set_option linter.unusedVariables false

end Go.Proofs.YtccoicjmmeoggaaDoor

/- SameBytes answers false where bytes differ. Each theorem states its conditions. -/
namespace Go.Proofs.YtccoicjmmeoggaaDoor
open Go.RowKit
set_option linter.unusedVariables false

end Go.Proofs.YtccoicjmmeoggaaDoor

/- The document's DocSplit reads a list out of bytes. Each theorem states its conditions. -/
namespace Go.Proofs.YtccoicjmmeoggaaDoor
open Go.RowKit
set_option linter.unusedVariables false

end Go.Proofs.YtccoicjmmeoggaaDoor

/- What the document's DocRead is walked with. Each theorem states its conditions. -/
namespace Go.Proofs.YtccoicjmmeoggaaDoor
open Go.RowKit
set_option linter.unusedVariables false

/-- while DocRead fills a packet -/
def DrS (w : World) (P X b off n : Nat) (z : Nat → Int) (B : Nat) (A : Option Addr) (m cL : Nat) (L : Nat → It) (x : Pd) (w' : World) : Prop :=
  PdT 42 w' P x ∧ PdT 42 w' X pd0 ∧ Row8 w' b off n z ∧ Below w.heap.size w w' ∧ OwnT w' B (.slice A m cL) m L ∧ (X < P ∧ w.heap.size ≤ X ∧ b < w.heap.size ∧ P < B ∧ B ≤ w'.heap.size)
theorem row_keep {w w' : World} {b off n : Nat} {z : Nat → Int} (h : Row8 w b off n z) (hb : w'.heap[b]? = w.heap[b]?) : Row8 w' b off n z := by
  have hlt : b < w'.heap.size := by
    have := (Array.getElem?_eq_some_iff (xs := w'.heap) (i := b) (b := w.heap[b]'h.1)).1 (by rw [hb]; exact Array.getElem?_eq_getElem h.1)
    exact this.1
  refine ⟨hlt, fun j hj => ?_, h.2.2⟩
  rw [← h.2.1 j hj]
  simp only [World.cell?, hb]
section
variable {w : World} {P X b off n : Nat} {z : Nat → Int} {B : Nat} {A : Option Addr} {m cL : Nat} {L : Nat → It} {x y : Pd} {w' w'' : World}
theorem DrS.below (h : DrS w P X b off n z B A m cL L x w') (hb : Below w'.heap.size w' w'') : DrS w P X b off n z B A m cL L x w'' := by
  obtain ⟨h1, h2, h3, h4, h5, h6, h7, h8, h9, h10⟩ := h
  exact ⟨h1.below hb h1.lt, h2.below hb h2.lt, row_keep h3 (hb.block _ h3.1), h4.trans (hb.mono h4.size), h5.below hb, h6, h7, h8, h9, Nat.le_trans h10 hb.size⟩
theorem DrS.put (h : DrS w P X b off n z B A m cL L x w') (q : Stored w' w'' P (pdC y) 42) : DrS w P X b off n z B A m cL L y w'' := by
  obtain ⟨h1, h2, h3, h4, h5, h6, h7, h8, h9, h10⟩ := h
  exact ⟨q.1, h2.far q (by omega), row_keep h3 (q.2.2 _ (by omega)), h4.trans (q.2.1 _ (by omega)), h5.far q h9, h6, h7, h8, h9, Nat.le_trans h10 (q.2.1 0 (Nat.zero_le _)).size⟩
theorem DrS.eq (h : DrS w P X b off n z B A m cL L x w') (e : pdC x = pdC y) : DrS w P X b off n z B A m cL L y w' := by
  obtain ⟨h1, h2⟩ := h
  refine ⟨?_, h2⟩
  unfold PdT at h1 ⊢
  rw [← e]; exact h1
end
theorem lsp_q (k : Int) (q : Nat) (hk : cls k = q) (hq : q ≤ 4) (w : World) : Calls Tryd.prog 26 #[.int .u8 k] w fun e w' => e = .returned (.bool (decide (q = 2))) ∧ w = w' := by
  rcases cls_cases k q hk hq with ⟨h, rfl⟩ | ⟨h, rfl⟩ | ⟨h, rfl⟩ | ⟨h, rfl⟩ | ⟨h, rfl⟩ | ⟨h, rfl⟩ | ⟨h, rfl⟩ | ⟨h, rfl⟩ | ⟨h, rfl⟩
  · exact lsp_no k (by omega) w
  · exact lsp_no k (by omega) w
  · exact lsp_no k (by omega) w
  · exact lsp_yes k (by omega) w
  · exact lsp_yes k (by omega) w
  all_goals exact lsp_no k (by omega) w
theorem rdP_ok (q : Nat) (hq : q ≤ 4) (z : Nat → Int) (hz : ∀ j, 0 ≤ z j ∧ z j ≤ 255) : PdOk (rdP q z) := by
  have zb : ∀ j, 0 ≤ z0 j ∧ z0 j ≤ 255 := fun j => (⟨Int.le_refl 0, by decide⟩ : (0 : Int) ≤ 0 ∧ (0 : Int) ≤ 255)
  have b0 : by1 0 := ⟨Int.le_refl 0, by decide⟩
  have i0 : in64 0 := ⟨by decide, by decide⟩
  have hn : ∀ s, in64 (((numZ (fun j => z (s + j)) 0 2).toNat : Nat) : Int) := fun s => by
    have h0 := hz (s + 0)
    have h1 := hz (s + 1)
    rw [num2]
    unfold in64
    omega
  have hn4 : ∀ s, (numZ (fun j => z (s + j)) 0 4).toNat ≤ 4294967295 := fun s => by
    have h0 := hz (s + 0)
    have h1 := hz (s + 1)
    have h2 := hz (s + 2)
    have h3 := hz (s + 3)
    rw [num4]
    omega
  rcases (by omega : q = 0 ∨ q = 1 ∨ q = 2 ∨ q = 3 ∨ q = 4) with rfl | rfl | rfl | rfl | rfl
  · exact ⟨⟨hz 4, hz _, mixS_bd (fun j => hz _) zb, hn 15, hz _, b0, zb⟩, i0, zb, Nat.zero_le _, b0, zb, zb⟩
  · exact ⟨⟨hz 4, hz _, mixS_bd (fun j => hz _) zb, hn 15, b0, hz _, fun j => hz _⟩, i0, zb, Nat.zero_le _, b0, zb, zb⟩
  · exact ⟨⟨hz 4, b0, zb, i0, b0, b0, zb⟩, hn 10, fun j => hz _, hn4 20, hz _, zb, zb⟩
  · exact ⟨⟨hz 4, b0, fun j => hz _, i0, b0, b0, zb⟩, i0, zb, Nat.zero_le _, b0, fun j => hz _, fun j => hz _⟩
  · exact ⟨⟨hz 4, b0, fun j => hz _, i0, b0, b0, zb⟩, i0, zb, Nat.zero_le _, b0, zb, zb⟩
end Go.Proofs.YtccoicjmmeoggaaDoor

/- The document's Blank: a packet's bytes as they are signed. Each theorem states its conditions. -/
namespace Go.Proofs.YtccoicjmmeoggaaDoor
open Go.RowKit
set_option linter.unusedVariables false

theorem info_u81 : (Tryd.prog.info? 5).map (·.size) = some 1 := by kernel_rfl
/-- a byte is written into bytes of the call's own -/
theorem wpList_put8 {ops : Array Oper} {Q : Exit → Act → World → Prop} {rest : List Oper} {op : Oper} {a : Act} {w : World} (hgd : op.guard = none) (x y : Operand) (ho : op.op = .store 5 x y) (g i : Nat) (hx : a.eval x = .pointer (some ⟨g, i, none⟩)) (v : Int) (hy : a.eval y = .int .u8 v) (hv : 0 ≤ v ∧ v ≤ 255)
    {n cap : Nat} {z : Nat → Int} (h : Own8 w g n cap z) (hi : i < n)
    (H : ∀ w' C, Stored w w' g C 5 → Own8 w' g n cap (upd z i v) → wpList Tryd.prog ops Q rest (a.put op.dst undef) w') : wpList Tryd.prog ops Q (op :: rest) a w := by
  obtain ⟨⟨cur, hg, h1, h2, h3, h4⟩, h5⟩ := h
  refine wpList_st hgd 5 x y ho g i hx (.int .u8 v) #[.int .u8 v] hy rfl info_u81 (by kernel_rfl) hg (by show i + 1 ≤ cur.size; omega) rfl ?_
  intro w' hs
  refine H w' _ hs ⟨⟨_, hs.1, h1, h2, by rw [putMany_size, h3], fun j hj => ?_⟩, upd_bd h5 i v hv⟩
  show (cur.setIfInBounds i (.int .u8 v))[j]? = _
  rw [Array.getElem?_setIfInBounds]
  unfold upd
  by_cases e : i = j
  · subst e; rw [if_pos rfl, if_pos (by omega), if_pos rfl]
  · rw [if_neg e, if_neg (fun h => e h.symm)]; exact h4 j hj
/-- bytes of the call's own -/
def BlkP (w : World) (n : Nat) (z : Nat → Int) (e : Ending) (w' : World) : Prop := ∃ g c, e = .returned (.slice (some ⟨g, 0, none⟩) n c) ∧ w.heap.size ≤ g ∧ Own8 w' g n c z ∧ Below w.heap.size w w'
end Go.Proofs.YtccoicjmmeoggaaDoor

/- Operations on numbers of 64 bits, told in natural numbers; rows of such numbers. Each theorem states its conditions. -/
namespace Go.Proofs.YtccoicjmmeoggaaDoor
open Go.RowKit
set_option linter.unusedVariables false

section
variable (o : Oper) (e : Operand → Value) (x y : Operand) (t u : TypeId)
end
end Go.Proofs.YtccoicjmmeoggaaDoor

/- The document's turning of words, and its table. Each theorem states its conditions. -/
namespace Go.Proofs.YtccoicjmmeoggaaDoor
open Go.RowKit
set_option linter.unusedVariables false

end Go.Proofs.YtccoicjmmeoggaaDoor

/- The document's Sha: the sum of a text. Each theorem states its conditions. -/
namespace Go.Proofs.YtccoicjmmeoggaaDoor
open Go.RowKit
set_option linter.unusedVariables false

theorem Row8.lt {w : World} {b o n : Nat} {z : Nat → Int} (h : Row8 w b o n z) : b < w.heap.size := h.1
theorem Row8.far {w w' : World} {b o n c : Nat} {z : Nat → Int} {C : Array Value} {t : TypeId} (h : Row8 w b o n z) (hs : Stored w w' c C t) (hk : b ≠ c) : Row8 w' b o n z := by
  have e := hs.2.2 b hk
  refine ⟨?_, fun j hj => (World.cell?_of_block e).trans (h.2.1 j hj), h.2.2⟩
  rw [Array.getElem?_eq_getElem h.1] at e
  exact (Array.getElem?_eq_some_iff.1 e).1
theorem HOut.far {w0 w w' : World} {v : Value} {n b : Nat} {z : Nat → Int} {C : Array Value} {t : TypeId} (h : HOut w0 w v n z []) (hs : Stored w w' b C t) (hk : v.ownBlock ≠ some b) (hb : w0.heap.size ≤ b) : HOut w0 w' v n z [] := by
  refine ⟨⟨⟨h.1.1.1, ?_⟩, h.1.2⟩, h.2.1.trans (hs.2.1 _ hb), HKp.nil _, fun p hp => by cases hp⟩
  rcases h.1.1.2 with ⟨rfl, e⟩ | ⟨g, cap, cur, rfl, h1, h2, h3⟩
  · exact .inl ⟨rfl, e⟩
  · exact .inr ⟨g, cap, cur, rfl, h1, (hs.2.2 g (fun e => hk (by simp [Value.ownBlock, e]))).trans h2, h3⟩
theorem Row8.drew {w : World} {b o n : Nat} {z : Nat → Int} (h : Row8 w b o n z) : Row8 w.drew b o n z := h
end Go.Proofs.YtccoicjmmeoggaaDoor

/- The document's Hmac: the sum of a text with a key. Each theorem states its conditions. -/
namespace Go.Proofs.YtccoicjmmeoggaaDoor
open Go.RowKit
set_option linter.unusedVariables false

end Go.Proofs.YtccoicjmmeoggaaDoor

/- The document's Seal. Each theorem states its conditions. -/
namespace Go.Proofs.YtccoicjmmeoggaaDoor
open Go.RowKit
set_option linter.unusedVariables false

theorem put_hi {id : Nat} (h : id ≤ 65535) : ((id / 256 : Nat) : Int) = putZ id 2 0 := by unfold putZ qN; show ((id / 256 : Nat) : Int) = ((id / 256 ^ 1 % 256 : Nat) : Int); rw [Nat.pow_one]; omega
theorem put_lo {id : Nat} (h : id ≤ 65535) : ((id % 256 : Nat) : Int) = putZ id 2 1 := by unfold putZ qN; show ((id % 256 : Nat) : Int) = ((id / 256 ^ 0 % 256 : Nat) : Int); rw [Nat.pow_zero, Nat.div_one]
theorem zero_pdR : (Tryd.prog.info? 42).map (·.zero) = some (some (.agg (pdC pd0))) := by kernel_rfl
/-- values of the call's own, between two marks -/
def LO (w : World) (base top m : Nat) (L : Nat → It) : Prop := base < w.heap.size ∧ ∀ j, j < m → (0 ≤ (L j).ty ∧ (L j).ty ≤ 255) ∧ (L j).n ≤ 140737488351232 ∧ ∃ g, (L j).A = some ⟨g, 0, none⟩ ∧ base ≤ g ∧ g < top ∧ Own8 w g (L j).n (L j).c (L j).z
section
variable {w w' : World} {base top m : Nat} {L : Nat → It}
theorem LO.lt (h : LO w base top m L) : base < w.heap.size := h.1
theorem LO.below {B : Nat} (h : LO w base top m L) (hb : Below w.heap.size w w') (hB : base < B) : LO w' base top m L :=
  ⟨Nat.lt_of_lt_of_le h.1 hb.size, fun j hj => by
    obtain ⟨h1, h2, g, h3, h4, h5, h6⟩ := h.2 j hj
    exact ⟨h1, h2, g, h3, h4, h5, h6.below hb h6.lt⟩⟩
theorem LO.far {b : Nat} {C : Array Value} {t : TypeId} (h : LO w base top m L) (hs : Stored w w' b C t) (hk : b < base ∨ top ≤ b) : LO w' base top m L :=
  ⟨Nat.lt_of_lt_of_le h.1 (hs.2.1 b (Nat.le_refl _)).size, fun j hj => by
    obtain ⟨h1, h2, g, h3, h4, h5, h6⟩ := h.2 j hj
    exact ⟨h1, h2, g, h3, h4, h5, h6.block (hs.2.2 g (by omega))⟩⟩
theorem LO.ok (h : LO w base top m L) : ∀ j, j < m → ItOk w (L j) := fun j hj => by
  obtain ⟨h1, h2, g, h3, h4, h5, h6⟩ := h.2 j hj
  exact ⟨h1, by rw [h3]; exact h6.rd, fun e => (by rw [h3] at e; cases e), h2⟩
end
theorem cls_x {p : Pd} {L : Nat → It} {m0 : Nat} (h : wrX p L m0 = 0) : cls p.kd ≤ 4 ∧ fitP p (cls p.kd) = true ∧ ¬ (m0 < p.m ∨ 1492 < hdN (cls p.kd) + sz L p.m) := by
  have hc := cls_le p.kd
  by_cases h1 : cls p.kd = 5 ∨ fitP p (cls p.kd) = false
  · rw [(wr_1 p L m0 h1).1] at h; exact absurd h (by decide)
  · by_cases h2 : m0 < p.m ∨ 1492 < hdN (cls p.kd) + sz L p.m
    · rw [(wr_2 p L m0 h1 h2).1] at h; exact absurd h (by decide)
    · refine ⟨by omega, ?_, h2⟩
      cases hf : fitP p (cls p.kd)
      · exact absurd (.inr hf) h1
      · rfl
/-- an answer, told as a value -/
def BlV (w : World) (n : Nat) (z : Nat → Int) (v : Value) (w' : World) : Prop := ∃ g c, v = .slice (some ⟨g, 0, none⟩) n c ∧ w.heap.size ≤ g ∧ Own8 w' g n c z ∧ Below w.heap.size w w'
theorem BlkP.v {w w' : World} {n : Nat} {z : Nat → Int} {e : Ending} (h : BlkP w n z e w') : ∃ v, e = .returned v ∧ BlV w n z v w' := by
  obtain ⟨g, c, rfl, h⟩ := h
  exact ⟨_, rfl, g, c, rfl, h⟩
theorem RwP.vr {w w' : World} {n n' N : Nat} {z z' Z : Nat → Int} {X X2 : Int} {e : Ending} (h : RwP w n z e w') (he : X = X2 ∧ n = n' ∧ ∀ j, j < n' → z j = z' j) (hN : n' = N) (hZ : cutN N z' = Z) : ∃ v, e = .returned v ∧ BlV w N Z v w' := by
  obtain ⟨g, c, rfl, h1, h2, h3⟩ := h
  obtain ⟨_, e2, e3⟩ := he
  subst hN hZ e2
  exact ⟨_, rfl, g, c, rfl, h1, own8_cut h2 e3, h3⟩
theorem own8_zz {w : World} {g n c : Nat} {z z' : Nat → Int} (h : Own8 w g n c z) (he : ∀ j, j < n → z j = z' j) (hz : ∀ j, 0 ≤ z' j ∧ z' j ≤ 255) : Own8 w g n c z' := by
  obtain ⟨⟨cur, h1, h2, h3, h4, h5⟩, h6⟩ := h
  exact ⟨⟨cur, h1, h2, h3, h4, fun j hj => by rw [← he j hj]; exact h5 j hj⟩, hz⟩
end Go.Proofs.YtccoicjmmeoggaaDoor

/- Lists of values; the values of a type. Each theorem states its conditions. -/
namespace Go.Proofs.YtccoicjmmeoggaaDoor
open Go.RowKit
set_option linter.unusedVariables false

/-- a value that can be read -/
def ValOk (w : World) (t : It) : Prop := Rd w t.A t.n t.z ∧ (t.A = none → t.n = 0 ∧ t.c = 0) ∧ t.n ≤ 140737488351232
theorem ItOk.val {w : World} {t : It} (h : ItOk w t) : ValOk w t := h.2
theorem ValOk.below {w w' : World} {t : It} (h : ValOk w t) (hb : Below w.heap.size w w') : ValOk w' t := ⟨h.1.below hb rfl, h.2⟩
end Go.Proofs.YtccoicjmmeoggaaDoor

/- Of answers the values of a type; so does the document's Of. Each theorem states its conditions. -/
namespace Go.Proofs.YtccoicjmmeoggaaDoor
open Go.RowKit
set_option linter.unusedVariables false

/-- nil, or bytes of the call's own -/
def NilOrOwn (w : World) (base : Nat) (t : It) : Prop :=
  ((t.A = none ∧ t.n = 0 ∧ t.c = 0) ∨ ∃ g, t.A = some ⟨g, 0, none⟩ ∧ base ≤ g ∧ Own8 w g t.n t.c t.z) ∧ t.n ≤ 140737488351232 ∧ ∀ j, 0 ≤ t.z j ∧ t.z j ≤ 255
theorem NilOrOwn.below {w w' : World} {base : Nat} {t : It} (h : NilOrOwn w base t) (hb : Below w.heap.size w w') : NilOrOwn w' base t := by
  refine ⟨?_, h.2⟩
  rcases h.1 with h | ⟨g, h1, h2, h3⟩
  · exact .inl h
  · exact .inr ⟨g, h1, h2, h3.below hb h3.lt⟩
theorem NilOrOwn.ok {w : World} {base : Nat} {t : It} (h : NilOrOwn w base t) : ValOk w t := by
  rcases h.1 with ⟨h0, h1, h2⟩ | ⟨g, h1, h2, h3⟩
  · exact ⟨⟨.inl h1, h.2.2⟩, fun _ => ⟨h1, h2⟩, h.2.1⟩
  · exact ⟨⟨.inr ⟨g, 0, h1, h3.row⟩, h.2.2⟩, fun e => (by rw [h1] at e; cases e), h.2.1⟩
theorem NilOrOwn.grown {w w' : World} {base n : Nat} {t : It} {v : Value} {xs : List Value} (h : NilOrOwn w base t) (hr : w.ownsRow base 22 1 v n xs) (hg : w.grownBy w' v.ownBlock) : NilOrOwn w' base t := by
  refine ⟨?_, h.2⟩
  rcases h.1 with h | ⟨g, h1, h2, h3⟩
  · exact .inl h
  · refine .inr ⟨g, h1, h2, h3.grown hg ?_⟩
    intro e
    obtain ⟨⟨cur, hc, _⟩, _⟩ := h3
    rcases hr.2 with ⟨rfl, _⟩ | ⟨g', cap, cur', rfl, _, hc', _⟩
    · cases e
    · simp [Value.ownBlock] at e
      subst e
      rw [hc] at hc'
      simp at hc'

end Go.Proofs.YtccoicjmmeoggaaDoor

/- The document's DocSeal: what it answers, for every packet and key. Each theorem states its conditions. -/
namespace Go.Proofs.YtccoicjmmeoggaaDoor
open Go.RowKit
set_option linter.unusedVariables false
set_option linter.unusedSimpArgs false

/-- carried along -/
def BeO (w0 w : World) : Prop := Below w0.heap.size w0 w
theorem BeO.below {w0 w w' : World} (h : BeO w0 w) (hb : Below w.heap.size w w') : BeO w0 w' := Below.trans h (hb.mono (Below.size h))
/-- of several that may come up: a slice of some values is made -/
theorem consBsn {ops : Array Oper} {Q : Exit → Act → World → Prop} {md : Region.Mode} {S : World → Prop} {i : Nat} {oi : Oper} (d : Option Tmp) {rs : List Nat} {fuel : Nat} {listed : Array Bool} {a : Act} {w : World} (n : Nat) (t : TypeId) (C : Array Value) (hi : ops[i]? = some oi) (hd : oi.dst = d)
    (hw : Region.wanted oi (yielded ops a.tmps) = true) (hx : (execOp a.eval oi).run Tryd.prog w = .ok (.value (.slice (some ⟨w.heap.size, 0, none⟩) n n)) (w.alloc (.cells C t))) (N : Nat) (hN : w.heap.size = N)
    (h : ∀ w', Blk t w' N C → Below w.heap.size w w' → N + 1 ≤ w'.heap.size → S w' ∧ wpAnyH Tryd.prog md ops Q S fuel (listed.setIfInBounds i true) (a.put d (.slice (some ⟨N, 0, none⟩) n n)) w') (hs : AllReadyH Tryd.prog md ops Q S fuel listed a w rs) : AllReadyH Tryd.prog md ops Q S fuel listed a w (i :: rs) := by
  subst hN
  obtain ⟨h1, h2⟩ := h _ (heap_alloc_new w _) ((Below.refl _ _).alloc (Nat.le_refl _) _) (by simp)
  exact consVW d hi hd hw hx h1 h2 hs
/-- carried along -/
def TwO (w : World) (base : Nat) (v : Value) (m : Nat) (L : Nat → It) : Prop := OwnT w base v m L
theorem TwO.below {w w' : World} {base m : Nat} {v : Value} {L : Nat → It} (h : TwO w base v m L) (hb : Below w.heap.size w w') : TwO w' base v m L := OwnT.below h hb
def VaO (w : World) (base : Nat) (t : It) : Prop := OwnV w base t
theorem VaO.below {w w' : World} {base : Nat} {t : It} (h : VaO w base t) (hb : Below w.heap.size w w') : VaO w' base t := OwnV.below h hb
theorem info_key : (Tryd.prog.info? 45).map (·.size) = some 2 := by kernel_rfl
end Go.Proofs.YtccoicjmmeoggaaDoor

/- Lists of keys; the law's twin of one. Each theorem states its conditions. -/
namespace Go.Proofs.YtccoicjmmeoggaaDoor
open Go.RowKit
set_option linter.unusedVariables false
set_option linter.unusedSimpArgs false

/-- a key's cells: the item's type is its number -/
def kC (t : It) : Array Value := #[.int .u16 t.ty, .slice t.A t.n t.c]
def kR (K : Nat → It) : Nat → Array Value := fun j => kC (K j)
theorem kR_recs (K : Nat → It) : Recs 2 (kR K) := fun j => ⟨rfl, fun u hu => by
  rcases List.mem_cons.1 hu with rfl | hu
  · rfl
  · rcases List.mem_cons.1 hu with rfl | hu
    · rfl
    · cases hu⟩
def KeOk (w : World) (t : It) : Prop := (0 ≤ t.ty ∧ t.ty ≤ 65535) ∧ Rd w t.A t.n t.z ∧ (t.A = none → t.n = 0 ∧ t.c = 0) ∧ t.n ≤ 140737488351232
theorem KeOk.below {w w' : World} {t : It} (h : KeOk w t) (hb : Below w.heap.size w w') : KeOk w' t := ⟨h.1, h.2.1.below hb rfl, h.2.2⟩
/-- a list of keys that can be read -/
def RdK (w : World) (A : Option Addr) (m : Nat) (K : Nat → It) : Prop := RdR w A m 2 (kR K) ∧ ∀ j, j < m → KeOk w (K j)
theorem RdK.below {w w' : World} {A : Option Addr} {m : Nat} {K : Nat → It} (h : RdK w A m K) (hb : Below w.heap.size w w') : RdK w' A m K := ⟨h.1.below hb rfl, fun j hj => (h.2 j hj).below hb⟩
/-- of the call's own -/
def OwnKV (w : World) (base : Nat) (t : It) : Prop := (0 ≤ t.ty ∧ t.ty ≤ 65535) ∧ t.n ≤ 140737488351232 ∧ ∃ g, t.A = some ⟨g, 0, none⟩ ∧ base ≤ g ∧ Own8 w g t.n t.c t.z
def OwnK (w : World) (base : Nat) (v : Value) (m : Nat) (K : Nat → It) : Prop := w.ownsRow base 45 2 v m (cellsR (kR K) m) ∧ ∀ j, j < m → OwnKV w base (K j)
theorem OwnKV.below {w w' : World} {base : Nat} {t : It} (h : OwnKV w base t) (hb : Below w.heap.size w w') : OwnKV w' base t := by
  obtain ⟨h1, h2, g, h3, h4, h5⟩ := h
  exact ⟨h1, h2, g, h3, h4, h5.below hb h5.lt⟩
theorem OwnKV.ok {w : World} {base : Nat} {t : It} (h : OwnKV w base t) : KeOk w t := by
  obtain ⟨h1, h2, g, h3, h4, h5⟩ := h
  exact ⟨h1, by rw [h3]; exact h5.rd, fun e => (by rw [h3] at e; cases e), h2⟩
theorem OwnK.below {w w' : World} {base m : Nat} {v : Value} {K : Nat → It} (h : OwnK w base v m K) (hb : Below w.heap.size w w') : OwnK w' base v m K := ⟨ownsRow_below' h.1 hb, fun j hj => (h.2 j hj).below hb⟩
theorem OwnK.shape {w : World} {base m : Nat} {v : Value} {K : Nat → It} (h : OwnK w base v m K) : ∃ A c, v = .slice A m c ∧ m ≤ c ∧ c ≤ maxLen ∧ (A = none → m = 0 ∧ c = 0) ∧ RdK w A m K := by
  obtain ⟨A, c, h1, h2, h3, h4, h5⟩ := ownR_shape (kR_recs K) (by decide) h.1
  exact ⟨A, c, h1, h2, h3, h4, h5, fun j hj => (h.2 j hj).ok⟩
theorem OwnK.nil (w : World) (base : Nat) (K : Nat → It) : OwnK w base (.slice none 0 0) 0 K := ⟨World.ownsRow_nil _ _ _ _, fun j hj => by omega⟩
theorem kcells_push (K : Nat → It) (m : Nat) (t : It) : cellsR (kR (updT K m t)) (m + 1) = cellsR (kR K) m ++ [.int .u16 t.ty, .slice t.A t.n t.c] := by
  show cellsR (kR (updT K m t)) m ++ (kC (updT K m t m)).toList = _
  rw [updT_same, cellsR_congr m (C' := kR K) fun j hj => by unfold kR; rw [updT_other _ _ _ _ (by omega)]]
  rfl
theorem info_key3 : (Tryd.prog.info? 45).map (fun i => (i.zero, i.size, i.bytes)) = some (some (.agg #[.int .u16 0, .slice none 0 0]), 2, 32) := by kernel_rfl
theorem zero_key : (Tryd.prog.info? 45).map (·.zero) = some (some (.agg #[.int .u16 0, .slice none 0 0])) := by kernel_rfl
theorem kC_one (t : It) : (kC t).all (·.oneCell') = true := by kernel_rfl
/-- blocks of unlike types -/
theorem own8_grownK {w w' : World} {base g n c m : Nat} {z : Nat → Int} {v : Value} {xs : List Value} (h : Own8 w g n c z) (hr : w.ownsRow base 45 2 v m xs) (hg : w.grownBy w' v.ownBlock) : Own8 w' g n c z := by
  refine h.grown hg fun e => ?_
  rcases hr.2 with ⟨rfl, _⟩ | ⟨g2, cap, cur, rfl, hb, hc, _⟩
  · cases e
  · injection e with e
    subst e
    obtain ⟨⟨cur2, h1, _⟩, _⟩ := h
    rw [h1] at hc
    injection hc with hc
    injection hc with _ hc _
    exact absurd hc (by decide)
theorem kpush_run {o : Oper} {a : Act} {w : World} (s x : Operand) (ho : o.op = .call { callee := .builtin .append, args := #[s, x], argTypes := #[50, 50] })
    (w0 : World) (v : Value) (m : Nat) (K : Nat → It) (hs : a.eval s = v) (h : OwnK w w0.heap.size v m K) (N : Nat) (hx : a.eval x = .slice (some ⟨N, 0, none⟩) 1 1) (t : It) (hK : Blk 45 w N (kC t)) (ht : OwnKV w w0.heap.size t) (hm : (m + 1) * 32 ≤ 140737488355328) (hb : Below w0.heap.size w0 w) :
    ∃ v' w', (execOp a.eval o).run Tryd.prog w = .ok (.value v') w' ∧ OwnK w' w0.heap.size v' (m + 1) (updT K m t) ∧ Below w0.heap.size w0 w' ∧ ∀ k, k < w.heap.size → v.ownBlock ≠ some k → w'.heap[k]? = w.heap[k]? := by
  obtain ⟨i0, hi, hz0, hz1, hz2⟩ := info_parts info_key3
  obtain ⟨v', w', hr, h2, h3, h4, h5⟩ := run_append_own_at (P := Tryd.prog) w w0.heap.size 50 o.type 45 i0 _ 2 32 Tryd.underlying50 hi hz0 hz1 hz2 rfl (by decide) v m _ h.1 ⟨N, 0, none⟩ 1 1 (kC t).toList rfl (fun j u hu => by rw [add_none, Nat.zero_add, hK.cell]; simpa using hu) (fun u hu => by simpa using (Array.all_eq_true_iff_forall_mem.1 (kC_one t)) u (by simpa using hu)) (by unfold maxLen; omega) (by omega) hb.size
  have hv : ∀ t, OwnKV w w0.heap.size t → OwnKV w' w0.heap.size t := fun t h9 => by
    obtain ⟨a1, a2, g, a3, a4, a5⟩ := h9
    exact ⟨a1, a2, g, a3, a4, own8_grownK a5 h.1 h3⟩
  refine ⟨v', w', ?_, ⟨by rw [kcells_push]; exact h2, fun j hj => ?_⟩, hb.grown h3 hb.size (fun k e => (h.1.lt k e).1), fun k hk hne => h3.block k hk (fun e => hne e.symm)⟩
  · unfold execOp
    simp only [ho, resolve, invoke, builtin, Sem.run_bind, Sem.run_pure, Result.andThen_ok, List.map_toArray, List.map_cons, List.map_nil, hs, hx, hr]
  · by_cases e : j = m
    · subst e; rw [updT_same]; exact hv t ht
    · rw [updT_other _ _ _ _ e]; exact hv _ (h.2 j (by omega))
/-- where it alone may come up -/
theorem takeKp {ops : Array Oper} {Q : Exit → Act → World → Prop} {md : Region.Mode} {S : World → Prop} {i : Nat} {oi : Oper} (d : Option Tmp) {fuel : Nat} {listed : Array Bool} {a : Act} {w : World} (s x : Operand) (hi : ops[i]? = some oi) (hd : oi.dst = d)
    (hr : Region.ready md ops listed = [i]) (hw : Region.wanted oi (yielded ops a.tmps) = true)
    (ho : oi.op = .call { callee := .builtin .append, args := #[s, x], argTypes := #[50, 50] })
    {w0 : World} {v : Value} {m : Nat} {L : Nat → It} (hs : a.eval s = v) (h : OwnK w w0.heap.size v m L) {N : Nat} (hx : a.eval x = .slice (some ⟨N, 0, none⟩) 1 1) {t : It} (hK : Blk 45 w N (kC t)) (ht : OwnKV w w0.heap.size t) (hm : (m + 1) * 32 ≤ 140737488355328) (hb : Below w0.heap.size w0 w)
    (k : ∀ v' w', OwnK w' w0.heap.size v' (m + 1) (updT L m t) → Below w0.heap.size w0 w' → (∀ k, k < w.heap.size → v.ownBlock ≠ some k → w'.heap[k]? = w.heap[k]?) → S w' ∧ wpAnyH Tryd.prog md ops Q S fuel (listed.setIfInBounds i true) (a.put d v') w') :
    wpAnyH Tryd.prog md ops Q S (fuel + 1) listed a w := by
  obtain ⟨v', w', h1, h2, h3, h4⟩ := kpush_run s x ho w0 v m L hs h N hx t hK ht hm hb
  obtain ⟨h7, h8⟩ := k v' w' h2 h3 h4
  exact takeV d hi hd hr hw h1 h7 h8
theorem build_key (o : Oper) (e : Operand → Value) (x0 x1 : Operand) (ho : o.op = .build 45 #[(0, x0), (1, x1)]) (t : It) (h0 : e x0 = .int .u16 t.ty) (h1 : e x1 = .slice t.A t.n t.c) (W : World) : (execOp e o).run Tryd.prog W = .ok (.value (.agg (kC t))) W := by
  unfold execOp
  simp only [ho]
  simp only [List.map_toArray, List.map_cons, List.map_nil, h0, h1]
  kernel_rfl
theorem bs_key (W : World) (o : Oper) (e : Operand → Value) {x0 : Operand} (ho : o.op = .buildSlice 50 1 #[(0, x0)]) (t : It) (h0 : e x0 = .agg (kC t)) :
    (execOp e o).run Tryd.prog W = .ok (.value (.slice (some ⟨W.heap.size, 0, none⟩) 1 1)) (W.alloc (.cells (kC t) 45)) := by
  unfold execOp
  simp only [ho]
  simp only [List.map_toArray, List.map_cons, List.map_nil, h0]
  kernel_rfl
/-- carried along -/
def OwKO (w : World) (base : Nat) (v : Value) (m : Nat) (K : Nat → It) : Prop := OwnK w base v m K
theorem OwKO.below {w w' : World} {base m : Nat} {v : Value} {K : Nat → It} (h : OwKO w base v m K) (hb : Below w.heap.size w w') : OwKO w' base v m K := OwnK.below h hb
def KvO (w : World) (base : Nat) (t : It) : Prop := OwnKV w base t
theorem KvO.below {w w' : World} {base : Nat} {t : It} (h : KvO w base t) (hb : Below w.heap.size w w') : KvO w' base t := OwnKV.below h hb
theorem OwnK.far {w w' : World} {base m b : Nat} {v : Value} {K : Nat → It} {C : Array Value} {t : TypeId} (h : OwnK w base v m K) (hs : Stored w w' b C t) (hb : ∀ j, j < m → (K j).A ≠ some ⟨b, 0, none⟩) (hv : v.ownBlock ≠ some b) : OwnK w' base v m K := by
  refine ⟨⟨h.1.1, ?_⟩, fun j hj => ?_⟩
  · rcases h.1.2 with h1 | ⟨g, cap, cur, hv2, hg, hc, r⟩
    · exact .inl h1
    · refine .inr ⟨g, cap, cur, hv2, hg, (hs.2.2 g fun e => hv ?_).trans hc, r⟩
      rw [hv2, ← e]; rfl
  · obtain ⟨h1, h2, g, h3, h4, h5⟩ := h.2 j hj
    exact ⟨h1, h2, g, h3, h4, h5.block (hs.2.2 g fun e => hb j hj (by rw [h3, e]))⟩
def TwKP (w : World) (m : Nat) (K : Nat → It) (e : Ending) (w' : World) : Prop := ∃ v K', e = .returned v ∧ OwnK w' w.heap.size v m K' ∧ (∀ j, j < m → Alike (K j) (K' j)) ∧ Below w.heap.size w w'
def TwV (w : World) (n : Nat) (z : Nat → Int) (v : Value) (w' : World) : Prop := ∃ g c, v = .slice (some ⟨g, 0, none⟩) n c ∧ w.heap.size ≤ g ∧ Own8 w' g n c z ∧ Below w.heap.size w w'
theorem TwinPost.twv {w w' : World} {n : Nat} {z : Nat → Int} {e : Ending} (h : TwinPost w n z e w') : ∃ v, e = .returned v ∧ TwV w n z v w' := by
  obtain ⟨g, c, rfl, h⟩ := h
  exact ⟨_, rfl, g, c, rfl, h⟩
set_option maxHeartbeats 8000000 in
set_option maxRecDepth 100000 in
theorem twinK_any (A : Option Addr) (m c : Nat) (K : Nat → It) (w : World) (h : RdK w A m K) (hm : m * 32 ≤ 140737488351232) :
    Calls Tryd.prog 17 #[.slice A m c] w (TwKP w m K) := by
  have HR := Lib.hid h
  have HM := Lib.hid hm
  clear h
  go_enter Tryd.func17, Tryd.ntmps17
  go_wp2_with fail
  go_loopw [3, 8] (fun v i wr => ∃ (k : Nat) (K' : Nat → It), k ≤ m ∧ i = .int .i64 k ∧ Hid (OwnK wr w.heap.size v k K') ∧ Hid (∀ j, j < k → Alike (K j) (K' j)) ∧ Hid (Below w.heap.size w wr)) (fun _ i _ => m - (intOf i).toNat)
  case atStart => exact ⟨0, K, by omega, rfl, Lib.hid (OwnK.nil _ _ _), Lib.hid (fun j hj => by omega), Lib.hid (Below.refl _ _)⟩
  case round =>
    obtain ⟨k, K', hk, rfl, HO, HAL, HB⟩ := hrel
    by_cases hlt : k < m
    · have hki : (k : Int) < (m : Int) := by omega
      obtain ⟨b, off, rfl, hr⟩ := (HR.out.below HB.out).1.row (by omega)
      have hr2 := Lib.hid (hr.2 k hlt)
      have HKE := Lib.hid ((HR.out.below HB.out).2 k hlt)
      clear hr
      obtain ⟨t, ht⟩ : ∃ t, K k = t := ⟨_, rfl⟩
      have HTT := Lib.hid ht
      rw [show kR K k = kC t from by unfold kR; rw [ht]] at hr2
      rw [ht] at HKE
      have hbb : b < wr.heap.size := by
        obtain ⟨b2, off2, e2, hr3⟩ := (HR.out.below HB.out).1.row (by omega)
        injection e2 with e2; injection e2 with e2 _ _; subst e2; exact hr3.1
      clear ht
      go_wp2_with (refine wpList_ld (op := ⟨some 11, _, _, _, _, _⟩) (by rfl) 45 (.tmp 10) rfl b (off + k * 2) rfl (kC t) _ hr2.out Tryd.underlying45 rfl info_key ?_; refine Hid.out ?_)
      refine Lib.hid ?_
      clear hr2
      have HO9 : Hid (OwKO wr w.heap.size u3 k K') := Lib.hid HO.out
      clear HO
      have HO := HO9
      clear HO9
      obtain ⟨N11, hN11⟩ : ∃ N, wr.heap.size = N := ⟨_, rfl⟩
      have HN11 := Lib.hid hN11
      clear hN11
      go_wp2_with (refine wpList_new (op := ⟨some 5, _, _, _, _, _⟩) rfl 45 rfl (#[.int .u16 0, .slice none 0 0]) zero_key N11 HN11.out ?_; intro w11 k1 b1 s1; refine Hid.out ?_)
      refine Lib.hid ?_
      have K5 := Lib.hid k1
      have HBN := Lib.hid b1
      have hN5 := HN11.out
      clear k1
      have le_HB_N11 : w.heap.size ≤ N11 := by rw [← HN11.out]; exact HB.out.size
      have HBn := Lib.hid (HB.out.trans (b1.mono HB.out.size))
      clear HB
      have HB := HBn
      clear HBn
      clear b1 HN11
      go_wp2_with (refine wpList_st rfl 45 (.tmp 5) (.tmp 11) rfl N11 0 rfl (.agg (kC t)) (kC t) rfl rfl info_key (kC_one _) K5.out (Nat.le_of_ble_eq_true rfl) (C' := kC t) (by rfl) ?_; intro w20 q1; refine Hid.out ?_)
      refine Lib.hid ?_
      have HO9 : Hid (OwKO w20 w.heap.size u3 k K') := Lib.hid (OwKO.below HO.out (HBN.out.trans (q1.2.1 _ (Nat.le_of_eq hN5))))
      have HNE : Hid (u3.ownBlock ≠ some N11) := Lib.hid (fun e => by have := (HO.out.1.lt _ e).2; omega)
      clear HO HBN hN5
      have HO := HO9
      clear HO9
      have HBn := Lib.hid (HB.out.trans (q1.2.1 _ (by omega)))
      clear HB
      have HB := HBn
      clear HBn
      have K5n : Hid (Blk 45 w20 N11 (kC t)) := Lib.hid q1.1
      clear K5
      have K5 := K5n
      clear K5n q1
      go_wp2_with fail
      have HOd : Hid (OwKO w20.drew w.heap.size u3 k K') := Lib.hid HO.out
      clear HO
      refine wp_region_held_drew (S := fun w' => Blk 45 w' N11 (kC t) ∧ Below w.heap.size w w') (by kernel_rfl) ⟨K5.out, HB.out.drew⟩ (fun hS => ?_)
      generalize hW31 : w20.drew = W31 at hS HOd ⊢
      clear hW31
      clear K5
      clear HB
      have HO := HOd
      clear HOd
      have K5 := Lib.hid hS.1
      have HB := Lib.hid hS.2
      refine takeY (i := 0) (some 12) (v := u3) rfl rfl (by kernel_rfl) (by kernel_rfl) (by kernel_rfl) (fun _ _ _ h => h) (by rfl) (fun w' hS => by go_simp) hS ?_
      simp only [Act.put, List.setIfInBounds_toArray, List.set_cons_zero, List.set_cons_succ]
      refine takeY (i := 1) (some 13) (v := .pointer (some ⟨N11, 0, none⟩)) rfl rfl (by kernel_rfl) (by kernel_rfl) (by kernel_rfl) (fun _ _ _ h => h) (by rfl) (fun w' hS => by go_simp) hS ?_
      simp only [Act.put, List.setIfInBounds_toArray, List.set_cons_zero, List.set_cons_succ]
      refine takeY (i := 2) (some 14) (v := .int .u16 t.ty) rfl rfl (by kernel_rfl) (by kernel_rfl) (by kernel_rfl) (fun _ _ _ h => h) (by rfl) (fun w' hS => by (have c9 : w'.cell? ⟨N11, 0, none⟩ = some (.int .u16 t.ty) := (hS.1.cell 0).trans rfl; clear hS; go_simp)) hS ?_
      simp only [Act.put, List.setIfInBounds_toArray, List.set_cons_zero, List.set_cons_succ]
      refine takeY (i := 3) (some 15) (v := .pointer (some ⟨N11, 1, none⟩)) rfl rfl (by kernel_rfl) (by kernel_rfl) (by kernel_rfl) (fun _ _ _ h => h) (by rfl) (fun w' hS => by go_simp) hS ?_
      simp only [Act.put, List.setIfInBounds_toArray, List.set_cons_zero, List.set_cons_succ]
      refine takeY (i := 4) (some 16) (v := .slice t.A t.n t.c) rfl rfl (by kernel_rfl) (by kernel_rfl) (by kernel_rfl) (fun _ _ _ h => h) (by rfl) (fun w' hS => by (have c9 : w'.cell? ⟨N11, 1, none⟩ = some (.slice t.A t.n t.c) := (hS.1.cell 1).trans rfl; clear hS; go_simp)) hS ?_
      simp only [Act.put, List.setIfInBounds_toArray, List.set_cons_zero, List.set_cons_succ]
      have HRD : Hid (Rd W31 t.A t.n t.z) := Lib.hid (by have := (HR.out.below HB.out).2 k hlt; rw [HTT.out] at this; exact this.2.1)
      refine takeCE (i := 5) (some 17) 27 #[.slice t.A t.n t.c] (R := fun v w' => TwV W31 t.n t.z v w') rfl rfl (by kernel_rfl) (by rfl) (by go_simp) ((twin_any t.A t.n t.c t.z W31 HRD.out HKE.out.2.2.1 (by have := HKE.out.2.2.2; omega)).mono fun e w' h => TwinPost.twv h) (fun v w' h => by obtain ⟨gs, cs, rfl, hgs, hos, hbs⟩ := h; exact ⟨hS.1.below hbs hS.1.lt, hS.2.trans (hbs.mono hS.2.size)⟩) (fun v W32 h hS2 => ?_)
      obtain ⟨gs, cs, rfl, hgs, hos, hbs⟩ := h
      clear hS2
      simp only [Act.put, List.setIfInBounds_toArray, List.set_cons_zero, List.set_cons_succ]
      have HKV : Hid (KvO W32 w.heap.size ⟨t.ty, some ⟨gs, 0, none⟩, t.n, cs, t.z⟩) := Lib.hid ⟨HKE.out.1, HKE.out.2.2.2, gs, rfl, Nat.le_trans HB.out.size hgs, hos⟩
      clear hgs hos HRD
      have HOn := Lib.hid (HO.out.below hbs)
      clear HO
      have HO := HOn
      clear HOn
      have K5n := Lib.hid (K5.out.below hbs K5.out.lt)
      clear K5
      have K5 := K5n
      clear K5n
      have HBn := Lib.hid (HB.out.trans (hbs.mono HB.out.size))
      clear HB
      have HB := HBn
      clear HBn
      clear hbs hS
      have hS := (And.intro K5.out HB.out)
      refine takeY (i := 6) (some 18) (v := .agg (kC ⟨t.ty, some ⟨gs, 0, none⟩, t.n, cs, t.z⟩)) rfl rfl (by kernel_rfl) (by kernel_rfl) (by kernel_rfl) (fun _ _ _ h => h) (by rfl) (fun w' hS => by exact build_key _ _ _ _ rfl ⟨t.ty, some ⟨gs, 0, none⟩, t.n, cs, t.z⟩ rfl rfl _) hS ?_
      simp only [Act.put, List.setIfInBounds_toArray, List.set_cons_zero, List.set_cons_succ]
      obtain ⟨N33, hN33⟩ : ∃ N, W32.heap.size = N := ⟨_, rfl⟩
      have HN33 := Lib.hid hN33
      clear hN33
      refine takeBsn (i := 7) (some 19) 1 45 (kC ⟨t.ty, some ⟨gs, 0, none⟩, t.n, cs, t.z⟩) rfl rfl (by kernel_rfl) (by rfl) (bs_key _ _ _ rfl ⟨t.ty, some ⟨gs, 0, none⟩, t.n, cs, t.z⟩ rfl) N33 HN33.out (fun W33 k1 b1 s1 => ⟨⟨hS.1.below b1 hS.1.lt, hS.2.trans (b1.mono hS.2.size)⟩, ?_⟩)
      simp only [Act.put, List.setIfInBounds_toArray, List.set_cons_zero, List.set_cons_succ]
      have KT : Hid (BlO 45 W33 N33 (kC ⟨t.ty, some ⟨gs, 0, none⟩, t.n, cs, t.z⟩)) := Lib.hid k1
      clear k1
      have HOn := Lib.hid (HO.out.below b1)
      clear HO
      have HO := HOn
      clear HOn
      have HKVn := Lib.hid (HKV.out.below b1)
      clear HKV
      have HKV := HKVn
      clear HKVn
      have K5n := Lib.hid (K5.out.below b1 K5.out.lt)
      clear K5
      have K5 := K5n
      clear K5n
      have HBn := Lib.hid (HB.out.trans (b1.mono HB.out.size))
      clear HB
      have HB := HBn
      clear HBn
      clear b1 hS HN33
      have hS := (And.intro K5.out HB.out)
      refine takeKp (i := 8) (some 20) (.tmp 12) (.tmp 19) rfl rfl (by kernel_rfl) (by rfl) rfl rfl HO.out rfl KT.out HKV.out (by have := HM.out; omega) HB.out ?_
      intro v9 W34 h9 hb9 hk9
      have K59 : Blk 45 W34 N11 (kC t) := (hk9 N11 K5.out.lt HNE.out).trans K5.out
      refine ⟨⟨K59, hb9⟩, ?_⟩
      simp only [Act.put, List.setIfInBounds_toArray, List.set_cons_zero, List.set_cons_succ]
      have HO9 := Lib.hid h9
      have HB9 := Lib.hid hb9
      have hS : Blk 45 W34 N11 (kC t) ∧ Below w.heap.size w W34 := ⟨K59, hb9⟩
      have hal : ∀ j, j < k + 1 → Alike (K j) (updT K' k ⟨t.ty, some ⟨gs, 0, none⟩, t.n, cs, t.z⟩ j) := fun j hj => by
        by_cases e : j = k
        · subst e; rw [updT_same, HTT.out]; exact ⟨rfl, rfl, rfl⟩
        · rw [updT_other _ _ _ _ e]; exact HAL.out j (by omega)
      have HAL9 := Lib.hid hal
      clear h9 hb9 hk9 K59 hal HO HB K5 KT HKV HAL
      refine takeY (i := 9) (some 3) (v := v9) rfl rfl (by kernel_rfl) (by kernel_rfl) (by kernel_rfl) (fun _ _ _ h => h) (by rfl) (fun w' hS => by go_simp) hS ?_
      simp only [Act.put, List.setIfInBounds_toArray, List.set_cons_zero, List.set_cons_succ]
      clear hS
      refine wpAnyH_done (by kernel_rfl) ?_ _
      go_wp2_with fail
      go_roundw
      case rel => exact ⟨k + 1, _, by omega, by go_num, HO9, HAL9, HB9⟩
      case measure => simp only [intOf]; omega
    · obtain rfl : k = m := by omega
      go_wp2_with fail
      go_ret
      exact ⟨_, K', rfl, HO.out, HAL.out, HB.out⟩
end Go.Proofs.YtccoicjmmeoggaaDoor

/- Keys that came in as arguments can be read. No condition. -/
namespace Go.Proofs.YtccoicjmmeoggaaDoor
open Go.RowKit Go.ChangeShapes Go.WideShapes
set_option linter.unusedVariables false

theorem cell_u16 {H : Type} {enc : TypeId × Value → H} {w : World} {base : Nat} {spare : Nat → Bool} {held : Bool} {m : Nat} {cs : List Value} {k : Nat} {o : Option (DataW H × List MemPlace)} (h : DataW.trod enc Tryd.prog w base spare held m 43 ((cs.drop k).take 1) = o) (ho : o.isSome = true) : ∃ a : Int, cs[k]? = some (.int .u16 a) ∧ 0 ≤ a ∧ a ≤ 65535 := by
  obtain ⟨y, rfl⟩ := Option.isSome_iff_exists.1 ho
  obtain ⟨a, ea, _, wa⟩ := DataW.trod_int Tryd.underlying43 h
  refine ⟨a, ?_, wf_u16 wa⟩
  have := congrArg (·[0]?) ea
  simpa [List.getElem?_take, List.getElem?_drop] using this
set_option maxRecDepth 100000 in
set_option maxHeartbeats 2000000 in
theorem open_key {H : Type} {enc : TypeId × Value → H} {w : World} {base : Nat} {held : Bool} {r : Reach} {b0 : Nat} {v : Value} {d : DataW H} {ps : List MemPlace}
    (hv : Value.okWide Tryd.prog w r b0 45 v) (h : DataW.Trod enc Tryd.prog w base (fun _ => true) held 45 v d ps) (hsz : ∀ n ∈ d.weights Tryd.prog 45, n ≤ 140737488351232) :
    ∃ t, v = .agg (kC t) ∧ KeOk w t := by
  simp only [Value.okWide, Tryd.underlying45] at hv
  obtain ⟨ca, rfl, hca, _⟩ := hv
  obtain ⟨fuel, hf⟩ := h
  have hcc : (Value.agg ca).cells.toList = ca.toList := rfl
  rw [hcc] at hf
  obtain ⟨cs, hcs⟩ : ∃ cs, ca.toList = cs := ⟨_, rfl⟩
  rw [hcs] at hf
  obtain ⟨xs, m1, _, hxd, hl, hn, hel⟩ := DataW.trod_struct Tryd.underlying45 hf
  have hn : xs.length = 2 := hn
  have hl : cs.length = 2 := by rw [hl]; kernel_rfl
  have hd : d = .agg (xs.map (·.1)) := by have := congrArg Prod.fst hxd; simpa using this
  have hc_u : Tryd.prog.cellsOf 43 = 1 := by kernel_rfl
  have hc_t : Tryd.prog.cellsOf 22 = 1 := by kernel_rfl
  have e0 : DataW.trod enc Tryd.prog w base (fun _ => true) held m1 43 ((cs.drop 0).take (Tryd.prog.cellsOf 43)) = xs[0]? := hel 0 _ rfl
  rw [hc_u] at e0
  obtain ⟨kd, hkd, bkd⟩ := cell_u16 e0 (by rw [List.getElem?_eq_getElem (by omega)]; rfl)
  have e1 : DataW.trod enc Tryd.prog w base (fun _ => true) held m1 22 ((cs.drop 1).take (Tryd.prog.cellsOf 22)) = xs[1]? := hel 1 _ rfl
  rw [hc_t] at e1
  have hx1 : xs[1]? = some xs[1] := List.getElem?_eq_getElem (by omega)
  rw [hx1] at e1
  have hone : (cs.drop 1).take 1 = [cs[1]] := by
    rw [List.drop_eq_getElem_cons (by omega), List.take_succ_cons, List.take_zero]
  rw [hone] at e1
  have hwt : ∀ k ∈ (xs[1].1).weights Tryd.prog 22, k ≤ 140737488351232 := by
    intro k hk
    refine hsz k ?_
    rw [hd]
    simp only [DataW.weights, Tryd.underlying45]
    exact DataW.weights_mem_each (j := 1) (t := 22) (d := xs[1].1) rfl (by simp [hx1]) k hk
  have key : ∃ t : Int × Option Addr × Nat × Nat × (Nat → Int), cs[0]? = some (.int .u16 t.1) ∧ cs[1]? = some (.slice t.2.1 t.2.2.1 t.2.2.2.1) ∧ KeOk w ⟨t.1, t.2.1, t.2.2.1, t.2.2.2.1, t.2.2.2.2⟩ := by
    rcases open_ints Tryd.underlying22 Tryd.underlying5 (by kernel_rfl) e1 with ⟨hcs', _⟩ | ⟨y, l, c, zs, hcs', _, hl', hm', hz', hx', hc', hwz⟩
    · injection hcs' with hcs' _
      exact ⟨(kd, none, 0, 0, fun _ => 0), hkd, by rw [List.getElem?_eq_getElem (by omega), hcs'], bkd, ⟨.inl rfl, fun _ => by simp⟩, fun _ => ⟨rfl, rfl⟩, by simp⟩
    · injection hcs' with hcs' _
      rw [if_pos rfl] at hz'
      obtain ⟨hr, hn⟩ := isRow_rd (w := w) (A := some y) (len := l) (cap := c) (zs := zs) (.inr ⟨y, rfl, hl', hm', hz', hc', hwz⟩)
      have hD : xs[1].1 = .slice (lits .u8 (zs.take l)) (lits .u8 (zs.drop l)) := by
        have := congrArg Prod.fst hx'
        simpa using this
      have hbb : Tryd.prog.bytesOf 5 = 1 := by kernel_rfl
      have hw1 := hwt ((l + (c - l)) * 1) (by
        rw [hD]
        simp only [DataW.weights, Tryd.underlying22, lits, List.length_map, List.length_take, List.length_drop, hz', hbb, Nat.min_eq_left hl']
        exact List.mem_cons_self ..)
      exact ⟨(kd, some y, l, c, fun j => zs.getD j 0), hkd, by rw [List.getElem?_eq_getElem (by omega), hcs'], bkd, hr, fun e => (by cases e), by show l ≤ _; omega⟩
  obtain ⟨t, h0, h1, h2⟩ := key
  refine ⟨⟨t.1, t.2.1, t.2.2.1, t.2.2.2.1, t.2.2.2.2⟩, ?_, h2⟩
  congr 1
  apply Array.ext_getElem?
  intro i
  rw [← Array.getElem?_toList, hcs]
  match i with
  | 0 => exact h0
  | 1 => exact h1
  | i + 2 =>
    rw [List.getElem?_eq_none (by omega)]
    rfl
set_option maxRecDepth 100000 in
theorem open_keys {H : Type} {enc : TypeId × Value → H} {w : World} {base : Nat} {held : Bool} {a : Option Addr} {len cap : Nat} {d : DataW H} {ps : List MemPlace}
    (h : DataW.Trod enc Tryd.prog w base (fun _ => true) held 50 (.slice a len cap) d ps) (hsz : ∀ n ∈ d.weights Tryd.prog 50, n ≤ 140737488351232) :
    ∃ K, RdK w a len K ∧ (a = none → len = 0 ∧ cap = 0) ∧ len ≤ cap ∧ cap * 32 ≤ 140737488351232 := by
  obtain ⟨fuel, hf⟩ := h
  have he := Tryd.underlying45
  rcases Deep.open_slice_pairs Tryd.underlying50 he (by kernel_rfl) rfl rfl (by kernel_rfl) (by kernel_rfl) hf with ⟨hcs, _⟩ | ⟨x, l, c, mm, n, V0, V1, D0, D1, P0, P1, hcs, _, hl, hm, hmm, hx, hcell⟩
  · simp [Value.cells] at hcs
    obtain ⟨rfl, rfl, rfl⟩ := hcs
    exact ⟨fun _ => ⟨0, none, 0, 0, fun _ => 0⟩, ⟨.inl rfl, fun j hj => by omega⟩, fun _ => ⟨rfl, rfl⟩, Nat.le_refl _, by omega⟩
  · simp [Value.cells] at hcs
    obtain ⟨rfl, rfl, rfl⟩ := hcs
    rw [if_pos rfl] at hmm
    subst hmm
    simp only [Prod.mk.injEq] at hx
    obtain ⟨rfl, rfl⟩ := hx
    have hb : Tryd.prog.bytesOf 45 = 32 := by kernel_rfl
    have hw0 := hsz ((len + (mm - len)) * 32) (by
      simp only [DataW.weights, Tryd.underlying50, List.length_map, List.length_range, hb]
      exact List.mem_cons_self ..)
    have each : ∀ i, i < len → ∃ t : Int × Option Addr × Nat × Nat × (Nat → Int), w.cell? (x.add (i * 2)) = some (.int .u16 t.1) ∧ w.cell? (x.add (i * 2 + 1)) = some (.slice t.2.1 t.2.2.1 t.2.2.2.1) ∧ KeOk w ⟨t.1, t.2.1, t.2.2.1, t.2.2.2.1, t.2.2.2.2⟩ := by
      intro i hi
      obtain ⟨e0, e1, t0, t1⟩ := hcell i (by omega)
      obtain ⟨ty, ety, _, wty⟩ := DataW.trod_int Tryd.underlying43 t0
      have hty : V0 i = .int .u16 ty := by simpa using ety
      have hwt : ∀ k ∈ (D1 i).weights Tryd.prog 22, k ≤ 140737488351232 := by
        intro k hk
        refine hsz k ?_
        simp only [DataW.weights, Tryd.underlying50]
        refine List.mem_cons_of_mem _ (List.mem_append_left _ (mem_weightsAll (d := .agg [D0 i, D1 i]) (List.mem_map.2 ⟨i, by simpa using hi, rfl⟩) k ?_))
        simp only [DataW.weights, he]
        exact DataW.weights_mem_each (j := 1) (t := 22) (d := D1 i) rfl rfl k hk
      rcases open_ints Tryd.underlying22 Tryd.underlying5 (by kernel_rfl) t1 with ⟨hcs, _⟩ | ⟨y, l, c, zs, hcs, _, hl', hm', hz', hx', hc', hwz⟩
      · have hv : V1 i = .slice none 0 0 := by simpa using hcs
        rw [hty] at e0
        rw [hv] at e1
        exact ⟨(ty, none, 0, 0, fun _ => 0), e0, e1, wf_u16 wty, ⟨.inl rfl, fun _ => by simp⟩, fun _ => ⟨rfl, rfl⟩, by simp⟩
      · have hv : V1 i = .slice (some y) l c := by simpa using hcs
        rw [hty] at e0
        rw [hv] at e1
        rw [if_pos rfl] at hz'
        obtain ⟨hr, hn⟩ := isRow_rd (w := w) (A := some y) (len := l) (cap := c) (zs := zs) (.inr ⟨y, rfl, hl', hm', hz', hc', hwz⟩)
        have hD : D1 i = .slice (lits .u8 (zs.take l)) (lits .u8 (zs.drop l)) := by
          have := congrArg Prod.fst hx'
          simpa using this
        have hbb : Tryd.prog.bytesOf 5 = 1 := by kernel_rfl
        have hw1 := hwt ((l + (c - l)) * 1) (by
          rw [hD]
          simp only [DataW.weights, Tryd.underlying22, lits, List.length_map, List.length_take, List.length_drop, hz', hbb, Nat.min_eq_left hl']
          exact List.mem_cons_self ..)
        exact ⟨(ty, some y, l, c, fun j => zs.getD j 0), e0, e1, wf_u16 wty, hr, fun e => (by cases e), by show l ≤ _; omega⟩
    obtain ⟨f, hf'⟩ := Deep.choose_lt each
    refine ⟨fun i => ⟨(f i).1, (f i).2.1, (f i).2.2.1, (f i).2.2.2.1, (f i).2.2.2.2⟩, ?_, fun e => (by cases e), hl, by omega⟩
    refine ⟨?_, fun j hj => (hf' j hj).2.2⟩
    rcases Nat.eq_zero_or_pos len with h0 | h0
    · exact .inl h0
    · obtain ⟨b, off, spot⟩ := x
      have hc0 := (hf' 0 h0).1
      have hs : spot = none := by simpa [Addr.add] using World.cell?_spot hc0
      subst hs
      have hadd : ∀ j, (⟨b, off, none⟩ : Addr).add j = ⟨b, off + j, none⟩ := fun j => by unfold Addr.add; split <;> simp_all
      refine .inr ⟨b, off, rfl, ?_, fun j hj => ?_⟩
      · have := cell_lt hc0
        simpa [hadd] using this
      · obtain ⟨h1, h2, h3⟩ := hf' j hj
        rw [hadd] at h1 h2
        intro i u hu
        match i, hu with
        | 0, hu => injection hu with hu; rw [← hu]; exact h1
        | 1, hu => injection hu with hu; rw [← hu, ← Nat.add_assoc] at *; exact h2
        | i + 2, hu => cases hu
end Go.Proofs.YtccoicjmmeoggaaDoor

/- Seal of packets with lists that are alike; the parts of the laws. Each theorem states its conditions. -/
namespace Go.Proofs.YtccoicjmmeoggaaDoor
open Go.RowKit
set_option linter.unusedVariables false
set_option linter.unusedSimpArgs false

theorem al_slT {L L2 : Nat → It} {m id : Nat} {z : Nat → Int} (h : ∀ j, j < m → Alike (L j) (L2 j)) : ∀ j, j < m + 1 → (slT L m id z j).ty = (slT L2 m id z j).ty ∧ (slT L m id z j).n = (slT L2 m id z j).n ∧ ∀ i, i < (slT L m id z j).n → (slT L m id z j).z i = (slT L2 m id z j).z i := by
  intro j hj
  unfold slT
  by_cases e : j < m
  · rw [addT_lo _ _ _ _ e, addT_lo _ _ _ _ e]
    obtain ⟨a1, a2, a3⟩ := h j e
    exact ⟨a1, a2, fun _ _ => by rw [a3]⟩
  · obtain rfl : j = m := by omega
    rw [addT_hi, addT_hi]
    exact ⟨rfl, rfl, fun _ _ => rfl⟩
theorem wr_al (p : Pd) {L L2 : Nat → It} {id : Nat} {z : Nat → Int} (m0 : Nat) (h : ∀ j, j < p.m → Alike (L j) (L2 j)) :
    wrX (slP p) (slT L2 p.m id z) m0 = wrX (slP p) (slT L p.m id z) m0 ∧ wrN (slP p) (slT L2 p.m id z) m0 = wrN (slP p) (slT L p.m id z) m0 ∧ ∀ j, j < wrN (slP p) (slT L p.m id z) m0 → wrZ (slP p) (slT L2 p.m id z) m0 j = wrZ (slP p) (slT L p.m id z) m0 j :=
  wr_items (p := slP p) m0 (al_slT h)
theorem cutN_congr {n : Nat} {z z' : Nat → Int} (h : ∀ j, j < n → z j = z' j) : cutN n z = cutN n z' := by
  funext j
  unfold cutN
  split
  · exact h j (by assumption)
  · rfl
theorem se_al (p : Pd) {L L2 : Nat → It} (A : Option Addr) (c m0 id sn : Nat) (k : Nat → Int) (b : Bool) (h : ∀ j, j < p.m → Alike (L j) (L2 j)) :
    seX (withT p A p.m c) L2 m0 id sn b = seX p L m0 id sn b ∧ seN (withT p A p.m c) L2 m0 id sn b = seN p L m0 id sn b ∧ seZ (withT p A p.m c) L2 m0 id k sn b = seZ p L m0 id k sn b := by
  have e0 : ∀ z, wrX (slP (withT p A p.m c)) (slT L2 (withT p A p.m c).m id z) m0 = wrX (slP p) (slT L p.m id z) m0 := fun z => (wr_al p m0 h).1
  have e1 : ∀ z, wrN (slP (withT p A p.m c)) (slT L2 (withT p A p.m c).m id z) m0 = wrN (slP p) (slT L p.m id z) m0 := fun z => (wr_al p m0 h).2.1
  have e2 : ∀ z, cutN (wrN (slP p) (slT L p.m id nou) m0) (wrZ (slP (withT p A p.m c)) (slT L2 (withT p A p.m c).m id z) m0) = cutN (wrN (slP p) (slT L p.m id nou) m0) (wrZ (slP p) (slT L p.m id z) m0) := fun z => cutN_congr fun j hj => (wr_al p m0 h).2.2 j (by rw [(slT_z p L m0 id z nou).2]; exact hj)
  have eX : seX (withT p A p.m c) L2 m0 id sn b = seX p L m0 id sn b := by unfold seX; rw [e0]
  have eM : seM (withT p A p.m c) L2 m0 id k sn = seM p L m0 id k sn := by
    unfold seM
    rw [e1, e2]
    rfl
  refine ⟨eX, ?_, ?_⟩
  · unfold seN; rw [eX, e1]
  · unfold seZ; rw [eX, e1, eM, e2]
theorem hasSig_al {L L2 : Nat → It} {m : Nat} {b : Bool} (h : ∀ j, j < m → Alike (L j) (L2 j)) (hb : HasSig L m b) : HasSig L2 m b := by
  rcases hb with ⟨rfl, k, h1, h2, h3⟩ | ⟨rfl, h1⟩
  · exact .inl ⟨rfl, k, h1, (h k h1).1.symm.trans h2, fun j hj => by rw [← (h j (by omega)).1]; exact h3 j hj⟩
  · exact .inr ⟨rfl, fun j hj => by rw [← (h j hj).1]; exact h1 j hj⟩
theorem ends_al {L L2 : Nat → It} {m m0 id : Nat} {z : Nat → Int} (h : ∀ j, j < m → Alike (L j) (L2 j)) (hm : JEnds (slT L m id z) (m + 1) m0) : JEnds (slT L2 m id z) (m + 1) m0 :=
  jends_congr (fun j hj => (al_slT h j hj).2.1) hm
/-- Seal of a packet with a list that is alike, told by the packet itself -/
theorem seal_al (p : Pd) (hp : PdOk p) (L L2 : Nat → It) (A9 : Option Addr) (c9 m0 id : Nat) (A : Option Addr) (sn sc : Nat) (k : Nat → Int) (b : Bool) (hal : ∀ j, j < p.m → Alike (L j) (L2 j)) (hm : JEnds (slT L p.m id nou) (p.m + 1) m0) (w : World) (hR : RdT w A9 p.m L2) (hA : A9 = none → p.m = 0 ∧ c9 = 0) (h32 : p.m * 32 ≤ 140737488351232)
    (hid : id ≤ 65535) (hk : Rd w A sn k) (hkA : A = none → sn = 0 ∧ sc = 0) (hb : HasSig L p.m b) (hg : Rts w 0) :
    Calls Tryd.prog 18 #[.agg (pdC (withT p A9 p.m c9)), .agg (keyC id A sn sc)] w (WrP w (seN p L m0 id sn b) (seX p L m0 id sn b) (seZ p L m0 id k sn b)) := by
  obtain ⟨e1, e2, e3⟩ := se_al p A9 c9 m0 id sn k b hal
  rw [← e1, ← e2, ← e3]
  exact seal_any (withT p A9 p.m c9) hp L2 m0 id A sn sc k b (ends_al hal hm) w hR hA h32 hid hk hkA (hasSig_al hal hb) hg
/-- a packet's own list, one marked item behind it -/
def it77 : It := ⟨77, none, 0, 0, nou⟩
/-- a list of the call's own, and one item more, which holds no bytes -/
def Mine (w : World) (base g c m : Nat) (L2 : Nat → It) : Prop := w.ownsRow base 49 2 (.slice (some ⟨g, 0, none⟩) (m + 1) c) (m + 1) (cellsT (addT L2 m it77) (m + 1)) ∧ ∀ j, j < m → OwnV w base (L2 j)
section
variable {w w' : World} {base g c m : Nat} {L2 : Nat → It}
theorem Mine.below {B : Nat} (h : Mine w base g c m L2) (hb : Below w.heap.size w w') (_ : base < B) : Mine w' base g c m L2 := ⟨ownsRow_below' h.1 hb, fun j hj => (h.2 j hj).below hb⟩
theorem Mine.blk (h : Mine w base g c m L2) : ∃ cur, w.heap[g]? = some (.cells cur 49 (0, 0)) ∧ base ≤ g ∧ m + 1 ≤ c ∧ c ≤ maxLen ∧ cur.toList.take ((m + 1) * 2) = cellsT (addT L2 m it77) (m + 1) := by
  rcases h.1.2 with ⟨h1, _⟩ | ⟨g2, cap, cur, hv, hb, hc, h1, h2, h3, h4⟩
  · cases h1
  · injection hv with h5 h6 h7
    injection h5 with h5
    injection h5 with h5 _ _
    subst h5 h7
    exact ⟨cur, hc, hb, h1, h2, h4⟩
theorem Mine.lt (h : Mine w base g c m L2) : base < w.heap.size := by
  obtain ⟨cur, hc, hb, _⟩ := h.blk
  exact Nat.lt_of_le_of_lt hb (Array.getElem?_eq_some_iff.1 hc).1
theorem Mine.far {b : Nat} {C : Array Value} {t : TypeId} (h : Mine w base g c m L2) (hs : Stored w w' b C t) (hk : b < base) : Mine w' base g c m L2 := by
  refine ⟨⟨h.1.1, ?_⟩, fun j hj => ?_⟩
  · rcases h.1.2 with h1 | ⟨g2, cap, cur, hv, hg, hc, r⟩
    · exact .inl h1
    · exact .inr ⟨g2, cap, cur, hv, hg, (hs.2.2 g2 (by omega)).trans hc, r⟩
  · obtain ⟨h1, h2, g, h3, h4, h5⟩ := h.2 j hj
    exact ⟨h1, h2, g, h3, h4, h5.block (hs.2.2 g (by omega))⟩
theorem Mine.rd (h : Mine w base g c m L2) : RdT w (some ⟨g, 0, none⟩) m L2 := by
  obtain ⟨cur, hc, hb, h1, h2, h4⟩ := h.blk
  refine .inr ⟨g, 0, rfl, (Array.getElem?_eq_some_iff.1 hc).1, fun j hj => ?_⟩
  obtain ⟨x0, x1⟩ := cellsT_at (addT L2 m it77) (m + 1) j (by omega)
  rw [addT_lo _ _ _ _ hj] at x0 x1
  rw [← h4, List.getElem?_take, if_pos (by omega)] at x0 x1
  refine ⟨?_, ?_, (h.2 j hj).ok⟩
  · rw [Nat.zero_add, cell_of_row w g _ cur _ (0, 0) hc]; simpa using x0
  · rw [Nat.zero_add, cell_of_row w g _ cur _ (0, 0) hc]; simpa using x1
end
theorem zero_key2 : (Tryd.prog.info? 45).map (·.zero) = some (some (.agg (kC ⟨0, none, 0, 0, nou⟩))) := by kernel_rfl
end Go.Proofs.YtccoicjmmeoggaaDoor
