/- Texts of this claim put together; each theorem states its conditions. -/
import Derived.Test.YtccoicjmmeoggaaDoorGMacSealsCard9
import Derived.Test.YtccoicjmmeoggaaDoorGMacSealsCard2
import Derived.Test.YtccoicjmmeoggaaDoorCards
import Derived.Test.YtccoicjmmeoggaaDoorTie
import Derived.Test.YtccoicjmmeoggaaDoorGMacSealsCard1
import Derived.WalkKit
import Derived.ProofKit
import Derived.OpenShut
import Derived.LaidMore
import Derived.Deep.DeepHandedRow
import Derived.Deep.DeepWitnessRowRef
import Derived.Lib.LaidTab
import Derived.Stop.LaidErr
import Derived.ChangeOld
import Derived.SizedLaws
/- Seal of packets with lists that are alike; the parts of the laws. Each theorem states its conditions. -/
namespace Go.Proofs.YtccoicjmmeoggaaDoor
open Go.RowKit
set_option linter.unusedVariables false
set_option linter.unusedSimpArgs false

theorem al_slT {L L2 : Nat → It} {m id : Nat} {z : Nat → Int} (h : ∀ j, j < m → Alike (L j) (L2 j)) : ∀ j, j < m + 1 → (slT L m id z j).ty = (slT L2 m id z j).ty ∧ (slT L m id z j).n = (slT L2 m id z j).n ∧ ∀ i, i < (slT L m id z j).n → (slT L m id z j).z i = (slT L2 m id z j).z i := by
  intro j hj
  unfold slT
  by_cases e : j < m
  · rw [addT_lo _ _ _ _ e, addT_lo _ _ _ _ e]
    obtain ⟨a1, a2, a3⟩ := h j e
    exact ⟨a1, a2, fun _ _ => by rw [a3]⟩
  · obtain rfl : j = m := by omega
    rw [addT_hi, addT_hi]
    exact ⟨rfl, rfl, fun _ _ => rfl⟩
theorem wr_al (p : Pd) {L L2 : Nat → It} {id : Nat} {z : Nat → Int} (m0 : Nat) (h : ∀ j, j < p.m → Alike (L j) (L2 j)) :
    wrX (slP p) (slT L2 p.m id z) m0 = wrX (slP p) (slT L p.m id z) m0 ∧ wrN (slP p) (slT L2 p.m id z) m0 = wrN (slP p) (slT L p.m id z) m0 ∧ ∀ j, j < wrN (slP p) (slT L p.m id z) m0 → wrZ (slP p) (slT L2 p.m id z) m0 j = wrZ (slP p) (slT L p.m id z) m0 j :=
  wr_items (p := slP p) m0 (al_slT h)
theorem cutN_congr {n : Nat} {z z' : Nat → Int} (h : ∀ j, j < n → z j = z' j) : cutN n z = cutN n z' := by
  funext j
  unfold cutN
  split
  · exact h j (by assumption)
  · rfl
theorem se_al (p : Pd) {L L2 : Nat → It} (A : Option Addr) (c m0 id sn : Nat) (k : Nat → Int) (b : Bool) (h : ∀ j, j < p.m → Alike (L j) (L2 j)) :
    seX (withT p A p.m c) L2 m0 id sn b = seX p L m0 id sn b ∧ seN (withT p A p.m c) L2 m0 id sn b = seN p L m0 id sn b ∧ seZ (withT p A p.m c) L2 m0 id k sn b = seZ p L m0 id k sn b := by
  have e0 : ∀ z, wrX (slP (withT p A p.m c)) (slT L2 (withT p A p.m c).m id z) m0 = wrX (slP p) (slT L p.m id z) m0 := fun z => (wr_al p m0 h).1
  have e1 : ∀ z, wrN (slP (withT p A p.m c)) (slT L2 (withT p A p.m c).m id z) m0 = wrN (slP p) (slT L p.m id z) m0 := fun z => (wr_al p m0 h).2.1
  have e2 : ∀ z, cutN (wrN (slP p) (slT L p.m id nou) m0) (wrZ (slP (withT p A p.m c)) (slT L2 (withT p A p.m c).m id z) m0) = cutN (wrN (slP p) (slT L p.m id nou) m0) (wrZ (slP p) (slT L p.m id z) m0) := fun z => cutN_congr fun j hj => (wr_al p m0 h).2.2 j (by rw [(slT_z p L m0 id z nou).2]; exact hj)
  have eX : seX (withT p A p.m c) L2 m0 id sn b = seX p L m0 id sn b := by unfold seX; rw [e0]
  have eM : seM (withT p A p.m c) L2 m0 id k sn = seM p L m0 id k sn := by
    unfold seM
    rw [e1, e2]
    rfl
  refine ⟨eX, ?_, ?_⟩
  · unfold seN; rw [eX, e1]
  · unfold seZ; rw [eX, e1, eM, e2]
theorem hasSig_al {L L2 : Nat → It} {m : Nat} {b : Bool} (h : ∀ j, j < m → Alike (L j) (L2 j)) (hb : HasSig L m b) : HasSig L2 m b := by
  rcases hb with ⟨rfl, k, h1, h2, h3⟩ | ⟨rfl, h1⟩
  · exact .inl ⟨rfl, k, h1, (h k h1).1.symm.trans h2, fun j hj => by rw [← (h j (by omega)).1]; exact h3 j hj⟩
  · exact .inr ⟨rfl, fun j hj => by rw [← (h j hj).1]; exact h1 j hj⟩
theorem ends_al {L L2 : Nat → It} {m m0 id : Nat} {z : Nat → Int} (h : ∀ j, j < m → Alike (L j) (L2 j)) (hm : JEnds (slT L m id z) (m + 1) m0) : JEnds (slT L2 m id z) (m + 1) m0 :=
  jends_congr (fun j hj => (al_slT h j hj).2.1) hm
/-- Seal of a packet with a list that is alike, told by the packet itself -/
theorem seal_al (p : Pd) (hp : PdOk p) (L L2 : Nat → It) (A9 : Option Addr) (c9 m0 id : Nat) (A : Option Addr) (sn sc : Nat) (k : Nat → Int) (b : Bool) (hal : ∀ j, j < p.m → Alike (L j) (L2 j)) (hm : JEnds (slT L p.m id nou) (p.m + 1) m0) (w : World) (hR : RdT w A9 p.m L2) (hA : A9 = none → p.m = 0 ∧ c9 = 0) (h32 : p.m * 32 ≤ 140737488351232)
    (hid : id ≤ 65535) (hk : Rd w A sn k) (hkA : A = none → sn = 0 ∧ sc = 0) (hb : HasSig L p.m b) (hg : Rts w 0) :
    Calls Tryd.prog 18 #[.agg (pdC (withT p A9 p.m c9)), .agg (keyC id A sn sc)] w (WrP w (seN p L m0 id sn b) (seX p L m0 id sn b) (seZ p L m0 id k sn b)) := by
  obtain ⟨e1, e2, e3⟩ := se_al p A9 c9 m0 id sn k b hal
  rw [← e1, ← e2, ← e3]
  exact seal_any (withT p A9 p.m c9) hp L2 m0 id A sn sc k b (ends_al hal hm) w hR hA h32 hid hk hkA (hasSig_al hal hb) hg
/-- a packet's own list, one marked item behind it -/
def it77 : It := ⟨77, none, 0, 0, nou⟩
theorem build_77 (o : Oper) (e : Operand → Value) (ho : o.op = .build 49 #[(0, .const (.int .u8 77))]) (hc : ∀ v, e (.const v) = v) (W : World) : (execOp e o).run Tryd.prog W = .ok (.value (.agg (itC it77))) W := by
  unfold execOp
  simp only [ho]
  simp only [List.map_toArray, List.map_cons, List.map_nil, hc]
  kernel_rfl
/-- a list of the call's own, and one item more, which holds no bytes -/
def Mine (w : World) (base g c m : Nat) (L2 : Nat → It) : Prop := w.ownsRow base 49 2 (.slice (some ⟨g, 0, none⟩) (m + 1) c) (m + 1) (cellsT (addT L2 m it77) (m + 1)) ∧ ∀ j, j < m → OwnV w base (L2 j)
section
variable {w w' : World} {base g c m : Nat} {L2 : Nat → It}
theorem Mine.below {B : Nat} (h : Mine w base g c m L2) (hb : Below w.heap.size w w') (_ : base < B) : Mine w' base g c m L2 := ⟨ownsRow_below' h.1 hb, fun j hj => (h.2 j hj).below hb⟩
theorem Mine.blk (h : Mine w base g c m L2) : ∃ cur, w.heap[g]? = some (.cells cur 49 (0, 0)) ∧ base ≤ g ∧ m + 1 ≤ c ∧ c ≤ maxLen ∧ cur.toList.take ((m + 1) * 2) = cellsT (addT L2 m it77) (m + 1) := by
  rcases h.1.2 with ⟨h1, _⟩ | ⟨g2, cap, cur, hv, hb, hc, h1, h2, h3, h4⟩
  · cases h1
  · injection hv with h5 h6 h7
    injection h5 with h5
    injection h5 with h5 _ _
    subst h5 h7
    exact ⟨cur, hc, hb, h1, h2, h4⟩
theorem Mine.lt (h : Mine w base g c m L2) : base < w.heap.size := by
  obtain ⟨cur, hc, hb, _⟩ := h.blk
  exact Nat.lt_of_le_of_lt hb (Array.getElem?_eq_some_iff.1 hc).1
theorem Mine.far {b : Nat} {C : Array Value} {t : TypeId} (h : Mine w base g c m L2) (hs : Stored w w' b C t) (hk : b < base) : Mine w' base g c m L2 := by
  refine ⟨⟨h.1.1, ?_⟩, fun j hj => ?_⟩
  · rcases h.1.2 with h1 | ⟨g2, cap, cur, hv, hg, hc, r⟩
    · exact .inl h1
    · exact .inr ⟨g2, cap, cur, hv, hg, (hs.2.2 g2 (by omega)).trans hc, r⟩
  · obtain ⟨h1, h2, g, h3, h4, h5⟩ := h.2 j hj
    exact ⟨h1, h2, g, h3, h4, h5.block (hs.2.2 g (by omega))⟩
theorem Mine.rd (h : Mine w base g c m L2) : RdT w (some ⟨g, 0, none⟩) m L2 := by
  obtain ⟨cur, hc, hb, h1, h2, h4⟩ := h.blk
  refine .inr ⟨g, 0, rfl, (Array.getElem?_eq_some_iff.1 hc).1, fun j hj => ?_⟩
  obtain ⟨x0, x1⟩ := cellsT_at (addT L2 m it77) (m + 1) j (by omega)
  rw [addT_lo _ _ _ _ hj] at x0 x1
  rw [← h4, List.getElem?_take, if_pos (by omega)] at x0 x1
  refine ⟨?_, ?_, (h.2 j hj).ok⟩
  · rw [Nat.zero_add, cell_of_row w g _ cur _ (0, 0) hc]; simpa using x0
  · rw [Nat.zero_add, cell_of_row w g _ cur _ (0, 0) hc]; simpa using x1
theorem Mine.mark (h : Mine w base g c m L2) : w.cell? ⟨g, m * 2, none⟩ = some (.int .u8 77) := by
  obtain ⟨cur, hc, hb, h1, h2, h4⟩ := h.blk
  obtain ⟨x0, x1⟩ := cellsT_at (addT L2 m it77) (m + 1) m (by omega)
  rw [addT_hi] at x0
  rw [← h4, List.getElem?_take, if_pos (by omega)] at x0
  rw [cell_of_row w g _ cur _ (0, 0) hc]
  have x1 : cur[m * 2]? = some (.int .u8 it77.ty) := by simpa using x0
  exact x1
end
/-- the marked item behind a list of the call's own, as an operation -/
theorem tmark_run {o : Oper} {a : Act} {w : World} (s x : Operand) (ho : o.op = .call { callee := .builtin .append, args := #[s, x], argTypes := #[40, 40] })
    (w0 : World) (v : Value) (m : Nat) (L : Nat → It) (hs : a.eval s = v) (h : OwnT w w0.heap.size v m L) (N : Nat) (hx : a.eval x = .slice (some ⟨N, 0, none⟩) 1 1) (hK : Blk 49 w N (itC it77)) (hm : (m + 1) * 32 ≤ 140737488355328) (hb : Below w0.heap.size w0 w) :
    ∃ g c w', (execOp a.eval o).run Tryd.prog w = .ok (.value (.slice (some ⟨g, 0, none⟩) (m + 1) c)) w' ∧ Mine w' w0.heap.size g c m L ∧ Below w0.heap.size w0 w' := by
  obtain ⟨i0, hi, hz0, hz1, hz2⟩ := info_parts info_tlv
  obtain ⟨v', w', hr, h2, h3, h4, h5⟩ := run_append_own_at (P := Tryd.prog) w w0.heap.size 40 o.type 49 i0 _ 2 32 Tryd.underlying40 hi hz0 hz1 hz2 rfl (by decide) v m _ h.1 ⟨N, 0, none⟩ 1 1 (cellsT (fun _ => it77) 1) rfl (it_news hK _ rfl) (cellsT_one _ _) (by unfold maxLen; omega) (by omega) hb.size
  rw [cellsT_cat] at h2
  obtain ⟨g, c, cur, rfl, _⟩ := h2.2.resolve_left (fun h => by have := h.2; omega)
  refine ⟨g, c, w', ?_, ⟨h2, fun j hj => ownV_grown (v' := v) (h.2 j hj) h.1 h3⟩, hb.grown h3 hb.size (fun k e => (h.1.lt k e).1)⟩
  unfold execOp
  simp only [ho, resolve, invoke, builtin, Sem.run_bind, Sem.run_pure, Result.andThen_ok, List.map_toArray, List.map_cons, List.map_nil, hs, hx, hr]
theorem takeTm {ops : Array Oper} {Q : Exit → Act → World → Prop} {md : Region.Mode} {S : World → Prop} {i : Nat} {oi : Oper} (d : Option Tmp) {fuel : Nat} {listed : Array Bool} {a : Act} {w : World} (s x : Operand) (hi : ops[i]? = some oi) (hd : oi.dst = d)
    (hr : Region.ready md ops listed = [i]) (hw : Region.wanted oi (yielded ops a.tmps) = true)
    (ho : oi.op = .call { callee := .builtin .append, args := #[s, x], argTypes := #[40, 40] })
    {w0 : World} {v : Value} {m : Nat} {L : Nat → It} (hs : a.eval s = v) (h : OwnT w w0.heap.size v m L) {N : Nat} (hx : a.eval x = .slice (some ⟨N, 0, none⟩) 1 1) (hK : Blk 49 w N (itC it77)) (hm : (m + 1) * 32 ≤ 140737488355328) (hb : Below w0.heap.size w0 w)
    (k : ∀ g c w', Mine w' w0.heap.size g c m L → Below w0.heap.size w0 w' → S w' ∧ wpAnyH Tryd.prog md ops Q S fuel (listed.setIfInBounds i true) (a.put d (.slice (some ⟨g, 0, none⟩) (m + 1) c)) w') :
    wpAnyH Tryd.prog md ops Q S (fuel + 1) listed a w := by
  obtain ⟨g, c, w', h1, h2, h3⟩ := tmark_run s x ho w0 v m L hs h N hx hK hm hb
  obtain ⟨h7, h8⟩ := k g c w' h2 h3
  exact takeV d hi hd hr hw h1 h7 h8
theorem zero_key2 : (Tryd.prog.info? 45).map (·.zero) = some (some (.agg (kC ⟨0, none, 0, 0, nou⟩))) := by kernel_rfl
theorem drewB (w : World) (k : Nat) : Below w.heap.size w (w.drewN k) := ⟨rfl, rfl, rfl, Nat.le_refl _, fun k hk => rfl⟩
end Go.Proofs.YtccoicjmmeoggaaDoor

/- The walk of MacSeals: for every input the law returns true, and nothing that was there is written, if the table lies as the text lays it. -/
namespace Go.Proofs.YtccoicjmmeoggaaDoor
open Go.RowKit
set_option linter.unusedVariables false
set_option linter.unusedSimpArgs false

theorem rdK_one {w : World} {g : Nat} {t : It} (h : Blk 45 w g (kC t)) (hk : KeOk w t) : RdK w (some ⟨g, 0, none⟩) 1 (fun _ => t) :=
  ⟨.inr ⟨g, 0, rfl, h.lt, fun j hj => by
    obtain rfl : j = 0 := by omega
    exact h.all⟩, fun j hj => hk⟩
theorem slice_m0 (o : Oper) (e : Operand → Value) (x y : Operand) (ho : o.op = .slice 40 x none (some y) none) (g m n c : Nat) (h0 : e x = .slice (some ⟨g, 0, none⟩) n c) (h1 : e y = .int .i64 (m : Int)) (hm : m ≤ c) (W : World) :
    (execOp e o).run Tryd.prog W = .ok (.value (.slice (some ⟨g, 0, none⟩) m c)) W := by
  unfold execOp
  simp only [ho, h0, h1, Option.map_none, Option.map_some]
  have e3 : ¬ ((c : Int) < (m : Int)) := by omega
  have e4 : ¬ (c < m) := by omega
  simp [go_sem, e3, e4]
theorem slice_m1 (o : Oper) (e : Operand → Value) (x y : Operand) (ho : o.op = .slice 40 x none (some y) none) (g m c : Nat) (h0 : e x = .slice (some ⟨g, 0, none⟩) m c) (h1 : e y = .int .i64 ((m : Int) + 1)) (hm : m + 1 ≤ c) (hc : c ≤ 9223372036854775807) (W : World) :
    (execOp e o).run Tryd.prog W = .ok (.value (.slice (some ⟨g, 0, none⟩) (m + 1) c)) W := by
  unfold execOp
  simp only [ho, h0, h1, Option.map_none, Option.map_some]
  have e1 : ((m : Int) + 1).toNat = m + 1 := by omega
  have e2 : ¬ ((m : Int) + 1 < 0) := by omega
  have e3 : ¬ ((c : Int) < (m : Int) + 1) := by omega
  simp [go_sem, e1, e2, e3]
  try omega
theorem index_m (o : Oper) (e : Operand → Value) (x y : Operand) (ho : o.op = .indexAddr 40 x y) (g m c : Nat) (h0 : e x = .slice (some ⟨g, 0, none⟩) (m + 1) c) (h1 : e y = .int .i64 (m : Int)) (hm : m ≤ 140737488351232) (W : World) :
    (execOp e o).run Tryd.prog W = .ok (.value (.pointer (some ⟨g, m * 2, none⟩))) W := by
  unfold execOp
  simp only [ho, h0, h1]
  have e1 : (m : Int) < ((m + 1 : Nat) : Int) := by omega
  simp [go_sem, e1]
  try omega
set_option maxHeartbeats 40000000 in
set_option maxRecDepth 100000 in
theorem walkMacSeals (p : Pd) (L : Nat → It) (t : It) (w : World) (hin : InP w p L) (hke : KeOk w t) (hg : Rts w 0) :
    Calls Tryd.prog 4 #[.agg (pdC p), .agg (kC t)] w fun e w' => e = .returned (.bool true) ∧ Below w.heap.size w w' := by
  obtain ⟨hp, hR, hA, hmc, h32⟩ := hin
  obtain ⟨ty, A, sn, sc, k⟩ := t
  obtain ⟨⟨hty1, hty2⟩, hk, hkA, hkn⟩ := hke
  dsimp only at hty1 hty2 hk hkA hkn
  obtain ⟨id, rfl⟩ : ∃ id : Nat, ty = (id : Int) := ⟨ty.toNat, by omega⟩
  have hid : id ≤ 65535 := by omega
  obtain ⟨m0, hm⟩ := jends (slT L p.m id nou) (p.m + 1)
  obtain ⟨b, hb⟩ := hasSig_ex L p.m
  obtain ⟨N9, hN9⟩ : ∃ N, seN p L m0 id sn b = N := ⟨_, rfl⟩
  obtain ⟨X9, hX9⟩ : ∃ N, seX p L m0 id sn b = N := ⟨_, rfl⟩
  obtain ⟨Z9, hZ9⟩ : ∃ N, seZ p L m0 id k sn b = N := ⟨_, rfl⟩
  have HP := Lib.hid hp
  have HM := Lib.hid hm
  have HR := Lib.hid hR
  have HA := Lib.hid hA
  have H32 : Hid (p.m * 32 ≤ 140737488351232) := Lib.hid (by omega)
  have HID := Lib.hid hid
  have HK := Lib.hid hk
  have HKA := Lib.hid hkA
  have HKN := Lib.hid hkn
  have HBB := Lib.hid hb
  have RT := Lib.hid hg
  have HSP := Lib.hid (And.intro hN9 (And.intro hX9 hZ9))
  have hg9 := hg.2
  have hm9 : p.m ≤ 140737488351232 := by omega
  have hm8 : p.m ≤ p.c := hmc
  have hc8 : p.c ≤ 140737488351232 := by omega
  have HN92 : Hid (N9 ≤ 1492) := Lib.hid (by rw [← hN9]; unfold seN; split; exact wrN_le _ _ _; omega)
  clear hp hm hR hA h32 hid hk hkA hb hg hN9 hX9 hZ9 hmc hty1 hty2 hkn
  go_enter Tryd.func4, Tryd.ntmps4
  have HB := Lib.hid (Below.refl w.heap.size w)
  obtain ⟨N1, hN1⟩ : ∃ N, w.heap.size = N := ⟨_, rfl⟩
  have HN1 := Lib.hid hN1
  clear hN1
  go_wp2_with (refine wpList_box (op := ⟨some 2, _, _, _, _, _⟩) rfl 42 (.tmp 0) rfl (pdC p) rfl N1 HN1.out ?_; intro w1 k1 b1 s1; refine Hid.out ?_)
  refine Lib.hid ?_
  have KP := Lib.hid k1
  clear k1
  have lt_0_N1 : 0 < N1 := by rw [← HN1.out]; exact RT.out.lt
  have le_HB_N1 : w.heap.size ≤ N1 := by rw [← HN1.out]; exact HB.out.size
  have RTn := Lib.hid (RT.out.below b1 RT.out.lt)
  clear RT
  have RT := RTn
  clear RTn
  have HBn := Lib.hid (HB.out.trans (b1.mono HB.out.size))
  clear HB
  have HB := HBn
  clear HBn
  clear b1 HN1
  obtain ⟨N2, hN2⟩ : ∃ N, w1.heap.size = N := ⟨_, rfl⟩
  have HN2 := Lib.hid hN2
  clear hN2
  go_wp2_with (refine wpList_box (op := ⟨some 3, _, _, _, _, _⟩) rfl 45 (.tmp 1) rfl (kC ⟨(id : Int), A, sn, sc, k⟩) rfl N2 HN2.out ?_; intro w2 k1 b1 s1; refine Hid.out ?_)
  refine Lib.hid ?_
  have KK := Lib.hid k1
  clear k1
  have lt_0_N2 : 0 < N2 := by rw [← HN2.out]; exact RT.out.lt
  have lt_N1_N2 : N1 < N2 := by rw [← HN2.out]; exact KP.out.lt
  have le_HB_N2 : w.heap.size ≤ N2 := by rw [← HN2.out]; exact HB.out.size
  have RTn := Lib.hid (RT.out.below b1 RT.out.lt)
  clear RT
  have RT := RTn
  clear RTn
  have KPn := Lib.hid (KP.out.below b1 KP.out.lt)
  clear KP
  have KP := KPn
  clear KPn
  have HBn := Lib.hid (HB.out.trans (b1.mono HB.out.size))
  clear HB
  have HB := HBn
  clear HBn
  clear b1 HN2
  go_wp2_with fail
  refine (awakeH_any w2 RT.out).mono ?_
  rintro e w10 ⟨rfl, b1⟩
  have RTn := Lib.hid (RT.out.below b1 RT.out.lt)
  clear RT
  have RT := RTn
  clear RTn
  have KPn := Lib.hid (KP.out.below b1 KP.out.lt)
  clear KP
  have KP := KPn
  clear KPn
  have KKn := Lib.hid (KK.out.below b1 KK.out.lt)
  clear KK
  have KK := KKn
  clear KKn
  have HBn := Lib.hid (HB.out.trans (b1.mono HB.out.size))
  clear HB
  have HB := HBn
  clear HBn
  clear b1
  go_wp2_with (refine wpList_ld (op := ⟨some 13, _, _, _, _, _⟩) (by rfl) 42 (.tmp 2) rfl N1 0 rfl (pdC p) _ KP.out.all Tryd.underlying42 rfl info_pdR ?_; refine Hid.out ?_)
  refine Lib.hid ?_
  obtain ⟨N11, hN11⟩ : ∃ N, w10.heap.size = N := ⟨_, rfl⟩
  have HN11 := Lib.hid hN11
  clear hN11
  go_wp2_with (refine wpList_new (op := ⟨some 5, _, _, _, _, _⟩) rfl 46 rfl (pdC pd0) zero_pdP N11 HN11.out ?_; intro w11 k1 b1 s1; refine Hid.out ?_)
  refine Lib.hid ?_
  have K5 := Lib.hid k1
  clear k1
  have lt_0_N11 : 0 < N11 := by rw [← HN11.out]; exact RT.out.lt
  have lt_N1_N11 : N1 < N11 := by rw [← HN11.out]; exact KP.out.lt
  have lt_N2_N11 : N2 < N11 := by rw [← HN11.out]; exact KK.out.lt
  have le_HB_N11 : w.heap.size ≤ N11 := by rw [← HN11.out]; exact HB.out.size
  have RTn := Lib.hid (RT.out.below b1 RT.out.lt)
  clear RT
  have RT := RTn
  clear RTn
  have KPn := Lib.hid (KP.out.below b1 KP.out.lt)
  clear KP
  have KP := KPn
  clear KPn
  have KKn := Lib.hid (KK.out.below b1 KK.out.lt)
  clear KK
  have KK := KKn
  clear KKn
  have HBn := Lib.hid (HB.out.trans (b1.mono HB.out.size))
  clear HB
  have HB := HBn
  clear HBn
  clear b1 HN11
  go_wp2_with (refine wpList_st rfl 46 (.tmp 5) (.tmp 13) rfl N11 0 rfl (.agg (pdC p)) (pdC p) rfl rfl info_pdP (pdC_one _) K5.out (Nat.le_of_ble_eq_true rfl) (C' := pdC p) (pd_over _ _) ?_; intro w20 q1; refine Hid.out ?_)
  refine Lib.hid ?_
  have RTn := Lib.hid (RT.out.far q1 (by omega))
  clear RT
  have RT := RTn
  clear RTn
  have KPn := Lib.hid (KP.out.far q1 (by omega))
  clear KP
  have KP := KPn
  clear KPn
  have KKn := Lib.hid (KK.out.far q1 (by omega))
  clear KK
  have KK := KKn
  clear KKn
  have HBn := Lib.hid (HB.out.trans (q1.2.1 _ (by omega)))
  clear HB
  have HB := HBn
  clear HBn
  have K5n : Hid (Blk 46 w20 N11 (pdC p)) := Lib.hid q1.1
  clear K5
  have K5 := K5n
  clear K5n q1
  go_wp2_with fail
  go_cut [] (fun wc => ∃ g9 c9 B9 L2, Hid (Blk 46 wc N11 (pdC (withT p (some ⟨g9, 0, none⟩) p.m c9))) ∧ Hid (Mine wc B9 g9 c9 p.m L2) ∧ N11 < B9 ∧ Hid (Rts wc 0 ) ∧ Hid (Blk 42 wc N1 (pdC p)) ∧ Hid (Blk 45 wc N2 (kC ⟨(id : Int), A, sn, sc, k⟩)) ∧ Hid (∀ j, j < p.m → Alike (L j) (L2 j)) ∧ p.m + 1 ≤ c9 ∧ c9 ≤ 9223372036854775807 ∧ Hid (Below w.heap.size w wc))
  case first =>
    have K5O : Hid (BlO 46 w20 N11 (pdC p)) := Lib.hid K5.out
    clear K5
    have K5Od : Hid (BlO 46 w20.drew N11 (pdC p)) := Lib.hid K5O.out
    clear K5O
    refine wp_region_held_drew (S := fun w' => Rts w' 0  ∧ Blk 42 w' N1 (pdC p) ∧ Blk 45 w' N2 (kC ⟨(id : Int), A, sn, sc, k⟩) ∧ Below w.heap.size w w') (by kernel_rfl) ⟨RT.out, KP.out, KK.out, HB.out.drew⟩ (fun hS => ?_)
    generalize hW21 : w20.drew = W21 at hS K5Od ⊢
    clear hW21
    clear RT
    clear KP
    clear KK
    clear HB
    have K5O := K5Od
    clear K5Od
    have RT := Lib.hid hS.1
    have KP := Lib.hid hS.2.1
    have KK := Lib.hid hS.2.2.1
    have HB := Lib.hid hS.2.2.2
    have H0 : Hid (BeO W21 W21) := Lib.hid (Below.refl _ _)
    have K5b := Lib.hid K5O.out
    have RTb := Lib.hid RT.out
    have KPb := Lib.hid KP.out
    have KKb := Lib.hid KK.out
    have HBb := Lib.hid HB.out
    refine takeY (i := 0) (some 14) (v := .pointer (some ⟨N1, 46, none⟩)) rfl rfl (by kernel_rfl) (by kernel_rfl) (by kernel_rfl) (fun _ _ _ h => h) (by rfl) (fun w' hS => by go_simp) hS ?_
    simp only [Act.put, List.setIfInBounds_toArray, List.set_cons_zero, List.set_cons_succ]
    refine takeY (i := 1) (some 15) (v := .slice p.A p.m p.c) rfl rfl (by kernel_rfl) (by kernel_rfl) (by kernel_rfl) (fun _ _ _ h => h) (by rfl) (fun w' hS => by (have c9 : w'.cell? ⟨N1, 46, none⟩ = some (.slice p.A p.m p.c) := (hS.2.1.cell 46).trans rfl; clear hS; go_simp)) hS ?_
    simp only [Act.put, List.setIfInBounds_toArray, List.set_cons_zero, List.set_cons_succ]
    refine takeY (i := 3) (some 17) (v := .agg (itC it77)) rfl rfl (by kernel_rfl) (by kernel_rfl) (by kernel_rfl) (fun _ _ _ h => h) (by rfl) (fun w' hS => by exact build_77 _ _ rfl (fun _ => rfl) _) hS ?_
    simp only [Act.put, List.setIfInBounds_toArray, List.set_cons_zero, List.set_cons_succ]
    refine takeY (i := 6) (some 20) (v := .pointer (some ⟨N1, 46, none⟩)) rfl rfl (by kernel_rfl) (by kernel_rfl) (by kernel_rfl) (fun _ _ _ h => h) (by rfl) (fun w' hS => by go_simp) hS ?_
    simp only [Act.put, List.setIfInBounds_toArray, List.set_cons_zero, List.set_cons_succ]
    refine takeY (i := 7) (some 21) (v := .slice p.A p.m p.c) rfl rfl (by kernel_rfl) (by kernel_rfl) (by kernel_rfl) (fun _ _ _ h => h) (by rfl) (fun w' hS => by (have c9 : w'.cell? ⟨N1, 46, none⟩ = some (.slice p.A p.m p.c) := (hS.2.1.cell 46).trans rfl; clear hS; go_simp)) hS ?_
    simp only [Act.put, List.setIfInBounds_toArray, List.set_cons_zero, List.set_cons_succ]
    refine takeY (i := 8) (some 22) (v := .int .i64 (p.m : Int)) rfl rfl (by kernel_rfl) (by kernel_rfl) (by kernel_rfl) (fun _ _ _ h => h) (by rfl) (fun w' hS => by go_simp) hS ?_
    simp only [Act.put, List.setIfInBounds_toArray, List.set_cons_zero, List.set_cons_succ]
    obtain ⟨M22, hM22⟩ : ∃ N, W21.heap.size = N := ⟨_, rfl⟩
    have HM22 := Lib.hid hM22
    clear hM22
    refine wpAnyH_ready (show Region.ready _ _ _ = [2, 4] from by kernel_rfl) (by simp) (consCE (i := 2) (some 16) 16 #[.slice p.A p.m p.c] (R := fun v w' => ∃ L2, OwnT w' W21.heap.size v p.m L2 ∧ (∀ j, j < p.m → Alike (L j) (L2 j)) ∧ Below W21.heap.size W21 w') rfl rfl (by rfl) (by go_simp) ((twinT_any p.A p.m p.c L W21 (HR.out.below HB.out) H32.out).mono fun e w' h => h.elim fun v h => h.elim fun L2 h => ⟨v, h.1, L2, h.2⟩) (fun v w' h => by obtain ⟨L2, h1, h2, hbt⟩ := h; exact ⟨hS.1.below hbt hS.1.lt, hS.2.1.below hbt hS.2.1.lt, hS.2.2.1.below hbt hS.2.2.1.lt, hS.2.2.2.trans (hbt.mono hS.2.2.2.size)⟩) ?_ (consBsn (i := 4) (some 18) 1 49 (itC it77) rfl rfl (by rfl) (bs_one _ _ _ rfl it77 rfl) M22 HM22.out ?_ AllReadyH.nil))
    · skip
      clear HM22
      intro v W23 h hS2
      obtain ⟨L2, h1, h2, hbt⟩ := h
      clear hS2
      simp only [Act.put, List.setIfInBounds_toArray, List.set_cons_zero, List.set_cons_succ]
      have HT : Hid (TwO W23 W21.heap.size v p.m L2) := Lib.hid (h1.le (Below.size H0.out))
      have HAL := Lib.hid h2
      clear h1 h2
      have K5On := Lib.hid (K5O.out.below hbt)
      clear K5O
      have K5O := K5On
      clear K5On
      have H0n := Lib.hid (H0.out.below hbt)
      clear H0
      have H0 := H0n
      clear H0n
      have RTn := Lib.hid (RT.out.below hbt RT.out.lt)
      clear RT
      have RT := RTn
      clear RTn
      have KPn := Lib.hid (KP.out.below hbt KP.out.lt)
      clear KP
      have KP := KPn
      clear KPn
      have KKn := Lib.hid (KK.out.below hbt KK.out.lt)
      clear KK
      have KK := KKn
      clear KKn
      have HBn := Lib.hid (HB.out.trans (hbt.mono HB.out.size))
      clear HB
      have HB := HBn
      clear HBn
      clear hbt hS
      have hS := (And.intro RT.out (And.intro KP.out (And.intro KK.out HB.out)))
      obtain ⟨M24, hM24⟩ : ∃ N, W23.heap.size = N := ⟨_, rfl⟩
      have HM24 := Lib.hid hM24
      clear hM24
      refine takeBsn (i := 4) (some 18) 1 49 (itC it77) rfl rfl (by kernel_rfl) (by rfl) (bs_one _ _ _ rfl it77 rfl) M24 HM24.out ?_
      intro W25 k1 b1 s1
      refine ⟨⟨hS.1.below b1 hS.1.lt, hS.2.1.below b1 hS.2.1.lt, hS.2.2.1.below b1 hS.2.2.1.lt, hS.2.2.2.trans (b1.mono hS.2.2.2.size)⟩, ?_⟩
      simp only [Act.put, List.setIfInBounds_toArray, List.set_cons_zero, List.set_cons_succ]
      have KT : Hid (BlO 49 W25 M24 (itC it77)) := Lib.hid k1
      clear k1
      have K5On := Lib.hid (K5O.out.below b1)
      clear K5O
      have K5O := K5On
      clear K5On
      have H0n := Lib.hid (H0.out.below b1)
      clear H0
      have H0 := H0n
      clear H0n
      have HTn := Lib.hid (HT.out.below b1)
      clear HT
      have HT := HTn
      clear HTn
      have RTn := Lib.hid (RT.out.below b1 RT.out.lt)
      clear RT
      have RT := RTn
      clear RTn
      have KPn := Lib.hid (KP.out.below b1 KP.out.lt)
      clear KP
      have KP := KPn
      clear KPn
      have KKn := Lib.hid (KK.out.below b1 KK.out.lt)
      clear KK
      have KK := KKn
      clear KKn
      have HBn := Lib.hid (HB.out.trans (b1.mono HB.out.size))
      clear HB
      have HB := HBn
      clear HBn
      clear b1 hS HM24
      have hS := (And.intro RT.out (And.intro KP.out (And.intro KK.out HB.out)))
      refine takeTm (i := 5) (some 19) (.tmp 16) (.tmp 18) rfl rfl (by kernel_rfl) (by rfl) rfl rfl HT.out rfl KT.out (by have := H32.out; omega) H0.out ?_
      intro g9 c9 W26 h9 hb9
      have h91 : p.m + 1 ≤ c9 ∧ c9 ≤ 9223372036854775807 := by obtain ⟨_, _, _, h1, h2, _⟩ := h9.blk; exact ⟨h1, h2⟩
      have RT9 := Lib.hid (RTb.out.below hb9 RTb.out.lt)
      have KP9 := Lib.hid (KPb.out.below hb9 KPb.out.lt)
      have KK9 := Lib.hid (KKb.out.below hb9 KKb.out.lt)
      have HB9 := Lib.hid (HBb.out.trans (hb9.mono HBb.out.size))
      have K59 := Lib.hid (Blk.below K5b.out hb9 (Blk.lt K5b.out))
      refine ⟨⟨RT9.out, KP9.out, KK9.out, HB9.out⟩, ?_⟩
      simp only [Act.put, List.setIfInBounds_toArray, List.set_cons_zero, List.set_cons_succ]
      have H9 := Lib.hid h9
      have H91 := h91.1
      have H92 := h91.2
      clear h9 h91 hS HT KT K5O H0
      clear RT
      clear KP
      clear KK
      clear HB
      have hS : Rts W26 0  ∧ Blk 42 W26 N1 (pdC p) ∧ Blk 45 W26 N2 (kC ⟨(id : Int), A, sn, sc, k⟩) ∧ Below w.heap.size w W26 := ⟨RT9.out, KP9.out, KK9.out, HB9.out⟩
      refine takeY (i := 9) (some 23) (v := .slice (some ⟨g9, 0, none⟩) p.m c9) rfl rfl (by kernel_rfl) (by kernel_rfl) (by kernel_rfl) (fun _ _ _ h => h) (by rfl) (fun w' hS => by exact slice_m0 _ _ _ _ rfl g9 p.m (p.m + 1) c9 rfl rfl (by omega) _) hS ?_
      simp only [Act.put, List.setIfInBounds_toArray, List.set_cons_zero, List.set_cons_succ]
      refine takeY (i := 10) (some 24) (v := .pointer (some ⟨N11, 46, none⟩)) rfl rfl (by kernel_rfl) (by kernel_rfl) (by kernel_rfl) (fun _ _ _ h => h) (by rfl) (fun w' hS => by go_simp) hS ?_
      simp only [Act.put, List.setIfInBounds_toArray, List.set_cons_zero, List.set_cons_succ]
      clear hS
      refine takeSt (i := 11) 40 (.tmp 24) (.tmp 23) N11 46 (.slice (some ⟨g9, 0, none⟩) p.m c9) #[.slice (some ⟨g9, 0, none⟩) p.m c9] (pdC (withT p (some ⟨g9, 0, none⟩) p.m c9)) rfl rfl (by kernel_rfl) (by rfl) rfl rfl rfl rfl info_lt one_sl K59.out (Nat.le_of_ble_eq_true rfl) (pd_put _ _ _ _) ?_
      intro W27 q1
      have K5x : Hid (Blk 46 W27 N11 (pdC (withT p (some ⟨g9, 0, none⟩) p.m c9))) := Lib.hid q1.1
      have RTx := Lib.hid (RT9.out.far q1 (by omega))
      have KPx := Lib.hid (KP9.out.far q1 (by omega))
      have KKx := Lib.hid (KK9.out.far q1 (by omega))
      have HBx := Lib.hid (HB9.out.trans (q1.2.1 _ (by omega)))
      have H9x := Lib.hid (H9.out.far q1 (Blk.lt K5b.out))
      refine ⟨⟨RTx.out, KPx.out, KKx.out, HBx.out⟩, ?_⟩
      simp only [Act.put, List.setIfInBounds_toArray, List.set_cons_zero, List.set_cons_succ]
      refine wpAnyH_done (by kernel_rfl) ?_ _
      go_wp2_with fail
      go_meet
      case rel => exact ⟨g9, c9, W21.heap.size, L2, K5x, H9x, Blk.lt K5b.out, RTx, KPx, KKx, HAL, H91, H92, HBx⟩
    · skip
      intro W23 k1 b1 s1
      refine ⟨⟨hS.1.below b1 hS.1.lt, hS.2.1.below b1 hS.2.1.lt, hS.2.2.1.below b1 hS.2.2.1.lt, hS.2.2.2.trans (b1.mono hS.2.2.2.size)⟩, ?_⟩
      simp only [Act.put, List.setIfInBounds_toArray, List.set_cons_zero, List.set_cons_succ]
      have KT : Hid (BlO 49 W23 M22 (itC it77)) := Lib.hid k1
      clear k1
      have K5On := Lib.hid (K5O.out.below b1)
      clear K5O
      have K5O := K5On
      clear K5On
      have H0n := Lib.hid (H0.out.below b1)
      clear H0
      have H0 := H0n
      clear H0n
      have RTn := Lib.hid (RT.out.below b1 RT.out.lt)
      clear RT
      have RT := RTn
      clear RTn
      have KPn := Lib.hid (KP.out.below b1 KP.out.lt)
      clear KP
      have KP := KPn
      clear KPn
      have KKn := Lib.hid (KK.out.below b1 KK.out.lt)
      clear KK
      have KK := KKn
      clear KKn
      have HBn := Lib.hid (HB.out.trans (b1.mono HB.out.size))
      clear HB
      have HB := HBn
      clear HBn
      clear b1 hS HM22
      have hS := (And.intro RT.out (And.intro KP.out (And.intro KK.out HB.out)))
      refine takeCE (i := 2) (some 16) 16 #[.slice p.A p.m p.c] (R := fun v w' => ∃ L2, OwnT w' W23.heap.size v p.m L2 ∧ (∀ j, j < p.m → Alike (L j) (L2 j)) ∧ Below W23.heap.size W23 w') rfl rfl (by kernel_rfl) (by rfl) (by go_simp) ((twinT_any p.A p.m p.c L W23 (HR.out.below HB.out) H32.out).mono fun e w' h => h.elim fun v h => h.elim fun L2 h => ⟨v, h.1, L2, h.2⟩) (fun v w' h => by obtain ⟨L2, h1, h2, hbt⟩ := h; exact ⟨hS.1.below hbt hS.1.lt, hS.2.1.below hbt hS.2.1.lt, hS.2.2.1.below hbt hS.2.2.1.lt, hS.2.2.2.trans (hbt.mono hS.2.2.2.size)⟩) ?_
      intro v W24 h hS2
      obtain ⟨L2, h1, h2, hbt⟩ := h
      clear hS2
      simp only [Act.put, List.setIfInBounds_toArray, List.set_cons_zero, List.set_cons_succ]
      have HT : Hid (TwO W24 W21.heap.size v p.m L2) := Lib.hid (h1.le (Below.size H0.out))
      have HAL := Lib.hid h2
      clear h1 h2
      have K5On := Lib.hid (K5O.out.below hbt)
      clear K5O
      have K5O := K5On
      clear K5On
      have H0n := Lib.hid (H0.out.below hbt)
      clear H0
      have H0 := H0n
      clear H0n
      have KTn := Lib.hid (KT.out.below hbt)
      clear KT
      have KT := KTn
      clear KTn
      have RTn := Lib.hid (RT.out.below hbt RT.out.lt)
      clear RT
      have RT := RTn
      clear RTn
      have KPn := Lib.hid (KP.out.below hbt KP.out.lt)
      clear KP
      have KP := KPn
      clear KPn
      have KKn := Lib.hid (KK.out.below hbt KK.out.lt)
      clear KK
      have KK := KKn
      clear KKn
      have HBn := Lib.hid (HB.out.trans (hbt.mono HB.out.size))
      clear HB
      have HB := HBn
      clear HBn
      clear hbt hS
      have hS := (And.intro RT.out (And.intro KP.out (And.intro KK.out HB.out)))
      refine takeTm (i := 5) (some 19) (.tmp 16) (.tmp 18) rfl rfl (by kernel_rfl) (by rfl) rfl rfl HT.out rfl KT.out (by have := H32.out; omega) H0.out ?_
      intro g9 c9 W25 h9 hb9
      have h91 : p.m + 1 ≤ c9 ∧ c9 ≤ 9223372036854775807 := by obtain ⟨_, _, _, h1, h2, _⟩ := h9.blk; exact ⟨h1, h2⟩
      have RT9 := Lib.hid (RTb.out.below hb9 RTb.out.lt)
      have KP9 := Lib.hid (KPb.out.below hb9 KPb.out.lt)
      have KK9 := Lib.hid (KKb.out.below hb9 KKb.out.lt)
      have HB9 := Lib.hid (HBb.out.trans (hb9.mono HBb.out.size))
      have K59 := Lib.hid (Blk.below K5b.out hb9 (Blk.lt K5b.out))
      refine ⟨⟨RT9.out, KP9.out, KK9.out, HB9.out⟩, ?_⟩
      simp only [Act.put, List.setIfInBounds_toArray, List.set_cons_zero, List.set_cons_succ]
      have H9 := Lib.hid h9
      have H91 := h91.1
      have H92 := h91.2
      clear h9 h91 hS HT KT K5O H0
      clear RT
      clear KP
      clear KK
      clear HB
      have hS : Rts W25 0  ∧ Blk 42 W25 N1 (pdC p) ∧ Blk 45 W25 N2 (kC ⟨(id : Int), A, sn, sc, k⟩) ∧ Below w.heap.size w W25 := ⟨RT9.out, KP9.out, KK9.out, HB9.out⟩
      refine takeY (i := 9) (some 23) (v := .slice (some ⟨g9, 0, none⟩) p.m c9) rfl rfl (by kernel_rfl) (by kernel_rfl) (by kernel_rfl) (fun _ _ _ h => h) (by rfl) (fun w' hS => by exact slice_m0 _ _ _ _ rfl g9 p.m (p.m + 1) c9 rfl rfl (by omega) _) hS ?_
      simp only [Act.put, List.setIfInBounds_toArray, List.set_cons_zero, List.set_cons_succ]
      refine takeY (i := 10) (some 24) (v := .pointer (some ⟨N11, 46, none⟩)) rfl rfl (by kernel_rfl) (by kernel_rfl) (by kernel_rfl) (fun _ _ _ h => h) (by rfl) (fun w' hS => by go_simp) hS ?_
      simp only [Act.put, List.setIfInBounds_toArray, List.set_cons_zero, List.set_cons_succ]
      clear hS
      refine takeSt (i := 11) 40 (.tmp 24) (.tmp 23) N11 46 (.slice (some ⟨g9, 0, none⟩) p.m c9) #[.slice (some ⟨g9, 0, none⟩) p.m c9] (pdC (withT p (some ⟨g9, 0, none⟩) p.m c9)) rfl rfl (by kernel_rfl) (by rfl) rfl rfl rfl rfl info_lt one_sl K59.out (Nat.le_of_ble_eq_true rfl) (pd_put _ _ _ _) ?_
      intro W26 q1
      have K5x : Hid (Blk 46 W26 N11 (pdC (withT p (some ⟨g9, 0, none⟩) p.m c9))) := Lib.hid q1.1
      have RTx := Lib.hid (RT9.out.far q1 (by omega))
      have KPx := Lib.hid (KP9.out.far q1 (by omega))
      have KKx := Lib.hid (KK9.out.far q1 (by omega))
      have HBx := Lib.hid (HB9.out.trans (q1.2.1 _ (by omega)))
      have H9x := Lib.hid (H9.out.far q1 (Blk.lt K5b.out))
      refine ⟨⟨RTx.out, KPx.out, KKx.out, HBx.out⟩, ?_⟩
      simp only [Act.put, List.setIfInBounds_toArray, List.set_cons_zero, List.set_cons_succ]
      refine wpAnyH_done (by kernel_rfl) ?_ _
      go_wp2_with fail
      go_meet
      case rel => exact ⟨g9, c9, W21.heap.size, L2, K5x, H9x, Blk.lt K5b.out, RTx, KPx, KKx, HAL, H91, H92, HBx⟩
  case rest =>
  clear RT
  clear KP
  clear KK
  clear K5
  clear HB
  obtain ⟨g9, c9, B9, L2, K5, H9, lt_5_B9, RT, KP, KK, HAL, hc91, hc92, HB⟩ := hcut
  have lt_0_B9 : 0 < B9 := by omega
  have lt_N1_B9 : N1 < B9 := by omega
  have lt_N2_B9 : N2 < B9 := by omega
  go_wp2_with (refine wpList_ld (op := ⟨some 25, _, _, _, _, _⟩) (by rfl) 45 (.tmp 3) rfl N2 0 rfl (kC ⟨(id : Int), A, sn, sc, k⟩) _ KK.out.all Tryd.underlying45 rfl info_key ?_; refine Hid.out ?_)
  refine Lib.hid ?_
  obtain ⟨N101, hN101⟩ : ∃ N, wc.heap.size = N := ⟨_, rfl⟩
  have HN101 := Lib.hid hN101
  clear hN101
  go_wp2_with (refine wpList_bsn (op := ⟨some 26, _, _, _, _, _⟩) 1 rfl 45 (kC ⟨(id : Int), A, sn, sc, k⟩) (bs_key _ _ _ rfl ⟨(id : Int), A, sn, sc, k⟩ rfl) N101 HN101.out ?_; intro w101 k1 b1 s1; refine Hid.out ?_)
  refine Lib.hid ?_
  have KQ := Lib.hid k1
  clear k1
  have lt_0_N101 : 0 < N101 := by rw [← HN101.out]; exact RT.out.lt
  have lt_N1_N101 : N1 < N101 := by rw [← HN101.out]; exact KP.out.lt
  have lt_N2_N101 : N2 < N101 := by rw [← HN101.out]; exact KK.out.lt
  have lt_N11_N101 : N11 < N101 := by rw [← HN101.out]; exact K5.out.lt
  have lt_B9_N101 : B9 < N101 := by rw [← HN101.out]; exact H9.out.lt
  have le_HB_N101 : w.heap.size ≤ N101 := by rw [← HN101.out]; exact HB.out.size
  have RTn := Lib.hid (RT.out.below b1 RT.out.lt)
  clear RT
  have RT := RTn
  clear RTn
  have KPn := Lib.hid (KP.out.below b1 KP.out.lt)
  clear KP
  have KP := KPn
  clear KPn
  have KKn := Lib.hid (KK.out.below b1 KK.out.lt)
  clear KK
  have KK := KKn
  clear KKn
  have K5n := Lib.hid (K5.out.below b1 K5.out.lt)
  clear K5
  have K5 := K5n
  clear K5n
  have H9n := Lib.hid (H9.out.below b1 H9.out.lt)
  clear H9
  have H9 := H9n
  clear H9n
  have HBn := Lib.hid (HB.out.trans (b1.mono HB.out.size))
  clear HB
  have HB := HBn
  clear HBn
  clear b1 HN101
  go_wp2_with fail
  have HKQ := Lib.hid (rdK_one KQ.out ⟨by show (0 : Int) ≤ (id : Int) ∧ (id : Int) ≤ 65535; have := HID.out; omega, HK.out.below HB.out rfl, HKA.out, HKN.out⟩)
  refine (twinK_any _ 1 1 _ w101 HKQ.out (by decide)).mono ?_
  rintro e w120 ⟨v27, K2, rfl, ho, hal, b1⟩
  obtain ⟨A27, c27, rfl, hc1, hc2, hn27, hrd⟩ := ho.shape
  have hal0 := hal 0 (by omega)
  have hke := hrd.2 0 (by omega)
  obtain ⟨b27, o27, rfl, hr27⟩ := hrd.1.row (by omega)
  have hr28 := hr27.2 0 (by omega)
  rw [Nat.zero_mul, Nat.add_zero, show kR K2 0 = kC (K2 0) from rfl] at hr28
  have hb27 := hr27.1
  generalize K2 0 = t2 at hal0 hke hr28
  obtain ⟨ty2, ak, sn2, sk, k2⟩ := t2
  obtain ⟨e1, e2, e3⟩ := hal0
  dsimp only at e1 e2 e3
  subst e1 e2 e3
  have HKE := Lib.hid hke
  have HR28 := Lib.hid hr28
  have RTn := Lib.hid (RT.out.below b1 RT.out.lt)
  clear RT
  have RT := RTn
  clear RTn
  have KPn := Lib.hid (KP.out.below b1 KP.out.lt)
  clear KP
  have KP := KPn
  clear KPn
  have KKn := Lib.hid (KK.out.below b1 KK.out.lt)
  clear KK
  have KK := KKn
  clear KKn
  have K5n := Lib.hid (K5.out.below b1 K5.out.lt)
  clear K5
  have K5 := K5n
  clear K5n
  have H9n := Lib.hid (H9.out.below b1 H9.out.lt)
  clear H9
  have H9 := H9n
  clear H9n
  have KQn := Lib.hid (KQ.out.below b1 KQ.out.lt)
  clear KQ
  have KQ := KQn
  clear KQn
  have HBn := Lib.hid (HB.out.trans (b1.mono HB.out.size))
  clear HB
  have HB := HBn
  clear HBn
  clear ho hal hc1 hn27 hrd hr27 hke hr28 b1 HKQ KQ
  go_wp2_with (refine wpList_ld (op := ⟨some 29, _, _, _, _, _⟩) (by rfl) 45 (.tmp 28) rfl b27 o27 rfl (kC ⟨(id : Int), ak, sn, sk, k⟩) _ HR28.out Tryd.underlying45 rfl info_key ?_; refine Hid.out ?_)
  refine Lib.hid ?_
  obtain ⟨N121, hN121⟩ : ∃ N, w120.heap.size = N := ⟨_, rfl⟩
  have HN121 := Lib.hid hN121
  clear hN121
  have H9o := Lib.hid H9.out
  go_wp2_with (refine wpList_new (op := ⟨some 6, _, _, _, _, _⟩) rfl 45 rfl (kC ⟨0, none, 0, 0, nou⟩) zero_key2 N121 HN121.out ?_; intro w121 k1 b1 s1; refine Hid.out ?_)
  refine Lib.hid ?_
  have K6 := Lib.hid k1
  have HKE2 := Lib.hid (HKE.out.below b1)
  have hN6 := Lib.hid (Nat.le_of_eq HN121.out)
  have hbx := Lib.hid b1
  clear k1
  have lt_0_N121 : 0 < N121 := by rw [← HN121.out]; exact RT.out.lt
  have lt_N1_N121 : N1 < N121 := by rw [← HN121.out]; exact KP.out.lt
  have lt_N2_N121 : N2 < N121 := by rw [← HN121.out]; exact KK.out.lt
  have lt_N11_N121 : N11 < N121 := by rw [← HN121.out]; exact K5.out.lt
  have lt_B9_N121 : B9 < N121 := by rw [← HN121.out]; exact H9.out.lt
  have le_HB_N121 : w.heap.size ≤ N121 := by rw [← HN121.out]; exact HB.out.size
  have RTn := Lib.hid (RT.out.below b1 RT.out.lt)
  clear RT
  have RT := RTn
  clear RTn
  have KPn := Lib.hid (KP.out.below b1 KP.out.lt)
  clear KP
  have KP := KPn
  clear KPn
  have KKn := Lib.hid (KK.out.below b1 KK.out.lt)
  clear KK
  have KK := KKn
  clear KKn
  have K5n := Lib.hid (K5.out.below b1 K5.out.lt)
  clear K5
  have K5 := K5n
  clear K5n
  have H9n := Lib.hid (H9.out.below b1 H9.out.lt)
  clear H9
  have H9 := H9n
  clear H9n
  have HBn := Lib.hid (HB.out.trans (b1.mono HB.out.size))
  clear HB
  have HB := HBn
  clear HBn
  clear b1 HN121
  go_wp2_with (refine wpList_st rfl 45 (.tmp 6) (.tmp 29) rfl N121 0 rfl (.agg (kC ⟨(id : Int), ak, sn, sk, k⟩)) (kC ⟨(id : Int), ak, sn, sk, k⟩) rfl rfl info_key (kC_one _) K6.out (Nat.le_of_ble_eq_true rfl) (C' := kC ⟨(id : Int), ak, sn, sk, k⟩) (by rfl) ?_; intro w130 q1; refine Hid.out ?_)
  refine Lib.hid ?_
  have HKE3 := Lib.hid (HKE.out.below (hbx.out.trans (q1.2.1 _ hN6.out)))
  have H9n := Lib.hid (H9o.out.below (hbx.out.trans (q1.2.1 _ hN6.out)) (Nat.lt_succ_self _))
  have RTn := Lib.hid (RT.out.far q1 (by omega))
  clear RT
  have RT := RTn
  clear RTn
  have KPn := Lib.hid (KP.out.far q1 (by omega))
  clear KP
  have KP := KPn
  clear KPn
  have KKn := Lib.hid (KK.out.far q1 (by omega))
  clear KK
  have KK := KKn
  clear KKn
  have K5n := Lib.hid (K5.out.far q1 (by omega))
  clear K5
  have K5 := K5n
  clear K5n
  have HBn := Lib.hid (HB.out.trans (q1.2.1 _ (by omega)))
  clear HB
  have HB := HBn
  clear HBn
  have K6n : Hid (Blk 45 w130 N121 (kC ⟨(id : Int), ak, sn, sk, k⟩)) := Lib.hid q1.1
  clear K6
  have K6 := K6n
  clear K6n q1
  clear H9
  have H9 := H9n
  clear H9n H9o HKE HKE2 HR28 hbx hN6
  go_wp2_with (refine wpList_ld (op := ⟨some 31, _, _, _, _, _⟩) (by rfl) 46 (.tmp 5) rfl N11 0 rfl (pdC (withT p (some ⟨g9, 0, none⟩) p.m c9)) _ K5.out.all Tryd.underlying46 rfl info_pdP ?_; refine Hid.out ?_)
  refine Lib.hid ?_
  go_wp2_with (refine wpList_ld (op := ⟨some 32, _, _, _, _, _⟩) (by rfl) 45 (.tmp 6) rfl N121 0 rfl (kC ⟨(id : Int), ak, sn, sk, k⟩) _ K6.out.all Tryd.underlying45 rfl info_key ?_; refine Hid.out ?_)
  refine Lib.hid ?_
  go_wp2_with fail
  have HSE := Lib.hid (seal_al p HP.out L L2 (some ⟨g9, 0, none⟩) c9 m0 id ak sn sk k b HAL.out HM.out w130 H9.out.rd (fun e => by cases e) H32.out HID.out HKE3.out.2.1 HKE3.out.2.2.1 HBB.out RT.out)
  rw [HSP.out.1, HSP.out.2.1, HSP.out.2.2] at HSE
  refine HSE.out.mono ?_
  rintro e w140 ⟨AU, cu, rfl, hu1, hu2, hu3, b1, hu4⟩
  have HKE4 := Lib.hid (HKE3.out.below b1)
  have RTn := Lib.hid (RT.out.below b1 RT.out.lt)
  clear RT
  have RT := RTn
  clear RTn
  have KPn := Lib.hid (KP.out.below b1 KP.out.lt)
  clear KP
  have KP := KPn
  clear KPn
  have KKn := Lib.hid (KK.out.below b1 KK.out.lt)
  clear KK
  have KK := KKn
  clear KKn
  have K5n := Lib.hid (K5.out.below b1 K5.out.lt)
  clear K5
  have K5 := K5n
  clear K5n
  have K6n := Lib.hid (K6.out.below b1 K6.out.lt)
  clear K6
  have K6 := K6n
  clear K6n
  have H9n := Lib.hid (H9.out.below b1 H9.out.lt)
  clear H9
  have H9 := H9n
  clear H9n
  have HBn := Lib.hid (HB.out.trans (b1.mono HB.out.size))
  clear HB
  have HB := HBn
  clear HBn
  have HU : Hid (RdO w140 AU N9 Z9) := Lib.hid hu1
  clear hu1 hu2 hu3 hu4 b1 HSE HKE3
  go_wp2_with (refine wpList_ld (op := ⟨some 37, _, _, _, _, _⟩) (by rfl) 42 (.tmp 2) rfl N1 0 rfl (pdC p) _ KP.out.all Tryd.underlying42 rfl info_pdR ?_; refine Hid.out ?_)
  refine Lib.hid ?_
  go_wp2_with (refine wpList_ld (op := ⟨some 38, _, _, _, _, _⟩) (by rfl) 45 (.tmp 3) rfl N2 0 rfl (kC ⟨(id : Int), A, sn, sc, k⟩) _ KK.out.all Tryd.underlying45 rfl info_key ?_; refine Hid.out ?_)
  refine Lib.hid ?_
  go_wp2_with fail
  have HDS := Lib.hid (docSeal_any p HP.out L m0 id A sn sc k b HM.out w140 (HR.out.below HB.out) HA.out H32.out HID.out (HK.out.below HB.out rfl) HKA.out HBB.out)
  rw [HSP.out.1, HSP.out.2.1, HSP.out.2.2] at HDS
  refine HDS.out.mono ?_
  rintro e w150 ⟨AV, cv, rfl, hu1, hu2, hu3, b1, hu4⟩
  have HKE5 := Lib.hid (HKE4.out.below b1)
  have HU2 := Lib.hid (HU.out.below b1)
  clear HU
  have HU := HU2
  clear HU2
  have RTn := Lib.hid (RT.out.below b1 RT.out.lt)
  clear RT
  have RT := RTn
  clear RTn
  have KPn := Lib.hid (KP.out.below b1 KP.out.lt)
  clear KP
  have KP := KPn
  clear KPn
  have KKn := Lib.hid (KK.out.below b1 KK.out.lt)
  clear KK
  have KK := KKn
  clear KKn
  have K5n := Lib.hid (K5.out.below b1 K5.out.lt)
  clear K5
  have K5 := K5n
  clear K5n
  have K6n := Lib.hid (K6.out.below b1 K6.out.lt)
  clear K6
  have K6 := K6n
  clear K6n
  have H9n := Lib.hid (H9.out.below b1 H9.out.lt)
  clear H9
  have H9 := H9n
  clear H9n
  have HBn := Lib.hid (HB.out.trans (b1.mono HB.out.size))
  clear HB
  have HB := HBn
  clear HBn
  have HV : Hid (RdO w150 AV N9 Z9) := Lib.hid hu1
  clear hu1 hu2 hu3 hu4 b1 HDS HKE4
  have HKO : Hid (RdO w150 ak sn k) := Lib.hid HKE5.out.2.1
  go_wp2_with fail
  have HUd : Hid (RdO w150.drew AU N9 Z9) := Lib.hid HU.out
  clear HU
  have HVd : Hid (RdO w150.drew AV N9 Z9) := Lib.hid HV.out
  clear HV
  have HKOd : Hid (RdO w150.drew ak sn k) := Lib.hid HKO.out
  clear HKO
  refine wp_region_held_drew (S := fun w' => Rts w' 0  ∧ Blk 42 w' N1 (pdC p) ∧ Blk 45 w' N2 (kC ⟨(id : Int), A, sn, sc, k⟩) ∧ Blk 46 w' N11 (pdC (withT p (some ⟨g9, 0, none⟩) p.m c9)) ∧ Blk 45 w' N121 (kC ⟨(id : Int), ak, sn, sk, k⟩) ∧ Mine w' B9 g9 c9 p.m L2 ∧ Below w.heap.size w w') (by kernel_rfl) ⟨RT.out, KP.out, KK.out, K5.out, K6.out, H9.out, HB.out.drew⟩ (fun hS => ?_)
  generalize hW151 : w150.drew = W151 at hS HUd HVd HKOd ⊢
  clear hW151
  clear RT
  clear KP
  clear KK
  clear K5
  clear K6
  clear H9
  clear HB
  have HU := HUd
  clear HUd
  have HV := HVd
  clear HVd
  have HKO := HKOd
  clear HKOd
  have RT := Lib.hid hS.1
  have KP := Lib.hid hS.2.1
  have KK := Lib.hid hS.2.2.1
  have K5 := Lib.hid hS.2.2.2.1
  have K6 := Lib.hid hS.2.2.2.2.1
  have H9 := Lib.hid hS.2.2.2.2.2.1
  have HB := Lib.hid hS.2.2.2.2.2.2
  refine takeY (i := 0) (some 42) (v := .slice AU N9 cu) rfl rfl (by kernel_rfl) (by kernel_rfl) (by kernel_rfl) (fun _ _ _ h => h) (by rfl) (fun w' hS => by go_simp) hS ?_
  simp only [Act.put, List.setIfInBounds_toArray, List.set_cons_zero, List.set_cons_succ]
  refine takeY (i := 1) (some 43) (v := .slice AV N9 cv) rfl rfl (by kernel_rfl) (by kernel_rfl) (by kernel_rfl) (fun _ _ _ h => h) (by rfl) (fun w' hS => by go_simp) hS ?_
  simp only [Act.put, List.setIfInBounds_toArray, List.set_cons_zero, List.set_cons_succ]
  refine takeCE (i := 2) (some 44) 20 #[.slice AU N9 cu, .slice AV N9 cv] (R := fun v w' => v = .bool true ∧ Below W151.heap.size W151 w') rfl rfl (by kernel_rfl) (by rfl) (by go_simp) ((same_yes AU AV N9 cu cv Z9 Z9 W151 HU.out HV.out (fun _ _ => rfl) (by have := HN92.out; omega)).mono fun e w' h => ⟨_, h.1, rfl, h.2.elim fun n h => by rw [h]; exact drewB _ n⟩) (fun v w' h => by obtain ⟨rfl, hbq⟩ := h; exact ⟨hS.1.below hbq hS.1.lt, hS.2.1.below hbq hS.2.1.lt, hS.2.2.1.below hbq hS.2.2.1.lt, hS.2.2.2.1.below hbq hS.2.2.2.1.lt, hS.2.2.2.2.1.below hbq hS.2.2.2.2.1.lt, hS.2.2.2.2.2.1.below hbq hS.2.2.2.2.2.1.lt, hS.2.2.2.2.2.2.trans (hbq.mono hS.2.2.2.2.2.2.size)⟩) (fun v W152 h hS2 => ?_)
  obtain ⟨rfl, hbq⟩ := h
  clear hS2
  simp only [Act.put, List.setIfInBounds_toArray, List.set_cons_zero, List.set_cons_succ]
  have HUn := Lib.hid (HU.out.below hbq)
  clear HU
  have HU := HUn
  clear HUn
  have HVn := Lib.hid (HV.out.below hbq)
  clear HV
  have HV := HVn
  clear HVn
  have HKOn := Lib.hid (HKO.out.below hbq)
  clear HKO
  have HKO := HKOn
  clear HKOn
  have RTn := Lib.hid (RT.out.below hbq RT.out.lt)
  clear RT
  have RT := RTn
  clear RTn
  have KPn := Lib.hid (KP.out.below hbq KP.out.lt)
  clear KP
  have KP := KPn
  clear KPn
  have KKn := Lib.hid (KK.out.below hbq KK.out.lt)
  clear KK
  have KK := KKn
  clear KKn
  have K5n := Lib.hid (K5.out.below hbq K5.out.lt)
  clear K5
  have K5 := K5n
  clear K5n
  have K6n := Lib.hid (K6.out.below hbq K6.out.lt)
  clear K6
  have K6 := K6n
  clear K6n
  have H9n := Lib.hid (H9.out.below hbq H9.out.lt)
  clear H9
  have H9 := H9n
  clear H9n
  have HBn := Lib.hid (HB.out.trans (hbq.mono HB.out.size))
  clear HB
  have HB := HBn
  clear HBn
  clear hbq hS
  have hS := (And.intro RT.out (And.intro KP.out (And.intro KK.out (And.intro K5.out (And.intro K6.out (And.intro H9.out HB.out))))))
  refine takeY (i := 3) (some 45) (v := .bool true) rfl rfl (by kernel_rfl) (by kernel_rfl) (by kernel_rfl) (fun _ _ _ h => h) (by rfl) (fun w' hS => by go_simp) hS ?_
  simp only [Act.put, List.setIfInBounds_toArray, List.set_cons_zero, List.set_cons_succ]
  refine takeY (i := 4) (some 46) (v := .int .i64 X9) rfl rfl (by kernel_rfl) (by kernel_rfl) (by kernel_rfl) (fun _ _ _ h => h) (by rfl) (fun w' hS => by go_simp) hS ?_
  simp only [Act.put, List.setIfInBounds_toArray, List.set_cons_zero, List.set_cons_succ]
  refine takeY (i := 5) (some 47) (v := .int .i64 X9) rfl rfl (by kernel_rfl) (by kernel_rfl) (by kernel_rfl) (fun _ _ _ h => h) (by rfl) (fun w' hS => by go_simp) hS ?_
  simp only [Act.put, List.setIfInBounds_toArray, List.set_cons_zero, List.set_cons_succ]
  refine takeY (i := 6) (some 48) (v := .bool true) rfl rfl (by kernel_rfl) (by kernel_rfl) (by kernel_rfl) (fun _ _ _ h => h) (by rfl) (fun w' hS => by go_simp) hS ?_
  simp only [Act.put, List.setIfInBounds_toArray, List.set_cons_zero, List.set_cons_succ]
  refine takeY (i := 7) (some 49) (v := .bool true) rfl rfl (by kernel_rfl) (by kernel_rfl) (by kernel_rfl) (fun _ _ _ h => h) (by rfl) (fun w' hS => by go_simp) hS ?_
  simp only [Act.put, List.setIfInBounds_toArray, List.set_cons_zero, List.set_cons_succ]
  refine takeY (i := 8) (some 50) (v := .bool true) rfl rfl (by kernel_rfl) (by kernel_rfl) (by kernel_rfl) (fun _ _ _ h => h) (by rfl) (fun w' hS => by go_simp) hS ?_
  simp only [Act.put, List.setIfInBounds_toArray, List.set_cons_zero, List.set_cons_succ]
  refine takeY (i := 9) (some 51) (v := .pointer (some ⟨N11, 46, none⟩)) rfl rfl (by kernel_rfl) (by kernel_rfl) (by kernel_rfl) (fun _ _ _ h => h) (by rfl) (fun w' hS => by go_simp) hS ?_
  simp only [Act.put, List.setIfInBounds_toArray, List.set_cons_zero, List.set_cons_succ]
  refine takeY (i := 10) (some 52) (v := .slice (some ⟨g9, 0, none⟩) p.m c9) rfl rfl (by kernel_rfl) (by kernel_rfl) (by kernel_rfl) (fun _ _ _ h => h) (by rfl) (fun w' hS => by (have c9 : w'.cell? ⟨N11, 46, none⟩ = some (.slice (some ⟨g9, 0, none⟩) p.m c9) := (hS.2.2.2.1.cell 46).trans rfl; clear hS; go_simp)) hS ?_
  simp only [Act.put, List.setIfInBounds_toArray, List.set_cons_zero, List.set_cons_succ]
  refine takeY (i := 11) (some 53) (v := .pointer (some ⟨N1, 46, none⟩)) rfl rfl (by kernel_rfl) (by kernel_rfl) (by kernel_rfl) (fun _ _ _ h => h) (by rfl) (fun w' hS => by go_simp) hS ?_
  simp only [Act.put, List.setIfInBounds_toArray, List.set_cons_zero, List.set_cons_succ]
  refine takeY (i := 12) (some 54) (v := .slice p.A p.m p.c) rfl rfl (by kernel_rfl) (by kernel_rfl) (by kernel_rfl) (fun _ _ _ h => h) (by rfl) (fun w' hS => by (have c9 : w'.cell? ⟨N1, 46, none⟩ = some (.slice p.A p.m p.c) := (hS.2.1.cell 46).trans rfl; clear hS; go_simp)) hS ?_
  simp only [Act.put, List.setIfInBounds_toArray, List.set_cons_zero, List.set_cons_succ]
  refine takeCE (i := 13) (some 55) 21 #[.slice (some ⟨g9, 0, none⟩) p.m c9, .slice p.A p.m p.c] (R := fun v w' => v = .bool true ∧ Below W152.heap.size W152 w') rfl rfl (by kernel_rfl) (by rfl) (by go_simp) ((sameL_yes (some ⟨g9, 0, none⟩) p.A p.m c9 p.c L2 L W152 H9.out.rd (HR.out.below HB.out) (fun j hj => by obtain ⟨a1, a2, a3⟩ := HAL.out j hj; exact ⟨a1.symm, a2.symm, fun _ _ => by rw [a3]⟩) (by omega)).mono fun e w' h => ⟨_, h.1, rfl, h.2.elim fun n h => by rw [h]; exact drewB _ n⟩) (fun v w' h => by obtain ⟨rfl, hbq⟩ := h; exact ⟨hS.1.below hbq hS.1.lt, hS.2.1.below hbq hS.2.1.lt, hS.2.2.1.below hbq hS.2.2.1.lt, hS.2.2.2.1.below hbq hS.2.2.2.1.lt, hS.2.2.2.2.1.below hbq hS.2.2.2.2.1.lt, hS.2.2.2.2.2.1.below hbq hS.2.2.2.2.2.1.lt, hS.2.2.2.2.2.2.trans (hbq.mono hS.2.2.2.2.2.2.size)⟩) (fun v W153 h hS2 => ?_)
  obtain ⟨rfl, hbq⟩ := h
  clear hS2
  simp only [Act.put, List.setIfInBounds_toArray, List.set_cons_zero, List.set_cons_succ]
  have HUn := Lib.hid (HU.out.below hbq)
  clear HU
  have HU := HUn
  clear HUn
  have HVn := Lib.hid (HV.out.below hbq)
  clear HV
  have HV := HVn
  clear HVn
  have HKOn := Lib.hid (HKO.out.below hbq)
  clear HKO
  have HKO := HKOn
  clear HKOn
  have RTn := Lib.hid (RT.out.below hbq RT.out.lt)
  clear RT
  have RT := RTn
  clear RTn
  have KPn := Lib.hid (KP.out.below hbq KP.out.lt)
  clear KP
  have KP := KPn
  clear KPn
  have KKn := Lib.hid (KK.out.below hbq KK.out.lt)
  clear KK
  have KK := KKn
  clear KKn
  have K5n := Lib.hid (K5.out.below hbq K5.out.lt)
  clear K5
  have K5 := K5n
  clear K5n
  have K6n := Lib.hid (K6.out.below hbq K6.out.lt)
  clear K6
  have K6 := K6n
  clear K6n
  have H9n := Lib.hid (H9.out.below hbq H9.out.lt)
  clear H9
  have H9 := H9n
  clear H9n
  have HBn := Lib.hid (HB.out.trans (hbq.mono HB.out.size))
  clear HB
  have HB := HBn
  clear HBn
  clear hbq hS
  have hS := (And.intro RT.out (And.intro KP.out (And.intro KK.out (And.intro K5.out (And.intro K6.out (And.intro H9.out HB.out))))))
  refine takeY (i := 14) (some 56) (v := .bool true) rfl rfl (by kernel_rfl) (by kernel_rfl) (by kernel_rfl) (fun _ _ _ h => h) (by rfl) (fun w' hS => by go_simp) hS ?_
  simp only [Act.put, List.setIfInBounds_toArray, List.set_cons_zero, List.set_cons_succ]
  refine takeY (i := 15) (some 57) (v := .bool true) rfl rfl (by kernel_rfl) (by kernel_rfl) (by kernel_rfl) (fun _ _ _ h => h) (by rfl) (fun w' hS => by go_simp) hS ?_
  simp only [Act.put, List.setIfInBounds_toArray, List.set_cons_zero, List.set_cons_succ]
  refine takeY (i := 16) (some 58) (v := .pointer (some ⟨N11, 46, none⟩)) rfl rfl (by kernel_rfl) (by kernel_rfl) (by kernel_rfl) (fun _ _ _ h => h) (by rfl) (fun w' hS => by go_simp) hS ?_
  simp only [Act.put, List.setIfInBounds_toArray, List.set_cons_zero, List.set_cons_succ]
  refine takeY (i := 17) (some 59) (v := .slice (some ⟨g9, 0, none⟩) p.m c9) rfl rfl (by kernel_rfl) (by kernel_rfl) (by kernel_rfl) (fun _ _ _ h => h) (by rfl) (fun w' hS => by (have c9 : w'.cell? ⟨N11, 46, none⟩ = some (.slice (some ⟨g9, 0, none⟩) p.m c9) := (hS.2.2.2.1.cell 46).trans rfl; clear hS; go_simp)) hS ?_
  simp only [Act.put, List.setIfInBounds_toArray, List.set_cons_zero, List.set_cons_succ]
  refine takeY (i := 18) (some 60) (v := .pointer (some ⟨N1, 46, none⟩)) rfl rfl (by kernel_rfl) (by kernel_rfl) (by kernel_rfl) (fun _ _ _ h => h) (by rfl) (fun w' hS => by go_simp) hS ?_
  simp only [Act.put, List.setIfInBounds_toArray, List.set_cons_zero, List.set_cons_succ]
  refine takeY (i := 19) (some 61) (v := .slice p.A p.m p.c) rfl rfl (by kernel_rfl) (by kernel_rfl) (by kernel_rfl) (fun _ _ _ h => h) (by rfl) (fun w' hS => by (have c9 : w'.cell? ⟨N1, 46, none⟩ = some (.slice p.A p.m p.c) := (hS.2.1.cell 46).trans rfl; clear hS; go_simp)) hS ?_
  simp only [Act.put, List.setIfInBounds_toArray, List.set_cons_zero, List.set_cons_succ]
  refine takeY (i := 20) (some 62) (v := .int .i64 (p.m : Int)) rfl rfl (by kernel_rfl) (by kernel_rfl) (by kernel_rfl) (fun _ _ _ h => h) (by rfl) (fun w' hS => by go_simp) hS ?_
  simp only [Act.put, List.setIfInBounds_toArray, List.set_cons_zero, List.set_cons_succ]
  refine takeY (i := 21) (some 63) (v := .int .i64 ((p.m : Int) + 1)) rfl rfl (by kernel_rfl) (by kernel_rfl) (by kernel_rfl) (fun _ _ _ h => h) (by rfl) (fun w' hS => by (go_simp; rw [IntKind.wrap_i64]; omega)) hS ?_
  simp only [Act.put, List.setIfInBounds_toArray, List.set_cons_zero, List.set_cons_succ]
  refine takeY (i := 22) (some 64) (v := .slice (some ⟨g9, 0, none⟩) (p.m + 1) c9) rfl rfl (by kernel_rfl) (by kernel_rfl) (by kernel_rfl) (fun _ _ _ h => h) (by rfl) (fun w' hS => by exact slice_m1 _ _ _ _ rfl g9 p.m c9 rfl rfl (by omega) (by omega) _) hS ?_
  simp only [Act.put, List.setIfInBounds_toArray, List.set_cons_zero, List.set_cons_succ]
  refine takeY (i := 23) (some 65) (v := .pointer (some ⟨N1, 46, none⟩)) rfl rfl (by kernel_rfl) (by kernel_rfl) (by kernel_rfl) (fun _ _ _ h => h) (by rfl) (fun w' hS => by go_simp) hS ?_
  simp only [Act.put, List.setIfInBounds_toArray, List.set_cons_zero, List.set_cons_succ]
  refine takeY (i := 24) (some 66) (v := .slice p.A p.m p.c) rfl rfl (by kernel_rfl) (by kernel_rfl) (by kernel_rfl) (fun _ _ _ h => h) (by rfl) (fun w' hS => by (have c9 : w'.cell? ⟨N1, 46, none⟩ = some (.slice p.A p.m p.c) := (hS.2.1.cell 46).trans rfl; clear hS; go_simp)) hS ?_
  simp only [Act.put, List.setIfInBounds_toArray, List.set_cons_zero, List.set_cons_succ]
  refine takeY (i := 25) (some 67) (v := .int .i64 (p.m : Int)) rfl rfl (by kernel_rfl) (by kernel_rfl) (by kernel_rfl) (fun _ _ _ h => h) (by rfl) (fun w' hS => by go_simp) hS ?_
  simp only [Act.put, List.setIfInBounds_toArray, List.set_cons_zero, List.set_cons_succ]
  refine takeY (i := 26) (some 68) (v := .pointer (some ⟨g9, p.m * 2, none⟩)) rfl rfl (by kernel_rfl) (by kernel_rfl) (by kernel_rfl) (fun _ _ _ h => h) (by rfl) (fun w' hS => by exact index_m _ _ _ _ rfl g9 p.m c9 rfl rfl (by omega) _) hS ?_
  simp only [Act.put, List.setIfInBounds_toArray, List.set_cons_zero, List.set_cons_succ]
  refine takeY (i := 27) (some 69) (v := .pointer (some ⟨g9, p.m * 2, none⟩)) rfl rfl (by kernel_rfl) (by kernel_rfl) (by kernel_rfl) (fun _ _ _ h => h) (by rfl) (fun w' hS => by go_simp) hS ?_
  simp only [Act.put, List.setIfInBounds_toArray, List.set_cons_zero, List.set_cons_succ]
  refine takeY (i := 28) (some 70) (v := .int .u8 77) rfl rfl (by kernel_rfl) (by kernel_rfl) (by kernel_rfl) (fun _ _ _ h => h) (by rfl) (fun w' hS => by (have c9 := (hS.2.2.2.2.2.1).mark; clear hS; go_simp)) hS ?_
  simp only [Act.put, List.setIfInBounds_toArray, List.set_cons_zero, List.set_cons_succ]
  refine takeY (i := 29) (some 71) (v := .bool true) rfl rfl (by kernel_rfl) (by kernel_rfl) (by kernel_rfl) (fun _ _ _ h => h) (by rfl) (fun w' hS => by go_simp) hS ?_
  simp only [Act.put, List.setIfInBounds_toArray, List.set_cons_zero, List.set_cons_succ]
  refine takeY (i := 30) (some 72) (v := .bool true) rfl rfl (by kernel_rfl) (by kernel_rfl) (by kernel_rfl) (fun _ _ _ h => h) (by rfl) (fun w' hS => by go_simp) hS ?_
  simp only [Act.put, List.setIfInBounds_toArray, List.set_cons_zero, List.set_cons_succ]
  refine takeY (i := 31) (some 73) (v := .bool true) rfl rfl (by kernel_rfl) (by kernel_rfl) (by kernel_rfl) (fun _ _ _ h => h) (by rfl) (fun w' hS => by go_simp) hS ?_
  simp only [Act.put, List.setIfInBounds_toArray, List.set_cons_zero, List.set_cons_succ]
  refine takeY (i := 32) (some 74) (v := .pointer (some ⟨N121, 1, none⟩)) rfl rfl (by kernel_rfl) (by kernel_rfl) (by kernel_rfl) (fun _ _ _ h => h) (by rfl) (fun w' hS => by go_simp) hS ?_
  simp only [Act.put, List.setIfInBounds_toArray, List.set_cons_zero, List.set_cons_succ]
  refine takeY (i := 33) (some 75) (v := .slice ak sn sk) rfl rfl (by kernel_rfl) (by kernel_rfl) (by kernel_rfl) (fun _ _ _ h => h) (by rfl) (fun w' hS => by (have c9 : w'.cell? ⟨N121, 1, none⟩ = some (.slice ak sn sk) := (hS.2.2.2.2.1.cell 1).trans rfl; clear hS; go_simp)) hS ?_
  simp only [Act.put, List.setIfInBounds_toArray, List.set_cons_zero, List.set_cons_succ]
  refine takeY (i := 34) (some 76) (v := .pointer (some ⟨N2, 1, none⟩)) rfl rfl (by kernel_rfl) (by kernel_rfl) (by kernel_rfl) (fun _ _ _ h => h) (by rfl) (fun w' hS => by go_simp) hS ?_
  simp only [Act.put, List.setIfInBounds_toArray, List.set_cons_zero, List.set_cons_succ]
  refine takeY (i := 35) (some 77) (v := .slice A sn sc) rfl rfl (by kernel_rfl) (by kernel_rfl) (by kernel_rfl) (fun _ _ _ h => h) (by rfl) (fun w' hS => by (have c9 : w'.cell? ⟨N2, 1, none⟩ = some (.slice A sn sc) := (hS.2.2.1.cell 1).trans rfl; clear hS; go_simp)) hS ?_
  simp only [Act.put, List.setIfInBounds_toArray, List.set_cons_zero, List.set_cons_succ]
  refine takeCE (i := 36) (some 78) 20 #[.slice ak sn sk, .slice A sn sc] (R := fun v w' => v = .bool true ∧ Below W153.heap.size W153 w') rfl rfl (by kernel_rfl) (by rfl) (by go_simp) ((same_yes ak A sn sk sc k k W153 HKO.out (HK.out.below HB.out rfl) (fun _ _ => rfl) (by have := HKN.out; omega)).mono fun e w' h => ⟨_, h.1, rfl, h.2.elim fun n h => by rw [h]; exact drewB _ n⟩) (fun v w' h => by obtain ⟨rfl, hbq⟩ := h; exact ⟨hS.1.below hbq hS.1.lt, hS.2.1.below hbq hS.2.1.lt, hS.2.2.1.below hbq hS.2.2.1.lt, hS.2.2.2.1.below hbq hS.2.2.2.1.lt, hS.2.2.2.2.1.below hbq hS.2.2.2.2.1.lt, hS.2.2.2.2.2.1.below hbq hS.2.2.2.2.2.1.lt, hS.2.2.2.2.2.2.trans (hbq.mono hS.2.2.2.2.2.2.size)⟩) (fun v W154 h hS2 => ?_)
  obtain ⟨rfl, hbq⟩ := h
  clear hS2
  simp only [Act.put, List.setIfInBounds_toArray, List.set_cons_zero, List.set_cons_succ]
  have HUn := Lib.hid (HU.out.below hbq)
  clear HU
  have HU := HUn
  clear HUn
  have HVn := Lib.hid (HV.out.below hbq)
  clear HV
  have HV := HVn
  clear HVn
  have HKOn := Lib.hid (HKO.out.below hbq)
  clear HKO
  have HKO := HKOn
  clear HKOn
  have RTn := Lib.hid (RT.out.below hbq RT.out.lt)
  clear RT
  have RT := RTn
  clear RTn
  have KPn := Lib.hid (KP.out.below hbq KP.out.lt)
  clear KP
  have KP := KPn
  clear KPn
  have KKn := Lib.hid (KK.out.below hbq KK.out.lt)
  clear KK
  have KK := KKn
  clear KKn
  have K5n := Lib.hid (K5.out.below hbq K5.out.lt)
  clear K5
  have K5 := K5n
  clear K5n
  have K6n := Lib.hid (K6.out.below hbq K6.out.lt)
  clear K6
  have K6 := K6n
  clear K6n
  have H9n := Lib.hid (H9.out.below hbq H9.out.lt)
  clear H9
  have H9 := H9n
  clear H9n
  have HBn := Lib.hid (HB.out.trans (hbq.mono HB.out.size))
  clear HB
  have HB := HBn
  clear HBn
  clear hbq hS
  have hS := (And.intro RT.out (And.intro KP.out (And.intro KK.out (And.intro K5.out (And.intro K6.out (And.intro H9.out HB.out))))))
  refine takeY (i := 37) (some 79) (v := .bool true) rfl rfl (by kernel_rfl) (by kernel_rfl) (by kernel_rfl) (fun _ _ _ h => h) (by rfl) (fun w' hS => by go_simp) hS ?_
  simp only [Act.put, List.setIfInBounds_toArray, List.set_cons_zero, List.set_cons_succ]
  refine takeY (i := 38) (some 4) (v := .bool true) rfl rfl (by kernel_rfl) (by kernel_rfl) (by kernel_rfl) (fun _ _ _ h => h) (by rfl) (fun w' hS => by go_simp) hS ?_
  simp only [Act.put, List.setIfInBounds_toArray, List.set_cons_zero, List.set_cons_succ]
  clear hS
  refine wpAnyH_done (by kernel_rfl) ?_ _
  go_wp2_with fail
  go_ret
  exact ⟨rfl, HB.out⟩
end Go.Proofs.YtccoicjmmeoggaaDoor

/- What mac's rows have alike: the table of roots, out of the row's list; a start that meets the list. -/
namespace Go.Proofs.YtccoicjmmeoggaaDoor
open Go.ChangeShapes Go.WideShapes Go.ChangeAt Go.RowKit
set_option linter.unusedVariables false

theorem own : ownKnob Tryd.prog.godebug = none := by kernel_rfl
theorem laidOut : laidOutB Tryd.prog = true := by kernel_rfl
theorem gRoot : Tryd.prog.globalNamed "waymark/mac.roots" = some 0 := by kernel_rfl
theorem gRootT : (Tryd.prog.globals[0]?).map (·.type) = some 76 := by kernel_rfl
theorem gRootC : Tryd.prog.cellsOf 76 = 64 := by kernel_rfl
theorem cu32 : Tryd.prog.cellsOf 39 = 1 := by kernel_rfl
def rootI : List Int := rootL.map fun (n : Nat) => (n : Int)
/-- what the rows list -/
def laidL : List (String × DataW Unit) := Rows.macPadsRow.laid
theorem laidL_eq : laidL = [("waymark/mac.roots", Lib.tabData .u32 rootI)] := by kernel_rfl
theorem rts_of_laid {W : World} (h : laidMetH Tryd.prog laidL W) : Rts W 0 := by
  rw [laidL_eq] at h
  rw [MakeChecks.laidMetH_plain _ _ _ (by kernel_rfl)] at h
  have ht := Lib.tabIs_of_head gRoot gRootT Tryd.underlying76 Tryd.underlying39 cu32 gRootC h
  refine ⟨fun i hi => ?_, ?_⟩
  · rw [ht.cell gRoot i (by show i < 64; exact hi)]
    unfold rootI rootN
    rw [List.getD_eq_getElem?_getD, List.getD_eq_getElem?_getD, List.getElem?_map]
    have hl : rootL.length = 64 := rfl
    rw [List.getElem?_eq_getElem (by rw [hl]; exact hi)]
    rfl
  · have hc := ht.cell gRoot 0 (by decide)
    exact World.block_lt_of_cell? W _ hc
/-- A start for the witness: the door's own. -/
noncomputable def laidWorld (os : Os) : World := World.doorLaid Tryd.prog 72 os
theorem laid_met (os : Os) (args : Array Value) : laidMet Tryd.prog laidL ((laidWorld os).forCall (fun _ _ => 0) ⟨#[], args, []⟩).memory :=
  laidMet_of_run' 8 (by kernel_rfl) (by kernel_rfl)
end Go.Proofs.YtccoicjmmeoggaaDoor
