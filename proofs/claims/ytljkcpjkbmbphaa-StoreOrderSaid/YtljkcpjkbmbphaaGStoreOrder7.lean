/- Texts of this claim put together; each theorem states its conditions. -/
import Derived.Test.YtljkcpjkbmbphaaGStoreOrder6
import Derived.Deep.DeepCutAuto
/- The walk of StoreOrder: for every input the law returns true, and nothing that was there is written. No condition. -/
namespace Go.Proofs.Ytljkcpjkbmbphaa
open Go.RowKit
set_option linter.unusedVariables false
set_option linter.unusedSimpArgs false

def By8 (w : World) (g n cap : Nat) (z : Nat → Int) : Prop := Own8 w g n cap z
section
variable {w w' : World} {g n cap : Nat} {z : Nat → Int}
theorem By8.lt (h : By8 w g n cap z) : g < w.heap.size := Own8.lt h
theorem By8.below {B : Nat} (h : By8 w g n cap z) (hb : Below B w w') (hB : g < B) : By8 w' g n cap z := Own8.below h hb hB
theorem By8.far {b : Nat} {C : Array Value} {t : TypeId} (h : By8 w g n cap z) (hs : Stored w w' b C t) (hk : g ≠ b) : By8 w' g n cap z := Own8.block h (hs.2.2 g hk)
end
/-- a packet as the law offers it -/
def oP (x : Pd) (id : Nat → Int) (kd : Int) : Pd := ⟨kd, x.ci, x.so, x.ho, x.nu, x.pr, x.la, x.li, id, x.sq, x.bi, x.st, x.en, x.A, min x.m 4, x.c⟩
def idP (x : Pd) (id : Nat → Int) : Pd := ⟨x.kd, x.ci, x.so, x.ho, x.nu, x.pr, x.la, x.li, id, x.sq, x.bi, x.st, x.en, x.A, x.m, x.c⟩
def kdP' (x : Pd) (kd : Int) : Pd := ⟨kd, x.ci, x.so, x.ho, x.nu, x.pr, x.la, x.li, x.id, x.sq, x.bi, x.st, x.en, x.A, x.m, x.c⟩
theorem pd_id (p : Pd) (id : Nat → Int) : putMany (pdC p) 20 [.int .u8 (id 0), .int .u8 (id 1), .int .u8 (id 2), .int .u8 (id 3), .int .u8 (id 4), .int .u8 (id 5), .int .u8 (id 6), .int .u8 (id 7)] = pdC (idP p id) := by kernel_rfl
theorem pd_kd (p : Pd) (k : Int) : putMany (pdC p) 0 [.int .u8 k] = pdC (kdP' p k) := by kernel_rfl
theorem pd_tl4 (p : Pd) (id : Nat → Int) (k : Int) : putMany (pdC (kdP' (idP p id) k)) 46 [.slice p.A (min p.m 4) p.c] = pdC (oP p id k) := by kernel_rfl
theorem info_tls : (Try.prog.info? 40).map (·.size) = some 1 := by kernel_rfl
theorem info_u81 : (Try.prog.info? 5).map (·.size) = some 1 := by kernel_rfl
theorem one_u8v (k : Int) : (#[Value.int .u8 k] : Array Value).all (·.oneCell') = true := by kernel_rfl
theorem id_oneA (id : Nat → Int) : (idC id).all (·.oneCell') = true := by kernel_rfl
theorem zero_p3 : (Try.prog.info? 70).map (·.zero) = some (some (.agg #[.slice none 0 0, .slice none 0 0, .slice none 0 0])) := by kernel_rfl
theorem bs_pd3 (W : World) (o : Oper) (e : Operand → Value) {x y z : Operand} (ho : o.op = .buildSlice 22 3 #[(0, x), (1, y), (2, z)]) (a b c : Pd) (hx : e x = .agg (pdC a)) (hy : e y = .agg (pdC b)) (hz : e z = .agg (pdC c)) :
    (execOp e o).run Try.prog W = .ok (.value (.slice (some ⟨W.heap.size, 0, none⟩) 3 3)) (W.alloc (.cells (pdC a ++ pdC b ++ pdC c) 42)) := by
  unfold execOp
  simp only [ho]
  simp only [List.map_toArray, List.map_cons, List.map_nil, hx, hy, hz]
  kernel_rfl
theorem wpList_bsn {ops : Array Oper} {Q : Exit → Act → World → Prop} {rest : List Oper} {op : Oper} {a : Act} {w : World} (n : Nat) (hgd : op.guard = none) (t : TypeId) (C : Array Value) (hx : (execOp a.eval op).run Try.prog w = .ok (.value (.slice (some ⟨w.heap.size, 0, none⟩) n n)) (w.alloc (.cells C t)))
    (N : Nat) (hN : w.heap.size = N) (h : ∀ w', Blk t w' N C → Below w.heap.size w w' → N + 1 ≤ w'.heap.size → wpList Try.prog ops Q rest (a.put op.dst (.slice (some ⟨N, 0, none⟩) n n)) w') : wpList Try.prog ops Q (op :: rest) a w := by
  subst hN
  exact wpList_v hgd _ hx (h _ (heap_alloc_new w _) ((Below.refl _ _).alloc (Nat.le_refl _) _) (by simp))
theorem three_0 {w : World} {g : Nat} {a b c : Pd} {t : TypeId} (h : Blk t w g (pdC a ++ pdC b ++ pdC c)) : w.rangeAt g 0 (pdC a).toList := h.range fun j hj => by
  have hj' : j < 47 := hj
  rw [Array.getElem?_append_left (by simp [pdC_size]; omega), Array.getElem?_append_left (by simp [pdC_size]; omega), Array.getElem?_toList, Nat.zero_add]
theorem three_1 {w : World} {g : Nat} {a b c : Pd} {t : TypeId} (h : Blk t w g (pdC a ++ pdC b ++ pdC c)) : w.rangeAt g 47 (pdC b).toList := h.range fun j hj => by
  have hj' : j < 47 := hj
  rw [Array.getElem?_append_left (by simp [pdC_size]; omega), Array.getElem?_append_right (by simp [pdC_size]), Array.getElem?_toList]
  congr 1
  simp [pdC_size]
theorem two_size (a b : Pd) : (pdC a ++ pdC b).size = 94 := by rw [Array.size_append, pdC_size, pdC_size]
theorem three_2 {w : World} {g : Nat} {a b c : Pd} {t : TypeId} (h : Blk t w g (pdC a ++ pdC b ++ pdC c)) : w.rangeAt g 94 (pdC c).toList := h.range fun j hj => by
  rw [Array.getElem?_append_right (by rw [two_size]; omega), two_size, Nat.add_sub_cancel_left, Array.getElem?_toList]
theorem rdT_min {w : World} {A : Option Addr} {m k : Nat} {L : Nat → It} (h : RdT w A m L) (hk : k ≤ m) : RdT w A k L := by
  rcases Nat.eq_zero_or_pos k with rfl | hp
  · exact .inl rfl
  · obtain ⟨b, off, rfl, hr⟩ := h.row (by omega)
    exact .inr ⟨b, off, rfl, hr.1, fun j hj => hr.2 j (by omega)⟩
theorem oP_ok {x : Pd} {id : Nat → Int} {kd : Int} (h : PdOk x) (hid : ∀ j, 0 ≤ id j ∧ id j ≤ 255) (hk : kd = 18 ∨ kd = 20) : PdOk (oP x id kd) := by
  obtain ⟨⟨h1, h2, h3, h4, h5, h6, h7⟩, h8, h9, h10, h11, h12, h13⟩ := h
  have hb : by1 kd := by rcases hk with rfl | rfl <;> exact ⟨by decide, by decide⟩
  exact ⟨⟨hb, h2, h3, h4, h5, h6, h7⟩, h8, hid, h10, h11, h12, h13⟩
/-- what is known of the bytes that such a packet has -/
structure OW (p : Pd) (L : Nat → It) (id : Nat → Int) (n : Nat) (z : Nat → Int) : Prop where
  hn : 27 ≤ n ∧ n ≤ 1492
  h4 : cls (z 4) = 2
  good : GoodZ z n p.m
  bd : ∀ j, 0 ≤ z j ∧ z j ≤ 255
  hid : ∀ j, j < 8 → z (12 + j) = id j
theorem oP_wr {x : Pd} {id : Nat → Int} {kd : Int} {L : Nat → It} {m0 : Nat} {w : World} (hp : PdOk (oP x id kd)) (hk : kd = 18 ∨ kd = 20) (hm : JEnds L (oP x id kd).m m0) (hR : RdT w x.A (oP x id kd).m L) (hX : wrX (oP x id kd) L m0 = 0) : OW (oP x id kd) L id (wrN (oP x id kd) L m0) (wrZ (oP x id kd) L m0) := by
  have hc : cls (oP x id kd).kd = 2 := by show cls kd = 2; rcases hk with rfl | rfl <;> rfl
  have hX2 := hX
  unfold wrX at hX2
  split at hX2
  · omega
  split at hX2
  · omega
  rename_i h1 h2
  have hf : fitP (oP x id kd) (cls (oP x id kd).kd) = true := by
    cases hf : fitP (oP x id kd) (cls (oP x id kd).kd)
    · exact absurd (.inr hf) h1
    · rfl
  obtain ⟨e1, e2, e3⟩ := wr_0 (oP x id kd) L m0 h1 h2
  have hm0 : m0 = (oP x id kd).m := by have := hm.1; omega
  have hJ := J_rd hR (fun k hk => hm.2.1 k (by omega))
  have hzb := pdZ_bd (oP x id kd) (cls (oP x id kd).kd) L (by rw [hc]; decide) hp hJ
  have hg := good_pd (oP x id kd) L hp (by rw [hc]; decide) hf (by omega) hzb
  rw [e2, e3]
  refine ⟨⟨?_, by omega⟩, ?_, hg, hzb, fun j hj => ?_⟩
  · have : hdN (cls (oP x id kd).kd) = 27 := by rw [hc]; rfl
    omega
  · rw [pd_head (oP x id kd) _ L (by rw [hc]; decide) 4 (by decide)]
    exact hc
  · rw [hc]
    exact pd_field (oP x id kd) 2 L 2 j (by decide) hj (by decide)
theorem idZ_of {z : Nat → Int} {id : Nat → Int} (h : ∀ j, j < 8 → z (12 + j) = id j) : idZ z = (id 0).toNat * 72057594037927936 + (id 1).toNat * 281474976710656 + (id 2).toNat * 1099511627776 + (id 3).toNat * 4294967296 + (id 4).toNat * 16777216 + (id 5).toNat * 65536 + (id 6).toNat * 256 + (id 7).toNat := by
  unfold idZ
  rw [show z 12 = id 0 from h 0 (by decide), show z 13 = id 1 from h 1 (by decide), show z 14 = id 2 from h 2 (by decide), show z 15 = id 3 from h 3 (by decide), show z 16 = id 4 from h 4 (by decide), show z 17 = id 5 from h 5 (by decide), show z 18 = id 6 from h 6 (by decide), show z 19 = id 7 from h 7 (by decide)]
theorem min_run (o : Oper) (e : Operand → Value) (x y : Operand) (ho : o.op = .call { callee := .builtin .min, args := #[x, y], argTypes := #[3, 3] }) (m : Nat) (h0 : e x = .int .i64 (m : Int)) (hc : e y = .int .i64 4) (W : World) : (execOp e o).run Try.prog W = .ok (.value (.int .i64 ((min m 4 : Nat) : Int))) W := by
  unfold execOp
  simp only [ho]
  by_cases h : m < 4
  · rw [Nat.min_eq_left (by omega)]
    have h2 : ¬ (4 : Int) < (m : Int) := by omega
    simp [resolve, invoke, builtin, h0, hc, go_sem, h2]
  · rw [Nat.min_eq_right (by omega)]
    have h1 : ¬ (m : Int) < 4 := by omega
    simp [resolve, invoke, builtin, h0, hc, go_sem, h1]
    intro _
    omega
theorem slice_k (o : Oper) (e : Operand → Value) (x y : Operand) (ho : o.op = .slice 40 x none (some y) none) (A : Option Addr) (m c k : Nat) (hA : m = 0 ∨ ∃ b off, A = some ⟨b, off, none⟩) (h0 : e x = .slice A m c) (h1 : e y = .int .i64 (k : Int)) (hk : k ≤ m) (hm : m ≤ c) (W : World) :
    (execOp e o).run Try.prog W = .ok (.value (.slice A k c)) W := by
  unfold execOp
  simp only [ho, h0, h1, Option.map_none, Option.map_some]
  have e3 : ¬ ((c : Int) < (k : Int)) := by omega
  have e4 : ¬ (c < k) := by omega
  rcases A with _ | A
  · have hk0 : k = 0 := by
      rcases hA with h | ⟨b, off, h⟩
      · omega
      · cases h
    subst hk0
    simp [go_sem]
  · simp [go_sem, e3, e4]
set_option maxHeartbeats 80000000 in
set_option maxRecDepth 100000 in
theorem walkStoreOrder (a b c : Pd) (La Lb Lc : Nat → It) (w : World) (ha : InP w a La) (hb : InP w b Lb) (hc : InP w c Lc) : Calls Try.prog 6 #[.agg (pdC a), .agg (pdC b), .agg (pdC c)] w fun e w' => e = .returned (.bool true) ∧ Below w.heap.size w w' := by
  have HIA := Lib.hid ha
  have HIB := Lib.hid hb
  have HIC := Lib.hid hc
  have hma : (a.m : Int) ≤ 9223372036854775807 := by have := ha.2.2.2.1; have := ha.2.2.2.2; omega
  have hmb : (b.m : Int) ≤ 9223372036854775807 := by have := hb.2.2.2.1; have := hb.2.2.2.2; omega
  have hmc : (c.m : Int) ≤ 9223372036854775807 := by have := hc.2.2.2.1; have := hc.2.2.2.2; omega
  clear ha hb hc
  go_enter Try.func6, Try.ntmps6
  have HB := Lib.hid (Below.refl w.heap.size w)
  obtain ⟨N1, hN1⟩ : ∃ N, w.heap.size = N := ⟨_, rfl⟩
  have HN1 := Lib.hid hN1
  clear hN1
  go_wp2_with (refine wpList_box (op := ⟨some 3, _, _, _, _, _⟩) rfl 42 (.tmp 0) rfl (pdC a) rfl N1 HN1.out ?_; intro w1 k1 b1 s1; refine Hid.out ?_)
  refine Lib.hid ?_
  have K3 := Lib.hid k1
  clear k1
  have le_HB_N1 : w.heap.size ≤ N1 := by rw [← HN1.out]; exact HB.out.size
  have HBn := Lib.hid (HB.out.trans (b1.mono HB.out.size))
  clear HB
  have HB := HBn
  clear HBn
  clear b1 HN1
  obtain ⟨N2, hN2⟩ : ∃ N, w1.heap.size = N := ⟨_, rfl⟩
  have HN2 := Lib.hid hN2
  clear hN2
  go_wp2_with (refine wpList_box (op := ⟨some 4, _, _, _, _, _⟩) rfl 42 (.tmp 1) rfl (pdC b) rfl N2 HN2.out ?_; intro w2 k1 b1 s1; refine Hid.out ?_)
  refine Lib.hid ?_
  have K4 := Lib.hid k1
  clear k1
  have lt_N1_N2 : N1 < N2 := by rw [← HN2.out]; exact K3.out.lt
  have le_HB_N2 : w.heap.size ≤ N2 := by rw [← HN2.out]; exact HB.out.size
  have K3n := Lib.hid (K3.out.below b1 K3.out.lt)
  clear K3
  have K3 := K3n
  clear K3n
  have HBn := Lib.hid (HB.out.trans (b1.mono HB.out.size))
  clear HB
  have HB := HBn
  clear HBn
  clear b1 HN2
  obtain ⟨N3, hN3⟩ : ∃ N, w2.heap.size = N := ⟨_, rfl⟩
  have HN3 := Lib.hid hN3
  clear hN3
  go_wp2_with (refine wpList_box (op := ⟨some 5, _, _, _, _, _⟩) rfl 42 (.tmp 2) rfl (pdC c) rfl N3 HN3.out ?_; intro w3 k1 b1 s1; refine Hid.out ?_)
  refine Lib.hid ?_
  have K5 := Lib.hid k1
  clear k1
  have lt_N1_N3 : N1 < N3 := by rw [← HN3.out]; exact K3.out.lt
  have lt_N2_N3 : N2 < N3 := by rw [← HN3.out]; exact K4.out.lt
  have le_HB_N3 : w.heap.size ≤ N3 := by rw [← HN3.out]; exact HB.out.size
  have K3n := Lib.hid (K3.out.below b1 K3.out.lt)
  clear K3
  have K3 := K3n
  clear K3n
  have K4n := Lib.hid (K4.out.below b1 K4.out.lt)
  clear K4
  have K4 := K4n
  clear K4n
  have HBn := Lib.hid (HB.out.trans (b1.mono HB.out.size))
  clear HB
  have HB := HBn
  clear HBn
  clear b1 HN3
  go_wp2_with fail
  refine (awake_any w3).mono ?_
  rintro e w10 ⟨rfl, b1⟩
  have K3n := Lib.hid (K3.out.below b1 K3.out.lt)
  clear K3
  have K3 := K3n
  clear K3n
  have K4n := Lib.hid (K4.out.below b1 K4.out.lt)
  clear K4
  have K4 := K4n
  clear K4n
  have K5n := Lib.hid (K5.out.below b1 K5.out.lt)
  clear K5
  have K5 := K5n
  clear K5n
  have HBn := Lib.hid (HB.out.trans (b1.mono HB.out.size))
  clear HB
  have HB := HBn
  clear HBn
  clear b1
  obtain ⟨N11, hN11⟩ : ∃ N, w10.heap.size = N := ⟨_, rfl⟩
  have HN11 := Lib.hid hN11
  clear hN11
  go_wp2_with (refine wpList_new (op := ⟨some 7, _, _, _, _, _⟩) rfl 70 rfl (#[.slice none 0 0, .slice none 0 0, .slice none 0 0]) zero_p3 N11 HN11.out ?_; intro w11 k1 b1 s1; refine Hid.out ?_)
  refine Lib.hid ?_
  have KP := Lib.hid k1
  clear k1
  have lt_N1_N11 : N1 < N11 := by rw [← HN11.out]; exact K3.out.lt
  have lt_N2_N11 : N2 < N11 := by rw [← HN11.out]; exact K4.out.lt
  have lt_N3_N11 : N3 < N11 := by rw [← HN11.out]; exact K5.out.lt
  have le_HB_N11 : w.heap.size ≤ N11 := by rw [← HN11.out]; exact HB.out.size
  have K3n := Lib.hid (K3.out.below b1 K3.out.lt)
  clear K3
  have K3 := K3n
  clear K3n
  have K4n := Lib.hid (K4.out.below b1 K4.out.lt)
  clear K4
  have K4 := K4n
  clear K4n
  have K5n := Lib.hid (K5.out.below b1 K5.out.lt)
  clear K5
  have K5 := K5n
  clear K5n
  have HBn := Lib.hid (HB.out.trans (b1.mono HB.out.size))
  clear HB
  have HB := HBn
  clear HBn
  clear b1 HN11
  go_wp2_with (refine wpList_ld (op := ⟨some 23, _, _, _, _, _⟩) (by rfl) 42 (.tmp 3) rfl N1 0 rfl (pdC a) _ K3.out.all Try.underlying42 rfl info_pdR ?_; refine Hid.out ?_)
  refine Lib.hid ?_
  go_wp2_with (refine wpList_ld (op := ⟨some 24, _, _, _, _, _⟩) (by rfl) 42 (.tmp 4) rfl N2 0 rfl (pdC b) _ K4.out.all Try.underlying42 rfl info_pdR ?_; refine Hid.out ?_)
  refine Lib.hid ?_
  go_wp2_with (refine wpList_ld (op := ⟨some 25, _, _, _, _, _⟩) (by rfl) 42 (.tmp 5) rfl N3 0 rfl (pdC c) _ K5.out.all Try.underlying42 rfl info_pdR ?_; refine Hid.out ?_)
  refine Lib.hid ?_
  obtain ⟨N12, hN12⟩ : ∃ N, w11.heap.size = N := ⟨_, rfl⟩
  have HN12 := Lib.hid hN12
  clear hN12
  go_wp2_with (refine wpList_bsn (op := ⟨some 26, _, _, _, _, _⟩) 3 rfl 42 (pdC a ++ pdC b ++ pdC c) (bs_pd3 _ _ _ rfl a b c rfl rfl rfl) N12 HN12.out ?_; intro w12 k1 b1 s1; refine Hid.out ?_)
  refine Lib.hid ?_
  have KG := Lib.hid k1
  clear k1
  have lt_N1_N12 : N1 < N12 := by rw [← HN12.out]; exact K3.out.lt
  have lt_N2_N12 : N2 < N12 := by rw [← HN12.out]; exact K4.out.lt
  have lt_N3_N12 : N3 < N12 := by rw [← HN12.out]; exact K5.out.lt
  have lt_N11_N12 : N11 < N12 := by rw [← HN12.out]; exact KP.out.lt
  have le_HB_N12 : w.heap.size ≤ N12 := by rw [← HN12.out]; exact HB.out.size
  have K3n := Lib.hid (K3.out.below b1 K3.out.lt)
  clear K3
  have K3 := K3n
  clear K3n
  have K4n := Lib.hid (K4.out.below b1 K4.out.lt)
  clear K4
  have K4 := K4n
  clear K4n
  have K5n := Lib.hid (K5.out.below b1 K5.out.lt)
  clear K5
  have K5 := K5n
  clear K5n
  have KPn := Lib.hid (KP.out.below b1 KP.out.lt)
  clear KP
  have KP := KPn
  clear KPn
  have HBn := Lib.hid (HB.out.trans (b1.mono HB.out.size))
  clear HB
  have HB := HBn
  clear HBn
  clear b1 HN12
  go_wp2_with fail
  refine wp_loop_rounds 4 ?_
  rw [rounds_succ]
  go_wp2_with (refine wpList_ld (op := ⟨some 32, _, _, _, _, _⟩) (by rfl) 42 (.tmp 31) rfl N12 0 rfl (pdC a) _ (three_0 KG.out) Try.underlying42 rfl info_pdR ?_; refine Hid.out ?_)
  refine Lib.hid ?_
  obtain ⟨N21, hN21⟩ : ∃ N, w12.heap.size = N := ⟨_, rfl⟩
  have HN21 := Lib.hid hN21
  clear hN21
  go_wp2_with (refine wpList_new (op := ⟨some 9, _, _, _, _, _⟩) rfl 42 rfl (pdC pd0) zero_pdR N21 HN21.out ?_; intro w21 k1 b1 s1; refine Hid.out ?_)
  refine Lib.hid ?_
  have K90 := Lib.hid k1
  clear k1
  have lt_N1_N21 : N1 < N21 := by rw [← HN21.out]; exact K3.out.lt
  have lt_N2_N21 : N2 < N21 := by rw [← HN21.out]; exact K4.out.lt
  have lt_N3_N21 : N3 < N21 := by rw [← HN21.out]; exact K5.out.lt
  have lt_N11_N21 : N11 < N21 := by rw [← HN21.out]; exact KP.out.lt
  have lt_N12_N21 : N12 < N21 := by rw [← HN21.out]; exact KG.out.lt
  have le_HB_N21 : w.heap.size ≤ N21 := by rw [← HN21.out]; exact HB.out.size
  have K3n := Lib.hid (K3.out.below b1 K3.out.lt)
  clear K3
  have K3 := K3n
  clear K3n
  have K4n := Lib.hid (K4.out.below b1 K4.out.lt)
  clear K4
  have K4 := K4n
  clear K4n
  have K5n := Lib.hid (K5.out.below b1 K5.out.lt)
  clear K5
  have K5 := K5n
  clear K5n
  have KPn := Lib.hid (KP.out.below b1 KP.out.lt)
  clear KP
  have KP := KPn
  clear KPn
  have KGn := Lib.hid (KG.out.below b1 KG.out.lt)
  clear KG
  have KG := KGn
  clear KGn
  have HBn := Lib.hid (HB.out.trans (b1.mono HB.out.size))
  clear HB
  have HB := HBn
  clear HBn
  clear b1 HN21
  go_wp2_with (refine wpList_st rfl 42 (.tmp 9) (.tmp 32) rfl N21 0 rfl (.agg (pdC a)) (pdC a) rfl rfl info_pdR (pdC_one _) K90.out (Nat.le_of_ble_eq_true rfl) (C' := pdC a) (pd_over' _ _) ?_; intro u01 q1; refine Hid.out ?_)
  refine Lib.hid ?_
  have K3n := Lib.hid (K3.out.far q1 (by omega))
  clear K3
  have K3 := K3n
  clear K3n
  have K4n := Lib.hid (K4.out.far q1 (by omega))
  clear K4
  have K4 := K4n
  clear K4n
  have K5n := Lib.hid (K5.out.far q1 (by omega))
  clear K5
  have K5 := K5n
  clear K5n
  have KPn := Lib.hid (KP.out.far q1 (by omega))
  clear KP
  have KP := KPn
  clear KPn
  have KGn := Lib.hid (KG.out.far q1 (by omega))
  clear KG
  have KG := KGn
  clear KGn
  have HBn := Lib.hid (HB.out.trans (q1.2.1 _ (by omega)))
  clear HB
  have HB := HBn
  clear HBn
  have K90n : Hid (Blk 42 u01 N21 (pdC a)) := Lib.hid q1.1
  clear K90
  have K90 := K90n
  clear K90n q1
  have hid0 : u01.rangeAt N1 20 (idC a.id).toList := K3.out.range (eight8 ⟨rfl, rfl, rfl, rfl, rfl, rfl, rfl, rfl⟩)
  have HIDR := Lib.hid hid0
  clear hid0
  go_wp2_with (refine wpList_ld (op := ⟨some 34, _, _, _, _, _⟩) (by rfl) 28 (.tmp 33) rfl N1 20 rfl (idC a.id) _ HIDR.out Try.underlying28 rfl info_iC ?_; refine Hid.out ?_)
  refine Lib.hid ?_
  clear HIDR
  go_wp2_with (refine wpList_st rfl 28 (.tmp 35) (.tmp 34) rfl N21 20 rfl (.agg (idC a.id)) (idC a.id) rfl rfl info_iC (id_oneA _) K90.out (Nat.le_of_ble_eq_true rfl) (C' := pdC (idP a a.id)) (pd_id _ _) ?_; intro u02 q1; refine Hid.out ?_)
  refine Lib.hid ?_
  have K3n := Lib.hid (K3.out.far q1 (by omega))
  clear K3
  have K3 := K3n
  clear K3n
  have K4n := Lib.hid (K4.out.far q1 (by omega))
  clear K4
  have K4 := K4n
  clear K4n
  have K5n := Lib.hid (K5.out.far q1 (by omega))
  clear K5
  have K5 := K5n
  clear K5n
  have KPn := Lib.hid (KP.out.far q1 (by omega))
  clear KP
  have KP := KPn
  clear KPn
  have KGn := Lib.hid (KG.out.far q1 (by omega))
  clear KG
  have KG := KGn
  clear KGn
  have HBn := Lib.hid (HB.out.trans (q1.2.1 _ (by omega)))
  clear HB
  have HB := HBn
  clear HBn
  have K90n : Hid (Blk 42 u02 N21 (pdC (idP a a.id))) := Lib.hid q1.1
  clear K90
  have K90 := K90n
  clear K90n q1
  obtain ⟨kd0, hkd0⟩ : ∃ k : Int, (if a.kd = 20 then 20 else 18) = k := ⟨_, rfl⟩
  have HKD0 : Hid (kd0 = 18 ∨ kd0 = 20) := Lib.hid (by rw [← hkd0]; split; exact .inr rfl; exact .inl rfl)
  obtain ⟨bk, hbk⟩ : ∃ q, (a.kd != 20) = q := ⟨_, rfl⟩
  have c0 : u02.cell? ⟨N21, 0, none⟩ = some (.int .u8 a.kd) := (K90.out.cell 0).trans rfl
  go_upto_if 38 with fail
  have HBK := Lib.hid hbk
  have HK9 := Lib.hid hkd0
  clear hbk hkd0 c0
  go_cut [] (fun wc => Hid (Blk 42 wc N21 (pdC (kdP' (idP a a.id) kd0))) ∧ Hid (Blk 42 wc N1 (pdC a)) ∧ Hid (Blk 42 wc N2 (pdC b)) ∧ Hid (Blk 42 wc N3 (pdC c)) ∧ Hid (Blk 70 wc N11 (#[.slice none 0 0, .slice none 0 0, .slice none 0 0])) ∧ Hid (Blk 42 wc N12 (pdC a ++ pdC b ++ pdC c)) ∧ Hid (Below w.heap.size w wc))
  case first =>
    cases bk with
    | false =>
      have hq : a.kd = 20 := by simpa using HBK.out
      have hk9 : kd0 = a.kd := by rw [← HK9.out, if_pos hq, hq]
      have K90n : Hid (Blk 42 u02 N21 (pdC (kdP' (idP a a.id) kd0))) := Lib.hid (by rw [hk9]; exact K90.out)
      clear K90
      have K90 := K90n
      clear K90n hk9 hq
      go_wp2_with fail
      go_meet
      case rel => exact ⟨K90, K3, K4, K5, KP, KG, HB⟩
    | true =>
      have hq : ¬ a.kd = 20 := by simpa using HBK.out
      have hk9 : kd0 = 18 := by rw [← HK9.out, if_neg hq]
      clear hq
      go_wp2_with (refine wpList_st rfl 5 (.tmp 39) (.const (.int .u8 18)) rfl N21 0 rfl (.int .u8 18) (#[.int .u8 18]) rfl rfl info_u81 (one_u8v _) K90.out (Nat.le_of_ble_eq_true rfl) (C' := pdC (kdP' (idP a a.id) kd0)) (by rw [hk9]; exact pd_kd _ _) ?_; intro u03 q1; refine Hid.out ?_)
      refine Lib.hid ?_
      have K3n := Lib.hid (K3.out.far q1 (by omega))
      clear K3
      have K3 := K3n
      clear K3n
      have K4n := Lib.hid (K4.out.far q1 (by omega))
      clear K4
      have K4 := K4n
      clear K4n
      have K5n := Lib.hid (K5.out.far q1 (by omega))
      clear K5
      have K5 := K5n
      clear K5n
      have KPn := Lib.hid (KP.out.far q1 (by omega))
      clear KP
      have KP := KPn
      clear KPn
      have KGn := Lib.hid (KG.out.far q1 (by omega))
      clear KG
      have KG := KGn
      clear KGn
      have HBn := Lib.hid (HB.out.trans (q1.2.1 _ (by omega)))
      clear HB
      have HB := HBn
      clear HBn
      have K90n : Hid (Blk 42 u03 N21 (pdC (kdP' (idP a a.id) kd0))) := Lib.hid q1.1
      clear K90
      have K90 := K90n
      clear K90n q1
      clear hk9
      go_wp2_with fail
      go_meet
      case rel => exact ⟨K90, K3, K4, K5, KP, KG, HB⟩
  case rest =>
  clear K3
  clear K4
  clear K5
  clear KP
  clear KG
  clear K90 HB
  obtain ⟨K90, K3, K4, K5, KP, KG, HB⟩ := hcut
  obtain ⟨u04, hu4⟩ : ∃ x, x = wc := ⟨_, rfl⟩
  subst hu4
  have c46 : u04.cell? ⟨N21, 46, none⟩ = some (.slice a.A a.m a.c) := (K90.out.cell 46).trans rfl
  have hmin : min (a.m : Int) 4 = ((min a.m 4 : Nat) : Int) := by omega
  go_wp2_with (refine wpList_v (op := ⟨some 45, _, _, _, _, _⟩) rfl (.int .i64 ((min a.m 4 : Nat) : Int)) (min_run _ _ _ _ rfl a.m rfl rfl _) ?_; refine Hid.out ?_)
  refine Lib.hid ?_
  go_wp2_with (refine wpList_v (op := ⟨some 46, _, _, _, _, _⟩) rfl (.slice a.A (min a.m 4) a.c) (slice_k _ _ _ _ rfl a.A a.m a.c (min a.m 4) (by rcases Nat.eq_zero_or_pos a.m with h | h; exact .inl h; obtain ⟨b9, o9, e9, _⟩ := HIA.out.2.1.row h; exact .inr ⟨b9, o9, e9⟩) rfl rfl (Nat.min_le_left _ _) HIA.out.2.2.2.1 _) ?_; refine Hid.out ?_)
  refine Lib.hid ?_
  clear c46 hmin
  go_wp2_with (refine wpList_st rfl 40 (.tmp 47) (.tmp 46) rfl N21 46 rfl (.slice a.A (min a.m 4) a.c) (#[.slice a.A (min a.m 4) a.c]) rfl rfl info_tls one_sl K90.out (Nat.le_of_ble_eq_true rfl) (C' := pdC (oP a a.id kd0)) (pd_tl4 _ _ _) ?_; intro u05 q1; refine Hid.out ?_)
  refine Lib.hid ?_
  have K3n := Lib.hid (K3.out.far q1 (by omega))
  clear K3
  have K3 := K3n
  clear K3n
  have K4n := Lib.hid (K4.out.far q1 (by omega))
  clear K4
  have K4 := K4n
  clear K4n
  have K5n := Lib.hid (K5.out.far q1 (by omega))
  clear K5
  have K5 := K5n
  clear K5n
  have KPn := Lib.hid (KP.out.far q1 (by omega))
  clear KP
  have KP := KPn
  clear KPn
  have KGn := Lib.hid (KG.out.far q1 (by omega))
  clear KG
  have KG := KGn
  clear KGn
  have HBn := Lib.hid (HB.out.trans (q1.2.1 _ (by omega)))
  clear HB
  have HB := HBn
  clear HBn
  have K90n : Hid (Blk 42 u05 N21 (pdC (oP a a.id kd0))) := Lib.hid q1.1
  clear K90
  have K90 := K90n
  clear K90n q1
  go_wp2_with (refine wpList_ld (op := ⟨some 49, _, _, _, _, _⟩) (by rfl) 42 (.tmp 9) rfl N21 0 rfl (pdC (oP a a.id kd0)) _ K90.out.all Try.underlying42 rfl info_pdR ?_; refine Hid.out ?_)
  refine Lib.hid ?_
  go_wp2_with fail
  have HOK0 : Hid (PdOk (oP a a.id kd0)) := Lib.hid (oP_ok HIA.out.1 HIA.out.1.2.2.1 HKD0.out)
  obtain ⟨m0, hm0⟩ := jends La (oP a a.id kd0).m
  have HM0 := Lib.hid hm0
  clear hm0
  have HRT : Hid (RdT u05 a.A (oP a a.id kd0).m La) := Lib.hid (rdT_min (HIA.out.2.1.below HB.out) (Nat.min_le_left _ _))
  refine (docWrite_any (oP a a.id kd0) HOK0.out La m0 HM0.out u05 ⟨HRT.out, Nat.le_trans (Nat.min_le_left _ _) HIA.out.2.2.2.1, by have := HIA.out.2.2.2.2; show a.c ≤ _; omega⟩).mono ?_
  have HL9 : Hid (N21 < u05.heap.size) := Lib.hid K90.out.lt
  rintro e u06 ⟨A0, c0, rfl, hrd, hc1, hc2, b1, hown⟩
  have K3n := Lib.hid (K3.out.below b1 K3.out.lt)
  clear K3
  have K3 := K3n
  clear K3n
  have K4n := Lib.hid (K4.out.below b1 K4.out.lt)
  clear K4
  have K4 := K4n
  clear K4n
  have K5n := Lib.hid (K5.out.below b1 K5.out.lt)
  clear K5
  have K5 := K5n
  clear K5n
  have KPn := Lib.hid (KP.out.below b1 KP.out.lt)
  clear KP
  have KP := KPn
  clear KPn
  have KGn := Lib.hid (KG.out.below b1 KG.out.lt)
  clear KG
  have KG := KGn
  clear KGn
  have K90n := Lib.hid (K90.out.below b1 K90.out.lt)
  clear K90
  have K90 := K90n
  clear K90n
  have HBn := Lib.hid (HB.out.trans (b1.mono HB.out.size))
  clear HB
  have HB := HBn
  clear HBn
  have HOW0 : Hid (wrX (oP a a.id kd0) La m0 = 0 → OW (oP a a.id kd0) La a.id (wrN (oP a a.id kd0) La m0) (wrZ (oP a a.id kd0) La m0)) := Lib.hid (fun h => oP_wr HOK0.out HKD0.out HM0.out HRT.out h)
  obtain ⟨x0, hx0⟩ : ∃ v, wrX (oP a a.id kd0) La m0 = v := ⟨_, rfl⟩
  obtain ⟨n0, hn0⟩ : ∃ v, wrN (oP a a.id kd0) La m0 = v := ⟨_, rfl⟩
  obtain ⟨z0, hz0⟩ : ∃ v, wrZ (oP a a.id kd0) La m0 = v := ⟨_, rfl⟩
  rw [hx0, hn0, hz0] at HOW0
  rw [hx0, hn0, hz0] at hown
  rw [hx0, hn0]
  have HOWN := Lib.hid hown
  clear hx0 hn0 hz0 hrd hc1 hc2 hown b1 HRT
  by_cases hx0 : x0 = 0
  rotate_left
  · have hxb : (x0 != 0) = true := by simpa using hx0
    clear hx0
    go_wp2_with fail
    go_ret
    exact ⟨rfl, HB.out⟩
  subst hx0
  have hxb : ((0 : Int) != 0) = false := rfl
  obtain ⟨g0, rfl, hg0, hO0⟩ := HOWN.out rfl
  have HW0 := Lib.hid (HOW0.out rfl)
  have KO0 : Hid (By8 u06 g0 n0 c0 z0) := Lib.hid hO0
  have ne0 : g0 ≠ N11 := fun e => by have := KP.out.lt; have h9 := lt_N11_N21; have h8 := hg0; have h7 := K90.out.lt; have h6 : N21 < u05.heap.size := HL9.out; omega
  clear HOWN HOW0 hO0 hg0 HL9
  clear K90
  go_wp2_with (refine wpList_st rfl 43 (.tmp 57) (.tmp 56) rfl N11 0 rfl (.slice (some ⟨g0, 0, none⟩) n0 c0) #[.slice (some ⟨g0, 0, none⟩) n0 c0] rfl rfl info_bs1 one_sl KP.out (Nat.le_of_ble_eq_true rfl) (C' := #[.slice (some ⟨g0, 0, none⟩) n0 c0, .slice none 0 0, .slice none 0 0]) (by rfl) ?_; intro u07 q1; refine Hid.out ?_)
  refine Lib.hid ?_
  have K3n := Lib.hid (K3.out.far q1 (by omega))
  clear K3
  have K3 := K3n
  clear K3n
  have K4n := Lib.hid (K4.out.far q1 (by omega))
  clear K4
  have K4 := K4n
  clear K4n
  have K5n := Lib.hid (K5.out.far q1 (by omega))
  clear K5
  have K5 := K5n
  clear K5n
  have KGn := Lib.hid (KG.out.far q1 (by omega))
  clear KG
  have KG := KGn
  clear KGn
  have KO0n := Lib.hid (KO0.out.far q1 (by omega))
  clear KO0
  have KO0 := KO0n
  clear KO0n
  have HBn := Lib.hid (HB.out.trans (q1.2.1 _ (by omega)))
  clear HB
  have HB := HBn
  clear HBn
  have KPn : Hid (Blk 70 u07 N11 (#[.slice (some ⟨g0, 0, none⟩) n0 c0, .slice none 0 0, .slice none 0 0])) := Lib.hid q1.1
  clear KP
  have KP := KPn
  clear KPn q1
  go_wp2_with fail
  rw [rounds_succ]
  go_wp2_with (refine wpList_ld (op := ⟨some 32, _, _, _, _, _⟩) (by rfl) 42 (.tmp 31) rfl N12 47 rfl (pdC b) _ (three_1 KG.out) Try.underlying42 rfl info_pdR ?_; refine Hid.out ?_)
  refine Lib.hid ?_
  obtain ⟨N51, hN51⟩ : ∃ N, u07.heap.size = N := ⟨_, rfl⟩
  have HN51 := Lib.hid hN51
  clear hN51
  go_wp2_with (refine wpList_new (op := ⟨some 9, _, _, _, _, _⟩) rfl 42 rfl (pdC pd0) zero_pdR N51 HN51.out ?_; intro w51 k1 b1 s1; refine Hid.out ?_)
  refine Lib.hid ?_
  have K91 := Lib.hid k1
  clear k1
  have lt_N1_N51 : N1 < N51 := by rw [← HN51.out]; exact K3.out.lt
  have lt_N2_N51 : N2 < N51 := by rw [← HN51.out]; exact K4.out.lt
  have lt_N3_N51 : N3 < N51 := by rw [← HN51.out]; exact K5.out.lt
  have lt_N11_N51 : N11 < N51 := by rw [← HN51.out]; exact KP.out.lt
  have lt_N12_N51 : N12 < N51 := by rw [← HN51.out]; exact KG.out.lt
  have lt_g0_N51 : g0 < N51 := by rw [← HN51.out]; exact KO0.out.lt
  have le_HB_N51 : w.heap.size ≤ N51 := by rw [← HN51.out]; exact HB.out.size
  have K3n := Lib.hid (K3.out.below b1 K3.out.lt)
  clear K3
  have K3 := K3n
  clear K3n
  have K4n := Lib.hid (K4.out.below b1 K4.out.lt)
  clear K4
  have K4 := K4n
  clear K4n
  have K5n := Lib.hid (K5.out.below b1 K5.out.lt)
  clear K5
  have K5 := K5n
  clear K5n
  have KPn := Lib.hid (KP.out.below b1 KP.out.lt)
  clear KP
  have KP := KPn
  clear KPn
  have KGn := Lib.hid (KG.out.below b1 KG.out.lt)
  clear KG
  have KG := KGn
  clear KGn
  have KO0n := Lib.hid (KO0.out.below b1 KO0.out.lt)
  clear KO0
  have KO0 := KO0n
  clear KO0n
  have HBn := Lib.hid (HB.out.trans (b1.mono HB.out.size))
  clear HB
  have HB := HBn
  clear HBn
  clear b1 HN51
  go_wp2_with (refine wpList_st rfl 42 (.tmp 9) (.tmp 32) rfl N51 0 rfl (.agg (pdC b)) (pdC b) rfl rfl info_pdR (pdC_one _) K91.out (Nat.le_of_ble_eq_true rfl) (C' := pdC b) (pd_over' _ _) ?_; intro u11 q1; refine Hid.out ?_)
  refine Lib.hid ?_
  have K3n := Lib.hid (K3.out.far q1 (by omega))
  clear K3
  have K3 := K3n
  clear K3n
  have K4n := Lib.hid (K4.out.far q1 (by omega))
  clear K4
  have K4 := K4n
  clear K4n
  have K5n := Lib.hid (K5.out.far q1 (by omega))
  clear K5
  have K5 := K5n
  clear K5n
  have KPn := Lib.hid (KP.out.far q1 (by omega))
  clear KP
  have KP := KPn
  clear KPn
  have KGn := Lib.hid (KG.out.far q1 (by omega))
  clear KG
  have KG := KGn
  clear KGn
  have KO0n := Lib.hid (KO0.out.far q1 (by omega))
  clear KO0
  have KO0 := KO0n
  clear KO0n
  have HBn := Lib.hid (HB.out.trans (q1.2.1 _ (by omega)))
  clear HB
  have HB := HBn
  clear HBn
  have K91n : Hid (Blk 42 u11 N51 (pdC b)) := Lib.hid q1.1
  clear K91
  have K91 := K91n
  clear K91n q1
  have hid1 : u11.rangeAt N1 20 (idC a.id).toList := K3.out.range (eight8 ⟨rfl, rfl, rfl, rfl, rfl, rfl, rfl, rfl⟩)
  have HIDR := Lib.hid hid1
  clear hid1
  go_wp2_with (refine wpList_ld (op := ⟨some 34, _, _, _, _, _⟩) (by rfl) 28 (.tmp 33) rfl N1 20 rfl (idC a.id) _ HIDR.out Try.underlying28 rfl info_iC ?_; refine Hid.out ?_)
  refine Lib.hid ?_
  clear HIDR
  go_wp2_with (refine wpList_st rfl 28 (.tmp 35) (.tmp 34) rfl N51 20 rfl (.agg (idC a.id)) (idC a.id) rfl rfl info_iC (id_oneA _) K91.out (Nat.le_of_ble_eq_true rfl) (C' := pdC (idP b a.id)) (pd_id _ _) ?_; intro u12 q1; refine Hid.out ?_)
  refine Lib.hid ?_
  have K3n := Lib.hid (K3.out.far q1 (by omega))
  clear K3
  have K3 := K3n
  clear K3n
  have K4n := Lib.hid (K4.out.far q1 (by omega))
  clear K4
  have K4 := K4n
  clear K4n
  have K5n := Lib.hid (K5.out.far q1 (by omega))
  clear K5
  have K5 := K5n
  clear K5n
  have KPn := Lib.hid (KP.out.far q1 (by omega))
  clear KP
  have KP := KPn
  clear KPn
  have KGn := Lib.hid (KG.out.far q1 (by omega))
  clear KG
  have KG := KGn
  clear KGn
  have KO0n := Lib.hid (KO0.out.far q1 (by omega))
  clear KO0
  have KO0 := KO0n
  clear KO0n
  have HBn := Lib.hid (HB.out.trans (q1.2.1 _ (by omega)))
  clear HB
  have HB := HBn
  clear HBn
  have K91n : Hid (Blk 42 u12 N51 (pdC (idP b a.id))) := Lib.hid q1.1
  clear K91
  have K91 := K91n
  clear K91n q1
  obtain ⟨kd1, hkd1⟩ : ∃ k : Int, (if b.kd = 20 then 20 else 18) = k := ⟨_, rfl⟩
  have HKD1 : Hid (kd1 = 18 ∨ kd1 = 20) := Lib.hid (by rw [← hkd1]; split; exact .inr rfl; exact .inl rfl)
  obtain ⟨bk, hbk⟩ : ∃ q, (b.kd != 20) = q := ⟨_, rfl⟩
  have c0 : u12.cell? ⟨N51, 0, none⟩ = some (.int .u8 b.kd) := (K91.out.cell 0).trans rfl
  go_upto_if 38 with fail
  have HBK := Lib.hid hbk
  have HK9 := Lib.hid hkd1
  clear hbk hkd1 c0
  go_cut [] (fun wc => Hid (Blk 42 wc N51 (pdC (kdP' (idP b a.id) kd1))) ∧ Hid (Blk 42 wc N1 (pdC a)) ∧ Hid (Blk 42 wc N2 (pdC b)) ∧ Hid (Blk 42 wc N3 (pdC c)) ∧ Hid (Blk 70 wc N11 (#[.slice (some ⟨g0, 0, none⟩) n0 c0, .slice none 0 0, .slice none 0 0])) ∧ Hid (Blk 42 wc N12 (pdC a ++ pdC b ++ pdC c)) ∧ Hid (By8 wc g0 n0 c0 z0) ∧ Hid (Below w.heap.size w wc))
  case first =>
    cases bk with
    | false =>
      have hq : b.kd = 20 := by simpa using HBK.out
      have hk9 : kd1 = b.kd := by rw [← HK9.out, if_pos hq, hq]
      have K91n : Hid (Blk 42 u12 N51 (pdC (kdP' (idP b a.id) kd1))) := Lib.hid (by rw [hk9]; exact K91.out)
      clear K91
      have K91 := K91n
      clear K91n hk9 hq
      go_wp2_with fail
      go_meet
      case rel => exact ⟨K91, K3, K4, K5, KP, KG, KO0, HB⟩
    | true =>
      have hq : ¬ b.kd = 20 := by simpa using HBK.out
      have hk9 : kd1 = 18 := by rw [← HK9.out, if_neg hq]
      clear hq
      go_wp2_with (refine wpList_st rfl 5 (.tmp 39) (.const (.int .u8 18)) rfl N51 0 rfl (.int .u8 18) (#[.int .u8 18]) rfl rfl info_u81 (one_u8v _) K91.out (Nat.le_of_ble_eq_true rfl) (C' := pdC (kdP' (idP b a.id) kd1)) (by rw [hk9]; exact pd_kd _ _) ?_; intro u13 q1; refine Hid.out ?_)
      refine Lib.hid ?_
      have K3n := Lib.hid (K3.out.far q1 (by omega))
      clear K3
      have K3 := K3n
      clear K3n
      have K4n := Lib.hid (K4.out.far q1 (by omega))
      clear K4
      have K4 := K4n
      clear K4n
      have K5n := Lib.hid (K5.out.far q1 (by omega))
      clear K5
      have K5 := K5n
      clear K5n
      have KPn := Lib.hid (KP.out.far q1 (by omega))
      clear KP
      have KP := KPn
      clear KPn
      have KGn := Lib.hid (KG.out.far q1 (by omega))
      clear KG
      have KG := KGn
      clear KGn
      have KO0n := Lib.hid (KO0.out.far q1 (by omega))
      clear KO0
      have KO0 := KO0n
      clear KO0n
      have HBn := Lib.hid (HB.out.trans (q1.2.1 _ (by omega)))
      clear HB
      have HB := HBn
      clear HBn
      have K91n : Hid (Blk 42 u13 N51 (pdC (kdP' (idP b a.id) kd1))) := Lib.hid q1.1
      clear K91
      have K91 := K91n
      clear K91n q1
      clear hk9
      go_wp2_with fail
      go_meet
      case rel => exact ⟨K91, K3, K4, K5, KP, KG, KO0, HB⟩
  case rest =>
  clear K3
  clear K4
  clear K5
  clear KP
  clear KG
  clear KO0
  clear K91 HB
  obtain ⟨K91, K3, K4, K5, KP, KG, KO0, HB⟩ := hcut
  obtain ⟨u14, hu4⟩ : ∃ x, x = wc := ⟨_, rfl⟩
  subst hu4
  have c46 : u14.cell? ⟨N51, 46, none⟩ = some (.slice b.A b.m b.c) := (K91.out.cell 46).trans rfl
  have hmin : min (b.m : Int) 4 = ((min b.m 4 : Nat) : Int) := by omega
  go_wp2_with (refine wpList_v (op := ⟨some 45, _, _, _, _, _⟩) rfl (.int .i64 ((min b.m 4 : Nat) : Int)) (min_run _ _ _ _ rfl b.m rfl rfl _) ?_; refine Hid.out ?_)
  refine Lib.hid ?_
  go_wp2_with (refine wpList_v (op := ⟨some 46, _, _, _, _, _⟩) rfl (.slice b.A (min b.m 4) b.c) (slice_k _ _ _ _ rfl b.A b.m b.c (min b.m 4) (by rcases Nat.eq_zero_or_pos b.m with h | h; exact .inl h; obtain ⟨b9, o9, e9, _⟩ := HIB.out.2.1.row h; exact .inr ⟨b9, o9, e9⟩) rfl rfl (Nat.min_le_left _ _) HIB.out.2.2.2.1 _) ?_; refine Hid.out ?_)
  refine Lib.hid ?_
  clear c46 hmin
  go_wp2_with (refine wpList_st rfl 40 (.tmp 47) (.tmp 46) rfl N51 46 rfl (.slice b.A (min b.m 4) b.c) (#[.slice b.A (min b.m 4) b.c]) rfl rfl info_tls one_sl K91.out (Nat.le_of_ble_eq_true rfl) (C' := pdC (oP b a.id kd1)) (pd_tl4 _ _ _) ?_; intro u15 q1; refine Hid.out ?_)
  refine Lib.hid ?_
  have K3n := Lib.hid (K3.out.far q1 (by omega))
  clear K3
  have K3 := K3n
  clear K3n
  have K4n := Lib.hid (K4.out.far q1 (by omega))
  clear K4
  have K4 := K4n
  clear K4n
  have K5n := Lib.hid (K5.out.far q1 (by omega))
  clear K5
  have K5 := K5n
  clear K5n
  have KPn := Lib.hid (KP.out.far q1 (by omega))
  clear KP
  have KP := KPn
  clear KPn
  have KGn := Lib.hid (KG.out.far q1 (by omega))
  clear KG
  have KG := KGn
  clear KGn
  have KO0n := Lib.hid (KO0.out.far q1 (by omega))
  clear KO0
  have KO0 := KO0n
  clear KO0n
  have HBn := Lib.hid (HB.out.trans (q1.2.1 _ (by omega)))
  clear HB
  have HB := HBn
  clear HBn
  have K91n : Hid (Blk 42 u15 N51 (pdC (oP b a.id kd1))) := Lib.hid q1.1
  clear K91
  have K91 := K91n
  clear K91n q1
  go_wp2_with (refine wpList_ld (op := ⟨some 49, _, _, _, _, _⟩) (by rfl) 42 (.tmp 9) rfl N51 0 rfl (pdC (oP b a.id kd1)) _ K91.out.all Try.underlying42 rfl info_pdR ?_; refine Hid.out ?_)
  refine Lib.hid ?_
  go_wp2_with fail
  have HOK1 : Hid (PdOk (oP b a.id kd1)) := Lib.hid (oP_ok HIB.out.1 HIA.out.1.2.2.1 HKD1.out)
  obtain ⟨m1, hm1⟩ := jends Lb (oP b a.id kd1).m
  have HM1 := Lib.hid hm1
  clear hm1
  have HRT : Hid (RdT u15 b.A (oP b a.id kd1).m Lb) := Lib.hid (rdT_min (HIB.out.2.1.below HB.out) (Nat.min_le_left _ _))
  refine (docWrite_any (oP b a.id kd1) HOK1.out Lb m1 HM1.out u15 ⟨HRT.out, Nat.le_trans (Nat.min_le_left _ _) HIB.out.2.2.2.1, by have := HIB.out.2.2.2.2; show b.c ≤ _; omega⟩).mono ?_
  have HL9 : Hid (N51 < u15.heap.size) := Lib.hid K91.out.lt
  rintro e u16 ⟨A1, c1, rfl, hrd, hc1, hc2, b1, hown⟩
  have K3n := Lib.hid (K3.out.below b1 K3.out.lt)
  clear K3
  have K3 := K3n
  clear K3n
  have K4n := Lib.hid (K4.out.below b1 K4.out.lt)
  clear K4
  have K4 := K4n
  clear K4n
  have K5n := Lib.hid (K5.out.below b1 K5.out.lt)
  clear K5
  have K5 := K5n
  clear K5n
  have KPn := Lib.hid (KP.out.below b1 KP.out.lt)
  clear KP
  have KP := KPn
  clear KPn
  have KGn := Lib.hid (KG.out.below b1 KG.out.lt)
  clear KG
  have KG := KGn
  clear KGn
  have KO0n := Lib.hid (KO0.out.below b1 KO0.out.lt)
  clear KO0
  have KO0 := KO0n
  clear KO0n
  have K91n := Lib.hid (K91.out.below b1 K91.out.lt)
  clear K91
  have K91 := K91n
  clear K91n
  have HBn := Lib.hid (HB.out.trans (b1.mono HB.out.size))
  clear HB
  have HB := HBn
  clear HBn
  have HOW1 : Hid (wrX (oP b a.id kd1) Lb m1 = 0 → OW (oP b a.id kd1) Lb a.id (wrN (oP b a.id kd1) Lb m1) (wrZ (oP b a.id kd1) Lb m1)) := Lib.hid (fun h => oP_wr HOK1.out HKD1.out HM1.out HRT.out h)
  obtain ⟨x1, hx1⟩ : ∃ v, wrX (oP b a.id kd1) Lb m1 = v := ⟨_, rfl⟩
  obtain ⟨n1, hn1⟩ : ∃ v, wrN (oP b a.id kd1) Lb m1 = v := ⟨_, rfl⟩
  obtain ⟨z1, hz1⟩ : ∃ v, wrZ (oP b a.id kd1) Lb m1 = v := ⟨_, rfl⟩
  rw [hx1, hn1, hz1] at HOW1
  rw [hx1, hn1, hz1] at hown
  rw [hx1, hn1]
  have HOWN := Lib.hid hown
  clear hx1 hn1 hz1 hrd hc1 hc2 hown b1 HRT
  by_cases hx0 : x1 = 0
  rotate_left
  · have hxb : (x1 != 0) = true := by simpa using hx0
    clear hx0
    go_wp2_with fail
    go_ret
    exact ⟨rfl, HB.out⟩
  subst hx0
  have hxb : ((0 : Int) != 0) = false := rfl
  obtain ⟨g1, rfl, hg1, hO1⟩ := HOWN.out rfl
  have HW1 := Lib.hid (HOW1.out rfl)
  have KO1 : Hid (By8 u16 g1 n1 c1 z1) := Lib.hid hO1
  have ne1 : g1 ≠ N11 := fun e => by have := KP.out.lt; have h9 := lt_N11_N51; have h8 := hg1; have h7 := K91.out.lt; have h6 : N51 < u15.heap.size := HL9.out; omega
  clear HOWN HOW1 hO1 hg1 HL9
  clear K91
  go_wp2_with (refine wpList_st rfl 43 (.tmp 57) (.tmp 56) rfl N11 1 rfl (.slice (some ⟨g1, 0, none⟩) n1 c1) #[.slice (some ⟨g1, 0, none⟩) n1 c1] rfl rfl info_bs1 one_sl KP.out (Nat.le_of_ble_eq_true rfl) (C' := #[.slice (some ⟨g0, 0, none⟩) n0 c0, .slice (some ⟨g1, 0, none⟩) n1 c1, .slice none 0 0]) (by rfl) ?_; intro u17 q1; refine Hid.out ?_)
  refine Lib.hid ?_
  have K3n := Lib.hid (K3.out.far q1 (by omega))
  clear K3
  have K3 := K3n
  clear K3n
  have K4n := Lib.hid (K4.out.far q1 (by omega))
  clear K4
  have K4 := K4n
  clear K4n
  have K5n := Lib.hid (K5.out.far q1 (by omega))
  clear K5
  have K5 := K5n
  clear K5n
  have KGn := Lib.hid (KG.out.far q1 (by omega))
  clear KG
  have KG := KGn
  clear KGn
  have KO0n := Lib.hid (KO0.out.far q1 (by omega))
  clear KO0
  have KO0 := KO0n
  clear KO0n
  have KO1n := Lib.hid (KO1.out.far q1 (by omega))
  clear KO1
  have KO1 := KO1n
  clear KO1n
  have HBn := Lib.hid (HB.out.trans (q1.2.1 _ (by omega)))
  clear HB
  have HB := HBn
  clear HBn
  have KPn : Hid (Blk 70 u17 N11 (#[.slice (some ⟨g0, 0, none⟩) n0 c0, .slice (some ⟨g1, 0, none⟩) n1 c1, .slice none 0 0])) := Lib.hid q1.1
  clear KP
  have KP := KPn
  clear KPn q1
  go_wp2_with fail
  rw [rounds_succ]
  go_wp2_with (refine wpList_ld (op := ⟨some 32, _, _, _, _, _⟩) (by rfl) 42 (.tmp 31) rfl N12 94 rfl (pdC c) _ (three_2 KG.out) Try.underlying42 rfl info_pdR ?_; refine Hid.out ?_)
  refine Lib.hid ?_
  obtain ⟨N81, hN81⟩ : ∃ N, u17.heap.size = N := ⟨_, rfl⟩
  have HN81 := Lib.hid hN81
  clear hN81
  go_wp2_with (refine wpList_new (op := ⟨some 9, _, _, _, _, _⟩) rfl 42 rfl (pdC pd0) zero_pdR N81 HN81.out ?_; intro w81 k1 b1 s1; refine Hid.out ?_)
  refine Lib.hid ?_
  have K92 := Lib.hid k1
  clear k1
  have lt_N1_N81 : N1 < N81 := by rw [← HN81.out]; exact K3.out.lt
  have lt_N2_N81 : N2 < N81 := by rw [← HN81.out]; exact K4.out.lt
  have lt_N3_N81 : N3 < N81 := by rw [← HN81.out]; exact K5.out.lt
  have lt_N11_N81 : N11 < N81 := by rw [← HN81.out]; exact KP.out.lt
  have lt_N12_N81 : N12 < N81 := by rw [← HN81.out]; exact KG.out.lt
  have lt_g0_N81 : g0 < N81 := by rw [← HN81.out]; exact KO0.out.lt
  have lt_g1_N81 : g1 < N81 := by rw [← HN81.out]; exact KO1.out.lt
  have le_HB_N81 : w.heap.size ≤ N81 := by rw [← HN81.out]; exact HB.out.size
  have K3n := Lib.hid (K3.out.below b1 K3.out.lt)
  clear K3
  have K3 := K3n
  clear K3n
  have K4n := Lib.hid (K4.out.below b1 K4.out.lt)
  clear K4
  have K4 := K4n
  clear K4n
  have K5n := Lib.hid (K5.out.below b1 K5.out.lt)
  clear K5
  have K5 := K5n
  clear K5n
  have KPn := Lib.hid (KP.out.below b1 KP.out.lt)
  clear KP
  have KP := KPn
  clear KPn
  have KGn := Lib.hid (KG.out.below b1 KG.out.lt)
  clear KG
  have KG := KGn
  clear KGn
  have KO0n := Lib.hid (KO0.out.below b1 KO0.out.lt)
  clear KO0
  have KO0 := KO0n
  clear KO0n
  have KO1n := Lib.hid (KO1.out.below b1 KO1.out.lt)
  clear KO1
  have KO1 := KO1n
  clear KO1n
  have HBn := Lib.hid (HB.out.trans (b1.mono HB.out.size))
  clear HB
  have HB := HBn
  clear HBn
  clear b1 HN81
  go_wp2_with (refine wpList_st rfl 42 (.tmp 9) (.tmp 32) rfl N81 0 rfl (.agg (pdC c)) (pdC c) rfl rfl info_pdR (pdC_one _) K92.out (Nat.le_of_ble_eq_true rfl) (C' := pdC c) (pd_over' _ _) ?_; intro u21 q1; refine Hid.out ?_)
  refine Lib.hid ?_
  have K3n := Lib.hid (K3.out.far q1 (by omega))
  clear K3
  have K3 := K3n
  clear K3n
  have K4n := Lib.hid (K4.out.far q1 (by omega))
  clear K4
  have K4 := K4n
  clear K4n
  have K5n := Lib.hid (K5.out.far q1 (by omega))
  clear K5
  have K5 := K5n
  clear K5n
  have KPn := Lib.hid (KP.out.far q1 (by omega))
  clear KP
  have KP := KPn
  clear KPn
  have KGn := Lib.hid (KG.out.far q1 (by omega))
  clear KG
  have KG := KGn
  clear KGn
  have KO0n := Lib.hid (KO0.out.far q1 (by omega))
  clear KO0
  have KO0 := KO0n
  clear KO0n
  have KO1n := Lib.hid (KO1.out.far q1 (by omega))
  clear KO1
  have KO1 := KO1n
  clear KO1n
  have HBn := Lib.hid (HB.out.trans (q1.2.1 _ (by omega)))
  clear HB
  have HB := HBn
  clear HBn
  have K92n : Hid (Blk 42 u21 N81 (pdC c)) := Lib.hid q1.1
  clear K92
  have K92 := K92n
  clear K92n q1
  have hid2 : u21.rangeAt N1 20 (idC a.id).toList := K3.out.range (eight8 ⟨rfl, rfl, rfl, rfl, rfl, rfl, rfl, rfl⟩)
  have HIDR := Lib.hid hid2
  clear hid2
  go_wp2_with (refine wpList_ld (op := ⟨some 34, _, _, _, _, _⟩) (by rfl) 28 (.tmp 33) rfl N1 20 rfl (idC a.id) _ HIDR.out Try.underlying28 rfl info_iC ?_; refine Hid.out ?_)
  refine Lib.hid ?_
  clear HIDR
  go_wp2_with (refine wpList_st rfl 28 (.tmp 35) (.tmp 34) rfl N81 20 rfl (.agg (idC a.id)) (idC a.id) rfl rfl info_iC (id_oneA _) K92.out (Nat.le_of_ble_eq_true rfl) (C' := pdC (idP c a.id)) (pd_id _ _) ?_; intro u22 q1; refine Hid.out ?_)
  refine Lib.hid ?_
  have K3n := Lib.hid (K3.out.far q1 (by omega))
  clear K3
  have K3 := K3n
  clear K3n
  have K4n := Lib.hid (K4.out.far q1 (by omega))
  clear K4
  have K4 := K4n
  clear K4n
  have K5n := Lib.hid (K5.out.far q1 (by omega))
  clear K5
  have K5 := K5n
  clear K5n
  have KPn := Lib.hid (KP.out.far q1 (by omega))
  clear KP
  have KP := KPn
  clear KPn
  have KGn := Lib.hid (KG.out.far q1 (by omega))
  clear KG
  have KG := KGn
  clear KGn
  have KO0n := Lib.hid (KO0.out.far q1 (by omega))
  clear KO0
  have KO0 := KO0n
  clear KO0n
  have KO1n := Lib.hid (KO1.out.far q1 (by omega))
  clear KO1
  have KO1 := KO1n
  clear KO1n
  have HBn := Lib.hid (HB.out.trans (q1.2.1 _ (by omega)))
  clear HB
  have HB := HBn
  clear HBn
  have K92n : Hid (Blk 42 u22 N81 (pdC (idP c a.id))) := Lib.hid q1.1
  clear K92
  have K92 := K92n
  clear K92n q1
  obtain ⟨kd2, hkd2⟩ : ∃ k : Int, (if c.kd = 20 then 20 else 18) = k := ⟨_, rfl⟩
  have HKD2 : Hid (kd2 = 18 ∨ kd2 = 20) := Lib.hid (by rw [← hkd2]; split; exact .inr rfl; exact .inl rfl)
  obtain ⟨bk, hbk⟩ : ∃ q, (c.kd != 20) = q := ⟨_, rfl⟩
  have c0 : u22.cell? ⟨N81, 0, none⟩ = some (.int .u8 c.kd) := (K92.out.cell 0).trans rfl
  go_upto_if 38 with fail
  have HBK := Lib.hid hbk
  have HK9 := Lib.hid hkd2
  clear hbk hkd2 c0
  go_cut [] (fun wc => Hid (Blk 42 wc N81 (pdC (kdP' (idP c a.id) kd2))) ∧ Hid (Blk 42 wc N1 (pdC a)) ∧ Hid (Blk 42 wc N2 (pdC b)) ∧ Hid (Blk 42 wc N3 (pdC c)) ∧ Hid (Blk 70 wc N11 (#[.slice (some ⟨g0, 0, none⟩) n0 c0, .slice (some ⟨g1, 0, none⟩) n1 c1, .slice none 0 0])) ∧ Hid (Blk 42 wc N12 (pdC a ++ pdC b ++ pdC c)) ∧ Hid (By8 wc g0 n0 c0 z0) ∧ Hid (By8 wc g1 n1 c1 z1) ∧ Hid (Below w.heap.size w wc))
  case first =>
    cases bk with
    | false =>
      have hq : c.kd = 20 := by simpa using HBK.out
      have hk9 : kd2 = c.kd := by rw [← HK9.out, if_pos hq, hq]
      have K92n : Hid (Blk 42 u22 N81 (pdC (kdP' (idP c a.id) kd2))) := Lib.hid (by rw [hk9]; exact K92.out)
      clear K92
      have K92 := K92n
      clear K92n hk9 hq
      go_wp2_with fail
      go_meet
      case rel => exact ⟨K92, K3, K4, K5, KP, KG, KO0, KO1, HB⟩
    | true =>
      have hq : ¬ c.kd = 20 := by simpa using HBK.out
      have hk9 : kd2 = 18 := by rw [← HK9.out, if_neg hq]
      clear hq
      go_wp2_with (refine wpList_st rfl 5 (.tmp 39) (.const (.int .u8 18)) rfl N81 0 rfl (.int .u8 18) (#[.int .u8 18]) rfl rfl info_u81 (one_u8v _) K92.out (Nat.le_of_ble_eq_true rfl) (C' := pdC (kdP' (idP c a.id) kd2)) (by rw [hk9]; exact pd_kd _ _) ?_; intro u23 q1; refine Hid.out ?_)
      refine Lib.hid ?_
      have K3n := Lib.hid (K3.out.far q1 (by omega))
      clear K3
      have K3 := K3n
      clear K3n
      have K4n := Lib.hid (K4.out.far q1 (by omega))
      clear K4
      have K4 := K4n
      clear K4n
      have K5n := Lib.hid (K5.out.far q1 (by omega))
      clear K5
      have K5 := K5n
      clear K5n
      have KPn := Lib.hid (KP.out.far q1 (by omega))
      clear KP
      have KP := KPn
      clear KPn
      have KGn := Lib.hid (KG.out.far q1 (by omega))
      clear KG
      have KG := KGn
      clear KGn
      have KO0n := Lib.hid (KO0.out.far q1 (by omega))
      clear KO0
      have KO0 := KO0n
      clear KO0n
      have KO1n := Lib.hid (KO1.out.far q1 (by omega))
      clear KO1
      have KO1 := KO1n
      clear KO1n
      have HBn := Lib.hid (HB.out.trans (q1.2.1 _ (by omega)))
      clear HB
      have HB := HBn
      clear HBn
      have K92n : Hid (Blk 42 u23 N81 (pdC (kdP' (idP c a.id) kd2))) := Lib.hid q1.1
      clear K92
      have K92 := K92n
      clear K92n q1
      clear hk9
      go_wp2_with fail
      go_meet
      case rel => exact ⟨K92, K3, K4, K5, KP, KG, KO0, KO1, HB⟩
  case rest =>
  clear K3
  clear K4
  clear K5
  clear KP
  clear KG
  clear KO0
  clear KO1
  clear K92 HB
  obtain ⟨K92, K3, K4, K5, KP, KG, KO0, KO1, HB⟩ := hcut
  obtain ⟨u24, hu4⟩ : ∃ x, x = wc := ⟨_, rfl⟩
  subst hu4
  have c46 : u24.cell? ⟨N81, 46, none⟩ = some (.slice c.A c.m c.c) := (K92.out.cell 46).trans rfl
  have hmin : min (c.m : Int) 4 = ((min c.m 4 : Nat) : Int) := by omega
  go_wp2_with (refine wpList_v (op := ⟨some 45, _, _, _, _, _⟩) rfl (.int .i64 ((min c.m 4 : Nat) : Int)) (min_run _ _ _ _ rfl c.m rfl rfl _) ?_; refine Hid.out ?_)
  refine Lib.hid ?_
  go_wp2_with (refine wpList_v (op := ⟨some 46, _, _, _, _, _⟩) rfl (.slice c.A (min c.m 4) c.c) (slice_k _ _ _ _ rfl c.A c.m c.c (min c.m 4) (by rcases Nat.eq_zero_or_pos c.m with h | h; exact .inl h; obtain ⟨b9, o9, e9, _⟩ := HIC.out.2.1.row h; exact .inr ⟨b9, o9, e9⟩) rfl rfl (Nat.min_le_left _ _) HIC.out.2.2.2.1 _) ?_; refine Hid.out ?_)
  refine Lib.hid ?_
  clear c46 hmin
  go_wp2_with (refine wpList_st rfl 40 (.tmp 47) (.tmp 46) rfl N81 46 rfl (.slice c.A (min c.m 4) c.c) (#[.slice c.A (min c.m 4) c.c]) rfl rfl info_tls one_sl K92.out (Nat.le_of_ble_eq_true rfl) (C' := pdC (oP c a.id kd2)) (pd_tl4 _ _ _) ?_; intro u25 q1; refine Hid.out ?_)
  refine Lib.hid ?_
  have K3n := Lib.hid (K3.out.far q1 (by omega))
  clear K3
  have K3 := K3n
  clear K3n
  have K4n := Lib.hid (K4.out.far q1 (by omega))
  clear K4
  have K4 := K4n
  clear K4n
  have K5n := Lib.hid (K5.out.far q1 (by omega))
  clear K5
  have K5 := K5n
  clear K5n
  have KPn := Lib.hid (KP.out.far q1 (by omega))
  clear KP
  have KP := KPn
  clear KPn
  have KGn := Lib.hid (KG.out.far q1 (by omega))
  clear KG
  have KG := KGn
  clear KGn
  have KO0n := Lib.hid (KO0.out.far q1 (by omega))
  clear KO0
  have KO0 := KO0n
  clear KO0n
  have KO1n := Lib.hid (KO1.out.far q1 (by omega))
  clear KO1
  have KO1 := KO1n
  clear KO1n
  have HBn := Lib.hid (HB.out.trans (q1.2.1 _ (by omega)))
  clear HB
  have HB := HBn
  clear HBn
  have K92n : Hid (Blk 42 u25 N81 (pdC (oP c a.id kd2))) := Lib.hid q1.1
  clear K92
  have K92 := K92n
  clear K92n q1
  go_wp2_with (refine wpList_ld (op := ⟨some 49, _, _, _, _, _⟩) (by rfl) 42 (.tmp 9) rfl N81 0 rfl (pdC (oP c a.id kd2)) _ K92.out.all Try.underlying42 rfl info_pdR ?_; refine Hid.out ?_)
  refine Lib.hid ?_
  go_wp2_with fail
  have HOK2 : Hid (PdOk (oP c a.id kd2)) := Lib.hid (oP_ok HIC.out.1 HIA.out.1.2.2.1 HKD2.out)
  obtain ⟨m2, hm2⟩ := jends Lc (oP c a.id kd2).m
  have HM2 := Lib.hid hm2
  clear hm2
  have HRT : Hid (RdT u25 c.A (oP c a.id kd2).m Lc) := Lib.hid (rdT_min (HIC.out.2.1.below HB.out) (Nat.min_le_left _ _))
  refine (docWrite_any (oP c a.id kd2) HOK2.out Lc m2 HM2.out u25 ⟨HRT.out, Nat.le_trans (Nat.min_le_left _ _) HIC.out.2.2.2.1, by have := HIC.out.2.2.2.2; show c.c ≤ _; omega⟩).mono ?_
  have HL9 : Hid (N81 < u25.heap.size) := Lib.hid K92.out.lt
  rintro e u26 ⟨A2, c2, rfl, hrd, hc1, hc2, b1, hown⟩
  have K3n := Lib.hid (K3.out.below b1 K3.out.lt)
  clear K3
  have K3 := K3n
  clear K3n
  have K4n := Lib.hid (K4.out.below b1 K4.out.lt)
  clear K4
  have K4 := K4n
  clear K4n
  have K5n := Lib.hid (K5.out.below b1 K5.out.lt)
  clear K5
  have K5 := K5n
  clear K5n
  have KPn := Lib.hid (KP.out.below b1 KP.out.lt)
  clear KP
  have KP := KPn
  clear KPn
  have KGn := Lib.hid (KG.out.below b1 KG.out.lt)
  clear KG
  have KG := KGn
  clear KGn
  have KO0n := Lib.hid (KO0.out.below b1 KO0.out.lt)
  clear KO0
  have KO0 := KO0n
  clear KO0n
  have KO1n := Lib.hid (KO1.out.below b1 KO1.out.lt)
  clear KO1
  have KO1 := KO1n
  clear KO1n
  have K92n := Lib.hid (K92.out.below b1 K92.out.lt)
  clear K92
  have K92 := K92n
  clear K92n
  have HBn := Lib.hid (HB.out.trans (b1.mono HB.out.size))
  clear HB
  have HB := HBn
  clear HBn
  have HOW2 : Hid (wrX (oP c a.id kd2) Lc m2 = 0 → OW (oP c a.id kd2) Lc a.id (wrN (oP c a.id kd2) Lc m2) (wrZ (oP c a.id kd2) Lc m2)) := Lib.hid (fun h => oP_wr HOK2.out HKD2.out HM2.out HRT.out h)
  obtain ⟨x2, hx2⟩ : ∃ v, wrX (oP c a.id kd2) Lc m2 = v := ⟨_, rfl⟩
  obtain ⟨n2, hn2⟩ : ∃ v, wrN (oP c a.id kd2) Lc m2 = v := ⟨_, rfl⟩
  obtain ⟨z2, hz2⟩ : ∃ v, wrZ (oP c a.id kd2) Lc m2 = v := ⟨_, rfl⟩
  rw [hx2, hn2, hz2] at HOW2
  rw [hx2, hn2, hz2] at hown
  rw [hx2, hn2]
  have HOWN := Lib.hid hown
  clear hx2 hn2 hz2 hrd hc1 hc2 hown b1 HRT
  by_cases hx0 : x2 = 0
  rotate_left
  · have hxb : (x2 != 0) = true := by simpa using hx0
    clear hx0
    go_wp2_with fail
    go_ret
    exact ⟨rfl, HB.out⟩
  subst hx0
  have hxb : ((0 : Int) != 0) = false := rfl
  obtain ⟨g2, rfl, hg2, hO2⟩ := HOWN.out rfl
  have HW2 := Lib.hid (HOW2.out rfl)
  have KO2 : Hid (By8 u26 g2 n2 c2 z2) := Lib.hid hO2
  have ne2 : g2 ≠ N11 := fun e => by have := KP.out.lt; have h9 := lt_N11_N81; have h8 := hg2; have h7 := K92.out.lt; have h6 : N81 < u25.heap.size := HL9.out; omega
  clear HOWN HOW2 hO2 hg2 HL9
  clear K92
  go_wp2_with (refine wpList_st rfl 43 (.tmp 57) (.tmp 56) rfl N11 2 rfl (.slice (some ⟨g2, 0, none⟩) n2 c2) #[.slice (some ⟨g2, 0, none⟩) n2 c2] rfl rfl info_bs1 one_sl KP.out (Nat.le_of_ble_eq_true rfl) (C' := #[.slice (some ⟨g0, 0, none⟩) n0 c0, .slice (some ⟨g1, 0, none⟩) n1 c1, .slice (some ⟨g2, 0, none⟩) n2 c2]) (by rfl) ?_; intro u27 q1; refine Hid.out ?_)
  refine Lib.hid ?_
  have K3n := Lib.hid (K3.out.far q1 (by omega))
  clear K3
  have K3 := K3n
  clear K3n
  have K4n := Lib.hid (K4.out.far q1 (by omega))
  clear K4
  have K4 := K4n
  clear K4n
  have K5n := Lib.hid (K5.out.far q1 (by omega))
  clear K5
  have K5 := K5n
  clear K5n
  have KGn := Lib.hid (KG.out.far q1 (by omega))
  clear KG
  have KG := KGn
  clear KGn
  have KO0n := Lib.hid (KO0.out.far q1 (by omega))
  clear KO0
  have KO0 := KO0n
  clear KO0n
  have KO1n := Lib.hid (KO1.out.far q1 (by omega))
  clear KO1
  have KO1 := KO1n
  clear KO1n
  have KO2n := Lib.hid (KO2.out.far q1 (by omega))
  clear KO2
  have KO2 := KO2n
  clear KO2n
  have HBn := Lib.hid (HB.out.trans (q1.2.1 _ (by omega)))
  clear HB
  have HB := HBn
  clear HBn
  have KPn : Hid (Blk 70 u27 N11 (#[.slice (some ⟨g0, 0, none⟩) n0 c0, .slice (some ⟨g1, 0, none⟩) n1 c1, .slice (some ⟨g2, 0, none⟩) n2 c2])) := Lib.hid q1.1
  clear KP
  have KP := KPn
  clear KPn q1
  go_wp2_with fail
  rw [rounds_succ]
  go_wp2_with fail
  obtain ⟨gg, hgg⟩ : ∃ f : Nat → Nat, f = fun i => if i = 0 then g0 else if i = 1 then g1 else g2 := ⟨_, rfl⟩
  obtain ⟨nn, hnn⟩ : ∃ f : Nat → Nat, f = fun i => if i = 0 then n0 else if i = 1 then n1 else n2 := ⟨_, rfl⟩
  obtain ⟨cc, hcc⟩ : ∃ f : Nat → Nat, f = fun i => if i = 0 then c0 else if i = 1 then c1 else c2 := ⟨_, rfl⟩
  obtain ⟨zz, hzz⟩ : ∃ f : Nat → Nat → Int, f = fun i => if i = 0 then z0 else if i = 1 then z1 else z2 := ⟨_, rfl⟩
  obtain ⟨mm, hmm⟩ : ∃ f : Nat → Nat, f = fun i => if i = 0 then (oP a a.id kd0).m else if i = 1 then (oP b a.id kd1).m else (oP c a.id kd2).m := ⟨_, rfl⟩
  have HV : Hid (V3 u27 N11 gg nn cc zz) := Lib.hid (by
    subst hgg hnn hcc hzz
    refine ⟨KP.out, fun i hi => ?_⟩
    rcases (by omega : i = 0 ∨ i = 1 ∨ i = 2) with rfl | rfl | rfl
    · exact KO0.out
    · exact KO1.out
    · exact KO2.out)
  have HG : Hid (G3 nn mm zz) := Lib.hid (by
    subst hnn hzz hmm
    refine ⟨fun i hi => ?_, fun i j hi hj => ?_⟩
    · rcases (by omega : i = 0 ∨ i = 1 ∨ i = 2) with rfl | rfl | rfl
      · exact ⟨HW0.out.h4, HW0.out.hn, HW0.out.good⟩
      · exact ⟨HW1.out.h4, HW1.out.hn, HW1.out.good⟩
      · exact ⟨HW2.out.h4, HW2.out.hn, HW2.out.good⟩
    · have e0 := idZ_of HW0.out.hid
      have e1 := idZ_of HW1.out.hid
      have e2 := idZ_of HW2.out.hid
      rcases (by omega : i = 0 ∨ i = 1 ∨ i = 2) with rfl | rfl | rfl <;> rcases (by omega : j = 0 ∨ j = 1 ∨ j = 2) with rfl | rfl | rfl
      · exact e0.trans e0.symm
      · exact e0.trans e1.symm
      · exact e0.trans e2.symm
      · exact e1.trans e0.symm
      · exact e1.trans e1.symm
      · exact e1.trans e2.symm
      · exact e2.trans e0.symm
      · exact e2.trans e1.symm
      · exact e2.trans e2.symm)
  obtain ⟨T, hT⟩ : ∃ T : Nat → Hd, T = fun i => hdZ (nn i) (zz i) := ⟨_, rfl⟩
  clear hgg hnn hcc hzz hmm
  have HN : Hid (∀ (i j : Nat) (W : World), i < 3 → j < 3 → Below u27.heap.size u27 W → Calls Try.prog 24 #[.int .i64 (i : Int), .int .i64 (j : Int), .pointer (some ⟨N11, 0, none⟩)] W fun e w' => e = .returned (.tuple #[.int .i64 (relH (T i) (T j)), .bool true]) ∧ Below W.heap.size W w') := Lib.hid (fun i j W hi hj hb => by subst hT; exact newer_any N11 i j gg nn cc mm zz W hi hj (HV.out.below hb) HG.out)
  clear hT
  obtain ⟨ab, hab⟩ : ∃ v, relH (T 0) (T 1) = v := ⟨_, rfl⟩
  obtain ⟨ba, hba⟩ : ∃ v, relH (T 1) (T 0) = v := ⟨_, rfl⟩
  obtain ⟨bc, hbc⟩ : ∃ v, relH (T 1) (T 2) = v := ⟨_, rfl⟩
  obtain ⟨ac, hac⟩ : ∃ v, relH (T 0) (T 2) = v := ⟨_, rfl⟩
  have Cab : Hid (∀ W, Below u27.heap.size u27 W → Calls Try.prog 24 #[.int .i64 0, .int .i64 1, .pointer (some ⟨N11, 0, none⟩)] W fun e w' => e = .returned (.tuple #[.int .i64 ab, .bool true]) ∧ Below W.heap.size W w') := Lib.hid (fun W hb => by rw [← hab]; exact HN.out 0 1 W (by decide) (by decide) hb)
  have Cba : Hid (∀ W, Below u27.heap.size u27 W → Calls Try.prog 24 #[.int .i64 1, .int .i64 0, .pointer (some ⟨N11, 0, none⟩)] W fun e w' => e = .returned (.tuple #[.int .i64 ba, .bool true]) ∧ Below W.heap.size W w') := Lib.hid (fun W hb => by rw [← hba]; exact HN.out 1 0 W (by decide) (by decide) hb)
  have Cbc : Hid (∀ W, Below u27.heap.size u27 W → Calls Try.prog 24 #[.int .i64 1, .int .i64 2, .pointer (some ⟨N11, 0, none⟩)] W fun e w' => e = .returned (.tuple #[.int .i64 bc, .bool true]) ∧ Below W.heap.size W w') := Lib.hid (fun W hb => by rw [← hbc]; exact HN.out 1 2 W (by decide) (by decide) hb)
  have Cac : Hid (∀ W, Below u27.heap.size u27 W → Calls Try.prog 24 #[.int .i64 0, .int .i64 2, .pointer (some ⟨N11, 0, none⟩)] W fun e w' => e = .returned (.tuple #[.int .i64 ac, .bool true]) ∧ Below W.heap.size W w') := Lib.hid (fun W hb => by rw [← hac]; exact HN.out 0 2 W (by decide) (by decide) hb)
  have hL := (tot_relH).law (T 0) (T 1) (T 2)
  have hA := (tot_relH).anti (T 0) (T 1)
  have v1 := (tot_relH).val (T 0) (T 1)
  have v2 := (tot_relH).val (T 1) (T 2)
  rw [hab, hbc, hac] at hL
  rw [hab, hba] at hA
  rw [hab] at v1
  rw [hbc] at v2
  have HLL := Lib.hid hL
  have HAA := Lib.hid hA
  have HV1 := Lib.hid v1
  have HV2 := Lib.hid v2
  clear hL hA v1 v2 hab hba hbc hac HN HV HG
  have HQ := Lib.hid (Below.refl u27.heap.size u27)
  go_wp2_with fail
  refine (Cab.out u27 HQ.out).mono ?_
  rintro e y0 ⟨rfl, b1⟩
  have HBn := Lib.hid (HB.out.trans (b1.mono HB.out.size))
  clear HB
  have HB := HBn
  clear HBn
  have HQn := Lib.hid (HQ.out.trans (b1.mono HQ.out.size))
  clear HQ
  have HQ := HQn
  clear HQn b1
  go_wp2_with fail
  refine (Cba.out y0 HQ.out).mono ?_
  rintro e y1 ⟨rfl, b1⟩
  have HBn := Lib.hid (HB.out.trans (b1.mono HB.out.size))
  clear HB
  have HB := HBn
  clear HBn
  have HQn := Lib.hid (HQ.out.trans (b1.mono HQ.out.size))
  clear HQ
  have HQ := HQn
  clear HQn b1
  go_wp2_with fail
  refine (Cbc.out y1 HQ.out).mono ?_
  rintro e y2 ⟨rfl, b1⟩
  have HBn := Lib.hid (HB.out.trans (b1.mono HB.out.size))
  clear HB
  have HB := HBn
  clear HBn
  have HQn := Lib.hid (HQ.out.trans (b1.mono HQ.out.size))
  clear HQ
  have HQ := HQn
  clear HQn b1
  go_wp2_with fail
  refine (Cac.out y2 HQ.out).mono ?_
  rintro e y3 ⟨rfl, b1⟩
  have HBn := Lib.hid (HB.out.trans (b1.mono HB.out.size))
  clear HB
  have HB := HBn
  clear HBn
  have HQn := Lib.hid (HQ.out.trans (b1.mono HQ.out.size))
  clear HQ
  have HQ := HQn
  clear HQn b1
  clear K3 K4 K5 KP KG KO0 KO1 KO2
  rcases HV1.out with rfl | rfl | rfl <;> rcases HV2.out with rfl | rfl | rfl
  · obtain rfl : ba = 1 := by have := HAA.out; omega
    obtain rfl : ac = -1 := by have := HLL.out; omega
    clear HLL HAA HV1 HV2
    go_wp2_with fail
    go_ret
    exact ⟨rfl, HB.out⟩
  · obtain rfl : ba = 1 := by have := HAA.out; omega
    obtain rfl : ac = -1 := by have := HLL.out; omega
    clear HLL HAA HV1 HV2
    go_wp2_with fail
    go_ret
    exact ⟨rfl, HB.out⟩
  · obtain rfl : ba = 1 := by have := HAA.out; omega
    clear HLL HAA HV1 HV2
    go_wp2_with fail
    go_ret
    exact ⟨rfl, HB.out⟩
  · obtain rfl : ba = 0 := by have := HAA.out; omega
    obtain rfl : ac = -1 := by have := HLL.out; omega
    clear HLL HAA HV1 HV2
    go_wp2_with fail
    go_ret
    exact ⟨rfl, HB.out⟩
  · obtain rfl : ba = 0 := by have := HAA.out; omega
    obtain rfl : ac = 0 := by have := HLL.out; omega
    clear HLL HAA HV1 HV2
    go_wp2_with fail
    go_ret
    exact ⟨rfl, HB.out⟩
  · obtain rfl : ba = 0 := by have := HAA.out; omega
    obtain rfl : ac = 1 := by have := HLL.out; omega
    clear HLL HAA HV1 HV2
    go_wp2_with fail
    go_ret
    exact ⟨rfl, HB.out⟩
  · obtain rfl : ba = -1 := by have := HAA.out; omega
    clear HLL HAA HV1 HV2
    go_wp2_with fail
    go_ret
    exact ⟨rfl, HB.out⟩
  · obtain rfl : ba = -1 := by have := HAA.out; omega
    obtain rfl : ac = 1 := by have := HLL.out; omega
    clear HLL HAA HV1 HV2
    go_wp2_with fail
    go_ret
    exact ⟨rfl, HB.out⟩
  · obtain rfl : ba = -1 := by have := HAA.out; omega
    obtain rfl : ac = 1 := by have := HLL.out; omega
    clear HLL HAA HV1 HV2
    go_wp2_with fail
    go_ret
    exact ⟨rfl, HB.out⟩
end Go.Proofs.Ytljkcpjkbmbphaa
