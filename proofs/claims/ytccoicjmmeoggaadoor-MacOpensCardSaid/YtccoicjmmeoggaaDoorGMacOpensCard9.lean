/- Texts of this claim put together; each theorem states its conditions. -/
import Derived.Test.YtccoicjmmeoggaaDoorGMacOpensCard8
import Derived.Test.YtccoicjmmeoggaaDoorGMacOpensCard6
import Derived.Test.YtccoicjmmeoggaaDoorGMacOpensCard7
/- Keys that came in as arguments can be read. No condition. -/
namespace Go.Proofs.YtccoicjmmeoggaaDoor
open Go.RowKit Go.ChangeShapes Go.WideShapes
set_option linter.unusedVariables false

set_option maxRecDepth 100000 in
theorem open_keys {H : Type} {enc : TypeId × Value → H} {w : World} {base : Nat} {held : Bool} {a : Option Addr} {len cap : Nat} {d : DataW H} {ps : List MemPlace}
    (h : DataW.Trod enc Tryd.prog w base (fun _ => true) held 50 (.slice a len cap) d ps) (hsz : ∀ n ∈ d.weights Tryd.prog 50, n ≤ 140737488351232) :
    ∃ K, RdK w a len K ∧ (a = none → len = 0 ∧ cap = 0) ∧ len ≤ cap ∧ cap * 32 ≤ 140737488351232 := by
  obtain ⟨fuel, hf⟩ := h
  have he := Tryd.underlying45
  rcases Deep.open_slice_pairs Tryd.underlying50 he (by kernel_rfl) rfl rfl (by kernel_rfl) (by kernel_rfl) hf with ⟨hcs, _⟩ | ⟨x, l, c, mm, n, V0, V1, D0, D1, P0, P1, hcs, _, hl, hm, hmm, hx, hcell⟩
  · simp [Value.cells] at hcs
    obtain ⟨rfl, rfl, rfl⟩ := hcs
    exact ⟨fun _ => ⟨0, none, 0, 0, fun _ => 0⟩, ⟨.inl rfl, fun j hj => by omega⟩, fun _ => ⟨rfl, rfl⟩, Nat.le_refl _, by omega⟩
  · simp [Value.cells] at hcs
    obtain ⟨rfl, rfl, rfl⟩ := hcs
    rw [if_pos rfl] at hmm
    subst hmm
    simp only [Prod.mk.injEq] at hx
    obtain ⟨rfl, rfl⟩ := hx
    have hb : Tryd.prog.bytesOf 45 = 32 := by kernel_rfl
    have hw0 := hsz ((len + (mm - len)) * 32) (by
      simp only [DataW.weights, Tryd.underlying50, List.length_map, List.length_range, hb]
      exact List.mem_cons_self ..)
    have each : ∀ i, i < len → ∃ t : Int × Option Addr × Nat × Nat × (Nat → Int), w.cell? (x.add (i * 2)) = some (.int .u16 t.1) ∧ w.cell? (x.add (i * 2 + 1)) = some (.slice t.2.1 t.2.2.1 t.2.2.2.1) ∧ KeOk w ⟨t.1, t.2.1, t.2.2.1, t.2.2.2.1, t.2.2.2.2⟩ := by
      intro i hi
      obtain ⟨e0, e1, t0, t1⟩ := hcell i (by omega)
      obtain ⟨ty, ety, _, wty⟩ := DataW.trod_int Tryd.underlying43 t0
      have hty : V0 i = .int .u16 ty := by simpa using ety
      have hwt : ∀ k ∈ (D1 i).weights Tryd.prog 22, k ≤ 140737488351232 := by
        intro k hk
        refine hsz k ?_
        simp only [DataW.weights, Tryd.underlying50]
        refine List.mem_cons_of_mem _ (List.mem_append_left _ (mem_weightsAll (d := .agg [D0 i, D1 i]) (List.mem_map.2 ⟨i, by simpa using hi, rfl⟩) k ?_))
        simp only [DataW.weights, he]
        exact DataW.weights_mem_each (j := 1) (t := 22) (d := D1 i) rfl rfl k hk
      rcases open_ints Tryd.underlying22 Tryd.underlying5 (by kernel_rfl) t1 with ⟨hcs, _⟩ | ⟨y, l, c, zs, hcs, _, hl', hm', hz', hx', hc', hwz⟩
      · have hv : V1 i = .slice none 0 0 := by simpa using hcs
        rw [hty] at e0
        rw [hv] at e1
        exact ⟨(ty, none, 0, 0, fun _ => 0), e0, e1, wf_u16 wty, ⟨.inl rfl, fun _ => by simp⟩, fun _ => ⟨rfl, rfl⟩, by simp⟩
      · have hv : V1 i = .slice (some y) l c := by simpa using hcs
        rw [hty] at e0
        rw [hv] at e1
        rw [if_pos rfl] at hz'
        obtain ⟨hr, hn⟩ := isRow_rd (w := w) (A := some y) (len := l) (cap := c) (zs := zs) (.inr ⟨y, rfl, hl', hm', hz', hc', hwz⟩)
        have hD : D1 i = .slice (lits .u8 (zs.take l)) (lits .u8 (zs.drop l)) := by
          have := congrArg Prod.fst hx'
          simpa using this
        have hbb : Tryd.prog.bytesOf 5 = 1 := by kernel_rfl
        have hw1 := hwt ((l + (c - l)) * 1) (by
          rw [hD]
          simp only [DataW.weights, Tryd.underlying22, lits, List.length_map, List.length_take, List.length_drop, hz', hbb, Nat.min_eq_left hl']
          exact List.mem_cons_self ..)
        exact ⟨(ty, some y, l, c, fun j => zs.getD j 0), e0, e1, wf_u16 wty, hr, fun e => (by cases e), by show l ≤ _; omega⟩
    obtain ⟨f, hf'⟩ := Deep.choose_lt each
    refine ⟨fun i => ⟨(f i).1, (f i).2.1, (f i).2.2.1, (f i).2.2.2.1, (f i).2.2.2.2⟩, ?_, fun e => (by cases e), hl, by omega⟩
    refine ⟨?_, fun j hj => (hf' j hj).2.2⟩
    rcases Nat.eq_zero_or_pos len with h0 | h0
    · exact .inl h0
    · obtain ⟨b, off, spot⟩ := x
      have hc0 := (hf' 0 h0).1
      have hs : spot = none := by simpa [Addr.add] using World.cell?_spot hc0
      subst hs
      have hadd : ∀ j, (⟨b, off, none⟩ : Addr).add j = ⟨b, off + j, none⟩ := fun j => by unfold Addr.add; split <;> simp_all
      refine .inr ⟨b, off, rfl, ?_, fun j hj => ?_⟩
      · have := cell_lt hc0
        simpa [hadd] using this
      · obtain ⟨h1, h2, h3⟩ := hf' j hj
        rw [hadd] at h1 h2
        intro i u hu
        match i, hu with
        | 0, hu => injection hu with hu; rw [← hu]; exact h1
        | 1, hu => injection hu with hu; rw [← hu, ← Nat.add_assoc] at *; exact h2
        | i + 2, hu => cases hu
end Go.Proofs.YtccoicjmmeoggaaDoor

/- Seal of packets with lists that are alike; the parts of the laws. Each theorem states its conditions. -/
namespace Go.Proofs.YtccoicjmmeoggaaDoor
open Go.RowKit
set_option linter.unusedVariables false
set_option linter.unusedSimpArgs false

/-- a packet's own list, one marked item behind it -/
def it77 : It := ⟨77, none, 0, 0, nou⟩
/-- a list of the call's own, and one item more, which holds no bytes -/
def Mine (w : World) (base g c m : Nat) (L2 : Nat → It) : Prop := w.ownsRow base 49 2 (.slice (some ⟨g, 0, none⟩) (m + 1) c) (m + 1) (cellsT (addT L2 m it77) (m + 1)) ∧ ∀ j, j < m → OwnV w base (L2 j)
section
variable {w w' : World} {base g c m : Nat} {L2 : Nat → It}
theorem Mine.below {B : Nat} (h : Mine w base g c m L2) (hb : Below w.heap.size w w') (_ : base < B) : Mine w' base g c m L2 := ⟨ownsRow_below' h.1 hb, fun j hj => (h.2 j hj).below hb⟩
theorem Mine.blk (h : Mine w base g c m L2) : ∃ cur, w.heap[g]? = some (.cells cur 49 (0, 0)) ∧ base ≤ g ∧ m + 1 ≤ c ∧ c ≤ maxLen ∧ cur.toList.take ((m + 1) * 2) = cellsT (addT L2 m it77) (m + 1) := by
  rcases h.1.2 with ⟨h1, _⟩ | ⟨g2, cap, cur, hv, hb, hc, h1, h2, h3, h4⟩
  · cases h1
  · injection hv with h5 h6 h7
    injection h5 with h5
    injection h5 with h5 _ _
    subst h5 h7
    exact ⟨cur, hc, hb, h1, h2, h4⟩
theorem Mine.lt (h : Mine w base g c m L2) : base < w.heap.size := by
  obtain ⟨cur, hc, hb, _⟩ := h.blk
  exact Nat.lt_of_le_of_lt hb (Array.getElem?_eq_some_iff.1 hc).1
theorem Mine.far {b : Nat} {C : Array Value} {t : TypeId} (h : Mine w base g c m L2) (hs : Stored w w' b C t) (hk : b < base) : Mine w' base g c m L2 := by
  refine ⟨⟨h.1.1, ?_⟩, fun j hj => ?_⟩
  · rcases h.1.2 with h1 | ⟨g2, cap, cur, hv, hg, hc, r⟩
    · exact .inl h1
    · exact .inr ⟨g2, cap, cur, hv, hg, (hs.2.2 g2 (by omega)).trans hc, r⟩
  · obtain ⟨h1, h2, g, h3, h4, h5⟩ := h.2 j hj
    exact ⟨h1, h2, g, h3, h4, h5.block (hs.2.2 g (by omega))⟩
theorem Mine.rd (h : Mine w base g c m L2) : RdT w (some ⟨g, 0, none⟩) m L2 := by
  obtain ⟨cur, hc, hb, h1, h2, h4⟩ := h.blk
  refine .inr ⟨g, 0, rfl, (Array.getElem?_eq_some_iff.1 hc).1, fun j hj => ?_⟩
  obtain ⟨x0, x1⟩ := cellsT_at (addT L2 m it77) (m + 1) j (by omega)
  rw [addT_lo _ _ _ _ hj] at x0 x1
  rw [← h4, List.getElem?_take, if_pos (by omega)] at x0 x1
  refine ⟨?_, ?_, (h.2 j hj).ok⟩
  · rw [Nat.zero_add, cell_of_row w g _ cur _ (0, 0) hc]; simpa using x0
  · rw [Nat.zero_add, cell_of_row w g _ cur _ (0, 0) hc]; simpa using x1
end
theorem zero_key2 : (Tryd.prog.info? 45).map (·.zero) = some (some (.agg (kC ⟨0, none, 0, 0, nou⟩))) := by kernel_rfl
end Go.Proofs.YtccoicjmmeoggaaDoor

/- mac.checkKeys; the search for a key's number. Each theorem states its conditions. -/
namespace Go.Proofs.YtccoicjmmeoggaaDoor
open Go.RowKit
set_option linter.unusedVariables false
set_option linter.unusedSimpArgs false

/-- the least error of the first keys -/
def ckE (K : Nat → It) : Nat → Int
  | 0 => 0
  | j + 1 => lea (ckE K j) (secE (K j).n)
theorem lea_3 {a b : Int} (ha : 0 ≤ a ∧ a ≤ 3) (hb : 0 ≤ b ∧ b ≤ 3) : 0 ≤ lea a b ∧ lea a b ≤ 3 := by unfold lea; (repeat' split) <;> omega
theorem ckE_bd (K : Nat → It) (m : Nat) : 0 ≤ ckE K m ∧ ckE K m ≤ 3 := by
  induction m with
  | zero => exact ⟨Int.le_refl 0, by show (0 : Int) ≤ 3; decide⟩
  | succ m ih => exact lea_3 ih (secE_bd _)
def keysE (K : Nat → It) (m : Nat) : Int := if 8 < m then 2 else ckE K m
theorem keysE_bd (K : Nat → It) (m : Nat) : 0 ≤ keysE K m ∧ keysE K m ≤ 3 := by
  unfold keysE; split
  · decide
  · exact ckE_bd K m
theorem rdK_rng {w : World} {b off m : Nat} {K : Nat → It} (h : RowR w b off m 2 (kR K)) (j : Nat) (hj : j < m) : w.rangeAt b (off + j * 2) (kC (K j)).toList := h.2 j hj
set_option maxHeartbeats 8000000 in
set_option maxRecDepth 100000 in
theorem checkKeys_any (A : Option Addr) (m c : Nat) (K : Nat → It) (w : World) (h : RdK w A m K) :
    Calls Tryd.prog 46 #[.slice A m c] w fun e w' => e = .returned (.int .i64 (keysE K m)) ∧ Below w.heap.size w w' := by
  have HR := Lib.hid h
  clear h
  by_cases hl : 8 < m
  · have hl2 : (8 : Int) < (m : Int) := by omega
    have hE : Hid (keysE K m = 2) := Lib.hid (if_pos hl)
    clear hl
    go_enter Tryd.func46, Tryd.ntmps46
    go_wp2_with fail
    go_ret
    exact ⟨by rw [hE.out]; rfl, Below.refl _ _⟩
  · have hl2 : ¬ (8 : Int) < (m : Int) := by omega
    have hE : Hid (keysE K m = ckE K m) := Lib.hid (if_neg hl)
    have hm8 : m ≤ 8 := by omega
    clear hl
    go_enter Tryd.func46, Tryd.ntmps46
    go_wp2_with fail
    go_loopw [3, 11] (fun t i wr => ∃ k : Nat, k ≤ m ∧ i = .int .i64 k ∧ t = .int .i64 (ckE K k) ∧ Hid (Below w.heap.size w wr)) (fun _ i _ => m - (intOf i).toNat)
    case atStart => exact ⟨0, by omega, rfl, rfl, Lib.hid (Below.refl _ _)⟩
    case round =>
      obtain ⟨k, hk, rfl, rfl, HB⟩ := hrel
      by_cases hlt : k < m
      · have hki : (k : Int) < (m : Int) := by omega
        obtain ⟨b, off, rfl, hr⟩ := (HR.out.below HB.out).1.row (by omega)
        have hr2 := Lib.hid (rdK_rng hr k hlt)
        clear hr
        obtain ⟨a, ha⟩ : ∃ a, ckE K k = a := ⟨_, rfl⟩
        have ba := ckE_bd K k
        rw [ha] at ba
        rw [ha]
        have HA := Lib.hid ha
        have BA := Lib.hid ba
        clear ha ba
        go_wp2_with (refine wpList_ld (op := ⟨some 14, _, _, _, _, _⟩) (by rfl) 45 (.tmp 13) rfl b (off + k * 2) rfl (kC (K k)) _ hr2.out Tryd.underlying45 rfl info_key ?_; refine Hid.out ?_)
        refine Lib.hid ?_
        clear hr2
        obtain ⟨N1, hN1⟩ : ∃ N, wr.heap.size = N := ⟨_, rfl⟩
        have HN1 := Lib.hid hN1
        clear hN1
        go_wp2_with (refine wpList_new (op := ⟨some 5, _, _, _, _, _⟩) rfl 45 rfl (kC ⟨0, none, 0, 0, nou⟩) zero_key2 N1 HN1.out ?_; intro w1 k1 b1 s1; refine Hid.out ?_)
        refine Lib.hid ?_
        have K5 := Lib.hid k1
        clear k1
        have le_HB_N1 : w.heap.size ≤ N1 := by rw [← HN1.out]; exact HB.out.size
        have HBn := Lib.hid (HB.out.trans (b1.mono HB.out.size))
        clear HB
        have HB := HBn
        clear HBn
        clear b1 HN1
        go_wp2_with (refine wpList_st rfl 45 (.tmp 5) (.tmp 14) rfl N1 0 rfl (.agg (kC (K k))) (kC (K k)) rfl rfl info_key (kC_one _) K5.out (Nat.le_of_ble_eq_true rfl) (C' := kC (K k)) (by rfl) ?_; intro w2 q1; refine Hid.out ?_)
        refine Lib.hid ?_
        have HBn := Lib.hid (HB.out.trans (q1.2.1 _ (by omega)))
        clear HB
        have HB := HBn
        clear HBn
        have K5n : Hid (Blk 45 w2 N1 (kC (K k))) := Lib.hid q1.1
        clear K5
        have K5 := K5n
        clear K5n q1
        have c5 : w2.cell? ⟨N1, 1, none⟩ = some (.slice (K k).A (K k).n (K k).c) := (K5.out.cell 1).trans rfl
        go_wp2_with fail
        refine (secret_any (K k).A (K k).n (K k).c w2).mono ?_
        rintro e w90 ⟨rfl, rfl⟩
        go_wp2_with fail
        have BS := secE_bd (K k).n
        refine (least_any a (secE (K k).n) w90 (by have := BA.out; omega) (by omega)).mono ?_
        rintro e w91 ⟨rfl, rfl⟩
        clear BS c5
        go_wp2_with fail
        go_roundw
        case rel => exact ⟨k + 1, by omega, by go_num, by show Value.int .i64 (lea a (secE (K k).n)) = .int .i64 (lea (ckE K k) (secE (K k).n)); rw [HA.out], HB⟩
        case measure => simp only [intOf]; omega
      · obtain rfl : k = m := by omega
        go_wp2_with fail
        go_ret
        exact ⟨by rw [hE.out]; rfl, HB.out⟩
set_option maxHeartbeats 4000000 in
set_option maxRecDepth 100000 in
theorem isKey_any (t : It) (N num : Nat) (w : World) (ht : 0 ≤ t.ty ∧ t.ty ≤ 65535) (hN : w.cell? ⟨N, 0, none⟩ = some (.int .u64 (num : Int))) :
    Calls Tryd.prog 75 #[.agg (kC t), .pointer (some ⟨N, 0, none⟩)] w fun e w' => e = .returned (.bool (t.ty == (num : Int))) ∧ Below w.heap.size w w' := by
  obtain ⟨id, hid⟩ : ∃ id : Nat, t.ty = (id : Int) := ⟨t.ty.toNat, by omega⟩
  have hid2 : (0 : Int) ≤ (id : Int) ∧ (id : Int) ≤ 65535 := ⟨by omega, by omega⟩
  have hNl : N < w.heap.size := cell_lt hN
  rw [hid]
  have HID := Lib.hid hid
  clear hid ht
  go_enter Tryd.func75, Tryd.ntmps75
  have HB := Lib.hid (Below.refl w.heap.size w)
  obtain ⟨N1, hN1⟩ : ∃ N, w.heap.size = N := ⟨_, rfl⟩
  have HN1 := Lib.hid hN1
  clear hN1
  go_wp2_with (refine wpList_box (op := ⟨some 2, _, _, _, _, _⟩) rfl 45 (.tmp 0) rfl (kC t) rfl N1 HN1.out ?_; intro w1 k1 b1 s1; refine Hid.out ?_)
  refine Lib.hid ?_
  have K1 := Lib.hid k1
  have c2 : w1.cell? ⟨N, 0, none⟩ = some (.int .u64 (num : Int)) := (b1.cell (p := ⟨N, 0, none⟩) hNl).trans hN
  clear k1 hN
  have HBn := Lib.hid (HB.out.trans (b1.mono HB.out.size))
  clear HB
  have HB := HBn
  clear HBn
  clear b1 HN1
  have c1 : w1.cell? ⟨N1, 0, none⟩ = some (.int .u16 (id : Int)) := (K1.out.cell 0).trans (by show some (Value.int .u16 t.ty) = _; rw [HID.out])
  go_wp2_with fail
  go_ret
  exact ⟨by simp, HB.out⟩
/-- the first of that number; none -/
def NoKey (K : Nat → It) (num n : Nat) : Prop := ∀ j, j < n → (K j).ty ≠ (num : Int)
def FstKey (K : Nat → It) (num m f : Nat) : Prop := f < m ∧ (K f).ty = (num : Int) ∧ NoKey K num f
theorem noKey_next {K : Nat → It} {num k : Nat} (h : NoKey K num k) (hq : ((K k).ty == (num : Int)) = false) : NoKey K num (k + 1) := by
  intro j hj
  by_cases e : j = k
  · subst e; simpa using hq
  · exact h j (by omega)
def IdxK (K : Nat → It) (num m : Nat) (w : World) (e : Ending) (w' : World) : Prop := ∃ r : Int, e = .returned (.int .i64 r) ∧ ((∃ f : Nat, r = (f : Int) ∧ FstKey K num m f) ∨ (r = -1 ∧ NoKey K num m)) ∧ Below w.heap.size w w'
set_option maxHeartbeats 4000000 in
set_option maxRecDepth 100000 in
theorem idxK_any (A : Option Addr) (n c : Nat) (K : Nat → It) (N num : Nat) (w : World) (hR : RdK w A n K) (hn : n ≤ 140737488351232) (hN : w.cell? ⟨N, 0, none⟩ = some (.int .u64 (num : Int))) :
    Calls Tryd.prog 74 #[.slice A n c, .func (.func 75) #[] #[.pointer (some ⟨N, 0, none⟩)]] w (IdxK K num n w) := by
  have hNl : N < w.heap.size := cell_lt hN
  have HNN := Lib.hid hN
  clear hN
  rcases Nat.eq_zero_or_pos n with rfl | hpos
  · clear hR
    go_enter Tryd.func74, Tryd.ntmps74
    go_wp2
    refine wp_loop_rounds 1 ?_
    rw [rounds_succ]
    go_wp2
    go_ret
    exact ⟨-1, rfl, .inr ⟨rfl, fun j hj => by omega⟩, Below.refl _ _⟩
  · obtain ⟨b, off, rfl, hr⟩ := hR.1.row hpos
    have HR := Lib.hid hr
    have HKE := Lib.hid hR.2
    clear hR hr
    go_enter Tryd.func74, Tryd.ntmps74
    have HB := Lib.hid (Below.refl w.heap.size w)
    go_wp2_with fail
    go_loopw [8] (fun t wr => ∃ k : Nat, k ≤ n ∧ t = .int .i64 k ∧ Hid (NoKey K num k) ∧ Hid (Below w.heap.size w wr)) (fun t _ => n - (intOf t).toNat)
    case atStart => exact ⟨0, by omega, rfl, Lib.hid (fun j hj => absurd hj (Nat.not_lt_zero _)), HB⟩
    case round =>
      obtain ⟨k, hk, rfl, HA, HW⟩ := hrel
      by_cases hlt : k < n
      · have hki : (k : Int) < (n : Int) := by omega
        have h1 : Hid (wr.rangeAt b (off + k * 2) (kC (K k)).toList) := Lib.hid (rangeAt_below (rdK_rng HR.out k hlt) HW.out HR.out.1)
        go_wp2_with (refine wpList_ld (op := ⟨some 15, _, _, _, _, _⟩) (by rfl) 45 (.tmp 14) rfl b (off + k * 2) rfl (kC (K k)) _ h1.out Tryd.underlying45 rfl info_key ?_; refine Hid.out ?_)
        refine Lib.hid ?_
        clear h1
        go_wp2_with fail
        refine (isKey_any (K k) N num wr (HKE.out k hlt).1 ((HW.out.cell (p := ⟨N, 0, none⟩) hNl).trans HNN.out)).mono ?_
        rintro e w2 ⟨rfl, b1⟩
        have HW2 := Lib.hid (HW.out.trans (b1.mono HW.out.size))
        clear b1
        cases hq : (K k).ty == (num : Int) with
        | true =>
          go_wp2_with fail
          go_ret
          exact ⟨k, rfl, .inl ⟨k, rfl, hlt, by simpa using hq, HA.out⟩, HW2.out⟩
        | false =>
          go_wp2_with fail
          go_roundw
          case rel => exact ⟨k + 1, by omega, by go_num, Lib.hid (noKey_next HA.out hq), HW2⟩
          case measure => simp only [intOf]; omega
      · obtain rfl : k = n := by omega
        go_wp2_with fail
        go_ret
        exact ⟨-1, rfl, .inr ⟨rfl, HA.out⟩, HW.out⟩
end Go.Proofs.YtccoicjmmeoggaaDoor

/- mac.isSigned: is a packet signed with one of the keys? Each theorem states its conditions. -/
namespace Go.Proofs.YtccoicjmmeoggaaDoor
open Go.RowKit
set_option linter.unusedVariables false
set_option linter.unusedSimpArgs false

theorem guard_d2 : Tryd.prog.eqGuardType Tryd.prog.depth 26 = false := by kernel_rfl
theorem und_d : Tryd.prog.underlying 26 = some (.array 32 5) := by kernel_rfl
theorem cells_eq {n : Nat} {z y : Nat → Int} (hz : ∀ j, 0 ≤ z j ∧ z j ≤ 255) (hy : ∀ j, 0 ≤ y j ∧ y j ≤ 255) :
    (((List.range n).map fun j => UInt8.ofNat (z j).toNat) == ((List.range n).map fun j => UInt8.ofNat (y j).toNat)) = decide (∀ j, j < n → z j = y j) := by
  rw [Bool.eq_iff_iff, beq_iff_eq, decide_eq_true_iff]
  constructor
  · intro h j hj
    have := congrArg (·[j]?) h
    simp only [List.getElem?_map, List.getElem?_range hj, Option.map_some, Option.some.injEq] at this
    have h1 := congrArg UInt8.toNat this
    have a := hz j
    have b := hy j
    simp at h1
    omega
  · intro h
    exact List.map_congr_left fun j hj => by rw [h j (List.mem_range.1 hj)]
/-- are the first n the same? -/
def eqD (z1 z2 : Nat → Int) (n : Nat) : Bool := decide (∀ j, j < n → z1 j = z2 j)
/-- equality of two sums, as an operation -/
theorem eql_d (o : Oper) (e : Operand → Value) (x y : Operand) (ho : o.op = .binOp .eql 26 x y 26) (z1 z2 : Nat → Int) (hz1 : ∀ j, 0 ≤ z1 j ∧ z1 j ≤ 255) (hz2 : ∀ j, 0 ≤ z2 j ∧ z2 j ≤ 255) (h0 : e x = .agg (bytC 32 z1)) (h1 : e y = .agg (bytC 32 z2)) (W : World) :
    (execOp e o).run Tryd.prog W = .ok (.value (.bool (eqD z1 z2 32))) W := by
  have hs : (Op.equalIn 10000 26 (.agg (bytC 32 z1)) (.agg (bytC 32 z2))).run Tryd.prog W = .ok (eqD z1 z2 32) W := by
    unfold bytC
    rw [vals_cells z1 32 hz1, vals_cells z2 32 hz2, run_equalIn_bytes W 9998 26 5 32 und_d Tryd.underlying5 size_u8 _ _ (by simp) (by simp), cells_eq hz1 hz2]
    rfl
  unfold execOp
  simp only [ho, h0, h1]
  simp [Sem.run_bind, run_eqGuard_agg _ _ _ _ _ _ _ guard_d2, run_eql_struct, hs]
theorem s2a_run (o : Oper) (e : Operand → Value) (x : Operand) (ho : o.op = .sliceToArrayPointer 26 x) (a : Option Addr) (c : Nat) (h0 : e x = .slice a 32 c) (W : World) : (execOp e o).run Tryd.prog W = .ok (.value (.pointer a)) W := by
  unfold execOp
  simp only [ho, h0, Instr.arrayAt]
  simp [run_underlying und_d]
theorem slice_3 (o : Oper) (e : Operand → Value) (x : Operand) (ho : o.op = .slice 22 x (some (.const (.int .i64 3))) none none) (b off c : Nat) (h0 : e x = .slice (some ⟨b, off, none⟩) 35 c) (hc : e (.const (.int .i64 3)) = .int .i64 3) (hcm : 35 ≤ c) (W : World) :
    (execOp e o).run Tryd.prog W = .ok (.value (.slice (some ⟨b, off + 3, none⟩) 32 (c - 3))) W := by
  unfold execOp
  simp only [ho, h0, hc, Option.map_none, Option.map_some]
  have e1 : ¬ (c = 3) := by omega
  simp [go_sem, e1]
  try omega
/-- the last of the list signs the packet with key f -/
def Signed (L : Nat → It) (m : Nat) (kd : Int) (z : Nat → Int) (n : Nat) (K : Nat → It) (mk : Nat) : Prop :=
  0 < m ∧ AtSig L m (m - 1) ∧ (L (m - 1)).n = 35 ∧ (L (m - 1)).z 0 = 3 ∧ ∃ f, FstKey K (numZ (L (m - 1)).z 1 2).toNat mk f ∧ ∀ j, j < 32 → (L (m - 1)).z (3 + j) = hmacZ (K f).z (K f).n (blkZ (kd = 18 ∨ kd = 20) z n) n j
def SgnP (L : Nat → It) (m : Nat) (kd : Int) (z : Nat → Int) (n : Nat) (K : Nat → It) (mk : Nat) (w : World) (e : Ending) (w' : World) : Prop :=
  ∃ r : Bool, e = .returned (.bool r) ∧ ((r = true ∧ Signed L m kd z n K mk) ∨ (r = false ∧ ¬ Signed L m kd z n K mk)) ∧ Below w.heap.size w w'
theorem atSig_one {L : Nat → It} {m j k : Nat} (h1 : AtSig L m j) (h2 : AtSig L m k) : j = k := by
  rcases Nat.lt_trichotomy j k with h | h | h
  · exact absurd h1.2.1 (h2.2.2 j h)
  · exact h
  · exact absurd h2.2.1 (h1.2.2 k h)
theorem fst_one {K : Nat → It} {num m j k : Nat} (h1 : FstKey K num m j) (h2 : FstKey K num m k) : j = k := by
  rcases Nat.lt_trichotomy j k with h | h | h
  · exact absurd h1.2.1 (h2.2.2 j h)
  · exact h
  · exact absurd h2.2.1 (h1.2.2 k h)
theorem run_m1 (o : Oper) (e : Operand → Value) (x y : Operand) (t u : TypeId) (ho : o.op = .binOp .sub t x y u) (m l : Nat) (h0 : e x = .int .i64 (m : Int)) (h1 : e y = .int .i64 1) (hm : m = l + 1) (hl : l ≤ 1000) (W : World) : (execOp e o).run Tryd.prog W = .ok (.value (.int .i64 (l : Int))) W := by
  subst hm
  unfold execOp
  simp only [ho, h0, h1]
  have e1 : ((l + 1 : Nat) : Int) - 1 = (l : Int) := by omega
  simp [go_sem, IntKind.wrap_i64]
  omega
theorem zero_u64c : (Tryd.prog.info? 78).map (·.zero) = some (some (.int .u64 0)) := by kernel_rfl
theorem info_u64c : (Tryd.prog.info? 78).map (·.size) = some 1 := by kernel_rfl
theorem one_u64 (n : Int) : (#[Value.int .u64 n] : Array Value).all (·.oneCell') = true := by kernel_rfl
theorem alloc1_run (o : Oper) (e : Operand → Value) (t : TypeId) (ho : o.op = .alloc t) (hz : (Tryd.prog.info? t).map (·.zero) = some (some (.int .u64 0))) (W : World) :
    (execOp e o).run Tryd.prog W = .ok (.value (.pointer (some ⟨W.heap.size, 0, none⟩))) (W.alloc (.cells #[.int .u64 0] t)) := by
  unfold execOp
  simp only [ho]
  cases hq : Tryd.prog.info? t with
  | none => rw [hq] at hz; cases hz
  | some i =>
    rw [hq] at hz
    have hz' : i.zero = some (.int .u64 0) := by simpa using hz
    simp [Instr.alloc, zeroValue, typeInfo, hq, hz', go_sem]
/-- a new variable of one cell, in the order of the text -/
theorem wpList_new1 {ops : Array Oper} {Q : Exit → Act → World → Prop} {rest : List Oper} {op : Oper} {a : Act} {w : World} (hgd : op.guard = none) (t : TypeId) (ho : op.op = .alloc t) (C : Array Value) (hz : (Tryd.prog.info? t).map (·.zero) = some (some (.int .u64 0)) ∧ C = #[.int .u64 0])
    (N : Nat) (hN : w.heap.size = N) (h : ∀ w', Blk t w' N C → Below w.heap.size w w' → N + 1 ≤ w'.heap.size → wpList Tryd.prog ops Q rest (a.put op.dst (.pointer (some ⟨N, 0, none⟩))) w') : wpList Tryd.prog ops Q (op :: rest) a w := by
  obtain ⟨hz, rfl⟩ := hz
  exact wpList_mk hgd t _ (alloc1_run op a.eval t ho hz w) N hN h
theorem row_32 {w : World} {b off : Nat} {z : Nat → Int} (h : Row8 w b off 35 z) : w.rangeAt b (off + 3) (bytC 32 fun j => z (3 + j)).toList := by
  intro j v hv
  have hj : j < 32 := by
    rcases Nat.lt_or_ge j 32 with h | h
    · exact h
    · rw [List.getElem?_eq_none (by simp [bytC, vals_len]; omega)] at hv; cases hv
  rw [Array.getElem?_toList, byt_at _ _ hj] at hv
  rw [← hv, Nat.add_assoc]
  exact h.2.1 (3 + j) (by omega)
theorem index_k (o : Oper) (e : Operand → Value) (x y : Operand) (ho : o.op = .indexAddr 50 x y) (b off m c f : Nat) (h0 : e x = .slice (some ⟨b, off, none⟩) m c) (h1 : e y = .int .i64 (f : Int)) (hf : f < m) (hm : m ≤ 1000) (W : World) :
    (execOp e o).run Tryd.prog W = .ok (.value (.pointer (some ⟨b, off + f * 2, none⟩))) W := by
  unfold execOp
  simp only [ho, h0, h1]
  have e1 : (f : Int) < (m : Int) := by omega
  simp [go_sem, e1, hf]
  try omega
theorem numZ_nn (z : Nat → Int) (s k : Nat) (hz : ∀ j, 0 ≤ z j ∧ z j ≤ 255) : 0 ≤ numZ z s k := by
  induction k with
  | zero => exact Int.le_refl 0
  | succ k ih =>
    have := hz (s + k)
    simp only [numZ]
    omega
set_option maxHeartbeats 40000000 in
set_option maxRecDepth 100000 in
theorem isSigned_at (p : Pd) (L : Nat → It) (B : Option Addr) (n c : Nat) (z : Nat → Int) (A : Option Addr) (mk ck : Nat) (K : Nat → It) (w : World) (hpos : 0 < p.m) (hm9 : p.m ≤ 1000) (hR : RdT w p.A p.m L) (hB : Rd w B n z) (hBn : B = none → n = 0 ∧ c = 0) (hn2 : n ≤ 1492) (h54 : (L (p.m - 1)).n = 35 → 54 ≤ n) (hcv : (L (p.m - 1)).n ≤ (L (p.m - 1)).c ∧ (L (p.m - 1)).c ≤ maxLen)
    (hK : RdK w A mk K) (hmk : mk ≤ 8) (hs : ∀ j, j < mk → (K j).n ≤ 64) (hg : Rts w 0) :
    Calls Tryd.prog 47 #[.slice B n c, .agg (pdC p), .slice A mk ck] w (SgnP L p.m p.kd z n K mk w) := by
  have HR := Lib.hid hR
  have HBB := Lib.hid hB
  have HBN := Lib.hid hBn
  have HN2 := Lib.hid hn2
  have H54 := Lib.hid h54
  have HCV := Lib.hid hcv
  have HK := Lib.hid hK
  have HKS := Lib.hid hs
  have RT := Lib.hid hg
  have hg9 := hg.2
  have hmm1 : ¬ ((p.m : Int) - 1 < 0) := by omega
  obtain ⟨l, hl⟩ : ∃ l, p.m = l + 1 := ⟨p.m - 1, by omega⟩
  have HL := Lib.hid hl
  have hl1 : p.m - 1 = l := by omega
  rw [hl1] at HCV H54
  have hli : (p.m : Int) - 1 = (l : Int) := by omega
  have hl9 : l ≤ 1000 := by omega
  have hlm : (l : Int) < (p.m : Int) := by omega
  have hl0 : ¬ ((l : Int) < 0) := by omega
  have hSg : Hid (∀ r, r = Signed L p.m p.kd z n K mk → r = (AtSig L p.m l ∧ (L l).n = 35 ∧ (L l).z 0 = 3 ∧ ∃ f, FstKey K (numZ (L l).z 1 2).toNat mk f ∧ ∀ j, j < 32 → (L l).z (3 + j) = hmacZ (K f).z (K f).n (blkZ (p.kd = 18 ∨ p.kd = 20) z n) n j)) := Lib.hid (fun r h => by rw [h]; unfold Signed; rw [hl1]; exact propext ⟨fun h => h.2, fun h => ⟨hpos, h⟩⟩)
  clear hR hB hBn hn2 h54 hcv hK hs hg hl hl1 hpos hm9
  go_enter Tryd.func47, Tryd.ntmps47
  have HB := Lib.hid (Below.refl w.heap.size w)
  obtain ⟨N1, hN1⟩ : ∃ N, w.heap.size = N := ⟨_, rfl⟩
  have HN1 := Lib.hid hN1
  clear hN1
  go_wp2_with (refine wpList_box (op := ⟨some 4, _, _, _, _, _⟩) rfl 46 (.tmp 1) rfl (pdC p) rfl N1 HN1.out ?_; intro w1 k1 b1 s1; refine Hid.out ?_)
  refine Lib.hid ?_
  have KP := Lib.hid k1
  clear k1
  have lt_0_N1 : 0 < N1 := by rw [← HN1.out]; exact RT.out.lt
  have le_HB_N1 : w.heap.size ≤ N1 := by rw [← HN1.out]; exact HB.out.size
  have RTn := Lib.hid (RT.out.below b1 RT.out.lt)
  clear RT
  have RT := RTn
  clear RTn
  have HBn := Lib.hid (HB.out.trans (b1.mono HB.out.size))
  clear HB
  have HB := HBn
  clear HBn
  clear b1 HN1
  have cp : w1.cell? ⟨N1, 46, none⟩ = some (.slice p.A p.m p.c) := (KP.out.cell 46).trans (pd_46 p)
  go_wp2_with (refine wpList_v (op := ⟨some 15, _, _, _, _, _⟩) rfl (.int .i64 (l : Int)) (run_m1 _ _ _ _ _ _ rfl p.m l rfl rfl HL.out (by omega) _) ?_; refine Hid.out ?_)
  refine Lib.hid ?_
  go_wp2_with fail
  refine (idxS_any p.A p.m p.c L w1 (HR.out.below HB.out) (by have := HL.out; omega)).mono ?_
  rintro e w10 ⟨r, rfl, hr, b1⟩
  have HRR := Lib.hid hr
  clear hr cp
  have RTn := Lib.hid (RT.out.below b1 RT.out.lt)
  clear RT
  have RT := RTn
  clear RTn
  have KPn := Lib.hid (KP.out.below b1 KP.out.lt)
  clear KP
  have KP := KPn
  clear KPn
  have HBn := Lib.hid (HB.out.trans (b1.mono HB.out.size))
  clear HB
  have HB := HBn
  clear HBn
  clear b1
  have cp : w10.cell? ⟨N1, 46, none⟩ = some (.slice p.A p.m p.c) := (KP.out.cell 46).trans (pd_46 p)
  by_cases hq : r = (l : Int)
  · subst hq
    have hqb : ((l : Int) != (l : Int)) = false := by simp
    have HAT : Hid (AtSig L p.m l) := Lib.hid (by rcases HRR.out with ⟨k, e1, h1⟩ | ⟨e1, h1⟩; (obtain rfl : l = k := by omega); exact h1; omega)
    obtain ⟨bt, ot, ht, hrow⟩ := (HR.out.below HB.out).row (by have := HL.out; omega)
    have hlp : l < p.m := by have := HL.out; omega
    obtain ⟨ct0, ct1, hit⟩ := hrow.2 l hlp
    obtain ⟨vA, hvA⟩ : ∃ v, (L l).A = v := ⟨_, rfl⟩
    obtain ⟨vn, hvn⟩ : ∃ v, (L l).n = v := ⟨_, rfl⟩
    obtain ⟨vc, hvc⟩ : ∃ v, (L l).c = v := ⟨_, rfl⟩
    obtain ⟨vz, hvz⟩ : ∃ v, (L l).z = v := ⟨_, rfl⟩
    rw [hvA, hvn, hvc] at ct1
    have hrv : Rd w10 vA vn vz := by rw [← hvA, ← hvn, ← hvz]; exact hit.2.1
    have hvne : vA = none → vn = 0 ∧ vc = 0 := by rw [← hvA, ← hvn, ← hvc]; exact hit.2.2.1
    rw [hvn, hvc] at HCV
    rw [hvn] at H54
    have HSG2 : Hid (∀ r, r = Signed L p.m p.kd z n K mk → r = (AtSig L p.m l ∧ vn = 35 ∧ vz 0 = 3 ∧ ∃ f, FstKey K (numZ vz 1 2).toNat mk f ∧ ∀ j, j < 32 → vz (3 + j) = hmacZ (K f).z (K f).n (blkZ (p.kd = 18 ∨ p.kd = 20) z n) n j)) := Lib.hid (by rw [← hvn, ← hvz]; exact hSg.out)
    clear hSg
    have hSg := HSG2
    clear HSG2
    rw [ht] at cp
    have HRV := Lib.hid hrv
    have HVN := Lib.hid hvne
    clear hrv hvne hit hrow hvA hvn hvc hvz ct0 HRR
    by_cases h35 : vn = 35
    · subst h35
      have H54b : Hid (54 ≤ n) := Lib.hid (H54.out rfl)
      obtain ⟨bv, ov, rfl, hrv⟩ := HRV.out.row (by omega)
      have cv0 : w10.cell? ⟨bv, ov, none⟩ = some (.int .u8 (vz 0)) := by have := hrv.2.1 0 (by omega); rw [Nat.add_zero] at this; exact this
      have KV : Hid (Row8 w10 bv ov 35 vz) := Lib.hid hrv
      clear hrv HRV HVN
      have hvc1 := HCV.out.1
      have hvc2 : vc ≤ 9223372036854775807 := HCV.out.2
      obtain ⟨v0, hv0⟩ : ∃ v, vz 0 = v := ⟨_, rfl⟩
      rw [hv0] at cv0 hSg
      have HV0 := Lib.hid hv0
      clear hv0
      by_cases h3 : v0 = 3
      · subst h3
        go_wp2_with fail
        have HNM := Lib.hid (num_ok bv ov 35 vc vz 1 2 w10 KV.out.2.2 (by unfold maxLen; omega) hvc1 KV.out.2.1 (by omega) (by omega) (by omega) (by omega))
        obtain ⟨num, hnum⟩ : ∃ x, (numZ vz 1 2).toNat = x := ⟨_, rfl⟩
        have hnz : numZ vz 1 2 = (num : Int) := by have := numZ_nn vz 1 2 KV.out.2.2; omega
        rw [show numZ vz ((1 : Int).toNat) ((2 : Int).toNat) = (num : Int) from hnz] at HNM
        rw [hnum] at hSg
        clear hnum hnz
        refine HNM.out.mono ?_
        rintro e w20 ⟨rfl, rfl⟩
        clear HNM cv0 ct1 cp
        obtain ⟨N21, hN21⟩ : ∃ N, w10.heap.size = N := ⟨_, rfl⟩
        have HN21 := Lib.hid hN21
        clear hN21
        go_wp2_with (refine wpList_new1 (op := ⟨some 9, _, _, _, _, _⟩) rfl 78 rfl (#[.int .u64 0]) ⟨zero_u64c, rfl⟩ N21 HN21.out ?_; intro w21 k1 b1 s1; refine Hid.out ?_)
        refine Lib.hid ?_
        have K9 := Lib.hid k1
        clear k1
        have lt_0_N21 : 0 < N21 := by rw [← HN21.out]; exact RT.out.lt
        have lt_N1_N21 : N1 < N21 := by rw [← HN21.out]; exact KP.out.lt
        have lt_bv_N21 : bv < N21 := by rw [← HN21.out]; exact KV.out.lt
        have le_HB_N21 : w.heap.size ≤ N21 := by rw [← HN21.out]; exact HB.out.size
        have RTn := Lib.hid (RT.out.below b1 RT.out.lt)
        clear RT
        have RT := RTn
        clear RTn
        have KPn := Lib.hid (KP.out.below b1 KP.out.lt)
        clear KP
        have KP := KPn
        clear KPn
        have KVn := Lib.hid (KV.out.below b1 KV.out.lt)
        clear KV
        have KV := KVn
        clear KVn
        have HBn := Lib.hid (HB.out.trans (b1.mono HB.out.size))
        clear HB
        have HB := HBn
        clear HBn
        clear b1 HN21
        go_wp2_with (refine wpList_st rfl 78 (.tmp 9) (.tmp 43) rfl N21 0 rfl (.int .u64 (num : Int)) #[.int .u64 (num : Int)] rfl rfl info_u64c (one_u64 _) K9.out (Nat.le_of_ble_eq_true rfl) (C' := #[.int .u64 (num : Int)]) (by rfl) ?_; intro w30 q1; refine Hid.out ?_)
        refine Lib.hid ?_
        have RTn := Lib.hid (RT.out.far q1 (by omega))
        clear RT
        have RT := RTn
        clear RTn
        have KPn := Lib.hid (KP.out.far q1 (by omega))
        clear KP
        have KP := KPn
        clear KPn
        have KVn := Lib.hid (KV.out.far q1 (by omega))
        clear KV
        have KV := KVn
        clear KVn
        have HBn := Lib.hid (HB.out.trans (q1.2.1 _ (by omega)))
        clear HB
        have HB := HBn
        clear HBn
        have K9n : Hid (Blk 78 w30 N21 (#[.int .u64 (num : Int)])) := Lib.hid q1.1
        clear K9
        have K9 := K9n
        clear K9n q1
        have c9 : w30.cell? ⟨N21, 0, none⟩ = some (.int .u64 (num : Int)) := (K9.out.cell 0).trans rfl
        go_wp2_with fail
        refine (idxK_any A mk ck K N21 num w30 (HK.out.below HB.out) (by omega) c9).mono ?_
        rintro e w40 ⟨r2, rfl, hr2, b1⟩
        clear c9
        have RTn := Lib.hid (RT.out.below b1 RT.out.lt)
        clear RT
        have RT := RTn
        clear RTn
        have KPn := Lib.hid (KP.out.below b1 KP.out.lt)
        clear KP
        have KP := KPn
        clear KPn
        have KVn := Lib.hid (KV.out.below b1 KV.out.lt)
        clear KV
        have KV := KVn
        clear KVn
        have K9n := Lib.hid (K9.out.below b1 K9.out.lt)
        clear K9
        have K9 := K9n
        clear K9n
        have HBn := Lib.hid (HB.out.trans (b1.mono HB.out.size))
        clear HB
        have HB := HBn
        clear HBn
        clear b1
        rcases hr2 with ⟨f, rfl, hf⟩ | ⟨rfl, hf⟩
        · have HF := Lib.hid hf
          have hfm := hf.1
          clear hf
          have hf0 : (0 : Int) ≤ (f : Int) := by omega
          have hfk : (f : Int) < (mk : Int) := by omega
          obtain ⟨bk, ok, hA9, hrk⟩ := HK.out.1.row (by omega)
          have hrk2 := hrk.2 f hfm
          obtain ⟨t, htt⟩ : ∃ t, K f = t := ⟨_, rfl⟩
          rw [show kR K f = kC t from by unfold kR; rw [htt]] at hrk2
          have hbk := hrk.1
          have HKF := Lib.hid (HK.out.2 f hfm)
          rw [htt] at HKF
          have HTS : Hid (t.n ≤ 64) := Lib.hid (by rw [← htt]; exact HKS.out f hfm)
          have HTT := Lib.hid htt
          subst hA9
          have ck1 : Hid (w.cell? ⟨bk, ok + f * 2 + 1, none⟩ = some (.slice t.A t.n t.c)) := Lib.hid (hrk2 1 _ rfl)
          clear hrk hrk2 htt
          obtain ⟨M, hM⟩ : ∃ M, hmacZ t.z t.n (blkZ (p.kd = 18 ∨ p.kd = 20) z n) n = M := ⟨_, rfl⟩
          have HM := Lib.hid hM
          have HMB : Hid (∀ j, 0 ≤ M j ∧ M j ≤ 255) := Lib.hid (by rw [← hM]; exact dg_bd _)
          clear hM
          go_wp2_with fail
          refine wp_region_held_drew (S := fun w' => Rts w' 0  ∧ Blk 46 w' N1 (pdC p) ∧ Row8 w' bv ov 35 vz ∧ Blk 78 w' N21 (#[.int .u64 (num : Int)]) ∧ Below w.heap.size w w') (by kernel_rfl) ⟨RT.out, KP.out, KV.out, K9.out, HB.out.drew⟩ (fun hS => ?_)
          generalize hW201 : w40.drew = W201 at hS  ⊢
          clear hW201
          clear RT
          clear KP
          clear KV
          clear K9
          clear HB
          have RT := Lib.hid hS.1
          have KP := Lib.hid hS.2.1
          have KV := Lib.hid hS.2.2.1
          have K9 := Lib.hid hS.2.2.2.1
          have HB := Lib.hid hS.2.2.2.2
          refine takeY (i := 0) (some 48) (v := .int .i64 (f : Int)) rfl rfl (by kernel_rfl) (by kernel_rfl) (by kernel_rfl) (fun _ _ _ h => h) (by rfl) (fun w' hS => by go_simp) hS ?_
          simp only [Act.put, List.setIfInBounds_toArray, List.set_cons_zero, List.set_cons_succ]
          refine takeY (i := 1) (some 49) (v := .bool true) rfl rfl (by kernel_rfl) (by kernel_rfl) (by kernel_rfl) (fun _ _ _ h => h) (by rfl) (fun w' hS => by go_simp) hS ?_
          simp only [Act.put, List.setIfInBounds_toArray, List.set_cons_zero, List.set_cons_succ]
          refine takeY (i := 2) (some 50) (v := .bool true) rfl rfl (by kernel_rfl) (by kernel_rfl) (by kernel_rfl) (fun _ _ _ h => h) (by rfl) (fun w' hS => by go_simp) hS ?_
          simp only [Act.put, List.setIfInBounds_toArray, List.set_cons_zero, List.set_cons_succ]
          refine takeY (i := 3) (some 51) (v := .slice (some ⟨bv, ov, none⟩) 35 vc) rfl rfl (by kernel_rfl) (by kernel_rfl) (by kernel_rfl) (fun _ _ _ h => h) (by rfl) (fun w' hS => by go_simp) hS ?_
          simp only [Act.put, List.setIfInBounds_toArray, List.set_cons_zero, List.set_cons_succ]
          refine takeY (i := 4) (some 52) (v := .slice (some ⟨bv, ov + 3, none⟩) 32 (vc - 3)) rfl rfl (by kernel_rfl) (by kernel_rfl) (by kernel_rfl) (fun _ _ _ h => h) (by rfl) (fun w' hS => by exact slice_3 _ _ _ rfl bv ov vc rfl rfl hvc1 _) hS ?_
          simp only [Act.put, List.setIfInBounds_toArray, List.set_cons_zero, List.set_cons_succ]
          refine takeY (i := 5) (some 53) (v := .pointer (some ⟨bv, ov + 3, none⟩)) rfl rfl (by kernel_rfl) (by kernel_rfl) (by kernel_rfl) (fun _ _ _ h => h) (by rfl) (fun w' hS => by exact s2a_run _ _ _ rfl _ _ rfl _) hS ?_
          simp only [Act.put, List.setIfInBounds_toArray, List.set_cons_zero, List.set_cons_succ]
          refine takeL (i := 6) (some 54) 26 (.tmp 53) bv (ov + 3) (bytC 32 fun j => vz (3 + j)) _ rfl rfl (by kernel_rfl) (by kernel_rfl) (by kernel_rfl) (fun _ _ _ h => h) (by rfl) rfl rfl (fun w' hS => row_32 hS.2.2.1) Tryd.underlying26 rfl (info_dL _) hS ?_
          simp only [Act.put, List.setIfInBounds_toArray, List.set_cons_zero, List.set_cons_succ]
          refine takeY (i := 7) (some 55) (v := .slice B n c) rfl rfl (by kernel_rfl) (by kernel_rfl) (by kernel_rfl) (fun _ _ _ h => h) (by rfl) (fun w' hS => by go_simp) hS ?_
          simp only [Act.put, List.setIfInBounds_toArray, List.set_cons_zero, List.set_cons_succ]
          refine takeY (i := 8) (some 56) (v := .pointer (some ⟨N1, 0, none⟩)) rfl rfl (by kernel_rfl) (by kernel_rfl) (by kernel_rfl) (fun _ _ _ h => h) (by rfl) (fun w' hS => by go_simp) hS ?_
          simp only [Act.put, List.setIfInBounds_toArray, List.set_cons_zero, List.set_cons_succ]
          refine takeY (i := 9) (some 57) (v := .int .u8 p.kd) rfl rfl (by kernel_rfl) (by kernel_rfl) (by kernel_rfl) (fun _ _ _ h => h) (by rfl) (fun w' hS => by (have c9 : w'.cell? ⟨N1, 0, none⟩ = some (.int .u8 p.kd) := (hS.2.1.cell 0).trans rfl; clear hS; go_simp)) hS ?_
          simp only [Act.put, List.setIfInBounds_toArray, List.set_cons_zero, List.set_cons_succ]
          refine takeY (i := 10) (some 58) (v := .slice (some ⟨bk, ok, none⟩) mk ck) rfl rfl (by kernel_rfl) (by kernel_rfl) (by kernel_rfl) (fun _ _ _ h => h) (by rfl) (fun w' hS => by go_simp) hS ?_
          simp only [Act.put, List.setIfInBounds_toArray, List.set_cons_zero, List.set_cons_succ]
          refine takeY (i := 11) (some 59) (v := .int .i64 (f : Int)) rfl rfl (by kernel_rfl) (by kernel_rfl) (by kernel_rfl) (fun _ _ _ h => h) (by rfl) (fun w' hS => by go_simp) hS ?_
          simp only [Act.put, List.setIfInBounds_toArray, List.set_cons_zero, List.set_cons_succ]
          refine takeY (i := 12) (some 60) (v := .pointer (some ⟨bk, ok + f * 2, none⟩)) rfl rfl (by kernel_rfl) (by kernel_rfl) (by kernel_rfl) (fun _ _ _ h => h) (by rfl) (fun w' hS => by exact index_k _ _ _ _ rfl bk ok mk ck f rfl rfl hfm (by omega) _) hS ?_
          simp only [Act.put, List.setIfInBounds_toArray, List.set_cons_zero, List.set_cons_succ]
          refine takeY (i := 13) (some 61) (v := .pointer (some ⟨bk, ok + f * 2 + 1, none⟩)) rfl rfl (by kernel_rfl) (by kernel_rfl) (by kernel_rfl) (fun _ _ _ h => h) (by rfl) (fun w' hS => by go_simp) hS ?_
          simp only [Act.put, List.setIfInBounds_toArray, List.set_cons_zero, List.set_cons_succ]
          refine takeY (i := 14) (some 62) (v := .slice t.A t.n t.c) rfl rfl (by kernel_rfl) (by kernel_rfl) (by kernel_rfl) (fun _ _ _ h => h) (by rfl) (fun w' hS => by (have c9 := ((hS.2.2.2.2).cell (p := ⟨bk, ok + f * 2 + 1, none⟩) hbk).trans ck1.out; clear hS; go_simp)) hS ?_
          simp only [Act.put, List.setIfInBounds_toArray, List.set_cons_zero, List.set_cons_succ]
          have HRB := Lib.hid (HBB.out.below HB.out rfl)
          have HRS := Lib.hid (HKF.out.2.1.below HB.out rfl)
          refine takeCE (i := 15) (some 63) 41 #[.slice B n c, .int .u8 p.kd, .slice t.A t.n t.c] (R := fun v w' => v = .agg (bytC 32 M) ∧ Below W201.heap.size W201 w') rfl rfl (by kernel_rfl) (by rfl) (by go_simp) ((macOf_any B n c z p.kd t.A t.n t.c t.z W201 HRB.out HBN.out H54b.out HN2.out HRS.out HKF.out.2.2.1 HTS.out RT.out).mono fun e w' h => ⟨_, h.1, by rw [HM.out], h.2⟩) (fun v w' h => by obtain ⟨rfl, hb8⟩ := h; exact ⟨hS.1.below hb8 hS.1.lt, hS.2.1.below hb8 hS.2.1.lt, hS.2.2.1.below hb8 hS.2.2.1.lt, hS.2.2.2.1.below hb8 hS.2.2.2.1.lt, hS.2.2.2.2.trans (hb8.mono hS.2.2.2.2.size)⟩) (fun v W202 h hS2 => ?_)
          obtain ⟨rfl, hb8⟩ := h
          clear hS2
          simp only [Act.put, List.setIfInBounds_toArray, List.set_cons_zero, List.set_cons_succ]
          clear HRB HRS
          have RTn := Lib.hid (RT.out.below hb8 RT.out.lt)
          clear RT
          have RT := RTn
          clear RTn
          have KPn := Lib.hid (KP.out.below hb8 KP.out.lt)
          clear KP
          have KP := KPn
          clear KPn
          have KVn := Lib.hid (KV.out.below hb8 KV.out.lt)
          clear KV
          have KV := KVn
          clear KVn
          have K9n := Lib.hid (K9.out.below hb8 K9.out.lt)
          clear K9
          have K9 := K9n
          clear K9n
          have HBn := Lib.hid (HB.out.trans (hb8.mono HB.out.size))
          clear HB
          have HB := HBn
          clear HBn
          clear hb8 hS
          have hS := (And.intro RT.out (And.intro KP.out (And.intro KV.out (And.intro K9.out HB.out))))
          have HVB : Hid (∀ j, 0 ≤ vz (3 + j) ∧ vz (3 + j) ≤ 255) := Lib.hid (fun j => KV.out.2.2 _)
          obtain ⟨q, hq⟩ : ∃ q, eqD (fun j => vz (3 + j)) M 32 = q := ⟨_, rfl⟩
          have HQ := Lib.hid hq
          refine takeY (i := 16) (some 64) (v := .bool q) rfl rfl (by kernel_rfl) (by kernel_rfl) (by kernel_rfl) (fun _ _ _ h => h) (by rfl) (fun w' hS => by (rw [← hq]; exact eql_d _ _ _ _ rfl (fun j => vz (3 + j)) M HVB.out HMB.out rfl rfl _)) hS ?_
          simp only [Act.put, List.setIfInBounds_toArray, List.set_cons_zero, List.set_cons_succ]
          refine takeY (i := 17) (some 65) (v := .bool q) rfl rfl (by kernel_rfl) (by kernel_rfl) (by kernel_rfl) (fun _ _ _ h => h) (by rfl) (fun w' hS => by go_simp) hS ?_
          simp only [Act.put, List.setIfInBounds_toArray, List.set_cons_zero, List.set_cons_succ]
          refine takeY (i := 18) (some 6) (v := .bool q) rfl rfl (by kernel_rfl) (by kernel_rfl) (by kernel_rfl) (fun _ _ _ h => h) (by rfl) (fun w' hS => by go_simp) hS ?_
          simp only [Act.put, List.setIfInBounds_toArray, List.set_cons_zero, List.set_cons_succ]
          clear hq
          clear hS
          refine wpAnyH_done (by kernel_rfl) ?_ _
          go_wp2_with fail
          go_ret
          refine ⟨q, rfl, ?_, HB.out⟩
          cases q with
          | true => exact .inl ⟨rfl, by rw [hSg.out _ rfl]; exact ⟨HAT.out, by first | rfl | trivial, by first | rfl | trivial, f, HF.out, fun j hj => by rw [HTT.out, HM.out]; exact of_decide_eq_true (p := ∀ j, j < 32 → (fun j => vz (3 + j)) j = M j) HQ.out j hj⟩⟩
          | false => exact .inr ⟨rfl, fun h => by rw [hSg.out _ rfl] at h; obtain ⟨f2, h1, h2⟩ := h.2.2.2; rw [← fst_one HF.out h1, HTT.out, HM.out] at h2; exact of_decide_eq_false (p := ∀ j, j < 32 → (fun j => vz (3 + j)) j = M j) HQ.out h2⟩
        · have HF := Lib.hid hf
          clear hf
          have HNO : Hid (¬ Signed L p.m p.kd z n K mk) := Lib.hid (fun h => by rw [hSg.out _ rfl] at h; obtain ⟨f, h1, _⟩ := h.2.2.2; exact HF.out f h1.1 h1.2.1)
          go_wp2_with fail
          refine wp_region_held_drew (S := fun w' => Rts w' 0  ∧ Blk 46 w' N1 (pdC p) ∧ Row8 w' bv ov 35 vz ∧ Blk 78 w' N21 (#[.int .u64 (num : Int)]) ∧ Below w.heap.size w w') (by kernel_rfl) ⟨RT.out, KP.out, KV.out, K9.out, HB.out.drew⟩ (fun hS => ?_)
          generalize hW101 : w40.drew = W101 at hS  ⊢
          clear hW101
          clear RT
          clear KP
          clear KV
          clear K9
          clear HB
          have RT := Lib.hid hS.1
          have KP := Lib.hid hS.2.1
          have KV := Lib.hid hS.2.2.1
          have K9 := Lib.hid hS.2.2.2.1
          have HB := Lib.hid hS.2.2.2.2
          refine takeY (i := 0) (some 48) (v := .int .i64 (-1)) rfl rfl (by kernel_rfl) (by kernel_rfl) (by kernel_rfl) (fun _ _ _ h => h) (by rfl) (fun w' hS => by go_simp) hS ?_
          simp only [Act.put, List.setIfInBounds_toArray, List.set_cons_zero, List.set_cons_succ]
          refine takeY (i := 1) (some 49) (v := .bool false) rfl rfl (by kernel_rfl) (by kernel_rfl) (by kernel_rfl) (fun _ _ _ h => h) (by rfl) (fun w' hS => by go_simp) hS ?_
          simp only [Act.put, List.setIfInBounds_toArray, List.set_cons_zero, List.set_cons_succ]
          refine takeY (i := 2) (some 50) (v := .bool false) rfl rfl (by kernel_rfl) (by kernel_rfl) (by kernel_rfl) (fun _ _ _ h => h) (by rfl) (fun w' hS => by go_simp) hS ?_
          simp only [Act.put, List.setIfInBounds_toArray, List.set_cons_zero, List.set_cons_succ]
          refine takeN (i := 3) (some 51) rfl rfl (by kernel_rfl) (by kernel_rfl) (by kernel_rfl) (fun _ _ _ h => h) (by rfl) hS ?_
          simp only [Act.put, List.setIfInBounds_toArray, List.set_cons_zero, List.set_cons_succ]
          refine takeN (i := 4) (some 52) rfl rfl (by kernel_rfl) (by kernel_rfl) (by kernel_rfl) (fun _ _ _ h => h) (by rfl) hS ?_
          simp only [Act.put, List.setIfInBounds_toArray, List.set_cons_zero, List.set_cons_succ]
          refine takeN (i := 5) (some 53) rfl rfl (by kernel_rfl) (by kernel_rfl) (by kernel_rfl) (fun _ _ _ h => h) (by rfl) hS ?_
          simp only [Act.put, List.setIfInBounds_toArray, List.set_cons_zero, List.set_cons_succ]
          refine takeN (i := 6) (some 54) rfl rfl (by kernel_rfl) (by kernel_rfl) (by kernel_rfl) (fun _ _ _ h => h) (by rfl) hS ?_
          simp only [Act.put, List.setIfInBounds_toArray, List.set_cons_zero, List.set_cons_succ]
          refine takeN (i := 7) (some 55) rfl rfl (by kernel_rfl) (by kernel_rfl) (by kernel_rfl) (fun _ _ _ h => h) (by rfl) hS ?_
          simp only [Act.put, List.setIfInBounds_toArray, List.set_cons_zero, List.set_cons_succ]
          refine takeN (i := 8) (some 56) rfl rfl (by kernel_rfl) (by kernel_rfl) (by kernel_rfl) (fun _ _ _ h => h) (by rfl) hS ?_
          simp only [Act.put, List.setIfInBounds_toArray, List.set_cons_zero, List.set_cons_succ]
          refine takeN (i := 9) (some 57) rfl rfl (by kernel_rfl) (by kernel_rfl) (by kernel_rfl) (fun _ _ _ h => h) (by rfl) hS ?_
          simp only [Act.put, List.setIfInBounds_toArray, List.set_cons_zero, List.set_cons_succ]
          refine takeN (i := 10) (some 58) rfl rfl (by kernel_rfl) (by kernel_rfl) (by kernel_rfl) (fun _ _ _ h => h) (by rfl) hS ?_
          simp only [Act.put, List.setIfInBounds_toArray, List.set_cons_zero, List.set_cons_succ]
          refine takeN (i := 11) (some 59) rfl rfl (by kernel_rfl) (by kernel_rfl) (by kernel_rfl) (fun _ _ _ h => h) (by rfl) hS ?_
          simp only [Act.put, List.setIfInBounds_toArray, List.set_cons_zero, List.set_cons_succ]
          refine takeN (i := 12) (some 60) rfl rfl (by kernel_rfl) (by kernel_rfl) (by kernel_rfl) (fun _ _ _ h => h) (by rfl) hS ?_
          simp only [Act.put, List.setIfInBounds_toArray, List.set_cons_zero, List.set_cons_succ]
          refine takeN (i := 13) (some 61) rfl rfl (by kernel_rfl) (by kernel_rfl) (by kernel_rfl) (fun _ _ _ h => h) (by rfl) hS ?_
          simp only [Act.put, List.setIfInBounds_toArray, List.set_cons_zero, List.set_cons_succ]
          refine takeN (i := 14) (some 62) rfl rfl (by kernel_rfl) (by kernel_rfl) (by kernel_rfl) (fun _ _ _ h => h) (by rfl) hS ?_
          simp only [Act.put, List.setIfInBounds_toArray, List.set_cons_zero, List.set_cons_succ]
          refine takeN (i := 15) (some 63) rfl rfl (by kernel_rfl) (by kernel_rfl) (by kernel_rfl) (fun _ _ _ h => h) (by rfl) hS ?_
          simp only [Act.put, List.setIfInBounds_toArray, List.set_cons_zero, List.set_cons_succ]
          refine takeN (i := 16) (some 64) rfl rfl (by kernel_rfl) (by kernel_rfl) (by kernel_rfl) (fun _ _ _ h => h) (by rfl) hS ?_
          simp only [Act.put, List.setIfInBounds_toArray, List.set_cons_zero, List.set_cons_succ]
          refine takeY (i := 17) (some 65) (v := .bool false) rfl rfl (by kernel_rfl) (by kernel_rfl) (by kernel_rfl) (fun _ _ _ h => h) (by rfl) (fun w' hS => by go_simp) hS ?_
          simp only [Act.put, List.setIfInBounds_toArray, List.set_cons_zero, List.set_cons_succ]
          refine takeY (i := 18) (some 6) (v := .bool false) rfl rfl (by kernel_rfl) (by kernel_rfl) (by kernel_rfl) (fun _ _ _ h => h) (by rfl) (fun w' hS => by go_simp) hS ?_
          simp only [Act.put, List.setIfInBounds_toArray, List.set_cons_zero, List.set_cons_succ]
          clear hS
          refine wpAnyH_done (by kernel_rfl) ?_ _
          go_wp2_with fail
          go_ret
          exact ⟨false, rfl, .inr ⟨rfl, HNO.out⟩, HB.out⟩
      · have h3b : (v0 != 3) = true := by simpa using h3
        have H3 := Lib.hid h3
        clear h3
        have HNO : Hid (¬ Signed L p.m p.kd z n K mk) := Lib.hid (fun h => by rw [hSg.out _ rfl] at h; exact H3.out h.2.2.1)
        go_wp2_with fail
        go_ret
        exact ⟨false, rfl, .inr ⟨rfl, HNO.out⟩, HB.out⟩
    · have h35b : ((vn : Int) != 35) = true := by simp; omega
      have H35 := Lib.hid h35
      clear h35
      have HNO : Hid (¬ Signed L p.m p.kd z n K mk) := Lib.hid (fun h => by rw [hSg.out _ rfl] at h; exact H35.out h.2.1)
      go_wp2_with fail
      go_ret
      exact ⟨false, rfl, .inr ⟨rfl, HNO.out⟩, HB.out⟩
  · have hqb : (r != (l : Int)) = true := by simpa using hq
    have HQ := Lib.hid hq
    clear hq
    have HNO : Hid (¬ Signed L p.m p.kd z n K mk) := Lib.hid (fun h => by rw [hSg.out _ rfl] at h; rcases HRR.out with ⟨k, e1, h1⟩ | ⟨e1, h1⟩; exact HQ.out (by rw [e1, atSig_one h1 h.1]); exact h1 l h.1.1 h.1.2.1)
    go_wp2_with fail
    go_ret
    exact ⟨false, rfl, .inr ⟨rfl, HNO.out⟩, HB.out⟩
/-- is a packet signed? for every packet that was read, and every few keys -/
theorem macSigned_any (p : Pd) (L : Nat → It) (B : Option Addr) (n c : Nat) (z : Nat → Int) (A : Option Addr) (mk ck : Nat) (K : Nat → It) (w : World) (hm9 : p.m ≤ 1000) (hR : RdT w p.A p.m L) (hB : Rd w B n z) (hBn : B = none → n = 0 ∧ c = 0) (hn2 : n ≤ 1492) (h54 : 0 < p.m → (L (p.m - 1)).n = 35 → 54 ≤ n) (hcv : 0 < p.m → (L (p.m - 1)).n ≤ (L (p.m - 1)).c ∧ (L (p.m - 1)).c ≤ maxLen)
    (hK : RdK w A mk K) (hmk : mk ≤ 8) (hs : ∀ j, j < mk → (K j).n ≤ 64) (hg : Rts w 0) :
    Calls Tryd.prog 47 #[.slice B n c, .agg (pdC p), .slice A mk ck] w (SgnP L p.m p.kd z n K mk w) := by
  rcases Nat.eq_zero_or_pos p.m with h0 | hpos
  · have HNO : Hid (¬ Signed L p.m p.kd z n K mk) := Lib.hid (fun h => by have := h.1; omega)
    have hm0 : (p.m : Int) - 1 < 0 := by omega
    have hm1 : (p.m : Int) = 0 := by omega
    have H0 := Lib.hid h0
    clear hm9 hR hB hBn hn2 h54 hcv hK hmk hs hg h0
    go_enter Tryd.func47, Tryd.ntmps47
    have HB := Lib.hid (Below.refl w.heap.size w)
    obtain ⟨N1, hN1⟩ : ∃ N, w.heap.size = N := ⟨_, rfl⟩
    have HN1 := Lib.hid hN1
    clear hN1
    go_wp2_with (refine wpList_box (op := ⟨some 4, _, _, _, _, _⟩) rfl 46 (.tmp 1) rfl (pdC p) rfl N1 HN1.out ?_; intro w1 k1 b1 s1; refine Hid.out ?_)
    refine Lib.hid ?_
    have K1 := Lib.hid k1
    clear k1
    have HBn := Lib.hid (HB.out.trans (b1.mono HB.out.size))
    clear HB b1 HN1
    have cp : w1.cell? ⟨N1, 46, none⟩ = some (.slice p.A 0 p.c) := (K1.out.cell 46).trans (by rw [pd_46, H0.out])
    go_wp2_with fail
    go_ret
    exact ⟨false, rfl, .inr ⟨rfl, HNO.out⟩, HBn.out⟩
  · exact isSigned_at p L B n c z A mk ck K w hpos hm9 hR hB hBn hn2 (h54 hpos) (hcv hpos) hK hmk hs hg
end Go.Proofs.YtccoicjmmeoggaaDoor

/- The document's DocRead: what it answers, for all bytes. Each theorem states its conditions. -/
namespace Go.Proofs.YtccoicjmmeoggaaDoor
open Go.RowKit
set_option linter.unusedVariables false

set_option maxHeartbeats 4000000 in
set_option maxRecDepth 100000 in
theorem dr_long (A : Option Addr) (n c : Nat) (w : World) (h : 1492 < n) : Calls Tryd.prog 48 #[.slice A n c] w (RdErr w 2) := by
  obtain ⟨W1, hW1⟩ : ∃ W1, w.alloc (.cells (pdC pd0) 42) = W1 := ⟨_, rfl⟩
  obtain ⟨X, hX⟩ : ∃ X, w.heap.size = X := ⟨_, rfl⟩
  have HX1 : Hid (PdT 42 W1 X pd0) := Lib.hid (by rw [← hW1, ← hX]; exact heap_alloc_new w _)
  have HB1 : Hid (Below w.heap.size w W1) := Lib.hid (by rw [← hW1]; exact (bself w).alloc (Nat.le_refl _) _)
  have HW1 := Lib.hid hW1
  have HXW := Lib.hid hX
  have hXle : w.heap.size ≤ X := by omega
  have fl1 : decide ((1492 : Int) < (n : Int)) = true := by simp; omega
  clear hW1 hX
  go_enter Tryd.func48, Tryd.ntmps48
  go_wp2_with (first
    | (refine wpList_v (op := ⟨some 2, _, _, _, _, _⟩) rfl _ (alloc_R' _ _ rfl w W1 X HXW.out HW1.out) ?_)
    | (refine wpList_v (op := ⟨some 12, _, _, _, _, _⟩) rfl _ (build_0d _ _ rfl _) ?_)
    | (refine wpList_st rfl 42 (.tmp 2) (.tmp 12) rfl X 0 rfl (.agg (pdC pd0)) (pdC pd0) rfl rfl info_pdR (pdC_one _) HX1.out (Nat.le_of_ble_eq_true rfl) (pd_all _ _) ?_; intro w2 hst2; refine Hid.out ?_))
  refine Lib.hid ?_
  have HX2 : Hid (PdT 42 w2 X pd0) := Lib.hid hst2.1
  have HB2 : Hid (Below w.heap.size w w2) := Lib.hid (HB1.out.trans (hst2.2.1 _ hXle))
  clear hst2
  go_wp2_with fail
  refine bodyPost_ret (results_dr rfl _ w2 X pd0 (.int .i64 2) rfl HX2.out rfl) rfl ⟨rfl, HB2.out⟩
end Go.Proofs.YtccoicjmmeoggaaDoor

/- The document's DocRead: what it answers, for all bytes. Each theorem states its conditions. -/
namespace Go.Proofs.YtccoicjmmeoggaaDoor
open Go.RowKit
set_option linter.unusedVariables false

set_option maxHeartbeats 4000000 in
set_option maxRecDepth 100000 in
theorem dr_short (A : Option Addr) (n c : Nat) (w : World) (hn2 : n ≤ 1492) (h : n < 8) : Calls Tryd.prog 48 #[.slice A n c] w (RdErr w 3) := by
  obtain ⟨W1, hW1⟩ : ∃ W1, w.alloc (.cells (pdC pd0) 42) = W1 := ⟨_, rfl⟩
  obtain ⟨X, hX⟩ : ∃ X, w.heap.size = X := ⟨_, rfl⟩
  have HX1 : Hid (PdT 42 W1 X pd0) := Lib.hid (by rw [← hW1, ← hX]; exact heap_alloc_new w _)
  have HB1 : Hid (Below w.heap.size w W1) := Lib.hid (by rw [← hW1]; exact (bself w).alloc (Nat.le_refl _) _)
  have HW1 := Lib.hid hW1
  have HXW := Lib.hid hX
  have hXle : w.heap.size ≤ X := by omega
  have fl1 : decide ((1492 : Int) < (n : Int)) = false := by simp; omega
  clear hW1 hX
  have fl8 : decide ((n : Int) < 8) = true := by simp; omega
  go_enter Tryd.func48, Tryd.ntmps48
  go_wp2_with (first
    | (refine wpList_v (op := ⟨some 2, _, _, _, _, _⟩) rfl _ (alloc_R' _ _ rfl w W1 X HXW.out HW1.out) ?_)
    | (refine wpList_v (op := ⟨some 32, _, _, _, _, _⟩) rfl _ (build_0d _ _ rfl _) ?_)
    | (refine wpList_st rfl 42 (.tmp 2) (.tmp 32) rfl X 0 rfl (.agg (pdC pd0)) (pdC pd0) rfl rfl info_pdR (pdC_one _) HX1.out (Nat.le_of_ble_eq_true rfl) (pd_all _ _) ?_; intro w2 hst2; refine Hid.out ?_))
  refine Lib.hid ?_
  have HX2 : Hid (PdT 42 w2 X pd0) := Lib.hid hst2.1
  have HB2 : Hid (Below w.heap.size w w2) := Lib.hid (HB1.out.trans (hst2.2.1 _ hXle))
  clear hst2
  go_wp2_with fail
  refine bodyPost_ret (results_dr rfl _ w2 X pd0 (.int .i64 3) rfl HX2.out rfl) rfl ⟨rfl, HB2.out⟩
set_option maxHeartbeats 4000000 in
set_option maxRecDepth 100000 in
theorem dr_kind (b off n c : Nat) (z : Nat → Int) (w : World) (hr : Row8 w b off n z) (hn2 : n ≤ 1492) (h8 : 8 ≤ n) (hk : cls (z 4) = 5) : Calls Tryd.prog 48 #[.slice (some ⟨b, off, none⟩) n c] w (RdErr w 3) := by
  obtain ⟨W1, hW1⟩ : ∃ W1, w.alloc (.cells (pdC pd0) 42) = W1 := ⟨_, rfl⟩
  obtain ⟨X, hX⟩ : ∃ X, w.heap.size = X := ⟨_, rfl⟩
  have HX1 : Hid (PdT 42 W1 X pd0) := Lib.hid (by rw [← hW1, ← hX]; exact heap_alloc_new w _)
  have HB1 : Hid (Below w.heap.size w W1) := Lib.hid (by rw [← hW1]; exact (bself w).alloc (Nat.le_refl _) _)
  have HW1 := Lib.hid hW1
  have HXW := Lib.hid hX
  have hXle : w.heap.size ≤ X := by omega
  have fl1 : decide ((1492 : Int) < (n : Int)) = false := by simp; omega
  clear hW1 hX
  have fl8 : decide ((n : Int) < 8) = false := by simp; omega
  have c4 : W1.cell? ⟨b, off + 4, none⟩ = some (.int .u8 (z 4)) := by rw [← hr.2.1 4 (by omega)]; exact HB1.out.cell hr.1
  have HH := Lib.hid (refHead_none (z 4) hk)
  have h4n : (4 : Int) < (n : Int) := by omega
  clear hr hk
  go_enter Tryd.func48, Tryd.ntmps48
  go_wp2_with (refine wpList_v (op := ⟨some 2, _, _, _, _, _⟩) rfl _ (alloc_R' _ _ rfl w W1 X HXW.out HW1.out) ?_)
  refine (HH.out _).mono ?_
  rintro e wx ⟨rfl, rfl⟩
  go_wp2_with (first
    | (refine wpList_v (op := ⟨some 32, _, _, _, _, _⟩) rfl _ (build_0d _ _ rfl _) ?_)
    | (refine wpList_st rfl 42 (.tmp 2) (.tmp 32) rfl X 0 rfl (.agg (pdC pd0)) (pdC pd0) rfl rfl info_pdR (pdC_one _) HX1.out (Nat.le_of_ble_eq_true rfl) (pd_all _ _) ?_; intro w2 hst2; refine Hid.out ?_))
  refine Lib.hid ?_
  have HX2 : Hid (PdT 42 w2 X pd0) := Lib.hid hst2.1
  have HB2 : Hid (Below w.heap.size w w2) := Lib.hid (HB1.out.trans (hst2.2.1 _ hXle))
  clear hst2
  go_wp2_with fail
  refine bodyPost_ret (results_dr rfl _ w2 X pd0 (.int .i64 3) rfl HX2.out rfl) rfl ⟨rfl, HB2.out⟩
set_option maxHeartbeats 4000000 in
set_option maxRecDepth 100000 in
theorem dr_head (b off n c : Nat) (z : Nat → Int) (w : World) (hr : Row8 w b off n z) (hn2 : n ≤ 1492) (h8 : 8 ≤ n) (q : Nat) (hk : cls (z 4) = q) (hq : q ≤ 4) (hh : n < hdN q) : Calls Tryd.prog 48 #[.slice (some ⟨b, off, none⟩) n c] w (RdErr w 3) := by
  obtain ⟨W1, hW1⟩ : ∃ W1, w.alloc (.cells (pdC pd0) 42) = W1 := ⟨_, rfl⟩
  obtain ⟨X, hX⟩ : ∃ X, w.heap.size = X := ⟨_, rfl⟩
  have HX1 : Hid (PdT 42 W1 X pd0) := Lib.hid (by rw [← hW1, ← hX]; exact heap_alloc_new w _)
  have HB1 : Hid (Below w.heap.size w W1) := Lib.hid (by rw [← hW1]; exact (bself w).alloc (Nat.le_refl _) _)
  have HW1 := Lib.hid hW1
  have HXW := Lib.hid hX
  have hXle : w.heap.size ≤ X := by omega
  have fl1 : decide ((1492 : Int) < (n : Int)) = false := by simp; omega
  clear hW1 hX
  have fl8 : decide ((n : Int) < 8) = false := by simp; omega
  have c4 : W1.cell? ⟨b, off + 4, none⟩ = some (.int .u8 (z 4)) := by rw [← hr.2.1 4 (by omega)]; exact HB1.out.cell hr.1
  have HH := Lib.hid (refHead_any (z 4) q hk hq)
  have h4n : (4 : Int) < (n : Int) := by omega
  have h17 := hdN_bd q hq
  obtain ⟨H, hH⟩ : ∃ H, hdN q = H := ⟨_, rfl⟩
  rw [hH] at HH hh h17
  have fH : ((H : Int) == 0) = false := by simp; omega
  have fl9 : decide ((n : Int) < (H : Int)) = true := by simp; omega
  clear hr hk hH
  go_enter Tryd.func48, Tryd.ntmps48
  go_wp2_with (refine wpList_v (op := ⟨some 2, _, _, _, _, _⟩) rfl _ (alloc_R' _ _ rfl w W1 X HXW.out HW1.out) ?_)
  refine (HH.out _).mono ?_
  rintro e wx ⟨rfl, rfl⟩
  go_wp2_with fail
  refine (HH.out _).mono ?_
  rintro e wx ⟨rfl, rfl⟩
  go_wp2_with (first
    | (refine wpList_v (op := ⟨some 32, _, _, _, _, _⟩) rfl _ (build_0d _ _ rfl _) ?_)
    | (refine wpList_st rfl 42 (.tmp 2) (.tmp 32) rfl X 0 rfl (.agg (pdC pd0)) (pdC pd0) rfl rfl info_pdR (pdC_one _) HX1.out (Nat.le_of_ble_eq_true rfl) (pd_all _ _) ?_; intro w2 hst2; refine Hid.out ?_))
  refine Lib.hid ?_
  have HX2 : Hid (PdT 42 w2 X pd0) := Lib.hid hst2.1
  have HB2 : Hid (Below w.heap.size w w2) := Lib.hid (HB1.out.trans (hst2.2.1 _ hXle))
  clear hst2
  go_wp2_with fail
  refine bodyPost_ret (results_dr rfl _ w2 X pd0 (.int .i64 3) rfl HX2.out rfl) rfl ⟨rfl, HB2.out⟩
end Go.Proofs.YtccoicjmmeoggaaDoor
