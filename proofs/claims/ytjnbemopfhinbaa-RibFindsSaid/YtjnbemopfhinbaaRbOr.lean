/- The document of a table: routes in the order of their prefixes. Each theorem states its conditions. -/
import Derived.Test.YtjnbemopfhinbaaRbRf
import Derived.Test.YtjnbemopfhinbaaRbCn
import Derived.Test.YtjnbemopfhinbaaRbLd
import Derived.Test.YtjnbemopfhinbaaTrK
namespace Go.Proofs.Ytjnbemopfhinbaa
open Go.RowKit
set_option linter.unusedVariables false
set_option linter.unusedSimpArgs false

/-- a route in its place -/
def insR (r : Rx) : List Rx → List Rx
  | [] => [r]
  | x :: L => if rKey r.r < rKey x.r then r :: x :: L else x :: insR r L
theorem insR_none {r : Rx} : ∀ {L : List Rx}, (∀ x, x ∈ L → ¬ rKey r.r < rKey x.r) → insR r L = L ++ [r]
  | [], _ => rfl
  | x :: L, h => by
    unfold insR
    rw [if_neg (h x (List.mem_cons_self ..)), insR_none (fun y hy => h y (List.mem_cons_of_mem _ hy))]
    rfl
theorem insR_hit {r y : Rx} : ∀ {L : List Rx}, (∀ x, x ∈ L → ¬ rKey r.r < rKey x.r) → rKey r.r < rKey y.r → insR r (L ++ [y]) = L ++ [r] ++ [y]
  | [], _, h => by
    show insR r [y] = _
    unfold insR
    rw [if_pos h]; rfl
  | x :: L, h, hy => by
    show insR r (x :: (L ++ [y])) = _
    unfold insR
    rw [if_neg (h x (List.mem_cons_self ..)), insR_hit (fun y hy => h y (List.mem_cons_of_mem _ hy)) hy]
    rfl
theorem insR_more {r y : Rx} : ∀ {L : List Rx}, (∃ x, x ∈ L ∧ rKey r.r < rKey x.r) → insR r (L ++ [y]) = insR r L ++ [y]
  | [], h => by obtain ⟨x, hx, _⟩ := h; cases hx
  | x :: L, h => by
    show insR r (x :: (L ++ [y])) = _
    unfold insR
    by_cases h9 : rKey r.r < rKey x.r
    · rw [if_pos h9, if_pos h9]; rfl
    · rw [if_neg h9, if_neg h9, insR_more (by
        obtain ⟨z, hz, h8⟩ := h
        rcases List.mem_cons.1 hz with rfl | hz
        · exact absurd h8 h9
        · exact ⟨z, hz, h8⟩)]
      rfl
theorem insR_perm (r : Rx) : ∀ L : List Rx, (insR r L).Perm (r :: L)
  | [] => List.Perm.refl _
  | x :: L => by
    unfold insR
    split
    · exact List.Perm.refl _
    · exact ((insR_perm r L).cons x).trans (List.Perm.swap r x L)
theorem insR_asc {r : Rx} : ∀ {L : List Rx}, L.Pairwise (fun a b => rKey a.r < rKey b.r) → (∀ x, x ∈ L → rKey x.r ≠ rKey r.r) → (insR r L).Pairwise (fun a b => rKey a.r < rKey b.r)
  | [], _, _ => List.pairwise_singleton _ _
  | x :: L, h, hn => by
    obtain ⟨h1, h2⟩ := List.pairwise_cons.1 h
    unfold insR
    split
    next hlt =>
      refine List.pairwise_cons.2 ⟨fun y hy => ?_, h⟩
      rcases List.mem_cons.1 hy with rfl | hy
      · exact hlt
      · exact Int.lt_trans hlt (h1 y hy)
    next hlt =>
      refine List.pairwise_cons.2 ⟨fun y hy => ?_, insR_asc h2 (fun y hy => hn y (List.mem_cons_of_mem _ hy))⟩
      rcases List.mem_cons.1 ((insR_perm r L).mem_iff.1 hy) with rfl | hy
      · have := hn x (List.mem_cons_self ..); omega
      · exact h1 y hy
def ordL (X : Nat → Rx) : Nat → List Rx
  | 0 => []
  | i + 1 => insR (X i) (ordL X i)
theorem ordL_len (X : Nat → Rx) : ∀ i, (ordL X i).length = i
  | 0 => rfl
  | i + 1 => by rw [show ordL X (i + 1) = insR (X i) (ordL X i) from rfl, (insR_perm _ _).length_eq, List.length_cons, ordL_len X i]
theorem ordL_mem {X : Nat → Rx} {y : Rx} : ∀ {i : Nat}, y ∈ ordL X i ↔ ∃ q, q < i ∧ X q = y
  | 0 => ⟨(fun h => by cases h), fun ⟨q, hq, _⟩ => by omega⟩
  | i + 1 => by
    rw [show ordL X (i + 1) = insR (X i) (ordL X i) from rfl, (insR_perm _ _).mem_iff, List.mem_cons, ordL_mem]
    constructor
    · rintro (rfl | ⟨q, hq, e⟩)
      · exact ⟨i, by omega, rfl⟩
      · exact ⟨q, by omega, e⟩
    · rintro ⟨q, hq, e⟩
      by_cases h : q = i
      · subst h; exact .inl e.symm
      · exact .inr ⟨q, by omega, e⟩
theorem ordL_asc {X : Nat → Rx} : ∀ {i : Nat}, (∀ a b, a < b → b < i → rKey (X a).r ≠ rKey (X b).r) → (ordL X i).Pairwise (fun a b => rKey a.r < rKey b.r)
  | 0, _ => List.Pairwise.nil
  | i + 1, h => insR_asc (ordL_asc (fun a b h1 h2 => h a b h1 (by omega))) (fun x hx => by obtain ⟨q, hq, e⟩ := ordL_mem.1 hx; rw [← e]; exact h q i hq (by omega))
/-- the inner loop's state -/
def OrN (r : Rx) (O : List Rx) (j : Nat) (b : Bool) (N : List Rx) : Prop := (b = false → (∀ x, x ∈ O.take j → ¬ rKey r.r < rKey x.r) ∧ N = O.take j) ∧ (b = true → (∃ x, x ∈ O.take j ∧ rKey r.r < rKey x.r) ∧ N = insR r (O.take j))
theorem OrN.nil (r : Rx) (O : List Rx) : OrN r O 0 false [] := ⟨fun _ => ⟨fun x hx => (by rw [List.take_zero] at hx; cases hx), rfl⟩, (fun h => by cases h)⟩
theorem OrN.len {r : Rx} {O : List Rx} {j : Nat} {b : Bool} {N : List Rx} (h : OrN r O j b N) : N.length ≤ O.length + 1 := by
  cases b with
  | false => rw [(h.1 rfl).2, List.length_take]; omega
  | true => rw [(h.2 rfl).2, (insR_perm _ _).length_eq, List.length_cons, List.length_take]; omega
theorem OrN.hit {r : Rx} {O : List Rx} {j : Nat} {N : List Rx} (h : OrN r O j false N) (hj : j < O.length) (hl : rKey r.r < rKey (O.getD j rx0).r) : OrN r O (j + 1) true (N ++ [r] ++ [O.getD j rx0]) := by
  obtain ⟨h1, rfl⟩ := h.1 rfl
  refine ⟨(fun h => by cases h), fun _ => ⟨⟨O.getD j rx0, ?_, hl⟩, ?_⟩⟩
  · rw [take_more hj]; exact List.mem_append.2 (.inr (List.mem_singleton.2 rfl))
  · rw [take_more hj, insR_hit h1 hl]
theorem OrN.miss {r : Rx} {O : List Rx} {j : Nat} {N : List Rx} (h : OrN r O j false N) (hj : j < O.length) (hl : ¬ rKey r.r < rKey (O.getD j rx0).r) : OrN r O (j + 1) false (N ++ [O.getD j rx0]) := by
  obtain ⟨h1, rfl⟩ := h.1 rfl
  refine ⟨fun _ => ⟨fun x hx => ?_, ?_⟩, (fun h => by cases h)⟩
  · rw [take_more hj] at hx
    rcases List.mem_append.1 hx with h | h
    · exact h1 x h
    · rw [List.mem_singleton.1 h]; exact hl
  · rw [take_more hj]
theorem OrN.on {r : Rx} {O : List Rx} {j : Nat} {N : List Rx} (h : OrN r O j true N) (hj : j < O.length) : OrN r O (j + 1) true (N ++ [O.getD j rx0]) := by
  obtain ⟨⟨x, hx, hl⟩, rfl⟩ := h.2 rfl
  refine ⟨(fun h => by cases h), fun _ => ⟨⟨x, ?_, hl⟩, ?_⟩⟩
  · rw [take_more hj]; exact List.mem_append.2 (.inl hx)
  · rw [take_more hj, insR_more ⟨x, hx, hl⟩]
theorem OrN.last {r : Rx} {O N : List Rx} (h : OrN r O O.length false N) : N ++ [r] = insR r O := by
  obtain ⟨h1, rfl⟩ := h.1 rfl
  rw [List.take_of_length_le (Nat.le_refl _)] at h1 ⊢
  exact (insR_none h1).symm
theorem OrN.full {r : Rx} {O N : List Rx} (h : OrN r O O.length true N) : N = insR r O := by
  obtain ⟨_, rfl⟩ := h.2 rfl
  rw [List.take_of_length_le (Nat.le_refl _)]
theorem blk_grN {w w' : World} {row : Option Nat} {t : TypeId} {g : Nat} {C : Array Value} (h : Blk t w g C) (hg : w.grownBy w' row) (hne : ∀ k, row = some k → k ≠ g) : Blk t w' g C := (hg.block g h.lt (fun e => hne g e.symm rfl)).trans h
theorem lessR_is {x y : Rt} (qb : Bool) (hq : decide (rKey x < rKey y) = qb) (hx : Bytes x.p.z) (hy : Bytes y.p.z) (fx : FmX x) (fy : FmX y) (w : World) : Calls Try.prog 47 #[.agg (pfC x.p), .agg (pfC y.p)] w fun e w' => e = .returned (.bool qb) ∧ Below w.heap.size w w' := by
  have l : ∀ {r : Rt}, FmX r → 0 ≤ r.p.len ∧ r.p.len ≤ 128 := fun {r} h => by
    obtain ⟨h1, _⟩ := h
    unfold Sized at h1
    omega
  refine (less_any x.p.fam x.p.len x.p.z y.p.fam y.p.len y.p.z w hx hy (l fx) (l fy)).mono ?_
  rintro e w' ⟨rfl, b⟩
  exact ⟨by rw [← hq]; rfl, b⟩
/-- what Order answers -/
def OrderQ (w : World) (n : Nat) (X : Nat → Rx) (e : Ending) (w' : World) : Prop := Below w.heap.size w w' ∧ ∃ v, e = .returned v ∧ OwnR w' w.heap.size 70 21 v n (rxB (ordL X n))
set_option maxHeartbeats 32000000 in
set_option maxRecDepth 100000 in
theorem order_any (X : Nat → Rx) (A : Option Addr) (n c : Nat) (w : World) (hr : RdR w A n 21 (fun j => rxC (X j))) (hb : ∀ j, RtB (X j).r) (hf : ∀ j, j < n → FmX (X j).r) (hn : n ≤ 500) : Calls Try.prog 38 #[.slice A n c] w (OrderQ w n X) := by
  have HR := Lib.hid hr
  have HRB := Lib.hid hb
  have HFO := Lib.hid hf
  have HN := Lib.hid hn
  have hnI : (n : Int) ≤ 9223372036854775807 := by omega
  clear hr hb hf hn
  go_enter Try.func38, Try.ntmps38
  go_wp2_with fail
  go_loopw [3, 12] (fun v t wr => ∃ i : Nat, i ≤ n ∧ t = .int .i64 i ∧ Hid (OwnR wr w.heap.size 70 21 v i (rxB (ordL X i))) ∧ Hid (Below w.heap.size w wr)) (fun _ t _ => n - (intOf t).toNat)
  case atStart => exact ⟨0, by omega, rfl, Lib.hid (OwnR.nil _ _ _ _ _), Lib.hid (Below.refl _ _)⟩
  case round =>
    obtain ⟨i, hi, rfl, HO, HB⟩ := hrel
    by_cases hin : i < n
    · have HIN := Lib.hid hin
      have hii : (i : Int) < (n : Int) := by omega
      have hi0 : (0 : Int) ≤ (i : Int) := by omega
      clear hin hi
      obtain ⟨y, hy⟩ : ∃ y, X i = y := ⟨_, rfl⟩
      have HY := Lib.hid hy
      have HYB : Hid (RtB y.r ∧ FmX y.r) := Lib.hid (by rw [← hy]; exact ⟨HRB.out i, HFO.out i HIN.out⟩)
      obtain ⟨b0, o0, rfl, r0⟩ := HR.out.row (by have := HIN.out; omega)
      have R0 : Hid (wr.rangeAt b0 (o0 + i * 21) (rxC y).toList) := Lib.hid (by rw [← hy]; exact rangeAt_below (r0.2 i HIN.out) HB.out r0.1)
      clear r0 hy
      go_wp2_with (refine wpList_ld (op := ⟨some 15, _, _, _, _, _⟩) (by rfl) 70 (.tmp 14) rfl b0 (o0 + i * 21) rfl (rxC y) _ R0.out Try.underlying70 rfl info_rt ?_; refine Hid.out ?_)
      refine Lib.hid ?_
      clear R0
      obtain ⟨NK5, hNK5⟩ : ∃ N, wr.heap.size = N := ⟨_, rfl⟩
      have HNK5 := Lib.hid hNK5
      clear hNK5
      go_wp2_with (refine wpList_new (op := ⟨some 5, _, _, _, _, _⟩) rfl 70 rfl (rxC rx0) zero_rt NK5 HNK5.out ?_; intro w5 k1 b1 s1; refine Hid.out ?_)
      refine Lib.hid ?_
      have KX := Lib.hid k1
      have BX := Lib.hid b1
      clear k1 b1 s1
      go_wp2_with (refine wpList_st rfl 70 (.tmp 5) (.tmp 15) rfl NK5 0 rfl (.agg (rxC y)) (rxC y) rfl rfl info_rt (rx_one _) KX.out (Nat.le_of_ble_eq_true rfl) (C' := rxC y) (rx_over _ _) ?_; intro w6 q1; refine Hid.out ?_)
      refine Lib.hid ?_
      have b1 : Below wr.heap.size wr w6 := BX.out.trans (q1.2.1 _ (by rw [HNK5.out]; exact Nat.le_refl _))
      have HBn := Lib.hid (HB.out.trans (b1.mono HB.out.size))
      clear HB
      have HB := HBn
      clear HBn
      have HOn := Lib.hid (HO.out.below b1)
      clear HO
      have HO := HOn
      clear HOn
      have K5 : Hid (Blk 70 w6 NK5 (rxC y)) := Lib.hid q1.1
      clear KX BX q1 b1 HNK5
      obtain ⟨O, hO⟩ : ∃ O, ordL X i = O := ⟨_, rfl⟩
      have HOE := Lib.hid hO
      have HOL : Hid (O.length = i) := Lib.hid (by rw [← hO, ordL_len])
      rw [hO] at HO
      clear hO
      obtain ⟨AO, cO, rfl, _, _, _, hro⟩ := HO.out.shape (rxB_recs _) (by decide)
      have HRO := Lib.hid hro
      clear hro
      have HOX : Hid (∀ j, j < i → RtB (O.getD j rx0).r ∧ FmX (O.getD j rx0).r) := Lib.hid (fun j hj => by have hm := S_mem HOL.out hj; rw [← HOE.out] at hm; obtain ⟨q, hq, e⟩ := ordL_mem.1 hm; rw [HOE.out] at e; rw [← e]; exact ⟨HRB.out q, HFO.out q (by have := HIN.out; omega)⟩)
      have hiI : (i : Int) ≤ 9223372036854775807 := by have := HIN.out; have := HN.out; omega
      go_wp2_with fail
      go_loopw [6, 7, 18] (fun v d t wx => ∃ (j : Nat) (b : Bool) (N : List Rx), j ≤ i ∧ d = .bool b ∧ t = .int .i64 j ∧ Hid (OrN y O j b N) ∧ Hid (OwnR wx w6.heap.size 70 21 v N.length (rxB N)) ∧ Hid (Below w6.heap.size w6 wx)) (fun _ _ t _ => i - (intOf t).toNat)
      case atStart => exact ⟨0, false, [], by omega, rfl, rfl, Lib.hid (OrN.nil _ _), Lib.hid (OwnR.nil _ _ _ _ _), Lib.hid (Below.refl _ _)⟩
      case round =>
        obtain ⟨j, b, N, hj, rfl, rfl, HON, HNX, HBi⟩ := hrel
        by_cases hji : j < i
        · have HJI := Lib.hid hji
          have K5n := Lib.hid (K5.out.below HBi.out K5.out.lt)
          clear K5
          have K5 := K5n
          clear K5n
          have hjj : (j : Int) < (i : Int) := by omega
          have hj0 : (0 : Int) ≤ (j : Int) := by omega
          clear hji hj
          have HJO : Hid (j < O.length) := Lib.hid (by rw [HOL.out]; exact HJI.out)
          have HNL : Hid (N.length ≤ 600) := Lib.hid (by have := HON.out.len; have := HOL.out; have := HIN.out; have := HN.out; omega)
          obtain ⟨x, hx⟩ : ∃ x, O.getD j rx0 = x := ⟨_, rfl⟩
          have HX := Lib.hid hx
          have HXB : Hid (RtB x.r ∧ FmX x.r) := Lib.hid (by rw [← hx]; exact HOX.out j HJI.out)
          obtain ⟨b1, o1, rfl, r1⟩ := HRO.out.row (by have := HJI.out; omega)
          have R1 : Hid (wr.rangeAt b1 (o1 + j * 21) (rxC x).toList) := Lib.hid (by rw [← hx]; exact rangeAt_below (r1.2 j HJI.out) HBi.out r1.1)
          clear r1 hx
          go_wp2_with (refine wpList_ld (op := ⟨some 21, _, _, _, _, _⟩) (by rfl) 70 (.tmp 20) rfl b1 (o1 + j * 21) rfl (rxC x) _ R1.out Try.underlying70 rfl info_rt ?_; refine Hid.out ?_)
          refine Lib.hid ?_
          clear R1
          have HNE := Lib.hid (fun k e => (HNX.out.lt k e).2)
          obtain ⟨NK9, hNK9⟩ : ∃ N, wr.heap.size = N := ⟨_, rfl⟩
          have HNK9 := Lib.hid hNK9
          clear hNK9
          go_wp2_with (refine wpList_new (op := ⟨some 9, _, _, _, _, _⟩) rfl 70 rfl (rxC rx0) zero_rt NK9 HNK9.out ?_; intro w7 k1 b1 s1; refine Hid.out ?_)
          refine Lib.hid ?_
          have KX := Lib.hid k1
          have BX := Lib.hid b1
          clear k1 b1 s1
          go_wp2_with (refine wpList_st rfl 70 (.tmp 9) (.tmp 21) rfl NK9 0 rfl (.agg (rxC x)) (rxC x) rfl rfl info_rt (rx_one _) KX.out (Nat.le_of_ble_eq_true rfl) (C' := rxC x) (rx_over _ _) ?_; intro w8 q1; refine Hid.out ?_)
          refine Lib.hid ?_
          have b1 : Below wr.heap.size wr w8 := BX.out.trans (q1.2.1 _ (by rw [HNK9.out]; exact Nat.le_refl _))
          have HBin := Lib.hid (HBi.out.trans (b1.mono HBi.out.size))
          clear HBi
          have HBi := HBin
          clear HBin
          have HNXn := Lib.hid (HNX.out.below b1)
          clear HNX
          have HNX := HNXn
          clear HNXn
          have K5n := Lib.hid (K5.out.below b1 K5.out.lt)
          clear K5
          have K5 := K5n
          clear K5n
          have K9 : Hid (Blk 70 w8 NK9 (rxC x)) := Lib.hid q1.1
          clear KX BX q1 b1
          cases b with
          | true =>
            go_wp2_with (refine wpList_ld (op := ⟨some 36, _, _, _, _, _⟩) (by rfl) 70 (.tmp 9) rfl NK9 (0) rfl (rxC x) _ K9.out.all Try.underlying70 rfl info_rt ?_; refine Hid.out ?_)
            refine Lib.hid ?_
            obtain ⟨P1, hP1⟩ : ∃ N, w8.heap.size = N := ⟨_, rfl⟩
            have HP1 := Lib.hid hP1
            clear hP1
            go_wp2_with (refine wpList_bs (op := ⟨some 37, _, _, _, _, _⟩) rfl 70 (rxC x) (bs_rt _ _ _ rfl x rfl) P1 HP1.out ?_; intro wa k1 b1 s9; refine Hid.out ?_)
            refine Lib.hid ?_
            have HRN : Hid (RdR wa (some ⟨P1, 0, none⟩) 1 21 (fun _ => rxC x)) := Lib.hid (rdR_blk k1)
            have HBin := Lib.hid (HBi.out.trans (b1.mono HBi.out.size))
            clear HBi
            have HBi := HBin
            clear HBin
            have HNXn := Lib.hid (HNX.out.below b1)
            clear HNX
            have HNX := HNXn
            clear HNXn
            have K5n := Lib.hid (K5.out.below b1 K5.out.lt)
            clear K5
            have K5 := K5n
            clear K5n
            have K9n := Lib.hid (K9.out.below b1 K9.out.lt)
            clear K9
            have K9 := K9n
            clear K9n
            clear k1 s9 b1 HP1
            have HZ := Lib.hid HBi.out.size
            go_wp2_with (refine app_Y (o := ⟨some 38, _, _, _, _, _⟩) 60 70 21 72 (.agg (rxC rx0)) Try.underlying60 info_rtE rfl (by decide) rfl (.tmp 35) (.tmp 37) rfl _ _ _ _ rfl HNX.out HZ.out ⟨P1, 0, none⟩ 1 1 (fun _ => rxC x) rfl HRN.out (recs_rx (fun _ => x)) (by have := HNL.out; unfold maxLen; omega) (by have := HNL.out; omega) ?_; intro va wb ho9 hg9 hk9; refine Hid.out ?_)
            refine Lib.hid ?_
            have HBn := Lib.hid (HBi.out.trans (below_grown hg9 HZ.out hk9))
            clear HBi
            have HBi := HBn
            clear HBn
            have HNn : Hid (OwnR wb w6.heap.size 70 21 va (N ++ [x]).length (rxB (N ++ [x]))) := Lib.hid (own_rx ho9)
            clear ho9 hg9 hk9 HRN HZ
            clear HNX
            have HNX := HNn
            clear HNn
            go_wp2_with fail
            go_roundw
            case rel => exact ⟨j + 1, true, _, HJI.out, rfl, by go_num, Lib.hid (by rw [← HX.out]; exact HON.out.on HJO.out), HNX, HBi⟩
            case measure => have := HJI.out; simp only [intOf]; omega
          | false =>
            obtain ⟨qb, hqb⟩ : ∃ qb, decide (rKey y.r < rKey x.r) = qb := ⟨_, rfl⟩
            have HQB := Lib.hid hqb
            clear hqb
            go_wp2_with (refine wpList_ld (op := ⟨some 26, _, _, _, _, _⟩) (by rfl) 32 (.tmp 25) rfl NK5 (0) rfl (pfC y.r.p) _ K5.out.rxpf Try.underlying32 rfl (hi_pv _ _ _) ?_; refine Hid.out ?_)
            refine Lib.hid ?_
            go_wp2_with (refine wpList_ld (op := ⟨some 28, _, _, _, _, _⟩) (by rfl) 32 (.tmp 27) rfl NK9 (0) rfl (pfC x.r.p) _ K9.out.rxpf Try.underlying32 rfl (hi_pv _ _ _) ?_; refine Hid.out ?_)
            refine Lib.hid ?_
            go_wp2_with fail
            refine (lessR_is qb HQB.out HYB.out.1.p HXB.out.1.p HYB.out.2 HXB.out.2 w8).mono ?_
            rintro e w9 ⟨rfl, b1⟩
            have HBin := Lib.hid (HBi.out.trans (b1.mono HBi.out.size))
            clear HBi
            have HBi := HBin
            clear HBin
            have HNXn := Lib.hid (HNX.out.below b1)
            clear HNX
            have HNX := HNXn
            clear HNXn
            have K5n := Lib.hid (K5.out.below b1 K5.out.lt)
            clear K5
            have K5 := K5n
            clear K5n
            have K9n := Lib.hid (K9.out.below b1 K9.out.lt)
            clear K9
            have K9 := K9n
            clear K9n
            clear b1
            cases qb with
            | false =>
              go_wp2_with (refine wpList_ld (op := ⟨some 36, _, _, _, _, _⟩) (by rfl) 70 (.tmp 9) rfl NK9 (0) rfl (rxC x) _ K9.out.all Try.underlying70 rfl info_rt ?_; refine Hid.out ?_)
              refine Lib.hid ?_
              obtain ⟨P1, hP1⟩ : ∃ N, w9.heap.size = N := ⟨_, rfl⟩
              have HP1 := Lib.hid hP1
              clear hP1
              go_wp2_with (refine wpList_bs (op := ⟨some 37, _, _, _, _, _⟩) rfl 70 (rxC x) (bs_rt _ _ _ rfl x rfl) P1 HP1.out ?_; intro wa k1 b1 s9; refine Hid.out ?_)
              refine Lib.hid ?_
              have HRN : Hid (RdR wa (some ⟨P1, 0, none⟩) 1 21 (fun _ => rxC x)) := Lib.hid (rdR_blk k1)
              have HBin := Lib.hid (HBi.out.trans (b1.mono HBi.out.size))
              clear HBi
              have HBi := HBin
              clear HBin
              have HNXn := Lib.hid (HNX.out.below b1)
              clear HNX
              have HNX := HNXn
              clear HNXn
              have K5n := Lib.hid (K5.out.below b1 K5.out.lt)
              clear K5
              have K5 := K5n
              clear K5n
              have K9n := Lib.hid (K9.out.below b1 K9.out.lt)
              clear K9
              have K9 := K9n
              clear K9n
              clear k1 s9 b1 HP1
              have HZ := Lib.hid HBi.out.size
              go_wp2_with (refine app_Y (o := ⟨some 38, _, _, _, _, _⟩) 60 70 21 72 (.agg (rxC rx0)) Try.underlying60 info_rtE rfl (by decide) rfl (.tmp 35) (.tmp 37) rfl _ _ _ _ rfl HNX.out HZ.out ⟨P1, 0, none⟩ 1 1 (fun _ => rxC x) rfl HRN.out (recs_rx (fun _ => x)) (by have := HNL.out; unfold maxLen; omega) (by have := HNL.out; omega) ?_; intro va wb ho9 hg9 hk9; refine Hid.out ?_)
              refine Lib.hid ?_
              have HBn := Lib.hid (HBi.out.trans (below_grown hg9 HZ.out hk9))
              clear HBi
              have HBi := HBn
              clear HBn
              have HNn : Hid (OwnR wb w6.heap.size 70 21 va (N ++ [x]).length (rxB (N ++ [x]))) := Lib.hid (own_rx ho9)
              clear ho9 hg9 hk9 HRN HZ
              clear HNX
              have HNX := HNn
              clear HNn
              go_wp2_with fail
              go_roundw
              case rel => exact ⟨j + 1, false, _, HJI.out, rfl, by go_num, Lib.hid (by rw [← HX.out]; exact HON.out.miss HJO.out (by rw [HX.out]; exact of_decide_eq_false HQB.out)), HNX, HBi⟩
              case measure => have := HJI.out; simp only [intOf]; omega
            | true =>
              go_wp2_with (refine wpList_ld (op := ⟨some 32, _, _, _, _, _⟩) (by rfl) 70 (.tmp 5) rfl NK5 (0) rfl (rxC y) _ K5.out.all Try.underlying70 rfl info_rt ?_; refine Hid.out ?_)
              refine Lib.hid ?_
              obtain ⟨P1, hP1⟩ : ∃ N, w9.heap.size = N := ⟨_, rfl⟩
              have HP1 := Lib.hid hP1
              clear hP1
              go_wp2_with (refine wpList_bs (op := ⟨some 33, _, _, _, _, _⟩) rfl 70 (rxC y) (bs_rt _ _ _ rfl y rfl) P1 HP1.out ?_; intro wa k1 b1 s9; refine Hid.out ?_)
              refine Lib.hid ?_
              have HRN : Hid (RdR wa (some ⟨P1, 0, none⟩) 1 21 (fun _ => rxC y)) := Lib.hid (rdR_blk k1)
              have HBin := Lib.hid (HBi.out.trans (b1.mono HBi.out.size))
              clear HBi
              have HBi := HBin
              clear HBin
              have HNXn := Lib.hid (HNX.out.below b1)
              clear HNX
              have HNX := HNXn
              clear HNXn
              have K5n := Lib.hid (K5.out.below b1 K5.out.lt)
              clear K5
              have K5 := K5n
              clear K5n
              have K9n := Lib.hid (K9.out.below b1 K9.out.lt)
              clear K9
              have K9 := K9n
              clear K9n
              clear k1 s9 b1 HP1
              have HZ := Lib.hid HBi.out.size
              go_wp2_with (refine app_Y (o := ⟨some 34, _, _, _, _, _⟩) 60 70 21 72 (.agg (rxC rx0)) Try.underlying60 info_rtE rfl (by decide) rfl (.tmp 31) (.tmp 33) rfl _ _ _ _ rfl HNX.out HZ.out ⟨P1, 0, none⟩ 1 1 (fun _ => rxC y) rfl HRN.out (recs_rx (fun _ => y)) (by have := HNL.out; unfold maxLen; omega) (by have := HNL.out; omega) ?_; intro va wb ho9 hg9 hk9; refine Hid.out ?_)
              refine Lib.hid ?_
              have HBn := Lib.hid (HBi.out.trans (below_grown hg9 HZ.out hk9))
              clear HBi
              have HBi := HBn
              clear HBn
              have HNn : Hid (OwnR wb w6.heap.size 70 21 va (N ++ [y]).length (rxB (N ++ [y]))) := Lib.hid (own_rx ho9)
              have K9n := Lib.hid (blk_grN K9.out hg9 (fun k e => by have h1 := HNE.out k e; have h2 := HNK9.out; omega))
              clear K9
              have K9 := K9n
              clear K9n
              clear ho9 hg9 hk9 HRN HZ
              clear HNX
              have HNX := HNn
              clear HNn
              clear K5
              have HNL2 : Hid ((N ++ [y]).length ≤ 700) := Lib.hid (by rw [List.length_append, List.length_singleton]; have := HNL.out; omega)
              go_wp2_with (refine wpList_ld (op := ⟨some 36, _, _, _, _, _⟩) (by rfl) 70 (.tmp 9) rfl NK9 (0) rfl (rxC x) _ K9.out.all Try.underlying70 rfl info_rt ?_; refine Hid.out ?_)
              refine Lib.hid ?_
              obtain ⟨P1, hP1⟩ : ∃ N, wb.heap.size = N := ⟨_, rfl⟩
              have HP1 := Lib.hid hP1
              clear hP1
              go_wp2_with (refine wpList_bs (op := ⟨some 37, _, _, _, _, _⟩) rfl 70 (rxC x) (bs_rt _ _ _ rfl x rfl) P1 HP1.out ?_; intro wa k1 b1 s9; refine Hid.out ?_)
              refine Lib.hid ?_
              have HRN : Hid (RdR wa (some ⟨P1, 0, none⟩) 1 21 (fun _ => rxC x)) := Lib.hid (rdR_blk k1)
              have HBin := Lib.hid (HBi.out.trans (b1.mono HBi.out.size))
              clear HBi
              have HBi := HBin
              clear HBin
              have HNXn := Lib.hid (HNX.out.below b1)
              clear HNX
              have HNX := HNXn
              clear HNXn
              have K9n := Lib.hid (K9.out.below b1 K9.out.lt)
              clear K9
              have K9 := K9n
              clear K9n
              clear k1 s9 b1 HP1
              have HZ := Lib.hid HBi.out.size
              go_wp2_with (refine app_Y (o := ⟨some 38, _, _, _, _, _⟩) 60 70 21 72 (.agg (rxC rx0)) Try.underlying60 info_rtE rfl (by decide) rfl (.tmp 35) (.tmp 37) rfl _ _ _ _ rfl HNX.out HZ.out ⟨P1, 0, none⟩ 1 1 (fun _ => rxC x) rfl HRN.out (recs_rx (fun _ => x)) (by have := HNL2.out; unfold maxLen; omega) (by have := HNL2.out; omega) ?_; intro vc wd ho9 hg9 hk9; refine Hid.out ?_)
              refine Lib.hid ?_
              have HBn := Lib.hid (HBi.out.trans (below_grown hg9 HZ.out hk9))
              clear HBi
              have HBi := HBn
              clear HBn
              have HNn : Hid (OwnR wd w6.heap.size 70 21 vc (N ++ [y] ++ [x]).length (rxB (N ++ [y] ++ [x]))) := Lib.hid (own_rx ho9)
              clear ho9 hg9 hk9 HRN HZ
              clear HNX
              have HNX := HNn
              clear HNn
              go_wp2_with fail
              go_roundw
              case rel => exact ⟨j + 1, true, _, HJI.out, rfl, by go_num, Lib.hid (by rw [← HX.out]; exact HON.out.hit HJO.out (by rw [HX.out]; exact of_decide_eq_true HQB.out)), HNX, HBi⟩
              case measure => have := HJI.out; simp only [intOf]; omega
        · obtain rfl : i = j := by omega
          have HOF : Hid (OrN y O O.length b N) := Lib.hid (by rw [HOL.out]; exact HON.out)
          have HNL : Hid (N.length ≤ 600) := Lib.hid (by have := HON.out.len; have := HOL.out; have := HIN.out; have := HN.out; omega)
          obtain ⟨wj, hwj⟩ : ∃ x : World, x = wr := ⟨_, rfl⟩
          subst hwj
          have HWW : Hid (w.heap.size ≤ w6.heap.size) := Lib.hid HB.out.size
          have K5n := Lib.hid (K5.out.below HBi.out K5.out.lt)
          clear K5
          have K5 := K5n
          clear K5n
          cases b with
          | true =>
            have HBn := Lib.hid (HB.out.trans (HBi.out.mono HB.out.size))
            go_wp2_with fail
            go_roundw
            case rel => exact ⟨i + 1, HIN.out, by go_num, Lib.hid (by have h9 := HNX.out.mono HWW.out; have e : ordL X (i + 1) = insR y O := (by rw [← HOE.out, ← HY.out]; rfl); have l : (insR y O).length = i + 1 := (by rw [(insR_perm _ _).length_eq, List.length_cons, HOL.out]); rw [e, ← l]; rw [← HOF.out.full]; exact h9), HBn⟩
            case measure => have := HIN.out; simp only [intOf]; omega
          | false =>
            go_wp2_with (refine wpList_ld (op := ⟨some 43, _, _, _, _, _⟩) (by rfl) 70 (.tmp 5) rfl NK5 (0) rfl (rxC y) _ K5.out.all Try.underlying70 rfl info_rt ?_; refine Hid.out ?_)
            refine Lib.hid ?_
            obtain ⟨P1, hP1⟩ : ∃ N, wj.heap.size = N := ⟨_, rfl⟩
            have HP1 := Lib.hid hP1
            clear hP1
            go_wp2_with (refine wpList_bs (op := ⟨some 44, _, _, _, _, _⟩) rfl 70 (rxC y) (bs_rt _ _ _ rfl y rfl) P1 HP1.out ?_; intro wa k1 b1 s9; refine Hid.out ?_)
            refine Lib.hid ?_
            have HRN : Hid (RdR wa (some ⟨P1, 0, none⟩) 1 21 (fun _ => rxC y)) := Lib.hid (rdR_blk k1)
            have HBin := Lib.hid (HBi.out.trans (b1.mono HBi.out.size))
            clear HBi
            have HBi := HBin
            clear HBin
            have HNXn := Lib.hid (HNX.out.below b1)
            clear HNX
            have HNX := HNXn
            clear HNXn
            have K5n := Lib.hid (K5.out.below b1 K5.out.lt)
            clear K5
            have K5 := K5n
            clear K5n
            clear k1 s9 b1 HP1
            have HZ := Lib.hid HBi.out.size
            go_wp2_with (refine app_Y (o := ⟨some 45, _, _, _, _, _⟩) 60 70 21 72 (.agg (rxC rx0)) Try.underlying60 info_rtE rfl (by decide) rfl (.tmp 42) (.tmp 44) rfl _ _ _ _ rfl HNX.out HZ.out ⟨P1, 0, none⟩ 1 1 (fun _ => rxC y) rfl HRN.out (recs_rx (fun _ => y)) (by have := HNL.out; unfold maxLen; omega) (by have := HNL.out; omega) ?_; intro va wb ho9 hg9 hk9; refine Hid.out ?_)
            refine Lib.hid ?_
            have HBn := Lib.hid (HBi.out.trans (below_grown hg9 HZ.out hk9))
            clear HBi
            have HBi := HBn
            clear HBn
            have HNn : Hid (OwnR wb w6.heap.size 70 21 va (N ++ [y]).length (rxB (N ++ [y]))) := Lib.hid (own_rx ho9)
            clear ho9 hg9 hk9 HRN HZ
            clear HNX
            have HNX := HNn
            clear HNn
            have HBn := Lib.hid (HB.out.trans (HBi.out.mono HB.out.size))
            go_wp2_with fail
            go_roundw
            case rel => exact ⟨i + 1, HIN.out, by go_num, Lib.hid (by have h9 := HNX.out.mono HWW.out; have e : ordL X (i + 1) = insR y O := (by rw [← HOE.out, ← HY.out]; rfl); have l : (insR y O).length = i + 1 := (by rw [(insR_perm _ _).length_eq, List.length_cons, HOL.out]); rw [e, ← l]; rw [← HOF.out.last]; exact h9), HBn⟩
            case measure => have := HIN.out; simp only [intOf]; omega
    · obtain rfl : n = i := by omega
      go_wp2_with fail
      exact bodyPost_ret (v := _) (by simp [results, Try.f38, go_sem]; try rfl) rfl ⟨HB.out, _, rfl, HO.out⟩
end Go.Proofs.Ytjnbemopfhinbaa
