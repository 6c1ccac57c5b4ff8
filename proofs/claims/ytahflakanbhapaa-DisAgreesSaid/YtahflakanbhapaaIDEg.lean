/- The document's Edges. Each theorem states its conditions. -/
import Derived.Test.YtahflakanbhapaaIRank
namespace Go.Proofs.Ytahflakanbhapaa
open Go.RowKit
set_option linter.unusedVariables false

def setR (E : Nat → Array Value) (t : Nat) (C : Array Value) : Nat → Array Value := fun j => if j = t then C else E j
def zeroR (E : Nat → Array Value) (m : Nat) : Nat → Array Value := fun j => if j < m then E j else egC z0
theorem recs_set {E : Nat → Array Value} (h : Recs 8 E) (t : Nat) (z : Nat → Int) : Recs 8 (setR E t (egC z)) := by
  intro j; unfold setR; split
  · exact ⟨rfl, egC_ones z⟩
  · exact h j
/-- a record of the call's own is written -/
theorem own_set {w w' : World} {base g m cap : Nat} {e : TypeId} {E : Nat → Array Value} (hE : Recs 8 E) (h : OwnR w base e 8 (.slice (some ⟨g, 0, none⟩) m cap) m E) (t : Nat) (ht : t < m) (z : Nat → Int)
    {cur : Array Value} (hg : w.heap[g]? = some (.cells cur e (0, 0))) (hs : w'.heap[g]? = some (.cells (putMany cur (t * 8) (egC z).toList) e (0, 0))) :
    OwnR w' base e 8 (.slice (some ⟨g, 0, none⟩) m cap) m (setR E t (egC z)) := by
  have hC := recs_set hE t z
  refine ⟨by rw [cellsR_len hC], ?_⟩
  rcases h.2 with ⟨h0, _⟩ | ⟨g', cap', cur', hv, hb, hc, h1, h2, h3, h4⟩
  · cases h0
  cases hv
  rw [hg] at hc
  cases hc
  have h38 : cur.size = cap * 8 := h3
  have hsz : ∀ (vs : List Value) (o : Nat) (c : Array Value), (putMany c o vs).size = c.size := by
    intro vs
    induction vs with
    | nil => intro o c; rfl
    | cons v r ih => intro o c; show (putMany (c.setIfInBounds o v) (o + 1) r).size = _; rw [ih]; simp
  have hget : ∀ (vs : List Value) (o : Nat) (c : Array Value) (i : Nat), o + vs.length ≤ c.size → (putMany c o vs)[i]? = if o ≤ i ∧ i < o + vs.length then vs[i - o]? else c[i]? := by
    intro vs
    induction vs with
    | nil => intro o c i _; rw [if_neg (by simp only [List.length_nil]; omega)]; rfl
    | cons v r ih =>
      intro o c i hl
      show (putMany (c.setIfInBounds o v) (o + 1) r)[i]? = _
      rw [ih (o + 1) _ i (by rw [Array.size_setIfInBounds]; rw [List.length_cons] at hl; omega)]
      by_cases h1 : o + 1 ≤ i ∧ i < o + 1 + r.length
      · rw [if_pos h1, if_pos (by simp; omega), show i - o = (i - (o + 1)) + 1 by omega, List.getElem?_cons_succ]
      · rw [if_neg h1]
        by_cases h2 : i = o
        · subst h2
          rw [if_pos (by simp), Nat.sub_self, List.getElem?_cons_zero, Array.getElem?_setIfInBounds, if_pos rfl, if_pos (by simp at hl; omega)]
        · rw [if_neg (by simp at *; omega), Array.getElem?_setIfInBounds, if_neg (fun e => h2 e.symm)]
  have hz8 : (egC z).toList.length = 8 := rfl
  refine .inr ⟨g, cap, _, rfl, hb, hs, h1, h2, by rw [hsz]; exact h3, ?_⟩
  apply List.ext_getElem?
  intro i
  have ht8 : t * 8 + 8 ≤ cap * 8 := by
    have := Nat.mul_le_mul_right 8 (show t + 1 ≤ cap by omega)
    rwa [Nat.succ_mul] at this
  have hm8 : m * 8 ≤ cap * 8 := Nat.mul_le_mul_right 8 h1
  rcases Nat.lt_or_ge i (m * 8) with h | h
  · have hq : i / 8 < m := by omega
    have hr : i % 8 < 8 := Nat.mod_lt _ (by decide)
    have e9 := cellsR_at hC m (i / 8) (i % 8) hq hr
    rw [show i / 8 * 8 + i % 8 = i by omega] at e9
    rw [e9, List.getElem?_take_of_lt h, Array.getElem?_toList, hget _ _ _ _ (by rw [hz8]; omega), hz8]
    unfold setR
    by_cases hi : i / 8 = t
    · rw [if_pos hi, if_pos (by omega), show i - t * 8 = i % 8 by omega, Array.getElem?_toList]
    · rw [if_neg hi, if_neg (by omega)]
      have e8 := cellsR_at hE m (i / 8) (i % 8) hq hr
      rw [show i / 8 * 8 + i % 8 = i by omega] at e8
      rw [← e8, ← h4, List.getElem?_take_of_lt h, Array.getElem?_toList]
  · rw [List.getElem?_take_eq_none (by omega), List.getElem?_eq_none (by rw [cellsR_len hC]; omega)]
section
variable {L : Nat → Mb} {hOk : ∀ j, MbOk (L j)}
theorem lone_next {n i m : Nat} (h : Lone L n i m) (hk : (L m).up = true → m ≠ i → numZ (L m).s 0 6 ≠ numZ (L i).s 0 6) : Lone L n i (m + 1) := by
  intro j hj ju jn
  by_cases e : j = m
  · subst e; exact hk ju jn
  · exact h j (by omega) ju jn
theorem rk_up {k : Nat} {a : Int} (h : (L k).up = true) : rkB (upl L hOk (k + 1)) a = rkB (upl L hOk k) a + (if decide (numZ (L k).s 0 6 < a) then 1 else 0) := by
  rw [upl_succ, if_pos h]
  unfold rkB
  rw [List.countP_append]
  simp only [List.countP_cons, List.countP_nil, Nat.zero_add]
  rfl
theorem rk_down {k : Nat} {a : Int} (h : (L k).up = false) : rkB (upl L hOk (k + 1)) a = rkB (upl L hOk k) a := by
  rw [upl_succ, if_neg (by rw [h]; simp)]
theorem rk_le (l : List By) (a : Int) : rkB l a ≤ l.length := List.countP_le_length
theorem placed_down {n k m : Nat} {E : Nat → Array Value} (h : Placed L hOk n k m E) (hd : (L k).up = false) : Placed L hOk n (k + 1) m E := by
  refine ⟨fun i hi iu => ?_, fun t ht => ?_⟩
  · by_cases e : i = k
    · subst e; rw [hd] at iu; cases iu
    · exact h.1 i (by omega) iu
  · obtain ⟨i, h1, h2⟩ := h.2 t ht
    exact ⟨i, by omega, h2⟩
theorem placed_up {n k m m' r : Nat} {E : Nat → Array Value} (h : Placed L hOk n k m E) (hu : (L k).up = true) (hr : rkM L hOk n k = r) (hm : m' = m ∧ r < m ∨ m' = r + 1 ∧ m ≤ r) (hn : NoDup L n (k + 1)) (hkn : k < n) :
    Placed L hOk n (k + 1) m' (setR (zeroR E m) r (egC (L k).s)) := by
  have hrk : ∀ i, i < k → (L i).up = true → rkM L hOk n i ≠ r := by
    intro i hi iu e
    -- ranks of unlike names are unlike
    have hne : numZ (L i).s 0 6 ≠ numZ (L k).s 0 6 := hn k (by omega) hu i (by omega) iu (by omega)
    have hmi : nm L hOk i ∈ upl L hOk n := (upl_mem L hOk n _).2 ⟨i, by omega, iu, rfl⟩
    have hmk : nm L hOk k ∈ upl L hOk n := (upl_mem L hOk n _).2 ⟨k, hkn, hu, rfl⟩
    have key : ∀ (l : List By) (x : By) (a b : Int), x ∈ l → nmB x = a → a < b → rkB l a < rkB l b := by
      intro l x a b hx hxa hab
      unfold rkB
      induction l with
      | nil => cases hx
      | cons y r ih =>
        rw [List.countP_cons, List.countP_cons]
        have mono : r.countP (fun y => decide (nmB y < a)) ≤ r.countP (fun y => decide (nmB y < b)) := List.countP_mono_left (fun z _ hz => decide_eq_true (by have := of_decide_eq_true hz; omega))
        rcases List.mem_cons.1 hx with rfl | hx
        · have e1 : decide (nmB x < a) = false := decide_eq_false (by omega)
          have e2 : decide (nmB x < b) = true := decide_eq_true (by omega)
          rw [e1, e2]
          simp
          omega
        · have := ih hx
          by_cases h1 : nmB y < a
          · rw [decide_eq_true h1, decide_eq_true (show nmB y < b by omega)]; simp; exact this
          · rw [decide_eq_false h1]
            simp only [Bool.false_eq_true, if_false]
            split <;> omega
    rw [← hr] at e
    unfold rkM at e
    rcases Int.lt_trichotomy (numZ (L i).s 0 6) (numZ (L k).s 0 6) with hl | hl | hl
    · have := key _ _ _ _ hmi rfl hl
      have h8 : nmB (nm L hOk i) = numZ (L i).s 0 6 := rfl
      rw [h8] at this
      omega
    · exact hne hl
    · have := key _ _ _ _ hmk rfl hl
      have h8 : nmB (nm L hOk k) = numZ (L k).s 0 6 := rfl
      rw [h8] at this
      omega
  refine ⟨fun i hi iu => ?_, fun t ht => ?_⟩
  · by_cases e : i = k
    · subst e
      rw [hr]
      refine ⟨by omega, ?_⟩
      unfold setR; rw [if_pos rfl]
    · obtain ⟨h1, h2⟩ := h.1 i (by omega) iu
      refine ⟨by omega, ?_⟩
      unfold setR zeroR
      rw [if_neg (hrk i (by omega) iu), if_pos h1]
      exact h2
  · rcases Nat.lt_or_ge t m with hl | hl
    · obtain ⟨i, h1, h2⟩ := h.2 t hl
      exact ⟨i, by omega, h2⟩
    · exact ⟨k, by omega, hu, by omega⟩
end
/-- what the document's Edges answers -/
def DegP (L : Nat → Mb) (hOk : ∀ j, MbOk (L j)) (n : Nat) (w : World) (e : Ending) (w' : World) : Prop :=
  ∃ v r k, e = .returned (.tuple #[v, .int .i64 r]) ∧ chkM L n k ∧ ((k ≠ 0 ∧ r = k ∧ v = .slice none 0 0) ∨ (k = 0 ∧ ((Dup L n ∧ r = 3 ∧ v = .slice none 0 0) ∨ (NoDup L n n ∧ r = 0 ∧ ∃ m E, Recs 8 E ∧ Placed L hOk n n m E ∧ OwnR w' w.heap.size 58 8 v m E)))) ∧ Below w.heap.size w w'
theorem build_zero (W : World) (o : Oper) (e : Operand → Value) (ho : o.op = .build 58 #[]) : (execOp e o).run Try.prog W = .ok (.value (.agg (egC z0))) W := by
  unfold execOp
  simp only [ho]
  kernel_rfl
theorem recs_zero {E : Nat → Array Value} (h : Recs 8 E) (m : Nat) : Recs 8 (zeroR E m) := by
  intro j; unfold zeroR; split
  · exact h j
  · exact ⟨rfl, egC_ones _⟩
theorem zero_next (E : Nat → Array Value) (m d : Nat) : ∀ j, j < m + d + 1 → catR (zeroR E m) (m + d) (fun _ => egC z0) j = zeroR E m j := by
  intro j hj
  unfold catR
  split
  · rfl
  · unfold zeroR; rw [if_neg (by omega)]
theorem zero_same (E : Nat → Array Value) (m : Nat) : ∀ j, j < m → E j = zeroR E m j := by
  intro j hj; unfold zeroR; rw [if_pos hj]
theorem infoE8 : (Try.prog.info? 58).map (·.size) = some 8 := by kernel_rfl
set_option maxHeartbeats 20000000 in
set_option maxRecDepth 100000 in
theorem docEdges_any (A : Option Addr) (n c : Nat) (L : Nat → Mb) (w : World) (hR : RdR w A n 14 (mbA L)) (hOk : ∀ j, MbOk (L j)) (hn : n * 14 ≤ 140737488351232) :
    Calls Try.prog 12 #[.slice A n c] w (DegP L hOk n w) := by
  have HRR := Lib.hid hR
  have hml : maxLen = 9223372036854775807 := rfl
  have HML := Lib.hid hml
  clear hml
  go_enter Try.func12, Try.ntmps12
  go_wp2_with fail
  refine (refCheck_any A n c L w hR (by omega)).mono ?_
  rintro e wa ⟨r, rfl, hr, hb⟩
  have HC := Lib.hid hr
  have HB := Lib.hid hb
  clear hR hb
  by_cases h0 : r = 0
  rotate_left
  · have hq : (r != 0) = true := by simp [h0]
    have H0 := Lib.hid h0
    clear h0
    go_wp2_with fail
    go_ret2
    exact ⟨_, r, r, rfl, HC.out, .inl ⟨H0.out, rfl, rfl⟩, HB.out⟩
  subst h0
  have hn64 : n ≤ 64 := by
    rcases hr with ⟨_, h⟩ | ⟨_, ⟨_, h⟩ | ⟨h, _⟩⟩
    · omega
    · omega
    · exact h
  clear hr
  go_wp2_with fail
  go_loopw [5, 18] (fun s t wr => ∃ (k m : Nat) (E : Nat → Array Value), k ≤ n ∧ m ≤ 65 ∧ t = .int .i64 k ∧ Hid (OwnR wr w.heap.size 58 8 s m E) ∧ Hid (Recs 8 E) ∧ Hid (Placed L hOk n k m E) ∧ Hid (NoDup L n k) ∧ Hid (Below w.heap.size w wr)) (fun _ t _ => n - (intOf t).toNat)
  case atStart => exact ⟨0, 0, egA [], by omega, by omega, rfl, Lib.hid (OwnR.nil _ _ _ _ _), Lib.hid (recs_eg []), Lib.hid ⟨fun i hi => absurd hi (by omega), fun t ht => absurd ht (by omega)⟩, Lib.hid (fun i hi => absurd hi (by omega)), HB⟩
  case round =>
    clear HB
    obtain ⟨k, m, E, hk, hm64, rfl, HO, HE, HP, HN, HW⟩ := hrel
    by_cases hlt : k < n
    rotate_left
    · obtain rfl : k = n := by omega
      go_wp2_with fail
      go_ret2
      exact ⟨_, 0, 0, rfl, HC.out, .inr ⟨rfl, .inr ⟨HN.out, rfl, m, E, HE.out, HP.out, HO.out⟩⟩, HW.out⟩
    have hki : (k : Int) < (n : Int) := by omega
    obtain ⟨b, off, rfl, hrow⟩ := HRR.out.row (by omega)
    have HRow := Lib.hid hrow
    obtain ⟨mm, hmm⟩ : ∃ m, L k = m := ⟨_, rfl⟩
    have HMk := Lib.hid hmm
    have HOm : Hid (MbOk mm) := Lib.hid (hmm ▸ hOk k)
    clear hrow hmm
    obtain ⟨wo, rfl⟩ : ∃ wo, wo = wr := ⟨_, rfl⟩
    have HX := Lib.hid (Below.refl wo.heap.size wo)
    have h1 : Hid (wo.rangeAt b (off + k * 14) (mbC mm).toList) := Lib.hid (by have h9 := rangeAt_below (HRow.out.2 k hlt) HW.out HRow.out.1; unfold mbA at h9; rw [HMk.out] at h9; exact h9)
    go_wp2_with (refine wpList_ld (op := ⟨some 22, _, _, _, _, _⟩) (by rfl) 39 (.tmp 21) rfl b (off + k * 14) rfl (mbC mm) _ h1.out Try.underlying39 rfl info_mbR ?_; refine Hid.out ?_)
    refine Lib.hid ?_
    clear h1
    obtain ⟨N1, hN1⟩ : ∃ N, wo.heap.size = N := ⟨_, rfl⟩
    have HN1 := Lib.hid hN1
    clear hN1
    go_wp2_with (refine wpList_new (op := ⟨some 7, _, _, _, _, _⟩) rfl 39 rfl (mbC mb0) zero_mbR N1 HN1.out ?_; intro w1 k1 b1 s1; refine Hid.out ?_)
    refine Lib.hid ?_
    have K7 := Lib.hid k1
    clear k1
    have le_HW_N1 : w.heap.size ≤ N1 := by rw [← HN1.out]; exact HW.out.size
    have le_HX_N1 : wo.heap.size ≤ N1 := by rw [← HN1.out]; exact HX.out.size
    have HWn := Lib.hid (HW.out.trans (b1.mono HW.out.size))
    clear HW
    have HW := HWn
    clear HWn
    have HXn := Lib.hid (HX.out.trans (b1.mono HX.out.size))
    clear HX
    have HX := HXn
    clear HXn
    clear b1 HN1
    go_wp2_with (refine wpList_st rfl 39 (.tmp 7) (.tmp 22) rfl N1 0 rfl (.agg (mbC mm)) (mbC mm) rfl rfl info_mbR (mbC_one _) K7.out (Nat.le_of_ble_eq_true rfl) (C' := mbC mm) (by kernel_rfl) ?_; intro w2 q1; refine Hid.out ?_)
    refine Lib.hid ?_
    have HWn := Lib.hid (HW.out.trans (q1.2.1 _ (by omega)))
    clear HW
    have HW := HWn
    clear HWn
    have HXn := Lib.hid (HX.out.trans (q1.2.1 _ (by omega)))
    clear HX
    have HX := HXn
    clear HXn
    have K7n : Hid (Blk 39 w2 N1 (mbC mm)) := Lib.hid q1.1
    clear K7
    have K7 := K7n
    clear K7n q1
    obtain ⟨ms, mk, mp, mu⟩ := mm
    cases mu
    · skip
      have c1 : w2.cell? ⟨N1, 13, none⟩ = some (.bool false) := (K7.out.cell 13).trans rfl
      have HO9 := Lib.hid (HO.out.below HX.out)
      go_wp2_with fail
      go_roundw
      case rel => exact ⟨k + 1, m, E, by omega, hm64, by go_num, HO9, HE, Lib.hid (placed_down HP.out (by rw [HMk.out])), Lib.hid (fun i hi iu => by
          by_cases e : i = k
          · subst e; rw [HMk.out] at iu; cases iu
          · exact HN.out i (by omega) iu), HW⟩
      case measure => simp only [intOf]; omega
    · skip
      have c1 : w2.cell? ⟨N1, 13, none⟩ = some (.bool true) := (K7.out.cell 13).trans rfl
      obtain ⟨aa, haa⟩ : ∃ x, numZ ms 0 6 = x := ⟨_, rfl⟩
      have HAA := Lib.hid haa
      clear haa
      have hms : byte6 ms := HOm.out.1
      have HMS := Lib.hid hms
      clear hms
      go_wp2_with fail
      clear c1
      go_loopw [8, 28] (fun s t wq => ∃ j : Nat, j ≤ n ∧ s = .int .i64 (rkB (upl L hOk j) aa : Int) ∧ t = .int .i64 j ∧ Hid (Lone L n k j) ∧ Hid (Blk 39 wq N1 (mbC (⟨ms, mk, mp, true⟩ : Mb))) ∧ Hid (Below w.heap.size w wq) ∧ Hid (Below wo.heap.size wo wq)) (fun _ t _ => n - (intOf t).toNat)
      case atStart => exact ⟨0, by omega, rfl, rfl, Lib.hid (fun j hj => absurd hj (by omega)), K7, HW, HX⟩
      case round =>
        clear K7 HW HX
        obtain ⟨j, hj, rfl, rfl, HL, K7, HW, HX⟩ := hrel
        by_cases hjt : j < n
        rotate_left
        · skip
          obtain rfl : j = n := by omega
          obtain ⟨R, hR⟩ : ∃ R, rkB (upl L hOk j) aa = R := ⟨_, rfl⟩
          have hRl : R ≤ 64 := by rw [← hR]; have := rk_le (upl L hOk j) aa; have := upl_len L hOk j; omega
          have HRk : Hid (rkM L hOk j k = R) := Lib.hid (by unfold rkM; rw [HMk.out, ← hR]; show rkB _ (numZ ms 0 6) = _; rw [HAA.out])
          have HN2 : Hid (NoDup L j (k + 1)) := Lib.hid (fun i hi iu => by
            by_cases e : i = k
            · subst e; exact HL.out
            · exact HN.out i (by omega) iu)
          rw [hR]
          clear hR
          have HO2 : Hid (OwnR wr w.heap.size 58 8 u5 (m + 0) (zeroR E m)) := Lib.hid (OwnR.congr (HO.out.below HX.out) (zero_same E m))
          go_wp2_with fail
          go_loopw [5] (fun s wq => ∃ d : Nat, m + d ≤ max m (R + 1) ∧ Hid (OwnR wq w.heap.size 58 8 s (m + d) (zeroR E m)) ∧ Hid (Blk 39 wq N1 (mbC (⟨ms, mk, mp, true⟩ : Mb))) ∧ Hid (Below w.heap.size w wq)) (fun s _ => R + 1 - lenV s)
          case atStart => exact ⟨0, by omega, HO2, K7, HW⟩
          case round =>
            clear HO2 K7 HW HX
            obtain ⟨d, hd, HO2, K7, HW⟩ := hrel
            by_cases hle : m + d ≤ R
            · obtain ⟨A2, c2, rfl, hc2, hm2, _, _⟩ := HO2.out.shape (recs_zero HE.out m) (by decide)
              rw [HML.out] at hm2
              obtain ⟨M, hM⟩ : ∃ M, m + d = M := ⟨_, rfl⟩
              have HM := Lib.hid hM
              rw [hM] at HO2 hc2 hle hd ⊢
              clear hM
              have gle : (M : Int) ≤ (R : Int) := by omega
              have HX2 := Lib.hid (Below.refl wr.heap.size wr)
              go_wp2_with (refine wpList_v (op := ⟨some 66, _, _, _, _, _⟩) rfl (.agg (egC z0)) (build_zero _ _ _ rfl) ?_; refine Hid.out ?_)
              refine Lib.hid ?_
              obtain ⟨N81, hN81⟩ : ∃ N, wr.heap.size = N := ⟨_, rfl⟩
              have HN81 := Lib.hid hN81
              clear hN81
              go_wp2_with (refine wpList_bs (op := ⟨some 67, _, _, _, _, _⟩) rfl 58 (egC z0) (bs_ed _ _ _ rfl z0 rfl) N81 HN81.out ?_; intro w81 k1 b1 s1; refine Hid.out ?_)
              refine Lib.hid ?_
              have K67 := Lib.hid k1
              clear k1
              have lt_N1_N81 : N1 < N81 := by rw [← HN81.out]; exact K7.out.lt
              have le_HW_N81 : w.heap.size ≤ N81 := by rw [← HN81.out]; exact HW.out.size
              have le_HX2_N81 : wr.heap.size ≤ N81 := by rw [← HN81.out]; exact HX2.out.size
              have K7n := Lib.hid (K7.out.below b1 K7.out.lt)
              clear K7
              have K7 := K7n
              clear K7n
              have HWn := Lib.hid (HW.out.trans (b1.mono HW.out.size))
              clear HW
              have HW := HWn
              clear HWn
              have HX2n := Lib.hid (HX2.out.trans (b1.mono HX2.out.size))
              clear HX2
              have HX2 := HX2n
              clear HX2n
              clear b1 HN81
              have HO5 := Lib.hid (HO2.out.below HX2.out)
              have HRD : Hid (RdR w81 (some ⟨N81, 0, none⟩) 1 8 (fun _ => egC z0)) := Lib.hid (rdR_blk K67.out)
              go_wp2_with (at_builtin; refine app_X 31 58 8 12 _ Try.underlying31 infoA_ed rfl (by decide) rfl (.tmp 65) (.tmp 67) rfl w _ M (zeroR E m) rfl HO5.out HW.out ⟨N81, 0, none⟩ 1 1 (fun _ => egC z0) rfl HRD.out (fun _ => ⟨rfl, egC_ones _⟩) (by rw [HML.out]; omega) (by omega) ?_; intro v9 w9 ho9 hb9 hk9 hs9; refine Hid.out ?_)
              refine Lib.hid ?_
              have HO9 : Hid (OwnR w9 w.heap.size 58 8 v9 (m + (d + 1)) (zeroR E m)) := Lib.hid (by
                rw [show m + (d + 1) = M + 1 by have := HM.out; omega]
                refine OwnR.congr ho9 (fun j hj => ?_)
                rw [← HM.out] at hj ⊢
                exact zero_next E m d j hj)
              have hk7 := hk9 N1 (K7.out.lt) (by
                intro e9
                rcases HO2.out.2 with ⟨h0, _⟩ | ⟨g', cap', cur', hv, _, hcc, _⟩
                · cases h0; cases e9
                · cases hv
                  cases e9
                  have h7 := K7.out
                  have h8 := HX2.out.block _ (Array.getElem?_eq_some_iff.1 hcc).1
                  unfold Blk at h7
                  rw [h8, hcc] at h7
                  cases h7)
              have K79 : Hid (Blk 39 w9 N1 (mbC (⟨ms, mk, mp, true⟩ : Mb))) := Lib.hid (hk7.trans K7.out)
              have HW9 := Lib.hid hb9
              obtain ⟨A9, c9, rfl, _⟩ := HO9.out.shape (recs_zero HE.out m) (by decide)
              clear ho9 hb9 hk9 hs9 HO5 HRD hk7
              go_wp2_with fail
              go_roundw
              case rel => exact ⟨d + 1, by have := HM.out; omega, HO9, K79, HW9⟩
              case measure => show R + 1 - (m + (d + 1)) < R + 1 - M; have := HM.out; omega
            have hgt : R < m + d := by omega
            have hRM : (R : Int) < ((m + d : Nat) : Int) := by omega
            have HD : Hid (m + d = m ∧ R < m ∨ m + d = R + 1 ∧ m ≤ R) := Lib.hid (by omega)
            obtain ⟨M, hM⟩ : ∃ M, m + d = M := ⟨_, rfl⟩
            rw [hM] at HO2 hd hgt hRM HD hle
            have hM65 : M ≤ 65 := by omega
            have HOo := HO2.out
            rcases HOo.2 with ⟨rfl, hx⟩ | ⟨g, cap, cur, rfl, hbase, hg, h1, h2, h3, h4⟩
            · exfalso
              have := cellsR_len (recs_zero HE.out m) M
              rw [hx] at this
              simp at this
              omega
            have gle : ¬ (M : Int) ≤ (R : Int) := by omega
            have HG := Lib.hid hg
            have hfit : R * 8 + 8 ≤ cur.size := by
              have h38 : cur.size = cap * 8 := h3
              have := Nat.mul_le_mul_right 8 (show R + 1 ≤ cap by omega)
              rw [Nat.succ_mul] at this
              omega
            have hcapi : cap ≤ 9223372036854775807 := by rw [HML.out] at h2; exact h2
            have hMc : (M : Int) ≤ (cap : Int) := by omega
            have hbg : w.heap.size ≤ g := hbase
            clear hg h1 h2 h3 h4 hbase HOo hM
            go_wp2_with (refine wpList_ld (op := ⟨some 72, _, _, _, _, _⟩) (by rfl) 37 (.tmp 71) rfl N1 0 rfl (syC ms) _ K7.out.mbs Try.underlying37 rfl info_sys ?_; refine Hid.out ?_)
            refine Lib.hid ?_
            go_wp2_with (refine wpList_v (op := ⟨some 73, _, _, _, _, _⟩) rfl (.agg (ndC ms)) (build_nd _ _ _ rfl ms rfl) ?_; refine Hid.out ?_)
            refine Lib.hid ?_
            go_wp2_with (refine wpList_v (op := ⟨some 74, _, _, _, _, _⟩) rfl (.agg (egC ms)) (build_eg _ _ _ rfl ms rfl) ?_; refine Hid.out ?_)
            refine Lib.hid ?_
            go_wp2_with (refine wpList_st rfl 58 (.tmp 75) (.tmp 74) rfl g (R * 8) rfl (.agg (egC ms)) (egC ms) rfl rfl infoE8 (egC_one _) HG.out hfit (C' := putMany cur (R * 8) (egC ms).toList) rfl ?_; intro wf q1; refine Hid.out ?_)
            refine Lib.hid ?_
            have HOf : Hid (OwnR wf w.heap.size 58 8 (.slice (some ⟨g, 0, none⟩) M cap) M (setR (zeroR E m) R (egC ms))) := Lib.hid (own_set (recs_zero HE.out m) HO2.out R hgt ms HG.out q1.1)
            have HWf := Lib.hid (HW.out.trans (q1.2.1 _ hbg))
            clear q1
            have HPf : Hid (Placed L hOk j (k + 1) M (setR (zeroR E m) R (egC ms))) := Lib.hid (by
              have h9 := placed_up (m' := M) HP.out (by rw [HMk.out]) HRk.out HD.out HN2.out hlt
              rw [HMk.out] at h9
              exact h9)
            go_wp2_with fail
            go_roundw
            case rel => exact ⟨k + 1, M, _, by omega, by omega, by go_num, HOf, Lib.hid (recs_set (recs_zero HE.out m) R ms), HPf, HN2, HWf⟩
            case measure => simp only [intOf]; omega
        have hji : (j : Int) < (n : Int) := by omega
        obtain ⟨o, ho⟩ : ∃ m, L j = m := ⟨_, rfl⟩
        have HMo := Lib.hid ho
        have HOo : Hid (MbOk o) := Lib.hid (ho ▸ hOk j)
        have h1 : Hid (wr.rangeAt b (off + j * 14) (mbC o).toList) := Lib.hid (by have h9 := rangeAt_below (HRow.out.2 j hjt) HW.out HRow.out.1; unfold mbA at h9; rw [HMo.out] at h9; exact h9)
        have hrl : (rkB (upl L hOk j) aa) ≤ 64 := by have := rk_le (upl L hOk j) aa; have := upl_len L hOk j; omega
        clear ho
        go_wp2_with (refine wpList_ld (op := ⟨some 32, _, _, _, _, _⟩) (by rfl) 39 (.tmp 31) rfl b (off + j * 14) rfl (mbC o) _ h1.out Try.underlying39 rfl info_mbR ?_; refine Hid.out ?_)
        refine Lib.hid ?_
        clear h1
        obtain ⟨N31, hN31⟩ : ∃ N, wr.heap.size = N := ⟨_, rfl⟩
        have HN31 := Lib.hid hN31
        clear hN31
        go_wp2_with (refine wpList_new (op := ⟨some 10, _, _, _, _, _⟩) rfl 39 rfl (mbC mb0) zero_mbR N31 HN31.out ?_; intro w31 k1 b1 s1; refine Hid.out ?_)
        refine Lib.hid ?_
        have K10 := Lib.hid k1
        clear k1
        have lt_N1_N31 : N1 < N31 := by rw [← HN31.out]; exact K7.out.lt
        have le_HW_N31 : w.heap.size ≤ N31 := by rw [← HN31.out]; exact HW.out.size
        have le_HX_N31 : wo.heap.size ≤ N31 := by rw [← HN31.out]; exact HX.out.size
        have K7n := Lib.hid (K7.out.below b1 K7.out.lt)
        clear K7
        have K7 := K7n
        clear K7n
        have HWn := Lib.hid (HW.out.trans (b1.mono HW.out.size))
        clear HW
        have HW := HWn
        clear HWn
        have HXn := Lib.hid (HX.out.trans (b1.mono HX.out.size))
        clear HX
        have HX := HXn
        clear HXn
        clear b1 HN31
        go_wp2_with (refine wpList_st rfl 39 (.tmp 10) (.tmp 32) rfl N31 0 rfl (.agg (mbC o)) (mbC o) rfl rfl info_mbR (mbC_one _) K10.out (Nat.le_of_ble_eq_true rfl) (C' := mbC o) (by kernel_rfl) ?_; intro w32 q1; refine Hid.out ?_)
        refine Lib.hid ?_
        have K7n := Lib.hid (K7.out.far q1 (by omega))
        clear K7
        have K7 := K7n
        clear K7n
        have HWn := Lib.hid (HW.out.trans (q1.2.1 _ (by omega)))
        clear HW
        have HW := HWn
        clear HWn
        have HXn := Lib.hid (HX.out.trans (q1.2.1 _ (by omega)))
        clear HX
        have HX := HXn
        clear HXn
        have K10n : Hid (Blk 39 w32 N31 (mbC o)) := Lib.hid q1.1
        clear K10
        have K10 := K10n
        clear K10n q1
        obtain ⟨os, ok, op, ou⟩ := o
        cases ou
        · skip
          have c1 : w32.cell? ⟨N31, 13, none⟩ = some (.bool false) := (K10.out.cell 13).trans rfl
          have HRn : Hid (rkB (upl L hOk (j + 1)) aa = rkB (upl L hOk j) aa) := Lib.hid (rk_down (by rw [HMo.out]))
          have HLn : Hid (Lone L n k (j + 1)) := Lib.hid (lone_next HL.out (fun ju _ => by rw [HMo.out] at ju; cases ju))
          obtain ⟨R, hR⟩ : ∃ R, rkB (upl L hOk j) aa = R := ⟨_, rfl⟩
          rw [hR] at HRn hrl ⊢
          clear hR
          go_wp2_with fail
          clear c1
          refine wp_region_held_drew (S := fun w' => Blk 39 w' N1 (mbC (⟨ms, mk, mp, true⟩ : Mb)) ∧ Blk 39 w' N31 (mbC ⟨os, ok, op, false⟩) ∧ Below w.heap.size w w' ∧ Below wo.heap.size wo w') (by kernel_rfl) ⟨K7.out, K10.out, HW.out.drew, HX.out.drew⟩ (fun hS => ?_)
          generalize hW33 : w32.drew = W33 at hS ⊢
          clear hW33
          clear K7
          clear K10
          clear HW
          clear HX
          have K7 := Lib.hid hS.1
          have K10 := Lib.hid hS.2.1
          have HW := Lib.hid hS.2.2.1
          have HX := Lib.hid hS.2.2.2
          refine takeY (i := 0) (some 47) (v := .pointer (some ⟨N31, 13, none⟩)) rfl rfl (by kernel_rfl) (by kernel_rfl) (by kernel_rfl) (fun _ _ _ h => h) (by rfl) (fun w' hS => by go_simp) hS ?_
          simp only [Act.put, List.setIfInBounds_toArray, List.set_cons_zero, List.set_cons_succ]
          refine takeY (i := 1) (some 48) (v := .bool false) rfl rfl (by kernel_rfl) (by kernel_rfl) (by kernel_rfl) (fun _ _ _ h => h) (by rfl) (fun w' hS => by (have c9 : w'.cell? ⟨N31, 13, none⟩ = some (.bool false) := (hS.2.1.cell 13).trans rfl; clear hS; go_simp)) hS ?_
          simp only [Act.put, List.setIfInBounds_toArray, List.set_cons_zero, List.set_cons_succ]
          refine takeY (i := 2) (some 49) (v := .bool false) rfl rfl (by kernel_rfl) (by kernel_rfl) (by kernel_rfl) (fun _ _ _ h => h) (by rfl) (fun w' hS => by go_simp) hS ?_
          simp only [Act.put, List.setIfInBounds_toArray, List.set_cons_zero, List.set_cons_succ]
          refine takeN (i := 3) (some 50) rfl rfl (by kernel_rfl) (by kernel_rfl) (by kernel_rfl) (fun _ _ _ h => h) (by rfl) hS ?_
          simp only [Act.put, List.setIfInBounds_toArray, List.set_cons_zero, List.set_cons_succ]
          refine takeN (i := 4) (some 51) rfl rfl (by kernel_rfl) (by kernel_rfl) (by kernel_rfl) (fun _ _ _ h => h) (by rfl) hS ?_
          simp only [Act.put, List.setIfInBounds_toArray, List.set_cons_zero, List.set_cons_succ]
          refine takeN (i := 5) (some 52) rfl rfl (by kernel_rfl) (by kernel_rfl) (by kernel_rfl) (fun _ _ _ h => h) (by rfl) hS ?_
          simp only [Act.put, List.setIfInBounds_toArray, List.set_cons_zero, List.set_cons_succ]
          refine takeN (i := 6) (some 53) rfl rfl (by kernel_rfl) (by kernel_rfl) (by kernel_rfl) (fun _ _ _ h => h) (by rfl) hS ?_
          simp only [Act.put, List.setIfInBounds_toArray, List.set_cons_zero, List.set_cons_succ]
          refine takeN (i := 7) (some 54) rfl rfl (by kernel_rfl) (by kernel_rfl) (by kernel_rfl) (fun _ _ _ h => h) (by rfl) hS ?_
          simp only [Act.put, List.setIfInBounds_toArray, List.set_cons_zero, List.set_cons_succ]
          refine takeN (i := 8) (some 55) rfl rfl (by kernel_rfl) (by kernel_rfl) (by kernel_rfl) (fun _ _ _ h => h) (by rfl) hS ?_
          simp only [Act.put, List.setIfInBounds_toArray, List.set_cons_zero, List.set_cons_succ]
          refine takeN (i := 9) (some 56) rfl rfl (by kernel_rfl) (by kernel_rfl) (by kernel_rfl) (fun _ _ _ h => h) (by rfl) hS ?_
          simp only [Act.put, List.setIfInBounds_toArray, List.set_cons_zero, List.set_cons_succ]
          refine takeY (i := 10) (some 57) (v := .bool false) rfl rfl (by kernel_rfl) (by kernel_rfl) (by kernel_rfl) (fun _ _ _ h => h) (by rfl) (fun w' hS => by go_simp) hS ?_
          simp only [Act.put, List.setIfInBounds_toArray, List.set_cons_zero, List.set_cons_succ]
          clear hS
          refine wpAnyH_done (by kernel_rfl) ?_ _
          go_wp2_with fail
          go_roundw
          case rel => exact ⟨j + 1, by omega, by rw [HRn.out], by go_num, HLn, K7, HW, HX⟩
          case measure => simp only [intOf]; omega
        · skip
          have c1 : w32.cell? ⟨N31, 13, none⟩ = some (.bool true) := (K10.out.cell 13).trans rfl
          have hos : byte6 os := HOo.out.1
          have HOS := Lib.hid hos
          clear hos
          obtain ⟨B, hB⟩ : ∃ B, decide (numZ os 0 6 < aa) = B := ⟨_, rfl⟩
          have HRn : Hid (rkB (upl L hOk (j + 1)) aa = rkB (upl L hOk j) aa + (if B then 1 else 0)) := Lib.hid (by rw [rk_up (by rw [HMo.out]), HMo.out, ← hB])
          have HBB := Lib.hid hB
          clear hB
          obtain ⟨R, hR⟩ : ∃ R, rkB (upl L hOk j) aa = R := ⟨_, rfl⟩
          rw [hR] at HRn hrl ⊢
          clear hR
          by_cases hjk : j = k
          · skip
            have HLn : Hid (Lone L n k (j + 1)) := Lib.hid (lone_next HL.out (fun _ h => (h hjk).elim))
            have HJK := Lib.hid hjk
            have hjki : (j : Int) = (k : Int) := by omega
            have hnq : ((j : Int) != (k : Int)) = false := by rw [hjki]; simp
            clear hjk hjki
            go_wp2_with fail
            clear c1 hnq
            refine wp_region_held_drew (S := fun w' => Blk 39 w' N1 (mbC (⟨ms, mk, mp, true⟩ : Mb)) ∧ Blk 39 w' N31 (mbC (⟨os, ok, op, true⟩ : Mb)) ∧ Below w.heap.size w w' ∧ Below wo.heap.size wo w') (by kernel_rfl) ⟨K7.out, K10.out, HW.out.drew, HX.out.drew⟩ (fun hS => ?_)
            generalize hW33 : w32.drew = W33 at hS ⊢
            clear hW33
            clear K7
            clear K10
            clear HW
            clear HX
            have K7 := Lib.hid hS.1
            have K10 := Lib.hid hS.2.1
            have HW := Lib.hid hS.2.2.1
            have HX := Lib.hid hS.2.2.2
            refine takeY (i := 0) (some 47) (v := .pointer (some ⟨N31, 13, none⟩)) rfl rfl (by kernel_rfl) (by kernel_rfl) (by kernel_rfl) (fun _ _ _ h => h) (by rfl) (fun w' hS => by go_simp) hS ?_
            simp only [Act.put, List.setIfInBounds_toArray, List.set_cons_zero, List.set_cons_succ]
            refine takeY (i := 1) (some 48) (v := .bool true) rfl rfl (by kernel_rfl) (by kernel_rfl) (by kernel_rfl) (fun _ _ _ h => h) (by rfl) (fun w' hS => by (have c9 : w'.cell? ⟨N31, 13, none⟩ = some (.bool true) := (hS.2.1.cell 13).trans rfl; clear hS; go_simp)) hS ?_
            simp only [Act.put, List.setIfInBounds_toArray, List.set_cons_zero, List.set_cons_succ]
            refine takeY (i := 2) (some 49) (v := .bool true) rfl rfl (by kernel_rfl) (by kernel_rfl) (by kernel_rfl) (fun _ _ _ h => h) (by rfl) (fun w' hS => by go_simp) hS ?_
            simp only [Act.put, List.setIfInBounds_toArray, List.set_cons_zero, List.set_cons_succ]
            refine takeY (i := 3) (some 50) (v := .pointer (some ⟨N31, 0, none⟩)) rfl rfl (by kernel_rfl) (by kernel_rfl) (by kernel_rfl) (fun _ _ _ h => h) (by rfl) (fun w' hS => by go_simp) hS ?_
            simp only [Act.put, List.setIfInBounds_toArray, List.set_cons_zero, List.set_cons_succ]
            refine takeL (i := 4) (some 51) 37 (.tmp 50) N31 0 (syC os) _ rfl rfl (by kernel_rfl) (by kernel_rfl) (by kernel_rfl) (fun _ _ _ h => h) (by rfl) rfl rfl (fun w' hS => hS.2.1.mbs) Try.underlying37 rfl info_sys hS ?_
            simp only [Act.put, List.setIfInBounds_toArray, List.set_cons_zero, List.set_cons_succ]
            refine takeY (i := 6) (some 53) (v := .pointer (some ⟨N1, 0, none⟩)) rfl rfl (by kernel_rfl) (by kernel_rfl) (by kernel_rfl) (fun _ _ _ h => h) (by rfl) (fun w' hS => by go_simp) hS ?_
            simp only [Act.put, List.setIfInBounds_toArray, List.set_cons_zero, List.set_cons_succ]
            refine takeL (i := 7) (some 54) 37 (.tmp 53) N1 0 (syC ms) _ rfl rfl (by kernel_rfl) (by kernel_rfl) (by kernel_rfl) (fun _ _ _ h => h) (by rfl) rfl rfl (fun w' hS => hS.1.mbs) Try.underlying37 rfl info_sys hS ?_
            simp only [Act.put, List.setIfInBounds_toArray, List.set_cons_zero, List.set_cons_succ]
            refine takeC (i := 5) (some 52) 21 #[.agg (syC os)] (.int .u64 (numZ os 0 6)) (R := fun w' => Below W33.heap.size W33 w') rfl rfl (by kernel_rfl) (by rfl) (by go_simp) (number_any os W33 HOS.out) (fun w' hb => ⟨hS.1.below hb hS.1.lt, hS.2.1.below hb hS.2.1.lt, hS.2.2.1.trans (hb.mono hS.2.2.1.size), hS.2.2.2.trans (hb.mono hS.2.2.2.size)⟩) (fun W34 hb1 hS2 => ?_)
            simp only [Act.put, List.setIfInBounds_toArray, List.set_cons_zero, List.set_cons_succ]
            clear K7
            clear K10
            clear HW
            clear HX
            clear hS hb1
            have hS := hS2
            clear hS2
            have K7 := Lib.hid hS.1
            have K10 := Lib.hid hS.2.1
            have HW := Lib.hid hS.2.2.1
            have HX := Lib.hid hS.2.2.2
            refine takeC (i := 8) (some 55) 21 #[.agg (syC ms)] (.int .u64 aa) (R := fun w' => Below W34.heap.size W34 w') rfl rfl (by kernel_rfl) (by rfl) (by go_simp) (by have h9 := number_any ms W34 HMS.out; rw [HAA.out] at h9; exact h9) (fun w' hb => ⟨hS.1.below hb hS.1.lt, hS.2.1.below hb hS.2.1.lt, hS.2.2.1.trans (hb.mono hS.2.2.1.size), hS.2.2.2.trans (hb.mono hS.2.2.2.size)⟩) (fun W35 hb1 hS2 => ?_)
            simp only [Act.put, List.setIfInBounds_toArray, List.set_cons_zero, List.set_cons_succ]
            clear K7
            clear K10
            clear HW
            clear HX
            clear hS hb1
            have hS := hS2
            clear hS2
            have K7 := Lib.hid hS.1
            have K10 := Lib.hid hS.2.1
            have HW := Lib.hid hS.2.2.1
            have HX := Lib.hid hS.2.2.2
            refine takeY (i := 9) (some 56) (v := .bool B) rfl rfl (by kernel_rfl) (by kernel_rfl) (by kernel_rfl) (fun _ _ _ h => h) (by rfl) (fun w' hS => by (clear hS; have e9 := HBB.out; go_simp; first | done | exact e9 | simp [e9])) hS ?_
            simp only [Act.put, List.setIfInBounds_toArray, List.set_cons_zero, List.set_cons_succ]
            refine takeY (i := 10) (some 57) (v := .bool B) rfl rfl (by kernel_rfl) (by kernel_rfl) (by kernel_rfl) (fun _ _ _ h => h) (by rfl) (fun w' hS => by go_simp) hS ?_
            simp only [Act.put, List.setIfInBounds_toArray, List.set_cons_zero, List.set_cons_succ]
            clear hS
            refine wpAnyH_done (by kernel_rfl) ?_ _
            cases B
            · have HRn : Hid (rkB (upl L hOk (j + 1)) aa = R) := Lib.hid (by rw [HRn.out]; rfl)
              go_wp2_with fail
              go_roundw
              case rel => exact ⟨j + 1, by omega, by rw [HRn.out], by go_num, HLn, K7, HW, HX⟩
              case measure => simp only [intOf]; omega
            · have HRn : Hid (rkB (upl L hOk (j + 1)) aa = R + 1) := Lib.hid (by rw [HRn.out]; rfl)
              go_wp2_with fail
              go_roundw
              case rel => exact ⟨j + 1, by omega, by rw [HRn.out]; go_num, by go_num, HLn, K7, HW, HX⟩
              case measure => simp only [intOf]; omega
          · skip
            have hnq : ((j : Int) != (k : Int)) = true := by rw [bne_iff_ne]; omega
            obtain ⟨q, hq⟩ : ∃ q, eq6 os ms = q := ⟨_, rfl⟩
            have HQ := Lib.hid hq
            have HJK := Lib.hid hjk
            clear hq hjk
            go_wp2_with (refine wpList_ld (op := ⟨some 42, _, _, _, _, _⟩) (by rfl) 37 (.tmp 41) rfl N31 0 rfl (syC os) _ K10.out.mbs Try.underlying37 rfl info_sys ?_; refine Hid.out ?_)
            refine Lib.hid ?_
            go_wp2_with (refine wpList_ld (op := ⟨some 44, _, _, _, _, _⟩) (by rfl) 37 (.tmp 43) rfl N1 0 rfl (syC ms) _ K7.out.mbs Try.underlying37 rfl info_sys ?_; refine Hid.out ?_)
            refine Lib.hid ?_
            go_wp2_with (refine wpList_gv (op := ⟨some 45, _, _, _, _, _⟩) (.bool q) (by rfl) (eql6 _ _ _ _ 37 _ rfl rfl guard_sys Try.underlying37 os ms HOS.out HMS.out rfl rfl q HQ.out _) ?_; refine Hid.out ?_)
            refine Lib.hid ?_
            clear hnq
            cases q
            · skip
              have HLn : Hid (Lone L n k (j + 1)) := Lib.hid (lone_next HL.out (fun _ _ e => by
                have h9 := HQ.out
                rw [HMo.out, HMk.out] at e
                unfold eq6 at h9
                rw [show numZ os 0 6 = numZ ms 0 6 from e] at h9
                simp at h9))
              go_wp2_with fail
              clear c1
              refine wp_region_held_drew (S := fun w' => Blk 39 w' N1 (mbC (⟨ms, mk, mp, true⟩ : Mb)) ∧ Blk 39 w' N31 (mbC (⟨os, ok, op, true⟩ : Mb)) ∧ Below w.heap.size w w' ∧ Below wo.heap.size wo w') (by kernel_rfl) ⟨K7.out, K10.out, HW.out.drew, HX.out.drew⟩ (fun hS => ?_)
              generalize hW33 : w32.drew = W33 at hS ⊢
              clear hW33
              clear K7
              clear K10
              clear HW
              clear HX
              have K7 := Lib.hid hS.1
              have K10 := Lib.hid hS.2.1
              have HW := Lib.hid hS.2.2.1
              have HX := Lib.hid hS.2.2.2
              refine takeY (i := 0) (some 47) (v := .pointer (some ⟨N31, 13, none⟩)) rfl rfl (by kernel_rfl) (by kernel_rfl) (by kernel_rfl) (fun _ _ _ h => h) (by rfl) (fun w' hS => by go_simp) hS ?_
              simp only [Act.put, List.setIfInBounds_toArray, List.set_cons_zero, List.set_cons_succ]
              refine takeY (i := 1) (some 48) (v := .bool true) rfl rfl (by kernel_rfl) (by kernel_rfl) (by kernel_rfl) (fun _ _ _ h => h) (by rfl) (fun w' hS => by (have c9 : w'.cell? ⟨N31, 13, none⟩ = some (.bool true) := (hS.2.1.cell 13).trans rfl; clear hS; go_simp)) hS ?_
              simp only [Act.put, List.setIfInBounds_toArray, List.set_cons_zero, List.set_cons_succ]
              refine takeY (i := 2) (some 49) (v := .bool true) rfl rfl (by kernel_rfl) (by kernel_rfl) (by kernel_rfl) (fun _ _ _ h => h) (by rfl) (fun w' hS => by go_simp) hS ?_
              simp only [Act.put, List.setIfInBounds_toArray, List.set_cons_zero, List.set_cons_succ]
              refine takeY (i := 3) (some 50) (v := .pointer (some ⟨N31, 0, none⟩)) rfl rfl (by kernel_rfl) (by kernel_rfl) (by kernel_rfl) (fun _ _ _ h => h) (by rfl) (fun w' hS => by go_simp) hS ?_
              simp only [Act.put, List.setIfInBounds_toArray, List.set_cons_zero, List.set_cons_succ]
              refine takeL (i := 4) (some 51) 37 (.tmp 50) N31 0 (syC os) _ rfl rfl (by kernel_rfl) (by kernel_rfl) (by kernel_rfl) (fun _ _ _ h => h) (by rfl) rfl rfl (fun w' hS => hS.2.1.mbs) Try.underlying37 rfl info_sys hS ?_
              simp only [Act.put, List.setIfInBounds_toArray, List.set_cons_zero, List.set_cons_succ]
              refine takeY (i := 6) (some 53) (v := .pointer (some ⟨N1, 0, none⟩)) rfl rfl (by kernel_rfl) (by kernel_rfl) (by kernel_rfl) (fun _ _ _ h => h) (by rfl) (fun w' hS => by go_simp) hS ?_
              simp only [Act.put, List.setIfInBounds_toArray, List.set_cons_zero, List.set_cons_succ]
              refine takeL (i := 7) (some 54) 37 (.tmp 53) N1 0 (syC ms) _ rfl rfl (by kernel_rfl) (by kernel_rfl) (by kernel_rfl) (fun _ _ _ h => h) (by rfl) rfl rfl (fun w' hS => hS.1.mbs) Try.underlying37 rfl info_sys hS ?_
              simp only [Act.put, List.setIfInBounds_toArray, List.set_cons_zero, List.set_cons_succ]
              refine takeC (i := 5) (some 52) 21 #[.agg (syC os)] (.int .u64 (numZ os 0 6)) (R := fun w' => Below W33.heap.size W33 w') rfl rfl (by kernel_rfl) (by rfl) (by go_simp) (number_any os W33 HOS.out) (fun w' hb => ⟨hS.1.below hb hS.1.lt, hS.2.1.below hb hS.2.1.lt, hS.2.2.1.trans (hb.mono hS.2.2.1.size), hS.2.2.2.trans (hb.mono hS.2.2.2.size)⟩) (fun W34 hb1 hS2 => ?_)
              simp only [Act.put, List.setIfInBounds_toArray, List.set_cons_zero, List.set_cons_succ]
              clear K7
              clear K10
              clear HW
              clear HX
              clear hS hb1
              have hS := hS2
              clear hS2
              have K7 := Lib.hid hS.1
              have K10 := Lib.hid hS.2.1
              have HW := Lib.hid hS.2.2.1
              have HX := Lib.hid hS.2.2.2
              refine takeC (i := 8) (some 55) 21 #[.agg (syC ms)] (.int .u64 aa) (R := fun w' => Below W34.heap.size W34 w') rfl rfl (by kernel_rfl) (by rfl) (by go_simp) (by have h9 := number_any ms W34 HMS.out; rw [HAA.out] at h9; exact h9) (fun w' hb => ⟨hS.1.below hb hS.1.lt, hS.2.1.below hb hS.2.1.lt, hS.2.2.1.trans (hb.mono hS.2.2.1.size), hS.2.2.2.trans (hb.mono hS.2.2.2.size)⟩) (fun W35 hb1 hS2 => ?_)
              simp only [Act.put, List.setIfInBounds_toArray, List.set_cons_zero, List.set_cons_succ]
              clear K7
              clear K10
              clear HW
              clear HX
              clear hS hb1
              have hS := hS2
              clear hS2
              have K7 := Lib.hid hS.1
              have K10 := Lib.hid hS.2.1
              have HW := Lib.hid hS.2.2.1
              have HX := Lib.hid hS.2.2.2
              refine takeY (i := 9) (some 56) (v := .bool B) rfl rfl (by kernel_rfl) (by kernel_rfl) (by kernel_rfl) (fun _ _ _ h => h) (by rfl) (fun w' hS => by (clear hS; have e9 := HBB.out; go_simp; first | done | exact e9 | simp [e9])) hS ?_
              simp only [Act.put, List.setIfInBounds_toArray, List.set_cons_zero, List.set_cons_succ]
              refine takeY (i := 10) (some 57) (v := .bool B) rfl rfl (by kernel_rfl) (by kernel_rfl) (by kernel_rfl) (fun _ _ _ h => h) (by rfl) (fun w' hS => by go_simp) hS ?_
              simp only [Act.put, List.setIfInBounds_toArray, List.set_cons_zero, List.set_cons_succ]
              clear hS
              refine wpAnyH_done (by kernel_rfl) ?_ _
              cases B
              · have HRn : Hid (rkB (upl L hOk (j + 1)) aa = R) := Lib.hid (by rw [HRn.out]; rfl)
                go_wp2_with fail
                go_roundw
                case rel => exact ⟨j + 1, by omega, by rw [HRn.out], by go_num, HLn, K7, HW, HX⟩
                case measure => simp only [intOf]; omega
              · have HRn : Hid (rkB (upl L hOk (j + 1)) aa = R + 1) := Lib.hid (by rw [HRn.out]; rfl)
                go_wp2_with fail
                go_roundw
                case rel => exact ⟨j + 1, by omega, by rw [HRn.out]; go_num, by go_num, HLn, K7, HW, HX⟩
                case measure => simp only [intOf]; omega
            · skip
              have HF : Hid (Below w.heap.size w w32) := HW
              go_wp2_with fail
              go_ret2
              exact ⟨_, 3, 0, rfl, HC.out, .inr ⟨rfl, .inl ⟨⟨j, k, hjt, hlt, HJK.out, by rw [HMo.out], by rw [HMk.out], by rw [HMo.out, HMk.out]; exact eq_of_beq HQ.out⟩, rfl, rfl⟩⟩, HF.out⟩
end Go.Proofs.Ytahflakanbhapaa
