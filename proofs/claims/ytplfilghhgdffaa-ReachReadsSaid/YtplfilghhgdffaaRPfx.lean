/- reach's reader reads a prefix. Each theorem states its conditions. -/
import Derived.Test.YtplfilghhgdffaaRc
import Derived.Test.YtplfilghhgdffaaPCut
import Derived.Test.YtplfilghhgdffaaListS
import Derived.Laws.CopyOwn
namespace Go.Proofs.Ytplfilghhgdffaa
open Go.RowKit
set_option linter.unusedVariables false

theorem pvC_congr (fam len : Int) (z z' : Nat → Int) (h : ∀ j, j < 16 → z j = z' j) : pvC fam len z = pvC fam len z' := by
  unfold pvC
  simp only [h 0 (by omega), h 1 (by omega), h 2 (by omega), h 3 (by omega), h 4 (by omega), h 5 (by omega), h 6 (by omega), h 7 (by omega), h 8 (by omega), h 9 (by omega), h 10 (by omega), h 11 (by omega), h 12 (by omega), h 13 (by omega), h 14 (by omega), h 15 (by omega)]
/-- the first q bytes from p on; behind them noughts -/
def headZ (z : Nat → Int) (p q : Nat) : Nat → Int := fun j => if j < q then z (p + j) else 0
theorem headZ_bd (z : Nat → Int) (p q : Nat) (h : ∀ j, 0 ≤ z j ∧ z j ≤ 255) : Bytes (headZ z p q) := by
  intro j; unfold headZ; split
  · exact h _
  · exact ⟨Int.le_refl 0, by decide⟩
theorem first_head (z : Nat → Int) (p l : Nat) : ∀ j, j < 16 → firstZ (headZ z p (min (nd l) 16)) l j = firstZ (fun j => z (p + j)) l j := by
  intro j hj
  unfold firstZ headZ nd
  by_cases h1 : 8 * (j + 1) ≤ l
  · rw [if_pos h1, if_pos h1, if_pos (by omega)]
  · rw [if_neg h1, if_neg h1]
    by_cases h2 : l ≤ 8 * j
    · rw [if_pos h2, if_pos h2]
    · rw [if_neg h2, if_neg h2, if_pos (by omega)]
theorem splice_pv (fam len : Int) (z : Nat → Int) (p q : Nat) (hq : q ≤ 16) : (splice (pvC fam len Z0).toList 2 (vals (fun j => z (p + j)) q)).toArray = pvC fam len (headZ z p q) := by
  have hl : (pvC fam len Z0).toList.length = 18 := rfl
  have hv := vals_len (fun j => z (p + j)) q
  have tl : ∀ (A : Array Value) (i : Nat), A.toList[i]? = A[i]? := fun A i => by simp
  apply Array.ext_getElem?
  intro i
  rw [List.getElem?_toArray]
  unfold splice
  by_cases h1 : i < 2
  · rw [List.getElem?_append_left (by rw [List.length_take, hl]; omega), List.getElem?_take, if_pos h1, tl (pvC _ _ _)]
    rcases (by omega : i = 0 ∨ i = 1) with rfl | rfl
    · rfl
    · rfl
  · obtain ⟨k, rfl⟩ := Nat.exists_eq_add_of_le (show 2 ≤ i by omega)
    rw [List.getElem?_append_right (by rw [List.length_take, hl]; omega), List.length_take, hl, show 2 + k - min 2 18 = k by omega]
    by_cases h2 : k < q
    · rw [List.getElem?_append_left (by omega), vals_at _ _ _ h2, pvC_at _ _ _ k (by omega)]
      unfold headZ
      rw [if_pos h2]
    · rw [List.getElem?_append_right (by omega), List.getElem?_drop, hv, show 2 + q + (k - q) = 2 + k by omega, tl (pvC _ _ _)]
      by_cases h3 : k < 16
      · rw [pvC_at _ _ _ k h3, pvC_at _ _ _ k h3]
        unfold headZ
        rw [if_neg h2]
        rfl
      · rw [Array.getElem?_eq_none (by rw [pvC_size]; omega), Array.getElem?_eq_none (by rw [pvC_size]; omega)]
section
variable {ops : Array Oper} {rest : List Oper} {op : Oper} {a : Act} {w : World} {Q : Exit → Act → World → Prop}
/-- an operation that yields a value, behind a guard that lets it -/
theorem step_val {v : Value} (hw : Region.wanted op (yielded ops a.tmps) = true) (hx : (execOp a.eval op).run Try.prog w = .ok (.value v) w)
    (h : wpList Try.prog ops Q rest (a.put op.dst v) w) : wpList Try.prog ops Q (op :: rest) a w :=
  wpList_step fun K hK => by
    rw [if_pos hw]
    unfold Oper.wp
    rw [hx, Oper.upon_value]
    exact hK _ _ h
end
theorem build_head (o : Oper) (e : Operand → Value) (x0 x1 : Operand) (ho : o.op = .build 45 #[(0, x0), (1, x1)]) (fam n : Int) (h0 : e x0 = .int .u8 fam) (h1 : e x1 = .int .i64 n) (W : World) :
    (execOp e o).run Try.prog W = .ok (.value (.agg (pvC fam n Z0))) W := by
  unfold execOp
  simp only [ho]
  simp only [List.map_toArray, List.map_cons, List.map_nil, h0, h1]
  kernel_rfl
/-- the world behind the two variables -/
theorem rprefix_start (W V : World) (R b off n c p : Nat) (fam len : Int) (z : Nat → Int) (h : RS W R b off n c p) (hr : Row8 W b off n z)
    (hg : V.heap[W.heap.size + 1]? = some (.cells (pvC fam len Z0) 45 (0, 0))) (hb : ∀ B, B ≤ W.heap.size + 1 → Below B ((W.alloc (.cells (pvC 0 0 Z0) 45)).alloc (.cells (pvC 0 0 Z0) 45)) V) :
    RS V.drew R b off n c p ∧ Row8 V.drew b off n z ∧ IsPv V.drew (W.heap.size + 1) fam len Z0 ∧ IsPv V.drew W.heap.size 0 0 Z0 ∧ W.grownBy V.drew (some R) ∧ W.heap.size + 2 ≤ V.drew.heap.size := by
  have hb0 : Below W.heap.size W ((W.alloc (.cells (pvC 0 0 Z0) 45)).alloc (.cells (pvC 0 0 Z0) 45)) := ((bself W).alloc (Nat.le_refl _) _).alloc (by simp) _
  have hb1 := hb0.trans (hb W.heap.size (by omega))
  have hs := (Array.getElem?_eq_some_iff.1 hg).1
  refine ⟨h.block (hb1.block R h.lt), hr.below hb1.drew hr.1, hg, ?_, ?_, hs⟩
  · exact ((hb (W.heap.size + 1) (Nat.le_refl _)).block _ (by omega)).trans ((Below.heap_alloc _ _ _ (by simp)).trans (heap_alloc_new W _))
  · exact grown_drew (grown_below (grown_refl W _) hb1 (Nat.le_refl _))
/-- what the reader leaves -/
def RXPost (W : World) (R b off n c p l : Nat) (fam : Int) (z : Nat → Int) (e : Ending) (W' : World) : Prop :=
  ((p + nd l ≤ n ∧ Sized fam l) ∧ e = .returned (.agg (pvC fam l (firstZ (fun j => z (p + j)) l))) ∧ RS W' R b off n c (p + nd l) ∧ W.grownBy W' (some R)) ∨
  (¬ (p + nd l ≤ n ∧ Sized fam l) ∧ e = .panicked [flt] ∧ W.grownBy W' (some R))
theorem results_pv1 {fn : Func} {p : Tmp} (h : fn.results = #[.cell p 45]) (tmps : Array Value) (W : World) (g : Nat) (fam len : Int) (z : Nat → Int)
    (hp : tmps.getD p undef = .pointer (some ⟨g, 0, none⟩)) (hg : IsPv W g fam len z) : (results fn tmps).run Try.prog W = .ok (.agg (pvC fam len z)) W := by
  have h1 := run_loadVar_row (P := Try.prog) W g 45 45 (pvC fam len z) (0, 0) _ hg Try.underlying45 rfl info_pv
  have hp' : (tmps[p]?).getD undef = .pointer (some ⟨g, 0, none⟩) := by simpa using hp
  simp only [results, h]
  simp [hp', asAddr, h1]
set_option maxHeartbeats 4000000 in
set_option maxRecDepth 100000 in
theorem rprefix_any (R b off n c p l : Nat) (fam : Int) (z : Nat → Int) (W : World) (h : RS W R b off n c p) (hr : Row8 W b off n z) (hbR : b ≠ R) (hn : n ≤ c) (hc : c ≤ 9223372036854775807) (hp : p ≤ n) (hl : l ≤ 255) :
    Calls Try.prog 51 #[.pointer (some ⟨R, 0, none⟩), .int .u8 fam, .int .i64 l] W (RXPost W R b off n c p l fam z) := by
  have hRl := h.lt
  have hbl := hr.1
  have hz := hr.2.2
  have HX : Hid (IsPv ((W.alloc (.cells (pvC 0 0 Z0) 45)).alloc (.cells (pvC 0 0 Z0) 45)) (W.heap.size + 1) 0 0 Z0) := Lib.hid (by
    have := heap_alloc_new (W.alloc (.cells (pvC 0 0 Z0) 45)) (.cells (pvC 0 0 Z0) 45)
    rw [World.size_alloc] at this
    exact this)
  have HS := Lib.hid h
  have HRo := Lib.hid hr
  have hall := Lib.hid (all_pv fam (l : Int) Z0)
  clear h hr
  go_enter Try.func51, Try.ntmps51
  go_wp2_with (first
    | (refine step_val (v := .agg (pvC fam (l : Int) Z0)) (by rfl) (build_head _ _ (.tmp 9) (.tmp 10) rfl fam (l : Int) rfl rfl _) ?_)
    | (refine store_blk rfl (.tmp 7) (.tmp 11) (cells := pvC fam (l : Int) Z0) rfl rfl rfl HX.out info_pv rfl hall.out ?_; intro w1 hg1 hb1 ho1; refine Hid.out ?_))
  refine Lib.hid ?_
  have H0 := Lib.hid (rprefix_start W w1 R b off n c p fam (l : Int) z HS.out HRo.out hg1 hb1)
  clear hg1 hb1 ho1 HX hall HS HRo
  go_wp2_with fail
  obtain ⟨f1, f2, f3, f4, f5, f6⟩ := H0.out
  have HN := Lib.hid (needed_any (l : Int) w1.drew (by omega) (by omega))
  refine wp_region_held_drew (S := fun w' => True) (by kernel_rfl) trivial (fun _ => ?_)
  refine takeY (i := 0) (some 12) (v := .pointer (some ⟨W.heap.size + 1, 2, none⟩)) rfl rfl (by kernel_rfl) (by kernel_rfl) (by kernel_rfl) (fun _ _ _ h => h) (by rfl) (fun w' hS => by go_simp) trivial ?_
  simp only [Act.put, List.setIfInBounds_toArray, List.set_cons_zero, List.set_cons_succ]
  refine takeY (i := 1) (some 13) (v := .slice (some ⟨W.heap.size + 1, 2, none⟩) 16 16) rfl rfl (by kernel_rfl) (by kernel_rfl) (by kernel_rfl) (fun _ _ _ h => h) (by rfl) (fun w' hS => by go_simp) trivial ?_
  simp only [Act.put, List.setIfInBounds_toArray, List.set_cons_zero, List.set_cons_succ]
  refine takeY (i := 2) (some 14) (v := .pointer (some ⟨R, 0, none⟩)) rfl rfl (by kernel_rfl) (by kernel_rfl) (by kernel_rfl) (fun _ _ _ h => h) (by rfl) (fun w' hS => by go_simp) trivial ?_
  simp only [Act.put, List.setIfInBounds_toArray, List.set_cons_zero, List.set_cons_succ]
  refine takeY (i := 3) (some 15) (v := .int .i64 l) rfl rfl (by kernel_rfl) (by kernel_rfl) (by kernel_rfl) (fun _ _ _ h => h) (by rfl) (fun w' hS => by go_simp) trivial ?_
  simp only [Act.put, List.setIfInBounds_toArray, List.set_cons_zero, List.set_cons_succ]
  refine takeC (i := 4) (some 16) 30 #[.int .i64 l] (.int .i64 (nd l : Int)) rfl rfl (by kernel_rfl) (by rfl) (by go_simp) (R := fun w' => w1.drew = w') HN.out (fun _ _ => trivial) (fun wx hx _ => ?_)
  subst hx
  simp only [Act.put, List.setIfInBounds_toArray, List.set_cons_zero, List.set_cons_succ]
  have hnd : nd l ≤ 32 := by unfold nd; omega
  refine takeE (i := 5) (some 17) 42 #[.pointer (some ⟨R, 0, none⟩), .int .i64 (nd l : Int)] rfl rfl (by kernel_rfl) (by rfl) (by go_simp) (take_any R b off n c p (nd l) _ f1 hp hn hc (by omega)) (fun _ _ _ => trivial) (fun w' h => by rcases h with ⟨_, a, h, _⟩ | ⟨_, h, _⟩ <;> cases h) (fun v1 w4 h4 _ => ?_) (fun ch w' h => ?_)
  rotate_left
  · rcases h with ⟨_, a, h, _⟩ | ⟨hlt, h, hw⟩
    · cases h
    · injection h with h
      subst h
      subst hw
      exact ends_panicked (P := Try.prog) (fn := Try.f51) rfl (.inr ⟨fun hh => by omega, rfl, f5⟩)
  simp only [Act.put, List.setIfInBounds_toArray, List.set_cons_zero, List.set_cons_succ]
  rcases h4 with ⟨hpn, a, he, ha, hs, hg⟩ | ⟨_, h, _⟩
  rotate_left
  · cases h
  injection he with he
  subst he
  have hR4 : Row8 w4 b off n z := f2.grown hg (fun e => hbR (by injection e))
  have hE4 : IsPv w4 (W.heap.size + 1) fam l Z0 := (hg.block _ (by omega) (fun e => by injection e; omega)).trans f3
  have hX4 : IsPv w4 W.heap.size 0 0 Z0 := (hg.block _ (by omega) (fun e => by injection e; omega)).trans f4
  have hG4 : W.grownBy w4 (some R) := f5.trans hg
  have hs4 : W.heap.size + 2 ≤ w4.heap.size := by have := hg.size; omega
  clear f1 f2 f3 f4 f5 f6 hg H0 HN
  obtain ⟨q, hq⟩ : ∃ q, min (nd l) 16 = q := ⟨_, rfl⟩
  refine wpAnyH_ready (rs := [6]) (by kernel_rfl) (by simp) (AllReadyH.cons rfl (fun K hK => ?_) AllReadyH.nil)
  refine step_copy_splice rfl (.tmp 13) (.tmp 17) 31 31 rfl 5 Try.underlying31 info_u8s (some ⟨W.heap.size + 1, 2, none⟩) (some a) 16 16 (nd l) (c - p) rfl rfl (W.heap.size + 1) 2 (pvC fam l Z0).toList 45 (by have := hE4; unfold IsPv at this; simpa using this) (vals (fun j => z (p + j)) q) (by rw [vals_len]; exact hq.symm) (fun hpos => ⟨rfl, a, rfl, fun j v hj => ?_⟩) (by rw [vals_len]; show 2 + q ≤ 18; omega) (vals_one _ _) (W.heap.size + 1) w4 (Below.refl _ _) (Nat.le_refl _) ?_
  · rw [vals_len] at hpos
    obtain ⟨hj, rfl⟩ := vals_at' _ _ _ _ hj
    rw [ha (by omega), add_none, Nat.add_assoc]
    exact hR4.2.1 (p + j) (by omega)
  intro w5 hc5 hb5
  have hE5 : IsPv w5 (W.heap.size + 1) fam l (headZ z p q) := by
    have := hc5.out
    rw [splice_pv fam l z p q (by omega)] at this
    exact this
  have hX5 : IsPv w5 W.heap.size 0 0 Z0 := (hb5.block _ (by omega)).trans hX4
  have hG5 : W.grownBy w5 (some R) := grown_below hG4 hb5 (by omega)
  have hs5 := hs.block (hb5.block R (by omega))
  have hz5 : W.heap.size + 2 ≤ w5.heap.size := by have := hb5.size; omega
  clear hc5 hb5 hE4 hX4 hG4 hR4 hs hs4 ha
  have HE5 := Lib.hid hE5
  have HX5 := Lib.hid hX5
  have HG5 := Lib.hid hG5
  have HS5 := Lib.hid hs5
  clear hE5 hX5 hG5 hs5
  refine hK.out _ _ trivial (fun _ => ?_)
  refine wpAnyH_done (by kernel_rfl) ?_ _
  have hzq := headZ_bd z p q hz
  by_cases hsz : Sized fam (l : Int)
  · have HC := Lib.hid (fun W => cut_ok fam l l (headZ z p q) W hzq (Nat.le_refl _) hsz)
    go_wp2_with (first | (refine load_pv rfl (.tmp 7) rfl rfl HE5.out ?_))
    refine (HC.out _).mono ?_
    rintro e w6 ⟨rfl, hb6⟩
    have HE6 := Lib.hid (HE5.out.below hb6 (by omega))
    have HX6 := Lib.hid (HX5.out.below hb6 (by omega))
    have HG6 := Lib.hid (grown_below HG5.out hb6 (by omega))
    have HS6 := Lib.hid (HS5.out.block (hb6.block R (by omega)))
    have hz6 : W.heap.size + 2 ≤ w6.heap.size := by have := hb6.size; omega
    have hall := Lib.hid (all_pv fam (l : Int) (firstZ (headZ z p q) l))
    clear hb6 HC
    go_wp2_with (first
      | (refine store_blk rfl (.tmp 7) (.tmp 23) (cells := pvC fam (l : Int) (firstZ (headZ z p q) l)) rfl rfl rfl HE6.out info_pv rfl hall.out ?_; intro w7 hg7 hb7 ho7; refine Hid.out ?_))
    refine Lib.hid ?_
    have HE7 := Lib.hid (show IsPv w7 (W.heap.size + 1) fam l (firstZ (headZ z p q) l) from hg7)
    have HX7 := Lib.hid ((ho7 W.heap.size (by omega)).trans HX6.out)
    have HG7 := Lib.hid (grown_below HG6.out (hb7 W.heap.size (by omega)) (Nat.le_refl _))
    have HS7 := Lib.hid (HS6.out.block (ho7 R (by omega)))
    clear hg7 hb7 ho7
    go_wp2_with (first
      | (refine load_pv rfl (.tmp 7) rfl rfl HE7.out ?_)
      | (refine store_blk rfl (.tmp 6) (.tmp 29) (cells := pvC fam (l : Int) (firstZ (headZ z p q) l)) rfl rfl rfl HX7.out info_pv rfl hall.out ?_; intro w8 hg8 hb8 ho8; refine Hid.out ?_))
    refine Lib.hid ?_
    have HE8 := Lib.hid (show IsPv w8 W.heap.size fam l (firstZ (headZ z p q) l) from hg8)
    have HG8 := Lib.hid (grown_below HG7.out (hb8 W.heap.size (Nat.le_refl _)) (Nat.le_refl _))
    have HS8 := Lib.hid (HS7.out.block (ho8 R (by omega)))
    clear hg8 hb8 ho8 hall
    go_wp2_with fail
    refine bodyPost_ret (results_pv1 rfl _ w8 W.heap.size fam l _ rfl HE8.out) rfl (.inl ⟨⟨hpn, hsz⟩, ?_, HS8.out, HG8.out⟩)
    rw [pvC_congr fam l _ _ (by rw [← hq]; exact first_head z p l)]
  · have HC := Lib.hid (fun W => cut_form fam l l (headZ z p q) W (by omega) (Int.le_refl _) hsz)
    go_wp2_with (first | (refine load_pv rfl (.tmp 7) rfl rfl HE5.out ?_))
    refine (HC.out _).mono ?_
    rintro e w6 ⟨rfl, hb6⟩
    have HE6 := Lib.hid (HE5.out.below hb6 (by omega))
    have HG6 := Lib.hid (grown_below HG5.out hb6 (by omega))
    have hall := Lib.hid (all_pv 0 0 Z0)
    clear hb6 HC
    go_wp2_with (first
      | (refine store_blk rfl (.tmp 7) (.tmp 23) (cells := pvC 0 0 Z0) rfl rfl rfl HE6.out info_pv rfl hall.out ?_; intro w7 hg7 hb7 ho7; refine Hid.out ?_))
    refine Lib.hid ?_
    have HG7 := Lib.hid (grown_below HG6.out (hb7 W.heap.size (by omega)) (Nat.le_refl _))
    clear hg7 hb7 ho7
    go_wp2_with fail
    exact ends_panicked rfl (.inr ⟨fun hh => hsz hh.2, rfl, HG7.out⟩)
end Go.Proofs.Ytplfilghhgdffaa
