/- Lists of records that a call appends to; the law's example, and its list in the program's types. Each theorem states its conditions. -/
import Derived.Test.YtahflakanbhapaaIDoc
namespace Go.Proofs.Ytahflakanbhapaa
open Go.RowKit
set_option linter.unusedVariables false

/-- m records of the call's own -/
def OwnR (w : World) (base : Nat) (e : TypeId) (s : Nat) (v : Value) (m : Nat) (C : Nat → Array Value) : Prop := w.ownsRow base e s v m (cellsR C m)
theorem OwnR.below {w w' : World} {base s m : Nat} {e : TypeId} {v : Value} {C : Nat → Array Value} (h : OwnR w base e s v m C) (hb : Below w.heap.size w w') : OwnR w' base e s v m C := ownsRow_below' h hb
theorem OwnR.nil (w : World) (base : Nat) (e : TypeId) (s : Nat) (C : Nat → Array Value) : OwnR w base e s (.slice none 0 0) 0 C := World.ownsRow_nil _ _ _ _
theorem OwnR.shape {w : World} {base s m : Nat} {e : TypeId} {v : Value} {C : Nat → Array Value} (h : OwnR w base e s v m C) (hC : Recs s C) (hs : 0 < s) : ∃ A c, v = .slice A m c ∧ m ≤ c ∧ c ≤ maxLen ∧ (A = none → m = 0 ∧ c = 0) ∧ RdR w A m s C := ownR_shape hC hs h
theorem rdR_blk {w : World} {B s : Nat} {C : Array Value} {t : TypeId} (h : Blk t w B C) : RdR w (some ⟨B, 0, none⟩) 1 s (fun _ => C) := by
  refine .inr ⟨B, 0, rfl, h.lt, fun j hj i u hu => ?_⟩
  obtain rfl : j = 0 := by omega
  rw [Nat.zero_mul, Nat.zero_add, h.cell i]
  simpa using hu
section
variable {ops : Array Oper} {Q : Exit → Act → World → Prop}
/-- a slice of one value is made -/
theorem wpList_bs {rest : List Oper} {op : Oper} {a : Act} {w : World} (hgd : op.guard = none) (t : TypeId) (C : Array Value) (hx : (execOp a.eval op).run Try.prog w = .ok (.value (.slice (some ⟨w.heap.size, 0, none⟩) 1 1)) (w.alloc (.cells C t)))
    (N : Nat) (hN : w.heap.size = N) (h : ∀ w', Blk t w' N C → Below w.heap.size w w' → N + 1 ≤ w'.heap.size → wpList Try.prog ops Q rest (a.put op.dst (.slice (some ⟨N, 0, none⟩) 1 1)) w') : wpList Try.prog ops Q (op :: rest) a w := by
  subst hN
  refine wpList_plain hgd fun K hK => ?_
  unfold Oper.wp
  rw [hx, Oper.upon_value]
  exact hK _ _ (h _ (heap_alloc_new w _) ((Below.refl _ _).alloc (Nat.le_refl _) _) (by simp))
/-- an append of a list of records to a list of the call's own -/
theorem app_X {rest : List Oper} {o : Oper} {a : Act} {w : World} (T E : TypeId) (s bs : Nat) (z : Value) (hT : Try.prog.underlying T = some (.slice E)) (hI : (Try.prog.info? E).map (fun i => (i.zero, i.size, i.bytes)) = some (some z, s, bs)) (hzs : z.cells.size = s) (hs0 : 0 < s)
    (hgd : o.guard = none) (y x : Operand) (ho : o.op = .call { callee := .builtin .append, args := #[y, x], argTypes := #[T, T] })
    (w0 : World) (v : Value) (n : Nat) (C : Nat → Array Value) (hs : a.eval y = v) (hown : OwnR w w0.heap.size E s v n C) (hb : Below w0.heap.size w0 w)
    (ad : Addr) (m c : Nat) (D : Nat → Array Value) (hx : a.eval x = .slice (some ad) m c) (hR : RdR w (some ad) m s D) (hD : Recs s D) (h63 : n + m ≤ maxLen) (hbd : (n + m) * bs ≤ 140737488355328)
    (h : ∀ v' w', OwnR w' w0.heap.size E s v' (n + m) (catR C n D) → Below w0.heap.size w0 w' → (∀ k, k < w.heap.size → v.ownBlock ≠ some k → w'.heap[k]? = w.heap[k]?) → w.heap.size ≤ w'.heap.size → wpList Try.prog ops Q rest (a.put o.dst v') w') :
    wpList Try.prog ops Q (o :: rest) a w := by
  obtain ⟨i0, hi, hz0, hz1, hz2⟩ := info_parts hI
  refine wpList_append_own_at w hgd y x _ ho w0.heap.size E i0 z s bs hT hi hz0 hz1 hz2 hzs hs0 v n _ hs hown ad m c (cellsR D m) hx (cellsR_len hD m) (recs_news hD hs0 hR) (cellsR_one hD m) h63 hbd hb.size ?_
  intro v' w' h2 h3 h4 h5
  rw [cellsR_cat] at h2
  exact h v' w' h2 (hb.grown h3 hb.size (fun k e => (hown.lt k e).1)) (fun k hk hne => h3.block k hk (fun e => hne e.symm)) h3.size
end
theorem bs_mbP (W : World) (o : Oper) (e : Operand → Value) {x : Operand} (ho : o.op = .buildSlice 24 1 #[(0, x)]) (m : Mb) (h : e x = .agg (mbC m)) :
    (execOp e o).run Try.prog W = .ok (.value (.slice (some ⟨W.heap.size, 0, none⟩) 1 1)) (W.alloc (.cells (mbC m) 40)) := by
  unfold execOp
  simp only [ho]
  simp only [List.map_toArray, List.map_cons, List.map_nil, h]
  kernel_rfl
theorem infoA_mbP : (Try.prog.info? 40).map (fun i => (i.zero, i.size, i.bytes)) = some (some (.agg (mbC mb0)), 14, 14) := by kernel_rfl
theorem rd_block (w : World) (t : TypeId) (C : Array Value) (L : Nat → Mb) (n : Nat) (hC : C.toList = cellsR (mbA L) n) : RdR (w.alloc (.cells C t)) (some ⟨w.heap.size, 0, none⟩) n 14 (mbA L) := by
  refine .inr ⟨w.heap.size, 0, rfl, by simp, fun j hj i v hv => ?_⟩
  have hi : i < 14 := by
    rcases Nat.lt_or_ge i 14 with h | h
    · exact h
    · rw [List.getElem?_eq_none (by rw [Array.length_toList]; exact h)] at hv; cases hv
  rw [cell_of_row _ _ _ _ _ _ (heap_alloc_new w (.cells C t)), Nat.zero_add, ← Array.getElem?_toList, hC, cellsR_at (recs_mb L) n j i hj hi, ← Array.getElem?_toList]
  exact hv
/-- the members of the example -/
def exM : Nat → Mb
  | 0 => ⟨z0, fun j => if j = 0 then 1 else 0, 5, true⟩
  | 1 => ⟨z0, fun j => if j = 0 then 2 else 0, 5, true⟩
  | _ => ⟨z0, z0, 9, false⟩
theorem exM_ok : ∀ j, MbOk (exM j) := by
  intro j
  match j with
  | 0 => exact ⟨fun j => ⟨Int.le_refl 0, show (0 : Int) ≤ 255 by decide⟩, fun j => by show (0 : Int) ≤ (if j = 0 then 1 else 0) ∧ (if j = 0 then (1 : Int) else 0) ≤ 255; split <;> decide, by decide, by decide⟩
  | 1 => exact ⟨fun j => ⟨Int.le_refl 0, show (0 : Int) ≤ 255 by decide⟩, fun j => by show (0 : Int) ≤ (if j = 0 then 2 else 0) ∧ (if j = 0 then (2 : Int) else 0) ≤ 255; split <;> decide, by decide, by decide⟩
  | _ + 2 => exact ⟨fun j => ⟨Int.le_refl 0, show (0 : Int) ≤ 255 by decide⟩, fun j => ⟨Int.le_refl 0, show (0 : Int) ≤ 255 by decide⟩, show (0 : Int) ≤ 9 by decide, show (9 : Int) ≤ 255 by decide⟩
theorem exM_best : Best exM 3 1 := by
  refine .inr ⟨1, by omega, rfl, rfl, fun j hj ju => ?_⟩
  rcases (by omega : j = 0 ∨ j = 1 ∨ j = 2) with rfl | rfl | rfl
  · left; decide
  · right; exact ⟨rfl, Nat.le_refl _⟩
  · cases ju
theorem exM_chk {r : Int} (h : chkM exM 3 r) : r = 0 := by
  refine chkM_unique h (.inr ⟨fun j hj => ?_, .inr ⟨by omega, rfl⟩⟩)
  rcases (by omega : j = 0 ∨ j = 1 ∨ j = 2) with rfl | rfl | rfl <;> decide
set_option maxHeartbeats 8000000 in
set_option maxRecDepth 100000 in
theorem awake_any (w : World) :
    Calls Try.prog 7 #[] w fun e w' => e = .returned (.bool true) ∧ Below w.heap.size w w' := by
  go_enter Try.func7, Try.ntmps7
  have HRD := Lib.hid (fun C hC => rd_block w 40 C exM 3 hC)
  have HBA := Lib.hid (fun C => (Below.refl w.heap.size w).alloc (Nat.le_refl _) (.cells C 40))
  go_wp2_with fail
  refine (elect_any (some ⟨w.heap.size, 0, none⟩) 3 3 exM _ (HRD.out _ (by kernel_rfl)) exM_ok (by omega)).mono ?_
  rintro e w2 ⟨i, r, rfl, hc, hq, hb⟩
  obtain rfl := exM_chk hc
  have hi : i = 1 := by
    rcases hq with ⟨h, _⟩ | ⟨_, h⟩
    · exact (h rfl).elim
    · exact best_unique h exM_best
  subst hi
  have HB2 : Hid (Below w.heap.size w w2) := Lib.hid ((HBA.out _).trans (hb.mono (HBA.out _).size))
  clear hc hq hb
  go_wp2_with fail
  go_ret
  exact ⟨rfl, HB2.out⟩
/-- the member that stands behind the list -/
def mb77 : Mb := ⟨z0, z0, 77, false⟩
def fullM (L : Nat → Mb) (n : Nat) : Nat → Array Value := catR (mbA L) n (fun _ => mbC mb77)
theorem recs_full (L : Nat → Mb) (n : Nat) : Recs 14 (fullM L n) := recs_cat (recs_mb L) (fun _ => ⟨rfl, mbC_ones _⟩) n
theorem OwnR.congr {w : World} {base s m : Nat} {e : TypeId} {v : Value} {C C' : Nat → Array Value} (h : OwnR w base e s v m C) (hc : ∀ j, j < m → C j = C' j) : OwnR w base e s v m C' := by
  unfold OwnR at *; rw [← cellsR_congr m hc]; exact h
theorem cat_next (L : Nat → Mb) (k : Nat) : ∀ j, j < k + 1 → catR (mbA L) k (fun _ => mbC (L k)) j = mbA L j := by
  intro j hj
  unfold catR
  split
  · rfl
  · rw [show j = k by omega]; rfl
def OfP (L : Nat → Mb) (n : Nat) (w : World) (e : Ending) (w' : World) : Prop := ∃ v, e = .returned v ∧ OwnR w' w.heap.size 40 14 v (n + 1) (fullM L n) ∧ Below w.heap.size w w'
set_option maxHeartbeats 8000000 in
set_option maxRecDepth 100000 in
theorem of_any (A : Option Addr) (n c : Nat) (L : Nat → Mb) (w : World) (hR : RdR w A n 14 (mbA L)) (hn : n * 14 ≤ 140737488351232) :
    Calls Try.prog 8 #[.slice A n c] w (OfP L n w) := by
  have HR := Lib.hid hR
  clear hR
  have hml : maxLen = 9223372036854775807 := rfl
  have HML := Lib.hid hml
  clear hml
  go_enter Try.func8, Try.ntmps8
  have HB := Lib.hid (Below.refl w.heap.size w)
  go_wp2_with fail
  go_loopw [3, 8] (fun s t wr => ∃ k : Nat, k ≤ n ∧ t = .int .i64 k ∧ Hid (OwnR wr w.heap.size 40 14 s k (mbA L)) ∧ Hid (Below w.heap.size w wr)) (fun _ t _ => n - (intOf t).toNat)
  case atStart => exact ⟨0, by omega, rfl, Lib.hid (OwnR.nil _ _ _ _ _), HB⟩
  case round =>
    clear HB
    obtain ⟨k, hk, rfl, HO, HW⟩ := hrel
    by_cases hlt : k < n
    · obtain ⟨b, off, rfl, hr⟩ := HR.out.row (by omega)
      have HRR := Lib.hid hr
      clear hr
      have hki : (k : Int) < (n : Int) := by omega
      obtain ⟨m, hm⟩ : ∃ m, L k = m := ⟨_, rfl⟩
      have HMk := Lib.hid hm
      clear hm
      have HX := Lib.hid (Below.refl wr.heap.size wr)
      have h1 : Hid (wr.rangeAt b (off + k * 14) (mbC m).toList) := Lib.hid (by have h9 := rangeAt_below (HRR.out.2 k hlt) HW.out HRR.out.1; unfold mbA at h9; rw [HMk.out] at h9; exact h9)
      go_wp2_with (refine wpList_ld (op := ⟨some 11, _, _, _, _, _⟩) (by rfl) 39 (.tmp 10) rfl b (off + k * 14) rfl (mbC m) _ h1.out Try.underlying39 rfl info_mbR ?_; refine Hid.out ?_)
      refine Lib.hid ?_
      clear h1
      obtain ⟨N1, hN1⟩ : ∃ N, wr.heap.size = N := ⟨_, rfl⟩
      have HN1 := Lib.hid hN1
      clear hN1
      go_wp2_with (refine wpList_new (op := ⟨some 5, _, _, _, _, _⟩) rfl 39 rfl (mbC mb0) zero_mbR N1 HN1.out ?_; intro w1 k1 b1 s1; refine Hid.out ?_)
      refine Lib.hid ?_
      have K5 := Lib.hid k1
      clear k1
      have le_HW_N1 : w.heap.size ≤ N1 := by rw [← HN1.out]; exact HW.out.size
      have le_HX_N1 : wr.heap.size ≤ N1 := by rw [← HN1.out]; exact HX.out.size
      have HWn := Lib.hid (HW.out.trans (b1.mono HW.out.size))
      clear HW
      have HW := HWn
      clear HWn
      have HXn := Lib.hid (HX.out.trans (b1.mono HX.out.size))
      clear HX
      have HX := HXn
      clear HXn
      clear b1 HN1
      go_wp2_with (refine wpList_st rfl 39 (.tmp 5) (.tmp 11) rfl N1 0 rfl (.agg (mbC m)) (mbC m) rfl rfl info_mbR (mbC_one _) K5.out (Nat.le_of_ble_eq_true rfl) (C' := mbC m) (by kernel_rfl) ?_; intro w2 q1; refine Hid.out ?_)
      refine Lib.hid ?_
      have HWn := Lib.hid (HW.out.trans (q1.2.1 _ (by omega)))
      clear HW
      have HW := HWn
      clear HWn
      have HXn := Lib.hid (HX.out.trans (q1.2.1 _ (by omega)))
      clear HX
      have HX := HXn
      clear HXn
      have K5n : Hid (Blk 39 w2 N1 (mbC m)) := Lib.hid q1.1
      clear K5
      have K5 := K5n
      clear K5n q1
      go_wp2_with (refine wpList_ld (op := ⟨some 13, _, _, _, _, _⟩) (by rfl) 39 (.tmp 5) rfl N1 0 rfl (mbC m) _ K5.out.all Try.underlying39 rfl info_mbR ?_; refine Hid.out ?_)
      refine Lib.hid ?_
      obtain ⟨N3, hN3⟩ : ∃ N, w2.heap.size = N := ⟨_, rfl⟩
      have HN3 := Lib.hid hN3
      clear hN3
      go_wp2_with (refine wpList_bs (op := ⟨some 14, _, _, _, _, _⟩) rfl 40 (mbC m) (bs_mbP _ _ _ rfl m rfl) N3 HN3.out ?_; intro w3 k1 b1 s1; refine Hid.out ?_)
      refine Lib.hid ?_
      have K14 := Lib.hid k1
      clear k1
      have lt_N1_N3 : N1 < N3 := by rw [← HN3.out]; exact K5.out.lt
      have le_HW_N3 : w.heap.size ≤ N3 := by rw [← HN3.out]; exact HW.out.size
      have le_HX_N3 : wr.heap.size ≤ N3 := by rw [← HN3.out]; exact HX.out.size
      have K5n := Lib.hid (K5.out.below b1 K5.out.lt)
      clear K5
      have K5 := K5n
      clear K5n
      have HWn := Lib.hid (HW.out.trans (b1.mono HW.out.size))
      clear HW
      have HW := HWn
      clear HWn
      have HXn := Lib.hid (HX.out.trans (b1.mono HX.out.size))
      clear HX
      have HX := HXn
      clear HXn
      clear b1 HN3
      have HO5 := Lib.hid (HO.out.below HX.out)
      have HRD : Hid (RdR w3 (some ⟨N3, 0, none⟩) 1 14 (fun _ => mbC m)) := Lib.hid (rdR_blk K14.out)
      go_wp2_with (at_builtin; refine app_X 24 40 14 14 _ Try.underlying24 infoA_mbP rfl (by decide) rfl (.tmp 12) (.tmp 14) rfl w _ k (mbA L) rfl HO5.out HW.out ⟨N3, 0, none⟩ 1 1 (fun _ => mbC m) rfl HRD.out (fun _ => ⟨rfl, mbC_ones _⟩) (by rw [HML.out]; omega) (by omega) ?_; intro v9 w9 ho9 hb9 hk9 hs9; refine Hid.out ?_)
      refine Lib.hid ?_
      have HO9 : Hid (OwnR w9 w.heap.size 40 14 v9 (k + 1) (mbA L)) := Lib.hid (OwnR.congr ho9 (by have := cat_next L k; rw [HMk.out] at this; exact this))
      have HW9 := Lib.hid hb9
      clear ho9 hb9 hk9 hs9 HO5 HRD
      go_wp2_with fail
      go_roundw
      case rel => exact ⟨k + 1, by omega, by go_num, HO9, HW9⟩
      case measure => simp only [intOf]; omega
    · obtain rfl : k = n := by omega
      have HX := Lib.hid (Below.refl wr.heap.size wr)
      obtain ⟨N41, hN41⟩ : ∃ N, wr.heap.size = N := ⟨_, rfl⟩
      have HN41 := Lib.hid hN41
      clear hN41
      go_wp2_with (refine wpList_bs (op := ⟨some 19, _, _, _, _, _⟩) rfl 40 (mbC mb77) (bs_mbP _ _ _ rfl mb77 rfl) N41 HN41.out ?_; intro w41 k1 b1 s1; refine Hid.out ?_)
      refine Lib.hid ?_
      have K19 := Lib.hid k1
      clear k1
      have le_HW_N41 : w.heap.size ≤ N41 := by rw [← HN41.out]; exact HW.out.size
      have le_HX_N41 : wr.heap.size ≤ N41 := by rw [← HN41.out]; exact HX.out.size
      have HWn := Lib.hid (HW.out.trans (b1.mono HW.out.size))
      clear HW
      have HW := HWn
      clear HWn
      have HXn := Lib.hid (HX.out.trans (b1.mono HX.out.size))
      clear HX
      have HX := HXn
      clear HXn
      clear b1 HN41
      have HO5 := Lib.hid (HO.out.below HX.out)
      have HRD : Hid (RdR w41 (some ⟨N41, 0, none⟩) 1 14 (fun _ => mbC mb77)) := Lib.hid (rdR_blk K19.out)
      go_wp2_with (at_builtin; refine app_X 24 40 14 14 _ Try.underlying24 infoA_mbP rfl (by decide) rfl (.tmp 17) (.tmp 19) rfl w _ k (mbA L) rfl HO5.out HW.out ⟨N41, 0, none⟩ 1 1 (fun _ => mbC mb77) rfl HRD.out (fun _ => ⟨rfl, mbC_ones _⟩) (by rw [HML.out]; omega) (by omega) ?_; intro v9 w9 ho9 hb9 hk9 hs9; refine Hid.out ?_)
      refine Lib.hid ?_
      have HO9 : Hid (OwnR w9 w.heap.size 40 14 v9 (k + 1) (fullM L k)) := Lib.hid ho9
      have HW9 := Lib.hid hb9
      clear ho9 hb9 hk9 hs9 HO5 HRD
      go_wp2_with fail
      go_ret
      exact ⟨v9, rfl, HO9.out, HW9.out⟩
end Go.Proofs.Ytahflakanbhapaa
