/- The document's Expire; the program's copy of areas. Each theorem states its conditions. -/
import Derived.Test.YthmnbhmficdifaaADocA
import Derived.Test.YthmnbhmficdifaaAThm
import Derived.Deep.AppendLies
namespace Go.Proofs.Ythmnbhmficdifaa
open Go.RowKit
set_option linter.unusedVariables false

theorem build_downQ (o : Oper) (e : Operand → Value) (x : Operand) (ho : o.op = .build 28 #[(0, x)]) (h0 : e x = .int .i64 2) (W : World) : (execOp e o).run Try.prog W = .ok (.value (.agg (ajC ajD))) W := by
  unfold execOp
  simp only [ho]
  simp only [List.map_toArray, List.map_cons, List.map_nil, h0]
  kernel_rfl
theorem within_th (n : Int) (b : Bool) (hb : thB n = b) (w : World) : Calls Try.prog 30 #[.int .i64 n, .int .i64 0, .int .i64 1] w fun e w' => e = .returned (.bool b) ∧ w = w' :=
  within_walk n 0 1 _ (by
    rw [← hb]; unfold thB
    by_cases h : 0 ≤ n ∧ n ≤ 1
    · rw [decide_eq_true h]
      rcases (by omega : n = 0 ∨ n = 1) with e | e <;> rw [e] <;> rfl
    · rw [decide_eq_false h]
      have h1 : (n == 1) = false := by simp; omega
      have h2 : (n == 0) = false := by simp; omega
      rw [h1, h2]; rfl) w
set_option maxHeartbeats 8000000 in
set_option maxRecDepth 100000 in
theorem rexpire_any (a : Aj) (now : Int) (w : World) : Calls Try.prog 20 #[.agg (ajC a), .int .i64 now] w fun e w' => e = .returned (.agg (ajC (expR a now))) ∧ Below w.heap.size w w' := by
  have HE : Hid (expR a now = if thB a.st && decide (a.un ≤ now) then ajD else a) := Lib.hid rfl
  obtain ⟨R, hR⟩ : ∃ R, expR a now = R := ⟨_, rfl⟩
  rw [hR] at HE ⊢
  clear hR
  obtain ⟨b, hb⟩ : ∃ b, thB a.st = b := ⟨_, rfl⟩
  have HT := Lib.hid (fun w => within_th a.st b hb w)
  rw [hb] at HE
  clear hb
  go_enter Try.func20, Try.ntmps20
  have HB := Lib.hid (Below.refl w.heap.size w)
  obtain ⟨N1, hN1⟩ : ∃ N, w.heap.size = N := ⟨_, rfl⟩
  have HN1 := Lib.hid hN1
  clear hN1
  go_wp2_with (refine wpList_box (op := ⟨some 2, _, _, _, _, _⟩) rfl 28 (.tmp 0) rfl (ajC a) rfl N1 HN1.out ?_; intro w1 k1 b1 s1; refine Hid.out ?_)
  refine Lib.hid ?_
  have K1 := Lib.hid k1
  clear k1
  have le_HB_N1 : w.heap.size ≤ N1 := by rw [← HN1.out]; exact HB.out.size
  have HBn := Lib.hid (HB.out.trans (b1.mono HB.out.size))
  clear HB
  have HB := HBn
  clear HBn
  clear b1 HN1
  obtain ⟨N2, hN2⟩ : ∃ N, w1.heap.size = N := ⟨_, rfl⟩
  have HN2 := Lib.hid hN2
  clear hN2
  go_wp2_with (refine wpList_new (op := ⟨some 4, _, _, _, _, _⟩) rfl 28 rfl (ajC aj0) zero_ajR N2 HN2.out ?_; intro w2 k1 b1 s1; refine Hid.out ?_)
  refine Lib.hid ?_
  have K2 := Lib.hid k1
  clear k1
  have lt_N1_N2 : N1 < N2 := by rw [← HN2.out]; exact K1.out.lt
  have le_HB_N2 : w.heap.size ≤ N2 := by rw [← HN2.out]; exact HB.out.size
  have K1n := Lib.hid (K1.out.below b1 K1.out.lt)
  clear K1
  have K1 := K1n
  clear K1n
  have HBn := Lib.hid (HB.out.trans (b1.mono HB.out.size))
  clear HB
  have HB := HBn
  clear HBn
  clear b1 HN2
  have c0 : w2.cell? ⟨N1, 0, none⟩ = some (.int .i64 a.st) := (K1.out.cell 0).trans rfl
  have c4 : w2.cell? ⟨N1, 9, none⟩ = some (.int .i64 a.un) := (K1.out.cell 9).trans rfl
  go_wp2_with fail
  refine (HT.out _).mono ?_
  rintro e wx ⟨rfl, rfl⟩
  clear HT c0
  cases b
  · skip
    have HX : Hid (R = a) := Lib.hid HE.out
    clear HE
    clear c4
    go_wp2_with (refine wpList_ld (op := ⟨some 15, _, _, _, _, _⟩) (by rfl) 28 (.tmp 2) rfl N1 0 rfl (ajC a) _ K1.out.all Try.underlying28 rfl info_ajR ?_; refine Hid.out ?_)
    refine Lib.hid ?_
    go_wp2_with (refine wpList_st rfl 28 (.tmp 4) (.tmp 15) rfl N2 0 rfl (.agg (ajC a)) (ajC a) rfl rfl info_ajR (ajC_one _) K2.out (Nat.le_of_ble_eq_true rfl) (C' := ajC a) (by kernel_rfl) ?_; intro w3 q1; refine Hid.out ?_)
    refine Lib.hid ?_
    have K1n := Lib.hid (K1.out.far q1 (by omega))
    clear K1
    have K1 := K1n
    clear K1n
    have HBn := Lib.hid (HB.out.trans (q1.2.1 _ (by omega)))
    clear HB
    have HB := HBn
    clear HBn
    have K2n : Hid (Blk 28 w3 N2 (ajC a)) := Lib.hid q1.1
    clear K2
    have K2 := K2n
    clear K2n q1
    go_wp2_with fail
    exact bodyPost_ret (results_1 rfl _ w3 N2 (ajC a) Try.underlying28 rfl info_ajR rfl K2.out) rfl ⟨by rw [HX.out], HB.out⟩
  by_cases hu : a.un ≤ now
  · skip
    have HX : Hid (R = ajD) := Lib.hid (HE.out.trans (if_pos (by simpa using hu)))
    clear HE
    go_wp2_with (refine wpList_v (op := ⟨some 14, _, _, _, _, _⟩) rfl _ (build_downQ _ _ _ rfl rfl _) ?_; refine Hid.out ?_)
    refine Lib.hid ?_
    go_wp2_with (refine wpList_st rfl 28 (.tmp 4) (.tmp 14) rfl N2 0 rfl (.agg (ajC ajD)) (ajC ajD) rfl rfl info_ajR (ajC_one _) K2.out (Nat.le_of_ble_eq_true rfl) (C' := ajC ajD) (by kernel_rfl) ?_; intro w3 q1; refine Hid.out ?_)
    refine Lib.hid ?_
    have K1n := Lib.hid (K1.out.far q1 (by omega))
    clear K1
    have K1 := K1n
    clear K1n
    have HBn := Lib.hid (HB.out.trans (q1.2.1 _ (by omega)))
    clear HB
    have HB := HBn
    clear HBn
    have K2n : Hid (Blk 28 w3 N2 (ajC ajD)) := Lib.hid q1.1
    clear K2
    have K2 := K2n
    clear K2n q1
    go_wp2_with fail
    exact bodyPost_ret (results_1 rfl _ w3 N2 (ajC ajD) Try.underlying28 rfl info_ajR rfl K2.out) rfl ⟨by rw [HX.out], HB.out⟩
  · skip
    have HX : Hid (R = a) := Lib.hid (HE.out.trans (if_neg (by simpa using hu)))
    clear HE
    go_wp2_with (refine wpList_ld (op := ⟨some 15, _, _, _, _, _⟩) (by rfl) 28 (.tmp 2) rfl N1 0 rfl (ajC a) _ K1.out.all Try.underlying28 rfl info_ajR ?_; refine Hid.out ?_)
    refine Lib.hid ?_
    go_wp2_with (refine wpList_st rfl 28 (.tmp 4) (.tmp 15) rfl N2 0 rfl (.agg (ajC a)) (ajC a) rfl rfl info_ajR (ajC_one _) K2.out (Nat.le_of_ble_eq_true rfl) (C' := ajC a) (by kernel_rfl) ?_; intro w3 q1; refine Hid.out ?_)
    refine Lib.hid ?_
    have K1n := Lib.hid (K1.out.far q1 (by omega))
    clear K1
    have K1 := K1n
    clear K1n
    have HBn := Lib.hid (HB.out.trans (q1.2.1 _ (by omega)))
    clear HB
    have HB := HBn
    clear HBn
    have K2n : Hid (Blk 28 w3 N2 (ajC a)) := Lib.hid q1.1
    clear K2
    have K2 := K2n
    clear K2n q1
    go_wp2_with fail
    exact bodyPost_ret (results_1 rfl _ w3 N2 (ajC a) Try.underlying28 rfl info_ajR rfl K2.out) rfl ⟨by rw [HX.out], HB.out⟩
/-- what bytes.Clone leaves -/
def CloneP (w : World) (t : Sl) (e : Ending) (w' : World) : Prop :=
  ∃ t' : Sl, e = .returned (.slice t'.A t'.n t'.c) ∧ sameS t t' ∧ OwnV w' w.heap.size t' ∧ Below w.heap.size w w'
theorem cloneS_any (t : Sl) (w : World) (h : SlOk w t) : Calls Try.prog 40 #[.slice t.A t.n t.c] w (CloneP w t) := by
  obtain ⟨A, n, c, z⟩ := t
  obtain ⟨h1, h2, h3⟩ := h
  have hz := h1.2
  rcases A with _ | ⟨b, off, sp⟩
  · obtain ⟨h4, h5⟩ := h2 rfl
    simp only at h4 h5
    subst h4 h5
    have HZ := Lib.hid hz
    clear h1 h2 h3 hz
    have hq : ∀ W : World, (binOp BinOp.eql 49 (Value.slice none 0 0) (Value.slice none 0 0)).run Try.prog W = .ok (.bool true) W := fun W => by kernel_rfl
    show Calls _ _ #[.slice none 0 0] _ _
    go_enter Try.func40, Try.ntmps40
    go_wp2
    go_ret
    exact ⟨⟨none, 0, 0, z⟩, rfl, ⟨rfl, fun i hi => rfl⟩, ⟨Nat.zero_le _, .inl ⟨rfl, rfl, rfl, HZ.out⟩⟩, Below.refl _ _⟩
  · obtain ⟨i0, hi, hz0, hz1, hz2⟩ := info_parts info_u8
    have hm : (0 : Nat) ≤ maxLen := by decide
    have hown := World.ownsRow_made (e := 5) (size := 1) (base := w.heap.size) w #[] 0 (Nat.le_refl _) hm rfl
    have hq : ∀ W : World, (binOp BinOp.eql 49 (Value.slice (some ⟨b, off, sp⟩) n c) (Value.slice none 0 0)).run Try.prog W = .ok (.bool false) W := fun W => by kernel_rfl
    have HN : Hid (∀ j u, (vals z n)[j]? = some u → (w.alloc (.cells #[] 5)).cell? ((⟨b, off, sp⟩ : Addr).add j) = some u) := Lib.hid (rd_news h1 _)
    have HZ := Lib.hid hz
    have hn3 : n ≤ 140737488351232 := h3
    show Calls _ _ #[.slice (some ⟨b, off, sp⟩) n c] _ _
    clear h1 h2 hz h3
    go_enter Try.func40, Try.ntmps40
    go_wp2_with (at_builtin; refine wpList_append_own_at _ rfl (.tmp 5) (.tmp 6) 49 rfl w.heap.size 5 i0 (.int .u8 0) 1 1 Try.underlying49 hi hz0 hz1 hz2 rfl (by decide) _ 0 [] rfl hown ⟨b, off, sp⟩ n c (vals z n) rfl (by rw [vals_len]; omega) HN.out (vals_one z n) ?c3 ?c4 (by simp) ?_)
    case c3 => unfold maxLen; omega
    case c4 => omega
    intro v' w1 hown1 hgrow hnil hat
    go_wp2
    go_ret
    obtain ⟨g, cap, rfl, hg, ho⟩ := own_of (by simpa using hown1) (by simp) hnil HZ.out
    have hb : Below w.heap.size w w1 := ((Below.refl _ _).alloc (Nat.le_refl _) _).grown hgrow (by simp) (by simp [Value.ownBlock])
    exact ⟨⟨some ⟨g, 0, none⟩, n, cap, z⟩, rfl, ⟨rfl, fun i hi => rfl⟩, ⟨hn3, .inr ⟨g, rfl, hg, ho⟩⟩, hb⟩
theorem OwnV.alloc {w : World} {base : Nat} {t : Sl} (h : OwnV w base t) (o : Obj) : OwnV (w.alloc o) base t := by
  obtain ⟨h2, h | ⟨g, h3, h4, h5⟩⟩ := h
  · exact ⟨h2, .inl h⟩
  · exact ⟨h2, .inr ⟨g, h3, h4, h5.alloc o⟩⟩
theorem OwnV.mono {w : World} {base b : Nat} {t : Sl} (h : OwnV w base t) (hb : b ≤ base) : OwnV w b t := by
  obtain ⟨h2, h | ⟨g, h3, h4, h5⟩⟩ := h
  · exact ⟨h2, .inl h⟩
  · exact ⟨h2, .inr ⟨g, h3, by omega, h5⟩⟩
set_option maxHeartbeats 4000000 in
set_option maxRecDepth 100000 in
theorem copyAreas_any (A : Option Addr) (m c : Nat) (L : Nat → Sl) (w : World) (h : RdS w A m L) (hm : m * 24 ≤ 140737488351232) :
    Calls Try.prog 36 #[.slice A m c] w (TwinSPost w m L) := by
  obtain ⟨i0, hi, hz0, hz1, hz2⟩ := info_parts info_sl
  have HR := Lib.hid h
  clear h
  go_enter Try.func36, Try.ntmps36
  go_wp2_with fail
  go_loopw [3, 8] (fun v i wr => ∃ (k : Nat) (L' : Nat → Sl), k ≤ m ∧ i = .int .i64 k ∧ OwnS wr w.heap.size v k L' ∧ Hid (∀ j, j < k → sameS (L j) (L' j)) ∧ Below w.heap.size w wr)
    (fun _ i _ => m - (intOf i).toNat)
  case atStart => exact ⟨0, L, by omega, rfl, OwnS.nil _ _ _, Lib.hid (fun j hj => by omega), bself w⟩
  case round =>
    obtain ⟨k, L', hk, rfl, hown, hL, hb⟩ := hrel
    by_cases hkm : k < m
    · obtain ⟨b, off, rfl, hr⟩ := (HR.out.below hb).row (by omega)
      obtain ⟨c0, c2⟩ := hr.2 k hkm
      have H := Lib.hid (cloneS_any (L k) wr c2)
      have hbs := hb.size
      have ho := Lib.hid hown
      have HB := Lib.hid hb
      clear hown hr c2 hb
      go_wp2_with fail
      refine H.out.mono ?_
      rintro e w1 ⟨t', rfl, hsm, hv1, hb1⟩
      have HB1 := Lib.hid (HB.out.trans (hb1.mono hbs))
      have hs1 := HB1.out.size
      have HSM := Lib.hid hsm
      have hown1 : (w1.alloc (.cells #[.slice t'.A t'.n t'.c] 49)).ownsRow w.heap.size 49 1 u3 k (cellsS L' k) := (ownsRow_below ho.out.1 hb1).alloc _
      have hnews := World.news_of_block (heap_alloc_new w1 (.cells #[.slice t'.A t'.n t'.c] 49))
      have HN := Lib.hid hnews
      have HV := Lib.hid ((hv1.mono hbs).alloc (.cells #[.slice t'.A t'.n t'.c] 49))
      have H1 := Lib.hid (ho.out.below hb1)
      have hbase : w.heap.size ≤ (w1.alloc (.cells #[.slice t'.A t'.n t'.c] 49)).heap.size := by simp; omega
      have hk1 : k + 1 ≤ maxLen := by unfold maxLen; omega
      have hk2 : (k + 1) * 24 ≤ 140737488355328 := by omega
      clear hnews hv1 hsm hb1
      go_wp2_with (at_builtin; refine wpList_append_own_at _ rfl (.tmp 12) (.tmp 15) 24 rfl w.heap.size 49 i0 (.slice none 0 0) 1 24 Try.underlying24 hi hz0 hz1 hz2 rfl (by decide) u3 k (cellsS L' k) rfl hown1 ⟨w1.heap.size, 0, none⟩ 1 1 [.slice t'.A t'.n t'.c] rfl rfl HN.out (sl_one _ _ _) hk1 hk2 hbase ?_; intro v2 w2 hown2 hgrow hnil hat)
      have R := Lib.hid (OwnS.push (H1.out.below ((bself w1).alloc (Nat.le_refl _) (.cells #[.slice t'.A t'.n t'.c] 49))) HV.out hown2 hgrow)
      have hI : ∀ j, j < k + 1 → sameS (L j) (updS L' k t' j) := by
        intro j hj
        by_cases e : j = k
        · subst e; rw [updS_same]; exact HSM.out
        · rw [updS_other _ _ _ _ e]; exact hL.out j (by omega)
      have hB2 : Below w.heap.size w w2 := (HB1.out.alloc hs1 _).grown hgrow hbase (fun x e => (ho.out.1.lt x e).1)
      have HI := Lib.hid hI
      have HB2 := Lib.hid hB2
      clear hI hB2 hown2 hgrow hown1 hat hnil
      go_wp2
      go_roundw
      case rel => exact ⟨k + 1, _, by omega, by go_num, R.out, HI, HB2.out⟩
      case measure => simp only [intOf]; omega
    · obtain rfl : k = m := by omega
      have ho := Lib.hid hown
      clear hown
      go_wp2
      go_ret
      exact ⟨_, L', rfl, ho.out, hL.out, hb⟩
end Go.Proofs.Ythmnbhmficdifaa
