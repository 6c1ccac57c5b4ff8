/- What an address finds: in the table, in none, in the document. Each theorem states its conditions. -/
import Derived.Test.YtjnbemopfhinbaaRbRf
import Derived.Test.YtjnbemopfhinbaaRbCn
import Derived.Test.YtjnbemopfhinbaaTrQz
import Derived.Deep.DeepCutAuto
namespace Go.Proofs.Ytjnbemopfhinbaa
open Go.RowKit
set_option linter.unusedVariables false
set_option linter.unusedSimpArgs false

theorem fm_key {x : Rt} (h : FmX x) : ∃ k : Ky, kyF x.p = some k := by
  obtain ⟨m, hm, _⟩ := form_nat h
  have h2 := h
  unfold FmX at h2
  rw [hm] at h2
  obtain ⟨pl, _, e⟩ := ky_yes h2
  exact ⟨(pl, btP m x.p.z), by unfold kyF; rw [hm]; exact e⟩
theorem ky_len {x : Rt} {k : Ky} (hb : Bytes x.p.z) (h : kyF x.p = some k) : x.p.len = (k.2.length : Int) := by
  obtain ⟨_, e⟩ := ky_pf hb h
  have h9 : (pvC x.p.fam x.p.len x.p.z)[1]? = (pfC (kyPf k))[1]? := by rw [e]
  have h8 : some (Value.int .i64 x.p.len) = some (Value.int .i64 (kyPf k).len) := h9
  injection h8 with h8
  injection h8
/-- a route covers the address -/
def cvX (pl : Bool) (z : Nat → Int) (x : Rt) : Bool := match kyF x.p with
  | some k => cvQ (whK pl z) k
  | none => false
theorem cvX_of {pl : Bool} {z : Nat → Int} {x : Rt} {k : Ky} (h : kyF x.p = some k) : cvX pl z x = cvQ (whK pl z) k := by unfold cvX; rw [h]
theorem covX_any {x : Rt} (hb : Bytes x.p.z) (hf : FmX x) (pl : Bool) {z : Nat → Int} (hz : Bytes z) (cv : Bool) (hc : cvX pl z x = cv) (w : World) : Calls Try.prog 68 #[.agg (pfC x.p), .agg (pfC (kyPf (whK pl z)))] w fun e w' => e = .returned (.bool cv) ∧ Below w.heap.size w w' := by
  obtain ⟨k, hk⟩ := fm_key hf
  obtain ⟨ho, e⟩ := ky_pf hb hk
  rw [cvX_of hk] at hc
  have h := covK ho (whK_ok hz pl) w
  rw [hc, ← e] at h
  exact h
/-- the best of the first j -/
def BestX (pl : Bool) (z : Nat → Int) (X : Nat → Rx) (j : Nat) : Option Nat → Prop
  | none => ∀ i, i < j → cvX pl z (X i).r = false
  | some q => q < j ∧ cvX pl z (X q).r = true ∧ ∀ i, i < j → cvX pl z (X i).r = true → (X i).r.p.len ≤ (X q).r.p.len
def bestR (X : Nat → Rx) : Option Nat → Rx
  | none => rx0
  | some q => X q
section
variable {pl : Bool} {z : Nat → Int} {X : Nat → Rx} {j : Nat}
theorem best_nil : BestX pl z X 0 none := fun i hi => by omega
theorem best_no {b : Option Nat} (h : BestX pl z X j b) (hc : cvX pl z (X j).r = false) : BestX pl z X (j + 1) b := by
  cases b with
  | none => intro i hi; by_cases e : i = j; subst e; exact hc; exact h i (by omega)
  | some q =>
    refine ⟨by have := h.1; omega, h.2.1, fun i hi h9 => ?_⟩
    by_cases e : i = j
    · subst e; rw [hc] at h9; cases h9
    · exact h.2.2 i (by omega) h9
theorem best_first (h : BestX pl z X j none) (hc : cvX pl z (X j).r = true) : BestX pl z X (j + 1) (some j) := by
  refine ⟨by omega, hc, fun i hi h9 => ?_⟩
  by_cases e : i = j
  · subst e; exact Int.le_refl _
  · have := h i (by omega); rw [h9] at this; cases this
theorem best_more {q : Nat} (h : BestX pl z X j (some q)) (hc : cvX pl z (X j).r = true) (hl : (X q).r.p.len < (X j).r.p.len) : BestX pl z X (j + 1) (some j) := by
  refine ⟨by omega, hc, fun i hi h9 => ?_⟩
  by_cases e : i = j
  · subst e; exact Int.le_refl _
  · have := h.2.2 i (by omega) h9; omega
theorem best_less {q : Nat} (h : BestX pl z X j (some q)) (hl : ¬ (X q).r.p.len < (X j).r.p.len) : BestX pl z X (j + 1) (some q) := by
  refine ⟨by have := h.1; omega, h.2.1, fun i hi h9 => ?_⟩
  by_cases e : i = j
  · subst e; omega
  · exact h.2.2 i (by omega) h9
end
/-- what the table finds is the document's best -/
theorem find_same {w : World} {t s n c : Nat} {A : Option Addr} {S : List Rx} {T : Ts} {X : Nat → Rx} {pl : Bool} {z : Nat → Int} (h : TabAt w t s n A c S T) (p : PermX n X S) (hx : ErrX n X 0) (hb : ∀ i, RtB (X i).r) {b : Option Nat} (hB : BestX pl z X n b) :
    (b = none ∧ T.FA (famB pl) z = (pf0, 0, false, 0)) ∨ ∃ (q i : Nat) (P : Pf), b = some q ∧ q < n ∧ T.FA (famB pl) z = (P, (i : Int), true, 0) ∧ i < n ∧ (S.getD i rx0).r = (X q).r := by
  have hFA : T.FA (famB pl) z = faR pl (T.F pl z) := by
    unfold Ts.FA
    cases pl with
    | false => rw [if_pos (show famB false = 4 from rfl)]
    | true => rw [if_neg (show ¬ famB true = 4 by decide), if_pos (show famB true = 6 from rfl)]
  have hdf := doc_find h.tr.ok pl z
  have hm : ∀ k v, (k, v) ∈ T.doc ↔ T.G k = some v := fun k v => doc_mem h.tr.ok k v
  have hk := (tab_keys h p).1
  rcases bst_spec (cvQ (pl, btP (lenB pl) (whZ pl z))) T.doc none with ⟨g1, g2⟩ | ⟨y, g1, g2, g3, g4, _⟩
  · have hF : T.F pl z = none := by rw [hdf]; unfold fnQ; rw [g1]; rfl
    left
    refine ⟨?_, by rw [hFA, hF]; rfl⟩
    cases b with
    | none => rfl
    | some q =>
      obtain ⟨hq, hc, _⟩ := hB
      obtain ⟨k, k1, k2⟩ := hk q hq
      rw [cvX_of k1] at hc
      cases hv : T.G k with
      | none => exact absurd hv k2
      | some v =>
        obtain ⟨a, ha, _⟩ := g2 (k, v) ((hm k v).2 hv) hc
        cases ha
  · right
    have hF : T.F pl z = some (y.1.2, y.2) := by rw [hdf]; unfold fnQ; rw [g2]; rfl
    obtain ⟨i, q, hv, hq, he, hky⟩ := (tab_keys h p).2 y.1 y.2 ((hm y.1 y.2).1 g1)
    obtain ⟨i2, hi2, hi2n, hk2⟩ := h.ix y.1 y.2 ((hm y.1 y.2).1 g1)
    have hii : i = i2 := Int.ofNat.inj (hv.symm.trans hi2)
    subst hii
    have hcq : cvX pl z (X q).r = true := by rw [cvX_of hky]; exact g3
    cases b with
    | none => have := hB q hq; rw [hcq] at this; cases this
    | some q' =>
      obtain ⟨hq', hc', hmax⟩ := hB
      have hqq : q' = q := by
        obtain ⟨k', k1, k2⟩ := hk q' hq'
        have hc2 := hc'
        rw [cvX_of k1] at hc2
        have l1 := hmax q hq hcq
        rw [ky_len (hb q).p hky, ky_len (hb q').p k1] at l1
        have l2 : k'.2.length ≤ y.1.2.length := by
          cases hv' : T.G k' with
          | none => exact absurd hv' k2
          | some v' => exact g4 (k', v') ((hm k' v').2 hv') hc2
        have e : k' = y.1 := by
          have a1 := of_decide_eq_true (show decide ((whK pl z).1 = k'.1 ∧ k'.2 <+: (whK pl z).2) = true from by first | exact hc2 | (have h9 := hc2; unfold cvQ at h9; simp at h9 ⊢; exact ⟨h9.1.symm, h9.2⟩))
          have a2 := of_decide_eq_true (show decide ((whK pl z).1 = y.1.1 ∧ y.1.2 <+: (whK pl z).2) = true from by first | exact g3 | (have h9 := g3; unfold cvQ at h9; simp at h9 ⊢; exact ⟨h9.1.symm, h9.2⟩))
          refine Prod.ext (a1.1.symm.trans a2.1) ?_
          exact (List.prefix_of_prefix_length_le a1.2 a2.2 l2).eq_of_length (by omega)
        subst e
        rcases Nat.lt_trichotomy q' q with h9 | h9 | h9
        · exact absurd (k1.trans hky.symm) (hx.nd q' q h9 hq)
        · exact h9
        · exact absurd (hky.trans k1.symm) (hx.nd q q' h9 hq')
      subst hqq
      exact ⟨q', i, ⟨famB pl, (y.1.2.length : Nat), zOf y.1.2⟩, rfl, hq, by rw [hFA, hF, hv]; rfl, hi2n, he⟩
theorem results_2R {fn : Func} {q r : Tmp} {t : TypeId} (h : fn.results = #[.cell q t, .tmp r]) (tmps : Array Value) (W : World) (g : Nat) (C : Array Value) (v : Value) {d : TypeDesc} (hu : Try.prog.underlying t = some d) (hd : d.isRow = true) (hi : (Try.prog.info? t).map (·.size) = some C.size)
    (hp : tmps.getD q undef = .pointer (some ⟨g, 0, none⟩)) (hr : tmps.getD r undef = v) (hg : Blk t W g C) : (results fn tmps).run Try.prog W = .ok (.tuple #[.agg C, v]) W := by
  have h1 := run_loadVar_mid (P := Try.prog) W g 0 t C.toList _ hg.all hu hd (by simpa using hi)
  have hp' : (tmps[q]?).getD undef = .pointer (some ⟨g, 0, none⟩) := by simpa using hp
  have hr' : (tmps[r]?).getD undef = v := by simpa using hr
  simp only [results, h]
  simp [hp', hr', asAddr, h1]
/-- what the document's Find answers -/
def RFindQ (w : World) (pl : Bool) (z : Nat → Int) (n : Nat) (X : Nat → Rx) (e : Ending) (w' : World) : Prop := Below w.heap.size w w' ∧ ∃ b : Option Nat, BestX pl z X n b ∧ e = .returned (.tuple #[.agg (rxC (bestR X b)), .bool b.isSome])
set_option maxHeartbeats 32000000 in
set_option maxRecDepth 100000 in
theorem tfind_nil (fam : Int) (z : Nat → Int) (hz : Bytes z) (w : World) : Calls Try.prog 34 #[.pointer none, .int .u8 fam, .agg (agC z)] w fun e w' => e = .returned (.tuple #[.agg (rxC rx0), .bool false, .int .i64 (fN fam)]) ∧ Below w.heap.size w w' := by
  have HF := Lib.hid (fun W => findN fam z hz W)
  have hne : fN fam ≠ 0 := by unfold fN; split <;> decide
  obtain ⟨er, her⟩ : ∃ er, fN fam = er := ⟨_, rfl⟩
  rw [her] at HF hne ⊢
  have HER := Lib.hid hne
  clear hz her hne
  go_enter Try.func34, Try.ntmps34
  have HB := Lib.hid (Below.refl w.heap.size w)
  obtain ⟨N1, hN1⟩ : ∃ N, w.heap.size = N := ⟨_, rfl⟩
  have HN1 := Lib.hid hN1
  clear hN1
  go_wp2_with (refine wpList_box (op := ⟨some 5, _, _, _, _, _⟩) rfl 23 (.tmp 2) rfl (agC z) rfl N1 HN1.out ?_; intro w1 k1 b1 s1; refine Hid.out ?_)
  refine Lib.hid ?_
  have K5 := Lib.hid k1
  clear k1
  have le_HB_N1 : w.heap.size ≤ N1 := by rw [← HN1.out]; exact HB.out.size
  have HBn := Lib.hid (HB.out.trans (b1.mono HB.out.size))
  clear HB
  have HB := HBn
  clear HBn
  clear b1 HN1
  obtain ⟨N2, hN2⟩ : ∃ N, w1.heap.size = N := ⟨_, rfl⟩
  have HN2 := Lib.hid hN2
  clear hN2
  go_wp2_with (refine wpList_new (op := ⟨some 6, _, _, _, _, _⟩) rfl 70 rfl (rxC rx0) zero_rt N2 HN2.out ?_; intro w2 k1 b1 s1; refine Hid.out ?_)
  refine Lib.hid ?_
  have K6 := Lib.hid k1
  clear k1
  have lt_N1_N2 : N1 < N2 := by rw [← HN2.out]; exact K5.out.lt
  have le_HB_N2 : w.heap.size ≤ N2 := by rw [← HN2.out]; exact HB.out.size
  have K5n := Lib.hid (K5.out.below b1 K5.out.lt)
  clear K5
  have K5 := K5n
  clear K5n
  have HBn := Lib.hid (HB.out.trans (b1.mono HB.out.size))
  clear HB
  have HB := HBn
  clear HBn
  clear b1 HN2
  go_wp2_with (refine wpList_ld (op := ⟨some 23, _, _, _, _, _⟩) (by rfl) 23 (.tmp 5) rfl N1 0 rfl (agC z) _ K5.out.all Try.underlying23 rfl (hi_ag z) ?_; refine Hid.out ?_)
  refine Lib.hid ?_
  go_wp2_with fail
  refine (HF.out _).mono ?_
  rintro e w3 ⟨rfl, b1⟩
  have K5n := Lib.hid (K5.out.below b1 K5.out.lt)
  clear K5
  have K5 := K5n
  clear K5n
  have K6n := Lib.hid (K6.out.below b1 K6.out.lt)
  clear K6
  have K6 := K6n
  clear K6n
  have HBn := Lib.hid (HB.out.trans (b1.mono HB.out.size))
  clear HB
  have HB := HBn
  clear HBn
  clear b1
  obtain ⟨N4, hN4⟩ : ∃ N, w3.heap.size = N := ⟨_, rfl⟩
  have HN4 := Lib.hid hN4
  clear hN4
  go_wp2_with (refine wpList_new (op := ⟨some 10, _, _, _, _, _⟩) rfl 32 rfl (pvC 0 0 Z0) zero_pvT N4 HN4.out ?_; intro w4 k1 b1 s1; refine Hid.out ?_)
  refine Lib.hid ?_
  have K10 := Lib.hid k1
  clear k1
  have lt_N1_N4 : N1 < N4 := by rw [← HN4.out]; exact K5.out.lt
  have lt_N2_N4 : N2 < N4 := by rw [← HN4.out]; exact K6.out.lt
  have le_HB_N4 : w.heap.size ≤ N4 := by rw [← HN4.out]; exact HB.out.size
  have K5n := Lib.hid (K5.out.below b1 K5.out.lt)
  clear K5
  have K5 := K5n
  clear K5n
  have K6n := Lib.hid (K6.out.below b1 K6.out.lt)
  clear K6
  have K6 := K6n
  clear K6n
  have HBn := Lib.hid (HB.out.trans (b1.mono HB.out.size))
  clear HB
  have HB := HBn
  clear HBn
  clear b1 HN4
  go_wp2_with (refine wpList_st rfl 32 (.tmp 10) (.tmp 25) rfl N4 0 rfl (.agg (pvC 0 0 Z0)) (pvC 0 0 Z0) rfl rfl info_pv (all_pv _ _ _) K10.out (Nat.le_of_ble_eq_true rfl) (C' := pvC 0 0 Z0) (pv_over _ _ _ _ _ _) ?_; intro w5 q1; refine Hid.out ?_)
  refine Lib.hid ?_
  have K5n := Lib.hid (K5.out.far q1 (by omega))
  clear K5
  have K5 := K5n
  clear K5n
  have K6n := Lib.hid (K6.out.far q1 (by omega))
  clear K6
  have K6 := K6n
  clear K6n
  have HBn := Lib.hid (HB.out.trans (q1.2.1 _ (by omega)))
  clear HB
  have HB := HBn
  clear HBn
  have K10n : Hid (Blk 32 w5 N4 (pvC 0 0 Z0)) := Lib.hid q1.1
  clear K10
  have K10 := K10n
  clear K10n q1
  go_wp2_with (refine wpList_v (op := ⟨some 30, _, _, _, _, _⟩) rfl (.bool true) (neqE_run _ _ _ rfl er HER.out rfl rfl _) ?_; refine Hid.out ?_)
  refine Lib.hid ?_
  go_wp2_with (refine wpList_v (op := ⟨some 35, _, _, _, _, _⟩) rfl (.agg (rxC rx0)) (bld_rt0 _ _ rfl _) ?_; refine Hid.out ?_)
  refine Lib.hid ?_
  go_wp2_with (refine wpList_st rfl 70 (.tmp 6) (.tmp 35) rfl N2 0 rfl (.agg (rxC rx0)) (rxC rx0) rfl rfl info_rt (rx_one _) K6.out (Nat.le_of_ble_eq_true rfl) (C' := rxC rx0) (rx_over _ _) ?_; intro w6 q1; refine Hid.out ?_)
  refine Lib.hid ?_
  have K5n := Lib.hid (K5.out.far q1 (by omega))
  clear K5
  have K5 := K5n
  clear K5n
  have K10n := Lib.hid (K10.out.far q1 (by omega))
  clear K10
  have K10 := K10n
  clear K10n
  have HBn := Lib.hid (HB.out.trans (q1.2.1 _ (by omega)))
  clear HB
  have HB := HBn
  clear HBn
  have K6n : Hid (Blk 70 w6 N2 (rxC rx0)) := Lib.hid q1.1
  clear K6
  have K6 := K6n
  clear K6n q1
  go_wp2_with fail
  exact bodyPost_ret (results_3R rfl _ _ N2 (rxC rx0) (.bool false) (.int .i64 er) Try.underlying70 rfl info_rt rfl rfl rfl K6.out) rfl ⟨rfl, HB.out⟩
set_option maxHeartbeats 32000000 in
set_option maxRecDepth 100000 in
theorem rfind_4 (X : Nat → Rx) (A : Option Addr) (n c : Nat) (z : Nat → Int) (hz : Bytes z) (w : World) (hr : RdR w A n 21 (fun j => rxC (X j))) (hb : ∀ j, RtB (X j).r) (hf : ∀ j, j < n → FmX (X j).r) (hn : n ≤ 500) : Calls Try.prog 37 #[.slice A n c, .int .u8 4, .agg (agC z)] w (RFindQ w false z n X) := by
  have HR := Lib.hid hr
  have HRB := Lib.hid hb
  have HFO := Lib.hid hf
  have HZ := Lib.hid hz
  have HN := Lib.hid hn
  have hnI : (n : Int) ≤ 9223372036854775807 := by omega
  clear hr hb hf hz hn
  go_enter Try.func37, Try.ntmps37
  have HB := Lib.hid (Below.refl w.heap.size w)
  obtain ⟨N1, hN1⟩ : ∃ N, w.heap.size = N := ⟨_, rfl⟩
  have HN1 := Lib.hid hN1
  clear hN1
  go_wp2_with (refine wpList_box (op := ⟨some 5, _, _, _, _, _⟩) rfl 23 (.tmp 2) rfl (agC z) rfl N1 HN1.out ?_; intro w1 k1 b1 s1; refine Hid.out ?_)
  refine Lib.hid ?_
  have K5 := Lib.hid k1
  clear k1
  have le_HB_N1 : w.heap.size ≤ N1 := by rw [← HN1.out]; exact HB.out.size
  have HBn := Lib.hid (HB.out.trans (b1.mono HB.out.size))
  clear HB
  have HB := HBn
  clear HBn
  clear b1 HN1
  obtain ⟨N2, hN2⟩ : ∃ N, w1.heap.size = N := ⟨_, rfl⟩
  have HN2 := Lib.hid hN2
  clear hN2
  go_wp2_with (refine wpList_new (op := ⟨some 6, _, _, _, _, _⟩) rfl 70 rfl (rxC rx0) zero_rt N2 HN2.out ?_; intro w2 k1 b1 s1; refine Hid.out ?_)
  refine Lib.hid ?_
  have K6 := Lib.hid k1
  clear k1
  have lt_N1_N2 : N1 < N2 := by rw [← HN2.out]; exact K5.out.lt
  have le_HB_N2 : w.heap.size ≤ N2 := by rw [← HN2.out]; exact HB.out.size
  have K5n := Lib.hid (K5.out.below b1 K5.out.lt)
  clear K5
  have K5 := K5n
  clear K5n
  have HBn := Lib.hid (HB.out.trans (b1.mono HB.out.size))
  clear HB
  have HB := HBn
  clear HBn
  clear b1 HN2
  go_wp2_with fail
  go_cut [8] (fun s1 wc => ∃ N, s1 = .pointer (some ⟨N, 0, none⟩) ∧ w2.heap.size ≤ N ∧ Hid (Blk 32 wc N (pfC (kyPf (whK false z)))) ∧ Hid (Below w2.heap.size w2 wc))
  case first =>
    have HBW := Lib.hid (Below.refl w2.heap.size w2)
    refine wp_region_held_drew (S := fun w' => Blk 23 w' N1 (agC z) ∧ Below w2.heap.size w2 w') (by kernel_rfl) ⟨K5.out, HBW.out.drew⟩ (fun hS => ?_)
    generalize hW41 : w2.drew = W41 at hS  ⊢
    clear hW41
    clear K5
    clear HBW
    have K5 := Lib.hid hS.1
    have HBW := Lib.hid hS.2
    refine takeY (i := 0) (some 13) (v := .int .u8 4) rfl rfl (by kernel_rfl) (by kernel_rfl) (by kernel_rfl) (fun _ _ _ h => h) (by rfl) (fun w' hS => by clear hS; go_simp) hS ?_
    simp only [Act.put, List.setIfInBounds_toArray, List.set_cons_zero, List.set_cons_succ]
    refine takeY (i := 1) (some 14) (v := .int .u8 4) rfl rfl (by kernel_rfl) (by kernel_rfl) (by kernel_rfl) (fun _ _ _ h => h) (by rfl) (fun w' hS => by clear hS; go_simp) hS ?_
    simp only [Act.put, List.setIfInBounds_toArray, List.set_cons_zero, List.set_cons_succ]
    refine takeL (i := 3) (some 16) 23 (.tmp 5) N1 0 (agC z) _ rfl rfl (by kernel_rfl) (by kernel_rfl) (by kernel_rfl) (fun _ _ _ h => h) (by rfl) rfl rfl (fun w' hS => hS.1.all) Try.underlying23 rfl (hi_ag z) hS ?_
    simp only [Act.put, List.setIfInBounds_toArray, List.set_cons_zero, List.set_cons_succ]
    refine takeY (i := 5) (some 18) (v := .int .u8 4) rfl rfl (by kernel_rfl) (by kernel_rfl) (by kernel_rfl) (fun _ _ _ h => h) (by rfl) (fun w' hS => by clear hS; go_simp) hS ?_
    simp only [Act.put, List.setIfInBounds_toArray, List.set_cons_zero, List.set_cons_succ]
    obtain ⟨M0, hM0⟩ : ∃ N, W41.heap.size = N := ⟨_, rfl⟩
    have HM0 := Lib.hid hM0
    clear hM0
    refine wpAnyH_ready (show Region.ready _ _ _ = [2, 8] from by kernel_rfl) (by simp) (consC (i := 2) (some 15) 25 #[.int .u8 4] (.int .i64 (lenB false : Int)) (R := fun w' => Below W41.heap.size W41 w') rfl rfl (by rfl) (by go_simp) (bits_pl false _) (fun w' hb => ⟨hS.1.below hb hS.1.lt, hS.2.trans (hb.mono hS.2.size)⟩) ?_ (consMk (i := 8) (some 8) 32 (pvC 0 0 Z0) rfl rfl (by rfl) rfl zero_pvT M0 HM0.out ?_ AllReadyH.nil))
    · skip
      clear HM0
      intro W42 hb1 hS2
      simp only [Act.put, List.setIfInBounds_toArray, List.set_cons_zero, List.set_cons_succ]
      clear K5
      clear HBW
      clear hS
      have hS := hS2
      clear hS2
      have K5 := Lib.hid hS.1
      have HBW := Lib.hid hS.2
      refine takeY (i := 4) (some 17) (v := .agg (pvC (famB false) (lenB false : Nat) z)) rfl rfl (by kernel_rfl) (by kernel_rfl) (by kernel_rfl) (fun _ _ _ h => h) (by rfl) (fun w' hS => by clear hS; exact build_pv _ _ _ _ _ rfl (famB false) (lenB false : Nat) z rfl rfl rfl _) hS ?_
      simp only [Act.put, List.setIfInBounds_toArray, List.set_cons_zero, List.set_cons_succ]
      clear hb1
      obtain ⟨M1, hM1⟩ : ∃ N, W42.heap.size = N := ⟨_, rfl⟩
      have HM1 := Lib.hid hM1
      clear hM1
      refine wpAnyH_ready (show Region.ready _ _ _ = [6, 8] from by kernel_rfl) (by simp) (consC (i := 6) (some 19) 25 #[.int .u8 4] (.int .i64 (lenB false : Int)) (R := fun w' => Below W42.heap.size W42 w') rfl rfl (by rfl) (by go_simp) (bits_pl false _) (fun w' hb => ⟨hS.1.below hb hS.1.lt, hS.2.trans (hb.mono hS.2.size)⟩) ?_ (consMk (i := 8) (some 8) 32 (pvC 0 0 Z0) rfl rfl (by rfl) rfl zero_pvT M1 HM1.out ?_ AllReadyH.nil))
      · skip
        clear HM1
        intro W43 hb1 hS2
        simp only [Act.put, List.setIfInBounds_toArray, List.set_cons_zero, List.set_cons_succ]
        clear K5
        clear HBW
        clear hS
        have hS := hS2
        clear hS2
        have K5 := Lib.hid hS.1
        have HBW := Lib.hid hS.2
        clear hb1
        obtain ⟨M2, hM2⟩ : ∃ N, W43.heap.size = N := ⟨_, rfl⟩
        have HM2 := Lib.hid hM2
        clear hM2
        refine wpAnyH_ready (show Region.ready _ _ _ = [7, 8] from by kernel_rfl) (by simp) (consC (i := 7) (some 20) 67 #[.agg (pvC (famB false) (lenB false : Nat) z), .int .i64 (lenB false : Int)] (.agg (pfC (kyPf (whK false z)))) (R := fun w' => Below W43.heap.size W43 w') rfl rfl (by rfl) (by go_simp) (first_wh false z HZ.out _) (fun w' hb => ⟨hS.1.below hb hS.1.lt, hS.2.trans (hb.mono hS.2.size)⟩) ?_ (consMk (i := 8) (some 8) 32 (pvC 0 0 Z0) rfl rfl (by rfl) rfl zero_pvT M2 HM2.out ?_ AllReadyH.nil))
        · skip
          clear HM2
          intro W44 hb1 hS2
          simp only [Act.put, List.setIfInBounds_toArray, List.set_cons_zero, List.set_cons_succ]
          clear K5
          clear HBW
          clear hS
          have hS := hS2
          clear hS2
          have K5 := Lib.hid hS.1
          have HBW := Lib.hid hS.2
          clear hb1
          obtain ⟨M3, hM3⟩ : ∃ N, W44.heap.size = N := ⟨_, rfl⟩
          have HM3 := Lib.hid hM3
          clear hM3
          refine takeMk (i := 8) (some 8) 32 (pvC 0 0 Z0) rfl rfl (by kernel_rfl) (by rfl) rfl zero_pvT M3 HM3.out ?_
          intro W45 k1 b1 s1
          refine ⟨⟨hS.1.below b1 hS.1.lt, hS.2.trans (b1.mono hS.2.size)⟩, ?_⟩
          simp only [Act.put, List.setIfInBounds_toArray, List.set_cons_zero, List.set_cons_succ]
          have K8 := Lib.hid k1
          clear k1
          have lt_N1_M3 : N1 < M3 := by rw [← HM3.out]; exact K5.out.lt
          have le_HBW_M3 : w2.heap.size ≤ M3 := by rw [← HM3.out]; exact HBW.out.size
          have K5n := Lib.hid (K5.out.below b1 K5.out.lt)
          clear K5
          have K5 := K5n
          clear K5n
          have HBWn := Lib.hid (HBW.out.trans (b1.mono HBW.out.size))
          clear HBW
          have HBW := HBWn
          clear HBWn
          clear b1 HM3 hS
          have hS := (And.intro K5.out HBW.out)
          refine takeSt (i := 9) 32 (.tmp 8) (.tmp 20) M3 0 (.agg (pfC (kyPf (whK false z)))) (pfC (kyPf (whK false z))) (pfC (kyPf (whK false z))) rfl rfl (by kernel_rfl) (by rfl) rfl rfl rfl rfl info_pv (all_pv _ _ _) K8.out (Nat.le_of_ble_eq_true rfl) (pv_over _ _ _ _ _ _) ?_
          intro W46 q1
          refine ⟨⟨K5.out.far q1 (by omega), HBW.out.trans (q1.2.1 _ (by omega))⟩, ?_⟩
          simp only [Act.put, List.setIfInBounds_toArray, List.set_cons_zero, List.set_cons_succ]
          have K8n : Hid (Blk 32 W46 M3 (pfC (kyPf (whK false z)))) := Lib.hid q1.1
          clear K8
          have K8 := K8n
          clear K8n
          have K5n := Lib.hid (K5.out.far q1 (by omega))
          clear K5
          have K5 := K5n
          clear K5n
          have HBWn := Lib.hid (HBW.out.trans (q1.2.1 _ (by omega)))
          clear HBW
          have HBW := HBWn
          clear HBWn
          clear q1 hS
          have hS := (And.intro K5.out HBW.out)
          clear hS
          refine wpAnyH_done (by kernel_rfl) ?_ _
          go_wp2_with fail
          go_meet
          case rel => exact ⟨M3, rfl, le_HBW_M3, K8, HBW⟩
        · skip
          intro W45 k1 b1 s1
          refine ⟨⟨hS.1.below b1 hS.1.lt, hS.2.trans (b1.mono hS.2.size)⟩, ?_⟩
          simp only [Act.put, List.setIfInBounds_toArray, List.set_cons_zero, List.set_cons_succ]
          have K8 := Lib.hid k1
          clear k1
          have lt_N1_M2 : N1 < M2 := by rw [← HM2.out]; exact K5.out.lt
          have le_HBW_M2 : w2.heap.size ≤ M2 := by rw [← HM2.out]; exact HBW.out.size
          have K5n := Lib.hid (K5.out.below b1 K5.out.lt)
          clear K5
          have K5 := K5n
          clear K5n
          have HBWn := Lib.hid (HBW.out.trans (b1.mono HBW.out.size))
          clear HBW
          have HBW := HBWn
          clear HBWn
          clear b1 HM2 hS
          have hS := (And.intro K5.out HBW.out)
          refine takeC (i := 7) (some 20) 67 #[.agg (pvC (famB false) (lenB false : Nat) z), .int .i64 (lenB false : Int)] (.agg (pfC (kyPf (whK false z)))) (R := fun w' => Below W45.heap.size W45 w') rfl rfl (by kernel_rfl) (by rfl) (by go_simp) (first_wh false z HZ.out _) (fun w' hb => ⟨hS.1.below hb hS.1.lt, hS.2.trans (hb.mono hS.2.size)⟩) ?_
          intro W46 hb1 hS2
          simp only [Act.put, List.setIfInBounds_toArray, List.set_cons_zero, List.set_cons_succ]
          have K8n := Lib.hid (K8.out.below hb1 K8.out.lt)
          clear K8
          have K8 := K8n
          clear K8n
          clear K5
          clear HBW
          clear hS
          have hS := hS2
          clear hS2
          have K5 := Lib.hid hS.1
          have HBW := Lib.hid hS.2
          clear hb1
          refine takeSt (i := 9) 32 (.tmp 8) (.tmp 20) M2 0 (.agg (pfC (kyPf (whK false z)))) (pfC (kyPf (whK false z))) (pfC (kyPf (whK false z))) rfl rfl (by kernel_rfl) (by rfl) rfl rfl rfl rfl info_pv (all_pv _ _ _) K8.out (Nat.le_of_ble_eq_true rfl) (pv_over _ _ _ _ _ _) ?_
          intro W47 q1
          refine ⟨⟨K5.out.far q1 (by omega), HBW.out.trans (q1.2.1 _ (by omega))⟩, ?_⟩
          simp only [Act.put, List.setIfInBounds_toArray, List.set_cons_zero, List.set_cons_succ]
          have K8n : Hid (Blk 32 W47 M2 (pfC (kyPf (whK false z)))) := Lib.hid q1.1
          clear K8
          have K8 := K8n
          clear K8n
          have K5n := Lib.hid (K5.out.far q1 (by omega))
          clear K5
          have K5 := K5n
          clear K5n
          have HBWn := Lib.hid (HBW.out.trans (q1.2.1 _ (by omega)))
          clear HBW
          have HBW := HBWn
          clear HBWn
          clear q1 hS
          have hS := (And.intro K5.out HBW.out)
          clear hS
          refine wpAnyH_done (by kernel_rfl) ?_ _
          go_wp2_with fail
          go_meet
          case rel => exact ⟨M2, rfl, le_HBW_M2, K8, HBW⟩
      · skip
        intro W44 k1 b1 s1
        refine ⟨⟨hS.1.below b1 hS.1.lt, hS.2.trans (b1.mono hS.2.size)⟩, ?_⟩
        simp only [Act.put, List.setIfInBounds_toArray, List.set_cons_zero, List.set_cons_succ]
        have K8 := Lib.hid k1
        clear k1
        have lt_N1_M1 : N1 < M1 := by rw [← HM1.out]; exact K5.out.lt
        have le_HBW_M1 : w2.heap.size ≤ M1 := by rw [← HM1.out]; exact HBW.out.size
        have K5n := Lib.hid (K5.out.below b1 K5.out.lt)
        clear K5
        have K5 := K5n
        clear K5n
        have HBWn := Lib.hid (HBW.out.trans (b1.mono HBW.out.size))
        clear HBW
        have HBW := HBWn
        clear HBWn
        clear b1 HM1 hS
        have hS := (And.intro K5.out HBW.out)
        refine takeC (i := 6) (some 19) 25 #[.int .u8 4] (.int .i64 (lenB false : Int)) (R := fun w' => Below W44.heap.size W44 w') rfl rfl (by kernel_rfl) (by rfl) (by go_simp) (bits_pl false _) (fun w' hb => ⟨hS.1.below hb hS.1.lt, hS.2.trans (hb.mono hS.2.size)⟩) ?_
        intro W45 hb1 hS2
        simp only [Act.put, List.setIfInBounds_toArray, List.set_cons_zero, List.set_cons_succ]
        have K8n := Lib.hid (K8.out.below hb1 K8.out.lt)
        clear K8
        have K8 := K8n
        clear K8n
        clear K5
        clear HBW
        clear hS
        have hS := hS2
        clear hS2
        have K5 := Lib.hid hS.1
        have HBW := Lib.hid hS.2
        clear hb1
        refine takeC (i := 7) (some 20) 67 #[.agg (pvC (famB false) (lenB false : Nat) z), .int .i64 (lenB false : Int)] (.agg (pfC (kyPf (whK false z)))) (R := fun w' => Below W45.heap.size W45 w') rfl rfl (by kernel_rfl) (by rfl) (by go_simp) (first_wh false z HZ.out _) (fun w' hb => ⟨hS.1.below hb hS.1.lt, hS.2.trans (hb.mono hS.2.size)⟩) ?_
        intro W46 hb1 hS2
        simp only [Act.put, List.setIfInBounds_toArray, List.set_cons_zero, List.set_cons_succ]
        have K8n := Lib.hid (K8.out.below hb1 K8.out.lt)
        clear K8
        have K8 := K8n
        clear K8n
        clear K5
        clear HBW
        clear hS
        have hS := hS2
        clear hS2
        have K5 := Lib.hid hS.1
        have HBW := Lib.hid hS.2
        clear hb1
        refine takeSt (i := 9) 32 (.tmp 8) (.tmp 20) M1 0 (.agg (pfC (kyPf (whK false z)))) (pfC (kyPf (whK false z))) (pfC (kyPf (whK false z))) rfl rfl (by kernel_rfl) (by rfl) rfl rfl rfl rfl info_pv (all_pv _ _ _) K8.out (Nat.le_of_ble_eq_true rfl) (pv_over _ _ _ _ _ _) ?_
        intro W47 q1
        refine ⟨⟨K5.out.far q1 (by omega), HBW.out.trans (q1.2.1 _ (by omega))⟩, ?_⟩
        simp only [Act.put, List.setIfInBounds_toArray, List.set_cons_zero, List.set_cons_succ]
        have K8n : Hid (Blk 32 W47 M1 (pfC (kyPf (whK false z)))) := Lib.hid q1.1
        clear K8
        have K8 := K8n
        clear K8n
        have K5n := Lib.hid (K5.out.far q1 (by omega))
        clear K5
        have K5 := K5n
        clear K5n
        have HBWn := Lib.hid (HBW.out.trans (q1.2.1 _ (by omega)))
        clear HBW
        have HBW := HBWn
        clear HBWn
        clear q1 hS
        have hS := (And.intro K5.out HBW.out)
        clear hS
        refine wpAnyH_done (by kernel_rfl) ?_ _
        go_wp2_with fail
        go_meet
        case rel => exact ⟨M1, rfl, le_HBW_M1, K8, HBW⟩
    · skip
      intro W43 k1 b1 s1
      refine ⟨⟨hS.1.below b1 hS.1.lt, hS.2.trans (b1.mono hS.2.size)⟩, ?_⟩
      simp only [Act.put, List.setIfInBounds_toArray, List.set_cons_zero, List.set_cons_succ]
      have K8 := Lib.hid k1
      clear k1
      have lt_N1_M0 : N1 < M0 := by rw [← HM0.out]; exact K5.out.lt
      have le_HBW_M0 : w2.heap.size ≤ M0 := by rw [← HM0.out]; exact HBW.out.size
      have K5n := Lib.hid (K5.out.below b1 K5.out.lt)
      clear K5
      have K5 := K5n
      clear K5n
      have HBWn := Lib.hid (HBW.out.trans (b1.mono HBW.out.size))
      clear HBW
      have HBW := HBWn
      clear HBWn
      clear b1 HM0 hS
      have hS := (And.intro K5.out HBW.out)
      refine takeC (i := 2) (some 15) 25 #[.int .u8 4] (.int .i64 (lenB false : Int)) (R := fun w' => Below W43.heap.size W43 w') rfl rfl (by kernel_rfl) (by rfl) (by go_simp) (bits_pl false _) (fun w' hb => ⟨hS.1.below hb hS.1.lt, hS.2.trans (hb.mono hS.2.size)⟩) ?_
      intro W44 hb1 hS2
      simp only [Act.put, List.setIfInBounds_toArray, List.set_cons_zero, List.set_cons_succ]
      have K8n := Lib.hid (K8.out.below hb1 K8.out.lt)
      clear K8
      have K8 := K8n
      clear K8n
      clear K5
      clear HBW
      clear hS
      have hS := hS2
      clear hS2
      have K5 := Lib.hid hS.1
      have HBW := Lib.hid hS.2
      refine takeY (i := 4) (some 17) (v := .agg (pvC (famB false) (lenB false : Nat) z)) rfl rfl (by kernel_rfl) (by kernel_rfl) (by kernel_rfl) (fun _ _ _ h => h) (by rfl) (fun w' hS => by clear hS; exact build_pv _ _ _ _ _ rfl (famB false) (lenB false : Nat) z rfl rfl rfl _) hS ?_
      simp only [Act.put, List.setIfInBounds_toArray, List.set_cons_zero, List.set_cons_succ]
      clear hb1
      refine takeC (i := 6) (some 19) 25 #[.int .u8 4] (.int .i64 (lenB false : Int)) (R := fun w' => Below W44.heap.size W44 w') rfl rfl (by kernel_rfl) (by rfl) (by go_simp) (bits_pl false _) (fun w' hb => ⟨hS.1.below hb hS.1.lt, hS.2.trans (hb.mono hS.2.size)⟩) ?_
      intro W45 hb1 hS2
      simp only [Act.put, List.setIfInBounds_toArray, List.set_cons_zero, List.set_cons_succ]
      have K8n := Lib.hid (K8.out.below hb1 K8.out.lt)
      clear K8
      have K8 := K8n
      clear K8n
      clear K5
      clear HBW
      clear hS
      have hS := hS2
      clear hS2
      have K5 := Lib.hid hS.1
      have HBW := Lib.hid hS.2
      clear hb1
      refine takeC (i := 7) (some 20) 67 #[.agg (pvC (famB false) (lenB false : Nat) z), .int .i64 (lenB false : Int)] (.agg (pfC (kyPf (whK false z)))) (R := fun w' => Below W45.heap.size W45 w') rfl rfl (by kernel_rfl) (by rfl) (by go_simp) (first_wh false z HZ.out _) (fun w' hb => ⟨hS.1.below hb hS.1.lt, hS.2.trans (hb.mono hS.2.size)⟩) ?_
      intro W46 hb1 hS2
      simp only [Act.put, List.setIfInBounds_toArray, List.set_cons_zero, List.set_cons_succ]
      have K8n := Lib.hid (K8.out.below hb1 K8.out.lt)
      clear K8
      have K8 := K8n
      clear K8n
      clear K5
      clear HBW
      clear hS
      have hS := hS2
      clear hS2
      have K5 := Lib.hid hS.1
      have HBW := Lib.hid hS.2
      clear hb1
      refine takeSt (i := 9) 32 (.tmp 8) (.tmp 20) M0 0 (.agg (pfC (kyPf (whK false z)))) (pfC (kyPf (whK false z))) (pfC (kyPf (whK false z))) rfl rfl (by kernel_rfl) (by rfl) rfl rfl rfl rfl info_pv (all_pv _ _ _) K8.out (Nat.le_of_ble_eq_true rfl) (pv_over _ _ _ _ _ _) ?_
      intro W47 q1
      refine ⟨⟨K5.out.far q1 (by omega), HBW.out.trans (q1.2.1 _ (by omega))⟩, ?_⟩
      simp only [Act.put, List.setIfInBounds_toArray, List.set_cons_zero, List.set_cons_succ]
      have K8n : Hid (Blk 32 W47 M0 (pfC (kyPf (whK false z)))) := Lib.hid q1.1
      clear K8
      have K8 := K8n
      clear K8n
      have K5n := Lib.hid (K5.out.far q1 (by omega))
      clear K5
      have K5 := K5n
      clear K5n
      have HBWn := Lib.hid (HBW.out.trans (q1.2.1 _ (by omega)))
      clear HBW
      have HBW := HBWn
      clear HBWn
      clear q1 hS
      have hS := (And.intro K5.out HBW.out)
      clear hS
      refine wpAnyH_done (by kernel_rfl) ?_ _
      go_wp2_with fail
      go_meet
      case rel => exact ⟨M0, rfl, le_HBW_M0, K8, HBW⟩
  case rest =>
    obtain ⟨NK8, rfl, hN8, k8, hbc⟩ := hcut
    have b1 := hbc.out
    have K5n := Lib.hid (K5.out.below b1 K5.out.lt)
    clear K5
    have K5 := K5n
    clear K5n
    have K6n := Lib.hid (K6.out.below b1 K6.out.lt)
    clear K6
    have K6 := K6n
    clear K6n
    have HBn := Lib.hid (HB.out.trans (b1.mono HB.out.size))
    clear HB
    have HB := HBn
    clear HBn
    clear b1 hbc
    have K8 := Lib.hid k8.out
    clear k8 K5
    go_wp2_with (refine wpList_v (op := ⟨some 21, _, _, _, _, _⟩) rfl (.agg (rxC rx0)) (bld_rt0 _ _ rfl _) ?_; refine Hid.out ?_)
    refine Lib.hid ?_
    have HB0 := HB
    have K80 := K8
    have K60 := K6
    obtain ⟨NK9, hNK9⟩ : ∃ N, wc.heap.size = N := ⟨_, rfl⟩
    have HNK9 := Lib.hid hNK9
    clear hNK9
    go_wp2_with (refine wpList_new (op := ⟨some 9, _, _, _, _, _⟩) rfl 70 rfl (rxC rx0) zero_rt NK9 HNK9.out ?_; intro wd k1 b1 s1; refine Hid.out ?_)
    refine Lib.hid ?_
    have KX := Lib.hid k1
    have BX := Lib.hid b1
    clear k1 b1 s1
    go_wp2_with (refine wpList_st rfl 70 (.tmp 9) (.tmp 21) rfl NK9 0 rfl (.agg (rxC rx0)) (rxC rx0) rfl rfl info_rt (rx_one _) KX.out (Nat.le_of_ble_eq_true rfl) (C' := rxC rx0) (rx_over _ _) ?_; intro we q1; refine Hid.out ?_)
    refine Lib.hid ?_
    have b1 : Below wc.heap.size wc we := BX.out.trans (q1.2.1 _ (by rw [HNK9.out]; exact Nat.le_refl _))
    have HBn := Lib.hid (HB.out.trans (b1.mono HB.out.size))
    clear HB
    have HB := HBn
    clear HBn
    have K6n := Lib.hid (K6.out.below b1 K6.out.lt)
    clear K6
    have K6 := K6n
    clear K6n
    have K8n := Lib.hid (K8.out.below b1 K8.out.lt)
    clear K8
    have K8 := K8n
    clear K8n
    have K9 : Hid (Blk 70 we NK9 (rxC rx0)) := Lib.hid q1.1
    clear KX BX q1 b1
    have HNE : Hid (w.heap.size ≤ NK9 ∧ NK8 < NK9 ∧ N2 < NK9 ∧ w.heap.size ≤ N2) := Lib.hid ⟨by rw [← HNK9.out]; exact HB0.out.size, by rw [← HNK9.out]; exact K80.out.lt, by rw [← HNK9.out]; exact K60.out.lt, le_HB_N2⟩
    clear HB0 K80 K60
    go_wp2_with fail
    go_loopw [10, 24] (fun b t wr => ∃ (j : Nat) (bb : Option Nat) (fl : Bool), j ≤ n ∧ b = .bool fl ∧ t = .int .i64 j ∧ Hid (fl = bb.isSome) ∧ Hid (BestX false z X j bb) ∧ Hid (Blk 70 wr NK9 (rxC (bestR X bb))) ∧ Hid (Blk 32 wr NK8 (pfC (kyPf (whK false z)))) ∧ Hid (Blk 70 wr N2 (rxC rx0)) ∧ Hid (Below w.heap.size w wr)) (fun _ t _ => n - (intOf t).toNat)
    case atStart => exact ⟨0, none, false, by omega, rfl, rfl, Lib.hid rfl, Lib.hid best_nil, K9, K8, K6, HB⟩
    case round =>
      obtain ⟨j, bb, fl, hj, rfl, rfl, HFL, HBX, k9, k8, k6, hb⟩ := hrel
      clear K9 K8 K6 HB
      have K9 := k9
      have K8 := k8
      have K6 := k6
      have HB := hb
      clear k9 k8 k6 hb
      by_cases hlt : j < n
      · have HLT := Lib.hid hlt
        have hjj : (j : Int) < (n : Int) := by omega
        have hj0 : (0 : Int) ≤ (j : Int) := by omega
        clear hlt hj
        obtain ⟨b0, o0, rfl, r0⟩ := HR.out.row (by have := HLT.out; omega)
        have R0 : Hid (wr.rangeAt b0 (o0 + j * 21) (rxC (X j)).toList) := Lib.hid (rangeAt_below (r0.2 j HLT.out) HB.out r0.1)
        clear r0
        go_wp2_with (refine wpList_ld (op := ⟨some 27, _, _, _, _, _⟩) (by rfl) 70 (.tmp 26) rfl b0 (o0 + j * 21) rfl (rxC (X j)) _ R0.out Try.underlying70 rfl info_rt ?_; refine Hid.out ?_)
        refine Lib.hid ?_
        clear R0
        obtain ⟨NK12, hNK12⟩ : ∃ N, wr.heap.size = N := ⟨_, rfl⟩
        have HNK12 := Lib.hid hNK12
        clear hNK12
        go_wp2_with (refine wpList_new (op := ⟨some 12, _, _, _, _, _⟩) rfl 70 rfl (rxC rx0) zero_rt NK12 HNK12.out ?_; intro w11 k1 b1 s1; refine Hid.out ?_)
        refine Lib.hid ?_
        have KX := Lib.hid k1
        have BX := Lib.hid b1
        clear k1 b1 s1
        go_wp2_with (refine wpList_st rfl 70 (.tmp 12) (.tmp 27) rfl NK12 0 rfl (.agg (rxC (X j))) (rxC (X j)) rfl rfl info_rt (rx_one _) KX.out (Nat.le_of_ble_eq_true rfl) (C' := rxC (X j)) (rx_over _ _) ?_; intro w12 q1; refine Hid.out ?_)
        refine Lib.hid ?_
        have b1 : Below wr.heap.size wr w12 := BX.out.trans (q1.2.1 _ (by rw [HNK12.out]; exact Nat.le_refl _))
        have HBn := Lib.hid (HB.out.trans (b1.mono HB.out.size))
        clear HB
        have HB := HBn
        clear HBn
        have K6n := Lib.hid (K6.out.below b1 K6.out.lt)
        clear K6
        have K6 := K6n
        clear K6n
        have K8n := Lib.hid (K8.out.below b1 K8.out.lt)
        clear K8
        have K8 := K8n
        clear K8n
        have K9n := Lib.hid (K9.out.below b1 K9.out.lt)
        clear K9
        have K9 := K9n
        clear K9n
        have K12 : Hid (Blk 70 w12 NK12 (rxC (X j))) := Lib.hid q1.1
        clear KX BX q1 b1 HNK12
        obtain ⟨cv, hcv⟩ : ∃ cv, cvX false z (X j).r = cv := ⟨_, rfl⟩
        have HCV := Lib.hid (hcv)
        clear hcv
        go_wp2_with (refine wpList_ld (op := ⟨some 29, _, _, _, _, _⟩) (by rfl) 32 (.tmp 28) rfl NK12 (0) rfl (pfC (X j).r.p) _ K12.out.rxpf Try.underlying32 rfl (hi_pv _ _ _) ?_; refine Hid.out ?_)
        refine Lib.hid ?_
        go_wp2_with (refine wpList_ld (op := ⟨some 30, _, _, _, _, _⟩) (by rfl) 32 (.tmp 8) rfl NK8 (0) rfl (pfC (kyPf (whK false z))) _ K8.out.all Try.underlying32 rfl (hi_pv _ _ _) ?_; refine Hid.out ?_)
        refine Lib.hid ?_
        go_wp2_with fail
        refine (covX_any (HRB.out j).p (HFO.out j HLT.out) false HZ.out cv HCV.out w12).mono ?_
        rintro e w13 ⟨rfl, b1⟩
        have HBn := Lib.hid (HB.out.trans (b1.mono HB.out.size))
        clear HB
        have HB := HBn
        clear HBn
        have K6n := Lib.hid (K6.out.below b1 K6.out.lt)
        clear K6
        have K6 := K6n
        clear K6n
        have K8n := Lib.hid (K8.out.below b1 K8.out.lt)
        clear K8
        have K8 := K8n
        clear K8n
        have K9n := Lib.hid (K9.out.below b1 K9.out.lt)
        clear K9
        have K9 := K9n
        clear K9n
        have K12n := Lib.hid (K12.out.below b1 K12.out.lt)
        clear K12
        have K12 := K12n
        clear K12n
        clear b1
        cases cv with
        | false =>
          go_wp2_with fail
          go_roundw
          case rel => exact ⟨j + 1, bb, fl, HLT.out, rfl, by go_num, HFL, Lib.hid (best_no HBX.out HCV.out), K9, K8, K6, HB⟩
          case measure => have := HLT.out; simp only [intOf]; omega
        | true =>
          cases bb with
          | none =>
            obtain rfl : fl = false := HFL.out
            go_upto_region 7 with (fail)
            go_wp2_with (refine wpList_ld (op := ⟨some 45, _, _, _, _, _⟩) (by rfl) 70 (.tmp 12) rfl NK12 (0) rfl (rxC (X j)) _ K12.out.all Try.underlying70 rfl info_rt ?_; refine Hid.out ?_)
            refine Lib.hid ?_
            go_wp2_with (refine wpList_st rfl 70 (.tmp 9) (.tmp 45) rfl NK9 0 rfl (.agg (rxC (X j))) (rxC (X j)) rfl rfl info_rt (rx_one _) K9.out (Nat.le_of_ble_eq_true rfl) (C' := rxC (X j)) (rx_over _ _) ?_; intro wq q1; refine Hid.out ?_)
            refine Lib.hid ?_
            have K8n : Hid (Blk 32 wq NK8 (pfC (kyPf (whK false z)))) := Lib.hid ((q1.2.2 NK8 (by have := HNE.out; omega)).trans K8.out)
            have K6n : Hid (Blk 70 wq N2 (rxC rx0)) := Lib.hid ((q1.2.2 N2 (by have := HNE.out; omega)).trans K6.out)
            have K9n : Hid (Blk 70 wq NK9 (rxC (X j))) := Lib.hid q1.1
            have HBn := Lib.hid (HB.out.trans (q1.2.1 _ (by have := HNE.out; omega)))
            clear K8 K6 K9 HB q1 K12
            have K8 := K8n
            clear K8n
            have K6 := K6n
            clear K6n
            have K9 := K9n
            clear K9n
            have HB := HBn
            clear HBn
            go_wp2_with fail
            go_roundw
            case rel => exact ⟨j + 1, some j, true, HLT.out, rfl, by go_num, Lib.hid rfl, Lib.hid (best_first HBX.out HCV.out), K9, K8, K6, HB⟩
            case measure => have := HLT.out; simp only [intOf]; omega
          | some q =>
            obtain rfl : fl = true := HFL.out
            have c12 : w13.cell? ⟨NK12, 1, none⟩ = some (.int .i64 (X j).r.p.len) := (K12.out.cell 1).trans rfl
            have c9 : w13.cell? ⟨NK9, 1, none⟩ = some (.int .i64 (X q).r.p.len) := (K9.out.cell 1).trans rfl
            by_cases hq : (X q).r.p.len < (X j).r.p.len
            · have HQ := Lib.hid hq
              go_upto_region 7 with (fail)
              go_wp2_with (refine wpList_ld (op := ⟨some 45, _, _, _, _, _⟩) (by rfl) 70 (.tmp 12) rfl NK12 (0) rfl (rxC (X j)) _ K12.out.all Try.underlying70 rfl info_rt ?_; refine Hid.out ?_)
              refine Lib.hid ?_
              go_wp2_with (refine wpList_st rfl 70 (.tmp 9) (.tmp 45) rfl NK9 0 rfl (.agg (rxC (X j))) (rxC (X j)) rfl rfl info_rt (rx_one _) K9.out (Nat.le_of_ble_eq_true rfl) (C' := rxC (X j)) (rx_over _ _) ?_; intro wq q1; refine Hid.out ?_)
              refine Lib.hid ?_
              have K8n : Hid (Blk 32 wq NK8 (pfC (kyPf (whK false z)))) := Lib.hid ((q1.2.2 NK8 (by have := HNE.out; omega)).trans K8.out)
              have K6n : Hid (Blk 70 wq N2 (rxC rx0)) := Lib.hid ((q1.2.2 N2 (by have := HNE.out; omega)).trans K6.out)
              have K9n : Hid (Blk 70 wq NK9 (rxC (X j))) := Lib.hid q1.1
              have HBn := Lib.hid (HB.out.trans (q1.2.1 _ (by have := HNE.out; omega)))
              clear K8 K6 K9 HB q1 K12
              have K8 := K8n
              clear K8n
              have K6 := K6n
              clear K6n
              have K9 := K9n
              clear K9n
              have HB := HBn
              clear HBn
              go_wp2_with fail
              go_roundw
              case rel => exact ⟨j + 1, some j, true, HLT.out, rfl, by go_num, Lib.hid rfl, Lib.hid (best_more HBX.out HCV.out HQ.out), K9, K8, K6, HB⟩
              case measure => have := HLT.out; simp only [intOf]; omega
            · have HQ := Lib.hid hq
              go_wp2_with fail
              go_roundw
              case rel => exact ⟨j + 1, some q, true, HLT.out, rfl, by go_num, Lib.hid rfl, Lib.hid (best_less HBX.out (by have := HQ.out; omega)), K9, K8, K6, HB⟩
              case measure => have := HLT.out; simp only [intOf]; omega
      · obtain rfl : n = j := by omega
        go_wp2_with (refine wpList_ld (op := ⟨some 47, _, _, _, _, _⟩) (by rfl) 70 (.tmp 9) rfl NK9 (0) rfl (rxC (bestR X bb)) _ K9.out.all Try.underlying70 rfl info_rt ?_; refine Hid.out ?_)
        refine Lib.hid ?_
        go_wp2_with (refine wpList_st rfl 70 (.tmp 6) (.tmp 47) rfl N2 0 rfl (.agg (rxC (bestR X bb))) (rxC (bestR X bb)) rfl rfl info_rt (rx_one _) K6.out (Nat.le_of_ble_eq_true rfl) (C' := rxC (bestR X bb)) (rx_over _ _) ?_; intro wq q1; refine Hid.out ?_)
        refine Lib.hid ?_
        have K6n : Hid (Blk 70 wq N2 (rxC (bestR X bb))) := Lib.hid q1.1
        have HBn := Lib.hid (HB.out.trans (q1.2.1 _ (by have := HNE.out; omega)))
        clear q1
        go_wp2_with fail
        exact bodyPost_ret (results_2R rfl _ _ N2 (rxC (bestR X bb)) (.bool fl) Try.underlying70 rfl info_rt rfl rfl K6n.out) rfl ⟨HBn.out, bb, HBX.out, by rw [HFL.out]⟩
set_option maxHeartbeats 32000000 in
set_option maxRecDepth 100000 in
theorem rfind_6 (X : Nat → Rx) (A : Option Addr) (n c : Nat) (z : Nat → Int) (hz : Bytes z) (w : World) (hr : RdR w A n 21 (fun j => rxC (X j))) (hb : ∀ j, RtB (X j).r) (hf : ∀ j, j < n → FmX (X j).r) (hn : n ≤ 500) : Calls Try.prog 37 #[.slice A n c, .int .u8 6, .agg (agC z)] w (RFindQ w true z n X) := by
  have HR := Lib.hid hr
  have HRB := Lib.hid hb
  have HFO := Lib.hid hf
  have HZ := Lib.hid hz
  have HN := Lib.hid hn
  have hnI : (n : Int) ≤ 9223372036854775807 := by omega
  clear hr hb hf hz hn
  go_enter Try.func37, Try.ntmps37
  have HB := Lib.hid (Below.refl w.heap.size w)
  obtain ⟨N1, hN1⟩ : ∃ N, w.heap.size = N := ⟨_, rfl⟩
  have HN1 := Lib.hid hN1
  clear hN1
  go_wp2_with (refine wpList_box (op := ⟨some 5, _, _, _, _, _⟩) rfl 23 (.tmp 2) rfl (agC z) rfl N1 HN1.out ?_; intro w1 k1 b1 s1; refine Hid.out ?_)
  refine Lib.hid ?_
  have K5 := Lib.hid k1
  clear k1
  have le_HB_N1 : w.heap.size ≤ N1 := by rw [← HN1.out]; exact HB.out.size
  have HBn := Lib.hid (HB.out.trans (b1.mono HB.out.size))
  clear HB
  have HB := HBn
  clear HBn
  clear b1 HN1
  obtain ⟨N2, hN2⟩ : ∃ N, w1.heap.size = N := ⟨_, rfl⟩
  have HN2 := Lib.hid hN2
  clear hN2
  go_wp2_with (refine wpList_new (op := ⟨some 6, _, _, _, _, _⟩) rfl 70 rfl (rxC rx0) zero_rt N2 HN2.out ?_; intro w2 k1 b1 s1; refine Hid.out ?_)
  refine Lib.hid ?_
  have K6 := Lib.hid k1
  clear k1
  have lt_N1_N2 : N1 < N2 := by rw [← HN2.out]; exact K5.out.lt
  have le_HB_N2 : w.heap.size ≤ N2 := by rw [← HN2.out]; exact HB.out.size
  have K5n := Lib.hid (K5.out.below b1 K5.out.lt)
  clear K5
  have K5 := K5n
  clear K5n
  have HBn := Lib.hid (HB.out.trans (b1.mono HB.out.size))
  clear HB
  have HB := HBn
  clear HBn
  clear b1 HN2
  go_wp2_with fail
  go_cut [8] (fun s1 wc => ∃ N, s1 = .pointer (some ⟨N, 0, none⟩) ∧ w2.heap.size ≤ N ∧ Hid (Blk 32 wc N (pfC (kyPf (whK true z)))) ∧ Hid (Below w2.heap.size w2 wc))
  case first =>
    have HBW := Lib.hid (Below.refl w2.heap.size w2)
    refine wp_region_held_drew (S := fun w' => Blk 23 w' N1 (agC z) ∧ Below w2.heap.size w2 w') (by kernel_rfl) ⟨K5.out, HBW.out.drew⟩ (fun hS => ?_)
    generalize hW41 : w2.drew = W41 at hS  ⊢
    clear hW41
    clear K5
    clear HBW
    have K5 := Lib.hid hS.1
    have HBW := Lib.hid hS.2
    refine takeY (i := 0) (some 13) (v := .int .u8 6) rfl rfl (by kernel_rfl) (by kernel_rfl) (by kernel_rfl) (fun _ _ _ h => h) (by rfl) (fun w' hS => by clear hS; go_simp) hS ?_
    simp only [Act.put, List.setIfInBounds_toArray, List.set_cons_zero, List.set_cons_succ]
    refine takeY (i := 1) (some 14) (v := .int .u8 6) rfl rfl (by kernel_rfl) (by kernel_rfl) (by kernel_rfl) (fun _ _ _ h => h) (by rfl) (fun w' hS => by clear hS; go_simp) hS ?_
    simp only [Act.put, List.setIfInBounds_toArray, List.set_cons_zero, List.set_cons_succ]
    refine takeL (i := 3) (some 16) 23 (.tmp 5) N1 0 (agC z) _ rfl rfl (by kernel_rfl) (by kernel_rfl) (by kernel_rfl) (fun _ _ _ h => h) (by rfl) rfl rfl (fun w' hS => hS.1.all) Try.underlying23 rfl (hi_ag z) hS ?_
    simp only [Act.put, List.setIfInBounds_toArray, List.set_cons_zero, List.set_cons_succ]
    refine takeY (i := 5) (some 18) (v := .int .u8 6) rfl rfl (by kernel_rfl) (by kernel_rfl) (by kernel_rfl) (fun _ _ _ h => h) (by rfl) (fun w' hS => by clear hS; go_simp) hS ?_
    simp only [Act.put, List.setIfInBounds_toArray, List.set_cons_zero, List.set_cons_succ]
    obtain ⟨M0, hM0⟩ : ∃ N, W41.heap.size = N := ⟨_, rfl⟩
    have HM0 := Lib.hid hM0
    clear hM0
    refine wpAnyH_ready (show Region.ready _ _ _ = [2, 8] from by kernel_rfl) (by simp) (consC (i := 2) (some 15) 25 #[.int .u8 6] (.int .i64 (lenB true : Int)) (R := fun w' => Below W41.heap.size W41 w') rfl rfl (by rfl) (by go_simp) (bits_pl true _) (fun w' hb => ⟨hS.1.below hb hS.1.lt, hS.2.trans (hb.mono hS.2.size)⟩) ?_ (consMk (i := 8) (some 8) 32 (pvC 0 0 Z0) rfl rfl (by rfl) rfl zero_pvT M0 HM0.out ?_ AllReadyH.nil))
    · skip
      clear HM0
      intro W42 hb1 hS2
      simp only [Act.put, List.setIfInBounds_toArray, List.set_cons_zero, List.set_cons_succ]
      clear K5
      clear HBW
      clear hS
      have hS := hS2
      clear hS2
      have K5 := Lib.hid hS.1
      have HBW := Lib.hid hS.2
      refine takeY (i := 4) (some 17) (v := .agg (pvC (famB true) (lenB true : Nat) z)) rfl rfl (by kernel_rfl) (by kernel_rfl) (by kernel_rfl) (fun _ _ _ h => h) (by rfl) (fun w' hS => by clear hS; exact build_pv _ _ _ _ _ rfl (famB true) (lenB true : Nat) z rfl rfl rfl _) hS ?_
      simp only [Act.put, List.setIfInBounds_toArray, List.set_cons_zero, List.set_cons_succ]
      clear hb1
      obtain ⟨M1, hM1⟩ : ∃ N, W42.heap.size = N := ⟨_, rfl⟩
      have HM1 := Lib.hid hM1
      clear hM1
      refine wpAnyH_ready (show Region.ready _ _ _ = [6, 8] from by kernel_rfl) (by simp) (consC (i := 6) (some 19) 25 #[.int .u8 6] (.int .i64 (lenB true : Int)) (R := fun w' => Below W42.heap.size W42 w') rfl rfl (by rfl) (by go_simp) (bits_pl true _) (fun w' hb => ⟨hS.1.below hb hS.1.lt, hS.2.trans (hb.mono hS.2.size)⟩) ?_ (consMk (i := 8) (some 8) 32 (pvC 0 0 Z0) rfl rfl (by rfl) rfl zero_pvT M1 HM1.out ?_ AllReadyH.nil))
      · skip
        clear HM1
        intro W43 hb1 hS2
        simp only [Act.put, List.setIfInBounds_toArray, List.set_cons_zero, List.set_cons_succ]
        clear K5
        clear HBW
        clear hS
        have hS := hS2
        clear hS2
        have K5 := Lib.hid hS.1
        have HBW := Lib.hid hS.2
        clear hb1
        obtain ⟨M2, hM2⟩ : ∃ N, W43.heap.size = N := ⟨_, rfl⟩
        have HM2 := Lib.hid hM2
        clear hM2
        refine wpAnyH_ready (show Region.ready _ _ _ = [7, 8] from by kernel_rfl) (by simp) (consC (i := 7) (some 20) 67 #[.agg (pvC (famB true) (lenB true : Nat) z), .int .i64 (lenB true : Int)] (.agg (pfC (kyPf (whK true z)))) (R := fun w' => Below W43.heap.size W43 w') rfl rfl (by rfl) (by go_simp) (first_wh true z HZ.out _) (fun w' hb => ⟨hS.1.below hb hS.1.lt, hS.2.trans (hb.mono hS.2.size)⟩) ?_ (consMk (i := 8) (some 8) 32 (pvC 0 0 Z0) rfl rfl (by rfl) rfl zero_pvT M2 HM2.out ?_ AllReadyH.nil))
        · skip
          clear HM2
          intro W44 hb1 hS2
          simp only [Act.put, List.setIfInBounds_toArray, List.set_cons_zero, List.set_cons_succ]
          clear K5
          clear HBW
          clear hS
          have hS := hS2
          clear hS2
          have K5 := Lib.hid hS.1
          have HBW := Lib.hid hS.2
          clear hb1
          obtain ⟨M3, hM3⟩ : ∃ N, W44.heap.size = N := ⟨_, rfl⟩
          have HM3 := Lib.hid hM3
          clear hM3
          refine takeMk (i := 8) (some 8) 32 (pvC 0 0 Z0) rfl rfl (by kernel_rfl) (by rfl) rfl zero_pvT M3 HM3.out ?_
          intro W45 k1 b1 s1
          refine ⟨⟨hS.1.below b1 hS.1.lt, hS.2.trans (b1.mono hS.2.size)⟩, ?_⟩
          simp only [Act.put, List.setIfInBounds_toArray, List.set_cons_zero, List.set_cons_succ]
          have K8 := Lib.hid k1
          clear k1
          have lt_N1_M3 : N1 < M3 := by rw [← HM3.out]; exact K5.out.lt
          have le_HBW_M3 : w2.heap.size ≤ M3 := by rw [← HM3.out]; exact HBW.out.size
          have K5n := Lib.hid (K5.out.below b1 K5.out.lt)
          clear K5
          have K5 := K5n
          clear K5n
          have HBWn := Lib.hid (HBW.out.trans (b1.mono HBW.out.size))
          clear HBW
          have HBW := HBWn
          clear HBWn
          clear b1 HM3 hS
          have hS := (And.intro K5.out HBW.out)
          refine takeSt (i := 9) 32 (.tmp 8) (.tmp 20) M3 0 (.agg (pfC (kyPf (whK true z)))) (pfC (kyPf (whK true z))) (pfC (kyPf (whK true z))) rfl rfl (by kernel_rfl) (by rfl) rfl rfl rfl rfl info_pv (all_pv _ _ _) K8.out (Nat.le_of_ble_eq_true rfl) (pv_over _ _ _ _ _ _) ?_
          intro W46 q1
          refine ⟨⟨K5.out.far q1 (by omega), HBW.out.trans (q1.2.1 _ (by omega))⟩, ?_⟩
          simp only [Act.put, List.setIfInBounds_toArray, List.set_cons_zero, List.set_cons_succ]
          have K8n : Hid (Blk 32 W46 M3 (pfC (kyPf (whK true z)))) := Lib.hid q1.1
          clear K8
          have K8 := K8n
          clear K8n
          have K5n := Lib.hid (K5.out.far q1 (by omega))
          clear K5
          have K5 := K5n
          clear K5n
          have HBWn := Lib.hid (HBW.out.trans (q1.2.1 _ (by omega)))
          clear HBW
          have HBW := HBWn
          clear HBWn
          clear q1 hS
          have hS := (And.intro K5.out HBW.out)
          clear hS
          refine wpAnyH_done (by kernel_rfl) ?_ _
          go_wp2_with fail
          go_meet
          case rel => exact ⟨M3, rfl, le_HBW_M3, K8, HBW⟩
        · skip
          intro W45 k1 b1 s1
          refine ⟨⟨hS.1.below b1 hS.1.lt, hS.2.trans (b1.mono hS.2.size)⟩, ?_⟩
          simp only [Act.put, List.setIfInBounds_toArray, List.set_cons_zero, List.set_cons_succ]
          have K8 := Lib.hid k1
          clear k1
          have lt_N1_M2 : N1 < M2 := by rw [← HM2.out]; exact K5.out.lt
          have le_HBW_M2 : w2.heap.size ≤ M2 := by rw [← HM2.out]; exact HBW.out.size
          have K5n := Lib.hid (K5.out.below b1 K5.out.lt)
          clear K5
          have K5 := K5n
          clear K5n
          have HBWn := Lib.hid (HBW.out.trans (b1.mono HBW.out.size))
          clear HBW
          have HBW := HBWn
          clear HBWn
          clear b1 HM2 hS
          have hS := (And.intro K5.out HBW.out)
          refine takeC (i := 7) (some 20) 67 #[.agg (pvC (famB true) (lenB true : Nat) z), .int .i64 (lenB true : Int)] (.agg (pfC (kyPf (whK true z)))) (R := fun w' => Below W45.heap.size W45 w') rfl rfl (by kernel_rfl) (by rfl) (by go_simp) (first_wh true z HZ.out _) (fun w' hb => ⟨hS.1.below hb hS.1.lt, hS.2.trans (hb.mono hS.2.size)⟩) ?_
          intro W46 hb1 hS2
          simp only [Act.put, List.setIfInBounds_toArray, List.set_cons_zero, List.set_cons_succ]
          have K8n := Lib.hid (K8.out.below hb1 K8.out.lt)
          clear K8
          have K8 := K8n
          clear K8n
          clear K5
          clear HBW
          clear hS
          have hS := hS2
          clear hS2
          have K5 := Lib.hid hS.1
          have HBW := Lib.hid hS.2
          clear hb1
          refine takeSt (i := 9) 32 (.tmp 8) (.tmp 20) M2 0 (.agg (pfC (kyPf (whK true z)))) (pfC (kyPf (whK true z))) (pfC (kyPf (whK true z))) rfl rfl (by kernel_rfl) (by rfl) rfl rfl rfl rfl info_pv (all_pv _ _ _) K8.out (Nat.le_of_ble_eq_true rfl) (pv_over _ _ _ _ _ _) ?_
          intro W47 q1
          refine ⟨⟨K5.out.far q1 (by omega), HBW.out.trans (q1.2.1 _ (by omega))⟩, ?_⟩
          simp only [Act.put, List.setIfInBounds_toArray, List.set_cons_zero, List.set_cons_succ]
          have K8n : Hid (Blk 32 W47 M2 (pfC (kyPf (whK true z)))) := Lib.hid q1.1
          clear K8
          have K8 := K8n
          clear K8n
          have K5n := Lib.hid (K5.out.far q1 (by omega))
          clear K5
          have K5 := K5n
          clear K5n
          have HBWn := Lib.hid (HBW.out.trans (q1.2.1 _ (by omega)))
          clear HBW
          have HBW := HBWn
          clear HBWn
          clear q1 hS
          have hS := (And.intro K5.out HBW.out)
          clear hS
          refine wpAnyH_done (by kernel_rfl) ?_ _
          go_wp2_with fail
          go_meet
          case rel => exact ⟨M2, rfl, le_HBW_M2, K8, HBW⟩
      · skip
        intro W44 k1 b1 s1
        refine ⟨⟨hS.1.below b1 hS.1.lt, hS.2.trans (b1.mono hS.2.size)⟩, ?_⟩
        simp only [Act.put, List.setIfInBounds_toArray, List.set_cons_zero, List.set_cons_succ]
        have K8 := Lib.hid k1
        clear k1
        have lt_N1_M1 : N1 < M1 := by rw [← HM1.out]; exact K5.out.lt
        have le_HBW_M1 : w2.heap.size ≤ M1 := by rw [← HM1.out]; exact HBW.out.size
        have K5n := Lib.hid (K5.out.below b1 K5.out.lt)
        clear K5
        have K5 := K5n
        clear K5n
        have HBWn := Lib.hid (HBW.out.trans (b1.mono HBW.out.size))
        clear HBW
        have HBW := HBWn
        clear HBWn
        clear b1 HM1 hS
        have hS := (And.intro K5.out HBW.out)
        refine takeC (i := 6) (some 19) 25 #[.int .u8 6] (.int .i64 (lenB true : Int)) (R := fun w' => Below W44.heap.size W44 w') rfl rfl (by kernel_rfl) (by rfl) (by go_simp) (bits_pl true _) (fun w' hb => ⟨hS.1.below hb hS.1.lt, hS.2.trans (hb.mono hS.2.size)⟩) ?_
        intro W45 hb1 hS2
        simp only [Act.put, List.setIfInBounds_toArray, List.set_cons_zero, List.set_cons_succ]
        have K8n := Lib.hid (K8.out.below hb1 K8.out.lt)
        clear K8
        have K8 := K8n
        clear K8n
        clear K5
        clear HBW
        clear hS
        have hS := hS2
        clear hS2
        have K5 := Lib.hid hS.1
        have HBW := Lib.hid hS.2
        clear hb1
        refine takeC (i := 7) (some 20) 67 #[.agg (pvC (famB true) (lenB true : Nat) z), .int .i64 (lenB true : Int)] (.agg (pfC (kyPf (whK true z)))) (R := fun w' => Below W45.heap.size W45 w') rfl rfl (by kernel_rfl) (by rfl) (by go_simp) (first_wh true z HZ.out _) (fun w' hb => ⟨hS.1.below hb hS.1.lt, hS.2.trans (hb.mono hS.2.size)⟩) ?_
        intro W46 hb1 hS2
        simp only [Act.put, List.setIfInBounds_toArray, List.set_cons_zero, List.set_cons_succ]
        have K8n := Lib.hid (K8.out.below hb1 K8.out.lt)
        clear K8
        have K8 := K8n
        clear K8n
        clear K5
        clear HBW
        clear hS
        have hS := hS2
        clear hS2
        have K5 := Lib.hid hS.1
        have HBW := Lib.hid hS.2
        clear hb1
        refine takeSt (i := 9) 32 (.tmp 8) (.tmp 20) M1 0 (.agg (pfC (kyPf (whK true z)))) (pfC (kyPf (whK true z))) (pfC (kyPf (whK true z))) rfl rfl (by kernel_rfl) (by rfl) rfl rfl rfl rfl info_pv (all_pv _ _ _) K8.out (Nat.le_of_ble_eq_true rfl) (pv_over _ _ _ _ _ _) ?_
        intro W47 q1
        refine ⟨⟨K5.out.far q1 (by omega), HBW.out.trans (q1.2.1 _ (by omega))⟩, ?_⟩
        simp only [Act.put, List.setIfInBounds_toArray, List.set_cons_zero, List.set_cons_succ]
        have K8n : Hid (Blk 32 W47 M1 (pfC (kyPf (whK true z)))) := Lib.hid q1.1
        clear K8
        have K8 := K8n
        clear K8n
        have K5n := Lib.hid (K5.out.far q1 (by omega))
        clear K5
        have K5 := K5n
        clear K5n
        have HBWn := Lib.hid (HBW.out.trans (q1.2.1 _ (by omega)))
        clear HBW
        have HBW := HBWn
        clear HBWn
        clear q1 hS
        have hS := (And.intro K5.out HBW.out)
        clear hS
        refine wpAnyH_done (by kernel_rfl) ?_ _
        go_wp2_with fail
        go_meet
        case rel => exact ⟨M1, rfl, le_HBW_M1, K8, HBW⟩
    · skip
      intro W43 k1 b1 s1
      refine ⟨⟨hS.1.below b1 hS.1.lt, hS.2.trans (b1.mono hS.2.size)⟩, ?_⟩
      simp only [Act.put, List.setIfInBounds_toArray, List.set_cons_zero, List.set_cons_succ]
      have K8 := Lib.hid k1
      clear k1
      have lt_N1_M0 : N1 < M0 := by rw [← HM0.out]; exact K5.out.lt
      have le_HBW_M0 : w2.heap.size ≤ M0 := by rw [← HM0.out]; exact HBW.out.size
      have K5n := Lib.hid (K5.out.below b1 K5.out.lt)
      clear K5
      have K5 := K5n
      clear K5n
      have HBWn := Lib.hid (HBW.out.trans (b1.mono HBW.out.size))
      clear HBW
      have HBW := HBWn
      clear HBWn
      clear b1 HM0 hS
      have hS := (And.intro K5.out HBW.out)
      refine takeC (i := 2) (some 15) 25 #[.int .u8 6] (.int .i64 (lenB true : Int)) (R := fun w' => Below W43.heap.size W43 w') rfl rfl (by kernel_rfl) (by rfl) (by go_simp) (bits_pl true _) (fun w' hb => ⟨hS.1.below hb hS.1.lt, hS.2.trans (hb.mono hS.2.size)⟩) ?_
      intro W44 hb1 hS2
      simp only [Act.put, List.setIfInBounds_toArray, List.set_cons_zero, List.set_cons_succ]
      have K8n := Lib.hid (K8.out.below hb1 K8.out.lt)
      clear K8
      have K8 := K8n
      clear K8n
      clear K5
      clear HBW
      clear hS
      have hS := hS2
      clear hS2
      have K5 := Lib.hid hS.1
      have HBW := Lib.hid hS.2
      refine takeY (i := 4) (some 17) (v := .agg (pvC (famB true) (lenB true : Nat) z)) rfl rfl (by kernel_rfl) (by kernel_rfl) (by kernel_rfl) (fun _ _ _ h => h) (by rfl) (fun w' hS => by clear hS; exact build_pv _ _ _ _ _ rfl (famB true) (lenB true : Nat) z rfl rfl rfl _) hS ?_
      simp only [Act.put, List.setIfInBounds_toArray, List.set_cons_zero, List.set_cons_succ]
      clear hb1
      refine takeC (i := 6) (some 19) 25 #[.int .u8 6] (.int .i64 (lenB true : Int)) (R := fun w' => Below W44.heap.size W44 w') rfl rfl (by kernel_rfl) (by rfl) (by go_simp) (bits_pl true _) (fun w' hb => ⟨hS.1.below hb hS.1.lt, hS.2.trans (hb.mono hS.2.size)⟩) ?_
      intro W45 hb1 hS2
      simp only [Act.put, List.setIfInBounds_toArray, List.set_cons_zero, List.set_cons_succ]
      have K8n := Lib.hid (K8.out.below hb1 K8.out.lt)
      clear K8
      have K8 := K8n
      clear K8n
      clear K5
      clear HBW
      clear hS
      have hS := hS2
      clear hS2
      have K5 := Lib.hid hS.1
      have HBW := Lib.hid hS.2
      clear hb1
      refine takeC (i := 7) (some 20) 67 #[.agg (pvC (famB true) (lenB true : Nat) z), .int .i64 (lenB true : Int)] (.agg (pfC (kyPf (whK true z)))) (R := fun w' => Below W45.heap.size W45 w') rfl rfl (by kernel_rfl) (by rfl) (by go_simp) (first_wh true z HZ.out _) (fun w' hb => ⟨hS.1.below hb hS.1.lt, hS.2.trans (hb.mono hS.2.size)⟩) ?_
      intro W46 hb1 hS2
      simp only [Act.put, List.setIfInBounds_toArray, List.set_cons_zero, List.set_cons_succ]
      have K8n := Lib.hid (K8.out.below hb1 K8.out.lt)
      clear K8
      have K8 := K8n
      clear K8n
      clear K5
      clear HBW
      clear hS
      have hS := hS2
      clear hS2
      have K5 := Lib.hid hS.1
      have HBW := Lib.hid hS.2
      clear hb1
      refine takeSt (i := 9) 32 (.tmp 8) (.tmp 20) M0 0 (.agg (pfC (kyPf (whK true z)))) (pfC (kyPf (whK true z))) (pfC (kyPf (whK true z))) rfl rfl (by kernel_rfl) (by rfl) rfl rfl rfl rfl info_pv (all_pv _ _ _) K8.out (Nat.le_of_ble_eq_true rfl) (pv_over _ _ _ _ _ _) ?_
      intro W47 q1
      refine ⟨⟨K5.out.far q1 (by omega), HBW.out.trans (q1.2.1 _ (by omega))⟩, ?_⟩
      simp only [Act.put, List.setIfInBounds_toArray, List.set_cons_zero, List.set_cons_succ]
      have K8n : Hid (Blk 32 W47 M0 (pfC (kyPf (whK true z)))) := Lib.hid q1.1
      clear K8
      have K8 := K8n
      clear K8n
      have K5n := Lib.hid (K5.out.far q1 (by omega))
      clear K5
      have K5 := K5n
      clear K5n
      have HBWn := Lib.hid (HBW.out.trans (q1.2.1 _ (by omega)))
      clear HBW
      have HBW := HBWn
      clear HBWn
      clear q1 hS
      have hS := (And.intro K5.out HBW.out)
      clear hS
      refine wpAnyH_done (by kernel_rfl) ?_ _
      go_wp2_with fail
      go_meet
      case rel => exact ⟨M0, rfl, le_HBW_M0, K8, HBW⟩
  case rest =>
    obtain ⟨NK8, rfl, hN8, k8, hbc⟩ := hcut
    have b1 := hbc.out
    have K5n := Lib.hid (K5.out.below b1 K5.out.lt)
    clear K5
    have K5 := K5n
    clear K5n
    have K6n := Lib.hid (K6.out.below b1 K6.out.lt)
    clear K6
    have K6 := K6n
    clear K6n
    have HBn := Lib.hid (HB.out.trans (b1.mono HB.out.size))
    clear HB
    have HB := HBn
    clear HBn
    clear b1 hbc
    have K8 := Lib.hid k8.out
    clear k8 K5
    go_wp2_with (refine wpList_v (op := ⟨some 21, _, _, _, _, _⟩) rfl (.agg (rxC rx0)) (bld_rt0 _ _ rfl _) ?_; refine Hid.out ?_)
    refine Lib.hid ?_
    have HB0 := HB
    have K80 := K8
    have K60 := K6
    obtain ⟨NK9, hNK9⟩ : ∃ N, wc.heap.size = N := ⟨_, rfl⟩
    have HNK9 := Lib.hid hNK9
    clear hNK9
    go_wp2_with (refine wpList_new (op := ⟨some 9, _, _, _, _, _⟩) rfl 70 rfl (rxC rx0) zero_rt NK9 HNK9.out ?_; intro wd k1 b1 s1; refine Hid.out ?_)
    refine Lib.hid ?_
    have KX := Lib.hid k1
    have BX := Lib.hid b1
    clear k1 b1 s1
    go_wp2_with (refine wpList_st rfl 70 (.tmp 9) (.tmp 21) rfl NK9 0 rfl (.agg (rxC rx0)) (rxC rx0) rfl rfl info_rt (rx_one _) KX.out (Nat.le_of_ble_eq_true rfl) (C' := rxC rx0) (rx_over _ _) ?_; intro we q1; refine Hid.out ?_)
    refine Lib.hid ?_
    have b1 : Below wc.heap.size wc we := BX.out.trans (q1.2.1 _ (by rw [HNK9.out]; exact Nat.le_refl _))
    have HBn := Lib.hid (HB.out.trans (b1.mono HB.out.size))
    clear HB
    have HB := HBn
    clear HBn
    have K6n := Lib.hid (K6.out.below b1 K6.out.lt)
    clear K6
    have K6 := K6n
    clear K6n
    have K8n := Lib.hid (K8.out.below b1 K8.out.lt)
    clear K8
    have K8 := K8n
    clear K8n
    have K9 : Hid (Blk 70 we NK9 (rxC rx0)) := Lib.hid q1.1
    clear KX BX q1 b1
    have HNE : Hid (w.heap.size ≤ NK9 ∧ NK8 < NK9 ∧ N2 < NK9 ∧ w.heap.size ≤ N2) := Lib.hid ⟨by rw [← HNK9.out]; exact HB0.out.size, by rw [← HNK9.out]; exact K80.out.lt, by rw [← HNK9.out]; exact K60.out.lt, le_HB_N2⟩
    clear HB0 K80 K60
    go_wp2_with fail
    go_loopw [10, 24] (fun b t wr => ∃ (j : Nat) (bb : Option Nat) (fl : Bool), j ≤ n ∧ b = .bool fl ∧ t = .int .i64 j ∧ Hid (fl = bb.isSome) ∧ Hid (BestX true z X j bb) ∧ Hid (Blk 70 wr NK9 (rxC (bestR X bb))) ∧ Hid (Blk 32 wr NK8 (pfC (kyPf (whK true z)))) ∧ Hid (Blk 70 wr N2 (rxC rx0)) ∧ Hid (Below w.heap.size w wr)) (fun _ t _ => n - (intOf t).toNat)
    case atStart => exact ⟨0, none, false, by omega, rfl, rfl, Lib.hid rfl, Lib.hid best_nil, K9, K8, K6, HB⟩
    case round =>
      obtain ⟨j, bb, fl, hj, rfl, rfl, HFL, HBX, k9, k8, k6, hb⟩ := hrel
      clear K9 K8 K6 HB
      have K9 := k9
      have K8 := k8
      have K6 := k6
      have HB := hb
      clear k9 k8 k6 hb
      by_cases hlt : j < n
      · have HLT := Lib.hid hlt
        have hjj : (j : Int) < (n : Int) := by omega
        have hj0 : (0 : Int) ≤ (j : Int) := by omega
        clear hlt hj
        obtain ⟨b0, o0, rfl, r0⟩ := HR.out.row (by have := HLT.out; omega)
        have R0 : Hid (wr.rangeAt b0 (o0 + j * 21) (rxC (X j)).toList) := Lib.hid (rangeAt_below (r0.2 j HLT.out) HB.out r0.1)
        clear r0
        go_wp2_with (refine wpList_ld (op := ⟨some 27, _, _, _, _, _⟩) (by rfl) 70 (.tmp 26) rfl b0 (o0 + j * 21) rfl (rxC (X j)) _ R0.out Try.underlying70 rfl info_rt ?_; refine Hid.out ?_)
        refine Lib.hid ?_
        clear R0
        obtain ⟨NK12, hNK12⟩ : ∃ N, wr.heap.size = N := ⟨_, rfl⟩
        have HNK12 := Lib.hid hNK12
        clear hNK12
        go_wp2_with (refine wpList_new (op := ⟨some 12, _, _, _, _, _⟩) rfl 70 rfl (rxC rx0) zero_rt NK12 HNK12.out ?_; intro w11 k1 b1 s1; refine Hid.out ?_)
        refine Lib.hid ?_
        have KX := Lib.hid k1
        have BX := Lib.hid b1
        clear k1 b1 s1
        go_wp2_with (refine wpList_st rfl 70 (.tmp 12) (.tmp 27) rfl NK12 0 rfl (.agg (rxC (X j))) (rxC (X j)) rfl rfl info_rt (rx_one _) KX.out (Nat.le_of_ble_eq_true rfl) (C' := rxC (X j)) (rx_over _ _) ?_; intro w12 q1; refine Hid.out ?_)
        refine Lib.hid ?_
        have b1 : Below wr.heap.size wr w12 := BX.out.trans (q1.2.1 _ (by rw [HNK12.out]; exact Nat.le_refl _))
        have HBn := Lib.hid (HB.out.trans (b1.mono HB.out.size))
        clear HB
        have HB := HBn
        clear HBn
        have K6n := Lib.hid (K6.out.below b1 K6.out.lt)
        clear K6
        have K6 := K6n
        clear K6n
        have K8n := Lib.hid (K8.out.below b1 K8.out.lt)
        clear K8
        have K8 := K8n
        clear K8n
        have K9n := Lib.hid (K9.out.below b1 K9.out.lt)
        clear K9
        have K9 := K9n
        clear K9n
        have K12 : Hid (Blk 70 w12 NK12 (rxC (X j))) := Lib.hid q1.1
        clear KX BX q1 b1 HNK12
        obtain ⟨cv, hcv⟩ : ∃ cv, cvX true z (X j).r = cv := ⟨_, rfl⟩
        have HCV := Lib.hid (hcv)
        clear hcv
        go_wp2_with (refine wpList_ld (op := ⟨some 29, _, _, _, _, _⟩) (by rfl) 32 (.tmp 28) rfl NK12 (0) rfl (pfC (X j).r.p) _ K12.out.rxpf Try.underlying32 rfl (hi_pv _ _ _) ?_; refine Hid.out ?_)
        refine Lib.hid ?_
        go_wp2_with (refine wpList_ld (op := ⟨some 30, _, _, _, _, _⟩) (by rfl) 32 (.tmp 8) rfl NK8 (0) rfl (pfC (kyPf (whK true z))) _ K8.out.all Try.underlying32 rfl (hi_pv _ _ _) ?_; refine Hid.out ?_)
        refine Lib.hid ?_
        go_wp2_with fail
        refine (covX_any (HRB.out j).p (HFO.out j HLT.out) true HZ.out cv HCV.out w12).mono ?_
        rintro e w13 ⟨rfl, b1⟩
        have HBn := Lib.hid (HB.out.trans (b1.mono HB.out.size))
        clear HB
        have HB := HBn
        clear HBn
        have K6n := Lib.hid (K6.out.below b1 K6.out.lt)
        clear K6
        have K6 := K6n
        clear K6n
        have K8n := Lib.hid (K8.out.below b1 K8.out.lt)
        clear K8
        have K8 := K8n
        clear K8n
        have K9n := Lib.hid (K9.out.below b1 K9.out.lt)
        clear K9
        have K9 := K9n
        clear K9n
        have K12n := Lib.hid (K12.out.below b1 K12.out.lt)
        clear K12
        have K12 := K12n
        clear K12n
        clear b1
        cases cv with
        | false =>
          go_wp2_with fail
          go_roundw
          case rel => exact ⟨j + 1, bb, fl, HLT.out, rfl, by go_num, HFL, Lib.hid (best_no HBX.out HCV.out), K9, K8, K6, HB⟩
          case measure => have := HLT.out; simp only [intOf]; omega
        | true =>
          cases bb with
          | none =>
            obtain rfl : fl = false := HFL.out
            go_upto_region 7 with (fail)
            go_wp2_with (refine wpList_ld (op := ⟨some 45, _, _, _, _, _⟩) (by rfl) 70 (.tmp 12) rfl NK12 (0) rfl (rxC (X j)) _ K12.out.all Try.underlying70 rfl info_rt ?_; refine Hid.out ?_)
            refine Lib.hid ?_
            go_wp2_with (refine wpList_st rfl 70 (.tmp 9) (.tmp 45) rfl NK9 0 rfl (.agg (rxC (X j))) (rxC (X j)) rfl rfl info_rt (rx_one _) K9.out (Nat.le_of_ble_eq_true rfl) (C' := rxC (X j)) (rx_over _ _) ?_; intro wq q1; refine Hid.out ?_)
            refine Lib.hid ?_
            have K8n : Hid (Blk 32 wq NK8 (pfC (kyPf (whK true z)))) := Lib.hid ((q1.2.2 NK8 (by have := HNE.out; omega)).trans K8.out)
            have K6n : Hid (Blk 70 wq N2 (rxC rx0)) := Lib.hid ((q1.2.2 N2 (by have := HNE.out; omega)).trans K6.out)
            have K9n : Hid (Blk 70 wq NK9 (rxC (X j))) := Lib.hid q1.1
            have HBn := Lib.hid (HB.out.trans (q1.2.1 _ (by have := HNE.out; omega)))
            clear K8 K6 K9 HB q1 K12
            have K8 := K8n
            clear K8n
            have K6 := K6n
            clear K6n
            have K9 := K9n
            clear K9n
            have HB := HBn
            clear HBn
            go_wp2_with fail
            go_roundw
            case rel => exact ⟨j + 1, some j, true, HLT.out, rfl, by go_num, Lib.hid rfl, Lib.hid (best_first HBX.out HCV.out), K9, K8, K6, HB⟩
            case measure => have := HLT.out; simp only [intOf]; omega
          | some q =>
            obtain rfl : fl = true := HFL.out
            have c12 : w13.cell? ⟨NK12, 1, none⟩ = some (.int .i64 (X j).r.p.len) := (K12.out.cell 1).trans rfl
            have c9 : w13.cell? ⟨NK9, 1, none⟩ = some (.int .i64 (X q).r.p.len) := (K9.out.cell 1).trans rfl
            by_cases hq : (X q).r.p.len < (X j).r.p.len
            · have HQ := Lib.hid hq
              go_upto_region 7 with (fail)
              go_wp2_with (refine wpList_ld (op := ⟨some 45, _, _, _, _, _⟩) (by rfl) 70 (.tmp 12) rfl NK12 (0) rfl (rxC (X j)) _ K12.out.all Try.underlying70 rfl info_rt ?_; refine Hid.out ?_)
              refine Lib.hid ?_
              go_wp2_with (refine wpList_st rfl 70 (.tmp 9) (.tmp 45) rfl NK9 0 rfl (.agg (rxC (X j))) (rxC (X j)) rfl rfl info_rt (rx_one _) K9.out (Nat.le_of_ble_eq_true rfl) (C' := rxC (X j)) (rx_over _ _) ?_; intro wq q1; refine Hid.out ?_)
              refine Lib.hid ?_
              have K8n : Hid (Blk 32 wq NK8 (pfC (kyPf (whK true z)))) := Lib.hid ((q1.2.2 NK8 (by have := HNE.out; omega)).trans K8.out)
              have K6n : Hid (Blk 70 wq N2 (rxC rx0)) := Lib.hid ((q1.2.2 N2 (by have := HNE.out; omega)).trans K6.out)
              have K9n : Hid (Blk 70 wq NK9 (rxC (X j))) := Lib.hid q1.1
              have HBn := Lib.hid (HB.out.trans (q1.2.1 _ (by have := HNE.out; omega)))
              clear K8 K6 K9 HB q1 K12
              have K8 := K8n
              clear K8n
              have K6 := K6n
              clear K6n
              have K9 := K9n
              clear K9n
              have HB := HBn
              clear HBn
              go_wp2_with fail
              go_roundw
              case rel => exact ⟨j + 1, some j, true, HLT.out, rfl, by go_num, Lib.hid rfl, Lib.hid (best_more HBX.out HCV.out HQ.out), K9, K8, K6, HB⟩
              case measure => have := HLT.out; simp only [intOf]; omega
            · have HQ := Lib.hid hq
              go_wp2_with fail
              go_roundw
              case rel => exact ⟨j + 1, some q, true, HLT.out, rfl, by go_num, Lib.hid rfl, Lib.hid (best_less HBX.out (by have := HQ.out; omega)), K9, K8, K6, HB⟩
              case measure => have := HLT.out; simp only [intOf]; omega
      · obtain rfl : n = j := by omega
        go_wp2_with (refine wpList_ld (op := ⟨some 47, _, _, _, _, _⟩) (by rfl) 70 (.tmp 9) rfl NK9 (0) rfl (rxC (bestR X bb)) _ K9.out.all Try.underlying70 rfl info_rt ?_; refine Hid.out ?_)
        refine Lib.hid ?_
        go_wp2_with (refine wpList_st rfl 70 (.tmp 6) (.tmp 47) rfl N2 0 rfl (.agg (rxC (bestR X bb))) (rxC (bestR X bb)) rfl rfl info_rt (rx_one _) K6.out (Nat.le_of_ble_eq_true rfl) (C' := rxC (bestR X bb)) (rx_over _ _) ?_; intro wq q1; refine Hid.out ?_)
        refine Lib.hid ?_
        have K6n : Hid (Blk 70 wq N2 (rxC (bestR X bb))) := Lib.hid q1.1
        have HBn := Lib.hid (HB.out.trans (q1.2.1 _ (by have := HNE.out; omega)))
        clear q1
        go_wp2_with fail
        exact bodyPost_ret (results_2R rfl _ _ N2 (rxC (bestR X bb)) (.bool fl) Try.underlying70 rfl info_rt rfl rfl K6n.out) rfl ⟨HBn.out, bb, HBX.out, by rw [HFL.out]⟩
end Go.Proofs.Ytjnbemopfhinbaa
