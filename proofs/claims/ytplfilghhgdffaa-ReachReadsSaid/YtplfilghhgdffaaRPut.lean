/- reach.PutReach writes prefixes as bytes. Each theorem states its conditions. -/
import Derived.Test.YtplfilghhgdffaaRc
import Derived.Deep.DeepMust
namespace Go.Proofs.Ytplfilghhgdffaa
open Go.RowKit
set_option linter.unusedVariables false

/-- a prefix's bytes -/
def recV (r : Rc) : List Value := vals (putZ r.me 4) 4 ++ lenL r ++ vals r.z (nd r.len)
/-- the bytes of the first k -/
def flatR (L : Nat → Rc) : Nat → List Value
  | 0 => []
  | k + 1 => flatR L k ++ recV (L k)
theorem recV_push (F : List Value) (r : Rc) : F ++ vals (putZ r.me 4) 4 ++ lenL r ++ vals r.z (nd r.len) = F ++ recV r ∧ F.length + 4 + (lenL r).length + nd r.len = (F ++ recV r).length := by
  unfold recV
  refine ⟨by simp only [List.append_assoc], ?_⟩
  simp only [List.length_append, vals_len]
  omega
def RGood (fam : Int) (r : Rc) : Prop := r.fam = fam ∧ Form r.fam r.len r.z
theorem lenL_len (r : Rc) : 1 ≤ (lenL r).length ∧ (lenL r).length ≤ 2 := by unfold lenL; split <;> simp
theorem recV_len (r : Rc) (h : Sized r.fam r.len) : (recV r).length ≤ 22 := by
  have h1 := lenL_len r
  have h2 : nd r.len ≤ 16 := by rcases h with ⟨_, h1, h2⟩ | ⟨_, h1, h2⟩ <;> exact nd_le _ h1 (by omega)
  simp only [recV, List.length_append, vals_len]
  omega
theorem flatR_len (L : Nat → Rc) (k : Nat) (h : ∀ j, j < k → Sized (L j).fam (L j).len) : (flatR L k).length ≤ 22 * k := by
  induction k with
  | zero => simp [flatR]
  | succ k ih =>
    have h1 := ih fun j hj => h j (by omega)
    have h2 := recV_len _ (h k (by omega))
    simp only [flatR, List.length_append]
    omega
/-- the first m0 are right; behind them the list ends, or one isn't right -/
def REnds (fam : Int) (L : Nat → Rc) (m m0 : Nat) : Prop := m0 ≤ m ∧ (∀ k, k < m0 → RGood fam (L k)) ∧ (m0 = m ∨ (m0 < m ∧ ¬ RGood fam (L m0)))
theorem rends (fam : Int) (L : Nat → Rc) (m : Nat) : ∃ m0, REnds fam L m m0 := by
  induction m with
  | zero => exact ⟨0, by omega, fun k hk => by omega, .inl rfl⟩
  | succ m ih =>
    obtain ⟨m0, h1, h2, h3⟩ := ih
    rcases h3 with rfl | ⟨h3, h4⟩
    · by_cases hb : RGood fam (L m0)
      · refine ⟨m0 + 1, by omega, fun k hk => ?_, .inl rfl⟩
        by_cases e : k = m0
        · subst e; exact hb
        · exact h2 k (by omega)
      · exact ⟨m0, by omega, h2, .inr ⟨by omega, hb⟩⟩
    · exact ⟨m0, by omega, h2, .inr ⟨by omega, h4⟩⟩
/-- what PutReach leaves, where no more than 11 are told -/
def RPPost (w : World) (L : Nat → Rc) (m m0 : Nat) (e : Ending) (w' : World) : Prop :=
  (m0 = m ∧ ∃ v, e = .returned (.tuple #[v, .int .i64 0]) ∧ w'.ownsRow w.heap.size 5 1 v (flatR L m).length (flatR L m) ∧ Below w.heap.size w w') ∨
  (m0 < m ∧ e = .returned (.tuple #[.slice none 0 0, .int .i64 3]) ∧ Below w.heap.size w w')

theorem putReach_arg (fam : Int) (A : Option Addr) (m c : Nat) (w : World) (h4 : (fam == 4) = false) (h6 : (fam == 6) = false) :
    Calls Try.prog 15 #[.int .u8 fam, .slice A m c] w fun e w' => e = .returned (.tuple #[.slice none 0 0, .int .i64 1]) ∧ w' = w := by
  have h4' : (fam != 4) = true := by simp [bne, h4]
  have h6' : (fam != 6) = true := by simp [bne, h6]
  go_enter Try.func15, Try.ntmps15
  go_wp2
  go_ret2
  exact ⟨rfl, rfl⟩
theorem putReach_long (fam : Int) (A : Option Addr) (m c : Nat) (w : World) (hf : fam = 4 ∨ fam = 6) (hm : 11 < m) (hl : m ≤ 9223372036854775807) :
    Calls Try.prog 15 #[.int .u8 fam, .slice A m c] w fun e w' => e = .returned (.tuple #[.slice none 0 0, .int .i64 2]) ∧ w' = w := by
  have q1 : (11 : Int) < (m : Int) := by omega
  rcases hf with rfl | rfl
  · go_enter Try.func15, Try.ntmps15
    go_wp2
    go_ret2
    exact ⟨rfl, rfl⟩
  · go_enter Try.func15, Try.ntmps15
    go_wp2
    go_ret2
    exact ⟨rfl, rfl⟩
def rc0 : Rc := ⟨0, 0, fun _ => 0, 0, false⟩
theorem idx_rc (b off k : Nat) : (⟨b, off, none⟩ : Addr).add (k * 20) = ⟨b, off + k * 20, none⟩ := add_none _ _ _
section
variable {ops : Array Oper} {rest : List Oper} {op : Oper} {a : Act} {w : World} {Q : Exit → Act → World → Prop}
/-- a row of cells is read, behind a guard that lets it -/
theorem load_row_w (hw : Region.wanted op (yielded ops a.tmps) = true) (ty : TypeId) (x : Operand) (ho : op.op = .load ty x) (b o : Nat) (hx : a.eval x = .pointer (some ⟨b, o, none⟩)) (cs : Array Value) (d : TypeDesc) (hc : w.rangeAt b o cs.toList)
    (hu : Try.prog.underlying ty = some d) (hd : d.isRow = true) (hi : (Try.prog.info? ty).map (·.size) = some cs.toList.length)
    (h : wpList Try.prog ops Q rest (a.put op.dst (.agg cs)) w) : wpList Try.prog ops Q (op :: rest) a w :=
  wpList_step fun K hK => by
    rw [if_pos hw]
    exact wp_load_mid ty x ho b o hx cs.toList d hc hu hd hi (hK _ _ (by simpa using h))
end
theorem check_ok (fam len : Int) (z : Nat → Int) (w : World) (hz : Bytes z) (h : Form fam len z) : Calls Try.prog 28 #[.agg (pvC fam len z)] w fun e w' => e = .returned (.int .i64 0) ∧ Below w.heap.size w w' :=
  (check_any fam len z w hz).mono fun e w' ⟨h1, h2⟩ => ⟨by rw [h1]; unfold checkI; rw [if_pos h], h2⟩
theorem check_bad (fam len : Int) (z : Nat → Int) (w : World) (hz : Bytes z) (h : ¬ Form fam len z) : Calls Try.prog 28 #[.agg (pvC fam len z)] w fun e w' => e = .returned (.int .i64 3) ∧ Below w.heap.size w w' :=
  (check_any fam len z w hz).mono fun e w' ⟨h1, h2⟩ => ⟨by rw [h1]; unfold checkI; rw [if_neg h], h2⟩
theorem qN4 (N : Nat) (h : N ≤ 4294967295) : qN N 4 = 0 := by
  unfold qN
  show N / 4294967296 = 0
  omega
theorem rends_bad {fam : Int} {L : Nat → Rc} {m m0 k : Nat} (h : REnds fam L m m0) (hk : k ≤ m0) (hkm : k < m) (hb : ¬ RGood fam (L k)) : m0 < m := by
  by_cases e : k = m0
  · omega
  · exact absurd (h.2.1 k (by omega)) hb
theorem rends_good {fam : Int} {L : Nat → Rc} {m m0 k : Nat} (h : REnds fam L m m0) (hk : k ≤ m0) (hkm : k < m) (hb : RGood fam (L k)) : k + 1 ≤ m0 := by
  by_cases e : k = m0
  · subst e
    rcases h.2.2 with h | h
    · omega
    · exact absurd hb h.2
  · omega
theorem flat_bd {fam : Int} {L : Nat → Rc} {m m0 : Nat} (h : REnds fam L m m0) (k : Nat) (hk : k ≤ m0) (hm : m ≤ 11) : (flatR L k).length ≤ 242 := by
  have h1 := h.1
  have h2 := flatR_len L k fun j hj => (h.2.1 j (by omega)).2.1
  omega
set_option maxHeartbeats 4000000 in
set_option maxRecDepth 100000 in
theorem putReach_4 (A : Option Addr) (m c m0 : Nat) (L : Nat → Rc) (w : World) (h : RdR w A m 20 (rcA L)) (hL : ∀ j, RcOk (L j)) (hm : m ≤ 11) (hc : m ≤ c) (hcm : c ≤ 9223372036854775807) (hm0 : REnds 4 L m m0) :
    Calls Try.prog 15 #[.int .u8 4, .slice A m c] w (RPPost w L m m0) := by
  have HM := Lib.hid hm0
  have HR := Lib.hid h
  have HL := Lib.hid hL
  have q0 : (m : Int) ≤ 11 := by omega
  have hm0' := hm0.1
  clear h hm0 hL
  go_enter Try.func15, Try.ntmps15
  go_wp2_with fail
  go_loopw [6, 24] (fun p i wr => ∃ k : Nat, k ≤ m0 ∧ i = .int .i64 k ∧ Hid (wr.ownsRow w.heap.size 5 1 p (flatR L k).length (flatR L k)) ∧ Hid (Below w.heap.size w wr))
    (fun _ i _ => m - (intOf i).toNat)
  case atStart => exact ⟨0, by omega, rfl, Lib.hid (World.ownsRow_nil _ _ _ _), Lib.hid (bself w)⟩
  case round =>
    obtain ⟨k, hk, rfl, HO, HW⟩ := hrel
    by_cases hkm : k < m
    · obtain ⟨b, off, rfl, hr⟩ := (HR.out.below HW.out rfl).row (by omega)
      have hrg : Hid (wr.rangeAt b (off + k * 20) (rcC (L k)).toList) := Lib.hid (hr.2 k hkm)
      clear hr
      have HX := Lib.hid (IsRc.new wr rc0)
      have hall := Lib.hid (rcC_all (L k))
      go_wp2_with (first
        | (refine wpList_load_mid rfl 47 (.tmp 26) rfl b (off + k * 20) rfl _ _ hrg.out Try.underlying47 rfl (hi_rc (L k)) ?_)
        | (refine store_blk rfl (.tmp 8) (.tmp 27) (cells := rcC (L k)) rfl rfl rfl HX.out info_rc rfl hall.out ?_; intro w1 hg1 hb1 ho1; refine Hid.out ?_))
      refine Lib.hid ?_
      have HT1 := Lib.hid (show IsRc w1 wr.heap.size (L k) from hg1)
      have HW1 := Lib.hid (((bself wr).alloc (Nat.le_refl _) _).trans (hb1 wr.heap.size (Nat.le_refl _)))
      clear hg1 hb1 ho1 hrg HX hall
      have hRk := HL.out k
      have HF : Hid (flatR L k ++ recV (L k) = flatR L (k + 1)) := Lib.hid rfl
      have hbw : w.heap.size ≤ wr.heap.size := HW.out.size
      have hT1 : wr.heap.size < w1.heap.size := HT1.out.lt
      have HG1 := Lib.hid (rends_bad HM.out hk hkm)
      have HG2 := Lib.hid (rends_good HM.out hk hkm)
      have HFl := flat_bd HM.out k hk hm
      obtain ⟨r, hr⟩ : ∃ r, L k = r := ⟨_, rfl⟩
      rw [hr] at HT1 hRk HF HG1 HG2
      clear hr
      obtain ⟨F, hF⟩ : ∃ F, flatR L k = F := ⟨_, rfl⟩
      rw [hF] at HO HF HFl
      clear hF
      have HW1' := Lib.hid (HW.out.trans (HW1.out.mono hbw))
      have hO1 := Lib.hid (ownsRow_below' HO.out HW1.out)
      have hfar : Hid (u6.ownBlock ≠ some wr.heap.size) := Lib.hid (fun e => by have := (HO.out.lt _ e).2; omega)
      have cF := HT1.out.fam
      have HZ := Lib.hid hRk.1
      have hme := hRk.2.2
      clear hRk HO
      by_cases hfam : r.fam = 4
      · rw [hfam] at cF
        have HFam := Lib.hid hfam
        clear hfam
        have HP := Lib.hid HT1.out.pv
        by_cases hform : Form r.fam r.len r.z
        · have HFm := Lib.hid hform
          have HC := Lib.hid (fun W => check_ok r.fam r.len r.z W HZ.out HFm.out)
          clear hform
          go_wp2_with (first | (refine load_row_w (by rfl) 45 (.tmp 34) rfl wr.heap.size 0 rfl _ _ HP.out Try.underlying45 rfl (hi_pv r.fam r.len r.z) ?_))
          refine (HC.out _).mono ?_
          rintro e w2 ⟨rfl, hb2⟩
          have HT2 := Lib.hid (HT1.out.below hb2 hT1)
          have HW2 := Lib.hid (HW1'.out.trans (hb2.mono (by omega)))
          have hO2 := Lib.hid (ownsRow_below' hO1.out hb2)
          have hT2 : wr.heap.size < w2.heap.size := HT2.out.lt
          have c18 := HT2.out.me
          clear hb2 HP HC HT1 hO1 HW1 HW1' cF hT1
          have HPut := Lib.hid (fun W => put_any r.me 4 W (by omega) (by omega) (by omega))
          go_wp2_with fail
          refine (HPut.out _).mono ?_
          rintro e w3 ⟨hif, hb3⟩
          rw [if_pos (qN4 _ hme)] at hif
          obtain ⟨g, rfl, hg, hog⟩ := hif
          have HG := Lib.hid hog
          have HT3 := Lib.hid (HT2.out.below hb3 hT2)
          have HW3 := Lib.hid (HW2.out.trans (hb3.mono (by omega)))
          have hO3 := Lib.hid (ownsRow_below' hO2.out hb3)
          have hT3 : wr.heap.size < w3.heap.size := HT3.out.lt
          clear hb3 hog HT2 hO2 HW2 c18 hT2 HPut
          have HPL := Lib.hid (fun W => putLength_any r W HFm.out.1)
          have hsz : 0 ≤ r.len ∧ r.len ≤ 128 := by rcases HFm.out.1 with ⟨_, h1, h2⟩ | ⟨_, h1, h2⟩ <;> exact ⟨h1, by omega⟩
          have HN := Lib.hid (fun W => needed_any r.len W hsz.1 (by omega))
          have hnd := nd_le r.len hsz.1 hsz.2
          have hll := lenL_len r
          go_wp2_with (first
            | (at_builtin; refine app_s rfl (.tmp 46) (.tmp 47) rfl w u6 F.length F rfl hO3.out HW3.out ⟨g, 0, none⟩ 4 4 _ rfl rfl (rd_newsB HG.out.rd) (vals_one _ _) (by omega) ?_; intro v4 w4 ho4 hb4 hs4 hk4; have HT4 : Hid (IsRc w4 wr.heap.size r) := Lib.hid ((hk4 _ hT3 hfar.out).1.trans HT3.out); have hf4 : Hid (v4.ownBlock ≠ some wr.heap.size) := Lib.hid (hk4 _ hT3 hfar.out).2)
            | (refine load_rc rfl (.tmp 8) rfl rfl HT4.out ?_))
          refine (HPL.out _).mono ?_
          rintro e w5 ⟨g5, rfl, hg5, hc5, hb5⟩
          have hT4 : wr.heap.size < w4.heap.size := HT4.out.lt
          have HT5 := Lib.hid (HT4.out.below hb5 hT4)
          have HW5 := Lib.hid (hb4.trans (hb5.mono hb4.size))
          have hO5 := Lib.hid (ownsRow_below' ho4 hb5)
          have hT5 : wr.heap.size < w5.heap.size := HT5.out.lt
          have HC5 := Lib.hid hc5
          have HLL := Lib.hid (recV_push F r)
          have hnd' : (nd r.len : Int) ≤ 16 := by omega
          clear hb5 ho4 hb4 hs4 hk4 HT4 hT4 hc5 hg5 HT3 HW3 hO3 hT3 HG hg HPL
          go_wp2_with (first
            | (at_builtin; refine app_s rfl (.tmp 49) (.tmp 51) rfl w v4 (F.length + 4) _ rfl hO5.out HW5.out ⟨g5, 0, none⟩ (lenL r).length (lenL r).length (lenL r) rfl rfl (by simpa using blk_news HC5.out) (lenL_one r) (by omega) ?_; intro v6 w6 ho6 hb6 hs6 hk6; have HT6 : Hid (IsRc w6 wr.heap.size r) := Lib.hid ((hk6 _ hT5 hf4.out).1.trans HT5.out); have c1 := HT6.out.len))
          refine (HN.out _).mono ?_
          rintro e w7 ⟨rfl, rfl⟩
          have hO6 := Lib.hid ho6
          have hB6 := Lib.hid hb6
          clear ho6 hb6 hs6 hk6 HT5 HW5 hO5 hT5 HC5
          go_wp2_with (first
            | (at_builtin; refine app_s rfl (.tmp 53) (.tmp 60) rfl w v6 (F.length + 4 + (lenL r).length) _ rfl hO6.out hB6.out ⟨wr.heap.size, 2, none⟩ (nd r.len) 16 (vals r.z (nd r.len)) rfl (vals_len _ _) (HT6.out.news _ hnd) (vals_one _ _) (by omega) ?_; intro v8 w8 ho8 hb8 hs8 hk8))
          have HO8 := Lib.hid ho8
          have HB8 := Lib.hid hb8
          clear ho8 hb8 hs8 hk8 hO6 hB6 HT6 c1
          go_wp2
          go_roundw
          case rel =>
            refine ⟨k + 1, HG2.out ⟨HFam.out, HFm.out⟩, by go_num, Lib.hid ?_, HB8⟩
            have h := HO8.out
            rw [HLL.out.1, HLL.out.2, HF.out] at h
            exact h
          case measure => simp only [intOf]; omega
        · have HFm := Lib.hid (HG1.out (fun h => hform h.2))
          have HC := Lib.hid (fun W => check_bad r.fam r.len r.z W HZ.out hform)
          clear hform
          go_wp2_with (first | (refine load_row_w (by rfl) 45 (.tmp 34) rfl wr.heap.size 0 rfl _ _ HP.out Try.underlying45 rfl (hi_pv r.fam r.len r.z) ?_))
          refine (HC.out _).mono ?_
          rintro e w2 ⟨rfl, hb2⟩
          have HW2 := Lib.hid (HW1'.out.trans (hb2.mono (by omega)))
          clear hb2
          go_wp2
          go_ret2
          exact .inr ⟨HFm.out, rfl, HW2.out⟩
      · have hne : (r.fam != 4) = true := by simpa using hfam
        have HB := Lib.hid (HG1.out (fun h => hfam h.1))
        clear hfam
        go_wp2
        go_ret2
        exact .inr ⟨HB.out, rfl, HW1'.out⟩
    · have hkk : k = m := by omega
      subst hkk
      have hkk : m0 = k := by omega
      subst hkk
      go_wp2
      go_ret2
      exact .inl ⟨rfl, _, rfl, HO.out, HW.out⟩
set_option maxHeartbeats 4000000 in
set_option maxRecDepth 100000 in
theorem putReach_6 (A : Option Addr) (m c m0 : Nat) (L : Nat → Rc) (w : World) (h : RdR w A m 20 (rcA L)) (hL : ∀ j, RcOk (L j)) (hm : m ≤ 11) (hc : m ≤ c) (hcm : c ≤ 9223372036854775807) (hm0 : REnds 6 L m m0) :
    Calls Try.prog 15 #[.int .u8 6, .slice A m c] w (RPPost w L m m0) := by
  have HM := Lib.hid hm0
  have HR := Lib.hid h
  have HL := Lib.hid hL
  have q0 : (m : Int) ≤ 11 := by omega
  have hm0' := hm0.1
  clear h hm0 hL
  go_enter Try.func15, Try.ntmps15
  go_wp2_with fail
  go_loopw [6, 24] (fun p i wr => ∃ k : Nat, k ≤ m0 ∧ i = .int .i64 k ∧ Hid (wr.ownsRow w.heap.size 5 1 p (flatR L k).length (flatR L k)) ∧ Hid (Below w.heap.size w wr))
    (fun _ i _ => m - (intOf i).toNat)
  case atStart => exact ⟨0, by omega, rfl, Lib.hid (World.ownsRow_nil _ _ _ _), Lib.hid (bself w)⟩
  case round =>
    obtain ⟨k, hk, rfl, HO, HW⟩ := hrel
    by_cases hkm : k < m
    · obtain ⟨b, off, rfl, hr⟩ := (HR.out.below HW.out rfl).row (by omega)
      have hrg : Hid (wr.rangeAt b (off + k * 20) (rcC (L k)).toList) := Lib.hid (hr.2 k hkm)
      clear hr
      have HX := Lib.hid (IsRc.new wr rc0)
      have hall := Lib.hid (rcC_all (L k))
      go_wp2_with (first
        | (refine wpList_load_mid rfl 47 (.tmp 26) rfl b (off + k * 20) rfl _ _ hrg.out Try.underlying47 rfl (hi_rc (L k)) ?_)
        | (refine store_blk rfl (.tmp 8) (.tmp 27) (cells := rcC (L k)) rfl rfl rfl HX.out info_rc rfl hall.out ?_; intro w1 hg1 hb1 ho1; refine Hid.out ?_))
      refine Lib.hid ?_
      have HT1 := Lib.hid (show IsRc w1 wr.heap.size (L k) from hg1)
      have HW1 := Lib.hid (((bself wr).alloc (Nat.le_refl _) _).trans (hb1 wr.heap.size (Nat.le_refl _)))
      clear hg1 hb1 ho1 hrg HX hall
      have hRk := HL.out k
      have HF : Hid (flatR L k ++ recV (L k) = flatR L (k + 1)) := Lib.hid rfl
      have hbw : w.heap.size ≤ wr.heap.size := HW.out.size
      have hT1 : wr.heap.size < w1.heap.size := HT1.out.lt
      have HG1 := Lib.hid (rends_bad HM.out hk hkm)
      have HG2 := Lib.hid (rends_good HM.out hk hkm)
      have HFl := flat_bd HM.out k hk hm
      obtain ⟨r, hr⟩ : ∃ r, L k = r := ⟨_, rfl⟩
      rw [hr] at HT1 hRk HF HG1 HG2
      clear hr
      obtain ⟨F, hF⟩ : ∃ F, flatR L k = F := ⟨_, rfl⟩
      rw [hF] at HO HF HFl
      clear hF
      have HW1' := Lib.hid (HW.out.trans (HW1.out.mono hbw))
      have hO1 := Lib.hid (ownsRow_below' HO.out HW1.out)
      have hfar : Hid (u6.ownBlock ≠ some wr.heap.size) := Lib.hid (fun e => by have := (HO.out.lt _ e).2; omega)
      have cF := HT1.out.fam
      have HZ := Lib.hid hRk.1
      have hme := hRk.2.2
      clear hRk HO
      by_cases hfam : r.fam = 6
      · rw [hfam] at cF
        have HFam := Lib.hid hfam
        clear hfam
        have HP := Lib.hid HT1.out.pv
        by_cases hform : Form r.fam r.len r.z
        · have HFm := Lib.hid hform
          have HC := Lib.hid (fun W => check_ok r.fam r.len r.z W HZ.out HFm.out)
          clear hform
          go_wp2_with (first | (refine load_row_w (by rfl) 45 (.tmp 34) rfl wr.heap.size 0 rfl _ _ HP.out Try.underlying45 rfl (hi_pv r.fam r.len r.z) ?_))
          refine (HC.out _).mono ?_
          rintro e w2 ⟨rfl, hb2⟩
          have HT2 := Lib.hid (HT1.out.below hb2 hT1)
          have HW2 := Lib.hid (HW1'.out.trans (hb2.mono (by omega)))
          have hO2 := Lib.hid (ownsRow_below' hO1.out hb2)
          have hT2 : wr.heap.size < w2.heap.size := HT2.out.lt
          have c18 := HT2.out.me
          clear hb2 HP HC HT1 hO1 HW1 HW1' cF hT1
          have HPut := Lib.hid (fun W => put_any r.me 4 W (by omega) (by omega) (by omega))
          go_wp2_with fail
          refine (HPut.out _).mono ?_
          rintro e w3 ⟨hif, hb3⟩
          rw [if_pos (qN4 _ hme)] at hif
          obtain ⟨g, rfl, hg, hog⟩ := hif
          have HG := Lib.hid hog
          have HT3 := Lib.hid (HT2.out.below hb3 hT2)
          have HW3 := Lib.hid (HW2.out.trans (hb3.mono (by omega)))
          have hO3 := Lib.hid (ownsRow_below' hO2.out hb3)
          have hT3 : wr.heap.size < w3.heap.size := HT3.out.lt
          clear hb3 hog HT2 hO2 HW2 c18 hT2 HPut
          have HPL := Lib.hid (fun W => putLength_any r W HFm.out.1)
          have hsz : 0 ≤ r.len ∧ r.len ≤ 128 := by rcases HFm.out.1 with ⟨_, h1, h2⟩ | ⟨_, h1, h2⟩ <;> exact ⟨h1, by omega⟩
          have HN := Lib.hid (fun W => needed_any r.len W hsz.1 (by omega))
          have hnd := nd_le r.len hsz.1 hsz.2
          have hll := lenL_len r
          go_wp2_with (first
            | (at_builtin; refine app_s rfl (.tmp 46) (.tmp 47) rfl w u6 F.length F rfl hO3.out HW3.out ⟨g, 0, none⟩ 4 4 _ rfl rfl (rd_newsB HG.out.rd) (vals_one _ _) (by omega) ?_; intro v4 w4 ho4 hb4 hs4 hk4; have HT4 : Hid (IsRc w4 wr.heap.size r) := Lib.hid ((hk4 _ hT3 hfar.out).1.trans HT3.out); have hf4 : Hid (v4.ownBlock ≠ some wr.heap.size) := Lib.hid (hk4 _ hT3 hfar.out).2)
            | (refine load_rc rfl (.tmp 8) rfl rfl HT4.out ?_))
          refine (HPL.out _).mono ?_
          rintro e w5 ⟨g5, rfl, hg5, hc5, hb5⟩
          have hT4 : wr.heap.size < w4.heap.size := HT4.out.lt
          have HT5 := Lib.hid (HT4.out.below hb5 hT4)
          have HW5 := Lib.hid (hb4.trans (hb5.mono hb4.size))
          have hO5 := Lib.hid (ownsRow_below' ho4 hb5)
          have hT5 : wr.heap.size < w5.heap.size := HT5.out.lt
          have HC5 := Lib.hid hc5
          have HLL := Lib.hid (recV_push F r)
          have hnd' : (nd r.len : Int) ≤ 16 := by omega
          clear hb5 ho4 hb4 hs4 hk4 HT4 hT4 hc5 hg5 HT3 HW3 hO3 hT3 HG hg HPL
          go_wp2_with (first
            | (at_builtin; refine app_s rfl (.tmp 49) (.tmp 51) rfl w v4 (F.length + 4) _ rfl hO5.out HW5.out ⟨g5, 0, none⟩ (lenL r).length (lenL r).length (lenL r) rfl rfl (by simpa using blk_news HC5.out) (lenL_one r) (by omega) ?_; intro v6 w6 ho6 hb6 hs6 hk6; have HT6 : Hid (IsRc w6 wr.heap.size r) := Lib.hid ((hk6 _ hT5 hf4.out).1.trans HT5.out); have c1 := HT6.out.len))
          refine (HN.out _).mono ?_
          rintro e w7 ⟨rfl, rfl⟩
          have hO6 := Lib.hid ho6
          have hB6 := Lib.hid hb6
          clear ho6 hb6 hs6 hk6 HT5 HW5 hO5 hT5 HC5
          go_wp2_with (first
            | (at_builtin; refine app_s rfl (.tmp 53) (.tmp 60) rfl w v6 (F.length + 4 + (lenL r).length) _ rfl hO6.out hB6.out ⟨wr.heap.size, 2, none⟩ (nd r.len) 16 (vals r.z (nd r.len)) rfl (vals_len _ _) (HT6.out.news _ hnd) (vals_one _ _) (by omega) ?_; intro v8 w8 ho8 hb8 hs8 hk8))
          have HO8 := Lib.hid ho8
          have HB8 := Lib.hid hb8
          clear ho8 hb8 hs8 hk8 hO6 hB6 HT6 c1
          go_wp2
          go_roundw
          case rel =>
            refine ⟨k + 1, HG2.out ⟨HFam.out, HFm.out⟩, by go_num, Lib.hid ?_, HB8⟩
            have h := HO8.out
            rw [HLL.out.1, HLL.out.2, HF.out] at h
            exact h
          case measure => simp only [intOf]; omega
        · have HFm := Lib.hid (HG1.out (fun h => hform h.2))
          have HC := Lib.hid (fun W => check_bad r.fam r.len r.z W HZ.out hform)
          clear hform
          go_wp2_with (first | (refine load_row_w (by rfl) 45 (.tmp 34) rfl wr.heap.size 0 rfl _ _ HP.out Try.underlying45 rfl (hi_pv r.fam r.len r.z) ?_))
          refine (HC.out _).mono ?_
          rintro e w2 ⟨rfl, hb2⟩
          have HW2 := Lib.hid (HW1'.out.trans (hb2.mono (by omega)))
          clear hb2
          go_wp2
          go_ret2
          exact .inr ⟨HFm.out, rfl, HW2.out⟩
      · have hne : (r.fam != 6) = true := by simpa using hfam
        have HB := Lib.hid (HG1.out (fun h => hfam h.1))
        clear hfam
        go_wp2
        go_ret2
        exact .inr ⟨HB.out, rfl, HW1'.out⟩
    · have hkk : k = m := by omega
      subst hkk
      have hkk : m0 = k := by omega
      subst hkk
      go_wp2
      go_ret2
      exact .inl ⟨rfl, _, rfl, HO.out, HW.out⟩
end Go.Proofs.Ytplfilghhgdffaa
