/- reach.getFour, reach.getSix read a prefix that is told. Each theorem states its conditions. -/
import Derived.Test.YtplfilghhgdffaaRPfx
import Derived.Test.YtplfilghhgdffaaRPut
namespace Go.Proofs.Ytplfilghhgdffaa
open Go.RowKit
set_option linter.unusedVariables false

/-- the length, the bytes ahead of the address, whether more stands behind it, where the next one begins, what is told -/
def rL (fam : Nat) (z : Nat → Int) (p : Nat) : Nat := if fam = 4 then (z (p + 4)).toNat % 64 else (z (p + 5)).toNat
def rHd (fam : Nat) : Nat := if fam = 4 then 5 else 6
def rMo (fam : Nat) (z : Nat → Int) (p : Nat) : Bool := if fam = 4 then decide ((z (p + 4)).toNat / 64 % 2 = 1) else decide ((z (p + 4)).toNat / 32 % 2 = 1)
def rNx (fam : Nat) (z : Nat → Int) (p : Nat) : Nat := p + rHd fam + nd (rL fam z p) + (if rMo fam z p then 1 + (z (p + rHd fam + nd (rL fam z p))).toNat else 0)
def rRc (fam : Nat) (z : Nat → Int) (p : Nat) : Rc := ⟨fam, rL fam z p, firstZ (fun j => z (p + rHd fam + j)) (rL fam z p), (numZ (fun j => z (p + j)) 0 4).toNat, decide (128 ≤ (z (p + 4)).toNat)⟩
def rOk (fam : Nat) (z : Nat → Int) (n p : Nat) : Prop := Sized fam (rL fam z p) ∧ rNx fam z p ≤ n
theorem and_bits (V : Nat) (h : V ≤ 255) : bits .and .u8 (V : Int) 63 = ((V % 64 : Nat) : Int) ∧ (bits .and .u8 (V : Int) 128 != 0) = decide (128 ≤ V) ∧ (bits .and .u8 (V : Int) 64 != 0) = decide (V / 64 % 2 = 1) ∧ (bits .and .u8 (V : Int) 32 != 0) = decide (V / 32 % 2 = 1) := by
  have key : ∀ V : Nat, V < 256 → bits .and .u8 (V : Int) 63 = ((V % 64 : Nat) : Int) ∧ (bits .and .u8 (V : Int) 128 != 0) = decide (128 ≤ V) ∧ (bits .and .u8 (V : Int) 64 != 0) = decide (V / 64 % 2 = 1) ∧ (bits .and .u8 (V : Int) 32 != 0) = decide (V / 32 % 2 = 1) := by decide +kernel
  exact key V (by omega)
theorem build_rc (o : Oper) (e : Operand → Value) (x0 x1 x2 : Operand) (ho : o.op = .build 47 #[(0, x0), (1, x1), (2, x2)]) (fam len : Int) (z : Nat → Int) (me : Nat) (dn : Bool) (h0 : e x0 = .agg (pvC fam len z)) (h1 : e x1 = .int .u32 (me : Int)) (h2 : e x2 = .bool dn) (W : World) :
    (execOp e o).run Try.prog W = .ok (.value (.agg (rcC ⟨fam, len, z, me, dn⟩))) W := by
  unfold execOp
  simp only [ho]
  simp only [List.map_toArray, List.map_cons, List.map_nil, h0, h1, h2]
  kernel_rfl
theorem results_rc {fn : Func} {p : Tmp} (h : fn.results = #[.cell p 47]) (tmps : Array Value) (W : World) (g : Nat) (r : Rc)
    (hp : tmps.getD p undef = .pointer (some ⟨g, 0, none⟩)) (hg : IsRc W g r) : (results fn tmps).run Try.prog W = .ok (.agg (rcC r)) W := by
  have h1 := run_loadVar_row (P := Try.prog) W g 47 47 (rcC r) (0, 0) _ hg Try.underlying47 rfl info_rc
  have hp' : (tmps[p]?).getD undef = .pointer (some ⟨g, 0, none⟩) := by simpa using hp
  simp only [results, h]
  simp [hp', asAddr, h1]
theorem metric4 (R b off n c p : Nat) (z : Nat → Int) (W : World) (h : RS W R b off n c p) (hr : Row8 W b off n z) (hbR : b ≠ R) (hn : n ≤ c) (hc : c ≤ 9223372036854775807) (hp : p + 4 ≤ n) :
    Calls Try.prog 44 #[.pointer (some ⟨R, 0, none⟩), .int .i64 4] W fun e W' => e = .returned (.int .u32 (((numZ (fun j => z (p + j)) 0 4).toNat : Nat) : Int)) ∧ RS W' R b off n c (p + 4) ∧ W.grownBy W' (some R) := by
  have hz := hr.2.2
  refine (metric_ok R b off n c p 4 z W h hr hbR hn hc (by omega) (by omega) hp).mono ?_
  rintro e W' ⟨rfl, h2, h3⟩
  refine ⟨?_, h2, h3⟩
  rw [Int.toNat_of_nonneg (numZ_lt (fun j => z (p + j)) 0 4 (fun j => hz _)).1]
theorem me_bd (z : Nat → Int) (p : Nat) (hz : ∀ j, 0 ≤ z j ∧ z j ≤ 255) : (numZ (fun j => z (p + j)) 0 4).toNat ≤ 4294967295 := by
  have h := numZ_lt (fun j => z (p + j)) 0 4 (fun j => hz _)
  have e : (256 : Int) ^ 4 = 4294967296 := by decide
  omega
theorem byteN (R b off n c p V : Nat) (z : Nat → Int) (W : World) (h : RS W R b off n c p) (hr : Row8 W b off n z) (hbR : b ≠ R) (hn : n ≤ c) (hc : c ≤ 9223372036854775807) (hp : p + 1 ≤ n) (hV : (z p).toNat = V) :
    Calls Try.prog 43 #[.pointer (some ⟨R, 0, none⟩)] W fun e W' => e = .returned (.int .u8 (V : Int)) ∧ RS W' R b off n c (p + 1) ∧ W.grownBy W' (some R) := by
  have hz := hr.2.2 p
  refine (byte_ok R b off n c p z W h hr hbR hn hc hp).mono ?_
  rintro e W' ⟨rfl, h2, h3⟩
  refine ⟨?_, h2, h3⟩
  rw [← hV, Int.toNat_of_nonneg hz.1]
theorem IsRc.grown {W W' : World} {E R : Nat} {r : Rc} (h : IsRc W E r) (hg : W.grownBy W' (some R)) (hne : E ≠ R) : IsRc W' E r := (hg.block _ h.lt (fun e => by injection e; omega)).trans h
theorem skip_any (R b off n c p : Nat) (z : Nat → Int) (W : World) (h : RS W R b off n c p) (hr : Row8 W b off n z) (hbR : b ≠ R) (hn : n ≤ c) (hc : c ≤ 9223372036854775807) (hp : p ≤ n) :
    Calls Try.prog 45 #[.pointer (some ⟨R, 0, none⟩)] W fun e W' => (p + (1 + (z p).toNat) ≤ n ∧ e = .returned (.tuple #[]) ∧ RS W' R b off n c (p + (1 + (z p).toNat)) ∧ W.grownBy W' (some R)) ∨ (n < p + (1 + (z p).toNat) ∧ e = .panicked [flt] ∧ W.grownBy W' (some R)) := by
  have hz := hr.2.2 p
  have e0 : z p = (((z p).toNat : Nat) : Int) := (Int.toNat_of_nonneg hz.1).symm
  by_cases hk : p + 1 + (z p).toNat ≤ n
  · refine (skip_ok R b off n c p (z p).toNat z W h hr hbR hn hc e0 hk).mono ?_
    rintro e W' ⟨h1, h2, h3⟩
    exact .inl ⟨by omega, h1, by rw [← Nat.add_assoc]; exact h2, h3⟩
  · refine (skip_bad R b off n c p (z p).toNat z W h hr hbR hn hc e0 hp (by omega)).mono ?_
    rintro e W' ⟨h1, h2⟩
    exact .inr ⟨by omega, h1, h2⟩
/-- what a reader of one leaves -/
def RGPost (fam : Nat) (W : World) (R b off n c p : Nat) (z : Nat → Int) (e : Ending) (W' : World) : Prop :=
  (rOk fam z n p ∧ e = .returned (.agg (rcC (rRc fam z p))) ∧ RS W' R b off n c (rNx fam z p) ∧ W.grownBy W' (some R)) ∨
  (¬ rOk fam z n p ∧ e = .panicked [flt] ∧ W.grownBy W' (some R))
theorem rnx_ge (fam : Nat) (z : Nat → Int) (p : Nat) : p + rHd fam + nd (rL fam z p) ≤ rNx fam z p := by unfold rNx; omega

set_option maxHeartbeats 4000000 in
set_option maxRecDepth 100000 in
theorem getFour_any (R b off n c p : Nat) (z : Nat → Int) (W : World) (h : RS W R b off n c p) (hr : Row8 W b off n z) (hbR : b ≠ R) (hn : n ≤ c) (hc : c ≤ 9223372036854775807) (hp : p < n) :
    Calls Try.prog 34 #[.pointer (some ⟨R, 0, none⟩)] W (RGPost 4 W R b off n c p z) := by
  have hRl := h.lt
  have hbl := hr.1
  have hz := hr.2.2
  have HS0 := Lib.hid (h.block (Below.heap_alloc W (.cells (rcC rc0) 47) R h.lt))
  have HR0 := Lib.hid (hr.below ((bself W).alloc (Nat.le_refl _) (.cells (rcC rc0) 47)) hr.1)
  have HX0 := Lib.hid (IsRc.new W rc0)
  have HG0 := Lib.hid (grown_alloc (grown_refl W (some R)) (.cells (rcC rc0) 47))
  have HRR := Lib.hid hr
  clear h hr
  have hge := rnx_ge 4 z p
  have hhd : rHd 4 = 5 := rfl
  rw [hhd] at hge
  have HGE := Lib.hid hge
  clear hge hhd
  go_enter Try.func34, Try.ntmps34
  go_wp2_with fail
  by_cases hp4 : p + 4 ≤ n
  rotate_left
  · refine (metric_bad R b off n c p 4 _ HS0.out (by omega) hn hc (by omega) (by omega)).mono ?_
    rintro e w1 ⟨rfl, rfl⟩
    go_wp2
    exact ends_panicked rfl (.inr ⟨fun hh => by have := hh.2; have := HGE.out; omega, rfl, HG0.out⟩)
  refine (metric4 R b off n c p z _ HS0.out HR0.out hbR hn hc hp4).mono ?_
  rintro e w1 ⟨rfl, hs1, hg1⟩
  have HS1 := Lib.hid hs1
  have HX1 := Lib.hid (HX0.out.grown hg1 (by omega))
  have HG1 := Lib.hid (HG0.out.trans hg1)
  have HR1 := Lib.hid (HRR.out.grown HG1.out (fun e => hbR (by injection e)))
  have hs1' : W.heap.size < w1.heap.size := HX1.out.lt
  have HME := Lib.hid (me_bd z p hz)
  obtain ⟨me, hme⟩ : ∃ me, (numZ (fun j => z (p + j)) 0 4).toNat = me := ⟨_, rfl⟩
  rw [hme] at HME
  have hmeb := HME.out
  have HMe := Lib.hid hme
  clear hs1 hg1 HX0 HG0 HS0 HR0
  simp only [hme]
  clear hme
  go_wp2_with fail
  by_cases hp5 : p + 5 ≤ n
  rotate_left
  · obtain rfl : n = p + 4 := by omega
    refine (byte_bad R b off (p + 4) c _ HS1.out hn hc).mono ?_
    rintro e w2 ⟨rfl, rfl⟩
    go_wp2
    exact ends_panicked rfl (.inr ⟨fun hh => by have := hh.2; have := HGE.out; omega, rfl, HG1.out⟩)
  obtain ⟨V, hV⟩ : ∃ V, (z (p + 4)).toNat = V := ⟨_, rfl⟩
  have hVb : V ≤ 255 := by have := hz (p + 4); omega
  refine (byteN R b off n c (p + 4) V z _ HS1.out HR1.out hbR hn hc (by omega) hV).mono ?_
  rintro e w2 ⟨rfl, hs2, hg2⟩
  have HS2 := Lib.hid hs2
  have HX2 := Lib.hid (HX1.out.grown hg2 (by omega))
  have HG2 := Lib.hid (HG1.out.trans hg2)
  have HR2 := Lib.hid (HR1.out.grown hg2 (fun e => hbR (by injection e)))
  have hs2' : W.heap.size < w2.heap.size := HX2.out.lt
  obtain ⟨a63, a128, a64, a32⟩ := and_bits V hVb
  have HVV := Lib.hid hV
  clear hs2 hg2 HX1 HG1 HS1 HR1 hV
  obtain ⟨l, hl⟩ : ∃ l, V % 64 = l := ⟨_, rfl⟩
  have HLL : Hid (rL 4 z p = l) := Lib.hid (by unfold rL; rw [if_pos rfl, HVV.out, hl])
  rw [hl] at a63
  have hlb : l ≤ 255 := by omega
  obtain ⟨dn, hdn⟩ : ∃ dn, decide (128 ≤ V) = dn := ⟨_, rfl⟩
  rw [hdn] at a128
  have hl64 : (l : Int) ≤ 63 := by omega
  clear hl
  go_wp2_with fail
  refine (rprefix_any R b off n c (p + 4 + 1) l 4 z _ HS2.out HR2.out hbR hn hc (by omega) hlb).mono ?_
  rintro e w3 (⟨⟨hpn, hsz⟩, rfl, hs3, hg3⟩ | ⟨hbad, rfl, hg3⟩)
  rotate_left
  · have HG3 := Lib.hid (HG2.out.trans hg3)
    have HBad : Hid (¬ rOk 4 z n p) := Lib.hid (fun hh => hbad ⟨by have := hh.2; have := HGE.out; have := HLL.out; simp only [this] at *; omega, by have := hh.1; rwa [HLL.out] at this⟩)
    clear hg3 hbad
    go_wp2
    exact ends_panicked rfl (.inr ⟨HBad.out, rfl, HG3.out⟩)
  have HS3 := Lib.hid hs3
  have HX3 := Lib.hid (HX2.out.grown hg3 (by omega))
  have HG3 := Lib.hid (HG2.out.trans hg3)
  have HR3 := Lib.hid (HR2.out.grown hg3 (fun e => hbR (by injection e)))
  have hs3' : W.heap.size < w3.heap.size := HX3.out.lt
  have hRw3 : R < w3.heap.size := HS3.out.lt
  clear hs3 hg3 HX2 HG2 HS2 HR2
  obtain ⟨r, hrr⟩ : ∃ r, (⟨4, (l : Int), firstZ (fun j => z (p + 5 + j)) l, me, dn⟩ : Rc) = r := ⟨_, rfl⟩
  have HRC : Hid (rRc 4 z p = r) := Lib.hid (by
    rw [← hrr]
    unfold rRc
    simp only [HLL.out, HMe.out, HVV.out, hdn, show rHd 4 = 5 from rfl]
    rfl)
  have HX3z := Lib.hid (IsRc.new w3 rc0)
  have hall := Lib.hid (rcC_all r)
  have HBR := Lib.hid hrr
  clear hrr
  go_wp2_with (first
    | (refine step_val (v := .agg (rcC r)) (by rfl) (by rw [← HBR.out]; exact build_rc _ _ (.tmp 14) (.tmp 15) (.tmp 18) rfl 4 (l : Int) _ me dn rfl rfl rfl _) ?_)
    | (refine store_blk rfl (.tmp 5) (.tmp 19) (cells := rcC r) rfl rfl rfl HX3z.out info_rc rfl hall.out ?_; intro w4 hg4 hb4 ho4; refine Hid.out ?_))
  refine Lib.hid ?_
  have hb43 : Below w3.heap.size w3 w4 := ((bself w3).alloc (Nat.le_refl _) _).trans (hb4 w3.heap.size (Nat.le_refl _))
  have HE4 := Lib.hid (show IsRc w4 w3.heap.size r from hg4)
  have HX4 := Lib.hid (HX3.out.below hb43 hs3')
  have HG4 := Lib.hid (grown_below HG3.out hb43 (by omega))
  have HS4 := Lib.hid (HS3.out.block (hb43.block R hRw3))
  have HR4 := Lib.hid (HR3.out.below hb43 (by omega))
  have hne : w3.heap.size ≠ R := by omega
  clear hg4 hb4 ho4 hb43 HX3 HG3 HS3 HR3 HX3z
  have hmo : Hid (rMo 4 z p = decide (V / 64 % 2 = 1)) := Lib.hid (by unfold rMo; rw [HVV.out]; rfl)
  by_cases hm : V / 64 % 2 = 1
  · have hmt : (bits .and .u8 (V : Int) 64 != 0) = true := by rw [a64]; simpa using hm
    have HNX : Hid (rNx 4 z p = p + 5 + nd l + (1 + (z (p + 5 + nd l)).toNat)) := Lib.hid (by
      unfold rNx
      rw [hmo.out, HLL.out]
      simp only [hm, decide_true, if_true, show rHd 4 = 5 from rfl])
    clear a63 a128 a64 a32 hm
    go_wp2_with fail
    refine (skip_any R b off n c (p + 5 + nd l) z _ HS4.out HR4.out hbR hn hc hpn).mono ?_
    rintro e w5 (⟨hk, rfl, hs5, hg5⟩ | ⟨hk, rfl, hg5⟩)
    rotate_left
    · have HG5 := Lib.hid (HG4.out.trans hg5)
      clear hg5
      go_wp2
      exact ends_panicked rfl (.inr ⟨fun hh => by have := hh.2; have := HNX.out; omega, rfl, HG5.out⟩)
    have HE5 := Lib.hid (HE4.out.grown hg5 hne)
    have HX5 := Lib.hid (HX4.out.grown hg5 (by omega))
    have HG5 := Lib.hid (HG4.out.trans hg5)
    have HS5 := Lib.hid hs5
    clear hs5 hg5 HE4 HX4 HG4 HS4 HR4
    go_wp2_with (first
      | (refine load_rc rfl (.tmp 5) rfl rfl HE5.out ?_)
      | (refine store_blk rfl (.tmp 2) (.tmp 25) (cells := rcC r) rfl rfl rfl HX5.out info_rc rfl hall.out ?_; intro w6 hg6 hb6 ho6; refine Hid.out ?_))
    refine Lib.hid ?_
    have HE6 := Lib.hid (show IsRc w6 W.heap.size r from hg6)
    have HG6 := Lib.hid (grown_below HG5.out (hb6 W.heap.size (Nat.le_refl _)) (Nat.le_refl _))
    have HS6 := Lib.hid (HS5.out.block (ho6 R (by omega)))
    clear hg6 hb6 ho6 hall
    go_wp2_with fail
    refine bodyPost_ret (results_rc rfl _ w6 W.heap.size r rfl HE6.out) rfl (.inl ⟨⟨by rw [HLL.out]; exact hsz, by rw [HNX.out]; exact hk⟩, by rw [HRC.out], by rw [HNX.out]; exact HS6.out, HG6.out⟩)
  · have hmt : (bits .and .u8 (V : Int) 64 != 0) = false := by rw [a64]; simpa using hm
    have HNX : Hid (rNx 4 z p = p + 5 + nd l) := Lib.hid (by
      unfold rNx
      rw [hmo.out, HLL.out]
      simp only [hm, decide_false, Bool.false_eq_true, if_false, show rHd 4 = 5 from rfl, Nat.add_zero])
    clear a63 a128 a64 a32 hm
    go_wp2_with (first
      | (refine load_rc rfl (.tmp 5) rfl rfl HE4.out ?_)
      | (refine store_blk rfl (.tmp 2) (.tmp 25) (cells := rcC r) rfl rfl rfl HX4.out info_rc rfl hall.out ?_; intro w6 hg6 hb6 ho6; refine Hid.out ?_))
    refine Lib.hid ?_
    have HE6 := Lib.hid (show IsRc w6 W.heap.size r from hg6)
    have HG6 := Lib.hid (grown_below HG4.out (hb6 W.heap.size (Nat.le_refl _)) (Nat.le_refl _))
    have HS6 := Lib.hid (HS4.out.block (ho6 R (by omega)))
    clear hg6 hb6 ho6 hall
    go_wp2_with fail
    refine bodyPost_ret (results_rc rfl _ w6 W.heap.size r rfl HE6.out) rfl (.inl ⟨⟨by rw [HLL.out]; exact hsz, by rw [HNX.out]; exact hpn⟩, by rw [HRC.out], by rw [HNX.out]; exact HS6.out, HG6.out⟩)

set_option maxHeartbeats 4000000 in
set_option maxRecDepth 100000 in
theorem getSix_any (R b off n c p : Nat) (z : Nat → Int) (W : World) (h : RS W R b off n c p) (hr : Row8 W b off n z) (hbR : b ≠ R) (hn : n ≤ c) (hc : c ≤ 9223372036854775807) (hp : p < n) :
    Calls Try.prog 35 #[.pointer (some ⟨R, 0, none⟩)] W (RGPost 6 W R b off n c p z) := by
  have hRl := h.lt
  have hbl := hr.1
  have hz := hr.2.2
  have HS0 := Lib.hid (h.block (Below.heap_alloc W (.cells (rcC rc0) 47) R h.lt))
  have HR0 := Lib.hid (hr.below ((bself W).alloc (Nat.le_refl _) (.cells (rcC rc0) 47)) hr.1)
  have HX0 := Lib.hid (IsRc.new W rc0)
  have HG0 := Lib.hid (grown_alloc (grown_refl W (some R)) (.cells (rcC rc0) 47))
  have HRR := Lib.hid hr
  clear h hr
  have hge := rnx_ge 6 z p
  have hhd : rHd 6 = 6 := rfl
  rw [hhd] at hge
  have HGE := Lib.hid hge
  clear hge hhd
  go_enter Try.func35, Try.ntmps35
  go_wp2_with fail
  by_cases hp4 : p + 4 ≤ n
  rotate_left
  · refine (metric_bad R b off n c p 4 _ HS0.out (by omega) hn hc (by omega) (by omega)).mono ?_
    rintro e w1 ⟨rfl, rfl⟩
    go_wp2
    exact ends_panicked rfl (.inr ⟨fun hh => by have := hh.2; have := HGE.out; omega, rfl, HG0.out⟩)
  refine (metric4 R b off n c p z _ HS0.out HR0.out hbR hn hc hp4).mono ?_
  rintro e w1 ⟨rfl, hs1, hg1⟩
  have HS1 := Lib.hid hs1
  have HX1 := Lib.hid (HX0.out.grown hg1 (by omega))
  have HG1 := Lib.hid (HG0.out.trans hg1)
  have HR1 := Lib.hid (HRR.out.grown HG1.out (fun e => hbR (by injection e)))
  have hs1' : W.heap.size < w1.heap.size := HX1.out.lt
  have HME := Lib.hid (me_bd z p hz)
  obtain ⟨me, hme⟩ : ∃ me, (numZ (fun j => z (p + j)) 0 4).toNat = me := ⟨_, rfl⟩
  rw [hme] at HME
  have hmeb := HME.out
  have HMe := Lib.hid hme
  clear hs1 hg1 HX0 HG0 HS0 HR0
  simp only [hme]
  clear hme
  go_wp2_with fail
  by_cases hp5 : p + 5 ≤ n
  rotate_left
  · obtain rfl : n = p + 4 := by omega
    refine (byte_bad R b off (p + 4) c _ HS1.out hn hc).mono ?_
    rintro e w2 ⟨rfl, rfl⟩
    go_wp2
    exact ends_panicked rfl (.inr ⟨fun hh => by have := hh.2; have := HGE.out; omega, rfl, HG1.out⟩)
  obtain ⟨V, hV⟩ : ∃ V, (z (p + 4)).toNat = V := ⟨_, rfl⟩
  have hVb : V ≤ 255 := by have := hz (p + 4); omega
  refine (byteN R b off n c (p + 4) V z _ HS1.out HR1.out hbR hn hc (by omega) hV).mono ?_
  rintro e w2 ⟨rfl, hs2, hg2⟩
  have HS2 := Lib.hid hs2
  have HX2 := Lib.hid (HX1.out.grown hg2 (by omega))
  have HG2 := Lib.hid (HG1.out.trans hg2)
  have HR2 := Lib.hid (HR1.out.grown hg2 (fun e => hbR (by injection e)))
  have hs2' : W.heap.size < w2.heap.size := HX2.out.lt
  obtain ⟨a63, a128, a64, a32⟩ := and_bits V hVb
  have HVV := Lib.hid hV
  clear hs2 hg2 HX1 HG1 HS1 HR1 hV
  go_wp2_with fail
  by_cases hp6 : p + 6 ≤ n
  rotate_left
  · obtain rfl : n = p + 4 + 1 := by omega
    refine (byte_bad R b off (p + 4 + 1) c _ HS2.out hn hc).mono ?_
    rintro e w2 ⟨rfl, rfl⟩
    go_wp2
    exact ends_panicked rfl (.inr ⟨fun hh => by have := hh.2; have := HGE.out; omega, rfl, HG2.out⟩)
  obtain ⟨l, hl⟩ : ∃ l, (z (p + 5)).toNat = l := ⟨_, rfl⟩
  have HLL : Hid (rL 6 z p = l) := Lib.hid (by unfold rL; rw [if_neg (by decide), hl])
  have hlb : l ≤ 255 := by have := hz (p + 5); omega
  obtain ⟨dn, hdn⟩ : ∃ dn, decide (128 ≤ V) = dn := ⟨_, rfl⟩
  rw [hdn] at a128
  refine (byteN R b off n c (p + 4 + 1) l z _ HS2.out HR2.out hbR hn hc (by omega) hl).mono ?_
  rintro e w2b ⟨rfl, hs2, hg2⟩
  have HS2b := Lib.hid hs2
  have HX2b := Lib.hid (HX2.out.grown hg2 (by omega))
  have HG2b := Lib.hid (HG2.out.trans hg2)
  have HR2b := Lib.hid (HR2.out.grown hg2 (fun e => hbR (by injection e)))
  have hs2b' : W.heap.size < w2b.heap.size := HX2b.out.lt
  clear hs2 hg2 HX2 HG2 HS2 HR2 hl
  have HX2 := HX2b
  have HG2 := HG2b
  have HR2 := HR2b
  have HS2 := HS2b
  clear HX2b HG2b HR2b HS2b
  go_wp2_with fail
  refine (rprefix_any R b off n c (p + 4 + 1 + 1) l 6 z _ HS2.out HR2.out hbR hn hc (by omega) hlb).mono ?_
  rintro e w3 (⟨⟨hpn, hsz⟩, rfl, hs3, hg3⟩ | ⟨hbad, rfl, hg3⟩)
  rotate_left
  · have HG3 := Lib.hid (HG2.out.trans hg3)
    have HBad : Hid (¬ rOk 6 z n p) := Lib.hid (fun hh => hbad ⟨by have := hh.2; have := HGE.out; have := HLL.out; simp only [this] at *; omega, by have := hh.1; rwa [HLL.out] at this⟩)
    clear hg3 hbad
    go_wp2
    exact ends_panicked rfl (.inr ⟨HBad.out, rfl, HG3.out⟩)
  have HS3 := Lib.hid hs3
  have HX3 := Lib.hid (HX2.out.grown hg3 (by omega))
  have HG3 := Lib.hid (HG2.out.trans hg3)
  have HR3 := Lib.hid (HR2.out.grown hg3 (fun e => hbR (by injection e)))
  have hs3' : W.heap.size < w3.heap.size := HX3.out.lt
  have hRw3 : R < w3.heap.size := HS3.out.lt
  clear hs3 hg3 HX2 HG2 HS2 HR2
  obtain ⟨r, hrr⟩ : ∃ r, (⟨6, (l : Int), firstZ (fun j => z (p + 6 + j)) l, me, dn⟩ : Rc) = r := ⟨_, rfl⟩
  have HRC : Hid (rRc 6 z p = r) := Lib.hid (by
    rw [← hrr]
    unfold rRc
    simp only [HLL.out, HMe.out, HVV.out, hdn, show rHd 6 = 6 from rfl]
    rfl)
  have HX3z := Lib.hid (IsRc.new w3 rc0)
  have hall := Lib.hid (rcC_all r)
  have HBR := Lib.hid hrr
  clear hrr
  go_wp2_with (first
    | (refine step_val (v := .agg (rcC r)) (by rfl) (by rw [← HBR.out]; exact build_rc _ _ (.tmp 14) (.tmp 15) (.tmp 18) rfl 6 (l : Int) _ me dn rfl rfl rfl _) ?_)
    | (refine store_blk rfl (.tmp 5) (.tmp 19) (cells := rcC r) rfl rfl rfl HX3z.out info_rc rfl hall.out ?_; intro w4 hg4 hb4 ho4; refine Hid.out ?_))
  refine Lib.hid ?_
  have hb43 : Below w3.heap.size w3 w4 := ((bself w3).alloc (Nat.le_refl _) _).trans (hb4 w3.heap.size (Nat.le_refl _))
  have HE4 := Lib.hid (show IsRc w4 w3.heap.size r from hg4)
  have HX4 := Lib.hid (HX3.out.below hb43 hs3')
  have HG4 := Lib.hid (grown_below HG3.out hb43 (by omega))
  have HS4 := Lib.hid (HS3.out.block (hb43.block R hRw3))
  have HR4 := Lib.hid (HR3.out.below hb43 (by omega))
  have hne : w3.heap.size ≠ R := by omega
  clear hg4 hb4 ho4 hb43 HX3 HG3 HS3 HR3 HX3z
  have hmo : Hid (rMo 6 z p = decide (V / 32 % 2 = 1)) := Lib.hid (by unfold rMo; rw [HVV.out]; rfl)
  by_cases hm : V / 32 % 2 = 1
  · have hmt : (bits .and .u8 (V : Int) 32 != 0) = true := by rw [a32]; simpa using hm
    have HNX : Hid (rNx 6 z p = p + 6 + nd l + (1 + (z (p + 6 + nd l)).toNat)) := Lib.hid (by
      unfold rNx
      rw [hmo.out, HLL.out]
      simp only [hm, decide_true, if_true, show rHd 6 = 6 from rfl])
    clear a63 a128 a64 a32 hm
    go_wp2_with fail
    refine (skip_any R b off n c (p + 6 + nd l) z _ HS4.out HR4.out hbR hn hc hpn).mono ?_
    rintro e w5 (⟨hk, rfl, hs5, hg5⟩ | ⟨hk, rfl, hg5⟩)
    rotate_left
    · have HG5 := Lib.hid (HG4.out.trans hg5)
      clear hg5
      go_wp2
      exact ends_panicked rfl (.inr ⟨fun hh => by have := hh.2; have := HNX.out; omega, rfl, HG5.out⟩)
    have HE5 := Lib.hid (HE4.out.grown hg5 hne)
    have HX5 := Lib.hid (HX4.out.grown hg5 (by omega))
    have HG5 := Lib.hid (HG4.out.trans hg5)
    have HS5 := Lib.hid hs5
    clear hs5 hg5 HE4 HX4 HG4 HS4 HR4
    go_wp2_with (first
      | (refine load_rc rfl (.tmp 5) rfl rfl HE5.out ?_)
      | (refine store_blk rfl (.tmp 2) (.tmp 25) (cells := rcC r) rfl rfl rfl HX5.out info_rc rfl hall.out ?_; intro w6 hg6 hb6 ho6; refine Hid.out ?_))
    refine Lib.hid ?_
    have HE6 := Lib.hid (show IsRc w6 W.heap.size r from hg6)
    have HG6 := Lib.hid (grown_below HG5.out (hb6 W.heap.size (Nat.le_refl _)) (Nat.le_refl _))
    have HS6 := Lib.hid (HS5.out.block (ho6 R (by omega)))
    clear hg6 hb6 ho6 hall
    go_wp2_with fail
    refine bodyPost_ret (results_rc rfl _ w6 W.heap.size r rfl HE6.out) rfl (.inl ⟨⟨by rw [HLL.out]; exact hsz, by rw [HNX.out]; exact hk⟩, by rw [HRC.out], by rw [HNX.out]; exact HS6.out, HG6.out⟩)
  · have hmt : (bits .and .u8 (V : Int) 32 != 0) = false := by rw [a32]; simpa using hm
    have HNX : Hid (rNx 6 z p = p + 6 + nd l) := Lib.hid (by
      unfold rNx
      rw [hmo.out, HLL.out]
      simp only [hm, decide_false, Bool.false_eq_true, if_false, show rHd 6 = 6 from rfl, Nat.add_zero])
    clear a63 a128 a64 a32 hm
    go_wp2_with (first
      | (refine load_rc rfl (.tmp 5) rfl rfl HE4.out ?_)
      | (refine store_blk rfl (.tmp 2) (.tmp 25) (cells := rcC r) rfl rfl rfl HX4.out info_rc rfl hall.out ?_; intro w6 hg6 hb6 ho6; refine Hid.out ?_))
    refine Lib.hid ?_
    have HE6 := Lib.hid (show IsRc w6 W.heap.size r from hg6)
    have HG6 := Lib.hid (grown_below HG4.out (hb6 W.heap.size (Nat.le_refl _)) (Nat.le_refl _))
    have HS6 := Lib.hid (HS4.out.block (ho6 R (by omega)))
    clear hg6 hb6 ho6 hall
    go_wp2_with fail
    refine bodyPost_ret (results_rc rfl _ w6 W.heap.size r rfl HE6.out) rfl (.inl ⟨⟨by rw [HLL.out]; exact hsz, by rw [HNX.out]; exact hpn⟩, by rw [HRC.out], by rw [HNX.out]; exact HS6.out, HG6.out⟩)
end Go.Proofs.Ytplfilghhgdffaa
