/- The walk of ReachCuts: for every input the law returns true, and nothing that was there is written. No condition. -/
import Derived.Test.YtplfilghhgdffaaRAwake
import Derived.Test.YtplfilghhgdffaaSameE
namespace Go.Proofs.Ytplfilghhgdffaa
open Go.RowKit
set_option linter.unusedVariables false

theorem u8s_edZ_ends {L : Nat → Ed} {m : Nat} (h : ∀ k, k < m → (L k).me ≤ 16777215) (i : Nat) (hi : i < m) : eC (edZ L) (pos (eNx (edZ L)) i) = edA L i := by
  rw [pos_edZ]; exact gEd_edZ L i (h i hi)
theorem lends_cut (L : Nat → Ed) (n : Nat) : LEnds (eNx (edZ L)) (eOk (edZ L) n) n (n / 11) := by
  have hp : ∀ k, eNx (edZ L) (11 * k) = 11 * (k + 1) := fun k => by
    have := pos_edZ L (k + 1)
    show _ = _
    rw [← this]
    show eNx (edZ L) (11 * k) = eNx (edZ L) (pos (eNx (edZ L)) k)
    rw [pos_edZ]
  refine ⟨fun k hk => ?_, ?_⟩
  · rw [pos_edZ]
    unfold eOk
    rw [hp]
    exact ⟨by omega, by omega⟩
  · rw [pos_edZ]
    unfold eOk
    rw [hp]
    rcases Nat.eq_zero_or_pos (n % 11) with h | h
    · exact .inl (by omega)
    · exact .inr ⟨by omega, by omega⟩
/-- a list of edges that came in -/
def InE (w : World) (A : Option Addr) (m c : Nat) (L : Nat → Ed) : Prop := RdR w A m 8 (edA L) ∧ (∀ j, EdOk (L j)) ∧ (A = none → m = 0 ∧ c = 0) ∧ m ≤ c ∧ c * 12 ≤ 140737488351232
theorem made_E (w0 w : World) (hb : Below w0.heap.size w0 w) : (w.alloc (.cells #[] 30)).ownsRow w0.heap.size 30 8 (.slice (some ⟨w.heap.size, 0, none⟩) 0 0) 0 [] :=
  World.ownsRow_made w #[] 0 hb.size (by decide) rfl

set_option maxHeartbeats 4000000 in
set_option maxRecDepth 100000 in
theorem cuts_long (a0 : Option Addr) (len0 cap0 : Nat) (L0 : Nat → Ed) (a1 : Int) (w : World) (w0 : InE w a0 len0 cap0 L0) (hl : 23 < len0) :
    Calls Try.prog 8 #[.slice a0 len0 cap0, .int .u16 a1] w fun e w' => e = .returned (.bool true) ∧ Below w.heap.size w w' := by
  obtain ⟨h1, h2, h3, h4, h5⟩ := w0
  have HA := Lib.hid h3
  have HR := Lib.hid h1
  have HOk := Lib.hid h2
  clear h1 h2 h3
  go_enter Try.func8, Try.ntmps8
  go_wp2_with fail
  refine (awake_any _).mono ?_
  rintro e w1 ⟨rfl, hb1⟩
  have HR1 := Lib.hid (HR.out.below ((hb1).alloc hb1.size (.cells #[] 30)) rfl)
  have HB1a := Lib.hid (hb1.alloc hb1.size (.cells #[] 30))
  have HM := Lib.hid (made_E w w1 hb1)
  clear hb1
  go_wp2_with (first | (at_builtin; refine app_E rfl (.tmp 13) (.tmp 14) rfl w (.slice (some ⟨w1.heap.size, 0, none⟩) 0 0) 0 [] rfl HM.out HB1a.out a0 len0 cap0 (edA L0) rfl HR1.out HA.out (recs_ed L0) (by omega) ?_; intro v2 w2 ho2 hb2 hs2 hk2))
  rw [Nat.zero_add, List.nil_append] at ho2
  obtain ⟨A2, c2, rfl, hc2, hm2, _, hR2⟩ := ownR_shape (recs_ed L0) (by decide) ho2
  have HR2 := Lib.hid hR2
  have HB2 := Lib.hid hb2
  clear ho2 hb2 hs2 hk2 hR2 HR1 HB1a HM
  unfold maxLen at hm2
  refine (putEdges_long A2 len0 c2 _ hl (by omega)).mono ?_
  rintro e w3 ⟨rfl, rfl⟩
  go_wp2
  go_ret
  exact ⟨rfl, HB2.out⟩
set_option maxHeartbeats 4000000 in
set_option maxRecDepth 100000 in
theorem cuts_bad (a0 : Option Addr) (len0 cap0 : Nat) (L0 : Nat → Ed) (a1 : Int) (w : World) (w0 : InE w a0 len0 cap0 L0) (hl : len0 ≤ 23) (m0 : Nat) (hm : EEnds L0 len0 m0) (hlt : m0 < len0) :
    Calls Try.prog 8 #[.slice a0 len0 cap0, .int .u16 a1] w fun e w' => e = .returned (.bool true) ∧ Below w.heap.size w w' := by
  obtain ⟨h1, h2, h3, h4, h5⟩ := w0
  have HA := Lib.hid h3
  have HR := Lib.hid h1
  have HOk := Lib.hid h2
  clear h1 h2 h3
  go_enter Try.func8, Try.ntmps8
  go_wp2_with fail
  refine (awake_any _).mono ?_
  rintro e w1 ⟨rfl, hb1⟩
  have HR1 := Lib.hid (HR.out.below ((hb1).alloc hb1.size (.cells #[] 30)) rfl)
  have HB1a := Lib.hid (hb1.alloc hb1.size (.cells #[] 30))
  have HM := Lib.hid (made_E w w1 hb1)
  clear hb1
  go_wp2_with (first | (at_builtin; refine app_E rfl (.tmp 13) (.tmp 14) rfl w (.slice (some ⟨w1.heap.size, 0, none⟩) 0 0) 0 [] rfl HM.out HB1a.out a0 len0 cap0 (edA L0) rfl HR1.out HA.out (recs_ed L0) (by omega) ?_; intro v2 w2 ho2 hb2 hs2 hk2))
  rw [Nat.zero_add, List.nil_append] at ho2
  obtain ⟨A2, c2, rfl, hc2, hm2, _, hR2⟩ := ownR_shape (recs_ed L0) (by decide) ho2
  have HR2 := Lib.hid hR2
  have HB2 := Lib.hid hb2
  clear ho2 hb2 hs2 hk2 hR2 HR1 HB1a HM
  unfold maxLen at hm2
  refine (putEdges_any A2 len0 c2 m0 L0 _ HR2.out HOk.out hl hc2 (by omega) hm).mono ?_
  rintro e w3 (⟨h, _⟩ | ⟨_, rfl, hb3⟩)
  · omega
  have HB3 := Lib.hid (HB2.out.trans (hb3.mono HB2.out.size))
  clear hb3
  go_wp2
  go_ret
  exact ⟨rfl, HB3.out⟩
set_option maxHeartbeats 4000000 in
set_option maxRecDepth 100000 in
theorem cuts_good (a0 : Option Addr) (len0 cap0 : Nat) (L0 : Nat → Ed) (a1 : Int) (w : World) (w0 : InE w a0 len0 cap0 L0) (hl : len0 ≤ 23) (hm : EEnds L0 len0 len0) (N kk : Nat) (hN : a1 = (N : Int)) (hN2 : N ≤ 65535) (hkk : kk = N % (11 * len0 + 1)) :
    Calls Try.prog 8 #[.slice a0 len0 cap0, .int .u16 a1] w fun e w' => e = .returned (.bool true) ∧ Below w.heap.size w w' := by
  subst hN
  obtain ⟨h1, h2, h3, h4, h5⟩ := w0
  have HA := Lib.hid h3
  have HR := Lib.hid h1
  have HOk := Lib.hid h2
  clear h1 h2 h3
  go_enter Try.func8, Try.ntmps8
  go_wp2_with fail
  refine (awake_any _).mono ?_
  rintro e w1 ⟨rfl, hb1⟩
  have HR1 := Lib.hid (HR.out.below ((hb1).alloc hb1.size (.cells #[] 30)) rfl)
  have HB1a := Lib.hid (hb1.alloc hb1.size (.cells #[] 30))
  have HM := Lib.hid (made_E w w1 hb1)
  clear hb1
  go_wp2_with (first | (at_builtin; refine app_E rfl (.tmp 13) (.tmp 14) rfl w (.slice (some ⟨w1.heap.size, 0, none⟩) 0 0) 0 [] rfl HM.out HB1a.out a0 len0 cap0 (edA L0) rfl HR1.out HA.out (recs_ed L0) (by omega) ?_; intro v2 w2 ho2 hb2 hs2 hk2))
  rw [Nat.zero_add, List.nil_append] at ho2
  obtain ⟨A2, c2, rfl, hc2, hm2, _, hR2⟩ := ownR_shape (recs_ed L0) (by decide) ho2
  have HR2 := Lib.hid hR2
  have HB2 := Lib.hid hb2
  clear ho2 hb2 hs2 hk2 hR2 HR1 HB1a HM
  unfold maxLen at hm2
  refine (putEdges_any A2 len0 c2 len0 L0 _ HR2.out HOk.out hl hc2 (by omega) hm).mono ?_
  rintro e w3 (⟨_, v3, rfl, ho3, hb3⟩ | ⟨h, _⟩)
  rotate_left
  · omega
  have HB3 := Lib.hid (HB2.out.trans (hb3.mono HB2.out.size))
  have hR0 := HR.out.below HB3.out rfl
  have HR3 := Lib.hid hR0
  obtain ⟨n3, hn3⟩ : ∃ n3, 11 * len0 = n3 := ⟨_, rfl⟩
  rw [hn3] at ho3 hkk
  obtain ⟨A3, c3, rfl, hc3, hm3, _, hrd⟩ := ho3.shape
  have HRd := Lib.hid hrd
  have HN3 := Lib.hid hn3
  clear hb3 ho3 hR0 hrd
  unfold maxLen at hm3
  have hn3b : n3 ≤ 253 := by omega
  have hkle : kk ≤ n3 := by rw [hkk]; have := Nat.mod_lt N (show 0 < n3 + 1 by omega); omega
  have hrem : ((N : Int) % ((n3 : Int) + 1)) = (kk : Int) := by rw [hkk, Int.natCast_emod]; simp
  have HKK := Lib.hid hkk
  clear hkk hn3
  go_wp2_with fail
  have hkc : kk ≤ c3 := by omega
  refine (getEdges_any A3 kk c3 (kk / 11) (edZ L0) _ (HRd.out.cut kk hkle) (lends_cut L0 kk) (by omega) hkc (by omega)).mono ?_
  have HEn := Lib.hid hm.2.1
  rintro e w4 (⟨hp, v4, rfl, ho4, hb4⟩ | ⟨hp, rfl, hb4⟩)
  · rw [pos_edZ] at hp
    have HB4 := Lib.hid (HB3.out.trans (hb4.mono HB3.out.size))
    have hR4 := HR3.out.below hb4 rfl
    obtain ⟨A4, c4, rfl, hc4, hm4, _, hl4⟩ := ownR_shape (fun j => recs_eC (edZ L0) (pos (eNx (edZ L0)) j)) (by decide) ho4
    obtain ⟨q, hq⟩ : ∃ q, kk / 11 = q := ⟨_, rfl⟩
    have hq1 : q ≤ len0 := by have := HN3.out; omega
    rw [hq] at hl4 hc4
    have HL4 := Lib.hid (hl4.congr (C' := edA L0) fun j hj => u8s_edZ_ends (m := len0) HEn.out j (by omega))
    have HR4 := Lib.hid (hR4.cut q hq1)
    have hmod : (kk : Int) % 11 = 0 := by omega
    have hdiv : (kk : Int) / 11 = (q : Int) := by omega
    have hqc : (q : Int) ≤ (cap0 : Int) := by omega
    have HS := Lib.hid (fun (j : Nat) (hj : j < q) => self_ed 9996 (L0 j) (HOk.out j))
    clear hp ho4 hb4 hR4 hl4 hm HR3 HRd
    have HQ := Lib.hid hq
    clear hq
    go_wp2_with fail
    have hq := HQ.out
    clear HQ
    subst hq
    refine (sameE_yes A4 a0 (kk / 11) c4 cap0 (edA L0) _ HL4.out HR4.out (fun j hj => HS.out j hj) (fun j => rfl) (by omega)).mono ?_
    rintro e w5 ⟨rfl, r, hw5⟩
    have HB5 : Hid (Below w.heap.size w w5) := Lib.hid (by rw [hw5]; exact bdrewN HB4.out r)
    clear hw5 HEn HL4 HR4 HS hmod hdiv hqc
    go_wp2_with fail
    go_ret
    exact ⟨rfl, HB5.out⟩
  · rw [pos_edZ] at hp
    have HB4 := Lib.hid (HB3.out.trans (hb4.mono HB3.out.size))
    have hmod : ((kk : Int) % 11 != 0) = true := by
      have : ¬ ((kk : Int) % 11 = 0) := by omega
      simpa using this
    clear hp hb4 hm
    go_wp2
    go_ret
    exact ⟨rfl, HB4.out⟩
theorem walkReachCuts (a0 : Option Addr) (len0 cap0 : Nat) (L0 : Nat → Ed) (a1 : Int) (w : World) (w0 : InE w a0 len0 cap0 L0) (w1 : (Lit.int .u16 a1).wf = true) :
    Calls Try.prog 8 #[.slice a0 len0 cap0, .int .u16 a1] w fun e w' => e = .returned (.bool true) ∧ Below w.heap.size w w' := by
  have h1 := wf_u16 w1
  by_cases hl : 23 < len0
  · exact cuts_long a0 len0 cap0 L0 a1 w w0 hl
  · obtain ⟨m0, hm⟩ := eends L0 len0
    by_cases h0 : m0 = len0
    · subst h0
      exact cuts_good a0 m0 cap0 L0 a1 w w0 (by omega) hm a1.toNat _ (Int.toNat_of_nonneg h1.1).symm (by omega) rfl
    · exact cuts_bad a0 len0 cap0 L0 a1 w w0 (by omega) m0 hm (by have := hm.1; omega)
end Go.Proofs.Ytplfilghhgdffaa
