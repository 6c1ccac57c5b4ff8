/- The walk of PduEntries: for every input the law returns true, and nothing that was there is written. No condition. -/
import Derived.Test.YtigkmcbkckfhbaaDAw
import Derived.Test.YtigkmcbkckfhbaaDBoth
import Derived.Test.YtigkmcbkckfhbaaSameN
namespace Go.Proofs.Ytigkmcbkckfhbaa
open Go.RowKit
set_option linter.unusedVariables false

/-- entries as an argument -/
def InN (w : World) (A : Option Addr) (m c : Nat) (L : Nat → En) : Prop := RdR w A m 11 (enA L) ∧ (∀ j, EnOk (L j)) ∧ (A = none → m = 0 ∧ c = 0) ∧ m ≤ c ∧ c * 32 ≤ 140737488351232
/-- n bytes and a number -/
def PutsP (w : World) (n : Nat) (X : Int) (z : Nat → Int) (e : Ending) (w' : World) : Prop :=
  ∃ A c, e = .returned (.tuple #[.slice A n c, .int .i64 X]) ∧ Rd w' A n z ∧ n ≤ c ∧ c ≤ maxLen ∧ Below w.heap.size w w'
theorem made_N (w0 w : World) (hb : Below w0.heap.size w0 w) : (w.alloc (.cells #[] 96)).ownsRow w0.heap.size 96 11 (.slice (some ⟨w.heap.size, 0, none⟩) 0 0) 0 [] :=
  World.ownsRow_made w #[] 0 hb.size (by decide) rfl
theorem puts_none {w w' : World} {X : Int} {e : Ending} (he : e = .returned (.tuple #[.slice none 0 0, .int .i64 X])) (hb : Below w.heap.size w w') : PutsP w 0 X (fun _ => 0) e w' :=
  ⟨none, 0, he, ⟨.inl rfl, fun _ => ⟨Int.le_refl 0, (by decide : (0 : Int) ≤ 255)⟩⟩, Nat.le_refl _, by decide, hb⟩
/-- both writers of m entries answer alike -/
theorem puts_both (L : Nat → En) (hL : ∀ j, EnOk (L j)) (m : Nat) : ∃ n X z, 0 ≤ X ∧ X ≤ 2 ∧ n ≤ 240 ∧ (X = 0 → n = 16 * m ∧ m ≤ 15 ∧ z = enZ L ∧ ∀ k, k < m → 0 ≤ (L k).li ∧ (L k).li ≤ 65535) ∧
    (∀ A c w, RdR w A m 11 (enA L) → m ≤ c → c ≤ 9223372036854775807 → Calls Try.prog 22 #[.slice A m c] w (PutsP w n X z)) ∧
    ∀ A c w, RdR w A m 11 (enA L) → m ≤ c → c ≤ 9223372036854775807 → Calls Try.prog 23 #[.slice A m c] w (PutsP w n X z) := by
  obtain ⟨m0, hm0⟩ := nends L m
  have key : ∃ n X z, 0 ≤ X ∧ X ≤ 2 ∧ n ≤ 240 ∧ (X = 0 → n = 16 * m ∧ m ≤ 15 ∧ z = enZ L ∧ ∀ k, k < m → 0 ≤ (L k).li ∧ (L k).li ≤ 65535) ∧ ∀ w e w', PutNPost w L m m0 e w' → PutsP w n X z e w' := by
    by_cases h1 : m0 < m
    · refine ⟨0, 1, fun _ => 0, by omega, by omega, by omega, fun h => by omega, fun w e w' h => ?_⟩
      rcases h with ⟨_, he, hb⟩ | ⟨h, _⟩ | ⟨h, _⟩
      · exact puts_none he hb
      · omega
      · omega
    · have h2 : m0 = m := by have := hm0.1; omega
      by_cases h15 : 15 < m
      · refine ⟨0, 2, fun _ => 0, by omega, by omega, by omega, fun h => by omega, fun w e w' h => ?_⟩
        rcases h with ⟨h, _⟩ | ⟨_, _, he, hb⟩ | ⟨_, h, _⟩
        · omega
        · exact puts_none he hb
        · omega
      · refine ⟨16 * m, 0, enZ L, by omega, by omega, by omega, fun _ => ⟨rfl, by omega, rfl, fun k hk => hm0.2.1 k (by omega)⟩, fun w e w' h => ?_⟩
        rcases h with ⟨h, _⟩ | ⟨_, h, _⟩ | ⟨_, _, v, rfl, ho, hb⟩
        · omega
        · omega
        · obtain ⟨A, c, rfl, h1, h2, _, hr⟩ := ho.shape
          exact ⟨A, c, rfl, hr, h1, h2, hb⟩
  obtain ⟨n, X, z, k1, k2, k3, k4, k5⟩ := key
  exact ⟨n, X, z, k1, k2, k3, k4, fun A c w h hc hcm => (putEntries_any A m c m0 L w h hL hc hcm hm0).mono fun e w' h => k5 w e w' h, fun A c w h hc hcm => (docPutEntries_any A m c m0 L w h hL hc hcm hm0).mono fun e w' h => k5 w e w' h⟩
theorem gets_of (m : Nat) (z : Nat → Int) (hm : m ≤ 15) (A : Option Addr) (c : Nat) (w : World) (h : Rd w A (16 * m) z) (hc : 16 * m ≤ c) (hcm : c ≤ maxLen) : Calls Try.prog 24 #[.slice A (16 * m) c] w (GetsP w 11 m 0 (nC z)) := by
  rcases Nat.eq_zero_or_pos m with rfl | h0
  · refine (getEntries_nil A c w).mono ?_
    rintro e w' ⟨he, rfl⟩
    exact getsP_none he (Below.refl _ _)
  · obtain ⟨b, off, rfl, hr⟩ := h.row (by omega)
    exact (getEntries_any b off m c z w hr h0 (by omega) hc hcm).mono fun e w' h => own_gets h
set_option maxHeartbeats 4000000 in
set_option maxRecDepth 100000 in
theorem walkPduEntries (a0 : Option Addr) (len0 cap0 : Nat) (L0 : Nat → En) (a1 : Option Addr) (len1 cap1 : Nat) (z1 : List Int) (w : World) (w0 : InN w a0 len0 cap0 L0) (w1 : IsRow .u8 w a1 len1 cap1 z1) (s1 : cap1 * 1 ≤ 140737488351232) :
    Calls Try.prog 5 #[.slice a0 len0 cap0, .slice a1 len1 cap1] w fun e w' => e = .returned (.bool true) ∧ Below w.heap.size w w' := by
  obtain ⟨h1, h2, h3, h4, h5⟩ := w0
  obtain ⟨hr1, hA1⟩ := isRow_rd w1
  have hl1 := (isRow_len w1).1
  obtain ⟨y, hy⟩ : ∃ y, (fun j => z1.getD j 0) = y := ⟨_, rfl⟩
  rw [hy] at hr1
  obtain ⟨n, X, z, hX0, hX2, hn, hXz, HPp, HPd⟩ := puts_both L0 h2 len0
  obtain ⟨K, Y, C, HBN⟩ := both_n len1 y hr1.2
  have HA := Lib.hid h3
  have HR := Lib.hid h1
  have HOk := Lib.hid h2
  have HR1 := Lib.hid hr1
  have HA1 := Lib.hid hA1
  have HPP := Lib.hid HPp
  have HPD := Lib.hid HPd
  have HX := Lib.hid hXz
  have HBB := Lib.hid HBN
  have hK := HBN.le
  clear h1 h2 h3 hr1 hA1 HPp HPd hXz HBN w1 hy
  go_enter Try.func5, Try.ntmps5
  go_wp2_with fail
  refine (awake_any _).mono ?_
  rintro e w1 ⟨rfl, hb1⟩
  have HRa := Lib.hid (HR.out.below ((hb1).alloc hb1.size (.cells #[] 96)) rfl)
  have HB1a := Lib.hid (hb1.alloc hb1.size (.cells #[] 96))
  have HM := Lib.hid (made_N w w1 hb1)
  clear hb1
  go_wp2_with (first
    | (at_builtin; refine app_N rfl (.tmp 18) (.tmp 19) rfl w (.slice (some ⟨w1.heap.size, 0, none⟩) 0 0) 0 [] rfl HM.out HB1a.out a0 len0 cap0 (enA L0) rfl HRa.out HA.out (recs_en L0) (by omega) ?_; intro v2 w2 ho2 hb2 hs2 hk2; (rw [Nat.zero_add, List.nil_append] at ho2); (obtain ⟨A2, c2, rfl, hc2, hm2, _, hR2⟩ := ownR_shape (recs_en L0) (by decide) ho2); (have HR2 := Lib.hid hR2); (have HB2 := Lib.hid hb2)))
  unfold maxLen at hm2
  clear ho2 hb2 hs2 hk2 hR2 HRa HB1a HM
  refine (HPP.out A2 c2 _ HR2.out hc2 hm2).mono ?_
  rintro e w3 ⟨A3, c3, rfl, hr3, hc3, hm3, hb3⟩
  have HB3 := Lib.hid (HB2.out.trans (hb3.mono HB2.out.size))
  have HP3 := Lib.hid hr3
  have HM3 := Lib.hid hm3
  unfold maxLen at hm3
  clear hr3 hb3 HR2
  go_wp2_with fail
  refine (HPD.out a0 cap0 _ (HR.out.below HB3.out rfl) h4 (by omega)).mono ?_
  rintro e w4 ⟨A4, c4, rfl, hr4, hc4, hm4, hb4⟩
  have HB4 := Lib.hid (HB3.out.trans (hb4.mono HB3.out.size))
  have HP4 := Lib.hid (HP3.out.below hb4 rfl)
  have HQ4 := Lib.hid hr4
  unfold maxLen at hm4
  clear hr4 hb4 HP3
  go_wp2_with fail
  refine (twin_any a1 len1 cap1 y _ (HR1.out.below HB4.out rfl) HA1.out (by omega)).mono ?_
  rintro e w5 ⟨g5, c5, rfl, hg5, ho5, hb5⟩
  have HB5 := Lib.hid (HB4.out.trans (hb5.mono HB4.out.size))
  have HP5 := Lib.hid (HP4.out.below hb5 rfl)
  have HQ5 := Lib.hid (HQ4.out.below hb5 rfl)
  have HT5 := Lib.hid ho5.rd
  have hcc5 := ho5.caps.1
  have HC5 := Lib.hid ho5.caps.2
  clear ho5 hb5 HP4 HQ4 HB4
  go_wp2_with fail
  refine (HBB.out.prog _ _ _ HT5.out hcc5 HC5.out).mono ?_
  rintro e w6 ⟨A6, c6, rfl, hr6, hb6⟩
  have HB6 := Lib.hid (HB5.out.trans (hb6.mono HB5.out.size))
  have HP6 := Lib.hid (HP5.out.below hb6 rfl)
  have HQ6 := Lib.hid (HQ5.out.below hb6 rfl)
  have HG6 := Lib.hid hr6
  clear hr6 hb6 HP5 HQ5 HT5
  go_wp2_with fail
  refine (HBB.out.docu _ _ _ (HR1.out.below HB6.out rfl) hl1 (by unfold maxLen; omega)).mono ?_
  rintro e w7 ⟨A7, c7, rfl, hr7, hb7⟩
  have HB7 := Lib.hid (HB6.out.trans (hb7.mono HB6.out.size))
  have HP7 := Lib.hid (HP6.out.below hb7 rfl)
  have HQ7 := Lib.hid (HQ6.out.below hb7 rfl)
  have HG7 := Lib.hid (HG6.out.below hb7 rfl)
  have HD7 := Lib.hid hr7
  clear hr7 hb7 HP6 HQ6 HG6 HB6
  go_wp2_with fail
  refine (same_yes A3 A4 n c3 c4 z z _ HP7.out HQ7.out (fun _ _ => rfl) (by omega)).mono ?_
  rintro e w8 ⟨rfl, r8, hw8⟩
  have hb8 : Below w7.heap.size w7 w8 := by rw [hw8]; exact bdrewN (bself _) r8
  have HB8 := Lib.hid (HB7.out.trans (hb8.mono HB7.out.size))
  have HP8 := Lib.hid (HP7.out.below hb8 rfl)
  have HG8 := Lib.hid (HG7.out.below hb8 rfl)
  have HD8 := Lib.hid (HD7.out.below hb8 rfl)
  clear hw8 hb8 HP7 HQ7 HG7 HD7 HB7
  go_wp2_with fail
  refine (sameN_yes A6 A7 K c6 c7 C _ HG8.out HD8.out (fun j _ => HBB.out.self j) HBB.out.size (by omega)).mono ?_
  rintro e w9 ⟨rfl, r9, hw9⟩
  have hb9 : Below w8.heap.size w8 w9 := by rw [hw9]; exact bdrewN (bself _) r9
  have HB9 := Lib.hid (HB8.out.trans (hb9.mono HB8.out.size))
  have HP9 := Lib.hid (HP8.out.below hb9 rfl)
  clear hw9 hb9 HP8 HG8 HD8 HB8
  by_cases hX : X = 0
  · obtain ⟨hn16, hm15, rfl, hli⟩ := HX.out hX
    subst hX
    have HN := Lib.hid hn16
    have HLI := Lib.hid hli
    have HGO := Lib.hid (gets_of len0 (enZ L0) hm15 A3 c3 w9 (by rw [← hn16]; exact HP9.out) (by omega) HM3.out)
    rw [← hn16] at HGO
    clear hn16 hli
    go_wp2_with fail
    refine HGO.out.mono ?_
    rintro e wa ⟨Aa, ca, rfl, hra, hba⟩
    have HBa := Lib.hid (HB9.out.trans (hba.mono HB9.out.size))
    have HRa := Lib.hid (hra.congr (C' := enA L0) fun j hj => nC_enZ L0 j (HOk.out j) (HLI.out j hj))
    have HR0 := Lib.hid (HR.out.below HBa.out rfl)
    clear hra hba
    go_wp2_with fail
    refine (sameN_yes Aa a0 len0 ca cap0 (enA L0) _ HRa.out HR0.out (fun j _ => self_en 9995 _ (HOk.out j)) (fun j => rfl) (by omega)).mono ?_
    rintro e wb ⟨rfl, rb, hwb⟩
    have HBb : Hid (Below w.heap.size w wb) := Lib.hid (by rw [hwb]; exact bdrewN HBa.out rb)
    clear hwb HRa HR0
    go_wp2_with fail
    go_ret
    exact ⟨rfl, HBb.out⟩
  · have hXb : (X != 0) = true := by simpa using hX
    go_wp2_with fail
    go_ret
    exact ⟨rfl, HB9.out⟩
end Go.Proofs.Ytigkmcbkckfhbaa
