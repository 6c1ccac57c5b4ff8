/- Texts of this claim put together; each theorem states its conditions. -/
import Derived.Test.YtccoicjmmeoggaaDoorGMacSumsCard3
import Derived.Test.YtccoicjmmeoggaaDoorGMacSumsCard1
import Derived.Test.YtccoicjmmeoggaaDoorCards
import Derived.Test.YtccoicjmmeoggaaDoorTie
import Derived.WalkKit
import Derived.ProofKit
import Derived.OpenShut
import Derived.LaidMore
import Derived.Deep.DeepHandedRow
import Derived.Deep.DeepWitnessRowRef
import Derived.Lib.LaidTab
import Derived.Stop.LaidErr
import Derived.ChangeOld
import Derived.SizedLaws
/- The document's Hmac: the sum of a text with a key. Each theorem states its conditions. -/
namespace Go.Proofs.YtccoicjmmeoggaaDoor
open Go.RowKit
set_option linter.unusedVariables false

/-- bytes of the call's own, told by what keeps them -/
theorem own_keep {w : World} {base n : Nat} {v : Value} {z : Nat → Int} (h : OwnB w base v n z) : ∃ l : List (Nat × Obj), HKp w l ∧ (∀ w', HKp w' l → OwnB w' base v n z) ∧ (∀ v' : Value, (v'.ownBlock = none ∨ v'.ownBlock ≠ v.ownBlock) → ∀ p ∈ l, v'.ownBlock ≠ some p.1) ∧ (∀ v' : Value, (∀ p ∈ l, v'.ownBlock ≠ some p.1) → v'.ownBlock = none ∨ v'.ownBlock ≠ v.ownBlock) := by
  rcases h.1.2 with ⟨rfl, e⟩ | ⟨g, cap, cur, rfl, h1, h2, h3⟩
  · refine ⟨[], HKp.nil w, fun w' _ => ⟨⟨h.1.1, .inl ⟨rfl, e⟩⟩, h.2⟩, fun v' _ p hp => (by cases hp), fun v' _ => ?_⟩
    by_cases e : v'.ownBlock = none
    · exact .inl e
    · exact .inr (by simpa [Value.ownBlock] using e)
  · refine ⟨[(g, .cells cur 5 (0, 0))], (HKp.nil w).cons h2, fun w' hk => ⟨⟨h.1.1, .inr ⟨g, cap, cur, rfl, h1, hk.head, h3⟩⟩, h.2⟩, fun v' hv p hp e => ?_, fun v' hv => .inr fun e => ?_⟩
    · simp at hp
      subst hp
      rcases hv with hv | hv
      · rw [hv] at e; cases e
      · exact hv (by rw [e]; simp [Value.ownBlock])
    · exact hv (g, .cells cur 5 (0, 0)) (by simp) (by rw [e]; simp [Value.ownBlock])
/-- two lists that grow side by side -/
def Two (w0 w : World) (u v : Value) (n : Nat) (y z : Nat → Int) : Prop := HOut w0 w u n y [] ∧ HOut w0 w v n z [] ∧ (u.ownBlock = none ∨ u.ownBlock ≠ v.ownBlock) ∧ (v.ownBlock = none ∨ v.ownBlock ≠ u.ownBlock)
theorem hout_nil (w : World) {z : Nat → Int} (hz : ∀ j, 0 ≤ z j ∧ z j ≤ 255) : HOut w w (.slice none 0 0) 0 z [] := ⟨OwnB.nil w _ hz, Below.refl _ _, HKp.nil w, fun p hp => by cases hp⟩
/-- a list that grows while another one stays -/
theorem hout_side {w0 w : World} {u v : Value} {n m : Nat} {y z : Nat → Int} (hu : HOut w0 w u n y []) (hv : HOut w0 w v m z []) (h1 : u.ownBlock = none ∨ u.ownBlock ≠ v.ownBlock) : ∃ l, HOut w0 w u n y l ∧ (∀ w' u' n' y', HOut w0 w' u' n' y' l → HOut w0 w' v m z [] ∧ (u'.ownBlock = none ∨ u'.ownBlock ≠ v.ownBlock)) := by
  obtain ⟨l, h2, h3, h4, h5⟩ := own_keep hv.1
  exact ⟨l, ⟨hu.1, hu.2.1, h2, h4 u h1⟩, fun w' u' n' y' h => ⟨⟨h3 w' h.2.2.1, h.2.1, HKp.nil _, fun p hp => by cases hp⟩, h5 u' h.2.2.2⟩⟩
theorem ne_flip {u v : Value} (h : u.ownBlock = none ∨ u.ownBlock ≠ v.ownBlock) : v.ownBlock = none ∨ v.ownBlock ≠ u.ownBlock := by
  by_cases e : v.ownBlock = none
  · exact .inl e
  · rcases h with h | h
    · exact .inr (by rw [h]; exact e)
    · exact .inr (fun e' => h e'.symm)
theorem index_d (o : Oper) (e : Operand → Value) (x y : Operand) (ho : o.op = .index 26 x y) (s : Nat → Int) (i : Nat) (hi : i < 32) (h0 : e x = .agg (bytC 32 s)) (h1 : e y = .int .i64 (i : Int)) (W : World) : (execOp e o).run Tryd.prog W = .ok (.value (.int .u8 (s i))) W := by
  rcases (by omega : i = 0 ∨ i = 1 ∨ i = 2 ∨ i = 3 ∨ i = 4 ∨ i = 5 ∨ i = 6 ∨ i = 7 ∨ i = 8 ∨ i = 9 ∨ i = 10 ∨ i = 11 ∨ i = 12 ∨ i = 13 ∨ i = 14 ∨ i = 15 ∨ i = 16 ∨ i = 17 ∨ i = 18 ∨ i = 19 ∨ i = 20 ∨ i = 21 ∨ i = 22 ∨ i = 23 ∨ i = 24 ∨ i = 25 ∨ i = 26 ∨ i = 27 ∨ i = 28 ∨ i = 29 ∨ i = 30 ∨ i = 31) with rfl | rfl | rfl | rfl | rfl | rfl | rfl | rfl | rfl | rfl | rfl | rfl | rfl | rfl | rfl | rfl | rfl | rfl | rfl | rfl | rfl | rfl | rfl | rfl | rfl | rfl | rfl | rfl | rfl | rfl | rfl | rfl
  all_goals
    unfold execOp
    simp only [ho, h0, h1]
    kernel_rfl
theorem rsha_row {w0 w : World} {v : Value} {n : Nat} {z : Nat → Int} (h : OwnB w w0.heap.size v n z) (hn : n ≤ 140737488352000) :
    Calls Tryd.prog 13 #[v] w fun e w' => e = .returned (.agg (bytC 32 (shaZ z n))) ∧ Below w.heap.size w w' := by
  obtain ⟨A, c, rfl, h1, h2, h3, h4⟩ := h.shape
  exact rsha_any A n c z w h4 h3 hn
theorem cat_zz {K : Nat → Int} {i : Nat} {b : Int} (j : Nat) (hj : j < i + 1) (hb : K i = b) : catZ K i (fun _ => b) j = K j := by
  unfold catZ
  by_cases h : j < i
  · rw [if_pos h]
  · rw [if_neg h, show j = i from by omega, hb]
set_option maxHeartbeats 8000000 in
set_option maxRecDepth 100000 in
theorem rhmac_any (A : Option Addr) (m ck : Nat) (k : Nat → Int) (B : Option Addr) (n c : Nat) (z : Nat → Int) (w : World) (hk : Rd w A m k) (hp : Rd w B n z) (hB : B = none → n = 0 ∧ c = 0) (hm : m ≤ 64) (hn : n ≤ 140737488351300) :
    Calls Tryd.prog 15 #[.slice A m ck, .slice B n c] w fun e w' => e = .returned (.agg (bytC 32 (hmacZ k m z n))) ∧ Below w.heap.size w w' := by
  have HK := Lib.hid hk
  have HP := Lib.hid hp
  have HPB := Lib.hid hB
  have hkb := hkey_bd hk.2 m
  obtain ⟨K, eK⟩ : ∃ K, keyZ k m = K := ⟨_, rfl⟩
  rw [eK] at hkb
  obtain ⟨x1, e1⟩ : ∃ x, xorZ K 0x36 = x := ⟨_, rfl⟩
  obtain ⟨x2, e2⟩ : ∃ x, xorZ K 0x5c = x := ⟨_, rfl⟩
  obtain ⟨d1, e3⟩ : ∃ s, shaZ (catZ x1 64 z) (64 + n) = s := ⟨_, rfl⟩
  obtain ⟨d2, e4⟩ : ∃ s, shaZ (catZ x2 64 d1) 96 = s := ⟨_, rfl⟩
  have HS : Hid (hmacZ k m z n = d2) := Lib.hid (by unfold hmacZ; rw [eK, e1, e2, e3, e4])
  have HE := Lib.hid (And.intro e1 (And.intro e2 (And.intro e3 e4)))
  have HX1 : Hid (∀ j, 0 ≤ x1 j ∧ x1 j ≤ 255) := Lib.hid (by rw [← e1]; exact hxor_bd hkb _ (by omega))
  have HX2 : Hid (∀ j, 0 ≤ x2 j ∧ x2 j ≤ 255) := Lib.hid (by rw [← e2]; exact hxor_bd hkb _ (by omega))
  have HS1 : Hid (∀ j, 0 ≤ d1 j ∧ d1 j ≤ 255) := Lib.hid (by rw [← e3]; exact dg_bd _)
  have HKB := Lib.hid hkb
  have HKE := Lib.hid eK
  clear hk hp hB hkb eK e1 e2 e3 e4
  go_enter Tryd.func15, Tryd.ntmps15
  obtain ⟨N, hN⟩ : ∃ N, w.heap.size = N := ⟨_, rfl⟩
  have HN := Lib.hid hN
  clear hN
  go_wp2_with (refine wpList_new (op := ⟨some 4, _, _, _, _, _⟩) rfl 26 rfl (bytC 32 fun _ => 0) zero_d N HN.out ?_; intro w0 k1 b1 s1; refine Hid.out ?_)
  refine Lib.hid ?_
  have KR := Lib.hid k1
  have HB := Lib.hid b1
  have HK1 := Lib.hid (HK.out.below b1 rfl)
  have HP1 := Lib.hid (HP.out.below b1 rfl)
  have hwN : w.heap.size ≤ N := by rw [HN.out]; exact Nat.le_refl _
  clear k1 b1 s1
  have HT : Hid (Two w0 w0 (.slice none 0 0) (.slice none 0 0) 0 x1 x2) := Lib.hid ⟨hout_nil w0 HX1.out, hout_nil w0 HX2.out, .inl rfl, .inl rfl⟩
  go_wp2_with fail
  go_loopw [5, 6, 12] (fun t5 t6 t wr => ∃ (i : Nat) (A5 A6 : Option Addr) (c5 c6 : Nat), i ≤ 64 ∧ t = .int .i64 (i : Int) ∧ t5 = .slice A5 i c5 ∧ t6 = .slice A6 i c6 ∧ Hid (Two w0 wr (.slice A5 i c5) (.slice A6 i c6) i x1 x2)) (fun _ _ t _ => 64 - (intOf t).toNat)
  case atStart => exact ⟨0, none, none, 0, 0, by omega, rfl, rfl, rfl, HT⟩
  case round =>
    clear HT
    obtain ⟨i, A5, A6, c5, c6, hi, rfl, rfl, rfl, HT⟩ := hrel
    by_cases hlt : i < 64
    · have HK2 := Lib.hid (HK1.out.below HT.out.1.2.1 rfl)
      obtain ⟨b, hb⟩ : ∃ b, K i = b := ⟨_, rfl⟩
      have hb8 : 0 ≤ b ∧ b ≤ 255 := by rw [← hb]; exact HKB.out i
      by_cases him : i < m
      · obtain ⟨b9, off, rfl, hr⟩ := HK2.out.row (by omega)
        have hb : K i = b := hb
        have ck : wr.cell? ⟨b9, off + i, none⟩ = some (.int .u8 b) := (hr.2.1 i him).trans (by rw [← hb, ← HKE.out]; unfold keyZ; rw [if_pos him])
        have lim : (i : Int) < (m : Int) := by omega
        clear hr
        have HV1 : Hid (((b.toNat ^^^ (54 : Int).toNat : Nat) : Int) = x1 i) := Lib.hid (by rw [← HE.out.1, ← hb]; rfl)
        have HV2 : Hid (((b.toNat ^^^ (92 : Int).toNat : Nat) : Int) = x2 i) := Lib.hid (by rw [← HE.out.2.1, ← hb]; rfl)
        obtain ⟨p1, hp1⟩ : ∃ p, x1 i = p := ⟨_, rfl⟩
        obtain ⟨p2, hp2⟩ : ∃ p, x2 i = p := ⟨_, rfl⟩
        rw [hp1] at HV1
        rw [hp2] at HV2
        have HP1B := Lib.hid (show 0 ≤ p1 ∧ p1 ≤ 255 from by rw [← hp1]; exact HX1.out i)
        have HP2B := Lib.hid (show 0 ≤ p2 ∧ p2 ≤ 255 from by rw [← hp2]; exact HX2.out i)
        have HQ1 := Lib.hid hp1
        have HQ2 := Lib.hid hp2
        have HB8 := Lib.hid hb8
        clear hb hb8 hp1 hp2
        obtain ⟨l, hl, hL⟩ := hout_side HT.out.1 HT.out.2.1 HT.out.2.2.1
        have HL := Lib.hid (hl.alloc #[.int .u8 p1] 5)
        have HLF := Lib.hid hL
        clear hl hL HT
        go_wp2_with (refine wpList_v (op := ⟨some 25, _, _, _, _, _⟩) rfl (.int .u8 p1) (by rw [← HV1.out]; exact run_xor8 _ _ _ _ _ _ rfl b 54 rfl rfl HB8.out ⟨by omega, by omega⟩ _) ?_; refine Hid.out ?_)
        refine Lib.hid ?_
        go_wp2_with (at_builtin; refine wpList_hout rfl (.tmp 23) (.tmp 26) rfl rfl HL.out (some ⟨wr.heap.size, 0, none⟩) 1 1 (fun _ => p1) rfl (hrd_one (HKp.head HL.out.kp) rfl HP1B.out) (fun e => by cases e) (by omega) ?_; intro v4 w4 ho4; refine Hid.out ?_)
        refine Lib.hid ?_
        have ho5 := (ho4.tail).zz (z' := x1) (fun j hj => cat_zz j hj HQ1.out) HX1.out
        obtain ⟨hv6, hne⟩ := HLF.out w4 v4 (i + 1) x1 ho5
        have ho6 : HOut w0 w4 v4 (i + 1) x1 [] := ⟨ho5.1, ho5.2.1, HKp.nil _, fun p hp => by cases hp⟩
        obtain ⟨l2, hl2, hL2⟩ := hout_side hv6 ho6 (ne_flip hne)
        obtain ⟨A7, c7, rfl, _⟩ := ho5.1.shape
        have HM := Lib.hid (hl2.alloc #[.int .u8 p2] 5)
        have HMF := Lib.hid hL2
        clear ho4 ho5 hv6 hne ho6 hl2 hL2 HL HLF
        go_wp2_with (refine wpList_v (op := ⟨some 30, _, _, _, _, _⟩) rfl (.int .u8 p2) (by rw [← HV2.out]; exact run_xor8 _ _ _ _ _ _ rfl b 92 rfl rfl HB8.out ⟨by omega, by omega⟩ _) ?_; refine Hid.out ?_)
        refine Lib.hid ?_
        go_wp2_with (at_builtin; refine wpList_hout rfl (.tmp 28) (.tmp 31) rfl rfl HM.out (some ⟨w4.heap.size, 0, none⟩) 1 1 (fun _ => p2) rfl (hrd_one (HKp.head HM.out.kp) rfl HP2B.out) (fun e => by cases e) (by omega) ?_; intro v7 w7 ho7; refine Hid.out ?_)
        refine Lib.hid ?_
        have ho8 := (ho7.tail).zz (z' := x2) (fun j hj => cat_zz j hj HQ2.out) HX2.out
        obtain ⟨hv8, hne⟩ := HMF.out w7 v7 (i + 1) x2 ho8
        obtain ⟨A8, c8, rfl, _⟩ := ho8.1.shape
        have HT : Hid (Two w0 w7 (.slice A7 (i + 1) c7) (.slice A8 (i + 1) c8) (i + 1) x1 x2) := Lib.hid ⟨hv8, ⟨ho8.1, ho8.2.1, HKp.nil _, fun p hp => by cases hp⟩, ne_flip hne, hne⟩
        clear ho7 ho8 hv8 hne HM HMF
        go_wp2_with fail
        go_roundw
        case rel => exact ⟨i + 1, A7, A8, c7, c8, by omega, by go_num, rfl, rfl, HT⟩
        case measure => simp only [intOf]; omega
      · have hb0 : b = 0 := by rw [← hb, ← HKE.out]; unfold keyZ; rw [if_neg him]
        subst hb0
        have lim : ¬ (i : Int) < (m : Int) := by omega
        have HV1 : Hid ((((0 : Int).toNat ^^^ (54 : Int).toNat : Nat) : Int) = x1 i) := Lib.hid (by rw [← HE.out.1, ← hb]; rfl)
        have HV2 : Hid ((((0 : Int).toNat ^^^ (92 : Int).toNat : Nat) : Int) = x2 i) := Lib.hid (by rw [← HE.out.2.1, ← hb]; rfl)
        obtain ⟨p1, hp1⟩ : ∃ p, x1 i = p := ⟨_, rfl⟩
        obtain ⟨p2, hp2⟩ : ∃ p, x2 i = p := ⟨_, rfl⟩
        rw [hp1] at HV1
        rw [hp2] at HV2
        have HP1B := Lib.hid (show 0 ≤ p1 ∧ p1 ≤ 255 from by rw [← hp1]; exact HX1.out i)
        have HP2B := Lib.hid (show 0 ≤ p2 ∧ p2 ≤ 255 from by rw [← hp2]; exact HX2.out i)
        have HQ1 := Lib.hid hp1
        have HQ2 := Lib.hid hp2
        have HB8 := Lib.hid hb8
        clear hb hb8 hp1 hp2
        obtain ⟨l, hl, hL⟩ := hout_side HT.out.1 HT.out.2.1 HT.out.2.2.1
        have HL := Lib.hid (hl.alloc #[.int .u8 p1] 5)
        have HLF := Lib.hid hL
        clear hl hL HT
        go_wp2_with (refine wpList_v (op := ⟨some 25, _, _, _, _, _⟩) rfl (.int .u8 p1) (by rw [← HV1.out]; exact run_xor8 _ _ _ _ _ _ rfl 0 54 rfl rfl HB8.out ⟨by omega, by omega⟩ _) ?_; refine Hid.out ?_)
        refine Lib.hid ?_
        go_wp2_with (at_builtin; refine wpList_hout rfl (.tmp 23) (.tmp 26) rfl rfl HL.out (some ⟨wr.heap.size, 0, none⟩) 1 1 (fun _ => p1) rfl (hrd_one (HKp.head HL.out.kp) rfl HP1B.out) (fun e => by cases e) (by omega) ?_; intro v4 w4 ho4; refine Hid.out ?_)
        refine Lib.hid ?_
        have ho5 := (ho4.tail).zz (z' := x1) (fun j hj => cat_zz j hj HQ1.out) HX1.out
        obtain ⟨hv6, hne⟩ := HLF.out w4 v4 (i + 1) x1 ho5
        have ho6 : HOut w0 w4 v4 (i + 1) x1 [] := ⟨ho5.1, ho5.2.1, HKp.nil _, fun p hp => by cases hp⟩
        obtain ⟨l2, hl2, hL2⟩ := hout_side hv6 ho6 (ne_flip hne)
        obtain ⟨A7, c7, rfl, _⟩ := ho5.1.shape
        have HM := Lib.hid (hl2.alloc #[.int .u8 p2] 5)
        have HMF := Lib.hid hL2
        clear ho4 ho5 hv6 hne ho6 hl2 hL2 HL HLF
        go_wp2_with (refine wpList_v (op := ⟨some 30, _, _, _, _, _⟩) rfl (.int .u8 p2) (by rw [← HV2.out]; exact run_xor8 _ _ _ _ _ _ rfl 0 92 rfl rfl HB8.out ⟨by omega, by omega⟩ _) ?_; refine Hid.out ?_)
        refine Lib.hid ?_
        go_wp2_with (at_builtin; refine wpList_hout rfl (.tmp 28) (.tmp 31) rfl rfl HM.out (some ⟨w4.heap.size, 0, none⟩) 1 1 (fun _ => p2) rfl (hrd_one (HKp.head HM.out.kp) rfl HP2B.out) (fun e => by cases e) (by omega) ?_; intro v7 w7 ho7; refine Hid.out ?_)
        refine Lib.hid ?_
        have ho8 := (ho7.tail).zz (z' := x2) (fun j hj => cat_zz j hj HQ2.out) HX2.out
        obtain ⟨hv8, hne⟩ := HMF.out w7 v7 (i + 1) x2 ho8
        obtain ⟨A8, c8, rfl, _⟩ := ho8.1.shape
        have HT : Hid (Two w0 w7 (.slice A7 (i + 1) c7) (.slice A8 (i + 1) c8) (i + 1) x1 x2) := Lib.hid ⟨hv8, ⟨ho8.1, ho8.2.1, HKp.nil _, fun p hp => by cases hp⟩, ne_flip hne, hne⟩
        clear ho7 ho8 hv8 hne HM HMF
        go_wp2_with fail
        go_roundw
        case rel => exact ⟨i + 1, A7, A8, c7, c8, by omega, by go_num, rfl, rfl, HT⟩
        case measure => simp only [intOf]; omega
    · obtain rfl : i = 64 := by omega
      have HSP := Lib.hid (hout_side HT.out.1 HT.out.2.1 HT.out.2.2.1)
      obtain ⟨l, hl, hL⟩ := HSP.out
      have HL := Lib.hid hl
      have HLF := Lib.hid hL
      have HP2 := Lib.hid (HP1.out.below HT.out.1.2.1 rfl)
      clear hl hL HSP HT
      go_wp2_with (at_builtin; refine wpList_hout rfl (.tmp 34) (.tmp 35) rfl rfl HL.out B n c z rfl HP2.out HPB.out (by omega) ?_; intro v4 w4 ho4; refine Hid.out ?_)
      refine Lib.hid ?_
      obtain ⟨hv6, _⟩ := HLF.out w4 v4 (64 + n) _ ho4
      have HSH := Lib.hid (rsha_row ho4.1 (by omega))
      rw [HE.out.2.2.1] at HSH
      have HO6 := Lib.hid hv6
      clear ho4 hv6 HL HLF HP2
      go_wp2_with fail
      refine HSH.out.mono ?_
      rintro e w5 ⟨rfl, b1⟩
      have HO7 := Lib.hid (HO6.out.below b1)
      clear HSH b1 HO6
      obtain ⟨N9, hN9⟩ : ∃ N, w5.heap.size = N := ⟨_, rfl⟩
      have HN9 := Lib.hid hN9
      clear hN9
      go_wp2_with (refine wpList_new (op := ⟨some 9, _, _, _, _, _⟩) rfl 26 rfl (bytC 32 fun _ => 0) zero_d N9 HN9.out ?_; intro w6 k1 b1 s1; refine Hid.out ?_)
      refine Lib.hid ?_
      have K9 := Lib.hid k1
      have HO8 := Lib.hid (HO7.out.below b1)
      have hw9 : w0.heap.size ≤ N9 := by rw [← HN9.out]; exact HO7.out.le
      have HOF : Hid ((Value.slice A6 64 c6).ownBlock ≠ some N9) := Lib.hid (HO7.out.own_lt (by rw [HN9.out]; exact Nat.le_refl _))
      clear k1 b1 s1 HO7
      go_wp2_with (refine wpList_st rfl 26 (.tmp 9) (.tmp 37) rfl N9 0 rfl (.agg (bytC 32 d1)) (bytC 32 d1) rfl rfl (info_d _) (byt_one _ _) K9.out (byt_fit _ _ _) (C' := bytC 32 d1) (byt_all _ _ _) ?_; intro w7 q1; refine Hid.out ?_)
      refine Lib.hid ?_
      have HO9 := Lib.hid (HO8.out.far q1 HOF.out hw9)
      have K9n : Hid (Blk 26 w7 N9 (bytC 32 d1)) := Lib.hid q1.1
      clear q1 HO8 K9 HOF
      go_wp2_with (refine wpList_ld (op := ⟨some 38, _, _, _, _, _⟩) (by rfl) 26 (.tmp 9) rfl N9 0 rfl (bytC 32 d1) _ K9n.out.all Tryd.underlying26 rfl (info_dL _) ?_; refine Hid.out ?_)
      refine Lib.hid ?_
      clear K9n
      go_wp2_with fail
      go_loopw [6, 39] (fun t6 t wr => ∃ (i : Nat) (A7 : Option Addr) (c7 : Nat), i ≤ 32 ∧ t = .int .i64 (i : Int) ∧ t6 = .slice A7 (64 + i) c7 ∧ Hid (HOut w0 wr (.slice A7 (64 + i) c7) (64 + i) (catZ x2 64 d1) [])) (fun _ t _ => 32 - (intOf t).toNat)
      case atStart => exact ⟨0, A6, c6, by omega, rfl, rfl, Lib.hid (HO9.out.zz (fun j hj => by unfold catZ; rw [if_pos (by omega)]) (hcat_bd HX2.out HS1.out 64))⟩
      case round =>
        clear HO9
        obtain ⟨i, A7, c7, hi, rfl, rfl, HO⟩ := hrel
        by_cases hlt2 : i < 32
        · obtain ⟨p1, hp1⟩ : ∃ p, d1 i = p := ⟨_, rfl⟩
          have HPB1 := Lib.hid (show 0 ≤ p1 ∧ p1 ≤ 255 from by rw [← hp1]; exact HS1.out i)
          have HQ1 := Lib.hid hp1
          clear hp1
          have HL := Lib.hid (HO.out.alloc #[.int .u8 p1] 5)
          go_wp2_with (refine wpList_v (op := ⟨some 41, _, _, _, _, _⟩) rfl (.int .u8 p1) (by rw [← HQ1.out]; exact index_d _ _ _ _ rfl d1 i hlt2 rfl rfl _) ?_; refine Hid.out ?_)
          refine Lib.hid ?_
          go_wp2_with (at_builtin; refine wpList_hout rfl (.tmp 42) (.tmp 44) rfl rfl HL.out (some ⟨wr.heap.size, 0, none⟩) 1 1 (fun _ => p1) rfl (hrd_one (HKp.head HL.out.kp) rfl HPB1.out) (fun e => by cases e) (by omega) ?_; intro v8 w8 ho8; refine Hid.out ?_)
          refine Lib.hid ?_
          have ho9 := (ho8.tail).zz (z' := catZ x2 64 d1) (fun j hj => cat_zz j hj (by unfold catZ; rw [if_neg (by omega), Nat.add_sub_cancel_left, HQ1.out])) (hcat_bd HX2.out HS1.out 64)
          obtain ⟨A9, c9, rfl, _⟩ := ho9.1.shape
          have HO2 := Lib.hid ho9
          clear ho8 ho9 HL HO
          go_wp2_with fail
          go_roundw
          case rel => exact ⟨i + 1, A9, c9, by omega, by go_num, rfl, HO2⟩
          case measure => simp only [intOf]; omega
        · obtain rfl : i = 32 := by omega
          have HSH := Lib.hid (rsha_row HO.out.1 (by omega))
          rw [show 64 + 32 = 96 from rfl, HE.out.2.2.2] at HSH
          have KRR := Lib.hid (KR.out.below HO.out.2.1 KR.out.lt)
          have HBB := Lib.hid (HB.out.trans (HO.out.2.1.mono HB.out.size))
          clear KR HB
          go_wp2_with fail
          refine HSH.out.mono ?_
          rintro e w9 ⟨rfl, b1⟩
          have KR := Lib.hid (KRR.out.below b1 KRR.out.lt)
          have HB := Lib.hid (HBB.out.trans (b1.mono HBB.out.size))
          clear KRR HBB b1 HSH HO
          go_wp2_with (refine wpList_st rfl 26 (.tmp 4) (.tmp 48) rfl N 0 rfl (.agg (bytC 32 d2)) (bytC 32 d2) rfl rfl (info_d _) (byt_one _ _) KR.out (byt_fit _ _ _) (C' := bytC 32 d2) (byt_all _ _ _) ?_; intro w10 q1; refine Hid.out ?_)
          refine Lib.hid ?_
          have HB2 := Lib.hid (HB.out.trans (q1.2.1 _ hwN))
          have KR2 : Hid (Blk 26 w10 N (bytC 32 d2)) := Lib.hid q1.1
          clear q1 HB KR
          go_wp2_with fail
          exact bodyPost_ret (results_1 rfl _ _ N (bytC 32 d2) Tryd.underlying26 rfl (info_d _) rfl KR2.out) rfl ⟨by rw [HS.out], HB2.out⟩
end Go.Proofs.YtccoicjmmeoggaaDoor

/- The walk of MacSums: for every input the law returns true, and nothing that was there is written, if the table lies as the text lays it. -/
namespace Go.Proofs.YtccoicjmmeoggaaDoor
open Go.RowKit
set_option linter.unusedVariables false

theorem isRow_cap {w : World} {A : Option Addr} {len cap : Nat} {zs : List Int} (h : IsRow .u8 w A len cap zs) : len ≤ cap := by
  rcases h with ⟨_, rfl, rfl, _⟩ | ⟨_, _, h1, h2, _⟩
  · exact Nat.le_refl _
  · exact h1
/-- bytes of the call's own, in a block of theirs -/
def OwS (w : World) (g n cap : Nat) (z : Nat → Int) : Prop := Own8 w g n cap z
theorem OwS.lt {w : World} {g n cap : Nat} {z : Nat → Int} (h : OwS w g n cap z) : g < w.heap.size := Own8.lt h
theorem OwS.below {w w' : World} {g n cap B : Nat} {z : Nat → Int} (h : OwS w g n cap z) (hb : Below B w w') (hB : g < B) : OwS w' g n cap z := Own8.below h hb hB
theorem OwS.far {w w' : World} {g n cap b : Nat} {z : Nat → Int} {C : Array Value} {t : TypeId} (h : OwS w g n cap z) (hs : Stored w w' b C t) (hk : g ≠ b) : OwS w' g n cap z := Own8.block h (hs.2.2 g hk)
theorem rd_z {w : World} {A : Option Addr} {n : Nat} {z y : Nat → Int} (h : Rd w A n z) (he : ∀ j, j < n → z j = y j) (hy : ∀ j, 0 ≤ y j ∧ y j ≤ 255) : Rd w A n y := by
  rcases h.1 with h0 | ⟨b, off, e, hr⟩
  · exact ⟨.inl h0, hy⟩
  · exact ⟨.inr ⟨b, off, e, hr.1, fun j hj => by rw [← he j hj]; exact hr.2.1 j hj, hy⟩, hy⟩
theorem ows_rd {w : World} {g n cap : Nat} {z : Nat → Int} (h : OwS w g (n + 3) cap (spZ z n)) (hz : ∀ j, 0 ≤ z j ∧ z j ≤ 255) : Rd w (some ⟨g, 0, none⟩) n z := rd_z ((Own8.rd h).cut n (by omega)) (fun j hj => spZ_in z n j hj) hz
theorem drewB (w : World) (k : Nat) : Below w.heap.size w (w.drewN k) := ⟨rfl, rfl, rfl, Nat.le_refl _, fun k hk => rfl⟩
set_option maxHeartbeats 8000000 in
set_option maxRecDepth 100000 in
theorem sums_long (A : Option Addr) (n c : Nat) (z : Nat → Int) (B : Option Addr) (np cp : Nat) (y : Nat → Int) (w : World) (hk : Rd w A n z) (hA : A = none → n = 0 ∧ c = 0) (hp : Rd w B np y) (hB : B = none → np = 0 ∧ cp = 0) (hn : n ≤ 140737488351232) (hnp : np ≤ 140737488351232) (hm : 64 < n) (hg : Rts w 0) :
    Calls Tryd.prog 3 #[.slice A n c, .slice B np cp] w fun e w' => e = .returned (.bool true) ∧ Below w.heap.size w w' := by
  have HK := Lib.hid hk
  have HA := Lib.hid hA
  have HP := Lib.hid hp
  have HPB := Lib.hid hB
  have RT := Lib.hid hg
  have hg9 := hg.2
  have HZ := Lib.hid hk.2
  have HY := Lib.hid hp.2
  obtain ⟨d1, e1⟩ : ∃ s : Nat → Int, shaZ y np = s := ⟨_, rfl⟩
  have HS1 := Lib.hid e1
  have HS1B : Hid (∀ j, 0 ≤ d1 j ∧ d1 j ≤ 255) := Lib.hid (by rw [← e1]; exact dg_bd _)
  obtain ⟨d2, e2⟩ : ∃ s : Nat → Int, (fun _ => (0 : Int)) = s := ⟨_, rfl⟩
  have HS2 := Lib.hid e2
  have HS2B : Hid (∀ j, 0 ≤ d2 j ∧ d2 j ≤ 255) := Lib.hid (by rw [← e2]; exact fun _ => ⟨Int.le_refl 0, by show (0 : Int) ≤ 255; omega⟩)
  clear hk hA hp hB hg e1 e2
  have hlong : (64 : Int) < (n : Int) := by omega
  go_enter Tryd.func3, Tryd.ntmps3
  have HB := Lib.hid (Below.refl w.heap.size w)
  go_wp2_with fail
  refine (awakeH_any w RT.out).mono ?_
  rintro e w1 ⟨rfl, b1⟩
  have RTn := Lib.hid (RT.out.below b1 RT.out.lt)
  clear RT
  have RT := RTn
  clear RTn
  have HBn := Lib.hid (HB.out.trans (b1.mono HB.out.size))
  clear HB
  have HB := HBn
  clear HBn
  clear b1
  go_wp2_with fail
  refine (spare_any _ _ _ z _ (HK.out.below HB.out rfl) HA.out hn).mono ?_
  rintro e w2 ⟨g1, cap1, rfl, hg1, ho, b1⟩
  have RTn := Lib.hid (RT.out.below b1 RT.out.lt)
  clear RT
  have RT := RTn
  clear RTn
  have HBn := Lib.hid (HB.out.trans (b1.mono HB.out.size))
  clear HB
  have HB := HBn
  clear HBn
  clear b1
  have O1 : Hid (OwS w2 g1 (n + 3) cap1 (spZ z n)) := Lib.hid ho
  clear ho
  go_wp2_with fail
  refine (spare_any _ _ _ y _ (HP.out.below HB.out rfl) HPB.out hnp).mono ?_
  rintro e w3 ⟨g2, cap2, rfl, hg2, ho, b1⟩
  have RTn := Lib.hid (RT.out.below b1 RT.out.lt)
  clear RT
  have RT := RTn
  clear RTn
  have O1n := Lib.hid (O1.out.below b1 O1.out.lt)
  clear O1
  have O1 := O1n
  clear O1n
  have HBn := Lib.hid (HB.out.trans (b1.mono HB.out.size))
  clear HB
  have HB := HBn
  clear HBn
  clear b1
  have O2 : Hid (OwS w3 g2 (np + 3) cap2 (spZ y np)) := Lib.hid ho
  clear ho
  have HH : Hid (Calls Tryd.prog 11 #[.slice (some ⟨g1, 0, none⟩) n cap1, .slice (some ⟨g2, 0, none⟩) np cap2] w3 fun e w4 => e = .returned (.tuple #[.agg (bytC 32 d2), .int .i64 2]) ∧ Below w3.heap.size w3 w4) := Lib.hid (by rw [← HS2.out]; exact hmac_long (some ⟨g1, 0, none⟩) n cap1 (.slice (some ⟨g2, 0, none⟩) np cap2) w3 hm)
  go_wp2_with fail
  refine HH.out.mono ?_
  rintro e w4 ⟨rfl, b1⟩
  clear HH
  have RTn := Lib.hid (RT.out.below b1 RT.out.lt)
  clear RT
  have RT := RTn
  clear RTn
  have O1n := Lib.hid (O1.out.below b1 O1.out.lt)
  clear O1
  have O1 := O1n
  clear O1n
  have O2n := Lib.hid (O2.out.below b1 O2.out.lt)
  clear O2
  have O2 := O2n
  clear O2n
  have HBn := Lib.hid (HB.out.trans (b1.mono HB.out.size))
  clear HB
  have HB := HBn
  clear HBn
  clear b1
  obtain ⟨N11, hN11⟩ : ∃ N, w4.heap.size = N := ⟨_, rfl⟩
  have HN11 := Lib.hid hN11
  clear hN11
  go_wp2_with (refine wpList_new (op := ⟨some 9, _, _, _, _, _⟩) rfl 26 rfl (bytC 32 fun _ => 0) zero_d N11 HN11.out ?_; intro w11 k1 b1 s1; refine Hid.out ?_)
  refine Lib.hid ?_
  have K9 := Lib.hid k1
  clear k1
  have lt_0_N11 : 0 < N11 := by rw [← HN11.out]; exact RT.out.lt
  have lt_g1_N11 : g1 < N11 := by rw [← HN11.out]; exact O1.out.lt
  have lt_g2_N11 : g2 < N11 := by rw [← HN11.out]; exact O2.out.lt
  have le_HB_N11 : w.heap.size ≤ N11 := by rw [← HN11.out]; exact HB.out.size
  have RTn := Lib.hid (RT.out.below b1 RT.out.lt)
  clear RT
  have RT := RTn
  clear RTn
  have O1n := Lib.hid (O1.out.below b1 O1.out.lt)
  clear O1
  have O1 := O1n
  clear O1n
  have O2n := Lib.hid (O2.out.below b1 O2.out.lt)
  clear O2
  have O2 := O2n
  clear O2n
  have HBn := Lib.hid (HB.out.trans (b1.mono HB.out.size))
  clear HB
  have HB := HBn
  clear HBn
  clear b1 HN11
  go_wp2_with (refine wpList_st rfl 26 (.tmp 9) (.tmp 27) rfl N11 0 rfl (.agg (bytC 32 d2)) (bytC 32 d2) rfl rfl (info_d _) (byt_one _ _) K9.out (byt_fit _ _ _) (C' := bytC 32 d2) (byt_all _ _ _) ?_; intro w12 q1; refine Hid.out ?_)
  refine Lib.hid ?_
  have RTn := Lib.hid (RT.out.far q1 (by omega))
  clear RT
  have RT := RTn
  clear RTn
  have O1n := Lib.hid (O1.out.far q1 (by omega))
  clear O1
  have O1 := O1n
  clear O1n
  have O2n := Lib.hid (O2.out.far q1 (by omega))
  clear O2
  have O2 := O2n
  clear O2n
  have HBn := Lib.hid (HB.out.trans (q1.2.1 _ (by omega)))
  clear HB
  have HB := HBn
  clear HBn
  have K9n : Hid (Blk 26 w12 N11 (bytC 32 d2)) := Lib.hid q1.1
  clear K9
  have K9 := K9n
  clear K9n q1
  go_wp2_with fail
  refine (sha_any (some ⟨g2, 0, none⟩) np cap2 y w12 (ows_rd O2.out HY.out) (fun e => by cases e) ⟨by have := (Own8.caps O2.out).1; omega, (Own8.caps O2.out).2⟩ (by omega) RT.out).mono ?_
  rintro e w13 ⟨rfl, b1⟩
  have RTn := Lib.hid (RT.out.below b1 RT.out.lt)
  clear RT
  have RT := RTn
  clear RTn
  have O1n := Lib.hid (O1.out.below b1 O1.out.lt)
  clear O1
  have O1 := O1n
  clear O1n
  have O2n := Lib.hid (O2.out.below b1 O2.out.lt)
  clear O2
  have O2 := O2n
  clear O2n
  have K9n := Lib.hid (K9.out.below b1 K9.out.lt)
  clear K9
  have K9 := K9n
  clear K9n
  have HBn := Lib.hid (HB.out.trans (b1.mono HB.out.size))
  clear HB
  have HB := HBn
  clear HBn
  clear b1
  rw [HS1.out]
  go_wp2_with fail
  refine (rsha_any B np cp y w13 (HP.out.below HB.out rfl) HPB.out (by omega)).mono ?_
  rintro e w14 ⟨rfl, b1⟩
  have RTn := Lib.hid (RT.out.below b1 RT.out.lt)
  clear RT
  have RT := RTn
  clear RTn
  have O1n := Lib.hid (O1.out.below b1 O1.out.lt)
  clear O1
  have O1 := O1n
  clear O1n
  have O2n := Lib.hid (O2.out.below b1 O2.out.lt)
  clear O2
  have O2 := O2n
  clear O2n
  have K9n := Lib.hid (K9.out.below b1 K9.out.lt)
  clear K9
  have K9 := K9n
  clear K9n
  have HBn := Lib.hid (HB.out.trans (b1.mono HB.out.size))
  clear HB
  have HB := HBn
  clear HBn
  clear b1
  rw [HS1.out]
  go_wp2_with (refine wpList_v (op := ⟨some 33, _, _, _, _, _⟩) rfl (.bool false) (neq_self _ _ _ _ _ _ rfl rfl (by kernel_rfl) (bytC 32 d1) (self_bytes 9998 32 _ d1 HS1B.out Tryd.underlying26) rfl rfl _) ?_; refine Hid.out ?_)
  refine Lib.hid ?_
  go_wp2_with fail
  refine (kept_yes g1 n cap1 _ _ z _ O1.out (HK.out.below HB.out rfl) hn).mono ?_
  rintro e w15 ⟨rfl, m1, hd1⟩
  have b1 : Below w14.heap.size w14 w15 := by rw [hd1]; exact drewB _ _
  clear hd1
  have RTn := Lib.hid (RT.out.below b1 RT.out.lt)
  clear RT
  have RT := RTn
  clear RTn
  have O1n := Lib.hid (O1.out.below b1 O1.out.lt)
  clear O1
  have O1 := O1n
  clear O1n
  have O2n := Lib.hid (O2.out.below b1 O2.out.lt)
  clear O2
  have O2 := O2n
  clear O2n
  have K9n := Lib.hid (K9.out.below b1 K9.out.lt)
  clear K9
  have K9 := K9n
  clear K9n
  have HBn := Lib.hid (HB.out.trans (b1.mono HB.out.size))
  clear HB
  have HB := HBn
  clear HBn
  clear b1
  go_wp2_with fail
  refine (kept_yes g2 np cap2 _ _ y _ O2.out (HP.out.below HB.out rfl) hnp).mono ?_
  rintro e w16 ⟨rfl, m2, hd1⟩
  have b1 : Below w15.heap.size w15 w16 := by rw [hd1]; exact drewB _ _
  clear hd1
  have RTn := Lib.hid (RT.out.below b1 RT.out.lt)
  clear RT
  have RT := RTn
  clear RTn
  have O1n := Lib.hid (O1.out.below b1 O1.out.lt)
  clear O1
  have O1 := O1n
  clear O1n
  have O2n := Lib.hid (O2.out.below b1 O2.out.lt)
  clear O2
  have O2 := O2n
  clear O2n
  have K9n := Lib.hid (K9.out.below b1 K9.out.lt)
  clear K9
  have K9 := K9n
  clear K9n
  have HBn := Lib.hid (HB.out.trans (b1.mono HB.out.size))
  clear HB
  have HB := HBn
  clear HBn
  clear b1
  go_wp2_with (first | (refine wpList_gv (op := ⟨some 52, _, _, _, _, _⟩) (.agg (bytC 32 d2)) (by rfl) (load_rng _ _ 26 (.tmp 9) rfl N11 0 rfl (bytC 32 d2).toList _ K9.out.all Tryd.underlying26 rfl (info_dL _)) ?_; refine Hid.out ?_))
  refine Lib.hid ?_
  go_wp2_with (first | (refine wpList_gv (op := ⟨some 53, _, _, _, _, _⟩) (.agg (bytC 32 d2)) (by rfl) (by rw [← HS2.out]; exact build_d0 _ _ rfl _) ?_; refine Hid.out ?_))
  refine Lib.hid ?_
  go_wp2_with (first | (refine wpList_gv (op := ⟨some 54, _, _, _, _, _⟩) (.bool true) (by rfl) (eql_self _ _ _ _ _ _ rfl rfl (by kernel_rfl) (bytC 32 d2) (self_bytes 9998 32 _ d2 HS2B.out Tryd.underlying26) rfl rfl _) ?_; refine Hid.out ?_))
  refine Lib.hid ?_
  go_wp2_with fail
  go_ret
  exact ⟨rfl, HB.out⟩
set_option maxHeartbeats 8000000 in
set_option maxRecDepth 100000 in
theorem sums_short (A : Option Addr) (n c : Nat) (z : Nat → Int) (B : Option Addr) (np cp : Nat) (y : Nat → Int) (w : World) (hk : Rd w A n z) (hA : A = none → n = 0 ∧ c = 0) (hp : Rd w B np y) (hB : B = none → np = 0 ∧ cp = 0) (hn : n ≤ 140737488351232) (hnp : np ≤ 140737488351232) (hm : n ≤ 64) (hg : Rts w 0) :
    Calls Tryd.prog 3 #[.slice A n c, .slice B np cp] w fun e w' => e = .returned (.bool true) ∧ Below w.heap.size w w' := by
  have HK := Lib.hid hk
  have HA := Lib.hid hA
  have HP := Lib.hid hp
  have HPB := Lib.hid hB
  have RT := Lib.hid hg
  have hg9 := hg.2
  have HZ := Lib.hid hk.2
  have HY := Lib.hid hp.2
  obtain ⟨d1, e1⟩ : ∃ s : Nat → Int, shaZ y np = s := ⟨_, rfl⟩
  have HS1 := Lib.hid e1
  have HS1B : Hid (∀ j, 0 ≤ d1 j ∧ d1 j ≤ 255) := Lib.hid (by rw [← e1]; exact dg_bd _)
  obtain ⟨d2, e2⟩ : ∃ s : Nat → Int, hmacZ z n y np = s := ⟨_, rfl⟩
  have HS2 := Lib.hid e2
  have HS2B : Hid (∀ j, 0 ≤ d2 j ∧ d2 j ≤ 255) := Lib.hid (by rw [← e2]; exact dg_bd _)
  clear hk hA hp hB hg e1 e2
  have hlong : ¬ (64 : Int) < (n : Int) := by omega
  go_enter Tryd.func3, Tryd.ntmps3
  have HB := Lib.hid (Below.refl w.heap.size w)
  go_wp2_with fail
  refine (awakeH_any w RT.out).mono ?_
  rintro e w1 ⟨rfl, b1⟩
  have RTn := Lib.hid (RT.out.below b1 RT.out.lt)
  clear RT
  have RT := RTn
  clear RTn
  have HBn := Lib.hid (HB.out.trans (b1.mono HB.out.size))
  clear HB
  have HB := HBn
  clear HBn
  clear b1
  go_wp2_with fail
  refine (spare_any _ _ _ z _ (HK.out.below HB.out rfl) HA.out hn).mono ?_
  rintro e w2 ⟨g1, cap1, rfl, hg1, ho, b1⟩
  have RTn := Lib.hid (RT.out.below b1 RT.out.lt)
  clear RT
  have RT := RTn
  clear RTn
  have HBn := Lib.hid (HB.out.trans (b1.mono HB.out.size))
  clear HB
  have HB := HBn
  clear HBn
  clear b1
  have O1 : Hid (OwS w2 g1 (n + 3) cap1 (spZ z n)) := Lib.hid ho
  clear ho
  go_wp2_with fail
  refine (spare_any _ _ _ y _ (HP.out.below HB.out rfl) HPB.out hnp).mono ?_
  rintro e w3 ⟨g2, cap2, rfl, hg2, ho, b1⟩
  have RTn := Lib.hid (RT.out.below b1 RT.out.lt)
  clear RT
  have RT := RTn
  clear RTn
  have O1n := Lib.hid (O1.out.below b1 O1.out.lt)
  clear O1
  have O1 := O1n
  clear O1n
  have HBn := Lib.hid (HB.out.trans (b1.mono HB.out.size))
  clear HB
  have HB := HBn
  clear HBn
  clear b1
  have O2 : Hid (OwS w3 g2 (np + 3) cap2 (spZ y np)) := Lib.hid ho
  clear ho
  have HH := Lib.hid (hmac_any (some ⟨g1, 0, none⟩) n cap1 z (some ⟨g2, 0, none⟩) np cap2 y w3 (ows_rd O1.out HZ.out) (fun e => by cases e) (ows_rd O2.out HY.out) (fun e => by cases e) hm (by omega) RT.out)
  rw [HS2.out] at HH
  go_wp2_with fail
  refine HH.out.mono ?_
  rintro e w4 ⟨rfl, b1⟩
  clear HH
  have RTn := Lib.hid (RT.out.below b1 RT.out.lt)
  clear RT
  have RT := RTn
  clear RTn
  have O1n := Lib.hid (O1.out.below b1 O1.out.lt)
  clear O1
  have O1 := O1n
  clear O1n
  have O2n := Lib.hid (O2.out.below b1 O2.out.lt)
  clear O2
  have O2 := O2n
  clear O2n
  have HBn := Lib.hid (HB.out.trans (b1.mono HB.out.size))
  clear HB
  have HB := HBn
  clear HBn
  clear b1
  obtain ⟨N11, hN11⟩ : ∃ N, w4.heap.size = N := ⟨_, rfl⟩
  have HN11 := Lib.hid hN11
  clear hN11
  go_wp2_with (refine wpList_new (op := ⟨some 9, _, _, _, _, _⟩) rfl 26 rfl (bytC 32 fun _ => 0) zero_d N11 HN11.out ?_; intro w11 k1 b1 s1; refine Hid.out ?_)
  refine Lib.hid ?_
  have K9 := Lib.hid k1
  clear k1
  have lt_0_N11 : 0 < N11 := by rw [← HN11.out]; exact RT.out.lt
  have lt_g1_N11 : g1 < N11 := by rw [← HN11.out]; exact O1.out.lt
  have lt_g2_N11 : g2 < N11 := by rw [← HN11.out]; exact O2.out.lt
  have le_HB_N11 : w.heap.size ≤ N11 := by rw [← HN11.out]; exact HB.out.size
  have RTn := Lib.hid (RT.out.below b1 RT.out.lt)
  clear RT
  have RT := RTn
  clear RTn
  have O1n := Lib.hid (O1.out.below b1 O1.out.lt)
  clear O1
  have O1 := O1n
  clear O1n
  have O2n := Lib.hid (O2.out.below b1 O2.out.lt)
  clear O2
  have O2 := O2n
  clear O2n
  have HBn := Lib.hid (HB.out.trans (b1.mono HB.out.size))
  clear HB
  have HB := HBn
  clear HBn
  clear b1 HN11
  go_wp2_with (refine wpList_st rfl 26 (.tmp 9) (.tmp 27) rfl N11 0 rfl (.agg (bytC 32 d2)) (bytC 32 d2) rfl rfl (info_d _) (byt_one _ _) K9.out (byt_fit _ _ _) (C' := bytC 32 d2) (byt_all _ _ _) ?_; intro w12 q1; refine Hid.out ?_)
  refine Lib.hid ?_
  have RTn := Lib.hid (RT.out.far q1 (by omega))
  clear RT
  have RT := RTn
  clear RTn
  have O1n := Lib.hid (O1.out.far q1 (by omega))
  clear O1
  have O1 := O1n
  clear O1n
  have O2n := Lib.hid (O2.out.far q1 (by omega))
  clear O2
  have O2 := O2n
  clear O2n
  have HBn := Lib.hid (HB.out.trans (q1.2.1 _ (by omega)))
  clear HB
  have HB := HBn
  clear HBn
  have K9n : Hid (Blk 26 w12 N11 (bytC 32 d2)) := Lib.hid q1.1
  clear K9
  have K9 := K9n
  clear K9n q1
  go_wp2_with fail
  refine (sha_any (some ⟨g2, 0, none⟩) np cap2 y w12 (ows_rd O2.out HY.out) (fun e => by cases e) ⟨by have := (Own8.caps O2.out).1; omega, (Own8.caps O2.out).2⟩ (by omega) RT.out).mono ?_
  rintro e w13 ⟨rfl, b1⟩
  have RTn := Lib.hid (RT.out.below b1 RT.out.lt)
  clear RT
  have RT := RTn
  clear RTn
  have O1n := Lib.hid (O1.out.below b1 O1.out.lt)
  clear O1
  have O1 := O1n
  clear O1n
  have O2n := Lib.hid (O2.out.below b1 O2.out.lt)
  clear O2
  have O2 := O2n
  clear O2n
  have K9n := Lib.hid (K9.out.below b1 K9.out.lt)
  clear K9
  have K9 := K9n
  clear K9n
  have HBn := Lib.hid (HB.out.trans (b1.mono HB.out.size))
  clear HB
  have HB := HBn
  clear HBn
  clear b1
  rw [HS1.out]
  go_wp2_with fail
  refine (rsha_any B np cp y w13 (HP.out.below HB.out rfl) HPB.out (by omega)).mono ?_
  rintro e w14 ⟨rfl, b1⟩
  have RTn := Lib.hid (RT.out.below b1 RT.out.lt)
  clear RT
  have RT := RTn
  clear RTn
  have O1n := Lib.hid (O1.out.below b1 O1.out.lt)
  clear O1
  have O1 := O1n
  clear O1n
  have O2n := Lib.hid (O2.out.below b1 O2.out.lt)
  clear O2
  have O2 := O2n
  clear O2n
  have K9n := Lib.hid (K9.out.below b1 K9.out.lt)
  clear K9
  have K9 := K9n
  clear K9n
  have HBn := Lib.hid (HB.out.trans (b1.mono HB.out.size))
  clear HB
  have HB := HBn
  clear HBn
  clear b1
  rw [HS1.out]
  go_wp2_with (refine wpList_v (op := ⟨some 33, _, _, _, _, _⟩) rfl (.bool false) (neq_self _ _ _ _ _ _ rfl rfl (by kernel_rfl) (bytC 32 d1) (self_bytes 9998 32 _ d1 HS1B.out Tryd.underlying26) rfl rfl _) ?_; refine Hid.out ?_)
  refine Lib.hid ?_
  go_wp2_with fail
  refine (kept_yes g1 n cap1 _ _ z _ O1.out (HK.out.below HB.out rfl) hn).mono ?_
  rintro e w15 ⟨rfl, m1, hd1⟩
  have b1 : Below w14.heap.size w14 w15 := by rw [hd1]; exact drewB _ _
  clear hd1
  have RTn := Lib.hid (RT.out.below b1 RT.out.lt)
  clear RT
  have RT := RTn
  clear RTn
  have O1n := Lib.hid (O1.out.below b1 O1.out.lt)
  clear O1
  have O1 := O1n
  clear O1n
  have O2n := Lib.hid (O2.out.below b1 O2.out.lt)
  clear O2
  have O2 := O2n
  clear O2n
  have K9n := Lib.hid (K9.out.below b1 K9.out.lt)
  clear K9
  have K9 := K9n
  clear K9n
  have HBn := Lib.hid (HB.out.trans (b1.mono HB.out.size))
  clear HB
  have HB := HBn
  clear HBn
  clear b1
  go_wp2_with fail
  refine (kept_yes g2 np cap2 _ _ y _ O2.out (HP.out.below HB.out rfl) hnp).mono ?_
  rintro e w16 ⟨rfl, m2, hd1⟩
  have b1 : Below w15.heap.size w15 w16 := by rw [hd1]; exact drewB _ _
  clear hd1
  have RTn := Lib.hid (RT.out.below b1 RT.out.lt)
  clear RT
  have RT := RTn
  clear RTn
  have O1n := Lib.hid (O1.out.below b1 O1.out.lt)
  clear O1
  have O1 := O1n
  clear O1n
  have O2n := Lib.hid (O2.out.below b1 O2.out.lt)
  clear O2
  have O2 := O2n
  clear O2n
  have K9n := Lib.hid (K9.out.below b1 K9.out.lt)
  clear K9
  have K9 := K9n
  clear K9n
  have HBn := Lib.hid (HB.out.trans (b1.mono HB.out.size))
  clear HB
  have HB := HBn
  clear HBn
  clear b1
  go_wp2_with fail
  refine wp_region_held_drew (S := fun w' => Rts w' 0  ∧ OwS w' g1 (n + 3) cap1 (spZ z n) ∧ OwS w' g2 (np + 3) cap2 (spZ y np) ∧ Blk 26 w' N11 (bytC 32 d2) ∧ Below w.heap.size w w') (by kernel_rfl) ⟨RT.out, O1.out, O2.out, K9.out, HB.out.drew⟩ (fun hS => ?_)
  generalize hW12 : w16.drew = W12 at hS ⊢
  clear hW12
  clear RT
  clear O1
  clear O2
  clear K9
  clear HB
  have RT := Lib.hid hS.1
  have O1 := Lib.hid hS.2.1
  have O2 := Lib.hid hS.2.2.1
  have K9 := Lib.hid hS.2.2.2.1
  have HB := Lib.hid hS.2.2.2.2
  refine takeY (i := 0) (some 56) (v := .int .i64 0) rfl rfl (by kernel_rfl) (by kernel_rfl) (by kernel_rfl) (fun _ _ _ h => h) (by rfl) (fun w' hS => by go_simp) hS ?_
  simp only [Act.put, List.setIfInBounds_toArray, List.set_cons_zero, List.set_cons_succ]
  refine takeY (i := 1) (some 57) (v := .bool true) rfl rfl (by kernel_rfl) (by kernel_rfl) (by kernel_rfl) (fun _ _ _ h => h) (by rfl) (fun w' hS => by go_simp) hS ?_
  simp only [Act.put, List.setIfInBounds_toArray, List.set_cons_zero, List.set_cons_succ]
  refine takeY (i := 2) (some 58) (v := .bool true) rfl rfl (by kernel_rfl) (by kernel_rfl) (by kernel_rfl) (fun _ _ _ h => h) (by rfl) (fun w' hS => by go_simp) hS ?_
  simp only [Act.put, List.setIfInBounds_toArray, List.set_cons_zero, List.set_cons_succ]
  refine takeL (i := 3) (some 59) 26 (.tmp 9) N11 0 (bytC 32 d2) _ rfl rfl (by kernel_rfl) (by kernel_rfl) (by kernel_rfl) (fun _ _ _ h => h) (by rfl) rfl rfl (fun w' hS => hS.2.2.2.1.all) Tryd.underlying26 rfl (info_dL _) hS ?_
  simp only [Act.put, List.setIfInBounds_toArray, List.set_cons_zero, List.set_cons_succ]
  refine takeY (i := 4) (some 60) (v := .slice A n c) rfl rfl (by kernel_rfl) (by kernel_rfl) (by kernel_rfl) (fun _ _ _ h => h) (by rfl) (fun w' hS => by go_simp) hS ?_
  simp only [Act.put, List.setIfInBounds_toArray, List.set_cons_zero, List.set_cons_succ]
  refine takeY (i := 5) (some 61) (v := .slice B np cp) rfl rfl (by kernel_rfl) (by kernel_rfl) (by kernel_rfl) (fun _ _ _ h => h) (by rfl) (fun w' hS => by go_simp) hS ?_
  simp only [Act.put, List.setIfInBounds_toArray, List.set_cons_zero, List.set_cons_succ]
  have HH := Lib.hid (rhmac_any A n c z B np cp y W12 (HK.out.below HB.out rfl) (HP.out.below HB.out rfl) HPB.out hm (by omega))
  rw [HS2.out] at HH
  refine takeC (i := 6) (some 62) 15 #[.slice A n c, .slice B np cp] (.agg (bytC 32 d2)) (R := fun w' => Below W12.heap.size W12 w') rfl rfl (by kernel_rfl) (by rfl) (by go_simp) (HH.out) (fun w' hb => ⟨hS.1.below hb hS.1.lt, hS.2.1.below hb hS.2.1.lt, hS.2.2.1.below hb hS.2.2.1.lt, hS.2.2.2.1.below hb hS.2.2.2.1.lt, hS.2.2.2.2.trans (hb.mono hS.2.2.2.2.size)⟩) (fun W13 hb1 hS2 => ?_)
  simp only [Act.put, List.setIfInBounds_toArray, List.set_cons_zero, List.set_cons_succ]
  clear RT
  clear O1
  clear O2
  clear K9
  clear HB
  clear hS hb1
  have hS := hS2
  clear hS2
  have RT := Lib.hid hS.1
  have O1 := Lib.hid hS.2.1
  have O2 := Lib.hid hS.2.2.1
  have K9 := Lib.hid hS.2.2.2.1
  have HB := Lib.hid hS.2.2.2.2
  refine takeY (i := 7) (some 63) (v := .bool true) rfl rfl (by kernel_rfl) (by kernel_rfl) (by kernel_rfl) (fun _ _ _ h => h) (by rfl) (fun w' hS => by exact eql_self _ _ _ _ _ _ rfl rfl (by kernel_rfl) (bytC 32 d2) (self_bytes 9998 32 _ d2 HS2B.out Tryd.underlying26) rfl rfl _) hS ?_
  simp only [Act.put, List.setIfInBounds_toArray, List.set_cons_zero, List.set_cons_succ]
  refine takeY (i := 8) (some 64) (v := .bool true) rfl rfl (by kernel_rfl) (by kernel_rfl) (by kernel_rfl) (fun _ _ _ h => h) (by rfl) (fun w' hS => by go_simp) hS ?_
  simp only [Act.put, List.setIfInBounds_toArray, List.set_cons_zero, List.set_cons_succ]
  refine takeY (i := 9) (some 4) (v := .bool true) rfl rfl (by kernel_rfl) (by kernel_rfl) (by kernel_rfl) (fun _ _ _ h => h) (by rfl) (fun w' hS => by go_simp) hS ?_
  simp only [Act.put, List.setIfInBounds_toArray, List.set_cons_zero, List.set_cons_succ]
  clear hS
  refine wpAnyH_done (by kernel_rfl) ?_ _
  go_wp2_with fail
  go_ret
  exact ⟨rfl, HB.out⟩
theorem walkMacSums (A : Option Addr) (n c : Nat) (zs : List Int) (B : Option Addr) (np cp : Nat) (ps : List Int) (w : World) (h0 : IsRow .u8 w A n c zs) (s0 : c * 1 ≤ 140737488351232) (h1 : IsRow .u8 w B np cp ps) (s1 : cp * 1 ≤ 140737488351232) (hg : Rts w 0) :
    Calls Tryd.prog 3 #[.slice A n c, .slice B np cp] w fun e w' => e = .returned (.bool true) ∧ Below w.heap.size w w' := by
  obtain ⟨hk, hA⟩ := isRow_rd h0
  obtain ⟨hp, hB⟩ := isRow_rd h1
  have hc0 := isRow_cap h0
  have hc1 := isRow_cap h1
  by_cases hm : n ≤ 64
  · exact sums_short A n c _ B np cp _ w hk hA hp hB (by omega) (by omega) hm hg
  · exact sums_long A n c _ B np cp _ w hk hA hp hB (by omega) (by omega) (by omega) hg
end Go.Proofs.YtccoicjmmeoggaaDoor

/- What mac's rows have alike: the table of roots, out of the row's list; a start that meets the list. -/
namespace Go.Proofs.YtccoicjmmeoggaaDoor
open Go.ChangeShapes Go.WideShapes Go.ChangeAt Go.RowKit
set_option linter.unusedVariables false

theorem own : ownKnob Tryd.prog.godebug = none := by kernel_rfl
theorem laidOut : laidOutB Tryd.prog = true := by kernel_rfl
theorem gRoot : Tryd.prog.globalNamed "waymark/mac.roots" = some 0 := by kernel_rfl
theorem gRootT : (Tryd.prog.globals[0]?).map (·.type) = some 76 := by kernel_rfl
theorem gRootC : Tryd.prog.cellsOf 76 = 64 := by kernel_rfl
theorem cu32 : Tryd.prog.cellsOf 39 = 1 := by kernel_rfl
def rootI : List Int := rootL.map fun (n : Nat) => (n : Int)
/-- what the rows list -/
def laidL : List (String × DataW Unit) := Rows.macPadsRow.laid
theorem laidL_eq : laidL = [("waymark/mac.roots", Lib.tabData .u32 rootI)] := by kernel_rfl
theorem rts_of_laid {W : World} (h : laidMetH Tryd.prog laidL W) : Rts W 0 := by
  rw [laidL_eq] at h
  rw [MakeChecks.laidMetH_plain _ _ _ (by kernel_rfl)] at h
  have ht := Lib.tabIs_of_head gRoot gRootT Tryd.underlying76 Tryd.underlying39 cu32 gRootC h
  refine ⟨fun i hi => ?_, ?_⟩
  · rw [ht.cell gRoot i (by show i < 64; exact hi)]
    unfold rootI rootN
    rw [List.getD_eq_getElem?_getD, List.getD_eq_getElem?_getD, List.getElem?_map]
    have hl : rootL.length = 64 := rfl
    rw [List.getElem?_eq_getElem (by rw [hl]; exact hi)]
    rfl
  · have hc := ht.cell gRoot 0 (by decide)
    exact World.block_lt_of_cell? W _ hc
/-- A start for the witness: the door's own. -/
noncomputable def laidWorld (os : Os) : World := World.doorLaid Tryd.prog 72 os
theorem laid_met (os : Os) (args : Array Value) : laidMet Tryd.prog laidL ((laidWorld os).forCall (fun _ _ => 0) ⟨#[], args, []⟩).memory :=
  laidMet_of_run' 8 (by kernel_rfl) (by kernel_rfl)
end Go.Proofs.YtccoicjmmeoggaaDoor
