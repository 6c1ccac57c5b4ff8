/- The document's PutEdges. Each theorem states its conditions. -/
import Derived.Test.YtplfilghhgdffaaEPut
namespace Go.Proofs.Ytplfilghhgdffaa
open Go.RowKit
set_option linter.unusedVariables false

theorem sys_idx (E : Ed) (i : Nat) (hi : i < 6) (w : World) : (Instr.index 26 (.agg #[.int .u8 (E.s 0), .int .u8 (E.s 1), .int .u8 (E.s 2), .int .u8 (E.s 3), .int .u8 (E.s 4), .int .u8 (E.s 5)]) (.int .i64 (i : Int))).run Try.prog w = .ok (.int .u8 (E.s i)) w := by
  rcases (by omega : i = 0 ∨ i = 1 ∨ i = 2 ∨ i = 3 ∨ i = 4 ∨ i = 5) with rfl | rfl | rfl | rfl | rfl | rfl <;> kernel_rfl
theorem vals_snoc (z : Nat → Int) (n : Nat) : vals z n ++ [.int .u8 (z n)] = vals z (n + 1) := by
  rw [vals_add]
  rfl
set_option maxHeartbeats 4000000 in
set_option maxRecDepth 100000 in
theorem refPutEdges_any (A : Option Addr) (m c : Nat) (L : Nat → Ed) (w : World) (h : RdR w A m 8 (edA L)) (hL : ∀ j, EdOk (L j)) (hm : m ≤ 23) (hM : ∀ k, k < m → (L k).me ≤ 16777215) :
    Calls Try.prog 25 #[.slice A m c] w fun e w' => ∃ v, e = .returned v ∧ OwnB w' w.heap.size v (11 * m) (edZ L) ∧ Below w.heap.size w w' := by
  have HM := Lib.hid hM
  have HR := Lib.hid h
  have HB := Lib.hid (edZ_bd L hL)
  have q0 : (m : Int) ≤ 23 := by omega
  clear h hM
  go_enter Try.func25, Try.ntmps25
  go_wp2_with fail
  go_loopw [3, 10] (fun p i wr => ∃ k : Nat, k ≤ m ∧ i = .int .i64 k ∧ Hid (OwnB wr w.heap.size p (11 * k) (edZ L)) ∧ Hid (Below w.heap.size w wr))
    (fun _ i _ => m - (intOf i).toNat)
  case atStart => exact ⟨0, by omega, rfl, Lib.hid (OwnB.nil w _ HB.out), Lib.hid (bself w)⟩
  case round =>
    obtain ⟨k, hk, rfl, HO, HW⟩ := hrel
    by_cases hkm : k < m
    · obtain ⟨b, off, rfl, hr⟩ := (HR.out.below HW.out rfl).row (by omega)
      obtain ⟨⟨c0, c1, c2, c3⟩, c4, c5, c6, c7⟩ := edC_cells (hr.2 k hkm)
      clear hr
      have hme := (hL k).2
      have HK := Lib.hid (HM.out k hkm)
      have hzk := Lib.hid (fun i hi => edZ_at L k i hi)
      obtain ⟨E, hE⟩ : ∃ E, L k = E := ⟨_, rfl⟩
      rw [hE] at c0 c1 c2 c3 c4 c5 c6 c7 hme HK hzk
      have HE := Lib.hid hE
      have hX := Lib.hid (fun i hi w => sys_idx E i hi w)
      clear hE
      obtain ⟨wo, rfl⟩ : ∃ wo : World, wo = wr := ⟨_, rfl⟩
      have hbw0 := (bself wo).alloc (Nat.le_refl _) (.cells (edC E) 30)
      have hwr : w.heap.size ≤ wo.heap.size := HW.out.size
      have hB0 := Lib.hid (heap_alloc_new wo (.cells (edC E) 30))
      have HO0 := Lib.hid (ownsRow_below' HO.out.1 hbw0)
      have HW0 := Lib.hid (HW.out.trans (hbw0.mono hwr))
      have hf0 : Hid (u3.ownBlock ≠ some wo.heap.size) := Lib.hid (fun e => by have := (HO.out.1.lt _ e).2; omega)
      clear hbw0
      go_wp2_with fail
      go_loopw [3, 17] (fun p t wr => ∃ i : Nat, i ≤ 6 ∧ t = .int .i64 i ∧ Hid (wr.ownsRow w.heap.size 5 1 p (11 * k + i) (vals (edZ L) (11 * k + i))) ∧ Hid (Below w.heap.size w wr) ∧ Hid (wr.heap[wo.heap.size]? = some (.cells (edC E) 30 (0, 0))) ∧ Hid (p.ownBlock ≠ some wo.heap.size))
        (fun _ t _ => 6 - (intOf t).toNat)
      case atStart => exact ⟨0, by omega, rfl, HO0, HW0, hB0, hf0⟩
      case round =>
        obtain ⟨i, hi, rfl, HOi, HWi, HTi, HFi⟩ := hrel
        clear HO0 HW0 hB0 hf0
        have hTs : wo.heap.size < wr.heap.size := (Array.getElem?_eq_some_iff.1 HTi.out).1
        by_cases hi6 : i < 6
        · have hx := hX.out i hi6
          have hzi : Hid (vals (edZ L) (11 * k + i) ++ [.int .u8 (E.s i)] = vals (edZ L) (11 * k + (i + 1))) := Lib.hid (by
            have := hzk.out i (by omega)
            rw [if_pos (by omega)] at this
            rw [← this]; exact vals_snoc _ _)
          have hi6' : (i : Int) < 6 := by omega
          go_wp2_with (first | (at_builtin; refine app_s rfl (.tmp 20) (.tmp 22) rfl w u3 (11 * k + i) _ rfl (HOi.out.alloc _) (HWi.out.alloc HWi.out.size _) ⟨wr.heap.size, 0, none⟩ 1 1 [.int .u8 (E.s i)] rfl rfl (cell_one_new wr _ _) (u8_one _) (by omega) ?_; intro v3 w3 ho3 hb3 hs3 hk3; have hk4 := Lib.hid (hk3 wo.heap.size (by simp; omega) HFi.out)))
          rw [hzi.out] at ho3
          have HO3 := Lib.hid ho3
          have HB3 := Lib.hid hb3
          clear ho3 hb3 hs3 hk3 hx
          go_wp2_with fail
          go_roundw
          case rel => exact ⟨i + 1, by omega, by go_num, HO3, HB3, Lib.hid (hk4.out.1.trans ((Below.heap_alloc wr _ _ hTs).trans HTi.out)), Lib.hid hk4.out.2⟩
          case measure => simp only [intOf]; omega
        · obtain rfl : i = 6 := by omega
          have d6 : wr.cell? ⟨wo.heap.size, 6, none⟩ = some (.int .u8 (E.s 6)) := (cell_of_row wr _ 6 _ _ _ HTi.out).trans rfl
          have HP := Lib.hid (fun W => bytes_any E.me 3 W (by omega) (by omega) (by omega))
          go_wp2_with (first
            | (at_builtin; refine app_s rfl (.tmp 25) (.tmp 29) rfl w u3 (11 * k + 6) _ rfl (HOi.out.alloc _) (HWi.out.alloc HWi.out.size _) ⟨wr.heap.size, 0, none⟩ 1 1 [.int .u8 (E.s 6)] rfl rfl (cell_one_new wr _ _) (u8_one _) (by omega) ?_; intro v3 w3 ho3 hb3 hs3 hk3; have hk4 := Lib.hid (hk3 wo.heap.size (by simp; omega) HFi.out); have HT3 := Lib.hid (hk4.out.1.trans ((Below.heap_alloc wr _ _ hTs).trans HTi.out)); have d7 : w3.cell? ⟨wo.heap.size, 7, none⟩ = some (.int .u32 (E.me : Int)) := (cell_of_row w3 _ 7 _ _ _ HT3.out).trans rfl))
          have hz6 : Hid (vals (edZ L) (11 * k + 6) ++ [.int .u8 (E.s 6)] ++ vals (putZ E.me 3) 3 ++ [.int .u8 0] = vals (edZ L) (11 * (k + 1))) := Lib.hid (by
            have := edZ_push L k
            rw [HE.out, ← vals_six] at this
            have h6 : vals (edZ L) (11 * k) ++ vals E.s 6 = vals (edZ L) (11 * k + 6) := by
              rw [vals_add]
              congr 1
              unfold vals
              apply List.map_congr_left
              intro j hj
              have hj : j < 6 := by simpa using hj
              have := hzk.out j (by omega)
              rw [if_pos (by omega)] at this
              show _ = Value.int .u8 (edZ L (11 * k + j))
              rw [this]
            rw [h6] at this
            exact this)
          refine (HP.out _).mono ?_
          rintro e w4 ⟨g, rfl, hg, hog, hb4⟩
          have HG := Lib.hid hog
          have HO4 := Lib.hid (ownsRow_below' ho3 hb4)
          have HB4 := Lib.hid (hb3.trans (hb4.mono hb3.size))
          clear ho3 hb3 hs3 hk3 hb4 hog hg d6 d7 hk4 HT3
          go_wp2_with (first
            | (at_builtin; refine app_s rfl (.tmp 31) (.tmp 35) rfl w v3 (11 * k + 6 + 1) _ rfl HO4.out HB4.out ⟨g, 0, none⟩ 3 3 _ rfl rfl (rd_newsB HG.out.rd) (vals_one _ _) (by omega) ?_; intro v5 w5 ho5 hb5 hs5 hk5)
            | (at_builtin; refine app_s rfl (.tmp 37) (.tmp 38) rfl w v5 (11 * k + 6 + 1 + 3) _ rfl (ho5.alloc _) (hb5.alloc hb5.size _) ⟨w5.heap.size, 0, none⟩ 1 1 [.int .u8 0] rfl rfl (cell_one_new w5 _ _) (u8_one _) (by omega) ?_; intro v6 w6 ho6 hb6 hs6 hk6))
          rw [hz6.out] at ho6
          have HO6 := Lib.hid ho6
          have HB6 := Lib.hid hb6
          clear ho6 hb6 hs6 hk6 ho5 hb5 hs5 hk5
          go_wp2_with fail
          go_roundw
          case rel => first | exact ⟨k + 1, by omega, by go_num, Lib.hid ⟨HO6.out, HB.out⟩, HB6⟩ | exact ⟨_, _, _, ⟨k + 1, by omega, by go_num, Lib.hid ⟨HO6.out, HB.out⟩, HB6⟩, rfl, rfl, rfl⟩
          case measure => simp only [intOf]; omega
    · obtain rfl : k = m := by omega
      go_wp2
      go_ret
      exact ⟨_, rfl, HO.out, HW.out⟩
theorem docPutEdges_long (A : Option Addr) (m c : Nat) (w : World) (hm : 23 < m) (hl : m ≤ 9223372036854775807) :
    Calls Try.prog 11 #[.slice A m c] w fun e w' => e = .returned (.tuple #[.slice none 0 0, .int .i64 2]) ∧ w' = w := by
  have q1 : (23 : Int) < (m : Int) := by omega
  go_enter Try.func11, Try.ntmps11
  go_wp2
  go_ret2
  exact ⟨rfl, rfl⟩
set_option maxHeartbeats 4000000 in
set_option maxRecDepth 100000 in
theorem docPutEdges_any (A : Option Addr) (m c m0 : Nat) (L : Nat → Ed) (w : World) (h : RdR w A m 8 (edA L)) (hL : ∀ j, EdOk (L j)) (hm : m ≤ 23) (hm0 : EEnds L m m0) :
    Calls Try.prog 11 #[.slice A m c] w (PutEPost w L m m0) := by
  have HM := Lib.hid hm0
  have HR := Lib.hid h
  have HL := Lib.hid hL
  have q0 : (m : Int) ≤ 23 := by omega
  have hm0' := hm0.1
  clear h hm0
  go_enter Try.func11, Try.ntmps11
  go_wp2_with fail
  go_loopw [11] (fun i wr => ∃ k : Nat, k ≤ m0 ∧ i = .int .i64 k ∧ Hid (Below w.heap.size w wr)) (fun i _ => m - (intOf i).toNat)
  case atStart => exact ⟨0, by omega, rfl, Lib.hid (bself w)⟩
  case round =>
    obtain ⟨k, hk, rfl, HW⟩ := hrel
    by_cases hkm : k < m
    · obtain ⟨b, off, rfl, hr⟩ := (HR.out.below HW.out rfl).row (by omega)
      obtain ⟨⟨c0, c1, c2, c3⟩, c4, c5, c6, c7⟩ := edC_cells (hr.2 k hkm)
      clear hr
      have hwr : w.heap.size ≤ wr.heap.size := HW.out.size
      have HE := Lib.hid (show ∃ E, L k = E from ⟨_, rfl⟩)
      have hme := (hL k).2
      by_cases hb : 16777215 < (L k).me
      · have hkk := Lib.hid (show m0 < m by
          have := HM.out
          by_cases e : k = m0
          · omega
          · have := this.2.1 k (by omega); omega)
        obtain ⟨E, hE⟩ := HE.out
        rw [hE] at c0 c1 c2 c3 c4 c5 c6 c7 hb hme
        have hb' : (16777215 : Int) < (E.me : Int) := by omega
        have HB := Lib.hid (HW.out.trans ((((bself wr).alloc (Nat.le_refl _) (.cells (edC E) 30))).mono hwr))
        clear hE HE hb
        go_wp2
        go_ret2
        exact .inr ⟨hkk.out, rfl, HB.out⟩
      · have hkk := Lib.hid (show k + 1 ≤ m0 by
          have := HM.out
          by_cases e : k = m0
          · subst e; rcases this.2.2 with h | h <;> omega
          · omega)
        obtain ⟨E, hE⟩ := HE.out
        rw [hE] at c0 c1 c2 c3 c4 c5 c6 c7 hb hme
        have hb' : (E.me : Int) ≤ 16777215 := by omega
        have HB := Lib.hid (HW.out.trans ((((bself wr).alloc (Nat.le_refl _) (.cells (edC E) 30))).mono hwr))
        clear hE HE hb
        go_wp2
        go_roundw
        case rel => exact ⟨k + 1, hkk.out, by go_num, HB⟩
        case measure => simp only [intOf]; omega
    · obtain rfl : k = m := by omega
      obtain rfl : m0 = k := by omega
      have HC := Lib.hid (refPutEdges_any A m0 c L wr (HR.out.below HW.out rfl) HL.out hm HM.out.2.1)
      go_wp2_with fail
      refine HC.out.mono ?_
      rintro e w2 ⟨v, rfl, ho, hb⟩
      have HB := Lib.hid (HW.out.trans (hb.mono HW.out.size))
      have HO := Lib.hid (show OwnB w2 w.heap.size v (11 * m0) (edZ L) from ⟨ownsRow_mono ho.1 HW.out.size, ho.2⟩)
      clear ho hb
      go_wp2_with fail
      go_ret2
      exact .inl ⟨rfl, v, rfl, HO.out, HB.out⟩
end Go.Proofs.Ytplfilghhgdffaa
