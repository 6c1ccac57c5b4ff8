/- reach.PutEdges writes edges as bytes. Each theorem states its conditions. -/
import Derived.Test.YtplfilghhgdffaaEd
import Derived.Deep.DeepMust
namespace Go.Proofs.Ytplfilghhgdffaa
open Go.RowKit
set_option linter.unusedVariables false

/-- what PutEdges leaves, where no more than 23 are told -/
def PutEPost (w : World) (L : Nat → Ed) (m m0 : Nat) (e : Ending) (w' : World) : Prop :=
  (m0 = m ∧ ∃ v, e = .returned (.tuple #[v, .int .i64 0]) ∧ OwnB w' w.heap.size v (11 * m) (edZ L) ∧ Below w.heap.size w w') ∨
  (m0 < m ∧ e = .returned (.tuple #[.slice none 0 0, .int .i64 4]) ∧ Below w.heap.size w w')

theorem putEdges_long (A : Option Addr) (m c : Nat) (w : World) (hm : 23 < m) (hl : m ≤ 9223372036854775807) :
    Calls Try.prog 10 #[.slice A m c] w fun e w' => e = .returned (.tuple #[.slice none 0 0, .int .i64 2]) ∧ w' = w := by
  have q1 : (23 : Int) < (m : Int) := by omega
  go_enter Try.func10, Try.ntmps10
  go_wp2
  go_ret2
  exact ⟨rfl, rfl⟩

set_option maxHeartbeats 4000000 in
set_option maxRecDepth 100000 in
theorem putEdges_any (A : Option Addr) (m c m0 : Nat) (L : Nat → Ed) (w : World) (h : RdR w A m 8 (edA L)) (hL : ∀ j, EdOk (L j)) (hm : m ≤ 23) (hc : m ≤ c) (hcm : c ≤ 9223372036854775807) (hm0 : EEnds L m m0) :
    Calls Try.prog 10 #[.slice A m c] w (PutEPost w L m m0) := by
  have HM := Lib.hid hm0
  have HR := Lib.hid h
  have HB := Lib.hid (edZ_bd L hL)
  have q0 : (m : Int) ≤ 23 := by omega
  have hm0' := hm0.1
  clear h hm0
  go_enter Try.func10, Try.ntmps10
  go_wp2_with fail
  go_loopw [4, 14] (fun p i wr => ∃ k : Nat, k ≤ m0 ∧ i = .int .i64 k ∧ Hid (OwnB wr w.heap.size p (11 * k) (edZ L)) ∧ Hid (Below w.heap.size w wr))
    (fun _ i _ => m - (intOf i).toNat)
  case atStart => exact ⟨0, by omega, rfl, Lib.hid (OwnB.nil w _ HB.out), Lib.hid (bself w)⟩
  case round =>
    obtain ⟨k, hk, rfl, HO, HW⟩ := hrel
    by_cases hkm : k < m
    · obtain ⟨b, off, rfl, hr⟩ := (HR.out.below HW.out rfl).row (by omega)
      obtain ⟨⟨c0, c1, c2, c3⟩, c4, c5, c6, c7⟩ := edC_cells (hr.2 k hkm)
      clear hr
      have hme := (hL k).2
      have HK := Lib.hid (HM.out.2)
      have hn0 := Lib.hid (edZ_push L k)
      have hcA : edA L k = edC (L k) := rfl
      obtain ⟨E, hE⟩ : ∃ E, L k = E := ⟨_, rfl⟩
      have HE := Lib.hid hE
      rw [hE] at c0 c1 c2 c3 c4 c5 c6 c7 hme hn0
      have HP := Lib.hid (fun W => put_any E.me 3 W (by omega) (by omega) (by omega))
      have hBs : Hid (∀ W : World, W = wr.alloc (.cells (edC E) 30) → W.heap[wr.heap.size]? = some (.cells (edC E) 30 (0, 0)) ∧ W.heap.size = wr.heap.size + 1) := Lib.hid (fun W e => by subst e; exact ⟨heap_alloc_new wr _, by simp⟩)
      have hfar : Hid (u4.ownBlock ≠ some wr.heap.size) := Lib.hid (fun e => by have := (HO.out.1.lt _ e).2; omega)
      have hbw : w.heap.size ≤ wr.heap.size := HW.out.size
      clear hE hcA
      go_wp2_with fail
      refine (HP.out _).mono ?_
      rintro e w1 ⟨hif, hb1⟩
      change Below (wr.alloc (.cells (edC E) 30)).heap.size (wr.alloc (.cells (edC E) 30)) w1 at hb1
      have hblk := hBs.out _ rfl
      have hW0 := (bself wr).alloc (Nat.le_refl _) (.cells (edC E) 30)
      change if qN E.me 3 = 0 then ∃ g, e = _ ∧ (wr.alloc (.cells (edC E) 30)).heap.size ≤ g ∧ Own8 w1 g 3 3 _ else _ at hif
      generalize wr.alloc (.cells (edC E) 30) = W0 at hb1 hblk hW0 hif
      have hs1 := hb1.size
      rw [hblk.2] at hs1 hif
      have HN1 : Hid (w1.heap[wr.heap.size]? = some (.cells (edC E) 30 (0, 0))) := Lib.hid ((hb1.block _ (by rw [hblk.2]; omega)).trans hblk.1)
      have HW1 : Hid (Below wr.heap.size wr w1) := Lib.hid (hW0.trans (hb1.mono (by rw [hblk.2]; omega)))
      clear hb1 hblk hW0
      by_cases hk0 : k < m0
      · have hq := (qN3 E.me).2 (by rw [← HE.out]; exact HK.out.1 k hk0)
        rw [if_pos hq] at hif
        obtain ⟨g, rfl, hg, hog⟩ := hif
        have HG := Lib.hid hog
        have ho1 := HO.out.1
        have hO1 := Lib.hid (ownsRow_below' ho1 HW1.out)
        have HW2 := Lib.hid (HW.out.trans (HW1.out.mono hbw))
        have hgl : g < w1.heap.size := hog.lt
        have hfg : Hid (u4.ownBlock ≠ some g) := Lib.hid (fun e => by have := (HO.out.1.lt _ e).2; omega)
        have hk23 : k ≤ 22 := by omega
        clear hog hq c0 c1 c2 c3 c4 c5 c6 c7 ho1
        go_wp2_with (first
          | (at_builtin; refine app_s rfl (.tmp 28) (.tmp 31) rfl w u4 (11 * k) (vals (edZ L) (11 * k)) rfl hO1.out HW2.out ⟨wr.heap.size, 0, none⟩ 6 6 _ rfl rfl (six_news HN1.out) (u8_six _ _ _ _ _ _) (by omega) ?_; intro v2 w2 ho2 hb2 hs2 hk2; have d6 : w2.cell? ⟨wr.heap.size, 6, none⟩ = some (.int .u8 (E.s 6)) := (cell_of_row w2 _ 6 _ _ _ ((hk2 _ (by omega) hfar.out).1.trans HN1.out)).trans rfl)
          | (at_builtin; refine app_s rfl (.tmp 33) (.tmp 37) rfl w v2 (11 * k + 6) _ rfl (ho2.alloc _) (hb2.alloc hb2.size _) ⟨w2.heap.size, 0, none⟩ 1 1 _ rfl rfl (cell_one_new w2 _ _) (u8_one _) (by omega) ?_; intro v3 w3 ho3 hb3 hs3 hk3; have HG3 : Hid (Own8 w3 g 3 3 (putZ E.me 3)) := Lib.hid (HG.out.block (((hk3 g (by simp; omega) ((hk2 g (by omega) hfg.out).2)).1.trans (Below.heap_alloc w2 _ g (by omega))).trans (hk2 g (by omega) hfg.out).1)))
          | (at_builtin; refine app_s rfl (.tmp 39) (.tmp 40) rfl w v3 (11 * k + 6 + 1) _ rfl ho3 hb3 ⟨g, 0, none⟩ 3 3 _ rfl rfl (rd_newsB HG3.out.rd) (vals_one _ _) (by omega) ?_; intro v4 w4 ho4 hb4 hs4 hk4)
          | (at_builtin; refine app_s rfl (.tmp 42) (.tmp 43) rfl w v4 (11 * k + 6 + 1 + 3) _ rfl (ho4.alloc _) (hb4.alloc hb4.size _) ⟨w4.heap.size, 0, none⟩ 1 1 _ rfl rfl (cell_one_new w4 _ _) (u8_one _) (by omega) ?_; intro v5 w5 ho5 hb5 hs5 hk5))
        rw [hn0.out] at ho5
        have HO5 := Lib.hid ho5
        have HB5 := Lib.hid hb5
        clear ho5 ho4 ho3 ho2 hb5 hb4 hb3 hb2 hk2 hk3 hk4 hk5
        go_wp2
        go_roundw
        case rel => exact ⟨k + 1, by omega, by go_num, Lib.hid ⟨HO5.out, HB.out⟩, HB5⟩
        case measure => simp only [intOf]; omega
      · have hkk : k = m0 := by omega
        have hbad : 16777215 < E.me := by
          have := HK.out.2
          rw [← hkk, HE.out] at this
          omega
        rw [if_neg (by rw [qN3]; omega)] at hif
        subst hif
        have HW2 := Lib.hid (HW.out.trans (HW1.out.mono hbw))
        clear hbad c0 c1 c2 c3 c4 c5 c6 c7
        go_wp2
        go_ret2
        exact .inr ⟨by omega, rfl, HW2.out⟩
    · have hkk : k = m := by omega
      subst hkk
      have hkk : m0 = k := by omega
      subst hkk
      go_wp2
      go_ret2
      exact .inl ⟨rfl, _, rfl, HO.out, HW.out⟩
end Go.Proofs.Ytplfilghhgdffaa
