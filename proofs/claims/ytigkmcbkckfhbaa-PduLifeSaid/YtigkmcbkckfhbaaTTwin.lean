/- The document's Twin of a list. Each theorem states its conditions. -/
import Derived.Test.YtigkmcbkckfhbaaTJoin
namespace Go.Proofs.Ytigkmcbkckfhbaa
open Go.RowKit
set_option linter.unusedVariables false

/-- the same item, its bytes elsewhere -/
def Alike (t t' : It) : Prop := t.ty = t'.ty ∧ t.n = t'.n ∧ t.z = t'.z
def TwinTPost (w : World) (m : Nat) (L : Nat → It) (e : Ending) (w' : World) : Prop :=
  ∃ v L', e = .returned v ∧ OwnT w' w.heap.size v m L' ∧ (∀ j, j < m → Alike (L j) (L' j)) ∧ Below w.heap.size w w'

set_option maxHeartbeats 4000000 in
set_option maxRecDepth 100000 in
theorem twinT_any (A : Option Addr) (m c : Nat) (L : Nat → It) (w : World) (h : RdT w A m L) (hm : m * 32 ≤ 140737488351232) :
    Calls Try.prog 11 #[.slice A m c] w (TwinTPost w m L) := by
  obtain ⟨i0, hi, hz0, hz1, hz2⟩ := info_parts info_tlv
  have HR := Lib.hid h
  clear h
  go_enter Try.func11, Try.ntmps11
  go_wp2_with fail
  go_loopw [3, 8] (fun v i wr => ∃ (k : Nat) (L' : Nat → It), k ≤ m ∧ i = .int .i64 k ∧ OwnT wr w.heap.size v k L' ∧ Hid (∀ j, j < k → Alike (L j) (L' j)) ∧ Below w.heap.size w wr)
    (fun _ i _ => m - (intOf i).toNat)
  case atStart => exact ⟨0, L, by omega, rfl, OwnT.nil _ _ _, Lib.hid (fun j hj => by omega), bself w⟩
  case round =>
    obtain ⟨k, L', hk, rfl, hown, hL, hb⟩ := hrel
    by_cases hkm : k < m
    · obtain ⟨b, off, rfl, hr⟩ := (HR.out.below hb).row (by omega)
      obtain ⟨c0, c1, c2⟩ := hr.2 k hkm
      have H := Lib.hid (fun (W : World) (hW : Rd W (L k).A (L k).n (L k).z) => twin_any (L k).A (L k).n (L k).c (L k).z W hW c2.2.2.1 (by have := c2.2.2.2; omega))
      have hRd : Rd w (L k).A (L k).n (L k).z := by
        obtain ⟨b', off', _, hr'⟩ := HR.out.row (by omega)
        exact (hr'.2 k hkm).2.2.2.1
      have HRd := Lib.hid hRd
      have hbs := hb.size
      have hfar : some wr.heap.size ≠ u3.ownBlock := fun e => by have := (hown.1.lt _ e.symm).2; omega
      have ho := Lib.hid hown
      have hk31 : (k + 1) * 32 ≤ 140737488355328 := by omega
      have hk63 : k + 1 ≤ maxLen := by unfold maxLen; omega
      have hbase : ∀ g1 cap1 (W : World), wr.heap.size ≤ W.heap.size → w.heap.size ≤ (W.alloc (.cells #[.int .u8 (L k).ty, .slice (some ⟨g1, 0, none⟩) (L k).n cap1] 53)).heap.size := fun g1 cap1 W h => by simp; omega
      have HB := Lib.hid hbase
      have z0 := c2.1
      have hn := c2.2.2.2
      clear hown hbase hr c2 hRd
      generalize hty : (L k).ty = ty at *
      generalize hLA : (L k).A = LA at *
      generalize hLn : (L k).n = n at *
      generalize hLc : (L k).c = lc at *
      generalize hLz : (L k).z = lz at *
      have HTY := Lib.hid hty
      have HLN := Lib.hid hLn
      have HLZ := Lib.hid hLz
      clear hty hLA hLn hLc hLz
      go_wp2_with fail
      go_region_held3 (fun w' => w'.cell? ⟨wr.heap.size, 0, none⟩ = some (.int .u8 ty) ∧ w'.cell? ⟨wr.heap.size, 1, none⟩ = some (.slice LA n lc))
        (first | go_keep | exact ⟨k0, k1⟩ | exact ⟨j0, j1⟩)
        (first | (go_at_call 25; refine (H.out _ (HRd.out.below (by exact (hb.alloc hbs _).drew) rfl)).mono ?_; (rintro e w1 ⟨g1, cap1, rfl, hg1, ho1, hb1⟩; have hbx : Below (wr.heap.size + 1) (wr.alloc (.cells #[.int .u8 ty, .slice LA n lc] 53)) w1 := (by have := (Below.refl _ _).drew.trans hb1; simpa using this); have hbz := HB.out g1 cap1 w1 (by have := hbx.size; simp at this; omega); have k0 : w1.cell? ⟨wr.heap.size, 0, none⟩ = some (.int .u8 ty) := (hbx.cell (p := ⟨wr.heap.size, 0, none⟩) (Nat.lt_succ_self _)).trans (by simp); have k1 : w1.cell? ⟨wr.heap.size, 1, none⟩ = some (.slice LA n lc) := (hbx.cell (p := ⟨wr.heap.size, 1, none⟩) (Nat.lt_succ_self _)).trans (by simp))) | (refine step_append_lies _ (by rfl) _ _ _ (by rfl) w.heap.size 53 i0 _ 2 32 Try.underlying29 hi hz0 hz1 hz2 rfl (by omega) u3 k (cellsT L' k) (by rfl) ((ownsRow_below (ho.out.1.alloc _) (by simpa using hbx)).alloc _) ⟨w1.heap.size, 0, none⟩ 1 1 [.int .u8 ty, .slice (some ⟨g1, 0, none⟩) n cap1] (by rfl) (by rfl) (World.news_of_block (heap_alloc_new w1 _)) (two_one _ _ _ _) (by omega) hk63 hk31 hbz (w1.heap.size + 1) (by simp) ?_; intro gg cap w2 hown2 hgrow hat hlt2; have j0 : w2.cell? ⟨wr.heap.size, 0, none⟩ = some (.int .u8 ty) := hgrow.cell (by rw [World.cell?_alloc_lt _ _ _ (cell_lt k0)]; exact k0) hfar; have j1 : w2.cell? ⟨wr.heap.size, 1, none⟩ = some (.slice LA n lc) := hgrow.cell (by rw [World.cell?_alloc_lt _ _ _ (cell_lt k1)]; exact k1) hfar))
      have hit : OwnV (w1.alloc (.cells #[.int .u8 ty, .slice (some ⟨g1, 0, none⟩) n cap1] 53)) w.heap.size ⟨ty, some ⟨g1, 0, none⟩, n, cap1, lz⟩ := ⟨z0, by show n ≤ _; omega, g1, rfl, by simp at hg1; omega, ho1.alloc _⟩
      have R := Lib.hid (OwnT.push (((ho.out.below ((bself wr).alloc (Nat.le_refl _) (.cells #[.int .u8 ty, .slice LA n lc] 53))).below (by simpa using hbx)).below ((bself w1).alloc (Nat.le_refl _) (.cells #[.int .u8 ty, .slice (some ⟨g1, 0, none⟩) n cap1] 53))) hit hown2 hgrow)
      have hI : ∀ j, j < k + 1 → Alike (L j) (updT L' k ⟨ty, some ⟨g1, 0, none⟩, n, cap1, lz⟩ j) := by
        intro j hj
        by_cases e : j = k
        · subst e; rw [updT_same]; exact ⟨HTY.out, HLN.out, HLZ.out⟩
        · rw [updT_other _ _ _ _ e]; exact hL.out j (by omega)
      have hw1s := hbx.size
      simp at hw1s
      have hB2 : Below w.heap.size w w2 := (((hb.alloc hbs _).trans (hbx.mono (by omega))).alloc (by omega) _).grown hgrow (by simp; omega) (fun x e => (ho.out.1.lt x e).1)
      have HI := Lib.hid hI
      have HB2 := Lib.hid hB2
      clear hI hB2 hit hown2 hgrow ho1 hb1 hbx hbz hat hlt2 c0 c1 hg1 j0 j1 k0 k1
      go_wp2
      go_roundw
      case rel => exact ⟨k + 1, _, by omega, by go_num, R.out, HI, HB2.out⟩
      case measure => simp only [intOf]; omega
    · obtain rfl : k = m := by omega
      have ho := Lib.hid hown
      clear hown
      go_wp2
      go_ret
      exact ⟨_, L', rfl, ho.out, hL.out, hb⟩
end Go.Proofs.Ytigkmcbkckfhbaa
