/- The law's areas: a list of rows of bytes, of its own. Each theorem states its conditions. -/
import Derived.Test.YthmnbhmficdifaaALst
import Derived.Deep.AppendLies
namespace Go.Proofs.Ythmnbhmficdifaa
open Go.RowKit
set_option linter.unusedVariables false

def TwinSPost (w : World) (m : Nat) (L : Nat → Sl) (e : Ending) (w' : World) : Prop :=
  ∃ v L', e = .returned v ∧ OwnS w' w.heap.size v m L' ∧ (∀ j, j < m → sameS (L j) (L' j)) ∧ Below w.heap.size w w'
theorem sl_one (A : Option Addr) (n c : Nat) : ∀ u ∈ [Value.slice A n c], u.oneCell' = true := by
  intro u hu; simp only [List.mem_cons, List.not_mem_nil, or_false] at hu; subst hu; rfl

set_option maxHeartbeats 4000000 in
set_option maxRecDepth 100000 in
theorem areas_any (A : Option Addr) (m c : Nat) (L : Nat → Sl) (w : World) (h : RdS w A m L) (hm : m * 24 ≤ 140737488351232) :
    Calls Try.prog 23 #[.slice A m c] w (TwinSPost w m L) := by
  obtain ⟨i0, hi, hz0, hz1, hz2⟩ := info_parts info_sl
  have HR := Lib.hid h
  clear h
  go_enter Try.func23, Try.ntmps23
  go_wp2_with fail
  go_loopw [3, 8] (fun v i wr => ∃ (k : Nat) (L' : Nat → Sl), k ≤ m ∧ i = .int .i64 k ∧ OwnS wr w.heap.size v k L' ∧ Hid (∀ j, j < k → sameS (L j) (L' j)) ∧ Below w.heap.size w wr)
    (fun _ i _ => m - (intOf i).toNat)
  case atStart => exact ⟨0, L, by omega, rfl, OwnS.nil _ _ _, Lib.hid (fun j hj => by omega), bself w⟩
  case round =>
    obtain ⟨k, L', hk, rfl, hown, hL, hb⟩ := hrel
    by_cases hkm : k < m
    · obtain ⟨b, off, rfl, hr⟩ := (HR.out.below hb).row (by omega)
      obtain ⟨c0, c2⟩ := hr.2 k hkm
      have H := Lib.hid (twin_any (L k).A (L k).n (L k).c (L k).z wr c2.1 c2.2.1 c2.2.2)
      have hbs := hb.size
      have ho := Lib.hid hown
      have hn := c2.2.2
      have hz := c2.1.2
      have HB := Lib.hid hb
      clear hown hr c2 hb
      generalize hLA : (L k).A = LA at *
      generalize hLn : (L k).n = n at *
      generalize hLc : (L k).c = lc at *
      generalize hLz : (L k).z = lz at *
      have HLN := Lib.hid hLn
      have HLZ := Lib.hid hLz
      clear hLA hLn hLc hLz
      go_wp2_with fail
      refine H.out.mono ?_
      rintro e w1 ⟨g, cap, rfl, hg, ho1, hb1⟩
      have HB1 := Lib.hid (HB.out.trans (hb1.mono hbs))
      have hs1 := HB1.out.size
      have hown1 : (w1.alloc (.cells #[.slice (some ⟨g, 0, none⟩) n cap] 49)).ownsRow w.heap.size 49 1 u3 k (cellsS L' k) := (ownsRow_below ho.out.1 hb1).alloc _
      have hnews := World.news_of_block (heap_alloc_new w1 (.cells #[.slice (some ⟨g, 0, none⟩) n cap] 49))
      have HN := Lib.hid hnews
      have HO1 := Lib.hid ho1
      have hV : OwnV (w1.alloc (.cells #[.slice (some ⟨g, 0, none⟩) n cap] 49)) w.heap.size ⟨some ⟨g, 0, none⟩, n, cap, lz⟩ := ⟨by show n ≤ _; omega, .inr ⟨g, rfl, by omega, ho1.alloc _⟩⟩
      have HV := Lib.hid hV
      have hcap := ho1.caps
      have H1 := Lib.hid (ho.out.below hb1)
      have hbase : w.heap.size ≤ (w1.alloc (.cells #[.slice (some ⟨g, 0, none⟩) n cap] 49)).heap.size := by simp; omega
      have hk1 : k + 1 ≤ maxLen := by unfold maxLen; omega
      have hk2 : (k + 1) * 24 ≤ 140737488355328 := by omega
      clear hnews ho1 hV hb1
      go_wp2_with (at_builtin; refine wpList_append_own_at _ rfl (.tmp 12) (.tmp 15) 24 rfl w.heap.size 49 i0 (.slice none 0 0) 1 24 Try.underlying24 hi hz0 hz1 hz2 rfl (by decide) u3 k (cellsS L' k) rfl hown1 ⟨w1.heap.size, 0, none⟩ 1 1 [.slice (some ⟨g, 0, none⟩) n cap] rfl rfl HN.out (sl_one _ _ _) hk1 hk2 hbase ?_; intro v2 w2 hown2 hgrow hnil hat)
      have R := Lib.hid (OwnS.push (H1.out.below ((bself w1).alloc (Nat.le_refl _) (.cells #[.slice (some ⟨g, 0, none⟩) n cap] 49))) HV.out hown2 hgrow)
      have hI : ∀ j, j < k + 1 → sameS (L j) (updS L' k ⟨some ⟨g, 0, none⟩, n, cap, lz⟩ j) := by
        intro j hj
        by_cases e : j = k
        · subst e; rw [updS_same]; exact ⟨HLN.out, fun i _ => by rw [HLZ.out]⟩
        · rw [updS_other _ _ _ _ e]; exact hL.out j (by omega)
      have hB2 : Below w.heap.size w w2 := (HB1.out.alloc hs1 _).grown hgrow hbase (fun x e => (ho.out.1.lt x e).1)
      have HI := Lib.hid hI
      have HB2 := Lib.hid hB2
      clear hI hB2 hown2 hgrow hown1 hat hnil
      go_wp2
      go_roundw
      case rel => exact ⟨k + 1, _, by omega, by go_num, R.out, HI, HB2.out⟩
      case measure => simp only [intOf]; omega
    · obtain rfl : k = m := by omega
      have ho := Lib.hid hown
      clear hown
      go_wp2
      go_ret
      exact ⟨_, L', rfl, ho.out, hL.out, hb⟩
end Go.Proofs.Ythmnbhmficdifaa
