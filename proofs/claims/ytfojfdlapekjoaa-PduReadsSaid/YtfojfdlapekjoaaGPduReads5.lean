/- Texts of this claim put together; each theorem states its conditions. -/
import Derived.Test.YtfojfdlapekjoaaGPduReads2
import Derived.Test.YtfojfdlapekjoaaGPduReads4
import Derived.Test.YtfojfdlapekjoaaGPduReads3
import Derived.Laws.IdiomStrings
/- The document's Join and DocJoin write a list as bytes. Each theorem states its conditions. -/
namespace Go.Proofs.Ytfojfdlapekjoaa
open Go.RowKit
set_option linter.unusedVariables false

theorem ownsRow_rd {w : World} {base n : Nat} {v : Value} {z : Nat → Int} (h : w.ownsRow base 5 1 v n (vals z n)) (hz : ∀ j, 0 ≤ z j ∧ z j ≤ 255) :
    ∃ A c, v = .slice A n c ∧ n ≤ c ∧ c ≤ maxLen ∧ (A = none → n = 0 ∧ c = 0) ∧ Rd w A n z := by
  rcases h.2 with ⟨rfl, rfl⟩ | ⟨g, cap, cur, rfl, hb, hg, h1, h2, h3, h4⟩
  · exact ⟨none, 0, rfl, Nat.le_refl _, by decide, fun _ => ⟨rfl, rfl⟩, .inl rfl, hz⟩
  · obtain ⟨g', cap', e, _, ho⟩ := own_of h rfl (by simp) hz
    injection e with e1 e2 e3
    injection e1 with e1
    injection e1 with e1
    subst e1 e3
    exact ⟨_, cap, rfl, h1, h2, fun e => (by cases e), ho.rd⟩

theorem one_new (w : World) (a : Value) (t : TypeId) : ∀ j u, [a][j]? = some u → (w.alloc (.cells #[a] t)).cell? ((⟨w.heap.size, 0, none⟩ : Addr).add j) = some u := by
  intro j u hj
  match j, hj with
  | 0, hj => simp at hj; subst hj; simp [Addr.add]
theorem one_new2 (w : World) (o : Obj) (a : Value) (t : TypeId) : ∀ j u, [a][j]? = some u → ((w.alloc o).alloc (.cells #[a] t)).cell? ((⟨w.heap.size + 1, 0, none⟩ : Addr).add j) = some u := by
  have := one_new (w.alloc o) a t
  rwa [World.size_alloc] at this
theorem int_one (k : IntKind) (a : Int) : ∀ u ∈ [Value.int k a], u.oneCell' = true := by
  intro u hu; simp only [List.mem_cons, List.not_mem_nil, or_false] at hu; subst hu; rfl

theorem far_step {x n : Nat} {v v' : Value} (h : v'.ownBlock = v.ownBlock ∨ v'.ownBlock = some n) (hf : some x ≠ v.ownBlock) (hx : x < n) : some x ≠ v'.ownBlock := by
  rcases h with e | e
  · rw [e]; exact hf
  · rw [e]; intro e'; injection e' with e'; omega

def RefJoinPost (w : World) (L : Nat → It) (m : Nat) (e : Ending) (w' : World) : Prop :=
  ∃ v, e = .returned v ∧ w'.ownsRow w.heap.size 5 1 v (sz L m) (vals (J L m) (sz L m)) ∧ Below w.heap.size w w'

set_option maxHeartbeats 4000000 in
set_option maxRecDepth 100000 in
theorem refjoin_any (A : Option Addr) (m c : Nat) (L : Nat → It) (w : World) (h : RdT w A m L) (hc : m ≤ c) (hcm : c ≤ 9223372036854775807) (hm : ∀ k, k < m → ¬ bad L k) :
    Calls Try.prog 60 #[.slice A m c] w (RefJoinPost w L m) := by
  obtain ⟨i0, hi, hz0, hz1, hz2⟩ := info_parts info_u8
  have HM := Lib.hid hm
  have HR := Lib.hid h
  clear h hm
  go_enter Try.func60, Try.ntmps60
  go_wp2_with fail
  go_loopw [3, 8] (fun v i wr => ∃ k : Nat, k ≤ m ∧ i = .int .i64 k ∧ wr.ownsRow w.heap.size 5 1 v (sz L k) (vals (J L k) (sz L k)) ∧ Below w.heap.size w wr)
    (fun _ i _ => m - (intOf i).toNat)
  case atStart => exact ⟨0, by omega, rfl, World.ownsRow_nil _ _ _ _, bself w⟩
  case round =>
    obtain ⟨k, hk, rfl, hown, hb⟩ := hrel
    by_cases hkm : k < m
    · obtain ⟨b, off, rfl, hr⟩ := (HR.out.below hb).row (by omega)
      obtain ⟨c0, c1, c2⟩ := hr.2 k hkm
      have hRd : Rd w (L k).A (L k).n (L k).z := by
        obtain ⟨b', off', _, hr'⟩ := HR.out.row (by omega)
        exact (hr'.2 k hkm).2.2.2.1
      have hnone := c2.2.2.1
      have hs1 : sz L (k + 1) = sz L k + (2 + (L k).n) := rfl
      have hnb := HM.out k hkm
      unfold bad at hnb
      have q1 : ((L k).n : Int) ≤ 255 := by omega
      have q2 : sz L k + (2 + (L k).n) ≤ 1492 := by omega
      have HRd := Lib.hid hRd
      have HO := Lib.hid hown
      have hJ : vals (J L k) (sz L k) ++ [.int .u8 (L k).ty] ++ [.int .u8 ((L k).n : Int)] ++ vals (L k).z (L k).n = vals (J L (k + 1)) (sz L (k + 1)) := by
        rw [List.append_assoc _ [_] [_], show [Value.int .u8 (L k).ty] ++ [.int .u8 ((L k).n : Int)] = vals (two (L k).ty (L k).n) 2 from (vals_two _ _).symm, vals_cat, vals_cat]
        show vals _ (sz L k + 2 + (L k).n) = vals _ (sz L k + (2 + (L k).n))
        rw [Nat.add_assoc]
        rfl
      have HJ := Lib.hid hJ
      have HSE := Lib.hid hs1
      have hHN1 := Lib.hid (vals_one (L k).z (L k).n)
      have hHNL := Lib.hid (show (vals (L k).z (L k).n).length = (L k).n * 1 by rw [vals_len]; omega)
      have hbs := hb.size
      have hfar : some wr.heap.size ≠ u3.ownBlock := fun e => by have := (hown.lt _ e.symm).2; omega
      clear hr hnb hs1 hRd hown hJ c2
      generalize hty : (L k).ty = ty at *
      generalize hLA : (L k).A = LA at *
      generalize hLn : (L k).n = n at *
      generalize hLc : (L k).c = lc at *
      generalize hsk : sz L k = s at *
      have HNone := Lib.hid hnone
      have m1 : s + 1 ≤ maxLen := by unfold maxLen; omega
      have m2 : s + 1 + 1 ≤ maxLen := by unfold maxLen; omega
      have m3 : s + 1 + 1 + n ≤ maxLen := by unfold maxLen; omega
      clear hty hLA hLn hLc hsk hnone
      rcases LA with _ | ad
      · obtain ⟨rfl, rfl⟩ := HNone.out rfl
        go_wp2_with (first
          | (at_builtin; refine wpList_append_own_at _ rfl (.tmp 12) (.tmp 15) 35 rfl w.heap.size 5 i0 (.int .u8 0) 1 1 Try.underlying35 hi hz0 hz1 hz2 rfl (by decide) u3 s _ rfl ((HO.out.alloc _).alloc _) ⟨wr.heap.size + 1, 0, none⟩ 1 1 [.int .u8 ty] rfl rfl (one_new2 wr _ _ _) (int_one _ _) m1 (by omega) (by simp; omega) ?_; intro v1 w1 hown1 hgrow1 hnil1 hat1; have ct1 : w1.cell? ⟨wr.heap.size, 1, none⟩ = some (.slice none 0 0) := hgrow1.cell (by simp) hfar)
          | (at_builtin; refine wpList_append_own_at _ rfl (.tmp 17) (.tmp 22) 35 rfl w.heap.size 5 i0 (.int .u8 0) 1 1 Try.underlying35 hi hz0 hz1 hz2 rfl (by decide) v1 (s + 1) _ rfl (hown1.alloc _) ⟨w1.heap.size, 0, none⟩ 1 1 [.int .u8 ((0 : Nat) : Int)] rfl rfl (one_new w1 _ _) (int_one _ _) m2 (by omega) (by have := hgrow1.size; simp at this ⊢; omega) ?_; intro v2 w2 hown2 hgrow2 hnil2 hat2; have ct2 : w2.cell? ⟨wr.heap.size, 1, none⟩ = some (.slice none 0 0) := hgrow2.cell (by rw [World.cell?_alloc_lt _ _ _ (cell_lt ct1)]; exact ct1) (far_step hat1 hfar (by simp; omega)))
          | (at_builtin; refine wpList_append_own_none rfl (.tmp 24) (.tmp 26) 35 rfl w.heap.size 5 i0 1 Try.underlying35 hi v2 (s + 1 + 1) _ rfl hown2 rfl ?_))
        have hs1' := hgrow1.size
        have hs2' := hgrow2.size
        simp at hs1' hs2'
        have hB2 := (((((hb.alloc hbs _).alloc (by simp; omega) _).grown hgrow1 (by simp; omega) (fun x e => (HO.out.lt x e).1)).alloc (by omega) _)).grown hgrow2 (by simp; omega) (fun x e => (hown1.lt x e).1)
        have HB2 := Lib.hid hB2
        have hR : w2.ownsRow w.heap.size 5 1 v2 (sz L (k + 1)) (vals (J L (k + 1)) (sz L (k + 1))) := by
          rw [← HJ.out, HSE.out]
          simpa [vals, Nat.add_assoc] using hown2
        have HRR := Lib.hid hR
        clear hR hB2 hown2 hown1 hgrow1 hgrow2 hat1 hat2 hnil1 hnil2 ct1 ct2 c0 c1
        go_roundw
        case rel => exact ⟨k + 1, by omega, by go_num, HRR.out, HB2.out⟩
        case measure => simp only [intOf]; omega
      · have hns := HNone
        go_wp2_with (first
          | (at_builtin; refine wpList_append_own_at _ rfl (.tmp 12) (.tmp 15) 35 rfl w.heap.size 5 i0 (.int .u8 0) 1 1 Try.underlying35 hi hz0 hz1 hz2 rfl (by decide) u3 s _ rfl ((HO.out.alloc _).alloc _) ⟨wr.heap.size + 1, 0, none⟩ 1 1 [.int .u8 ty] rfl rfl (one_new2 wr _ _ _) (int_one _ _) m1 (by omega) (by simp; omega) ?_; intro v1 w1 hown1 hgrow1 hnil1 hat1; have ct1 : w1.cell? ⟨wr.heap.size, 1, none⟩ = some (.slice (some ad) n lc) := hgrow1.cell (by simp) hfar)
          | (at_builtin; refine wpList_append_own_at _ rfl (.tmp 17) (.tmp 22) 35 rfl w.heap.size 5 i0 (.int .u8 0) 1 1 Try.underlying35 hi hz0 hz1 hz2 rfl (by decide) v1 (s + 1) _ rfl (hown1.alloc _) ⟨w1.heap.size, 0, none⟩ 1 1 [.int .u8 (n : Int)] rfl rfl (one_new w1 _ _) (int_one _ _) m2 (by omega) (by have := hgrow1.size; simp at this ⊢; omega) ?_; intro v2 w2 hown2 hgrow2 hnil2 hat2; have ct2 : w2.cell? ⟨wr.heap.size, 1, none⟩ = some (.slice (some ad) n lc) := hgrow2.cell (by rw [World.cell?_alloc_lt _ _ _ (cell_lt ct1)]; exact ct1) (far_step hat1 hfar (by simp; omega)))
          | (at_builtin; refine wpList_append_own_at _ rfl (.tmp 24) (.tmp 26) 35 rfl w.heap.size 5 i0 (.int .u8 0) 1 1 Try.underlying35 hi hz0 hz1 hz2 rfl (by decide) v2 (s + 1 + 1) _ rfl hown2 ad n lc (vals (L k).z n) rfl hHNL.out (rd_news' (HRd.out.below ((((((hb.alloc hbs _).alloc (by simp; omega) _).grown hgrow1 (by simp; omega) (fun x e => (HO.out.lt x e).1)).alloc (by have := hgrow1.size; simp at this; omega) _)).grown hgrow2 (by have := hgrow1.size; simp at this ⊢; omega) (fun x e => (hown1.lt x e).1)) rfl)) hHN1.out m3 (by omega) (by have := hgrow1.size; have h2 := hgrow2.size; simp at this h2; omega) ?_; intro v3 w3 hown3 hgrow3 hnil3 hat3))
        have hs1' := hgrow1.size
        have hs2' := hgrow2.size
        simp at hs1' hs2'
        have hB2 := (((((hb.alloc hbs _).alloc (by simp; omega) _).grown hgrow1 (by simp; omega) (fun x e => (HO.out.lt x e).1)).alloc (by omega) _)).grown hgrow2 (by simp; omega) (fun x e => (hown1.lt x e).1)
        have hs3' := hgrow3.size
        have hB3 := hB2.grown hgrow3 (by omega) (fun x e => (hown2.lt x e).1)
        have HB2 := Lib.hid hB3
        have hR : w3.ownsRow w.heap.size 5 1 v3 (sz L (k + 1)) (vals (J L (k + 1)) (sz L (k + 1))) := by
          rw [← HJ.out, HSE.out, show s + (2 + n) = s + 1 + 1 + n by omega]
          exact hown3
        have HRR := Lib.hid hR
        clear hR hB2 hB3 hown2 hown1 hown3 hgrow1 hgrow2 hgrow3 hat1 hat2 hat3 hnil1 hnil2 hnil3 ct1 ct2 c0 c1
        go_roundw
        case rel => exact ⟨k + 1, by omega, by go_num, HRR.out, HB2.out⟩
        case measure => simp only [intOf]; omega
    · obtain rfl : k = m := by omega
      have ho := Lib.hid hown
      clear hown
      go_wp2
      go_ret
      exact ⟨_, rfl, ho.out, hb⟩

/-- what DocJoin leaves -/
def DocJoinPost (w : World) (L : Nat → It) (m m0 : Nat) (e : Ending) (w' : World) : Prop :=
  (m0 = m ∧ ∃ v, e = .returned (.tuple #[v, .int .i64 0]) ∧ w'.ownsRow w.heap.size 5 1 v (sz L m) (vals (J L m) (sz L m)) ∧ Below w.heap.size w w') ∨
  (m0 < m ∧ e = .returned (.tuple #[.slice none 0 0, .int .i64 2]) ∧ Below w.heap.size w w')

set_option maxHeartbeats 4000000 in
set_option maxRecDepth 100000 in
theorem docjoin_any (A : Option Addr) (m c m0 : Nat) (L : Nat → It) (w : World) (h : RdT w A m L) (hc : m ≤ c) (hcm : c ≤ 9223372036854775807) (hm : JEnds L m m0) :
    Calls Try.prog 39 #[.slice A m c] w (DocJoinPost w L m m0) := by
  obtain ⟨i0, hi, hz0, hz1, hz2⟩ := info_parts info_u8
  have HM := Lib.hid hm
  have HR := Lib.hid h
  have hm0 := hm.1
  clear h hm
  go_enter Try.func39, Try.ntmps39
  go_wp2_with fail
  go_loopw [4, 9] (fun s i wr => ∃ k : Nat, k ≤ m0 ∧ s = .int .i64 (sz L k : Nat) ∧ i = .int .i64 k ∧ Below w.heap.size w wr)
    (fun _ i _ => m - (intOf i).toNat)
  case atStart => exact ⟨0, by omega, rfl, rfl, bself w⟩
  case round =>
    obtain ⟨k, hk, rfl, rfl, hb⟩ := hrel
    by_cases hkm : k < m
    · obtain ⟨b, off, rfl, hr⟩ := (HR.out.below hb).row (by omega)
      obtain ⟨c0, c1, c2⟩ := hr.2 k hkm
      have hn := c2.2.2.2
      have hs : sz L k ≤ 1492 := by
        rcases Nat.eq_zero_or_pos k with h0 | h0
        · subst h0; simp [sz]
        · have := HM.out.2.1 (k - 1) (by omega)
          unfold bad at this
          rw [show k - 1 + 1 = k by omega] at this
          omega
      have hs1 : sz L (k + 1) = sz L k + (2 + (L k).n) := rfl
      have HB2 := Lib.hid c2
      generalize hLn : (L k).n = n at *
      generalize hLs : sz L k = s at *
      by_cases hk0 : k < m0
      · have hnb := HM.out.2.1 k hk0
        unfold bad at hnb
        rw [hs1, hLn] at hnb
        have q1 : (n : Int) ≤ 255 := by omega
        have q2 : (s : Int) + (2 + (n : Int)) ≤ 1492 := by omega
        have HS1 := Lib.hid hs1
        have HLs := Lib.hid hLs
        have HLn := Lib.hid hLn
        clear hnb hs1 hr hLn hLs c2
        go_wp2
        go_roundw
        case rel => exact ⟨k + 1, by omega, by rw [HS1.out]; go_num, by go_num, hb.alloc hb.size _⟩
        case measure => simp only [intOf]; omega
      · obtain rfl : k = m0 := by omega
        have hbad : bad L k := by
          rcases HM.out.2.2 with h | h
          · omega
          · exact h.2
        unfold bad at hbad
        rw [hs1, hLn] at hbad
        have hend : DocJoinPost w L m k (.returned (.tuple #[.slice none 0 0, .int .i64 2])) (wr.alloc (.cells #[.int .u8 (L k).ty, .slice (L k).A n (L k).c] 53)) := .inr ⟨hkm, rfl, hb.alloc hb.size _⟩
        have HE := Lib.hid hend
        have HBA := Lib.hid hbad
        clear hs1 hr hLn hLs c2 hend hbad
        by_cases h1 : 255 < n
        · have q1 : (255 : Int) < (n : Int) := by omega
          go_wp2
          go_ret2
          exact HE.out
        · have q1 : (n : Int) ≤ 255 := by omega
          have q2 : (1492 : Int) < (s : Int) + (2 + (n : Int)) := by have := HBA.out; omega
          go_wp2
          go_ret2
          exact HE.out
    · obtain rfl : k = m := by omega
      obtain rfl : m0 = k := by omega
      have H := Lib.hid (refjoin_any A m0 c L wr (HR.out.below hb) hc hcm HM.out.2.1)
      go_wp2_with fail
      refine (H.out).mono ?_
      rintro e w1 ⟨v, rfl, ho, hb1⟩
      have HO := Lib.hid (show w1.ownsRow w.heap.size 5 1 v (sz L m0) (vals (J L m0) (sz L m0)) from ⟨ho.1, ho.2.elim .inl (fun ⟨g, cap, cur, hv, hg, r⟩ => .inr ⟨g, cap, cur, hv, Nat.le_trans hb.size hg, r⟩)⟩)
      have HB := Lib.hid (hb.trans (hb1.mono hb.size))
      clear ho hb1
      go_wp2
      go_ret2
      exact .inl ⟨rfl, v, rfl, HO.out, HB.out⟩
end Go.Proofs.Ytfojfdlapekjoaa

/- The document's Head: how many bytes stand ahead of the TLVs. Each theorem states its conditions. -/
namespace Go.Proofs.Ytfojfdlapekjoaa
open Go.RowKit
set_option linter.unusedVariables false

theorem refHead_of (k : Int) (n : Nat) (h : (k = 17 ∧ n = 20) ∨ (k = 15 ∧ n = 27) ∨ (k = 16 ∧ n = 27) ∨ (k = 18 ∧ n = 27) ∨ (k = 20 ∧ n = 27) ∨ (k = 24 ∧ n = 33) ∨ (k = 25 ∧ n = 33) ∨ (k = 26 ∧ n = 17) ∨ (k = 27 ∧ n = 17)) (w : World) :
    Calls Try.prog 40 #[.int .u8 k] w fun e w' => e = .returned (.int .i64 (n : Nat)) ∧ w = w' := by
  rcases h with ⟨rfl, rfl⟩ | ⟨rfl, rfl⟩ | ⟨rfl, rfl⟩ | ⟨rfl, rfl⟩ | ⟨rfl, rfl⟩ | ⟨rfl, rfl⟩ | ⟨rfl, rfl⟩ | ⟨rfl, rfl⟩ | ⟨rfl, rfl⟩ <;>
  · go_enter Try.func40, Try.ntmps40
    go_wp2
    go_ret
    exact ⟨rfl, rfl⟩
/-- of a kind that there is -/
theorem refHead_any (k : Int) (q : Nat) (hk : cls k = q) (hq : q ≤ 4) (w : World) : Calls Try.prog 40 #[.int .u8 k] w fun e w' => e = .returned (.int .i64 (hdN q : Nat)) ∧ w = w' := by
  refine refHead_of k (hdN q) ?_ w
  subst hk
  unfold cls at hq ⊢
  by_cases h0 : k = 17
  · rw [if_pos h0]; exact .inl ⟨h0, rfl⟩
  rw [if_neg h0] at hq ⊢
  by_cases h1 : k = 15 ∨ k = 16
  · rw [if_pos h1]; rcases h1 with h | h <;> simp [h, show hdN 1 = 27 from rfl]
  rw [if_neg h1] at hq ⊢
  by_cases h2 : k = 18 ∨ k = 20
  · rw [if_pos h2]; rcases h2 with h | h <;> simp [h, show hdN 2 = 27 from rfl]
  rw [if_neg h2] at hq ⊢
  by_cases h3 : k = 24 ∨ k = 25
  · rw [if_pos h3]; rcases h3 with h | h <;> simp [h, show hdN 3 = 33 from rfl]
  rw [if_neg h3] at hq ⊢
  by_cases h4 : k = 26 ∨ k = 27
  · rw [if_pos h4]; rcases h4 with h | h <;> simp [h, show hdN 4 = 17 from rfl]
  rw [if_neg h4] at hq
  exact absurd hq (by decide)
/-- of no kind -/
theorem refHead_none (k : Int) (hk : cls k = 5) (w : World) : Calls Try.prog 40 #[.int .u8 k] w fun e w' => e = .returned (.int .i64 0) ∧ w = w' := by
  have H : k ≠ 17 ∧ k ≠ 15 ∧ k ≠ 16 ∧ k ≠ 18 ∧ k ≠ 20 ∧ k ≠ 24 ∧ k ≠ 25 ∧ k ≠ 26 ∧ k ≠ 27 := by
    refine ⟨?_, ?_, ?_, ?_, ?_, ?_, ?_, ?_, ?_⟩ <;> rintro rfl <;> exact absurd hk (by decide)
  have h1 : (k == 17) = false := by simp; omega
  have h2 : (k == 15) = false := by simp; omega
  have h3 : (k == 16) = false := by simp; omega
  have h4 : (k == 18) = false := by simp; omega
  have h5 : (k == 20) = false := by simp; omega
  have h6 : (k == 24) = false := by simp; omega
  have h7 : (k == 25) = false := by simp; omega
  have h8 : (k == 26) = false := by simp; omega
  have h9 : (k == 27) = false := by simp; omega
  clear H hk
  go_enter Try.func40, Try.ntmps40
  go_wp2
  go_ret
  exact ⟨rfl, rfl⟩
end Go.Proofs.Ytfojfdlapekjoaa

/- The document's Fields: may the fields of a packet stand so. Each theorem states its conditions. -/
namespace Go.Proofs.Ytfojfdlapekjoaa
open Go.RowKit
set_option linter.unusedVariables false

set_option maxHeartbeats 2000000 in
set_option maxRecDepth 100000 in
theorem fields_17 (p : Pd) (hk : p.kd = 17) (b : Bool) (hb : decide (p.ci ≠ 0 ∧ p.ci ≤ 3 ∧ 0 ≤ p.ho ∧ p.ho ≤ 65535) = b) (w : World) : Calls Try.prog 38 #[.agg (pdC p)] w fun e w' => e = .returned (.bool b) ∧ Below w.heap.size w w' := by
  have hx : PdT 31 (w.alloc (.cells (pdC p) 31)) w.heap.size p := heap_alloc_new w _
  have c0 : (w.alloc (.cells (pdC p) 31)).cell? ⟨w.heap.size, 0, none⟩ = some (.int .u8 p.kd) := (hx.cell 0).trans rfl
  have c1 : (w.alloc (.cells (pdC p) 31)).cell? ⟨w.heap.size, 1, none⟩ = some (.int .u8 p.ci) := (hx.cell 1).trans rfl
  have c9 : (w.alloc (.cells (pdC p) 31)).cell? ⟨w.heap.size, 9, none⟩ = some (.int .i64 p.ho) := (hx.cell 9).trans rfl
  have HB := Lib.hid ((bself w).alloc (Nat.le_refl _) (.cells (pdC p) 31))
  have HE := Lib.hid (refHead_any 17 0 rfl (by decide))
  have HH := Lib.hid (hello_yes 17 (by decide))
  have HL := Lib.hid (lsp_no 17 (by decide))
  rw [hk] at c0
  clear hk hx
  obtain ⟨ci, hci⟩ : ∃ ci, p.ci = ci := ⟨_, rfl⟩
  rw [hci] at c1 hb
  clear hci
  obtain ⟨ho, hho⟩ : ∃ ho, p.ho = ho := ⟨_, rfl⟩
  rw [hho] at c9 hb
  clear hho
  by_cases t : ci = 0
  · obtain rfl : false = b := by rw [← hb]; exact (decide_eq_false (by omega)).symm
    clear hb
    have f0 : (ci == 0) = true := by simp; omega
    go_enter Try.func38, Try.ntmps38
    go_wp2_with fail
    refine (HE.out _).mono ?_
    rintro e w1 ⟨rfl, rfl⟩
    go_wp2_with fail
    refine (HH.out _).mono ?_
    rintro e w1 ⟨rfl, rfl⟩
    go_wp2_with fail
    go_ret
    exact ⟨rfl, HB.out⟩
  have t28 := t; clear t
  by_cases t : 3 < ci
  · obtain rfl : false = b := by rw [← hb]; exact (decide_eq_false (by omega)).symm
    clear hb
    have f0 : (ci == 0) = false := by simp; omega
    have f1 : decide (3 < ci) = true := by simp; omega
    go_enter Try.func38, Try.ntmps38
    go_wp2_with fail
    refine (HE.out _).mono ?_
    rintro e w1 ⟨rfl, rfl⟩
    go_wp2_with fail
    refine (HH.out _).mono ?_
    rintro e w1 ⟨rfl, rfl⟩
    go_wp2_with fail
    go_ret
    exact ⟨rfl, HB.out⟩
  have t44 := t; clear t
  by_cases t : ho < 0
  · obtain rfl : false = b := by rw [← hb]; exact (decide_eq_false (by omega)).symm
    clear hb
    have f0 : (ci == 0) = false := by simp; omega
    have f1 : decide (3 < ci) = false := by simp; omega
    have f2 : decide (ho < 0) = true := by simp; omega
    go_enter Try.func38, Try.ntmps38
    go_wp2_with fail
    refine (HE.out _).mono ?_
    rintro e w1 ⟨rfl, rfl⟩
    go_wp2_with fail
    refine (HH.out _).mono ?_
    rintro e w1 ⟨rfl, rfl⟩
    go_wp2_with fail
    go_ret
    exact ⟨rfl, HB.out⟩
  have t61 := t; clear t
  by_cases t : 65535 < ho
  · obtain rfl : false = b := by rw [← hb]; exact (decide_eq_false (by omega)).symm
    clear hb
    have f0 : (ci == 0) = false := by simp; omega
    have f1 : decide (3 < ci) = false := by simp; omega
    have f2 : decide (ho < 0) = false := by simp; omega
    have f3 : decide (65535 < ho) = true := by simp; omega
    go_enter Try.func38, Try.ntmps38
    go_wp2_with fail
    refine (HE.out _).mono ?_
    rintro e w1 ⟨rfl, rfl⟩
    go_wp2_with fail
    refine (HH.out _).mono ?_
    rintro e w1 ⟨rfl, rfl⟩
    go_wp2_with fail
    go_ret
    exact ⟨rfl, HB.out⟩
  have t79 := t; clear t
  obtain rfl : true = b := by rw [← hb]; exact (decide_eq_true (by omega)).symm
  clear hb
  have f0 : (ci == 0) = false := by simp; omega
  have f1 : decide (3 < ci) = false := by simp; omega
  have f2 : decide (ho < 0) = false := by simp; omega
  have f3 : decide (65535 < ho) = false := by simp; omega
  go_enter Try.func38, Try.ntmps38
  go_wp2_with fail
  refine (HE.out _).mono ?_
  rintro e w1 ⟨rfl, rfl⟩
  go_wp2_with fail
  refine (HH.out _).mono ?_
  rintro e w1 ⟨rfl, rfl⟩
  go_wp2_with fail
  refine (HL.out _).mono ?_
  rintro e w1 ⟨rfl, rfl⟩
  go_wp2_with fail
  go_ret
  exact ⟨rfl, HB.out⟩
set_option maxHeartbeats 2000000 in
set_option maxRecDepth 100000 in
theorem fields_15 (p : Pd) (hk : p.kd = 15) (b : Bool) (hb : decide (p.ci ≠ 0 ∧ p.ci ≤ 3 ∧ 0 ≤ p.ho ∧ p.ho ≤ 65535 ∧ p.pr ≤ 127) = b) (w : World) : Calls Try.prog 38 #[.agg (pdC p)] w fun e w' => e = .returned (.bool b) ∧ Below w.heap.size w w' := by
  have hx : PdT 31 (w.alloc (.cells (pdC p) 31)) w.heap.size p := heap_alloc_new w _
  have c0 : (w.alloc (.cells (pdC p) 31)).cell? ⟨w.heap.size, 0, none⟩ = some (.int .u8 p.kd) := (hx.cell 0).trans rfl
  have c1 : (w.alloc (.cells (pdC p) 31)).cell? ⟨w.heap.size, 1, none⟩ = some (.int .u8 p.ci) := (hx.cell 1).trans rfl
  have c9 : (w.alloc (.cells (pdC p) 31)).cell? ⟨w.heap.size, 9, none⟩ = some (.int .i64 p.ho) := (hx.cell 9).trans rfl
  have c11 : (w.alloc (.cells (pdC p) 31)).cell? ⟨w.heap.size, 11, none⟩ = some (.int .u8 p.pr) := (hx.cell 11).trans rfl
  have HB := Lib.hid ((bself w).alloc (Nat.le_refl _) (.cells (pdC p) 31))
  have HE := Lib.hid (refHead_any 15 1 rfl (by decide))
  have HH := Lib.hid (hello_yes 15 (by decide))
  have HL := Lib.hid (lsp_no 15 (by decide))
  rw [hk] at c0
  clear hk hx
  obtain ⟨ci, hci⟩ : ∃ ci, p.ci = ci := ⟨_, rfl⟩
  rw [hci] at c1 hb
  clear hci
  obtain ⟨ho, hho⟩ : ∃ ho, p.ho = ho := ⟨_, rfl⟩
  rw [hho] at c9 hb
  clear hho
  obtain ⟨pr, hpr⟩ : ∃ pr, p.pr = pr := ⟨_, rfl⟩
  rw [hpr] at c11 hb
  clear hpr
  by_cases t : ci = 0
  · obtain rfl : false = b := by rw [← hb]; exact (decide_eq_false (by omega)).symm
    clear hb
    have f0 : (ci == 0) = true := by simp; omega
    go_enter Try.func38, Try.ntmps38
    go_wp2_with fail
    refine (HE.out _).mono ?_
    rintro e w1 ⟨rfl, rfl⟩
    go_wp2_with fail
    refine (HH.out _).mono ?_
    rintro e w1 ⟨rfl, rfl⟩
    go_wp2_with fail
    go_ret
    exact ⟨rfl, HB.out⟩
  have t128 := t; clear t
  by_cases t : 3 < ci
  · obtain rfl : false = b := by rw [← hb]; exact (decide_eq_false (by omega)).symm
    clear hb
    have f0 : (ci == 0) = false := by simp; omega
    have f1 : decide (3 < ci) = true := by simp; omega
    go_enter Try.func38, Try.ntmps38
    go_wp2_with fail
    refine (HE.out _).mono ?_
    rintro e w1 ⟨rfl, rfl⟩
    go_wp2_with fail
    refine (HH.out _).mono ?_
    rintro e w1 ⟨rfl, rfl⟩
    go_wp2_with fail
    go_ret
    exact ⟨rfl, HB.out⟩
  have t144 := t; clear t
  by_cases t : ho < 0
  · obtain rfl : false = b := by rw [← hb]; exact (decide_eq_false (by omega)).symm
    clear hb
    have f0 : (ci == 0) = false := by simp; omega
    have f1 : decide (3 < ci) = false := by simp; omega
    have f2 : decide (ho < 0) = true := by simp; omega
    go_enter Try.func38, Try.ntmps38
    go_wp2_with fail
    refine (HE.out _).mono ?_
    rintro e w1 ⟨rfl, rfl⟩
    go_wp2_with fail
    refine (HH.out _).mono ?_
    rintro e w1 ⟨rfl, rfl⟩
    go_wp2_with fail
    go_ret
    exact ⟨rfl, HB.out⟩
  have t161 := t; clear t
  by_cases t : 65535 < ho
  · obtain rfl : false = b := by rw [← hb]; exact (decide_eq_false (by omega)).symm
    clear hb
    have f0 : (ci == 0) = false := by simp; omega
    have f1 : decide (3 < ci) = false := by simp; omega
    have f2 : decide (ho < 0) = false := by simp; omega
    have f3 : decide (65535 < ho) = true := by simp; omega
    go_enter Try.func38, Try.ntmps38
    go_wp2_with fail
    refine (HE.out _).mono ?_
    rintro e w1 ⟨rfl, rfl⟩
    go_wp2_with fail
    refine (HH.out _).mono ?_
    rintro e w1 ⟨rfl, rfl⟩
    go_wp2_with fail
    go_ret
    exact ⟨rfl, HB.out⟩
  have t179 := t; clear t
  by_cases t : 127 < pr
  · obtain rfl : false = b := by rw [← hb]; exact (decide_eq_false (by omega)).symm
    clear hb
    have f0 : (ci == 0) = false := by simp; omega
    have f1 : decide (3 < ci) = false := by simp; omega
    have f2 : decide (ho < 0) = false := by simp; omega
    have f3 : decide (65535 < ho) = false := by simp; omega
    have f4 : decide (127 < pr) = true := by simp; omega
    go_enter Try.func38, Try.ntmps38
    go_wp2_with fail
    refine (HE.out _).mono ?_
    rintro e w1 ⟨rfl, rfl⟩
    go_wp2_with fail
    refine (HH.out _).mono ?_
    rintro e w1 ⟨rfl, rfl⟩
    go_wp2_with fail
    go_ret
    exact ⟨rfl, HB.out⟩
  have t198 := t; clear t
  obtain rfl : true = b := by rw [← hb]; exact (decide_eq_true (by omega)).symm
  clear hb
  have f0 : (ci == 0) = false := by simp; omega
  have f1 : decide (3 < ci) = false := by simp; omega
  have f2 : decide (ho < 0) = false := by simp; omega
  have f3 : decide (65535 < ho) = false := by simp; omega
  have f4 : decide (127 < pr) = false := by simp; omega
  go_enter Try.func38, Try.ntmps38
  go_wp2_with fail
  refine (HE.out _).mono ?_
  rintro e w1 ⟨rfl, rfl⟩
  go_wp2_with fail
  refine (HH.out _).mono ?_
  rintro e w1 ⟨rfl, rfl⟩
  go_wp2_with fail
  refine (HL.out _).mono ?_
  rintro e w1 ⟨rfl, rfl⟩
  go_wp2_with fail
  go_ret
  exact ⟨rfl, HB.out⟩
set_option maxHeartbeats 2000000 in
set_option maxRecDepth 100000 in
theorem fields_16 (p : Pd) (hk : p.kd = 16) (b : Bool) (hb : decide (p.ci ≠ 0 ∧ p.ci ≤ 3 ∧ 0 ≤ p.ho ∧ p.ho ≤ 65535 ∧ p.pr ≤ 127) = b) (w : World) : Calls Try.prog 38 #[.agg (pdC p)] w fun e w' => e = .returned (.bool b) ∧ Below w.heap.size w w' := by
  have hx : PdT 31 (w.alloc (.cells (pdC p) 31)) w.heap.size p := heap_alloc_new w _
  have c0 : (w.alloc (.cells (pdC p) 31)).cell? ⟨w.heap.size, 0, none⟩ = some (.int .u8 p.kd) := (hx.cell 0).trans rfl
  have c1 : (w.alloc (.cells (pdC p) 31)).cell? ⟨w.heap.size, 1, none⟩ = some (.int .u8 p.ci) := (hx.cell 1).trans rfl
  have c9 : (w.alloc (.cells (pdC p) 31)).cell? ⟨w.heap.size, 9, none⟩ = some (.int .i64 p.ho) := (hx.cell 9).trans rfl
  have c11 : (w.alloc (.cells (pdC p) 31)).cell? ⟨w.heap.size, 11, none⟩ = some (.int .u8 p.pr) := (hx.cell 11).trans rfl
  have HB := Lib.hid ((bself w).alloc (Nat.le_refl _) (.cells (pdC p) 31))
  have HE := Lib.hid (refHead_any 16 1 rfl (by decide))
  have HH := Lib.hid (hello_yes 16 (by decide))
  have HL := Lib.hid (lsp_no 16 (by decide))
  rw [hk] at c0
  clear hk hx
  obtain ⟨ci, hci⟩ : ∃ ci, p.ci = ci := ⟨_, rfl⟩
  rw [hci] at c1 hb
  clear hci
  obtain ⟨ho, hho⟩ : ∃ ho, p.ho = ho := ⟨_, rfl⟩
  rw [hho] at c9 hb
  clear hho
  obtain ⟨pr, hpr⟩ : ∃ pr, p.pr = pr := ⟨_, rfl⟩
  rw [hpr] at c11 hb
  clear hpr
  by_cases t : ci = 0
  · obtain rfl : false = b := by rw [← hb]; exact (decide_eq_false (by omega)).symm
    clear hb
    have f0 : (ci == 0) = true := by simp; omega
    go_enter Try.func38, Try.ntmps38
    go_wp2_with fail
    refine (HE.out _).mono ?_
    rintro e w1 ⟨rfl, rfl⟩
    go_wp2_with fail
    refine (HH.out _).mono ?_
    rintro e w1 ⟨rfl, rfl⟩
    go_wp2_with fail
    go_ret
    exact ⟨rfl, HB.out⟩
  have t248 := t; clear t
  by_cases t : 3 < ci
  · obtain rfl : false = b := by rw [← hb]; exact (decide_eq_false (by omega)).symm
    clear hb
    have f0 : (ci == 0) = false := by simp; omega
    have f1 : decide (3 < ci) = true := by simp; omega
    go_enter Try.func38, Try.ntmps38
    go_wp2_with fail
    refine (HE.out _).mono ?_
    rintro e w1 ⟨rfl, rfl⟩
    go_wp2_with fail
    refine (HH.out _).mono ?_
    rintro e w1 ⟨rfl, rfl⟩
    go_wp2_with fail
    go_ret
    exact ⟨rfl, HB.out⟩
  have t264 := t; clear t
  by_cases t : ho < 0
  · obtain rfl : false = b := by rw [← hb]; exact (decide_eq_false (by omega)).symm
    clear hb
    have f0 : (ci == 0) = false := by simp; omega
    have f1 : decide (3 < ci) = false := by simp; omega
    have f2 : decide (ho < 0) = true := by simp; omega
    go_enter Try.func38, Try.ntmps38
    go_wp2_with fail
    refine (HE.out _).mono ?_
    rintro e w1 ⟨rfl, rfl⟩
    go_wp2_with fail
    refine (HH.out _).mono ?_
    rintro e w1 ⟨rfl, rfl⟩
    go_wp2_with fail
    go_ret
    exact ⟨rfl, HB.out⟩
  have t281 := t; clear t
  by_cases t : 65535 < ho
  · obtain rfl : false = b := by rw [← hb]; exact (decide_eq_false (by omega)).symm
    clear hb
    have f0 : (ci == 0) = false := by simp; omega
    have f1 : decide (3 < ci) = false := by simp; omega
    have f2 : decide (ho < 0) = false := by simp; omega
    have f3 : decide (65535 < ho) = true := by simp; omega
    go_enter Try.func38, Try.ntmps38
    go_wp2_with fail
    refine (HE.out _).mono ?_
    rintro e w1 ⟨rfl, rfl⟩
    go_wp2_with fail
    refine (HH.out _).mono ?_
    rintro e w1 ⟨rfl, rfl⟩
    go_wp2_with fail
    go_ret
    exact ⟨rfl, HB.out⟩
  have t299 := t; clear t
  by_cases t : 127 < pr
  · obtain rfl : false = b := by rw [← hb]; exact (decide_eq_false (by omega)).symm
    clear hb
    have f0 : (ci == 0) = false := by simp; omega
    have f1 : decide (3 < ci) = false := by simp; omega
    have f2 : decide (ho < 0) = false := by simp; omega
    have f3 : decide (65535 < ho) = false := by simp; omega
    have f4 : decide (127 < pr) = true := by simp; omega
    go_enter Try.func38, Try.ntmps38
    go_wp2_with fail
    refine (HE.out _).mono ?_
    rintro e w1 ⟨rfl, rfl⟩
    go_wp2_with fail
    refine (HH.out _).mono ?_
    rintro e w1 ⟨rfl, rfl⟩
    go_wp2_with fail
    go_ret
    exact ⟨rfl, HB.out⟩
  have t318 := t; clear t
  obtain rfl : true = b := by rw [← hb]; exact (decide_eq_true (by omega)).symm
  clear hb
  have f0 : (ci == 0) = false := by simp; omega
  have f1 : decide (3 < ci) = false := by simp; omega
  have f2 : decide (ho < 0) = false := by simp; omega
  have f3 : decide (65535 < ho) = false := by simp; omega
  have f4 : decide (127 < pr) = false := by simp; omega
  go_enter Try.func38, Try.ntmps38
  go_wp2_with fail
  refine (HE.out _).mono ?_
  rintro e w1 ⟨rfl, rfl⟩
  go_wp2_with fail
  refine (HH.out _).mono ?_
  rintro e w1 ⟨rfl, rfl⟩
  go_wp2_with fail
  refine (HL.out _).mono ?_
  rintro e w1 ⟨rfl, rfl⟩
  go_wp2_with fail
  go_ret
  exact ⟨rfl, HB.out⟩
set_option maxHeartbeats 2000000 in
set_option maxRecDepth 100000 in
theorem fields_18 (p : Pd) (hk : p.kd = 18) (b : Bool) (hb : decide (0 ≤ p.li ∧ p.li ≤ 65535) = b) (w : World) : Calls Try.prog 38 #[.agg (pdC p)] w fun e w' => e = .returned (.bool b) ∧ Below w.heap.size w w' := by
  have hx : PdT 31 (w.alloc (.cells (pdC p) 31)) w.heap.size p := heap_alloc_new w _
  have c0 : (w.alloc (.cells (pdC p) 31)).cell? ⟨w.heap.size, 0, none⟩ = some (.int .u8 p.kd) := (hx.cell 0).trans rfl
  have c19 : (w.alloc (.cells (pdC p) 31)).cell? ⟨w.heap.size, 19, none⟩ = some (.int .i64 p.li) := (hx.cell 19).trans rfl
  have HB := Lib.hid ((bself w).alloc (Nat.le_refl _) (.cells (pdC p) 31))
  have HE := Lib.hid (refHead_any 18 2 rfl (by decide))
  have HH := Lib.hid (hello_no 18 (by decide))
  have HL := Lib.hid (lsp_yes 18 (by decide))
  rw [hk] at c0
  clear hk hx
  obtain ⟨li, hli⟩ : ∃ li, p.li = li := ⟨_, rfl⟩
  rw [hli] at c19 hb
  clear hli
  by_cases t : li < 0
  · obtain rfl : false = b := by rw [← hb]; exact (decide_eq_false (by omega)).symm
    clear hb
    have f0 : decide (0 ≤ li) = false := by simp; omega
    go_enter Try.func38, Try.ntmps38
    go_wp2_with fail
    refine (HE.out _).mono ?_
    rintro e w1 ⟨rfl, rfl⟩
    go_wp2_with fail
    refine (HH.out _).mono ?_
    rintro e w1 ⟨rfl, rfl⟩
    go_wp2_with fail
    refine (HL.out _).mono ?_
    rintro e w1 ⟨rfl, rfl⟩
    go_wp2_with fail
    go_ret
    exact ⟨rfl, HB.out⟩
  have t367 := t; clear t
  by_cases t : 65535 < li
  · obtain rfl : false = b := by rw [← hb]; exact (decide_eq_false (by omega)).symm
    clear hb
    have f0 : decide (0 ≤ li) = true := by simp; omega
    have f1 : decide (li ≤ 65535) = false := by simp; omega
    go_enter Try.func38, Try.ntmps38
    go_wp2_with fail
    refine (HE.out _).mono ?_
    rintro e w1 ⟨rfl, rfl⟩
    go_wp2_with fail
    refine (HH.out _).mono ?_
    rintro e w1 ⟨rfl, rfl⟩
    go_wp2_with fail
    refine (HL.out _).mono ?_
    rintro e w1 ⟨rfl, rfl⟩
    go_wp2_with fail
    go_ret
    exact ⟨rfl, HB.out⟩
  have t386 := t; clear t
  obtain rfl : true = b := by rw [← hb]; exact (decide_eq_true (by omega)).symm
  clear hb
  have f0 : decide (0 ≤ li) = true := by simp; omega
  have f1 : decide (li ≤ 65535) = true := by simp; omega
  go_enter Try.func38, Try.ntmps38
  go_wp2_with fail
  refine (HE.out _).mono ?_
  rintro e w1 ⟨rfl, rfl⟩
  go_wp2_with fail
  refine (HH.out _).mono ?_
  rintro e w1 ⟨rfl, rfl⟩
  go_wp2_with fail
  refine (HL.out _).mono ?_
  rintro e w1 ⟨rfl, rfl⟩
  go_wp2_with fail
  go_ret
  exact ⟨rfl, HB.out⟩
set_option maxHeartbeats 2000000 in
set_option maxRecDepth 100000 in
theorem fields_20 (p : Pd) (hk : p.kd = 20) (b : Bool) (hb : decide (0 ≤ p.li ∧ p.li ≤ 65535) = b) (w : World) : Calls Try.prog 38 #[.agg (pdC p)] w fun e w' => e = .returned (.bool b) ∧ Below w.heap.size w w' := by
  have hx : PdT 31 (w.alloc (.cells (pdC p) 31)) w.heap.size p := heap_alloc_new w _
  have c0 : (w.alloc (.cells (pdC p) 31)).cell? ⟨w.heap.size, 0, none⟩ = some (.int .u8 p.kd) := (hx.cell 0).trans rfl
  have c19 : (w.alloc (.cells (pdC p) 31)).cell? ⟨w.heap.size, 19, none⟩ = some (.int .i64 p.li) := (hx.cell 19).trans rfl
  have HB := Lib.hid ((bself w).alloc (Nat.le_refl _) (.cells (pdC p) 31))
  have HE := Lib.hid (refHead_any 20 2 rfl (by decide))
  have HH := Lib.hid (hello_no 20 (by decide))
  have HL := Lib.hid (lsp_yes 20 (by decide))
  rw [hk] at c0
  clear hk hx
  obtain ⟨li, hli⟩ : ∃ li, p.li = li := ⟨_, rfl⟩
  rw [hli] at c19 hb
  clear hli
  by_cases t : li < 0
  · obtain rfl : false = b := by rw [← hb]; exact (decide_eq_false (by omega)).symm
    clear hb
    have f0 : decide (0 ≤ li) = false := by simp; omega
    go_enter Try.func38, Try.ntmps38
    go_wp2_with fail
    refine (HE.out _).mono ?_
    rintro e w1 ⟨rfl, rfl⟩
    go_wp2_with fail
    refine (HH.out _).mono ?_
    rintro e w1 ⟨rfl, rfl⟩
    go_wp2_with fail
    refine (HL.out _).mono ?_
    rintro e w1 ⟨rfl, rfl⟩
    go_wp2_with fail
    go_ret
    exact ⟨rfl, HB.out⟩
  have t432 := t; clear t
  by_cases t : 65535 < li
  · obtain rfl : false = b := by rw [← hb]; exact (decide_eq_false (by omega)).symm
    clear hb
    have f0 : decide (0 ≤ li) = true := by simp; omega
    have f1 : decide (li ≤ 65535) = false := by simp; omega
    go_enter Try.func38, Try.ntmps38
    go_wp2_with fail
    refine (HE.out _).mono ?_
    rintro e w1 ⟨rfl, rfl⟩
    go_wp2_with fail
    refine (HH.out _).mono ?_
    rintro e w1 ⟨rfl, rfl⟩
    go_wp2_with fail
    refine (HL.out _).mono ?_
    rintro e w1 ⟨rfl, rfl⟩
    go_wp2_with fail
    go_ret
    exact ⟨rfl, HB.out⟩
  have t451 := t; clear t
  obtain rfl : true = b := by rw [← hb]; exact (decide_eq_true (by omega)).symm
  clear hb
  have f0 : decide (0 ≤ li) = true := by simp; omega
  have f1 : decide (li ≤ 65535) = true := by simp; omega
  go_enter Try.func38, Try.ntmps38
  go_wp2_with fail
  refine (HE.out _).mono ?_
  rintro e w1 ⟨rfl, rfl⟩
  go_wp2_with fail
  refine (HH.out _).mono ?_
  rintro e w1 ⟨rfl, rfl⟩
  go_wp2_with fail
  refine (HL.out _).mono ?_
  rintro e w1 ⟨rfl, rfl⟩
  go_wp2_with fail
  go_ret
  exact ⟨rfl, HB.out⟩
set_option maxHeartbeats 2000000 in
set_option maxRecDepth 100000 in
theorem fields_24 (p : Pd) (hk : p.kd = 24) (b : Bool) (hb : decide (True) = b) (w : World) : Calls Try.prog 38 #[.agg (pdC p)] w fun e w' => e = .returned (.bool b) ∧ Below w.heap.size w w' := by
  have hx : PdT 31 (w.alloc (.cells (pdC p) 31)) w.heap.size p := heap_alloc_new w _
  have c0 : (w.alloc (.cells (pdC p) 31)).cell? ⟨w.heap.size, 0, none⟩ = some (.int .u8 p.kd) := (hx.cell 0).trans rfl
  have HB := Lib.hid ((bself w).alloc (Nat.le_refl _) (.cells (pdC p) 31))
  have HE := Lib.hid (refHead_any 24 3 rfl (by decide))
  have HH := Lib.hid (hello_no 24 (by decide))
  have HL := Lib.hid (lsp_no 24 (by decide))
  rw [hk] at c0
  clear hk hx
  obtain rfl : true = b := by rw [← hb]; exact (decide_eq_true (trivial)).symm
  clear hb
  go_enter Try.func38, Try.ntmps38
  go_wp2_with fail
  refine (HE.out _).mono ?_
  rintro e w1 ⟨rfl, rfl⟩
  go_wp2_with fail
  refine (HH.out _).mono ?_
  rintro e w1 ⟨rfl, rfl⟩
  go_wp2_with fail
  refine (HL.out _).mono ?_
  rintro e w1 ⟨rfl, rfl⟩
  go_wp2_with fail
  go_ret
  exact ⟨rfl, HB.out⟩
set_option maxHeartbeats 2000000 in
set_option maxRecDepth 100000 in
theorem fields_25 (p : Pd) (hk : p.kd = 25) (b : Bool) (hb : decide (True) = b) (w : World) : Calls Try.prog 38 #[.agg (pdC p)] w fun e w' => e = .returned (.bool b) ∧ Below w.heap.size w w' := by
  have hx : PdT 31 (w.alloc (.cells (pdC p) 31)) w.heap.size p := heap_alloc_new w _
  have c0 : (w.alloc (.cells (pdC p) 31)).cell? ⟨w.heap.size, 0, none⟩ = some (.int .u8 p.kd) := (hx.cell 0).trans rfl
  have HB := Lib.hid ((bself w).alloc (Nat.le_refl _) (.cells (pdC p) 31))
  have HE := Lib.hid (refHead_any 25 3 rfl (by decide))
  have HH := Lib.hid (hello_no 25 (by decide))
  have HL := Lib.hid (lsp_no 25 (by decide))
  rw [hk] at c0
  clear hk hx
  obtain rfl : true = b := by rw [← hb]; exact (decide_eq_true (trivial)).symm
  clear hb
  go_enter Try.func38, Try.ntmps38
  go_wp2_with fail
  refine (HE.out _).mono ?_
  rintro e w1 ⟨rfl, rfl⟩
  go_wp2_with fail
  refine (HH.out _).mono ?_
  rintro e w1 ⟨rfl, rfl⟩
  go_wp2_with fail
  refine (HL.out _).mono ?_
  rintro e w1 ⟨rfl, rfl⟩
  go_wp2_with fail
  go_ret
  exact ⟨rfl, HB.out⟩
set_option maxHeartbeats 2000000 in
set_option maxRecDepth 100000 in
theorem fields_26 (p : Pd) (hk : p.kd = 26) (b : Bool) (hb : decide (True) = b) (w : World) : Calls Try.prog 38 #[.agg (pdC p)] w fun e w' => e = .returned (.bool b) ∧ Below w.heap.size w w' := by
  have hx : PdT 31 (w.alloc (.cells (pdC p) 31)) w.heap.size p := heap_alloc_new w _
  have c0 : (w.alloc (.cells (pdC p) 31)).cell? ⟨w.heap.size, 0, none⟩ = some (.int .u8 p.kd) := (hx.cell 0).trans rfl
  have HB := Lib.hid ((bself w).alloc (Nat.le_refl _) (.cells (pdC p) 31))
  have HE := Lib.hid (refHead_any 26 4 rfl (by decide))
  have HH := Lib.hid (hello_no 26 (by decide))
  have HL := Lib.hid (lsp_no 26 (by decide))
  rw [hk] at c0
  clear hk hx
  obtain rfl : true = b := by rw [← hb]; exact (decide_eq_true (trivial)).symm
  clear hb
  go_enter Try.func38, Try.ntmps38
  go_wp2_with fail
  refine (HE.out _).mono ?_
  rintro e w1 ⟨rfl, rfl⟩
  go_wp2_with fail
  refine (HH.out _).mono ?_
  rintro e w1 ⟨rfl, rfl⟩
  go_wp2_with fail
  refine (HL.out _).mono ?_
  rintro e w1 ⟨rfl, rfl⟩
  go_wp2_with fail
  go_ret
  exact ⟨rfl, HB.out⟩
set_option maxHeartbeats 2000000 in
set_option maxRecDepth 100000 in
theorem fields_27 (p : Pd) (hk : p.kd = 27) (b : Bool) (hb : decide (True) = b) (w : World) : Calls Try.prog 38 #[.agg (pdC p)] w fun e w' => e = .returned (.bool b) ∧ Below w.heap.size w w' := by
  have hx : PdT 31 (w.alloc (.cells (pdC p) 31)) w.heap.size p := heap_alloc_new w _
  have c0 : (w.alloc (.cells (pdC p) 31)).cell? ⟨w.heap.size, 0, none⟩ = some (.int .u8 p.kd) := (hx.cell 0).trans rfl
  have HB := Lib.hid ((bself w).alloc (Nat.le_refl _) (.cells (pdC p) 31))
  have HE := Lib.hid (refHead_any 27 4 rfl (by decide))
  have HH := Lib.hid (hello_no 27 (by decide))
  have HL := Lib.hid (lsp_no 27 (by decide))
  rw [hk] at c0
  clear hk hx
  obtain rfl : true = b := by rw [← hb]; exact (decide_eq_true (trivial)).symm
  clear hb
  go_enter Try.func38, Try.ntmps38
  go_wp2_with fail
  refine (HE.out _).mono ?_
  rintro e w1 ⟨rfl, rfl⟩
  go_wp2_with fail
  refine (HH.out _).mono ?_
  rintro e w1 ⟨rfl, rfl⟩
  go_wp2_with fail
  refine (HL.out _).mono ?_
  rintro e w1 ⟨rfl, rfl⟩
  go_wp2_with fail
  go_ret
  exact ⟨rfl, HB.out⟩
end Go.Proofs.Ytfojfdlapekjoaa

/- pdu.get reads a field of a packet. Each theorem states its conditions. -/
namespace Go.Proofs.Ytfojfdlapekjoaa
open Go.RowKit
set_option linter.unusedVariables false

/-- the first six of one, the rest of another -/
def mixS (s t : Nat → Int) : Nat → Int := fun j => if j < 6 then s j else t j
theorem mixS_bd {s t : Nat → Int} (h : ∀ j, 0 ≤ s j ∧ s j ≤ 255) (h' : ∀ j, 0 ≤ t j ∧ t j ≤ 255) : ∀ j, 0 ≤ mixS s t j ∧ mixS s t j ≤ 255 := by
  intro j; unfold mixS; split
  · exact h j
  · exact h' j
/-- a field is set by its bytes -/
def getF (p : Pd) (y : Nat → Int) : Nat → Pd
  | 0 => ⟨p.kd, y 0, p.so, p.ho, p.nu, p.pr, p.la, p.li, p.id, p.sq, p.bi, p.st, p.en, p.A, p.m, p.c⟩
  | 1 => ⟨p.kd, p.ci, mixS y p.so, p.ho, p.nu, p.pr, p.la, p.li, p.id, p.sq, p.bi, p.st, p.en, p.A, p.m, p.c⟩
  | 2 => ⟨p.kd, p.ci, y, p.ho, p.nu, p.pr, p.la, p.li, p.id, p.sq, p.bi, p.st, p.en, p.A, p.m, p.c⟩
  | 3 => ⟨p.kd, p.ci, p.so, (((numZ y 0 2).toNat : Nat) : Int), p.nu, p.pr, p.la, p.li, p.id, p.sq, p.bi, p.st, p.en, p.A, p.m, p.c⟩
  | 5 => ⟨p.kd, p.ci, p.so, p.ho, y 0, p.pr, p.la, p.li, p.id, p.sq, p.bi, p.st, p.en, p.A, p.m, p.c⟩
  | 6 => ⟨p.kd, p.ci, p.so, p.ho, p.nu, y 0, p.la, p.li, p.id, p.sq, p.bi, p.st, p.en, p.A, p.m, p.c⟩
  | 7 => ⟨p.kd, p.ci, p.so, p.ho, p.nu, p.pr, y, p.li, p.id, p.sq, p.bi, p.st, p.en, p.A, p.m, p.c⟩
  | 8 => ⟨p.kd, p.ci, p.so, p.ho, p.nu, p.pr, p.la, (((numZ y 0 2).toNat : Nat) : Int), p.id, p.sq, p.bi, p.st, p.en, p.A, p.m, p.c⟩
  | 9 => ⟨p.kd, p.ci, p.so, p.ho, p.nu, p.pr, p.la, p.li, y, p.sq, p.bi, p.st, p.en, p.A, p.m, p.c⟩
  | 10 => ⟨p.kd, p.ci, p.so, p.ho, p.nu, p.pr, p.la, p.li, p.id, (numZ y 0 4).toNat, p.bi, p.st, p.en, p.A, p.m, p.c⟩
  | 12 => ⟨p.kd, p.ci, p.so, p.ho, p.nu, p.pr, p.la, p.li, p.id, p.sq, y 0, p.st, p.en, p.A, p.m, p.c⟩
  | 13 => ⟨p.kd, p.ci, p.so, p.ho, p.nu, p.pr, p.la, p.li, p.id, p.sq, p.bi, y, p.en, p.A, p.m, p.c⟩
  | 14 => ⟨p.kd, p.ci, p.so, p.ho, p.nu, p.pr, p.la, p.li, p.id, p.sq, p.bi, p.st, y, p.A, p.m, p.c⟩
  | _ => p
/-- what get leaves: the packet at g is another one -/
def GetPost (w : World) (g : Nat) (p : Pd) (e : Ending) (w' : World) : Prop := e = .returned (.tuple #[]) ∧ PdT 33 w' g p ∧ Below g w w' ∧ ∀ k, k < w.heap.size → k ≠ g → w'.heap[k]? = w.heap[k]?
/-- a copy into block g -/
theorem wpList_cp {ops : Array Oper} {Q : Exit → Act → World → Prop} {rest : List Oper} {o : Oper} {a : Act} {w : World} (hgd : o.guard = none) (d s : Operand) (dT sT : TypeId)
    (ho : o.op = .call { callee := .builtin .copy, args := #[d, s], argTypes := #[dT, sT] }) (elem : TypeId) (hu : Try.prog.underlying dT = some (.slice elem)) (hsz : (Try.prog.info? elem).map (·.size) = some 1)
    (g off dLen dCap : Nat) (ad : Addr) (sLen sCap : Nat) (hd : a.eval d = .slice (some ⟨g, off, none⟩) dLen dCap) (hs : a.eval s = .slice (some ad) sLen sCap)
    (cur : List Value) (t : TypeId) (hg : w.heap[g]? = some (.cells cur.toArray t (0, 0))) (cs : List Value) (hn : cs.length = Nat.min sLen dLen)
    (hsrc : ∀ j v, cs[j]? = some v → w.cell? (ad.add j) = some v) (hfit : off + cs.length ≤ cur.length) (h1 : ∀ v ∈ cs, v.oneCell' = true) {C' : Array Value} (hC : (splice cur off cs).toArray = C')
    (h : ∀ w', Stored w w' g C' t → wpList Try.prog ops Q rest (a.put o.dst (goInt cs.length)) w') : wpList Try.prog ops Q (o :: rest) a w := by
  subst hC
  refine wpList_plain hgd fun K hK => ?_
  have hrun := run_copy_row (P := Try.prog) w dT sT o.type elem g off dLen dCap ad sLen sCap cur.toArray t cs hu hsz hg hn hsrc (by simpa using hfit) h1
  unfold Oper.wp
  simp [execOp, ho, resolve, invoke, builtin, hd, hs, hrun, Result.andThen]
  exact hK _ _ (h _ ⟨(show _ = _ by simpa [splice] using setRow_heap w g _ _ t _ hg), fun B hB => ⟨rfl, rfl, rfl, by simp [World.setRow], fun k hk => setRow_other w g k _ (by omega)⟩, fun k hk => setRow_other w g k _ hk⟩)
set_option maxHeartbeats 2000000 in
set_option maxRecDepth 100000 in
theorem get_0 (p : Pd) (y : Nat → Int) (g b off c : Nat) (w : World) (hg : PdT 33 w g p) (hr : Row8 w b off (fsz 0) y) (hc : fsz 0 ≤ c) (hcm : c ≤ maxLen) :
    Calls Try.prog 67 #[.pointer (some ⟨g, 0, none⟩), .int .i64 0, .slice (some ⟨b, off, none⟩) (fsz 0) c] w (GetPost w g (getF p y 0)) := by
  rw [show fsz 0 = 1 from rfl] at *
  have c1 : w.cell? ⟨b, off, none⟩ = some (.int .u8 (y 0)) := hr.2.1 0 (by omega)
  have HG := Lib.hid hg
  clear hr hg
  go_enter Try.func67, Try.ntmps67
  go_wp2_with (refine wpList_st rfl 5 (.tmp 14) (.tmp 12) rfl g 1 rfl (.int .u8 (y 0)) #[.int .u8 (y 0)] rfl rfl (by kernel_rfl) (by kernel_rfl) HG.out (Nat.le_of_ble_eq_true rfl) (C' := pdC (getF p y 0)) (by kernel_rfl) ?_; intro w9 hst; refine Hid.out ?_)
  refine Lib.hid ?_
  have HE : Hid (GetPost w g (getF p y 0) (.returned (.tuple #[])) w9) := Lib.hid ⟨rfl, hst.1, hst.2.1 g (Nat.le_refl _), fun k hk hne => hst.2.2 k hne⟩
  clear hst
  go_wp2_with fail
  exact bodyPost_end (results_none rfl _ _ _) rfl HE.out
set_option maxHeartbeats 2000000 in
set_option maxRecDepth 100000 in
theorem get_5 (p : Pd) (y : Nat → Int) (g b off c : Nat) (w : World) (hg : PdT 33 w g p) (hr : Row8 w b off (fsz 5) y) (hc : fsz 5 ≤ c) (hcm : c ≤ maxLen) :
    Calls Try.prog 67 #[.pointer (some ⟨g, 0, none⟩), .int .i64 5, .slice (some ⟨b, off, none⟩) (fsz 5) c] w (GetPost w g (getF p y 5)) := by
  rw [show fsz 5 = 1 from rfl] at *
  have c1 : w.cell? ⟨b, off, none⟩ = some (.int .u8 (y 0)) := hr.2.1 0 (by omega)
  have HG := Lib.hid hg
  clear hr hg
  go_enter Try.func67, Try.ntmps67
  go_wp2_with (refine wpList_st rfl 5 (.tmp 46) (.tmp 44) rfl g 10 rfl (.int .u8 (y 0)) #[.int .u8 (y 0)] rfl rfl (by kernel_rfl) (by kernel_rfl) HG.out (Nat.le_of_ble_eq_true rfl) (C' := pdC (getF p y 5)) (by kernel_rfl) ?_; intro w9 hst; refine Hid.out ?_)
  refine Lib.hid ?_
  have HE : Hid (GetPost w g (getF p y 5) (.returned (.tuple #[])) w9) := Lib.hid ⟨rfl, hst.1, hst.2.1 g (Nat.le_refl _), fun k hk hne => hst.2.2 k hne⟩
  clear hst
  go_wp2_with fail
  exact bodyPost_end (results_none rfl _ _ _) rfl HE.out
set_option maxHeartbeats 2000000 in
set_option maxRecDepth 100000 in
theorem get_6 (p : Pd) (y : Nat → Int) (g b off c : Nat) (w : World) (hg : PdT 33 w g p) (hr : Row8 w b off (fsz 6) y) (hc : fsz 6 ≤ c) (hcm : c ≤ maxLen) :
    Calls Try.prog 67 #[.pointer (some ⟨g, 0, none⟩), .int .i64 6, .slice (some ⟨b, off, none⟩) (fsz 6) c] w (GetPost w g (getF p y 6)) := by
  rw [show fsz 6 = 1 from rfl] at *
  have c1 : w.cell? ⟨b, off, none⟩ = some (.int .u8 (y 0)) := hr.2.1 0 (by omega)
  have HG := Lib.hid hg
  clear hr hg
  go_enter Try.func67, Try.ntmps67
  go_wp2_with (refine wpList_st rfl 5 (.tmp 54) (.tmp 52) rfl g 11 rfl (.int .u8 (y 0)) #[.int .u8 (y 0)] rfl rfl (by kernel_rfl) (by kernel_rfl) HG.out (Nat.le_of_ble_eq_true rfl) (C' := pdC (getF p y 6)) (by kernel_rfl) ?_; intro w9 hst; refine Hid.out ?_)
  refine Lib.hid ?_
  have HE : Hid (GetPost w g (getF p y 6) (.returned (.tuple #[])) w9) := Lib.hid ⟨rfl, hst.1, hst.2.1 g (Nat.le_refl _), fun k hk hne => hst.2.2 k hne⟩
  clear hst
  go_wp2_with fail
  exact bodyPost_end (results_none rfl _ _ _) rfl HE.out
set_option maxHeartbeats 2000000 in
set_option maxRecDepth 100000 in
theorem get_12 (p : Pd) (y : Nat → Int) (g b off c : Nat) (w : World) (hg : PdT 33 w g p) (hr : Row8 w b off (fsz 12) y) (hc : fsz 12 ≤ c) (hcm : c ≤ maxLen) :
    Calls Try.prog 67 #[.pointer (some ⟨g, 0, none⟩), .int .i64 12, .slice (some ⟨b, off, none⟩) (fsz 12) c] w (GetPost w g (getF p y 12)) := by
  rw [show fsz 12 = 1 from rfl] at *
  have c1 : w.cell? ⟨b, off, none⟩ = some (.int .u8 (y 0)) := hr.2.1 0 (by omega)
  have HG := Lib.hid hg
  clear hr hg
  go_enter Try.func67, Try.ntmps67
  go_wp2_with (refine wpList_st rfl 5 (.tmp 92) (.tmp 90) rfl g 29 rfl (.int .u8 (y 0)) #[.int .u8 (y 0)] rfl rfl (by kernel_rfl) (by kernel_rfl) HG.out (Nat.le_of_ble_eq_true rfl) (C' := pdC (getF p y 12)) (by kernel_rfl) ?_; intro w9 hst; refine Hid.out ?_)
  refine Lib.hid ?_
  have HE : Hid (GetPost w g (getF p y 12) (.returned (.tuple #[])) w9) := Lib.hid ⟨rfl, hst.1, hst.2.1 g (Nat.le_refl _), fun k hk hne => hst.2.2 k hne⟩
  clear hst
  go_wp2_with fail
  exact bodyPost_end (results_none rfl _ _ _) rfl HE.out
set_option maxHeartbeats 2000000 in
set_option maxRecDepth 100000 in
theorem get_1 (p : Pd) (y : Nat → Int) (g b off c : Nat) (w : World) (hg : PdT 33 w g p) (hr : Row8 w b off (fsz 1) y) (hc : fsz 1 ≤ c) (hcm : c ≤ maxLen) :
    Calls Try.prog 67 #[.pointer (some ⟨g, 0, none⟩), .int .i64 1, .slice (some ⟨b, off, none⟩) (fsz 1) c] w (GetPost w g (getF p y 1)) := by
  rw [show fsz 1 = 6 from rfl] at *
  have HG := Lib.hid hg
  have HR : Hid (∀ j v, (vals y 6)[j]? = some v → w.cell? ((⟨b, off, none⟩ : Addr).add j) = some v) := Lib.hid (six_src hr (by omega))
  clear hr hg
  go_enter Try.func67, Try.ntmps67
  go_wp2_with (refine wpList_cp rfl (.tmp 21) (.tmp 22) 35 35 rfl 5 Try.underlying35 info_u8s' g 2 6 6 ⟨b, off, none⟩ 6 c rfl rfl (pdC p).toList 33 HG.out (vals y 6) (by rw [vals_len]; rfl) HR.out (show 2 + (vals y 6).length ≤ 47 by rw [vals_len]; decide) (vals_one _ _) (C' := pdC (getF p y 1)) (by kernel_rfl) ?_; intro w9 hst; refine Hid.out ?_)
  refine Lib.hid ?_
  have HE : Hid (GetPost w g (getF p y 1) (.returned (.tuple #[])) w9) := Lib.hid ⟨rfl, hst.1, hst.2.1 g (Nat.le_refl _), fun k hk hne => hst.2.2 k hne⟩
  clear hst
  go_wp2_with fail
  exact bodyPost_end (results_none rfl _ _ _) rfl HE.out
set_option maxHeartbeats 2000000 in
set_option maxRecDepth 100000 in
theorem get_2 (p : Pd) (y : Nat → Int) (g b off c : Nat) (w : World) (hg : PdT 33 w g p) (hr : Row8 w b off (fsz 2) y) (hc : fsz 2 ≤ c) (hcm : c ≤ maxLen) :
    Calls Try.prog 67 #[.pointer (some ⟨g, 0, none⟩), .int .i64 2, .slice (some ⟨b, off, none⟩) (fsz 2) c] w (GetPost w g (getF p y 2)) := by
  rw [show fsz 2 = 7 from rfl] at *
  have HG := Lib.hid hg
  have HK := Lib.hid (getNode_any b off 7 c y w hr (by omega) hc hcm)
  clear hr hg
  go_enter Try.func67, Try.ntmps67
  go_wp2_with fail
  refine HK.out.mono ?_
  rintro e w1 ⟨rfl, hb1⟩
  have HG1 := Lib.hid (HG.out.below hb1 HG.out.lt)
  have HB1 := Lib.hid (hb1.mono (Nat.le_of_lt HG.out.lt))
  have HO1 := Lib.hid (fun k (hk : k < w.heap.size) => hb1.block k hk)
  clear hb1
  go_wp2_with (refine wpList_st rfl 25 (.tmp 30) (.tmp 28) rfl g 2 rfl (.agg (ndC y)) (ndC y) rfl rfl info_node (nd_all _) HG1.out (Nat.le_of_ble_eq_true rfl) (C' := pdC (getF p y 2)) (by kernel_rfl) ?_; intro w9 hst; refine Hid.out ?_)
  refine Lib.hid ?_
  have HE : Hid (GetPost w g (getF p y 2) (.returned (.tuple #[])) w9) := Lib.hid ⟨rfl, hst.1, HB1.out.trans (hst.2.1 g (Nat.le_refl _)), fun k hk hne => (hst.2.2 k hne).trans (HO1.out k hk)⟩
  clear hst
  go_wp2_with fail
  exact bodyPost_end (results_none rfl _ _ _) rfl HE.out
set_option maxHeartbeats 2000000 in
set_option maxRecDepth 100000 in
theorem get_7 (p : Pd) (y : Nat → Int) (g b off c : Nat) (w : World) (hg : PdT 33 w g p) (hr : Row8 w b off (fsz 7) y) (hc : fsz 7 ≤ c) (hcm : c ≤ maxLen) :
    Calls Try.prog 67 #[.pointer (some ⟨g, 0, none⟩), .int .i64 7, .slice (some ⟨b, off, none⟩) (fsz 7) c] w (GetPost w g (getF p y 7)) := by
  rw [show fsz 7 = 7 from rfl] at *
  have HG := Lib.hid hg
  have HK := Lib.hid (getNode_any b off 7 c y w hr (by omega) hc hcm)
  clear hr hg
  go_enter Try.func67, Try.ntmps67
  go_wp2_with fail
  refine HK.out.mono ?_
  rintro e w1 ⟨rfl, hb1⟩
  have HG1 := Lib.hid (HG.out.below hb1 HG.out.lt)
  have HB1 := Lib.hid (hb1.mono (Nat.le_of_lt HG.out.lt))
  have HO1 := Lib.hid (fun k (hk : k < w.heap.size) => hb1.block k hk)
  clear hb1
  go_wp2_with (refine wpList_st rfl 25 (.tmp 61) (.tmp 59) rfl g 12 rfl (.agg (ndC y)) (ndC y) rfl rfl info_node (nd_all _) HG1.out (Nat.le_of_ble_eq_true rfl) (C' := pdC (getF p y 7)) (by kernel_rfl) ?_; intro w9 hst; refine Hid.out ?_)
  refine Lib.hid ?_
  have HE : Hid (GetPost w g (getF p y 7) (.returned (.tuple #[])) w9) := Lib.hid ⟨rfl, hst.1, HB1.out.trans (hst.2.1 g (Nat.le_refl _)), fun k hk hne => (hst.2.2 k hne).trans (HO1.out k hk)⟩
  clear hst
  go_wp2_with fail
  exact bodyPost_end (results_none rfl _ _ _) rfl HE.out
set_option maxHeartbeats 2000000 in
set_option maxRecDepth 100000 in
theorem get_9 (p : Pd) (y : Nat → Int) (g b off c : Nat) (w : World) (hg : PdT 33 w g p) (hr : Row8 w b off (fsz 9) y) (hc : fsz 9 ≤ c) (hcm : c ≤ maxLen) :
    Calls Try.prog 67 #[.pointer (some ⟨g, 0, none⟩), .int .i64 9, .slice (some ⟨b, off, none⟩) (fsz 9) c] w (GetPost w g (getF p y 9)) := by
  rw [show fsz 9 = 8 from rfl] at *
  have HG := Lib.hid hg
  have HK := Lib.hid (getID_any b off c y w hr hc hcm)
  clear hr hg
  go_enter Try.func67, Try.ntmps67
  go_wp2_with fail
  refine HK.out.mono ?_
  rintro e w1 ⟨rfl, hb1⟩
  have HG1 := Lib.hid (HG.out.below hb1 HG.out.lt)
  have HB1 := Lib.hid (hb1.mono (Nat.le_of_lt HG.out.lt))
  have HO1 := Lib.hid (fun k (hk : k < w.heap.size) => hb1.block k hk)
  clear hb1
  go_wp2_with (refine wpList_st rfl 27 (.tmp 76) (.tmp 74) rfl g 20 rfl (.agg (idC y)) (idC y) rfl rfl info_id (id_all _) HG1.out (Nat.le_of_ble_eq_true rfl) (C' := pdC (getF p y 9)) (by kernel_rfl) ?_; intro w9 hst; refine Hid.out ?_)
  refine Lib.hid ?_
  have HE : Hid (GetPost w g (getF p y 9) (.returned (.tuple #[])) w9) := Lib.hid ⟨rfl, hst.1, HB1.out.trans (hst.2.1 g (Nat.le_refl _)), fun k hk hne => (hst.2.2 k hne).trans (HO1.out k hk)⟩
  clear hst
  go_wp2_with fail
  exact bodyPost_end (results_none rfl _ _ _) rfl HE.out
set_option maxHeartbeats 2000000 in
set_option maxRecDepth 100000 in
theorem get_13 (p : Pd) (y : Nat → Int) (g b off c : Nat) (w : World) (hg : PdT 33 w g p) (hr : Row8 w b off (fsz 13) y) (hc : fsz 13 ≤ c) (hcm : c ≤ maxLen) :
    Calls Try.prog 67 #[.pointer (some ⟨g, 0, none⟩), .int .i64 13, .slice (some ⟨b, off, none⟩) (fsz 13) c] w (GetPost w g (getF p y 13)) := by
  rw [show fsz 13 = 8 from rfl] at *
  have HG := Lib.hid hg
  have HK := Lib.hid (getID_any b off c y w hr hc hcm)
  clear hr hg
  go_enter Try.func67, Try.ntmps67
  go_wp2_with fail
  refine HK.out.mono ?_
  rintro e w1 ⟨rfl, hb1⟩
  have HG1 := Lib.hid (HG.out.below hb1 HG.out.lt)
  have HB1 := Lib.hid (hb1.mono (Nat.le_of_lt HG.out.lt))
  have HO1 := Lib.hid (fun k (hk : k < w.heap.size) => hb1.block k hk)
  clear hb1
  go_wp2_with (refine wpList_st rfl 27 (.tmp 99) (.tmp 97) rfl g 30 rfl (.agg (idC y)) (idC y) rfl rfl info_id (id_all _) HG1.out (Nat.le_of_ble_eq_true rfl) (C' := pdC (getF p y 13)) (by kernel_rfl) ?_; intro w9 hst; refine Hid.out ?_)
  refine Lib.hid ?_
  have HE : Hid (GetPost w g (getF p y 13) (.returned (.tuple #[])) w9) := Lib.hid ⟨rfl, hst.1, HB1.out.trans (hst.2.1 g (Nat.le_refl _)), fun k hk hne => (hst.2.2 k hne).trans (HO1.out k hk)⟩
  clear hst
  go_wp2_with fail
  exact bodyPost_end (results_none rfl _ _ _) rfl HE.out
set_option maxHeartbeats 2000000 in
set_option maxRecDepth 100000 in
theorem get_14 (p : Pd) (y : Nat → Int) (g b off c : Nat) (w : World) (hg : PdT 33 w g p) (hr : Row8 w b off (fsz 14) y) (hc : fsz 14 ≤ c) (hcm : c ≤ maxLen) :
    Calls Try.prog 67 #[.pointer (some ⟨g, 0, none⟩), .int .i64 14, .slice (some ⟨b, off, none⟩) (fsz 14) c] w (GetPost w g (getF p y 14)) := by
  rw [show fsz 14 = 8 from rfl] at *
  have HG := Lib.hid hg
  have HK := Lib.hid (getID_any b off c y w hr hc hcm)
  clear hr hg
  go_enter Try.func67, Try.ntmps67
  go_wp2_with fail
  refine HK.out.mono ?_
  rintro e w1 ⟨rfl, hb1⟩
  have HG1 := Lib.hid (HG.out.below hb1 HG.out.lt)
  have HB1 := Lib.hid (hb1.mono (Nat.le_of_lt HG.out.lt))
  have HO1 := Lib.hid (fun k (hk : k < w.heap.size) => hb1.block k hk)
  clear hb1
  go_wp2_with (refine wpList_st rfl 27 (.tmp 106) (.tmp 104) rfl g 38 rfl (.agg (idC y)) (idC y) rfl rfl info_id (id_all _) HG1.out (Nat.le_of_ble_eq_true rfl) (C' := pdC (getF p y 14)) (by kernel_rfl) ?_; intro w9 hst; refine Hid.out ?_)
  refine Lib.hid ?_
  have HE : Hid (GetPost w g (getF p y 14) (.returned (.tuple #[])) w9) := Lib.hid ⟨rfl, hst.1, HB1.out.trans (hst.2.1 g (Nat.le_refl _)), fun k hk hne => (hst.2.2 k hne).trans (HO1.out k hk)⟩
  clear hst
  go_wp2_with fail
  exact bodyPost_end (results_none rfl _ _ _) rfl HE.out
set_option maxHeartbeats 2000000 in
set_option maxRecDepth 100000 in
theorem get_3 (p : Pd) (y : Nat → Int) (g b off c : Nat) (w : World) (hg : PdT 33 w g p) (hr : Row8 w b off (fsz 3) y) (hc : fsz 3 ≤ c) (hcm : c ≤ maxLen) :
    Calls Try.prog 67 #[.pointer (some ⟨g, 0, none⟩), .int .i64 3, .slice (some ⟨b, off, none⟩) (fsz 3) c] w (GetPost w g (getF p y 3)) := by
  rw [show fsz 3 = 2 from rfl] at *
  have HG := Lib.hid hg
  have hzb := numZ_lt y 0 2 hr.2.2
  have HK := Lib.hid (getNumber_any b off 2 c y w hr (by omega) (by omega) hc hcm)
  obtain ⟨N, hN⟩ : ∃ N, (numZ y 0 2).toNat = N := ⟨_, rfl⟩
  have hNb : N ≤ 65535 := by
    have e : (256 : Int) ^ 2 = 65536 := by decide
    omega
  have HW := Lib.hid (wI N hNb)
  have hw := HW.out
  rw [hN] at HK
  have HF : Hid (putMany (pdC p) 9 #[Value.int .i64 (N : Int)].toList = pdC (getF p y 3)) := Lib.hid (by rw [← hN]; kernel_rfl)
  clear hr hg hzb hN
  go_enter Try.func67, Try.ntmps67
  go_wp2_with fail
  refine HK.out.mono ?_
  rintro e w1 ⟨rfl, rfl⟩
  go_wp2_with (refine wpList_st rfl 3 (.tmp 38) (.tmp 36) rfl g 9 rfl (.int .i64 (N : Int)) #[.int .i64 (N : Int)] rfl rfl (by kernel_rfl) (by kernel_rfl) HG.out (Nat.le_of_ble_eq_true rfl) HF.out ?_; intro w9 hst; refine Hid.out ?_)
  refine Lib.hid ?_
  have HE : Hid (GetPost w1 g (getF p y 3) (.returned (.tuple #[])) w9) := Lib.hid ⟨rfl, hst.1, hst.2.1 g (Nat.le_refl _), fun k hk hne => hst.2.2 k hne⟩
  clear hst
  go_wp2_with fail
  exact bodyPost_end (results_none rfl _ _ _) rfl HE.out
set_option maxHeartbeats 2000000 in
set_option maxRecDepth 100000 in
theorem get_8 (p : Pd) (y : Nat → Int) (g b off c : Nat) (w : World) (hg : PdT 33 w g p) (hr : Row8 w b off (fsz 8) y) (hc : fsz 8 ≤ c) (hcm : c ≤ maxLen) :
    Calls Try.prog 67 #[.pointer (some ⟨g, 0, none⟩), .int .i64 8, .slice (some ⟨b, off, none⟩) (fsz 8) c] w (GetPost w g (getF p y 8)) := by
  rw [show fsz 8 = 2 from rfl] at *
  have HG := Lib.hid hg
  have hzb := numZ_lt y 0 2 hr.2.2
  have HK := Lib.hid (getNumber_any b off 2 c y w hr (by omega) (by omega) hc hcm)
  obtain ⟨N, hN⟩ : ∃ N, (numZ y 0 2).toNat = N := ⟨_, rfl⟩
  have hNb : N ≤ 65535 := by
    have e : (256 : Int) ^ 2 = 65536 := by decide
    omega
  have HW := Lib.hid (wI N hNb)
  have hw := HW.out
  rw [hN] at HK
  have HF : Hid (putMany (pdC p) 19 #[Value.int .i64 (N : Int)].toList = pdC (getF p y 8)) := Lib.hid (by rw [← hN]; kernel_rfl)
  clear hr hg hzb hN
  go_enter Try.func67, Try.ntmps67
  go_wp2_with fail
  refine HK.out.mono ?_
  rintro e w1 ⟨rfl, rfl⟩
  go_wp2_with (refine wpList_st rfl 3 (.tmp 69) (.tmp 67) rfl g 19 rfl (.int .i64 (N : Int)) #[.int .i64 (N : Int)] rfl rfl (by kernel_rfl) (by kernel_rfl) HG.out (Nat.le_of_ble_eq_true rfl) HF.out ?_; intro w9 hst; refine Hid.out ?_)
  refine Lib.hid ?_
  have HE : Hid (GetPost w1 g (getF p y 8) (.returned (.tuple #[])) w9) := Lib.hid ⟨rfl, hst.1, hst.2.1 g (Nat.le_refl _), fun k hk hne => hst.2.2 k hne⟩
  clear hst
  go_wp2_with fail
  exact bodyPost_end (results_none rfl _ _ _) rfl HE.out
set_option maxHeartbeats 2000000 in
set_option maxRecDepth 100000 in
theorem get_10 (p : Pd) (y : Nat → Int) (g b off c : Nat) (w : World) (hg : PdT 33 w g p) (hr : Row8 w b off (fsz 10) y) (hc : fsz 10 ≤ c) (hcm : c ≤ maxLen) :
    Calls Try.prog 67 #[.pointer (some ⟨g, 0, none⟩), .int .i64 10, .slice (some ⟨b, off, none⟩) (fsz 10) c] w (GetPost w g (getF p y 10)) := by
  rw [show fsz 10 = 4 from rfl] at *
  have HG := Lib.hid hg
  have hzb := numZ_lt y 0 4 hr.2.2
  have HK := Lib.hid (getNumber_any b off 4 c y w hr (by omega) (by omega) hc hcm)
  obtain ⟨N, hN⟩ : ∃ N, (numZ y 0 4).toNat = N := ⟨_, rfl⟩
  have hNb : N ≤ 4294967295 := by
    have e : (256 : Int) ^ 4 = 4294967296 := by decide
    omega
  have HW := Lib.hid (wU4 N hNb)
  have hw := HW.out
  rw [hN] at HK
  have HF : Hid (putMany (pdC p) 28 #[Value.int .u32 (N : Int)].toList = pdC (getF p y 10)) := Lib.hid (by rw [← hN]; kernel_rfl)
  clear hr hg hzb hN
  go_enter Try.func67, Try.ntmps67
  go_wp2_with fail
  refine HK.out.mono ?_
  rintro e w1 ⟨rfl, rfl⟩
  go_wp2_with (refine wpList_st rfl 28 (.tmp 84) (.tmp 82) rfl g 28 rfl (.int .u32 (N : Int)) #[.int .u32 (N : Int)] rfl rfl (by kernel_rfl) (by kernel_rfl) HG.out (Nat.le_of_ble_eq_true rfl) HF.out ?_; intro w9 hst; refine Hid.out ?_)
  refine Lib.hid ?_
  have HE : Hid (GetPost w1 g (getF p y 10) (.returned (.tuple #[])) w9) := Lib.hid ⟨rfl, hst.1, hst.2.1 g (Nat.le_refl _), fun k hk hne => hst.2.2 k hne⟩
  clear hst
  go_wp2_with fail
  exact bodyPost_end (results_none rfl _ _ _) rfl HE.out
set_option maxHeartbeats 2000000 in
set_option maxRecDepth 100000 in
theorem get_4 (p : Pd) (y : Nat → Int) (g b off c : Nat) (w : World) (hg : PdT 33 w g p) (hr : Row8 w b off (fsz 4) y) (hc : fsz 4 ≤ c) (hcm : c ≤ maxLen) :
    Calls Try.prog 67 #[.pointer (some ⟨g, 0, none⟩), .int .i64 4, .slice (some ⟨b, off, none⟩) (fsz 4) c] w (GetPost w g (getF p y 4)) := by
  rw [show fsz 4 = 2 from rfl] at *
  have HG := Lib.hid hg
  clear hr hg
  go_enter Try.func67, Try.ntmps67
  go_wp2_with fail
  exact bodyPost_end (results_none rfl _ _ _) rfl ⟨rfl, HG.out, Below.refl _ _, fun _ _ _ => rfl⟩
set_option maxHeartbeats 2000000 in
set_option maxRecDepth 100000 in
theorem get_11 (p : Pd) (y : Nat → Int) (g b off c : Nat) (w : World) (hg : PdT 33 w g p) (hr : Row8 w b off (fsz 11) y) (hc : fsz 11 ≤ c) (hcm : c ≤ maxLen) :
    Calls Try.prog 67 #[.pointer (some ⟨g, 0, none⟩), .int .i64 11, .slice (some ⟨b, off, none⟩) (fsz 11) c] w (GetPost w g (getF p y 11)) := by
  rw [show fsz 11 = 2 from rfl] at *
  have HG := Lib.hid hg
  clear hr hg
  go_enter Try.func67, Try.ntmps67
  go_wp2_with fail
  exact bodyPost_end (results_none rfl _ _ _) rfl ⟨rfl, HG.out, Below.refl _ _, fun _ _ _ => rfl⟩
theorem get_any (p : Pd) (y : Nat → Int) (g b off c f : Nat) (hf : f ≤ 14) (w : World) (hg : PdT 33 w g p) (hr : Row8 w b off (fsz f) y) (hc : fsz f ≤ c) (hcm : c ≤ maxLen) :
    Calls Try.prog 67 #[.pointer (some ⟨g, 0, none⟩), .int .i64 (f : Int), .slice (some ⟨b, off, none⟩) (fsz f) c] w (GetPost w g (getF p y f)) := by
  rcases (by omega : f = 0 ∨ f = 1 ∨ f = 2 ∨ f = 3 ∨ f = 4 ∨ f = 5 ∨ f = 6 ∨ f = 7 ∨ f = 8 ∨ f = 9 ∨ f = 10 ∨ f = 11 ∨ f = 12 ∨ f = 13 ∨ f = 14) with rfl | rfl | rfl | rfl | rfl | rfl | rfl | rfl | rfl | rfl | rfl | rfl | rfl | rfl | rfl
  · exact get_0 p y g b off c w hg hr hc hcm
  · exact get_1 p y g b off c w hg hr hc hcm
  · exact get_2 p y g b off c w hg hr hc hcm
  · exact get_3 p y g b off c w hg hr hc hcm
  · exact get_4 p y g b off c w hg hr hc hcm
  · exact get_5 p y g b off c w hg hr hc hcm
  · exact get_6 p y g b off c w hg hr hc hcm
  · exact get_7 p y g b off c w hg hr hc hcm
  · exact get_8 p y g b off c w hg hr hc hcm
  · exact get_9 p y g b off c w hg hr hc hcm
  · exact get_10 p y g b off c w hg hr hc hcm
  · exact get_11 p y g b off c w hg hr hc hcm
  · exact get_12 p y g b off c w hg hr hc hcm
  · exact get_13 p y g b off c w hg hr hc hcm
  · exact get_14 p y g b off c w hg hr hc hcm
end Go.Proofs.Ytfojfdlapekjoaa

/- bytes.Equal and bytes.HasPrefix. Each theorem states its conditions. -/
namespace Go.Proofs.Ytfojfdlapekjoaa
open Go.RowKit
set_option linter.unusedVariables false

def bsL (z : Nat → Int) (n : Nat) : List UInt8 := (List.range n).map fun j => UInt8.ofNat (z j).toNat
def bsS (z : Nat → Int) (n : Nat) : ByteArray := ⟨(bsL z n).toArray⟩
theorem bsL_len (z : Nat → Int) (n : Nat) : (bsL z n).length = n := by simp [bsL]
theorem bsL_at (z : Nat → Int) (hz : ∀ j, 0 ≤ z j ∧ z j ≤ 255) (n j : Nat) (h : j < (bsL z n).length) : (((bsL z n)[j]).toNat : Int) = z j := by
  have := hz j
  simp [bsL]
  omega
theorem conv_row {w : World} {b off n : Nat} {z : Nat → Int} (h : Row8 w b off n z) (c : Nat) : (convert 35 9 (.slice (some ⟨b, off, none⟩) n c)).run Try.prog w = .ok (.string (bsS z n)) w := by
  have := run_convert_bytes_back (P := Try.prog) w 35 9 5 ⟨b, off, none⟩ c (bsL z n) Try.underlying35 Try.underlying5 Try.underlying9 (fun j hj => by
    rw [add_none, bsL_at z h.2.2 n j hj]
    exact h.2.1 j (by rwa [bsL_len] at hj))
  rw [bsL_len] at this
  exact this
theorem bsS_eq {z z' : Nat → Int} {n : Nat} (h : ∀ j, j < n → z j = z' j) : bsS z n = bsS z' n := by
  unfold bsS bsL
  congr 2
  apply List.map_congr_left
  intro j hj
  rw [h j (by simpa using hj)]
theorem bsS_inj {z z' : Nat → Int} {n : Nat} (hz : ∀ j, 0 ≤ z j ∧ z j ≤ 255) (hz' : ∀ j, 0 ≤ z' j ∧ z' j ≤ 255) (h : bsS z n = bsS z' n) : ∀ j, j < n → z j = z' j := by
  intro j hj
  have e : bsL z n = bsL z' n := by
    have := congrArg (fun s : ByteArray => s.data.toList) h
    simpa [bsS] using this
  have h1 := bsL_at z hz n j (by rw [bsL_len]; exact hj)
  have h2 := bsL_at z' hz' n j (by rw [bsL_len]; exact hj)
  rw [← h1, ← h2]
  simp only [e]
/-- the first n bytes are the same -/
def eqB (z z' : Nat → Int) (n : Nat) : Bool := bsL z n == bsL z' n
theorem eqB_list (z z' : Nat → Int) (n : Nat) : ((bsS z n).toList == (bsS z' n).toList) = eqB z z' n := by
  rw [ByteArray.toList_eq, ByteArray.toList_eq]
  rfl
theorem eqB_iff {z z' : Nat → Int} {n : Nat} (hz : ∀ j, 0 ≤ z j ∧ z j ≤ 255) (hz' : ∀ j, 0 ≤ z' j ∧ z' j ≤ 255) : eqB z z' n = true ↔ ∀ j, j < n → z j = z' j := by
  unfold eqB
  rw [beq_iff_eq]
  constructor
  · intro e
    exact bsS_inj hz hz' (by unfold bsS; rw [e])
  · intro h
    have := bsS_eq h
    unfold bsS at this
    have h2 := congrArg (fun s : ByteArray => s.data.toList) this
    simpa using h2
theorem equal_any (b off n c g off' c' : Nat) (z z' : Nat → Int) (r : Bool) (w : World) (h : Row8 w b off n z) (h' : Row8 w g off' n z') (hr : eqB z z' n = r) :
    Calls Try.prog 76 #[.slice (some ⟨b, off, none⟩) n c, .slice (some ⟨g, off', none⟩) n c'] w fun e w' => e = .returned (.bool r) ∧ w = w' := by
  have h1 := conv_row h c
  have h2 := conv_row h' c'
  rw [← eqB_list] at hr
  obtain ⟨s, hs⟩ : ∃ s, bsS z n = s := ⟨_, rfl⟩
  obtain ⟨t, ht⟩ : ∃ t, bsS z' n = t := ⟨_, rfl⟩
  rw [hs] at h1 hr
  rw [ht] at h2 hr
  have HR := Lib.hid hr
  clear h h' hs ht hr
  obtain ⟨q, hq⟩ : ∃ q, (s.toList == t.toList) = q := ⟨_, rfl⟩
  have HQ : Hid (q = r) := Lib.hid (by rw [← hq]; exact HR.out)
  clear HR
  go_enter Try.func76, Try.ntmps76
  go_wp2_with fail
  go_ret
  exact ⟨by rw [← HQ.out]; rfl, rfl⟩
theorem starts_any (b off n c g c' : Nat) (z z' : Nat → Int) (r : Bool) (w : World) (h : Row8 w b off n z) (h' : Row8 w g 0 8 z') (hr : eqB z z' 8 = r) (hn : 8 ≤ n) (hc : n ≤ c) (hcm : c ≤ 9223372036854775807) :
    Calls Try.prog 66 #[.slice (some ⟨b, off, none⟩) n c, .slice (some ⟨g, 0, none⟩) 8 c'] w fun e w' => e = .returned (.bool r) ∧ w = w' := by
  have HE := Lib.hid (equal_any b off 8 c g 0 c' z z' r w (h.cut 8 hn) h' hr)
  clear h h' hr
  go_enter Try.func66, Try.ntmps66
  go_wp2_with fail
  refine HE.out.mono ?_
  rintro e w1 ⟨rfl, rfl⟩
  go_wp2_with fail
  go_ret
  exact ⟨rfl, rfl⟩
end Go.Proofs.Ytfojfdlapekjoaa

/- pdu.readFields reads what stands ahead of the TLVs. Each theorem states its conditions. -/
namespace Go.Proofs.Ytfojfdlapekjoaa
open Go.RowKit
set_option linter.unusedVariables false

theorem alloc_P' (o : Oper) (e : Operand → Value) (ho : o.op = .alloc 33) (W W' : World) (n : Nat) (hn : W.heap.size = n) (hW : W.alloc (.cells (pdC pd0) 33) = W') : (execOp e o).run Try.prog W = .ok (.value (.pointer (some ⟨n, 0, none⟩))) W' := by
  subst hn hW
  exact alloc_P o e ho W
theorem build_0 (o : Oper) (e : Operand → Value) (ho : o.op = .build 33 #[]) (W : World) : (execOp e o).run Try.prog W = .ok (.value (.agg (pdC pd0))) W := by
  unfold execOp
  simp only [ho]
  kernel_rfl
theorem results_rf {fn : Func} {q u v : Tmp} (h : fn.results = #[.cell q 33, .tmp u, .tmp v]) (tmps : Array Value) (W : World) (g : Nat) (p : Pd) (x y : Value)
    (hp : tmps.getD q undef = .pointer (some ⟨g, 0, none⟩)) (hg : PdT 33 W g p) (hx : tmps.getD u undef = x) (hy : tmps.getD v undef = y) : (results fn tmps).run Try.prog W = .ok (.tuple #[.agg (pdC p), x, y]) W := by
  have h1 := run_loadVar_row (P := Try.prog) W g 33 33 (pdC p) (0, 0) _ hg Try.underlying33 rfl info_pdP
  have hp' : (tmps[q]?).getD undef = .pointer (some ⟨g, 0, none⟩) := by simpa using hp
  have hx' : (tmps[u]?).getD undef = x := by simpa using hx
  have hy' : (tmps[v]?).getD undef = y := by simpa using hy
  simp only [results, h]
  simp [hp', hx', hy', asAddr, h1]
/-- nothing but a kind -/
def kdP (k : Int) : Pd := ⟨k, 0, z0, 0, 0, 0, z0, 0, z0, 0, 0, z0, z0, none, 0, 0⟩
/-- what the first i fields are -/
def rdF (q : Nat) (z : Nat → Int) : Nat → Pd
  | 0 => kdP (z 4)
  | i + 1 => getF (rdF q z i) (fun j => z (accN q i + j)) (fAt q i)
def rdP (q : Nat) (z : Nat → Int) : Pd := rdF q z (flC q).length
theorem accN_mono (q i k : Nat) (h : i ≤ k) : accN q i ≤ accN q k := by
  induction k with
  | zero => obtain rfl : i = 0 := by omega
            exact Nat.le_refl _
  | succ k ih =>
    by_cases e : i = k + 1
    · subst e; exact Nat.le_refl _
    · have := ih (by omega); simp only [accN]; omega
theorem accN_hd (q i : Nat) (h : i < (flC q).length) : accN q i + fsz (fAt q i) ≤ hdN q := accN_mono q (i + 1) _ h
/-- the length that is told at field i -/
def toldN (q : Nat) (z : Nat → Int) (i : Nat) : Nat := (numZ (fun j => z (accN q i + j)) 0 2).toNat
/-- the first field that tells another length, or the end -/
def LEndsF (q : Nat) (z : Nat → Int) (n m : Nat) : Prop := m ≤ (flC q).length ∧ (∀ i, i < m → fAt q i = 4 → toldN q z i = n) ∧ (m = (flC q).length ∨ (m < (flC q).length ∧ fAt q m = 4 ∧ toldN q z m ≠ n))
theorem lendsF (q : Nat) (z : Nat → Int) (n : Nat) : ∃ m, LEndsF q z n m := by
  suffices h : ∀ k, k ≤ (flC q).length → ∃ m, m ≤ k ∧ (∀ i, i < m → fAt q i = 4 → toldN q z i = n) ∧ (m = k ∨ (m < k ∧ fAt q m = 4 ∧ toldN q z m ≠ n)) from h _ (Nat.le_refl _)
  intro k
  induction k with
  | zero => exact fun _ => ⟨0, by omega, fun i hi => by omega, .inl rfl⟩
  | succ k ih =>
    intro hk
    obtain ⟨m, h1, h2, h3⟩ := ih (by omega)
    rcases h3 with rfl | ⟨h3, h4, h5⟩
    · by_cases hb : fAt q m = 4 ∧ toldN q z m ≠ n
      · exact ⟨m, by omega, h2, .inr ⟨by omega, hb.1, hb.2⟩⟩
      · refine ⟨m + 1, by omega, fun i hi hf => ?_, .inl rfl⟩
        by_cases e : i = m
        · subst e
          by_cases ht : toldN q z i = n
          · exact ht
          · exact absurd ⟨hf, ht⟩ hb
        · exact h2 i (by omega) hf
    · exact ⟨m, by omega, h2, .inr ⟨by omega, h4, h5⟩⟩
/-- nothing was read -/
def RfNo (w : World) (e : Ending) (w' : World) : Prop := ∃ x A m c, e = .returned (.tuple #[.agg (pdC x), .slice A m c, .bool false]) ∧ Below w.heap.size w w'
theorem ahead_nil (w : World) : Calls Try.prog 33 #[.slice none 0 0] w fun e w' => e = .returned (.int .i64 8) ∧ w = w' := by
  go_enter Try.func33, Try.ntmps33
  go_wp2
  refine wp_loop_rounds 1 ?_
  rw [rounds_succ]
  go_wp2
  go_ret
  exact ⟨rfl, rfl⟩
set_option maxHeartbeats 4000000 in
set_option maxRecDepth 100000 in
theorem rf_short (A : Option Addr) (n c : Nat) (w : World) (h : n < 8) : Calls Try.prog 42 #[.slice A n c] w (RfNo w) := by
  have hn8 : (n : Int) < 8 := by omega
  obtain ⟨W1, hW1⟩ : ∃ W1, w.alloc (.cells (pdC pd0) 33) = W1 := ⟨_, rfl⟩
  obtain ⟨g, hg⟩ : ∃ g, w.heap.size = g := ⟨_, rfl⟩
  have HG1 : Hid (PdT 33 W1 g pd0) := Lib.hid (by rw [← hW1, ← hg]; exact heap_alloc_new w _)
  have HB1 : Hid (Below w.heap.size w W1) := Lib.hid (by rw [← hW1]; exact (bself w).alloc (Nat.le_refl _) _)
  have HW1 := Lib.hid hW1
  have HGG := Lib.hid hg
  clear hW1 hg
  go_enter Try.func42, Try.ntmps42
  go_wp2_with (first
    | (refine wpList_v (op := ⟨some 2, _, _, _, _, _⟩) rfl _ (alloc_P' _ _ rfl w W1 g HGG.out HW1.out) ?_)
    | (refine wpList_v rfl _ (build_0 _ _ rfl _) ?_)
    | (refine wpList_st rfl 33 (.tmp 2) (.tmp 14) rfl g 0 rfl (.agg (pdC pd0)) (pdC pd0) rfl rfl info_pdP (pdC_one _) HG1.out (Nat.le_of_ble_eq_true rfl) (pd_all _ _) ?_; intro w9 hst; refine Hid.out ?_))
  refine Lib.hid ?_
  have HG9 : Hid (PdT 33 w9 g pd0) := Lib.hid hst.1
  have HB9 : Hid (Below w.heap.size w w9) := Lib.hid (HB1.out.trans (hst.2.1 _ (by rw [HGG.out]; exact Nat.le_refl _)))
  clear hst
  go_wp2_with fail
  refine bodyPost_ret (results_rf rfl _ w9 g _ _ _ rfl HG9.out rfl rfl) rfl ⟨_, _, _, _, rfl, HB9.out⟩
set_option maxHeartbeats 4000000 in
set_option maxRecDepth 100000 in
theorem rf_kind (b off n c : Nat) (z : Nat → Int) (w : World) (hr : Row8 w b off n z) (hc : n ≤ c) (hcm : c ≤ maxLen) (h : 8 ≤ n) (hk : cls (z 4) = 5) : Calls Try.prog 42 #[.slice (some ⟨b, off, none⟩) n c] w (RfNo w) := by
  have hbw := hr.1
  have hzz := hr.2.2
  have HCM := Lib.hid hcm
  have hn8 : (8 : Int) ≤ (n : Int) := by omega
  have HF := Lib.hid (fields_none (z 4) hk)
  clear hk
  unfold maxLen at hcm
  obtain ⟨W1, hW1⟩ : ∃ W1, w.alloc (.cells (pdC pd0) 33) = W1 := ⟨_, rfl⟩
  obtain ⟨g, hg⟩ : ∃ g, w.heap.size = g := ⟨_, rfl⟩
  have HG1 : Hid (PdT 33 W1 g pd0) := Lib.hid (by rw [← hW1, ← hg]; exact heap_alloc_new w _)
  have HB1 : Hid (Below w.heap.size w W1) := Lib.hid (by rw [← hW1]; exact (bself w).alloc (Nat.le_refl _) _)
  have HR1 := Lib.hid (hr.below HB1.out hbw)
  have HW1 := Lib.hid hW1
  have HGG := Lib.hid hg
  rw [hg] at hbw
  clear hr hW1 hg
  go_enter Try.func42, Try.ntmps42
  have c4 : W1.cell? ⟨b, off + 4, none⟩ = some (.int .u8 (z 4)) := HR1.out.2.1 4 (by omega)
  go_wp2_with (first
    | (refine wpList_v (op := ⟨some 2, _, _, _, _, _⟩) rfl _ (alloc_P' _ _ rfl w W1 g HGG.out HW1.out) ?_)
    | (refine wpList_st rfl 5 (.tmp 18) (.tmp 17) rfl g 0 rfl (.int .u8 (z 4)) #[.int .u8 (z 4)] rfl rfl (by kernel_rfl) (by kernel_rfl) HG1.out (Nat.le_of_ble_eq_true rfl) (C' := pdC (kdP (z 4))) (by kernel_rfl) ?_; intro w2 hst2; refine Hid.out ?_))
  refine Lib.hid ?_
  have HG2 : Hid (PdT 33 w2 g (kdP (z 4))) := Lib.hid hst2.1
  have HB2 : Hid (Below w.heap.size w w2) := Lib.hid (HB1.out.trans (hst2.2.1 _ (by rw [HGG.out]; exact Nat.le_refl _)))
  have HR2 := Lib.hid (HR1.out.below (hst2.2.1 g (Nat.le_refl _)) hbw)
  have c0 : w2.cell? ⟨g, 0, none⟩ = some (.int .u8 (z 4)) := (HG2.out.cell 0).trans rfl
  clear hst2 HG1 HB1 HR1 c4
  go_wp2_with fail
  refine (HF.out _).mono ?_
  rintro e w3 ⟨rfl, rfl⟩
  go_wp2_with fail
  refine (ahead_nil _).mono ?_
  rintro e w3 ⟨rfl, rfl⟩
  go_wp2_with (first
    | (refine wpList_v rfl _ (build_0 _ _ rfl _) ?_)
    | (refine wpList_st rfl 33 (.tmp 2) (.tmp 42) rfl g 0 rfl (.agg (pdC pd0)) (pdC pd0) rfl rfl info_pdP (pdC_one _) HG2.out (Nat.le_of_ble_eq_true rfl) (pd_all _ _) ?_; intro w9 hst; refine Hid.out ?_))
  refine Lib.hid ?_
  have HG9 : Hid (PdT 33 w9 g pd0) := Lib.hid hst.1
  have HB9 : Hid (Below w.heap.size w w9) := Lib.hid (HB2.out.trans (hst.2.1 _ (by rw [HGG.out]; exact Nat.le_refl _)))
  clear hst
  go_wp2_with fail
  refine bodyPost_ret (results_rf rfl _ w9 g _ _ _ rfl HG9.out rfl rfl) rfl ⟨_, _, _, _, rfl, HB9.out⟩
set_option maxHeartbeats 4000000 in
set_option maxRecDepth 100000 in
theorem rf_head (b off n c : Nat) (z : Nat → Int) (w : World) (hr : Row8 w b off n z) (hc : n ≤ c) (hcm : c ≤ maxLen) (h : 8 ≤ n) (q : Nat) (hk : cls (z 4) = q) (hq : q ≤ 4) (hh : n < hdN q) : Calls Try.prog 42 #[.slice (some ⟨b, off, none⟩) n c] w (RfNo w) := by
  have hbw := hr.1
  have hzz := hr.2.2
  have HCM := Lib.hid hcm
  have hn8 : (8 : Int) ≤ (n : Int) := by omega
  have HF := Lib.hid (fields_any (z 4) q hk hq)
  have hlen := fl_len q hq
  have hhd := hdN_bd q hq
  obtain ⟨k1, hk1⟩ : ∃ k1, (flC q).length = k1 := ⟨_, rfl⟩
  obtain ⟨H, hH⟩ : ∃ H, hdN q = H := ⟨_, rfl⟩
  rw [hk1] at hlen HF
  rw [hH] at hhd
  have HN := Lib.hid hk1
  have HH := Lib.hid hH
  have HK := Lib.hid hk
  have HQ := Lib.hid hq
  have hn0 : ((k1 : Int) == 0) = false := by simp; omega
  rw [hH] at hh
  have hhI : (n : Int) < (H : Int) := by omega
  clear hk hq hk1 hH
  unfold maxLen at hcm
  obtain ⟨W1, hW1⟩ : ∃ W1, w.alloc (.cells (pdC pd0) 33) = W1 := ⟨_, rfl⟩
  obtain ⟨g, hg⟩ : ∃ g, w.heap.size = g := ⟨_, rfl⟩
  have HG1 : Hid (PdT 33 W1 g pd0) := Lib.hid (by rw [← hW1, ← hg]; exact heap_alloc_new w _)
  have HB1 : Hid (Below w.heap.size w W1) := Lib.hid (by rw [← hW1]; exact (bself w).alloc (Nat.le_refl _) _)
  have HR1 := Lib.hid (hr.below HB1.out hbw)
  have HW1 := Lib.hid hW1
  have HGG := Lib.hid hg
  rw [hg] at hbw
  clear hr hW1 hg
  go_enter Try.func42, Try.ntmps42
  have c4 : W1.cell? ⟨b, off + 4, none⟩ = some (.int .u8 (z 4)) := HR1.out.2.1 4 (by omega)
  go_wp2_with (first
    | (refine wpList_v (op := ⟨some 2, _, _, _, _, _⟩) rfl _ (alloc_P' _ _ rfl w W1 g HGG.out HW1.out) ?_)
    | (refine wpList_st rfl 5 (.tmp 18) (.tmp 17) rfl g 0 rfl (.int .u8 (z 4)) #[.int .u8 (z 4)] rfl rfl (by kernel_rfl) (by kernel_rfl) HG1.out (Nat.le_of_ble_eq_true rfl) (C' := pdC (kdP (z 4))) (by kernel_rfl) ?_; intro w2 hst2; refine Hid.out ?_))
  refine Lib.hid ?_
  have HG2 : Hid (PdT 33 w2 g (kdP (z 4))) := Lib.hid hst2.1
  have HB2 : Hid (Below w.heap.size w w2) := Lib.hid (HB1.out.trans (hst2.2.1 _ (by rw [HGG.out]; exact Nat.le_refl _)))
  have HR2 := Lib.hid (HR1.out.below (hst2.2.1 g (Nat.le_refl _)) hbw)
  have c0 : w2.cell? ⟨g, 0, none⟩ = some (.int .u8 (z 4)) := (HG2.out.cell 0).trans rfl
  clear hst2 HG1 HB1 HR1 c4
  go_wp2_with fail
  refine (HF.out _).mono ?_
  rintro e w3 ⟨rfl, hf3, hb3⟩
  have HFl3 : Hid (FlAt w3 w2.heap.size q) := Lib.hid hf3
  have HG3 := Lib.hid (HG2.out.below hb3 HG2.out.lt)
  have HR3 := Lib.hid (HR2.out.below hb3 HR2.out.1)
  have HB3 := Lib.hid (HB2.out.trans (hb3.mono HB2.out.size))
  have hgg : g < w2.heap.size := HG2.out.lt
  obtain ⟨g1, hg1⟩ : ∃ g1, w2.heap.size = g1 := ⟨_, rfl⟩
  rw [hg1] at HFl3 hgg ⊢
  clear hf3 hb3 hg1 c0
  have HAH := Lib.hid (ahead_any g1 q HQ.out w3 HFl3.out)
  rw [HN.out, HH.out] at HAH
  go_wp2_with fail
  refine HAH.out.mono ?_
  rintro e w4 ⟨rfl, rfl⟩
  go_wp2_with (first
    | (refine wpList_v rfl _ (build_0 _ _ rfl _) ?_)
    | (refine wpList_st rfl 33 (.tmp 2) (.tmp 42) rfl g 0 rfl (.agg (pdC pd0)) (pdC pd0) rfl rfl info_pdP (pdC_one _) HG3.out (Nat.le_of_ble_eq_true rfl) (pd_all _ _) ?_; intro w9 hst; refine Hid.out ?_))
  refine Lib.hid ?_
  have HG9 : Hid (PdT 33 w9 g pd0) := Lib.hid hst.1
  have HB9 : Hid (Below w.heap.size w w9) := Lib.hid (HB3.out.trans (hst.2.1 _ (by rw [HGG.out]; exact Nat.le_refl _)))
  clear hst
  go_wp2_with fail
  refine bodyPost_ret (results_rf rfl _ w9 g _ _ _ rfl HG9.out rfl rfl) rfl ⟨_, _, _, _, rfl, HB9.out⟩
set_option maxHeartbeats 4000000 in
set_option maxRecDepth 100000 in
theorem rf_starts (b off n c : Nat) (z : Nat → Int) (w : World) (hr : Row8 w b off n z) (hc : n ≤ c) (hcm : c ≤ maxLen) (h : 8 ≤ n) (q : Nat) (hk : cls (z 4) = q) (hq : q ≤ 4) (hh : hdN q ≤ n) (hs : eqB z (headZ (z 4) (hdN q)) 8 = false) : Calls Try.prog 42 #[.slice (some ⟨b, off, none⟩) n c] w (RfNo w) := by
  have hbw := hr.1
  have hzz := hr.2.2
  have HCM := Lib.hid hcm
  have hn8 : (8 : Int) ≤ (n : Int) := by omega
  have HF := Lib.hid (fields_any (z 4) q hk hq)
  have hlen := fl_len q hq
  have hhd := hdN_bd q hq
  obtain ⟨k1, hk1⟩ : ∃ k1, (flC q).length = k1 := ⟨_, rfl⟩
  obtain ⟨H, hH⟩ : ∃ H, hdN q = H := ⟨_, rfl⟩
  rw [hk1] at hlen HF
  rw [hH] at hhd
  have HN := Lib.hid hk1
  have HH := Lib.hid hH
  have HK := Lib.hid hk
  have HQ := Lib.hid hq
  have hn0 : ((k1 : Int) == 0) = false := by simp; omega
  rw [hH] at hh hs
  have hhI : (H : Int) ≤ (n : Int) := by omega
  have HS := Lib.hid hs
  clear hk hq hk1 hH hs
  unfold maxLen at hcm
  obtain ⟨W1, hW1⟩ : ∃ W1, w.alloc (.cells (pdC pd0) 33) = W1 := ⟨_, rfl⟩
  obtain ⟨g, hg⟩ : ∃ g, w.heap.size = g := ⟨_, rfl⟩
  have HG1 : Hid (PdT 33 W1 g pd0) := Lib.hid (by rw [← hW1, ← hg]; exact heap_alloc_new w _)
  have HB1 : Hid (Below w.heap.size w W1) := Lib.hid (by rw [← hW1]; exact (bself w).alloc (Nat.le_refl _) _)
  have HR1 := Lib.hid (hr.below HB1.out hbw)
  have HW1 := Lib.hid hW1
  have HGG := Lib.hid hg
  rw [hg] at hbw
  clear hr hW1 hg
  go_enter Try.func42, Try.ntmps42
  have c4 : W1.cell? ⟨b, off + 4, none⟩ = some (.int .u8 (z 4)) := HR1.out.2.1 4 (by omega)
  go_wp2_with (first
    | (refine wpList_v (op := ⟨some 2, _, _, _, _, _⟩) rfl _ (alloc_P' _ _ rfl w W1 g HGG.out HW1.out) ?_)
    | (refine wpList_st rfl 5 (.tmp 18) (.tmp 17) rfl g 0 rfl (.int .u8 (z 4)) #[.int .u8 (z 4)] rfl rfl (by kernel_rfl) (by kernel_rfl) HG1.out (Nat.le_of_ble_eq_true rfl) (C' := pdC (kdP (z 4))) (by kernel_rfl) ?_; intro w2 hst2; refine Hid.out ?_))
  refine Lib.hid ?_
  have HG2 : Hid (PdT 33 w2 g (kdP (z 4))) := Lib.hid hst2.1
  have HB2 : Hid (Below w.heap.size w w2) := Lib.hid (HB1.out.trans (hst2.2.1 _ (by rw [HGG.out]; exact Nat.le_refl _)))
  have HR2 := Lib.hid (HR1.out.below (hst2.2.1 g (Nat.le_refl _)) hbw)
  have c0 : w2.cell? ⟨g, 0, none⟩ = some (.int .u8 (z 4)) := (HG2.out.cell 0).trans rfl
  clear hst2 HG1 HB1 HR1 c4
  go_wp2_with fail
  refine (HF.out _).mono ?_
  rintro e w3 ⟨rfl, hf3, hb3⟩
  have HFl3 : Hid (FlAt w3 w2.heap.size q) := Lib.hid hf3
  have HG3 := Lib.hid (HG2.out.below hb3 HG2.out.lt)
  have HR3 := Lib.hid (HR2.out.below hb3 HR2.out.1)
  have HB3 := Lib.hid (HB2.out.trans (hb3.mono HB2.out.size))
  have hgg : g < w2.heap.size := HG2.out.lt
  obtain ⟨g1, hg1⟩ : ∃ g1, w2.heap.size = g1 := ⟨_, rfl⟩
  rw [hg1] at HFl3 hgg ⊢
  clear hf3 hb3 hg1 c0
  have HAH := Lib.hid (ahead_any g1 q HQ.out w3 HFl3.out)
  rw [HN.out, HH.out] at HAH
  go_wp2_with fail
  refine HAH.out.mono ?_
  rintro e w4 ⟨rfl, rfl⟩
  have c0 : w3.cell? ⟨g, 0, none⟩ = some (.int .u8 (z 4)) := (HG3.out.cell 0).trans rfl
  have HHD := Lib.hid (head_any (z 4) H (hzz 4) (by omega))
  go_wp2_with fail
  refine (HHD.out _).mono ?_
  rintro e w5 ⟨rfl, ho5, hb5⟩
  have HG5 := Lib.hid (HG3.out.below hb5 HG3.out.lt)
  have HR5 := Lib.hid (HR3.out.below hb5 HR3.out.1)
  have HFl5 := Lib.hid (HFl3.out.below hb5)
  have HB5 := Lib.hid (HB3.out.trans (hb5.mono HB3.out.size))
  have HP := Lib.hid (starts_any b off n c w3.heap.size 8 z (headZ (z 4) H) _ w5 HR5.out ho5.row HS.out (by omega) hc hcm)
  have hg15 : g1 < w5.heap.size := (Array.getElem?_eq_some_iff.1 HFl5.out).1
  clear ho5 hb5 c0
  go_wp2_with fail
  refine HP.out.mono ?_
  rintro e w6 ⟨rfl, rfl⟩
  go_wp2_with (first
    | (refine wpList_v rfl _ (build_0 _ _ rfl _) ?_)
    | (refine wpList_st rfl 33 (.tmp 2) (.tmp 42) rfl g 0 rfl (.agg (pdC pd0)) (pdC pd0) rfl rfl info_pdP (pdC_one _) HG5.out (Nat.le_of_ble_eq_true rfl) (pd_all _ _) ?_; intro w9 hst; refine Hid.out ?_))
  refine Lib.hid ?_
  have HG9 : Hid (PdT 33 w9 g pd0) := Lib.hid hst.1
  have HB9 : Hid (Below w.heap.size w w9) := Lib.hid (HB5.out.trans (hst.2.1 _ (by rw [HGG.out]; exact Nat.le_refl _)))
  clear hst
  go_wp2_with fail
  refine bodyPost_ret (results_rf rfl _ w9 g _ _ _ rfl HG9.out rfl rfl) rfl ⟨_, _, _, _, rfl, HB9.out⟩
end Go.Proofs.Ytfojfdlapekjoaa

/- pdu.readFields: the fields. Each theorem states its conditions. -/
namespace Go.Proofs.Ytfojfdlapekjoaa
open Go.RowKit
set_option linter.unusedVariables false

theorem run_from (W : World) (b off n c l : Nat) (h1 : l ≤ n) (h2 : n ≤ c) (hcm : c ≤ 9223372036854775807) :
    (Instr.sliceAt 35 (.slice (some ⟨b, off, none⟩) n c) (some (.int .i64 (l : Int))) none none).run Try.prog W = .ok (.slice (if c = l then some ⟨b, off, none⟩ else some ⟨b, off + l, none⟩) (n - l) (c - l)) W := by
  have hu := run_underlying (w := W) Try.underlying35
  obtain ⟨i0, hi, hz0, hz1, hz2⟩ := info_parts info_u8
  have g2 : (0 : Int) ≤ (l : Int) ∧ (l : Int) ≤ (n : Int) := by omega
  by_cases hc : c = l
  · simp [Instr.sliceAt, Instr.slice, Instr.sliceBounds, Instr.sliceBound, hu, go_sem, g2, Addr.add, hc]
    intro h3; omega
  · simp [Instr.sliceAt, Instr.slice, Instr.sliceBounds, Instr.sliceBound, hu, go_sem, g2, Addr.add, hc]
    rw [if_pos h1]
    by_cases h0 : l = 0
    · subst h0; simp
    · simp [h0]
theorem slice_op (o : Oper) (e : Operand → Value) (x y : Operand) (ho : o.op = .slice 35 x (some y) none none) (vx vy : Value) (hx : e x = vx) (hy : e y = vy) (v : Value) {W : World} (h : (Instr.sliceAt 35 vx (some vy) none none).run Try.prog W = .ok v W) :
    (execOp e o).run Try.prog W = .ok (.value v) W := by
  unfold execOp
  simp [ho, hx, hy, h, Result.andThen]
/-- the fields were read -/
def RfOk (w : World) (b off n c q : Nat) (z : Nat → Int) (r : Bool) (e : Ending) (w' : World) : Prop :=
  e = .returned (.tuple #[.agg (pdC (rdP q z)), .slice (if c = hdN q then some ⟨b, off, none⟩ else some ⟨b, off + hdN q, none⟩) (n - hdN q) (c - hdN q), .bool r]) ∧ Below w.heap.size w w'
set_option maxHeartbeats 4000000 in
set_option maxRecDepth 100000 in
theorem rf_ok (b off n c : Nat) (z : Nat → Int) (w : World) (hr : Row8 w b off n z) (hc : n ≤ c) (hcm : c ≤ maxLen) (h : 8 ≤ n) (q : Nat) (hk : cls (z 4) = q) (hq : q ≤ 4) (hh : hdN q ≤ n) (hn2 : n ≤ 1492) (hs : eqB z (headZ (z 4) (hdN q)) 8 = true) (m : Nat) (hm : LEndsF q z n m) (hend : m = (flC q).length) (r : Bool) (hft : fitP (rdP q z) q = r) : Calls Try.prog 42 #[.slice (some ⟨b, off, none⟩) n c] w (RfOk w b off n c q z r) := by
  have hbw := hr.1
  have hzz := hr.2.2
  have HCM := Lib.hid hcm
  have hn8 : (8 : Int) ≤ (n : Int) := by omega
  have HF := Lib.hid (fields_any (z 4) q hk hq)
  have hlen := fl_len q hq
  have hhd := hdN_bd q hq
  obtain ⟨k1, hk1⟩ : ∃ k1, (flC q).length = k1 := ⟨_, rfl⟩
  obtain ⟨H, hH⟩ : ∃ H, hdN q = H := ⟨_, rfl⟩
  rw [hk1] at hlen HF
  rw [hH] at hhd
  have HN := Lib.hid hk1
  have HH := Lib.hid hH
  have HK := Lib.hid hk
  have HQ := Lib.hid hq
  have hn0 : ((k1 : Int) == 0) = false := by simp; omega
  have HM := Lib.hid hm
  have hmk := hm.1
  rw [hk1] at hmk
  rw [hH] at hh hs
  have hhI : (H : Int) ≤ (n : Int) := by omega
  have HS := Lib.hid hs
  have hd8 : decide ((n : Int) < 8) = false := decide_eq_false (by omega)
  have hdH : decide (n < H) = false := decide_eq_false (by omega)
  have HFT := Lib.hid hft
  clear hft
  rw [hk1] at hend
  clear hk hq hk1 hH hs hm
  unfold maxLen at hcm
  obtain ⟨W1, hW1⟩ : ∃ W1, w.alloc (.cells (pdC pd0) 33) = W1 := ⟨_, rfl⟩
  obtain ⟨g, hg⟩ : ∃ g, w.heap.size = g := ⟨_, rfl⟩
  have HG1 : Hid (PdT 33 W1 g pd0) := Lib.hid (by rw [← hW1, ← hg]; exact heap_alloc_new w _)
  have HB1 : Hid (Below w.heap.size w W1) := Lib.hid (by rw [← hW1]; exact (bself w).alloc (Nat.le_refl _) _)
  have HR1 := Lib.hid (hr.below HB1.out hbw)
  have HW1 := Lib.hid hW1
  have HGG := Lib.hid hg
  rw [hg] at hbw
  clear hr hW1 hg
  go_enter Try.func42, Try.ntmps42
  have c4 : W1.cell? ⟨b, off + 4, none⟩ = some (.int .u8 (z 4)) := HR1.out.2.1 4 (by omega)
  go_wp2_with (first
    | (refine wpList_v (op := ⟨some 2, _, _, _, _, _⟩) rfl _ (alloc_P' _ _ rfl w W1 g HGG.out HW1.out) ?_)
    | (refine wpList_st rfl 5 (.tmp 18) (.tmp 17) rfl g 0 rfl (.int .u8 (z 4)) #[.int .u8 (z 4)] rfl rfl (by kernel_rfl) (by kernel_rfl) HG1.out (Nat.le_of_ble_eq_true rfl) (C' := pdC (kdP (z 4))) (by kernel_rfl) ?_; intro w2 hst2; refine Hid.out ?_))
  refine Lib.hid ?_
  have HG2 : Hid (PdT 33 w2 g (kdP (z 4))) := Lib.hid hst2.1
  have HB2 : Hid (Below w.heap.size w w2) := Lib.hid (HB1.out.trans (hst2.2.1 _ (by rw [HGG.out]; exact Nat.le_refl _)))
  have HR2 := Lib.hid (HR1.out.below (hst2.2.1 g (Nat.le_refl _)) hbw)
  have c0 : w2.cell? ⟨g, 0, none⟩ = some (.int .u8 (z 4)) := (HG2.out.cell 0).trans rfl
  clear hst2 HG1 HB1 HR1 c4
  go_wp2_with fail
  refine (HF.out _).mono ?_
  rintro e w3 ⟨rfl, hf3, hb3⟩
  have HFl3 : Hid (FlAt w3 w2.heap.size q) := Lib.hid hf3
  have HG3 := Lib.hid (HG2.out.below hb3 HG2.out.lt)
  have HR3 := Lib.hid (HR2.out.below hb3 HR2.out.1)
  have HB3 := Lib.hid (HB2.out.trans (hb3.mono HB2.out.size))
  have hgg : g < w2.heap.size := HG2.out.lt
  obtain ⟨g1, hg1⟩ : ∃ g1, w2.heap.size = g1 := ⟨_, rfl⟩
  rw [hg1] at HFl3 hgg ⊢
  clear hf3 hb3 hg1 c0
  have HAH := Lib.hid (ahead_any g1 q HQ.out w3 HFl3.out)
  rw [HN.out, HH.out] at HAH
  go_wp2_with fail
  refine HAH.out.mono ?_
  rintro e w4 ⟨rfl, rfl⟩
  have c0 : w3.cell? ⟨g, 0, none⟩ = some (.int .u8 (z 4)) := (HG3.out.cell 0).trans rfl
  have HHD := Lib.hid (head_any (z 4) H (hzz 4) (by omega))
  go_wp2_with fail
  refine (HHD.out _).mono ?_
  rintro e w5 ⟨rfl, ho5, hb5⟩
  have HG5 := Lib.hid (HG3.out.below hb5 HG3.out.lt)
  have HR5 := Lib.hid (HR3.out.below hb5 HR3.out.1)
  have HFl5 := Lib.hid (HFl3.out.below hb5)
  have HB5 := Lib.hid (HB3.out.trans (hb5.mono HB3.out.size))
  have HP := Lib.hid (starts_any b off n c w3.heap.size 8 z (headZ (z 4) H) _ w5 HR5.out ho5.row HS.out (by omega) hc hcm)
  have hg15 : g1 < w5.heap.size := (Array.getElem?_eq_some_iff.1 HFl5.out).1
  clear ho5 hb5 c0
  go_wp2_with fail
  refine HP.out.mono ?_
  rintro e w6 ⟨rfl, rfl⟩
  go_wp2_with fail
  go_loopw [7, 45] (fun at_ i wr => ∃ k : Nat, k ≤ m ∧ i = .int .i64 k ∧ at_ = .int .i64 (accN q k : Nat) ∧ Hid (PdT 33 wr g (rdF q z k)) ∧ Hid (FlAt wr g1 q) ∧ Hid (Row8 wr b off n z) ∧ Hid (Below w.heap.size w wr)) (fun _ i _ => k1 - (intOf i).toNat)
  case atStart => exact ⟨0, Nat.zero_le _, rfl, rfl, HG5, HFl5, HR5, HB5⟩
  case round =>
    clear HG5 HFl5 HR5 HB5 HG3 HFl3 HR3 HB3 HG2 HR2 HB2
    obtain ⟨k, hk, rfl, rfl, HG, HFl, HR, HB⟩ := hrel
    by_cases hlt : k < k1
    · have ci := HFl.out.cell (i := k) (by rw [HN.out]; exact hlt)
      have hf := fAt_le q k HQ.out
      have hah := accN_hd q k (by rw [HN.out]; exact hlt)
      have hfz := fsz_bd (fAt q k)
      have hab := accN_bd q k
      have HA1 : Hid (accN q (k + 1) = accN q k + fsz (fAt q k)) := Lib.hid rfl
      have HT : Hid (k < m → fAt q k = 4 → (numZ (fun j => z (accN q k + j)) 0 2).toNat = n) := Lib.hid (fun h1 h2 => HM.out.2.1 k h1 h2)
      have HT2 : Hid (k = m → fAt q k = 4 ∧ (numZ (fun j => z (accN q k + j)) 0 2).toNat ≠ n) := Lib.hid (fun e => by
        rcases HM.out.2.2 with h | h
        · rw [HN.out] at h; omega
        · rw [e]; exact h.2)
      have HRD : Hid (rdF q z (k + 1) = getF (rdF q z k) (fun j => z (accN q k + j)) (fAt q k)) := Lib.hid rfl
      rw [HH.out] at hah
      obtain ⟨f, hf'⟩ : ∃ f, fAt q k = f := ⟨_, rfl⟩
      rw [hf'] at ci hf hah hfz HA1 HT HT2 HRD
      obtain ⟨an, han⟩ : ∃ an, accN q k = an := ⟨_, rfl⟩
      rw [han] at hah hab HA1 HT HT2 HRD ⊢
      clear hf' han
      have HSZ := Lib.hid (size_any f hf)
      have HRow := Lib.hid (HR.out.shift an (fsz f) (by omega))
      have HGet := Lib.hid (get_any (rdF q z k) (fun j => z (an + j)) g b (off + an) (c - an) f hf wr HG.out HRow.out (by omega) (by have := HCM.out; omega))
      have hfzf : fsz f ≤ 8 := hfz.2
      obtain ⟨fs, hfs⟩ : ∃ fs, fsz f = fs := ⟨_, rfl⟩
      have HFS := Lib.hid hfs
      rw [hfs] at hah hfz HA1 HSZ HRow HGet hfzf
      clear hfs
      have e1 : ¬ c = an := by omega
      have e2 : ¬ (c : Int) < (an : Int) := by omega
      go_wp2_with fail
      refine (HSZ.out _).mono ?_
      rintro e w7 ⟨rfl, rfl⟩
      by_cases hkm : k < m
      · have hg1l : g1 < wr.heap.size := (Array.getElem?_eq_some_iff.1 HFl.out).1
        by_cases hf4 : f = 4
        · have hnum := HT.out hkm hf4
          obtain rfl : fs = 2 := by rw [← HFS.out, hf4]; rfl
          have HGN := Lib.hid (getNumber_any b (off + an) 2 (c - an) (fun j => z (an + j)) wr HRow.out (by omega) (by omega) (by omega) (by have := HCM.out; omega))
          rw [hnum] at HGN
          have h4 : ((f : Int) == 4) = true := by simp; omega
          have hw := wrapU n (by omega)
          clear hnum hf4
          go_wp2_with fail
          simp only [Nat.add_sub_cancel_left]
          refine HGN.out.mono ?_
          rintro e w7 ⟨rfl, rfl⟩
          go_wp2_with fail
          refine HGet.out.mono ?_
          rintro e w8 ⟨rfl, hg8, hb8, ho8⟩
          have HG8 : Hid (PdT 33 w8 g (rdF q z (k + 1))) := Lib.hid (by rw [HRD.out]; exact hg8)
          have HFl8 : Hid (FlAt w8 g1 q) := Lib.hid ((ho8 g1 hg1l (by omega)).trans HFl.out)
          have HR8 := Lib.hid (HR.out.below hb8 hbw)
          have HB8 : Hid (Below w.heap.size w w8) := Lib.hid (HB.out.trans (by rw [HGG.out]; exact hb8))
          clear hg8 hb8 ho8
          go_wp2_with fail
          go_roundw
          case rel => exact ⟨k + 1, by omega, by go_num, by rw [HA1.out]; go_num, HG8, HFl8, HR8, HB8⟩
          case measure => simp only [intOf]; omega
        · have h4 : ((f : Int) == 4) = false := by simp; omega
          clear hf4
          go_wp2_with fail
          simp only [Nat.add_sub_cancel_left]
          refine HGet.out.mono ?_
          rintro e w8 ⟨rfl, hg8, hb8, ho8⟩
          have HG8 : Hid (PdT 33 w8 g (rdF q z (k + 1))) := Lib.hid (by rw [HRD.out]; exact hg8)
          have HFl8 : Hid (FlAt w8 g1 q) := Lib.hid ((ho8 g1 hg1l (by omega)).trans HFl.out)
          have HR8 := Lib.hid (HR.out.below hb8 hbw)
          have HB8 : Hid (Below w.heap.size w w8) := Lib.hid (HB.out.trans (by rw [HGG.out]; exact hb8))
          clear hg8 hb8 ho8
          go_wp2_with fail
          go_roundw
          case rel => exact ⟨k + 1, by omega, by go_num, by rw [HA1.out]; go_num, HG8, HFl8, HR8, HB8⟩
          case measure => simp only [intOf]; omega
      · exfalso; omega
    · obtain rfl : k = k1 := by omega
      have HGF : Hid (PdT 33 wr g (rdP q z)) := Lib.hid (by unfold rdP; rw [HN.out]; exact HG.out)
      have HAL := Lib.hid (allFit_any (rdP q z) g g1 q HQ.out wr.drew HGF.out HFl.out)
      rw [HN.out, HFT.out] at HAL
      have eH1 : ¬ (n : Int) < (H : Int) := by omega
      have eH2 : (H : Int) ≤ (c : Int) := by omega
      have HRUN := Lib.hid (fun W => run_from W b off n c H (by omega) hc hcm)
      have HHH2 : Hid (hdN q = H) := HH
      obtain ⟨A', hA'⟩ : ∃ A' : Option Addr, (if c = H then some ⟨b, off, none⟩ else some ⟨b, off + H, none⟩) = A' := ⟨_, rfl⟩
      rw [hA'] at HRUN
      have HA' := Lib.hid hA'
      clear hA' HG
      obtain ⟨x, hx⟩ : ∃ x, rdP q z = x := ⟨_, rfl⟩
      rw [hx] at HGF
      have HXX := Lib.hid hx
      clear hx
      go_wp2_with fail
      refine wp_region_held_drew (S := fun w' => PdT 33 w' g x) (by kernel_rfl) HGF.out (fun hS0 => ?_)
      refine takeL (i := 0) (some 75) 33 (.tmp 2) g 0 (pdC x) _ rfl rfl (by kernel_rfl) (by kernel_rfl) (by kernel_rfl) (fun _ _ _ h => h) (by rfl) rfl rfl (fun w' hS => hS.all) Try.underlying33 rfl info_pdP hS0 ?_
      simp only [Act.put, List.setIfInBounds_toArray, List.set_cons_zero, List.set_cons_succ]
      refine takeY (i := 1) (some 76) (v := .slice (some ⟨b, off, none⟩) n c) rfl rfl (by kernel_rfl) (by kernel_rfl) (by kernel_rfl) (fun _ _ _ h => h) (by rfl) (fun w' hS => by go_simp) hS0 ?_
      simp only [Act.put, List.setIfInBounds_toArray, List.set_cons_zero, List.set_cons_succ]
      refine takeY (i := 2) (some 77) (v := .int .i64 (H : Int)) rfl rfl (by kernel_rfl) (by kernel_rfl) (by kernel_rfl) (fun _ _ _ h => h) (by rfl) (fun w' hS => by go_simp) hS0 ?_
      simp only [Act.put, List.setIfInBounds_toArray, List.set_cons_zero, List.set_cons_succ]
      refine takeY (i := 3) (some 78) (v := .slice A' (n - H) (c - H)) rfl rfl (by kernel_rfl) (by kernel_rfl) (by kernel_rfl) (fun _ _ _ h => h) (by rfl) (fun w' hS => by exact slice_op _ _ (.tmp 76) (.tmp 77) rfl (.slice (some ⟨b, off, none⟩) n c) (.int .i64 (H : Int)) rfl rfl _ (HRUN.out w')) hS0 ?_
      simp only [Act.put, List.setIfInBounds_toArray, List.set_cons_zero, List.set_cons_succ]
      refine takeY (i := 4) (some 79) (v := .slice (some ⟨g1, 0, none⟩) k k) rfl rfl (by kernel_rfl) (by kernel_rfl) (by kernel_rfl) (fun _ _ _ h => h) (by rfl) (fun w' hS => by go_simp) hS0 ?_
      simp only [Act.put, List.setIfInBounds_toArray, List.set_cons_zero, List.set_cons_succ]
      refine takeC (i := 5) (some 80) 31 #[.pointer (some ⟨g, 0, none⟩), .slice (some ⟨g1, 0, none⟩) k k] (.bool r) (R := fun w' => w' = wr.drew) rfl rfl (by kernel_rfl) (by rfl) (by go_simp) (HAL.out.mono fun e w' h => ⟨h.1, h.2.symm⟩) (fun w' h => by rw [h]; exact hS0) (fun w2' h2 hS2 => ?_)
      subst h2
      simp only [Act.put, List.setIfInBounds_toArray, List.set_cons_zero, List.set_cons_succ]
      refine takeSt (i := 6) 33 (.tmp 2) (.tmp 75) g 0 (.agg (pdC x)) (pdC x) (pdC x) rfl rfl (by kernel_rfl) (by rfl) rfl rfl rfl rfl info_pdP (pdC_one _) HGF.out (Nat.le_of_ble_eq_true rfl) (pd_all _ _) (fun w9 hst => ⟨hst.1, ?_⟩)
      have hS9 : PdT 33 w9 g x := hst.1
      refine takeY (i := 7) (some 3) (v := .slice A' (n - H) (c - H)) rfl rfl (by kernel_rfl) (by kernel_rfl) (by kernel_rfl) (fun _ _ _ h => h) (by rfl) (fun w' hS => by go_simp) hS9 ?_
      simp only [Act.put, List.setIfInBounds_toArray, List.set_cons_zero, List.set_cons_succ]
      refine takeY (i := 8) (some 4) (v := .bool r) rfl rfl (by kernel_rfl) (by kernel_rfl) (by kernel_rfl) (fun _ _ _ h => h) (by rfl) (fun w' hS => by go_simp) hS9 ?_
      simp only [Act.put, List.setIfInBounds_toArray, List.set_cons_zero, List.set_cons_succ]
      refine wpAnyH_done (by kernel_rfl) ?_ _
      have HS9 := Lib.hid hS9
      have HB9 : Hid (Below w.heap.size w w9) := Lib.hid (HB.out.drew.trans (hst.2.1 _ (by rw [HGG.out]; exact Nat.le_refl _)))
      have HE : Hid (RfOk w b off n c q z r (.returned (.tuple #[.agg (pdC x), .slice A' (n - H) (c - H), .bool r])) w9) := Lib.hid ⟨by rw [HXX.out, HHH2.out, HA'.out], HB9.out⟩
      clear hst hS9 hS2 hS0
      go_wp2_with fail
      exact bodyPost_ret (results_rf (u := 3) (v := 4) rfl _ w9 g _ (.slice A' (n - H) (c - H)) (.bool r) rfl HS9.out rfl rfl) rfl HE.out

end Go.Proofs.Ytfojfdlapekjoaa

/- pdu.readFields: another length is told. Each theorem states its conditions. -/
namespace Go.Proofs.Ytfojfdlapekjoaa
open Go.RowKit
set_option linter.unusedVariables false

set_option maxHeartbeats 4000000 in
set_option maxRecDepth 100000 in
theorem rf_bad (b off n c : Nat) (z : Nat → Int) (w : World) (hr : Row8 w b off n z) (hc : n ≤ c) (hcm : c ≤ maxLen) (h : 8 ≤ n) (q : Nat) (hk : cls (z 4) = q) (hq : q ≤ 4) (hh : hdN q ≤ n) (hn2 : n ≤ 1492) (hs : eqB z (headZ (z 4) (hdN q)) 8 = true) (m : Nat) (hm : LEndsF q z n m) (hlt : m < (flC q).length) : Calls Try.prog 42 #[.slice (some ⟨b, off, none⟩) n c] w (RfNo w) := by
  have hbw := hr.1
  have hzz := hr.2.2
  have HCM := Lib.hid hcm
  have hn8 : (8 : Int) ≤ (n : Int) := by omega
  have HF := Lib.hid (fields_any (z 4) q hk hq)
  have hlen := fl_len q hq
  have hhd := hdN_bd q hq
  obtain ⟨k1, hk1⟩ : ∃ k1, (flC q).length = k1 := ⟨_, rfl⟩
  obtain ⟨H, hH⟩ : ∃ H, hdN q = H := ⟨_, rfl⟩
  rw [hk1] at hlen HF
  rw [hH] at hhd
  have HN := Lib.hid hk1
  have HH := Lib.hid hH
  have HK := Lib.hid hk
  have HQ := Lib.hid hq
  have hn0 : ((k1 : Int) == 0) = false := by simp; omega
  have HM := Lib.hid hm
  have hmk := hm.1
  rw [hk1] at hmk
  rw [hH] at hh hs
  have hhI : (H : Int) ≤ (n : Int) := by omega
  have HS := Lib.hid hs
  have hd8 : decide ((n : Int) < 8) = false := decide_eq_false (by omega)
  have hdH : decide (n < H) = false := decide_eq_false (by omega)
  rw [hk1] at hlt
  clear hk hq hk1 hH hs hm
  unfold maxLen at hcm
  obtain ⟨W1, hW1⟩ : ∃ W1, w.alloc (.cells (pdC pd0) 33) = W1 := ⟨_, rfl⟩
  obtain ⟨g, hg⟩ : ∃ g, w.heap.size = g := ⟨_, rfl⟩
  have HG1 : Hid (PdT 33 W1 g pd0) := Lib.hid (by rw [← hW1, ← hg]; exact heap_alloc_new w _)
  have HB1 : Hid (Below w.heap.size w W1) := Lib.hid (by rw [← hW1]; exact (bself w).alloc (Nat.le_refl _) _)
  have HR1 := Lib.hid (hr.below HB1.out hbw)
  have HW1 := Lib.hid hW1
  have HGG := Lib.hid hg
  rw [hg] at hbw
  clear hr hW1 hg
  go_enter Try.func42, Try.ntmps42
  have c4 : W1.cell? ⟨b, off + 4, none⟩ = some (.int .u8 (z 4)) := HR1.out.2.1 4 (by omega)
  go_wp2_with (first
    | (refine wpList_v (op := ⟨some 2, _, _, _, _, _⟩) rfl _ (alloc_P' _ _ rfl w W1 g HGG.out HW1.out) ?_)
    | (refine wpList_st rfl 5 (.tmp 18) (.tmp 17) rfl g 0 rfl (.int .u8 (z 4)) #[.int .u8 (z 4)] rfl rfl (by kernel_rfl) (by kernel_rfl) HG1.out (Nat.le_of_ble_eq_true rfl) (C' := pdC (kdP (z 4))) (by kernel_rfl) ?_; intro w2 hst2; refine Hid.out ?_))
  refine Lib.hid ?_
  have HG2 : Hid (PdT 33 w2 g (kdP (z 4))) := Lib.hid hst2.1
  have HB2 : Hid (Below w.heap.size w w2) := Lib.hid (HB1.out.trans (hst2.2.1 _ (by rw [HGG.out]; exact Nat.le_refl _)))
  have HR2 := Lib.hid (HR1.out.below (hst2.2.1 g (Nat.le_refl _)) hbw)
  have c0 : w2.cell? ⟨g, 0, none⟩ = some (.int .u8 (z 4)) := (HG2.out.cell 0).trans rfl
  clear hst2 HG1 HB1 HR1 c4
  go_wp2_with fail
  refine (HF.out _).mono ?_
  rintro e w3 ⟨rfl, hf3, hb3⟩
  have HFl3 : Hid (FlAt w3 w2.heap.size q) := Lib.hid hf3
  have HG3 := Lib.hid (HG2.out.below hb3 HG2.out.lt)
  have HR3 := Lib.hid (HR2.out.below hb3 HR2.out.1)
  have HB3 := Lib.hid (HB2.out.trans (hb3.mono HB2.out.size))
  have hgg : g < w2.heap.size := HG2.out.lt
  obtain ⟨g1, hg1⟩ : ∃ g1, w2.heap.size = g1 := ⟨_, rfl⟩
  rw [hg1] at HFl3 hgg ⊢
  clear hf3 hb3 hg1 c0
  have HAH := Lib.hid (ahead_any g1 q HQ.out w3 HFl3.out)
  rw [HN.out, HH.out] at HAH
  go_wp2_with fail
  refine HAH.out.mono ?_
  rintro e w4 ⟨rfl, rfl⟩
  have c0 : w3.cell? ⟨g, 0, none⟩ = some (.int .u8 (z 4)) := (HG3.out.cell 0).trans rfl
  have HHD := Lib.hid (head_any (z 4) H (hzz 4) (by omega))
  go_wp2_with fail
  refine (HHD.out _).mono ?_
  rintro e w5 ⟨rfl, ho5, hb5⟩
  have HG5 := Lib.hid (HG3.out.below hb5 HG3.out.lt)
  have HR5 := Lib.hid (HR3.out.below hb5 HR3.out.1)
  have HFl5 := Lib.hid (HFl3.out.below hb5)
  have HB5 := Lib.hid (HB3.out.trans (hb5.mono HB3.out.size))
  have HP := Lib.hid (starts_any b off n c w3.heap.size 8 z (headZ (z 4) H) _ w5 HR5.out ho5.row HS.out (by omega) hc hcm)
  have hg15 : g1 < w5.heap.size := (Array.getElem?_eq_some_iff.1 HFl5.out).1
  clear ho5 hb5 c0
  go_wp2_with fail
  refine HP.out.mono ?_
  rintro e w6 ⟨rfl, rfl⟩
  go_wp2_with fail
  go_loopw [7, 45] (fun at_ i wr => ∃ k : Nat, k ≤ m ∧ i = .int .i64 k ∧ at_ = .int .i64 (accN q k : Nat) ∧ Hid (PdT 33 wr g (rdF q z k)) ∧ Hid (FlAt wr g1 q) ∧ Hid (Row8 wr b off n z) ∧ Hid (Below w.heap.size w wr)) (fun _ i _ => k1 - (intOf i).toNat)
  case atStart => exact ⟨0, Nat.zero_le _, rfl, rfl, HG5, HFl5, HR5, HB5⟩
  case round =>
    clear HG5 HFl5 HR5 HB5 HG3 HFl3 HR3 HB3 HG2 HR2 HB2
    obtain ⟨k, hk, rfl, rfl, HG, HFl, HR, HB⟩ := hrel
    by_cases hlt : k < k1
    · have ci := HFl.out.cell (i := k) (by rw [HN.out]; exact hlt)
      have hf := fAt_le q k HQ.out
      have hah := accN_hd q k (by rw [HN.out]; exact hlt)
      have hfz := fsz_bd (fAt q k)
      have hab := accN_bd q k
      have HA1 : Hid (accN q (k + 1) = accN q k + fsz (fAt q k)) := Lib.hid rfl
      have HT : Hid (k < m → fAt q k = 4 → (numZ (fun j => z (accN q k + j)) 0 2).toNat = n) := Lib.hid (fun h1 h2 => HM.out.2.1 k h1 h2)
      have HT2 : Hid (k = m → fAt q k = 4 ∧ (numZ (fun j => z (accN q k + j)) 0 2).toNat ≠ n) := Lib.hid (fun e => by
        rcases HM.out.2.2 with h | h
        · rw [HN.out] at h; omega
        · rw [e]; exact h.2)
      have HRD : Hid (rdF q z (k + 1) = getF (rdF q z k) (fun j => z (accN q k + j)) (fAt q k)) := Lib.hid rfl
      rw [HH.out] at hah
      obtain ⟨f, hf'⟩ : ∃ f, fAt q k = f := ⟨_, rfl⟩
      rw [hf'] at ci hf hah hfz HA1 HT HT2 HRD
      obtain ⟨an, han⟩ : ∃ an, accN q k = an := ⟨_, rfl⟩
      rw [han] at hah hab HA1 HT HT2 HRD ⊢
      clear hf' han
      have HSZ := Lib.hid (size_any f hf)
      have HRow := Lib.hid (HR.out.shift an (fsz f) (by omega))
      have HGet := Lib.hid (get_any (rdF q z k) (fun j => z (an + j)) g b (off + an) (c - an) f hf wr HG.out HRow.out (by omega) (by have := HCM.out; omega))
      have hfzf : fsz f ≤ 8 := hfz.2
      obtain ⟨fs, hfs⟩ : ∃ fs, fsz f = fs := ⟨_, rfl⟩
      have HFS := Lib.hid hfs
      rw [hfs] at hah hfz HA1 HSZ HRow HGet hfzf
      clear hfs
      have e1 : ¬ c = an := by omega
      have e2 : ¬ (c : Int) < (an : Int) := by omega
      go_wp2_with fail
      refine (HSZ.out _).mono ?_
      rintro e w7 ⟨rfl, rfl⟩
      by_cases hkm : k < m
      · have hg1l : g1 < wr.heap.size := (Array.getElem?_eq_some_iff.1 HFl.out).1
        by_cases hf4 : f = 4
        · have hnum := HT.out hkm hf4
          obtain rfl : fs = 2 := by rw [← HFS.out, hf4]; rfl
          have HGN := Lib.hid (getNumber_any b (off + an) 2 (c - an) (fun j => z (an + j)) wr HRow.out (by omega) (by omega) (by omega) (by have := HCM.out; omega))
          rw [hnum] at HGN
          have h4 : ((f : Int) == 4) = true := by simp; omega
          have hw := wrapU n (by omega)
          clear hnum hf4
          go_wp2_with fail
          simp only [Nat.add_sub_cancel_left]
          refine HGN.out.mono ?_
          rintro e w7 ⟨rfl, rfl⟩
          go_wp2_with fail
          refine HGet.out.mono ?_
          rintro e w8 ⟨rfl, hg8, hb8, ho8⟩
          have HG8 : Hid (PdT 33 w8 g (rdF q z (k + 1))) := Lib.hid (by rw [HRD.out]; exact hg8)
          have HFl8 : Hid (FlAt w8 g1 q) := Lib.hid ((ho8 g1 hg1l (by omega)).trans HFl.out)
          have HR8 := Lib.hid (HR.out.below hb8 hbw)
          have HB8 : Hid (Below w.heap.size w w8) := Lib.hid (HB.out.trans (by rw [HGG.out]; exact hb8))
          clear hg8 hb8 ho8
          go_wp2_with fail
          go_roundw
          case rel => exact ⟨k + 1, by omega, by go_num, by rw [HA1.out]; go_num, HG8, HFl8, HR8, HB8⟩
          case measure => simp only [intOf]; omega
        · have h4 : ((f : Int) == 4) = false := by simp; omega
          clear hf4
          go_wp2_with fail
          simp only [Nat.add_sub_cancel_left]
          refine HGet.out.mono ?_
          rintro e w8 ⟨rfl, hg8, hb8, ho8⟩
          have HG8 : Hid (PdT 33 w8 g (rdF q z (k + 1))) := Lib.hid (by rw [HRD.out]; exact hg8)
          have HFl8 : Hid (FlAt w8 g1 q) := Lib.hid ((ho8 g1 hg1l (by omega)).trans HFl.out)
          have HR8 := Lib.hid (HR.out.below hb8 hbw)
          have HB8 : Hid (Below w.heap.size w w8) := Lib.hid (HB.out.trans (by rw [HGG.out]; exact hb8))
          clear hg8 hb8 ho8
          go_wp2_with fail
          go_roundw
          case rel => exact ⟨k + 1, by omega, by go_num, by rw [HA1.out]; go_num, HG8, HFl8, HR8, HB8⟩
          case measure => simp only [intOf]; omega
      · have hkm' : k = m := by omega
        obtain ⟨hf4, hne⟩ := HT2.out hkm'
        obtain rfl : fs = 2 := by rw [← HFS.out, hf4]; rfl
        have HGN := Lib.hid (getNumber_any b (off + an) 2 (c - an) (fun j => z (an + j)) wr HRow.out (by omega) (by omega) (by omega) (by have := HCM.out; omega))
        obtain ⟨N, hN⟩ : ∃ N, (numZ (fun j => z (an + j)) 0 2).toNat = N := ⟨_, rfl⟩
        rw [hN] at HGN hne
        have hN2 : N ≤ 65535 := by rw [← hN]; exact n2_bd _ (fun j => hzz _)
        have h4 : ((f : Int) == 4) = true := by simp; omega
        have hw := wrapU n (by omega)
        have hneI : ((N : Int) != (n : Int)) = true := by simp; omega
        clear hN hf4 hne hkm'
        go_wp2_with fail
        simp only [Nat.add_sub_cancel_left]
        refine HGN.out.mono ?_
        rintro e w7 ⟨rfl, rfl⟩
        go_wp2_with (first
          | (refine wpList_v rfl _ (build_0 _ _ rfl _) ?_)
          | (refine wpList_st rfl 33 (.tmp 2) (.tmp 66) rfl g 0 rfl (.agg (pdC pd0)) (pdC pd0) rfl rfl info_pdP (pdC_one _) HG.out (Nat.le_of_ble_eq_true rfl) (pd_all _ _) ?_; intro w9 hst; refine Hid.out ?_))
        refine Lib.hid ?_
        have HG9 : Hid (PdT 33 w9 g pd0) := Lib.hid hst.1
        have HB9 : Hid (Below w.heap.size w w9) := Lib.hid (HB.out.trans (hst.2.1 _ (by rw [HGG.out]; exact Nat.le_refl _)))
        clear hst
        go_wp2_with fail
        refine bodyPost_ret (results_rf rfl _ w9 g _ _ _ rfl HG9.out rfl rfl) rfl ⟨_, _, _, _, rfl, HB9.out⟩

    · exfalso; rw [HN.out] at *; omega
end Go.Proofs.Ytfojfdlapekjoaa
