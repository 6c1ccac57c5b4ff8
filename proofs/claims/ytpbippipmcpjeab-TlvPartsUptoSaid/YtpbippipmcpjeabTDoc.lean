/- The document's DocSplit reads a list out of bytes. Each theorem states its conditions. -/
import Derived.Test.YtpbippipmcpjeabTSplit
namespace Go.Proofs.Ytpbippipmcpjeab
open Go.RowKit
set_option linter.unusedVariables false

/-- a slice's part, both ends given -/
theorem run_part (W : World) (b off n c : Nat) (lo hi : Int) (l h : Nat) (hlo : lo = (l : Int)) (hhi : hi = (h : Int)) (h1 : l ≤ h) (h2 : h ≤ c) (A : Option Addr) (hA : A = if c = l then some ⟨b, off, none⟩ else some ⟨b, off + l, none⟩) (m : Nat) (hm : m = h - l) :
    (Instr.slice 25 (.slice (some ⟨b, off, none⟩) n c) (some (.int .i64 lo)) (some (.int .i64 hi)) none).run Try.prog W = .ok (.slice A m (c - l)) W := by
  subst hlo hhi hA hm
  have hu := run_underlying (w := W) Try.underlying25
  have hs := info_u8
  obtain ⟨i0, hi, hz0, hz1, hz2⟩ := info_parts info_u8
  have g1 : (0 : Int) ≤ (h : Int) ∧ (h : Int) ≤ (c : Int) := by omega
  have g2 : (0 : Int) ≤ (l : Int) ∧ (l : Int) ≤ (h : Int) := by omega
  by_cases hc : c = l
  · simp [Instr.slice, Instr.sliceBounds, Instr.sliceBound, hu, go_sem, hi, hz1, g1, g2, Addr.add, hc]
    rw [if_pos (by omega), if_pos h1]
  · simp [Instr.slice, Instr.sliceBounds, Instr.sliceBound, hu, go_sem, hi, hz1, g1, g2, Addr.add, hc]
    rw [if_pos h2, if_pos h1]
    by_cases h0 : l = 0
    · subst h0; simp
    · simp [h0]

set_option maxHeartbeats 4000000 in
set_option maxRecDepth 100000 in
theorem docsplit_any (A : Option Addr) (n c m : Nat) (z : Nat → Int) (w : World) (h : Rd w A n z) (hA : A = none → n = 0 ∧ c = 0) (hn : n ≤ 1492) (hc : n ≤ c) (hcm : c ≤ 9223372036854775807) (hm : Ends z n m) :
    Calls Try.prog 18 #[.slice A n c] w (SplitPost w z n m) := by
  obtain ⟨i0, hi, hz0, hz1, hz2⟩ := info_parts info_tlv
  have hz := h.2
  have HM := Lib.hid hm
  have HR := Lib.hid h
  clear h hm
  go_enter Try.func18, Try.ntmps18
  go_wp2_with fail
  go_loopw [4, 5] (fun v p wr => ∃ (k : Nat) (L : Nat → It), pos z k ≤ n ∧ k ≤ m ∧ p = .int .i64 (pos z k : Nat) ∧ OwnT wr w.heap.size v k L ∧ Hid (IsItZ z L k) ∧ Below w.heap.size w wr)
    (fun _ p _ => n - (intOf p).toNat)
  case atStart => exact ⟨0, fun _ => ⟨0, none, 0, 0, z⟩, by simp [pos], by omega, rfl, OwnT.nil _ _ _, Lib.hid (fun j hj => by omega), bself w⟩
  case round =>
    obtain ⟨k, L, hk, hkm, rfl, hown, hL, hb⟩ := hrel
    by_cases hkm1 : k < m
    · have hlt : pos z k < n := by
        have := HM.out.1; have := pos_mono z k m (by omega); omega
      obtain ⟨b, off, rfl, hr⟩ := HR.out.row (by omega)
      have hn1 : pos z (k + 1) ≤ n := by
        have := HM.out.1; have := pos_mono z (k + 1) m (by omega); omega
      have hp := pos_lt z k
      have c0 : wr.cell? ⟨b, off + pos z k, none⟩ = some (.int .u8 (z (pos z k))) := (hb.cell (p := ⟨b, off + pos z k, none⟩) hr.1).trans (hr.2.1 _ hlt)
      have c1 : wr.cell? ⟨b, off + (pos z k + 1), none⟩ = some (.int .u8 (z (pos z k + 1))) := (hb.cell (p := ⟨b, off + (pos z k + 1), none⟩) hr.1).trans (hr.2.1 (pos z k + 1) (by omega))
      have z0 := hz (pos z k)
      have z1 := hz (pos z k + 1)
      obtain ⟨v1, hv1⟩ := Int.eq_ofNat_of_zero_le z1.1
      have hv1n : (z (pos z k + 1)).toNat = v1 := by omega
      have hpk : pos z (k + 1) = pos z k + 2 + v1 := by simp only [pos]; omega
      have H := Lib.hid (fun (W : World) (hW : Row8 W b off n z) (ad : Addr) (cc : Nat) (had : v1 = 0 ∨ ad = ⟨b, off + (pos z k + 2), none⟩) => twin_any (some ad) v1 cc (fun j => z (pos z k + 2 + j)) W ⟨by
        rcases Nat.eq_zero_or_pos v1 with h0 | h0
        · exact .inl h0
        · rcases had with had | rfl
          · omega
          · exact .inr ⟨b, off + (pos z k + 2), rfl, hW.1, fun j hj => by
              have := hW.2.1 (pos z k + 2 + j) (by omega)
              rw [← this]; congr 2; omega, fun j => hz _⟩, fun j => hz _⟩ (fun e => by cases e) (by omega))
      have hrr := Lib.hid (hr.below hb hr.1)
      have hlb : b < wr.heap.size := by have := hr.1; have := hb.size; omega
      have hbs := hb.size
      have ho := Lib.hid hown
      have hE := Lib.hid hv1
      have hEn := Lib.hid hv1n
      rw [hv1] at c1 z1
      have HN1 := Lib.hid hn1
      rw [hpk] at hn1
      have hk31 : (k + 1) * 32 ≤ 140737488355328 := by have := pos_mono z 0 k (by omega); simp only [pos] at this; omega
      have hk63 : k + 1 ≤ maxLen := by unfold maxLen; omega
      have hbase : ∀ g1 cap1 (W : World), wr.heap.size ≤ W.heap.size → w.heap.size ≤ (W.alloc (.cells #[.int .u8 (z (pos z k)), .slice (some ⟨g1, 0, none⟩) v1 cap1] 27)).heap.size := fun g1 cap1 W h => by simp; omega
      have HB := Lib.hid hbase
      have hr1 := hr.1
      have hfar : u4.ownBlock ≠ some b := fun e => by have := (hown.1.lt b e).1; omega
      have HPK := Lib.hid hpk
      clear hv1 hv1n hpk hp hr hk hown hbase
      generalize hz0' : z (pos z k) = v0 at *
      have HZ0 := Lib.hid hz0'
      clear hz0'
      generalize hopos : pos z k = o at c0 c1 hlt hn1 H ⊢
      have HO := Lib.hid hopos
      clear hopos
      have q1 : (o : Int) < (n : Int) := by omega
      have q2 : ¬ (o : Int) = (n : Int) - 1 := by omega
      have q3 : ¬ ((n : Int) - (o : Int) - 2 < (v1 : Int)) := by omega
      have q4 : (0 : Int) ≤ (o : Int) + 1 := by omega
      have q5 : (o : Int) + 1 < (n : Int) := by omega
      have q6 : (o : Int) + 2 ≤ (o : Int) + 2 + (v1 : Int) := by omega
      have q7 : (o : Int) + 2 + (v1 : Int) ≤ (c : Int) := by omega
      have q71 : (0 : Int) ≤ (o : Int) + 2 + (v1 : Int) := by omega
      have q72 : (0 : Int) ≤ (o : Int) + 2 := by omega
      have q73 : (o : Int) + 2 ≤ (c : Int) := by omega
      have hlen2 : ((o : Int) + 2 + (v1 : Int)).toNat = o + 2 + v1 := by omega
      have hw1 : IntKind.i64.wrap ((o : Int) + 2) = (o : Int) + 2 := by rw [IntKind.wrap_i64]; omega
      have hw2 : IntKind.i64.wrap ((o : Int) + 2 + (v1 : Int)) = (o : Int) + 2 + (v1 : Int) := by rw [IntKind.wrap_i64]; omega
      have hlen3 : ((o : Int) + 2).toNat = o + 2 := by omega
      by_cases hcap : c = o + 2
      · have HV0 := Lib.hid (show v1 = 0 by omega)
        have hcap' : (c = o + 2) = True := eq_true hcap
        clear hcap
        go_wp2_with fail
        go_region_held3 (fun w' => w'.cell? ⟨b, off + o, none⟩ = some (.int .u8 v0))
          (first | go_keep | (exact (hb1.cell (by exact hlb)).trans c0) | (rw [hgrow.cell_far _ (by have := hbx.size; simp; omega) (Ne.symm hfar)]; assumption))
          (first | (go_at_call 20; refine (H.out _ (by exact hrr.out) _ _ (.inl HV0.out)).mono ?_; (rintro e w1 ⟨g1, cap1, rfl, hg1, ho1, hb1⟩; have hbx : Below wr.heap.size wr w1 := (Below.refl _ wr).drew.trans hb1; have hbz := HB.out g1 cap1 w1 hbx.size)) | (refine step_append_lies _ (by rfl) _ _ _ (by rfl) w.heap.size 27 i0 _ 2 32 Try.underlying22 hi hz0 hz1 hz2 rfl (by omega) u4 k (cellsT L k) (by rfl) ((ownsRow_below ho.out.1 hbx).alloc _) ⟨w1.heap.size, 0, none⟩ 1 1 [.int .u8 v0, .slice (some ⟨g1, 0, none⟩) v1 cap1] (by rfl) (by rfl) (World.news_of_block (heap_alloc_new w1 _)) (two_one _ _ _ _) (by omega) hk63 hk31 hbz (w1.heap.size + 1) (by simp) ?_; intro gg cap w2 hown2 hgrow hat hlt2))
        have hz0' := HZ0.out
        have hit : OwnV (w1.alloc (.cells #[.int .u8 v0, .slice (some ⟨g1, 0, none⟩) v1 cap1] 27)) w.heap.size ⟨v0, some ⟨g1, 0, none⟩, v1, cap1, fun j => z (o + 2 + j)⟩ := ⟨z0, by show v1 ≤ _; omega, g1, rfl, by have := hb.size; simp at hg1; omega, ho1.alloc _⟩
        have R := Lib.hid (OwnT.push ((ho.out.below hbx).below ((bself w1).alloc (Nat.le_refl _) (.cells #[.int .u8 v0, .slice (some ⟨g1, 0, none⟩) v1 cap1] 27))) hit hown2 hgrow)
        have hI : IsItZ z (updT L k ⟨v0, some ⟨g1, 0, none⟩, v1, cap1, fun j => z (o + 2 + j)⟩) (k + 1) := by
          intro j hj
          by_cases e : j = k
          · subst e; rw [updT_same]; exact ⟨g1, cap1, by unfold itZ; rw [hz0', hEn.out, HO.out]⟩
          · rw [updT_other _ _ _ _ e]; exact hL.out j (by omega)
        have hB2 : Below w.heap.size w w2 := ((hb.trans (hbx.mono hbs)).alloc (by have := hbx.size; omega) _).grown hgrow (by have := hbx.size; simp; omega) (fun x e => (ho.out.1.lt x e).1)
        have HI := Lib.hid hI
        have HB2 := Lib.hid hB2
        clear hI hB2 hit hown2 hgrow ho1 hb1 hbx hbz hz0' hat hlt2 c0 c1 hg1
        go_wp2
        go_roundw
        case rel => exact ⟨k + 1, _, HN1.out, hkm1, by rw [HPK.out, HO.out]; go_num, R.out, HI, HB2.out⟩
        case measure =>
          have hm1 := HPK.out
          have hm2 := HN1.out
          have hm3 := HO.out
          simp only [intOf]
          omega
      · have q99 : ¬ (c : Int) = (o : Int) + 2 := by omega
        go_wp2_with fail
        go_region_held3 (fun w' => w'.cell? ⟨b, off + o, none⟩ = some (.int .u8 v0))
          (first | go_keep | (exact (hb1.cell (by exact hlb)).trans c0) | (rw [hgrow.cell_far _ (by have := hbx.size; simp; omega) (Ne.symm hfar)]; assumption))
          (first | (go_at_call 20; refine (H.out _ (by exact hrr.out) _ _ (.inr rfl)).mono ?_; (rintro e w1 ⟨g1, cap1, rfl, hg1, ho1, hb1⟩; have hbx : Below wr.heap.size wr w1 := (Below.refl _ wr).drew.trans hb1; have hbz := HB.out g1 cap1 w1 hbx.size)) | (refine step_append_lies _ (by rfl) _ _ _ (by rfl) w.heap.size 27 i0 _ 2 32 Try.underlying22 hi hz0 hz1 hz2 rfl (by omega) u4 k (cellsT L k) (by rfl) ((ownsRow_below ho.out.1 hbx).alloc _) ⟨w1.heap.size, 0, none⟩ 1 1 [.int .u8 v0, .slice (some ⟨g1, 0, none⟩) v1 cap1] (by rfl) (by rfl) (World.news_of_block (heap_alloc_new w1 _)) (two_one _ _ _ _) (by omega) hk63 hk31 hbz (w1.heap.size + 1) (by simp) ?_; intro gg cap w2 hown2 hgrow hat hlt2))
        have hz0' := HZ0.out
        have hit : OwnV (w1.alloc (.cells #[.int .u8 v0, .slice (some ⟨g1, 0, none⟩) v1 cap1] 27)) w.heap.size ⟨v0, some ⟨g1, 0, none⟩, v1, cap1, fun j => z (o + 2 + j)⟩ := ⟨z0, by show v1 ≤ _; omega, g1, rfl, by have := hb.size; simp at hg1; omega, ho1.alloc _⟩
        have R := Lib.hid (OwnT.push ((ho.out.below hbx).below ((bself w1).alloc (Nat.le_refl _) (.cells #[.int .u8 v0, .slice (some ⟨g1, 0, none⟩) v1 cap1] 27))) hit hown2 hgrow)
        have hI : IsItZ z (updT L k ⟨v0, some ⟨g1, 0, none⟩, v1, cap1, fun j => z (o + 2 + j)⟩) (k + 1) := by
          intro j hj
          by_cases e : j = k
          · subst e; rw [updT_same]; exact ⟨g1, cap1, by unfold itZ; rw [hz0', hEn.out, HO.out]⟩
          · rw [updT_other _ _ _ _ e]; exact hL.out j (by omega)
        have hB2 : Below w.heap.size w w2 := ((hb.trans (hbx.mono hbs)).alloc (by have := hbx.size; omega) _).grown hgrow (by have := hbx.size; simp; omega) (fun x e => (ho.out.1.lt x e).1)
        have HI := Lib.hid hI
        have HB2 := Lib.hid hB2
        clear hI hB2 hit hown2 hgrow ho1 hb1 hbx hbz hz0' hat hlt2 c0 c1 hg1
        go_wp2
        go_roundw
        case rel => exact ⟨k + 1, _, HN1.out, hkm1, by rw [HPK.out, HO.out]; go_num, R.out, HI, HB2.out⟩
        case measure =>
          have hm1 := HPK.out
          have hm2 := HN1.out
          have hm3 := HO.out
          simp only [intOf]
          omega
    · have hkm2 : k = m := by omega
      subst hkm2
      have ho := Lib.hid hown
      by_cases hend : pos z k = n
      · have he := Lib.hid hend
        clear hown hk hkm1
        rw [hend]
        clear hend
        go_wp2
        go_ret2
        exact .inl ⟨he.out, _, L, rfl, ho.out, hL.out, hb⟩
      · have HE := Lib.hid hend
        have hM := HM.out.2
        by_cases h2 : n < pos z k + 2
        · have q1 : pos z k = n - 1 := by omega
          have q2 : 0 < n := by omega
          rw [q1]
          have q3 : ((n - 1 : Nat) : Int) = (n : Int) - 1 := by omega
          rw [q3]
          have q4 : (n : Int) - 1 < (n : Int) := by omega
          clear hown hk hkm1 hM h2 q1 q3 hend
          go_wp2
          go_ret2
          exact .inr ⟨HE.out, rfl, hb⟩
        · obtain ⟨b, off, rfl, hr⟩ := HR.out.row (by omega)
          have c1 : wr.cell? ⟨b, off + (pos z k + 1), none⟩ = some (.int .u8 (z (pos z k + 1))) := (hb.cell (p := ⟨b, off + (pos z k + 1), none⟩) hr.1).trans (hr.2.1 (pos z k + 1) (by omega))
          have z1 := hz (pos z k + 1)
          obtain ⟨v1, hv1⟩ := Int.eq_ofNat_of_zero_le z1.1
          have hpk : pos z (k + 1) = pos z k + 2 + v1 := by simp only [pos]; omega
          rw [hv1] at c1 z1
          generalize hopos : pos z k = o at c1 hpk hk hend h2 hM ⊢
          have q1 : (o : Int) < (n : Int) := by omega
          have q2 : ¬ (o : Int) = (n : Int) - 1 := by omega
          have q3 : ((n : Int) - (o : Int) - 2 < (v1 : Int)) := by omega
          have q4 : (0 : Int) ≤ (o : Int) + 1 := by omega
          have q5 : (o : Int) + 1 < (n : Int) := by omega
          clear hown hk hkm1 hM h2 hr hv1 hpk hopos hend
          go_wp2
          go_ret2
          exact .inr ⟨HE.out, rfl, hb⟩
end Go.Proofs.Ytpbippipmcpjeab
