/- Split reads a list out of bytes. Each theorem states its conditions. -/
import Derived.Test.YtigkmcbkckfhbaaTOwn
import Derived.Deep.RegionHeld3
import Derived.Deep.AppendLies
import Derived.Lib.SliceRun
namespace Go.Proofs.Ytigkmcbkckfhbaa
open Go.RowKit
set_option linter.unusedVariables false

/-- what Clone of bytes that aren't nil leaves -/
theorem clone_any (ad : Addr) (n c : Nat) (z : Nat → Int) (w : World) (h : Rd w (some ad) n z) (hn : n ≤ 140737488351232) :
    Calls Try.prog 68 #[.slice (some ad) n c] w (TwinPost w n z) := by
  obtain ⟨i0, hi, hz0, hz1, hz2⟩ := info_parts info_u8
  have hm : (0 : Nat) ≤ maxLen := by decide
  have hown := World.ownsRow_made (e := 5) (size := 1) (base := w.heap.size) w #[] 0 (Nat.le_refl _) hm rfl
  have hnews : ∀ j u, (vals z n)[j]? = some u → (w.alloc (.cells #[] 5)).cell? (ad.add j) = some u := rd_news h _
  have h1 := vals_one z n
  have hl := vals_len z n
  have hne := fun (W : World) => Lib.run_eql_slice_nil (P := Try.prog) W 35 5 (some ad) n c 0 0 Try.underlying35
  go_enter Try.func68, Try.ntmps68
  go_wp2_with (at_builtin; refine wpList_append_own_at _ rfl (.tmp 5) (.tmp 6) 35 rfl w.heap.size 5 i0 (.int .u8 0) 1 1 Try.underlying35 hi hz0 hz1 hz2 rfl (by decide) _ 0 [] rfl hown ad n c (vals z n) rfl (by omega) hnews h1 (by unfold maxLen; omega) (by omega) (by simp) ?_)
  intro v' w1 hown1 hgrow hnil hat
  go_wp2
  go_ret
  obtain ⟨g, cap, rfl, hg, ho⟩ := own_of (by simpa using hown1) (by simp) hnil h.2
  have hb : Below w.heap.size w w1 := ((Below.refl _ _).alloc (Nat.le_refl _) _).grown hgrow (by simp) (by simp [Value.ownBlock])
  exact ⟨g, cap, rfl, hg, ho, hb⟩

/-- where the k-th begins -/
def pos (z : Nat → Int) : Nat → Nat
  | 0 => 0
  | k + 1 => pos z k + 2 + (z (pos z k + 1)).toNat
/-- the k-th, but for where its bytes lie -/
def itZ (z : Nat → Int) (k : Nat) (g cap : Nat) : It := ⟨z (pos z k), some ⟨g, 0, none⟩, (z (pos z k + 1)).toNat, cap, fun j => z (pos z k + 2 + j)⟩
theorem pos_lt (z : Nat → Int) (k : Nat) : pos z k + 2 ≤ pos z (k + 1) := by simp only [pos]; omega
theorem pos_mono (z : Nat → Int) (k m : Nat) (h : k ≤ m) : pos z k + 2 * (m - k) ≤ pos z m := by
  induction m with
  | zero => obtain rfl : k = 0 := by omega
            simp [pos]
  | succ m ih =>
    by_cases e : k = m + 1
    · subst e; simp
    · have := ih (by omega); have := pos_lt z m; omega
/-- bytes are a list of m, or end within one behind m -/
theorem pos_cases (z : Nat → Int) (n : Nat) : ∃ m, pos z m ≤ n ∧ (pos z m = n ∨ (pos z m < n ∧ (n < pos z m + 2 ∨ n < pos z (m + 1)))) := by
  have key : ∀ d k, pos z k ≤ n → n - pos z k ≤ d → ∃ m, pos z m ≤ n ∧ (pos z m = n ∨ (pos z m < n ∧ (n < pos z m + 2 ∨ n < pos z (m + 1)))) := by
    intro d
    induction d with
    | zero => intro k h1 h2; exact ⟨k, h1, .inl (by omega)⟩
    | succ d ih =>
      intro k h1 h2
      by_cases e : pos z k = n
      · exact ⟨k, h1, .inl e⟩
      · by_cases e2 : n < pos z (k + 1)
        · exact ⟨k, h1, .inr ⟨by omega, .inr e2⟩⟩
        · have := pos_lt z k
          exact ih (k + 1) (by omega) (by omega)
  exact key n 0 (by simp [pos]) (by simp [pos])

theorem addr_eq {b m n : Nat} (h : m = n) : (some ⟨b, m, none⟩ : Option Addr) = some ⟨b, n, none⟩ := by rw [h]
theorem slice_eq {A B : Option Addr} {n m c d : Nat} (h : A = B) (h1 : n = m) (h2 : c = d) : Value.slice A n c = .slice B m d := by rw [h, h1, h2]

/-- item j is the j-th of the bytes, in memory of the call's own -/
def IsItZ (z : Nat → Int) (L : Nat → It) (k : Nat) : Prop := ∀ j, j < k → ∃ g cap, L j = itZ z j g cap

/-- bytes are a list of m, or end within one behind m -/
def Ends (z : Nat → Int) (n m : Nat) : Prop := pos z m ≤ n ∧ (pos z m = n ∨ (pos z m < n ∧ (n < pos z m + 2 ∨ n < pos z (m + 1))))
/-- what a reader leaves -/
def SplitPost (w : World) (z : Nat → Int) (n m : Nat) (e : Ending) (w' : World) : Prop :=
  (pos z m = n ∧ ∃ v L, e = .returned (.tuple #[v, .int .i64 0]) ∧ OwnT w' w.heap.size v m L ∧ IsItZ z L m ∧ Below w.heap.size w w') ∨
  (pos z m ≠ n ∧ e = .returned (.tuple #[.slice none 0 0, .int .i64 3]) ∧ Below w.heap.size w w')

set_option maxHeartbeats 4000000 in
set_option maxRecDepth 100000 in
theorem split_any (A : Option Addr) (n c m : Nat) (z : Nat → Int) (w : World) (h : Rd w A n z) (hA : A = none → n = 0 ∧ c = 0) (hn : n ≤ 1492) (hc : n ≤ c) (hcm : c ≤ 9223372036854775807) (hm : Ends z n m) :
    Calls Try.prog 43 #[.slice A n c] w (SplitPost w z n m) := by
  obtain ⟨i0, hi, hz0, hz1, hz2⟩ := info_parts info_tlv
  have hz := h.2
  have HM := Lib.hid hm
  have HR := Lib.hid h
  clear h hm
  go_enter Try.func43, Try.ntmps43
  go_wp2_with fail
  go_loopw [0, 4] (fun p v wr => ∃ (k : Nat) (A' : Option Addr) (L : Nat → It), pos z k ≤ n ∧ k ≤ m ∧ p = .slice A' (n - pos z k : Nat) (c - pos z k : Nat) ∧ Hid (pos z k < n → ∃ b off, A' = some ⟨b, off + pos z k, none⟩ ∧ Row8 w b off n z) ∧ OwnT wr w.heap.size v k L ∧ Hid (IsItZ z L k) ∧ Below w.heap.size w wr)
    (fun p _ _ => match p with | .slice _ l _ => l | _ => 0)
  case atStart => exact ⟨0, A, fun _ => ⟨0, none, 0, 0, z⟩, by simp [pos], by omega, slice_eq rfl (by simp [pos]) (by simp [pos]), Lib.hid (fun h => by
    obtain ⟨b, off, e, hr⟩ := HR.out.row (by simpa [pos] using h)
    exact ⟨b, off, by simpa [pos] using e, hr⟩), OwnT.nil _ _ _, Lib.hid (fun j hj => by omega), bself w⟩
  case round =>
    obtain ⟨k, A', L, hk, hkm, rfl, hA', hown, hL, hb⟩ := hrel
    by_cases hkm1 : k < m
    · have hlt : pos z k < n := by
        have := HM.out.1; have := pos_mono z k m (by omega); omega
      obtain ⟨b, off, rfl, hr⟩ := hA'.out hlt
      have hn1 : pos z (k + 1) ≤ n := by
        have := HM.out.1; have := pos_mono z (k + 1) m (by omega); omega
      have c0 : wr.cell? ⟨b, off + pos z k, none⟩ = some (.int .u8 (z (pos z k))) := (hb.cell (p := ⟨b, off + pos z k, none⟩) hr.1).trans (hr.2.1 _ hlt)
      have hp := pos_lt z k
      have c1 : wr.cell? ⟨b, off + pos z k + 1, none⟩ = some (.int .u8 (z (pos z k + 1))) := (hb.cell (p := ⟨b, off + pos z k + 1, none⟩) hr.1).trans (hr.2.1 (pos z k + 1) (by omega))
      have z0 := hz (pos z k)
      have z1 := hz (pos z k + 1)
      obtain ⟨v1, hv1⟩ := Int.eq_ofNat_of_zero_le z1.1
      have hv1n : (z (pos z k + 1)).toNat = v1 := by omega
      have hpk : pos z (k + 1) = pos z k + 2 + v1 := by simp only [pos]; omega
      have H := Lib.hid (fun (W : World) (hW : Row8 W b off n z) (ad : Addr) (cc : Nat) (had : v1 = 0 ∨ ad = ⟨b, off + pos z k + 2, none⟩) => clone_any ad v1 cc (fun j => z (pos z k + 2 + j)) W ⟨by
        rcases Nat.eq_zero_or_pos v1 with h0 | h0
        · exact .inl h0
        · rcases had with had | rfl
          · omega
          · exact .inr ⟨b, off + pos z k + 2, rfl, hW.1, fun j hj => by
              have := hW.2.1 (pos z k + 2 + j) (by omega)
              rw [← this]; congr 2; omega, fun j => hz _⟩, fun j => hz _⟩ (by omega))
      have hrr := Lib.hid (hr.below hb hr.1)
      have hlb : b < wr.heap.size := by have := hr.1; have := hb.size; omega
      have hbs := hb.size
      have ho := Lib.hid hown
      have hE := Lib.hid hv1
      have hEn := Lib.hid hv1n
      rw [hv1] at c1 z1
      have HN1 := Lib.hid hn1
      rw [hpk] at hn1
      obtain ⟨q, hq⟩ : ∃ q, n - pos z k = q := ⟨_, rfl⟩
      obtain ⟨qc, hqc⟩ : ∃ q, c - pos z k = q := ⟨_, rfl⟩
      rw [hq, hqc]
      have q1 : 2 + (v1 : Int) ≤ (q : Int) := by omega
      have q2 : (q : Int) ≤ (qc : Int) := by omega
      have q3 : (2 : Int) ≤ (q : Int) := by omega
      have q4 : (1 : Int) < (q : Int) := by omega
      have q5 : (0 : Int) < (q : Int) := by omega
      have q6 : (2 : Int) ≤ 2 + (v1 : Int) := by omega
      have q7 : 2 + (v1 : Int) ≤ (qc : Int) := by omega
      have q8 : (0 : Int) ≤ 2 + (v1 : Int) := by omega
      have HQ := Lib.hid hq
      have HQC := Lib.hid hqc
      have HPK := Lib.hid hpk
      have hk31 : (k + 1) * 32 ≤ 140737488355328 := by have := pos_mono z 0 k (by omega); simp only [pos] at this; omega
      have hk63 : k + 1 ≤ maxLen := by unfold maxLen; omega
      have hbase : ∀ g1 cap1 (W : World), wr.heap.size ≤ W.heap.size → w.heap.size ≤ (W.alloc (.cells #[.int .u8 (z (pos z k)), .slice (some ⟨g1, 0, none⟩) v1 cap1] 53)).heap.size := fun g1 cap1 W h => by simp; omega
      have HB := Lib.hid hbase
      have hlen2 : (2 + (v1 : Int)).toNat - 2 = v1 := by omega
      have hr1 := hr.1
      have HRW := Lib.hid hr
      have hfar : u4.ownBlock ≠ some b := fun e => by have := (hown.1.lt b e).1; omega
      have hb1' : b < wr.heap.size + 1 := by omega
      clear hv1 hv1n hpk hn1 hp hq hqc hA' hr hlt hk hown hbase
      generalize hz0' : z (pos z k) = v0 at *
      have HZ0 := Lib.hid hz0'
      clear hz0'
      have hn0 := HR.out.1
      by_cases hcap : qc = 2
      · have HV0 := Lib.hid (show v1 = 0 by omega)
        obtain rfl : q = 2 := by omega
        subst hcap
        go_wp2_with fail
        go_region_held3 (fun w' => w'.cell? ⟨b, off + pos z k, none⟩ = some (.int .u8 v0))
          (first | go_keep | (exact (hb1.cell (by exact hlb)).trans c0) | (rw [hgrow.cell_far _ (by have := hbx.size; simp; omega) (Ne.symm hfar)]; assumption))
          (first | (go_at_call 68; refine (H.out _ (by exact hrr.out) _ _ (.inl HV0.out)).mono ?_; (rintro e w1 ⟨g1, cap1, rfl, hg1, ho1, hb1⟩; have hbx : Below wr.heap.size wr w1 := (Below.refl _ wr).drew.trans hb1; have hbz := HB.out g1 cap1 w1 hbx.size)) | (refine step_append_lies _ (by rfl) _ _ _ (by rfl) w.heap.size 53 i0 _ 2 32 Try.underlying29 hi hz0 hz1 hz2 rfl (by omega) u4 k (cellsT L k) (by rfl) ((ownsRow_below ho.out.1 hbx).alloc _) ⟨w1.heap.size, 0, none⟩ 1 1 [.int .u8 v0, .slice (some ⟨g1, 0, none⟩) v1 cap1] (by rfl) (by rfl) (World.news_of_block (heap_alloc_new w1 _)) (two_one _ _ _ _) (by omega) hk63 hk31 hbz (w1.heap.size + 1) (by simp) ?_; intro gg cap w2 hown2 hgrow hat hlt2))
        have hz0' := HZ0.out
        have hit : OwnV (w1.alloc (.cells #[.int .u8 v0, .slice (some ⟨g1, 0, none⟩) v1 cap1] 53)) w.heap.size ⟨v0, some ⟨g1, 0, none⟩, v1, cap1, fun j => z (pos z k + 2 + j)⟩ := ⟨z0, by show v1 ≤ _; omega, g1, rfl, by have := hb.size; simp at hg1; omega, ho1.alloc _⟩
        have R := Lib.hid (OwnT.push ((ho.out.below hbx).below ((bself w1).alloc (Nat.le_refl _) (.cells #[.int .u8 v0, .slice (some ⟨g1, 0, none⟩) v1 cap1] 53))) hit hown2 hgrow)
        have hI : IsItZ z (updT L k ⟨v0, some ⟨g1, 0, none⟩, v1, cap1, fun j => z (pos z k + 2 + j)⟩) (k + 1) := by
          intro j hj
          by_cases e : j = k
          · subst e; rw [updT_same]; exact ⟨g1, cap1, by unfold itZ; rw [hz0', hEn.out]⟩
          · rw [updT_other _ _ _ _ e]; exact hL.out j (by omega)
        have hB2 : Below w.heap.size w w2 := ((hb.trans (hbx.mono hbs)).alloc (by have := hbx.size; omega) _).grown hgrow (by have := hbx.size; simp; omega) (fun x e => (ho.out.1.lt x e).1)
        have HI := Lib.hid hI
        have HB2 := Lib.hid hB2
        clear hI hB2 hit hown2 hgrow ho1 hb1 hbx hbz hz0' hat hlt2 c0 c1 q6 q8 hg1
        go_wp2
        go_roundw
        case rel => exact ⟨k + 1, _, _, HN1.out, hkm1, slice_eq rfl (by have := HPK.out; have := HQ.out; omega) (by have := HPK.out; have := HQC.out; omega), Lib.hid (fun h => by have := HPK.out; have := HQ.out; have := HN1.out; omega), R.out, HI, HB2.out⟩
        case measure => simp <;> omega
      · have q9 : ¬ (qc : Int) = 2 := by omega
        by_cases hend : qc = 2 + v1
        · have HQ10 := Lib.hid hend
          clear hend
          go_wp2_with fail
          go_region_held3 (fun w' => w'.cell? ⟨b, off + pos z k, none⟩ = some (.int .u8 v0))
            (first | go_keep | (exact (hb1.cell (by exact hlb)).trans c0) | (rw [hgrow.cell_far _ (by have := hbx.size; simp; omega) (Ne.symm hfar)]; assumption))
            (first | (go_at_call 68; refine (H.out _ (by exact hrr.out) _ _ (.inr rfl)).mono ?_; (rintro e w1 ⟨g1, cap1, rfl, hg1, ho1, hb1⟩; have hbx : Below wr.heap.size wr w1 := (Below.refl _ wr).drew.trans hb1; have hbz := HB.out g1 cap1 w1 hbx.size)) | (refine step_append_lies _ (by rfl) _ _ _ (by rfl) w.heap.size 53 i0 _ 2 32 Try.underlying29 hi hz0 hz1 hz2 rfl (by omega) u4 k (cellsT L k) (by rfl) ((ownsRow_below ho.out.1 hbx).alloc _) ⟨w1.heap.size, 0, none⟩ 1 1 [.int .u8 v0, .slice (some ⟨g1, 0, none⟩) v1 cap1] (by rfl) (by rfl) (World.news_of_block (heap_alloc_new w1 _)) (two_one _ _ _ _) (by omega) hk63 hk31 hbz (w1.heap.size + 1) (by simp) ?_; intro gg cap w2 hown2 hgrow hat hlt2))
          have hz0' := HZ0.out
          have hit : OwnV (w1.alloc (.cells #[.int .u8 v0, .slice (some ⟨g1, 0, none⟩) v1 cap1] 53)) w.heap.size ⟨v0, some ⟨g1, 0, none⟩, v1, cap1, fun j => z (pos z k + 2 + j)⟩ := ⟨z0, by show v1 ≤ _; omega, g1, rfl, by have := hb.size; simp at hg1; omega, ho1.alloc _⟩
          have R := Lib.hid (OwnT.push ((ho.out.below hbx).below ((bself w1).alloc (Nat.le_refl _) (.cells #[.int .u8 v0, .slice (some ⟨g1, 0, none⟩) v1 cap1] 53))) hit hown2 hgrow)
          have hI : IsItZ z (updT L k ⟨v0, some ⟨g1, 0, none⟩, v1, cap1, fun j => z (pos z k + 2 + j)⟩) (k + 1) := by
            intro j hj
            by_cases e : j = k
            · subst e; rw [updT_same]; exact ⟨g1, cap1, by unfold itZ; rw [hz0', hEn.out]⟩
            · rw [updT_other _ _ _ _ e]; exact hL.out j (by omega)
          have hB2 : Below w.heap.size w w2 := ((hb.trans (hbx.mono hbs)).alloc (by have := hbx.size; omega) _).grown hgrow (by have := hbx.size; simp; omega) (fun x e => (ho.out.1.lt x e).1)
          have HI := Lib.hid hI
          have HB2 := Lib.hid hB2
          clear hI hB2 hit hown2 hgrow ho1 hb1 hbx hbz hz0' hat hlt2 c0 c1 q6 q8 hg1
          have q10 : (qc : Int) = 2 + (v1 : Int) := by have := HQ10.out; omega
          go_wp2
          go_roundw
          case rel => exact ⟨k + 1, _, _, HN1.out, hkm1, slice_eq rfl (by have := HPK.out; have := HQ.out; omega) (by have := HPK.out; have := HQC.out; omega), Lib.hid (fun h => by have := HPK.out; have := HQ.out; have := HQC.out; have := HN1.out; omega), R.out, HI, HB2.out⟩
          case measure => simp <;> omega
        · have q10 : ¬ (qc : Int) = 2 + (v1 : Int) := by omega
          go_wp2_with fail
          go_region_held3 (fun w' => w'.cell? ⟨b, off + pos z k, none⟩ = some (.int .u8 v0))
            (first | go_keep | (exact (hb1.cell (by exact hlb)).trans c0) | (rw [hgrow.cell_far _ (by have := hbx.size; simp; omega) (Ne.symm hfar)]; assumption))
            (first | (go_at_call 68; refine (H.out _ (by exact hrr.out) _ _ (.inr rfl)).mono ?_; (rintro e w1 ⟨g1, cap1, rfl, hg1, ho1, hb1⟩; have hbx : Below wr.heap.size wr w1 := (Below.refl _ wr).drew.trans hb1; have hbz := HB.out g1 cap1 w1 hbx.size)) | (refine step_append_lies _ (by rfl) _ _ _ (by rfl) w.heap.size 53 i0 _ 2 32 Try.underlying29 hi hz0 hz1 hz2 rfl (by omega) u4 k (cellsT L k) (by rfl) ((ownsRow_below ho.out.1 hbx).alloc _) ⟨w1.heap.size, 0, none⟩ 1 1 [.int .u8 v0, .slice (some ⟨g1, 0, none⟩) v1 cap1] (by rfl) (by rfl) (World.news_of_block (heap_alloc_new w1 _)) (two_one _ _ _ _) (by omega) hk63 hk31 hbz (w1.heap.size + 1) (by simp) ?_; intro gg cap w2 hown2 hgrow hat hlt2))
          have hz0' := HZ0.out
          have hit : OwnV (w1.alloc (.cells #[.int .u8 v0, .slice (some ⟨g1, 0, none⟩) v1 cap1] 53)) w.heap.size ⟨v0, some ⟨g1, 0, none⟩, v1, cap1, fun j => z (pos z k + 2 + j)⟩ := ⟨z0, by show v1 ≤ _; omega, g1, rfl, by have := hb.size; simp at hg1; omega, ho1.alloc _⟩
          have R := Lib.hid (OwnT.push ((ho.out.below hbx).below ((bself w1).alloc (Nat.le_refl _) (.cells #[.int .u8 v0, .slice (some ⟨g1, 0, none⟩) v1 cap1] 53))) hit hown2 hgrow)
          have hI : IsItZ z (updT L k ⟨v0, some ⟨g1, 0, none⟩, v1, cap1, fun j => z (pos z k + 2 + j)⟩) (k + 1) := by
            intro j hj
            by_cases e : j = k
            · subst e; rw [updT_same]; exact ⟨g1, cap1, by unfold itZ; rw [hz0', hEn.out]⟩
            · rw [updT_other _ _ _ _ e]; exact hL.out j (by omega)
          have hB2 : Below w.heap.size w w2 := ((hb.trans (hbx.mono hbs)).alloc (by have := hbx.size; omega) _).grown hgrow (by have := hbx.size; simp; omega) (fun x e => (ho.out.1.lt x e).1)
          have HI := Lib.hid hI
          have HB2 := Lib.hid hB2
          clear hI hB2 hit hown2 hgrow ho1 hb1 hbx hbz hz0' hat hlt2 c0 c1 q6 q8 hg1
          go_wp2
          go_roundw
          case rel => exact ⟨k + 1, _, _, HN1.out, hkm1, slice_eq rfl (by have := HPK.out; have := HQ.out; omega) (by have := HPK.out; have := HQC.out; omega), Lib.hid (fun h => ⟨b, off, addr_eq (by have := HPK.out; omega), HRW.out⟩), R.out, HI, HB2.out⟩
          case measure => simp <;> omega
    · have hkm2 : k = m := by omega
      subst hkm2
      have ho := Lib.hid hown
      by_cases hend : pos z k = n
      · have h0 : n - pos z k = 0 := by omega
        have he := Lib.hid hend
        rw [h0]
        clear hown hA' hk hend h0 hkm1
        go_wp2
        go_ret2
        exact .inl ⟨he.out, _, L, rfl, ho.out, hL.out, hb⟩
      · have hq0 : 0 < n - pos z k := by omega
        have HE := Lib.hid hend
        have hM := HM.out.2
        by_cases h2 : n < pos z k + 2
        · have q1 : n - pos z k = 1 := by omega
          rw [q1]
          clear hown hA' hk hkm1 hM h2 hq0 q1
          go_wp2
          go_ret2
          exact .inr ⟨HE.out, rfl, hb⟩
        · obtain ⟨b, off, rfl, hr⟩ := hA'.out (by omega)
          have c1 : wr.cell? ⟨b, off + pos z k + 1, none⟩ = some (.int .u8 (z (pos z k + 1))) := (hb.cell (p := ⟨b, off + pos z k + 1, none⟩) hr.1).trans (hr.2.1 (pos z k + 1) (by omega))
          have z1 := hz (pos z k + 1)
          obtain ⟨v1, hv1⟩ := Int.eq_ofNat_of_zero_le z1.1
          have hpk : pos z (k + 1) = pos z k + 2 + v1 := by simp only [pos]; omega
          rw [hv1] at c1 z1
          obtain ⟨q, hq⟩ : ∃ q, n - pos z k = q := ⟨_, rfl⟩
          rw [hq]
          have q1 : (q : Int) < 2 + (v1 : Int) := by omega
          have q3 : (2 : Int) ≤ (q : Int) := by omega
          have q4 : (1 : Int) < (q : Int) := by omega
          have q5 : (0 : Int) < (q : Int) := by omega
          clear hown hA' hk hkm1 hM h2 hq0 hr hv1 hpk hq
          go_wp2
          go_ret2
          exact .inr ⟨HE.out, rfl, hb⟩
end Go.Proofs.Ytigkmcbkckfhbaa
