/- Join writes a list as bytes. Each theorem states its conditions. -/
import Derived.Test.YtigkmcbkckfhbaaTSplit
import Derived.Deep.DeepMust
namespace Go.Proofs.Ytigkmcbkckfhbaa
open Go.RowKit
set_option linter.unusedVariables false

/-- how many bytes the first k take -/
def sz (L : Nat → It) : Nat → Nat
  | 0 => 0
  | k + 1 => sz L k + (2 + (L k).n)
/-- item k is too long, or all to it are -/
def bad (L : Nat → It) (k : Nat) : Prop := 255 < (L k).n ∨ 1492 < sz L (k + 1)
instance (L : Nat → It) (k : Nat) : Decidable (bad L k) := by unfold bad; infer_instance
/-- one row of bytes behind another -/
def cat (z : Nat → Int) (n : Nat) (z' : Nat → Int) : Nat → Int := fun j => if j < n then z j else z' (j - n)
def two (a b : Int) : Nat → Int := fun j => if j = 0 then a else b
/-- the bytes of the first k -/
def J (L : Nat → It) : Nat → Nat → Int
  | 0 => fun _ => 0
  | k + 1 => cat (cat (J L k) (sz L k) (two (L k).ty (L k).n)) (sz L k + 2) (L k).z

theorem cat_bd {z z' : Nat → Int} {n : Nat} (h : ∀ j, 0 ≤ z j ∧ z j ≤ 255) (h' : ∀ j, 0 ≤ z' j ∧ z' j ≤ 255) : ∀ j, 0 ≤ cat z n z' j ∧ cat z n z' j ≤ 255 := by
  intro j; unfold cat; split
  · exact h j
  · exact h' _
theorem two_bd {a b : Int} (h : 0 ≤ a ∧ a ≤ 255) (h' : 0 ≤ b ∧ b ≤ 255) : ∀ j, 0 ≤ two a b j ∧ two a b j ≤ 255 := by
  intro j; unfold two; split
  · exact h
  · exact h'
theorem vals_cat (z z' : Nat → Int) (n m : Nat) : vals z n ++ vals z' m = vals (cat z n z') (n + m) := by
  apply List.ext_getElem
  · simp [vals]
  · intro i h1 h2
    have hi : i < n + m := by simpa [vals] using h2
    by_cases h : i < n <;> simp [vals, List.getElem_append, h, cat]
theorem vals_two (a b : Int) : vals (two a b) 2 = [.int .u8 a, .int .u8 b] := by simp [vals, two, List.range_succ]
theorem vals_ext {z z' : Nat → Int} {n : Nat} (h : ∀ j, j < n → z j = z' j) : vals z n = vals z' n := by
  unfold vals
  apply List.map_congr_left
  intro j hj
  rw [h j (by simpa using hj)]
theorem sz_mono (L : Nat → It) (k m : Nat) (h : k ≤ m) : sz L k ≤ sz L m := by
  induction m with
  | zero => obtain rfl : k = 0 := by omega
            exact Nat.le_refl _
  | succ m ih =>
    by_cases e : k = m + 1
    · subst e; exact Nat.le_refl _
    · have := ih (by omega); simp only [sz]; omega
theorem J_bd (L : Nat → It) (k : Nat) (ht : ∀ j, j < k → 0 ≤ (L j).ty ∧ (L j).ty ≤ 255) (hn : ∀ j, j < k → (L j).n ≤ 255) (hz : ∀ j, j < k → ∀ i, 0 ≤ (L j).z i ∧ (L j).z i ≤ 255) : ∀ j, 0 ≤ J L k j ∧ J L k j ≤ 255 := by
  induction k with
  | zero => intro j; simp [J]
  | succ k ih => exact cat_bd (cat_bd (ih (fun j hj => ht j (by omega)) (fun j hj => hn j (by omega)) (fun j hj => hz j (by omega))) (two_bd (ht k (by omega)) ⟨by omega, by have := hn k (by omega); omega⟩)) (hz k (by omega))
theorem rd_news' {w : World} {n : Nat} {z : Nat → Int} {ad : Addr} (h : Rd w (some ad) n z) : ∀ j u, (vals z n)[j]? = some u → w.cell? (ad.add j) = some u := by
  intro j u hu
  obtain ⟨hj, rfl⟩ := vals_at' z n j u hu
  obtain ⟨b, off, e, hr⟩ := h.row (by omega)
  injection e with e
  subst e
  have hadd : (⟨b, off, none⟩ : Addr).add j = ⟨b, off + j, none⟩ := by unfold Addr.add; split <;> simp_all
  rw [hadd]
  exact hr.2.1 j hj

theorem two_new2 (w : World) (o : Obj) (a b : Value) (t : TypeId) : ∀ j u, [a, b][j]? = some u → ((w.alloc o).alloc (.cells #[a, b] t)).cell? ((⟨w.heap.size + 1, 0, none⟩ : Addr).add j) = some u := by
  have := two_new (w.alloc o) a b t
  rwa [World.size_alloc] at this

/-- the first m0 fit; behind them the list ends, or one doesn't fit -/
def JEnds (L : Nat → It) (m m0 : Nat) : Prop := m0 ≤ m ∧ (∀ k, k < m0 → ¬ bad L k) ∧ (m0 = m ∨ (m0 < m ∧ bad L m0))
theorem jends (L : Nat → It) (m : Nat) : ∃ m0, JEnds L m m0 := by
  induction m with
  | zero => exact ⟨0, by omega, fun k hk => by omega, .inl rfl⟩
  | succ m ih =>
    obtain ⟨m0, h1, h2, h3⟩ := ih
    rcases h3 with rfl | ⟨h3, h4⟩
    · by_cases hb : bad L m0
      · exact ⟨m0, by omega, h2, .inr ⟨by omega, hb⟩⟩
      · refine ⟨m0 + 1, by omega, fun k hk => ?_, .inl rfl⟩
        by_cases e : k = m0
        · subst e; exact hb
        · exact h2 k (by omega)
    · exact ⟨m0, by omega, h2, .inr ⟨by omega, h4⟩⟩
/-- what Join leaves -/
def JoinPost (w : World) (L : Nat → It) (m m0 : Nat) (e : Ending) (w' : World) : Prop :=
  (m0 = m ∧ ∃ g cap, e = .returned (.tuple #[.slice (some ⟨g, 0, none⟩) (sz L m) cap, .int .i64 0]) ∧ w.heap.size ≤ g ∧ Own8 w' g (sz L m) cap (J L m) ∧ Below w.heap.size w w') ∨
  (m0 < m ∧ e = .returned (.tuple #[.slice none 0 0, .int .i64 2]) ∧ Below w.heap.size w w')

set_option maxHeartbeats 4000000 in
set_option maxRecDepth 100000 in
theorem join_any (A : Option Addr) (m c m0 : Nat) (L : Nat → It) (w : World) (h : RdT w A m L) (hc : m ≤ c) (hcm : c ≤ 9223372036854775807) (hm : JEnds L m m0) :
    Calls Try.prog 32 #[.slice A m c] w (JoinPost w L m m0) := by
  obtain ⟨i0, hi, hz0, hz1, hz2⟩ := info_parts info_u8
  have HM := Lib.hid hm
  have HR := Lib.hid h
  have hm0 := hm.1
  clear h hm
  go_enter Try.func32, Try.ntmps32
  go_wp2_with fail
  go_loopw [4, 12] (fun s i wr => ∃ k : Nat, k ≤ m0 ∧ s = .int .i64 (sz L k : Nat) ∧ i = .int .i64 k ∧ Below w.heap.size w wr)
    (fun _ i _ => m - (intOf i).toNat)
  case atStart => exact ⟨0, by omega, rfl, rfl, bself w⟩
  case round =>
    obtain ⟨k, hk, rfl, rfl, hb⟩ := hrel
    by_cases hkm : k < m
    · obtain ⟨b, off, rfl, hr⟩ := (HR.out.below hb).row (by omega)
      obtain ⟨c0, c1, c2⟩ := hr.2 k hkm
      have hn := c2.2.2.2
      have hs : sz L k ≤ 1492 := by
        rcases Nat.eq_zero_or_pos k with h0 | h0
        · subst h0; simp [sz]
        · have := HM.out.2.1 (k - 1) (by omega)
          unfold bad at this
          rw [show k - 1 + 1 = k by omega] at this
          omega
      have hs1 : sz L (k + 1) = sz L k + (2 + (L k).n) := rfl
      have HB2 := Lib.hid c2
      generalize hLn : (L k).n = n at *
      generalize hLs : sz L k = s at *
      by_cases hk0 : k < m0
      · have hnb := HM.out.2.1 k hk0
        unfold bad at hnb
        rw [hs1, hLn] at hnb
        have q1 : (n : Int) ≤ 255 := by omega
        have q2 : (s : Int) + (2 + (n : Int)) ≤ 1492 := by omega
        have HS1 := Lib.hid hs1
        have HLs := Lib.hid hLs
        have HLn := Lib.hid hLn
        clear hnb hs1 hr hLn hLs c2
        go_wp2
        go_roundw
        case rel => exact ⟨k + 1, by omega, by rw [HS1.out]; go_num, by go_num, hb.alloc hb.size _⟩
        case measure => simp only [intOf]; omega
      · obtain rfl : k = m0 := by omega
        have hbad : bad L k := by
          rcases HM.out.2.2 with h | h
          · omega
          · exact h.2
        unfold bad at hbad
        rw [hs1, hLn] at hbad
        have hend : JoinPost w L m k (.returned (.tuple #[.slice none 0 0, .int .i64 2])) (wr.alloc (.cells #[.int .u8 (L k).ty, .slice (L k).A n (L k).c] 53)) := .inr ⟨hkm, rfl, hb.alloc hb.size _⟩
        have HE := Lib.hid hend
        have HBA := Lib.hid hbad
        clear hs1 hr hLn hLs c2 hend hbad
        by_cases h1 : 255 < n
        · have q1 : (255 : Int) < (n : Int) := by omega
          go_wp2
          go_ret2
          exact HE.out
        · have q1 : (n : Int) ≤ 255 := by omega
          have q2 : (1492 : Int) < (s : Int) + (2 + (n : Int)) := by have := HBA.out; omega
          go_wp2
          go_ret2
          exact HE.out
    · obtain rfl : k = m := by omega
      obtain rfl : m0 = k := by omega
      have hs : sz L m0 ≤ 1492 := by
        rcases Nat.eq_zero_or_pos m0 with h0 | h0
        · subst h0; simp [sz]
        · have := HM.out.2.1 (m0 - 1) (by omega)
          unfold bad at this
          rw [show m0 - 1 + 1 = m0 by omega] at this
          omega
      have hsi : ∀ j, j ≤ m0 → sz L j ≤ sz L m0 := fun j hj => sz_mono L j m0 hj
      have HSI := Lib.hid hsi
      have HJB := Lib.hid (fun k (hk : k ≤ m0) (wk : World) (hR : RdT wk A m0 L) => J_bd L k (fun j hj => (by
        obtain ⟨b, off, rfl, hr⟩ := hR.row (by omega)
        exact (hr.2 j (by omega)).2.2.1)) (fun j hj => by
        have := HM.out.2.1 j (by omega)
        unfold bad at this
        omega) (fun j hj => (by
        obtain ⟨b, off, rfl, hr⟩ := hR.row (by omega)
        exact (hr.2 j (by omega)).2.2.2.1.2)))
      clear hsi hk hkm
      generalize hS : sz L m0 = S at *
      go_wp2_with (refine wpList_make_own _ rfl (.const (.int .i64 0)) (.tmp 31) 35 rfl w.heap.size 5 i0 (.int .u8 0) 1 Try.underlying35 hi hz0 hz1 .i64 .i64 (S : Int) S rfl rfl rfl (by rw [hz2]; omega) (by unfold maxLen; omega) (by exact hb.size) ?_; intro w1 hown1 hgrow1)
      have hbw := hb.size
      have hG : w.heap.size ≤ wr.heap.size := hbw
      have hb1 : Below w.heap.size w w1 := hb.grown hgrow1 hbw (by simp)
      have hg1s := hgrow1.size
      generalize hGG : wr.heap.size = G at *
      clear hb hgrow1 hGG
      go_loopw [7, 35] (fun p i w2 => ∃ k : Nat, k ≤ m0 ∧ i = .int .i64 k ∧ p = .slice (some ⟨G, 0, none⟩) (sz L k) S ∧ w2.ownsRow w.heap.size 5 1 (.slice (some ⟨G, 0, none⟩) (sz L k) S) (sz L k) (vals (J L k) (sz L k)) ∧ Below w.heap.size w w2)
        (fun _ i _ => m0 - (intOf i).toNat)
      case atStart => exact ⟨0, by omega, rfl, rfl, hown1, hb1⟩
      case round =>
        obtain ⟨k, hk, rfl, rfl, hown, hb⟩ := hrel
        by_cases hkm : k < m0
        · obtain ⟨b, off, rfl, hr⟩ := (HR.out.below hb).row (by omega)
          obtain ⟨c0, c1, c2⟩ := hr.2 k hkm
          have hRd : Rd w (L k).A (L k).n (L k).z := by
            obtain ⟨b', off', _, hr'⟩ := HR.out.row (by omega)
            exact (hr'.2 k hkm).2.2.2.1
          have hnone := c2.2.2.1
          have hs1 : sz L (k + 1) = sz L k + (2 + (L k).n) := rfl
          have hs2 := HSI.out (k + 1) (by omega)
          have hnb := HM.out.2.1 k hkm
          unfold bad at hnb
          have q1 : ((L k).n : Int) ≤ 255 := by omega
          have hGl := (hown.lt G rfl).2
          have HRd := Lib.hid hRd
          have HNo := Lib.hid hnone
          have HO := Lib.hid hown
          have HSS : sz L k + 2 ≤ S := by omega
          have HSS2 : sz L k + 2 + (L k).n ≤ S := by omega
          have hJ : vals (J L k) (sz L k) ++ [.int .u8 (L k).ty, .int .u8 ((L k).n : Int)] ++ vals (L k).z (L k).n = vals (J L (k + 1)) (sz L (k + 1)) := by
            rw [← vals_two, vals_cat, vals_cat]
            show vals _ (sz L k + 2 + (L k).n) = vals _ (sz L k + (2 + (L k).n))
            rw [Nat.add_assoc]
            rfl
          have HJ := Lib.hid hJ
          have HSE := Lib.hid hs1
          have hn1 := vals_one (L k).z (L k).n
          have hnl := vals_len (L k).z (L k).n
          have hone := Lib.hid (show ∀ u ∈ [Value.int .u8 (L k).ty, Value.int .u8 ((L k).n : Int)], u.oneCell' = true by intro u hu; simp only [List.mem_cons, List.not_mem_nil, or_false] at hu; rcases hu with rfl | rfl <;> rfl)
          have hHN1 := Lib.hid hn1
          have hHNL := Lib.hid (show (vals (L k).z (L k).n).length = (L k).n * 1 by rw [hnl]; omega)
          have hb2s := hb.size
          clear hr hnb hs1 hs2 hRd hnone hown hJ hn1 hnl c2
          generalize hty : (L k).ty = ty at *
          generalize hLA : (L k).A = LA at *
          generalize hLn : (L k).n = n at *
          generalize hLc : (L k).c = lc at *
          generalize hsk : sz L k = s at *
          have HTY := Lib.hid hty
          have HLN := Lib.hid hLn
          have HSK := Lib.hid hsk
          clear hty hLA hLn hLc hsk
          go_wp2_with (first
            | (at_builtin; refine wpList_append_fits _ rfl (.tmp 39) (.tmp 46) 35 rfl w.heap.size 5 i0 1 Try.underlying35 hi hz1 G s S _ rfl ((HO.out.alloc _).alloc _) ⟨wr.heap.size + 1, 0, none⟩ 2 2 [.int .u8 ty, .int .u8 (n : Int)] rfl rfl (two_new2 wr _ _ _ _) hone.out HSS ?_; intro w3 hown3 hgrow3; have ct : w3.cell? ⟨wr.heap.size, 1, none⟩ = some (.slice LA n lc) := hgrow3.cell (by simp) (by simp; omega))
            | (at_builtin; go_must (refine wpList_append_fits_any _ rfl (.tmp 48) (.tmp 50) 35 rfl w.heap.size 5 i0 1 Try.underlying35 hi hz1 G (s + 2) S _ rfl hown3 LA n lc (vals (L k).z n) rfl hHNL.out HNo.out (by intro ad e; exact rd_news' (e ▸ HRd.out.below (((hb.alloc hb2s _).alloc (by simp; omega) _).grown hgrow3 (by simp; omega) (by simp; omega)) rfl)) hHN1.out HSS2 ?_); intro w4 hown4 hgrow4))
          have hb4 := Lib.hid ((((hb.alloc hb2s (.cells #[.int .u8 ty, .slice LA n lc] 53)).alloc (by simp; omega) (.cells #[.int .u8 ty, .int .u8 (n : Int)] 5)).grown hgrow3 (by simp; omega) (by simp; omega)).grown hgrow4 (by have := hgrow3.size; simp at this; omega) (by simp; omega))
          have ho4 := Lib.hid hown4
          clear hown4 hown3 hgrow3 hgrow4 ct c0 c1
          go_wp2
          go_roundw
          case rel => exact ⟨k + 1, by omega, by go_num, by rw [HSE.out, Nat.add_assoc], by have := ho4.out; rw [HJ.out] at this; rw [HSE.out, ← Nat.add_assoc] at this ⊢; exact this, hb4.out⟩
          case measure => simp only [intOf]; omega
        · obtain rfl : k = m0 := by omega
          have ho := Lib.hid hown
          have hbx := HJB.out k (by omega) wr (HR.out.below hb)
          have hB := Lib.hid hbx
          clear hown hbx
          subst hS
          go_wp2
          go_ret2
          obtain ⟨g, cap, e, hg, hO⟩ := own_of ho.out rfl (by simp) hB.out
          cases e
          exact .inl ⟨rfl, G, _, rfl, by omega, hO, hb⟩
end Go.Proofs.Ytigkmcbkckfhbaa
