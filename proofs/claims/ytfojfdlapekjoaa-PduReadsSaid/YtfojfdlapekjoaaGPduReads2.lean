/- Texts of this claim put together; each theorem states its conditions. -/
import Derived.Test.YtfojfdlapekjoaaGPduReads1
import Derived.Deep.DeepMust
import Derived.Test.YtfojfdlapekjoaaRows
import Derived.Deep.SlicePairs
import Derived.OpenShut
import Derived.ProofKit
import Derived.SizedLaws
import Derived.Deep.MidRow
import Derived.Laws.Tables
import Derived.Laws.Rows
import Derived.Laws.ResultCell
import Derived.Deep.RegionHeld3
import Derived.Laws.CopyOwn
/- Join writes a list as bytes. Each theorem states its conditions. -/
namespace Go.Proofs.Ytfojfdlapekjoaa
open Go.RowKit
set_option linter.unusedVariables false

/-- how many bytes the first k take -/
def sz (L : Nat → It) : Nat → Nat
  | 0 => 0
  | k + 1 => sz L k + (2 + (L k).n)
/-- item k is too long, or all to it are -/
def bad (L : Nat → It) (k : Nat) : Prop := 255 < (L k).n ∨ 1492 < sz L (k + 1)
instance (L : Nat → It) (k : Nat) : Decidable (bad L k) := by unfold bad; infer_instance
/-- one row of bytes behind another -/
def cat (z : Nat → Int) (n : Nat) (z' : Nat → Int) : Nat → Int := fun j => if j < n then z j else z' (j - n)
def two (a b : Int) : Nat → Int := fun j => if j = 0 then a else b
/-- the bytes of the first k -/
def J (L : Nat → It) : Nat → Nat → Int
  | 0 => fun _ => 0
  | k + 1 => cat (cat (J L k) (sz L k) (two (L k).ty (L k).n)) (sz L k + 2) (L k).z

theorem cat_bd {z z' : Nat → Int} {n : Nat} (h : ∀ j, 0 ≤ z j ∧ z j ≤ 255) (h' : ∀ j, 0 ≤ z' j ∧ z' j ≤ 255) : ∀ j, 0 ≤ cat z n z' j ∧ cat z n z' j ≤ 255 := by
  intro j; unfold cat; split
  · exact h j
  · exact h' _
theorem two_bd {a b : Int} (h : 0 ≤ a ∧ a ≤ 255) (h' : 0 ≤ b ∧ b ≤ 255) : ∀ j, 0 ≤ two a b j ∧ two a b j ≤ 255 := by
  intro j; unfold two; split
  · exact h
  · exact h'
theorem vals_cat (z z' : Nat → Int) (n m : Nat) : vals z n ++ vals z' m = vals (cat z n z') (n + m) := by
  apply List.ext_getElem
  · simp [vals]
  · intro i h1 h2
    have hi : i < n + m := by simpa [vals] using h2
    by_cases h : i < n <;> simp [vals, List.getElem_append, h, cat]
theorem vals_two (a b : Int) : vals (two a b) 2 = [.int .u8 a, .int .u8 b] := by simp [vals, two, List.range_succ]
theorem vals_ext {z z' : Nat → Int} {n : Nat} (h : ∀ j, j < n → z j = z' j) : vals z n = vals z' n := by
  unfold vals
  apply List.map_congr_left
  intro j hj
  rw [h j (by simpa using hj)]
theorem sz_mono (L : Nat → It) (k m : Nat) (h : k ≤ m) : sz L k ≤ sz L m := by
  induction m with
  | zero => obtain rfl : k = 0 := by omega
            exact Nat.le_refl _
  | succ m ih =>
    by_cases e : k = m + 1
    · subst e; exact Nat.le_refl _
    · have := ih (by omega); simp only [sz]; omega
theorem J_bd (L : Nat → It) (k : Nat) (ht : ∀ j, j < k → 0 ≤ (L j).ty ∧ (L j).ty ≤ 255) (hn : ∀ j, j < k → (L j).n ≤ 255) (hz : ∀ j, j < k → ∀ i, 0 ≤ (L j).z i ∧ (L j).z i ≤ 255) : ∀ j, 0 ≤ J L k j ∧ J L k j ≤ 255 := by
  induction k with
  | zero => intro j; simp [J]
  | succ k ih => exact cat_bd (cat_bd (ih (fun j hj => ht j (by omega)) (fun j hj => hn j (by omega)) (fun j hj => hz j (by omega))) (two_bd (ht k (by omega)) ⟨by omega, by have := hn k (by omega); omega⟩)) (hz k (by omega))
theorem rd_news' {w : World} {n : Nat} {z : Nat → Int} {ad : Addr} (h : Rd w (some ad) n z) : ∀ j u, (vals z n)[j]? = some u → w.cell? (ad.add j) = some u := by
  intro j u hu
  obtain ⟨hj, rfl⟩ := vals_at' z n j u hu
  obtain ⟨b, off, e, hr⟩ := h.row (by omega)
  injection e with e
  subst e
  have hadd : (⟨b, off, none⟩ : Addr).add j = ⟨b, off + j, none⟩ := by unfold Addr.add; split <;> simp_all
  rw [hadd]
  exact hr.2.1 j hj

theorem two_new2 (w : World) (o : Obj) (a b : Value) (t : TypeId) : ∀ j u, [a, b][j]? = some u → ((w.alloc o).alloc (.cells #[a, b] t)).cell? ((⟨w.heap.size + 1, 0, none⟩ : Addr).add j) = some u := by
  have := two_new (w.alloc o) a b t
  rwa [World.size_alloc] at this

/-- the first m0 fit; behind them the list ends, or one doesn't fit -/
def JEnds (L : Nat → It) (m m0 : Nat) : Prop := m0 ≤ m ∧ (∀ k, k < m0 → ¬ bad L k) ∧ (m0 = m ∨ (m0 < m ∧ bad L m0))
theorem jends (L : Nat → It) (m : Nat) : ∃ m0, JEnds L m m0 := by
  induction m with
  | zero => exact ⟨0, by omega, fun k hk => by omega, .inl rfl⟩
  | succ m ih =>
    obtain ⟨m0, h1, h2, h3⟩ := ih
    rcases h3 with rfl | ⟨h3, h4⟩
    · by_cases hb : bad L m0
      · exact ⟨m0, by omega, h2, .inr ⟨by omega, hb⟩⟩
      · refine ⟨m0 + 1, by omega, fun k hk => ?_, .inl rfl⟩
        by_cases e : k = m0
        · subst e; exact hb
        · exact h2 k (by omega)
    · exact ⟨m0, by omega, h2, .inr ⟨by omega, h4⟩⟩
/-- what Join leaves -/
def JoinPost (w : World) (L : Nat → It) (m m0 : Nat) (e : Ending) (w' : World) : Prop :=
  (m0 = m ∧ ∃ g cap, e = .returned (.tuple #[.slice (some ⟨g, 0, none⟩) (sz L m) cap, .int .i64 0]) ∧ w.heap.size ≤ g ∧ Own8 w' g (sz L m) cap (J L m) ∧ Below w.heap.size w w') ∨
  (m0 < m ∧ e = .returned (.tuple #[.slice none 0 0, .int .i64 2]) ∧ Below w.heap.size w w')

set_option maxHeartbeats 4000000 in
set_option maxRecDepth 100000 in
theorem join_any (A : Option Addr) (m c m0 : Nat) (L : Nat → It) (w : World) (h : RdT w A m L) (hc : m ≤ c) (hcm : c ≤ 9223372036854775807) (hm : JEnds L m m0) :
    Calls Try.prog 32 #[.slice A m c] w (JoinPost w L m m0) := by
  obtain ⟨i0, hi, hz0, hz1, hz2⟩ := info_parts info_u8
  have HM := Lib.hid hm
  have HR := Lib.hid h
  have hm0 := hm.1
  clear h hm
  go_enter Try.func32, Try.ntmps32
  go_wp2_with fail
  go_loopw [4, 12] (fun s i wr => ∃ k : Nat, k ≤ m0 ∧ s = .int .i64 (sz L k : Nat) ∧ i = .int .i64 k ∧ Below w.heap.size w wr)
    (fun _ i _ => m - (intOf i).toNat)
  case atStart => exact ⟨0, by omega, rfl, rfl, bself w⟩
  case round =>
    obtain ⟨k, hk, rfl, rfl, hb⟩ := hrel
    by_cases hkm : k < m
    · obtain ⟨b, off, rfl, hr⟩ := (HR.out.below hb).row (by omega)
      obtain ⟨c0, c1, c2⟩ := hr.2 k hkm
      have hn := c2.2.2.2
      have hs : sz L k ≤ 1492 := by
        rcases Nat.eq_zero_or_pos k with h0 | h0
        · subst h0; simp [sz]
        · have := HM.out.2.1 (k - 1) (by omega)
          unfold bad at this
          rw [show k - 1 + 1 = k by omega] at this
          omega
      have hs1 : sz L (k + 1) = sz L k + (2 + (L k).n) := rfl
      have HB2 := Lib.hid c2
      generalize hLn : (L k).n = n at *
      generalize hLs : sz L k = s at *
      by_cases hk0 : k < m0
      · have hnb := HM.out.2.1 k hk0
        unfold bad at hnb
        rw [hs1, hLn] at hnb
        have q1 : (n : Int) ≤ 255 := by omega
        have q2 : (s : Int) + (2 + (n : Int)) ≤ 1492 := by omega
        have HS1 := Lib.hid hs1
        have HLs := Lib.hid hLs
        have HLn := Lib.hid hLn
        clear hnb hs1 hr hLn hLs c2
        go_wp2
        go_roundw
        case rel => exact ⟨k + 1, by omega, by rw [HS1.out]; go_num, by go_num, hb.alloc hb.size _⟩
        case measure => simp only [intOf]; omega
      · obtain rfl : k = m0 := by omega
        have hbad : bad L k := by
          rcases HM.out.2.2 with h | h
          · omega
          · exact h.2
        unfold bad at hbad
        rw [hs1, hLn] at hbad
        have hend : JoinPost w L m k (.returned (.tuple #[.slice none 0 0, .int .i64 2])) (wr.alloc (.cells #[.int .u8 (L k).ty, .slice (L k).A n (L k).c] 53)) := .inr ⟨hkm, rfl, hb.alloc hb.size _⟩
        have HE := Lib.hid hend
        have HBA := Lib.hid hbad
        clear hs1 hr hLn hLs c2 hend hbad
        by_cases h1 : 255 < n
        · have q1 : (255 : Int) < (n : Int) := by omega
          go_wp2
          go_ret2
          exact HE.out
        · have q1 : (n : Int) ≤ 255 := by omega
          have q2 : (1492 : Int) < (s : Int) + (2 + (n : Int)) := by have := HBA.out; omega
          go_wp2
          go_ret2
          exact HE.out
    · obtain rfl : k = m := by omega
      obtain rfl : m0 = k := by omega
      have hs : sz L m0 ≤ 1492 := by
        rcases Nat.eq_zero_or_pos m0 with h0 | h0
        · subst h0; simp [sz]
        · have := HM.out.2.1 (m0 - 1) (by omega)
          unfold bad at this
          rw [show m0 - 1 + 1 = m0 by omega] at this
          omega
      have hsi : ∀ j, j ≤ m0 → sz L j ≤ sz L m0 := fun j hj => sz_mono L j m0 hj
      have HSI := Lib.hid hsi
      have HJB := Lib.hid (fun k (hk : k ≤ m0) (wk : World) (hR : RdT wk A m0 L) => J_bd L k (fun j hj => (by
        obtain ⟨b, off, rfl, hr⟩ := hR.row (by omega)
        exact (hr.2 j (by omega)).2.2.1)) (fun j hj => by
        have := HM.out.2.1 j (by omega)
        unfold bad at this
        omega) (fun j hj => (by
        obtain ⟨b, off, rfl, hr⟩ := hR.row (by omega)
        exact (hr.2 j (by omega)).2.2.2.1.2)))
      clear hsi hk hkm
      generalize hS : sz L m0 = S at *
      go_wp2_with (refine wpList_make_own _ rfl (.const (.int .i64 0)) (.tmp 31) 35 rfl w.heap.size 5 i0 (.int .u8 0) 1 Try.underlying35 hi hz0 hz1 .i64 .i64 (S : Int) S rfl rfl rfl (by rw [hz2]; omega) (by unfold maxLen; omega) (by exact hb.size) ?_; intro w1 hown1 hgrow1)
      have hbw := hb.size
      have hG : w.heap.size ≤ wr.heap.size := hbw
      have hb1 : Below w.heap.size w w1 := hb.grown hgrow1 hbw (by simp)
      have hg1s := hgrow1.size
      generalize hGG : wr.heap.size = G at *
      clear hb hgrow1 hGG
      go_loopw [7, 35] (fun p i w2 => ∃ k : Nat, k ≤ m0 ∧ i = .int .i64 k ∧ p = .slice (some ⟨G, 0, none⟩) (sz L k) S ∧ w2.ownsRow w.heap.size 5 1 (.slice (some ⟨G, 0, none⟩) (sz L k) S) (sz L k) (vals (J L k) (sz L k)) ∧ Below w.heap.size w w2)
        (fun _ i _ => m0 - (intOf i).toNat)
      case atStart => exact ⟨0, by omega, rfl, rfl, hown1, hb1⟩
      case round =>
        obtain ⟨k, hk, rfl, rfl, hown, hb⟩ := hrel
        by_cases hkm : k < m0
        · obtain ⟨b, off, rfl, hr⟩ := (HR.out.below hb).row (by omega)
          obtain ⟨c0, c1, c2⟩ := hr.2 k hkm
          have hRd : Rd w (L k).A (L k).n (L k).z := by
            obtain ⟨b', off', _, hr'⟩ := HR.out.row (by omega)
            exact (hr'.2 k hkm).2.2.2.1
          have hnone := c2.2.2.1
          have hs1 : sz L (k + 1) = sz L k + (2 + (L k).n) := rfl
          have hs2 := HSI.out (k + 1) (by omega)
          have hnb := HM.out.2.1 k hkm
          unfold bad at hnb
          have q1 : ((L k).n : Int) ≤ 255 := by omega
          have hGl := (hown.lt G rfl).2
          have HRd := Lib.hid hRd
          have HNo := Lib.hid hnone
          have HO := Lib.hid hown
          have HSS : sz L k + 2 ≤ S := by omega
          have HSS2 : sz L k + 2 + (L k).n ≤ S := by omega
          have hJ : vals (J L k) (sz L k) ++ [.int .u8 (L k).ty, .int .u8 ((L k).n : Int)] ++ vals (L k).z (L k).n = vals (J L (k + 1)) (sz L (k + 1)) := by
            rw [← vals_two, vals_cat, vals_cat]
            show vals _ (sz L k + 2 + (L k).n) = vals _ (sz L k + (2 + (L k).n))
            rw [Nat.add_assoc]
            rfl
          have HJ := Lib.hid hJ
          have HSE := Lib.hid hs1
          have hn1 := vals_one (L k).z (L k).n
          have hnl := vals_len (L k).z (L k).n
          have hone := Lib.hid (show ∀ u ∈ [Value.int .u8 (L k).ty, Value.int .u8 ((L k).n : Int)], u.oneCell' = true by intro u hu; simp only [List.mem_cons, List.not_mem_nil, or_false] at hu; rcases hu with rfl | rfl <;> rfl)
          have hHN1 := Lib.hid hn1
          have hHNL := Lib.hid (show (vals (L k).z (L k).n).length = (L k).n * 1 by rw [hnl]; omega)
          have hb2s := hb.size
          clear hr hnb hs1 hs2 hRd hnone hown hJ hn1 hnl c2
          generalize hty : (L k).ty = ty at *
          generalize hLA : (L k).A = LA at *
          generalize hLn : (L k).n = n at *
          generalize hLc : (L k).c = lc at *
          generalize hsk : sz L k = s at *
          have HTY := Lib.hid hty
          have HLN := Lib.hid hLn
          have HSK := Lib.hid hsk
          clear hty hLA hLn hLc hsk
          go_wp2_with (first
            | (at_builtin; refine wpList_append_fits _ rfl (.tmp 39) (.tmp 46) 35 rfl w.heap.size 5 i0 1 Try.underlying35 hi hz1 G s S _ rfl ((HO.out.alloc _).alloc _) ⟨wr.heap.size + 1, 0, none⟩ 2 2 [.int .u8 ty, .int .u8 (n : Int)] rfl rfl (two_new2 wr _ _ _ _) hone.out HSS ?_; intro w3 hown3 hgrow3; have ct : w3.cell? ⟨wr.heap.size, 1, none⟩ = some (.slice LA n lc) := hgrow3.cell (by simp) (by simp; omega))
            | (at_builtin; go_must (refine wpList_append_fits_any _ rfl (.tmp 48) (.tmp 50) 35 rfl w.heap.size 5 i0 1 Try.underlying35 hi hz1 G (s + 2) S _ rfl hown3 LA n lc (vals (L k).z n) rfl hHNL.out HNo.out (by intro ad e; exact rd_news' (e ▸ HRd.out.below (((hb.alloc hb2s _).alloc (by simp; omega) _).grown hgrow3 (by simp; omega) (by simp; omega)) rfl)) hHN1.out HSS2 ?_); intro w4 hown4 hgrow4))
          have hb4 := Lib.hid ((((hb.alloc hb2s (.cells #[.int .u8 ty, .slice LA n lc] 53)).alloc (by simp; omega) (.cells #[.int .u8 ty, .int .u8 (n : Int)] 5)).grown hgrow3 (by simp; omega) (by simp; omega)).grown hgrow4 (by have := hgrow3.size; simp at this; omega) (by simp; omega))
          have ho4 := Lib.hid hown4
          clear hown4 hown3 hgrow3 hgrow4 ct c0 c1
          go_wp2
          go_roundw
          case rel => exact ⟨k + 1, by omega, by go_num, by rw [HSE.out, Nat.add_assoc], by have := ho4.out; rw [HJ.out] at this; rw [HSE.out, ← Nat.add_assoc] at this ⊢; exact this, hb4.out⟩
          case measure => simp only [intOf]; omega
        · obtain rfl : k = m0 := by omega
          have ho := Lib.hid hown
          have hbx := HJB.out k (by omega) wr (HR.out.below hb)
          have hB := Lib.hid hbx
          clear hown hbx
          subst hS
          go_wp2
          go_ret2
          obtain ⟨g, cap, e, hg, hO⟩ := own_of ho.out rfl (by simp) hB.out
          cases e
          exact .inl ⟨rfl, G, _, rfl, by omega, hO, hb⟩
end Go.Proofs.Ytfojfdlapekjoaa

/- The document's Twin of a list. Each theorem states its conditions. -/
namespace Go.Proofs.Ytfojfdlapekjoaa
open Go.RowKit
set_option linter.unusedVariables false

/-- the same item, its bytes elsewhere -/
def Alike (t t' : It) : Prop := t.ty = t'.ty ∧ t.n = t'.n ∧ t.z = t'.z
def TwinTPost (w : World) (m : Nat) (L : Nat → It) (e : Ending) (w' : World) : Prop :=
  ∃ v L', e = .returned v ∧ OwnT w' w.heap.size v m L' ∧ (∀ j, j < m → Alike (L j) (L' j)) ∧ Below w.heap.size w w'

set_option maxHeartbeats 4000000 in
set_option maxRecDepth 100000 in
theorem twinT_any (A : Option Addr) (m c : Nat) (L : Nat → It) (w : World) (h : RdT w A m L) (hm : m * 32 ≤ 140737488351232) :
    Calls Try.prog 11 #[.slice A m c] w (TwinTPost w m L) := by
  obtain ⟨i0, hi, hz0, hz1, hz2⟩ := info_parts info_tlv
  have HR := Lib.hid h
  clear h
  go_enter Try.func11, Try.ntmps11
  go_wp2_with fail
  go_loopw [3, 8] (fun v i wr => ∃ (k : Nat) (L' : Nat → It), k ≤ m ∧ i = .int .i64 k ∧ OwnT wr w.heap.size v k L' ∧ Hid (∀ j, j < k → Alike (L j) (L' j)) ∧ Below w.heap.size w wr)
    (fun _ i _ => m - (intOf i).toNat)
  case atStart => exact ⟨0, L, by omega, rfl, OwnT.nil _ _ _, Lib.hid (fun j hj => by omega), bself w⟩
  case round =>
    obtain ⟨k, L', hk, rfl, hown, hL, hb⟩ := hrel
    by_cases hkm : k < m
    · obtain ⟨b, off, rfl, hr⟩ := (HR.out.below hb).row (by omega)
      obtain ⟨c0, c1, c2⟩ := hr.2 k hkm
      have H := Lib.hid (fun (W : World) (hW : Rd W (L k).A (L k).n (L k).z) => twin_any (L k).A (L k).n (L k).c (L k).z W hW c2.2.2.1 (by have := c2.2.2.2; omega))
      have hRd : Rd w (L k).A (L k).n (L k).z := by
        obtain ⟨b', off', _, hr'⟩ := HR.out.row (by omega)
        exact (hr'.2 k hkm).2.2.2.1
      have HRd := Lib.hid hRd
      have hbs := hb.size
      have hfar : some wr.heap.size ≠ u3.ownBlock := fun e => by have := (hown.1.lt _ e.symm).2; omega
      have ho := Lib.hid hown
      have hk31 : (k + 1) * 32 ≤ 140737488355328 := by omega
      have hk63 : k + 1 ≤ maxLen := by unfold maxLen; omega
      have hbase : ∀ g1 cap1 (W : World), wr.heap.size ≤ W.heap.size → w.heap.size ≤ (W.alloc (.cells #[.int .u8 (L k).ty, .slice (some ⟨g1, 0, none⟩) (L k).n cap1] 53)).heap.size := fun g1 cap1 W h => by simp; omega
      have HB := Lib.hid hbase
      have z0 := c2.1
      have hn := c2.2.2.2
      clear hown hbase hr c2 hRd
      generalize hty : (L k).ty = ty at *
      generalize hLA : (L k).A = LA at *
      generalize hLn : (L k).n = n at *
      generalize hLc : (L k).c = lc at *
      generalize hLz : (L k).z = lz at *
      have HTY := Lib.hid hty
      have HLN := Lib.hid hLn
      have HLZ := Lib.hid hLz
      clear hty hLA hLn hLc hLz
      go_wp2_with fail
      go_region_held3 (fun w' => w'.cell? ⟨wr.heap.size, 0, none⟩ = some (.int .u8 ty) ∧ w'.cell? ⟨wr.heap.size, 1, none⟩ = some (.slice LA n lc))
        (first | go_keep | exact ⟨k0, k1⟩ | exact ⟨j0, j1⟩)
        (first | (go_at_call 25; refine (H.out _ (HRd.out.below (by exact (hb.alloc hbs _).drew) rfl)).mono ?_; (rintro e w1 ⟨g1, cap1, rfl, hg1, ho1, hb1⟩; have hbx : Below (wr.heap.size + 1) (wr.alloc (.cells #[.int .u8 ty, .slice LA n lc] 53)) w1 := (by have := (Below.refl _ _).drew.trans hb1; simpa using this); have hbz := HB.out g1 cap1 w1 (by have := hbx.size; simp at this; omega); have k0 : w1.cell? ⟨wr.heap.size, 0, none⟩ = some (.int .u8 ty) := (hbx.cell (p := ⟨wr.heap.size, 0, none⟩) (Nat.lt_succ_self _)).trans (by simp); have k1 : w1.cell? ⟨wr.heap.size, 1, none⟩ = some (.slice LA n lc) := (hbx.cell (p := ⟨wr.heap.size, 1, none⟩) (Nat.lt_succ_self _)).trans (by simp))) | (refine step_append_lies _ (by rfl) _ _ _ (by rfl) w.heap.size 53 i0 _ 2 32 Try.underlying29 hi hz0 hz1 hz2 rfl (by omega) u3 k (cellsT L' k) (by rfl) ((ownsRow_below (ho.out.1.alloc _) (by simpa using hbx)).alloc _) ⟨w1.heap.size, 0, none⟩ 1 1 [.int .u8 ty, .slice (some ⟨g1, 0, none⟩) n cap1] (by rfl) (by rfl) (World.news_of_block (heap_alloc_new w1 _)) (two_one _ _ _ _) (by omega) hk63 hk31 hbz (w1.heap.size + 1) (by simp) ?_; intro gg cap w2 hown2 hgrow hat hlt2; have j0 : w2.cell? ⟨wr.heap.size, 0, none⟩ = some (.int .u8 ty) := hgrow.cell (by rw [World.cell?_alloc_lt _ _ _ (cell_lt k0)]; exact k0) hfar; have j1 : w2.cell? ⟨wr.heap.size, 1, none⟩ = some (.slice LA n lc) := hgrow.cell (by rw [World.cell?_alloc_lt _ _ _ (cell_lt k1)]; exact k1) hfar))
      have hit : OwnV (w1.alloc (.cells #[.int .u8 ty, .slice (some ⟨g1, 0, none⟩) n cap1] 53)) w.heap.size ⟨ty, some ⟨g1, 0, none⟩, n, cap1, lz⟩ := ⟨z0, by show n ≤ _; omega, g1, rfl, by simp at hg1; omega, ho1.alloc _⟩
      have R := Lib.hid (OwnT.push (((ho.out.below ((bself wr).alloc (Nat.le_refl _) (.cells #[.int .u8 ty, .slice LA n lc] 53))).below (by simpa using hbx)).below ((bself w1).alloc (Nat.le_refl _) (.cells #[.int .u8 ty, .slice (some ⟨g1, 0, none⟩) n cap1] 53))) hit hown2 hgrow)
      have hI : ∀ j, j < k + 1 → Alike (L j) (updT L' k ⟨ty, some ⟨g1, 0, none⟩, n, cap1, lz⟩ j) := by
        intro j hj
        by_cases e : j = k
        · subst e; rw [updT_same]; exact ⟨HTY.out, HLN.out, HLZ.out⟩
        · rw [updT_other _ _ _ _ e]; exact hL.out j (by omega)
      have hw1s := hbx.size
      simp at hw1s
      have hB2 : Below w.heap.size w w2 := (((hb.alloc hbs _).trans (hbx.mono (by omega))).alloc (by omega) _).grown hgrow (by simp; omega) (fun x e => (ho.out.1.lt x e).1)
      have HI := Lib.hid hI
      have HB2 := Lib.hid hB2
      clear hI hB2 hit hown2 hgrow ho1 hb1 hbx hbz hat hlt2 c0 c1 hg1 j0 j1 k0 k1
      go_wp2
      go_roundw
      case rel => exact ⟨k + 1, _, by omega, by go_num, R.out, HI, HB2.out⟩
      case measure => simp only [intOf]; omega
    · obtain rfl : k = m := by omega
      have ho := Lib.hid hown
      clear hown
      go_wp2
      go_ret
      exact ⟨_, L', rfl, ho.out, hL.out, hb⟩
end Go.Proofs.Ytfojfdlapekjoaa

/- Lists as bytes and back. Each theorem states its conditions. -/
namespace Go.Proofs.Ytfojfdlapekjoaa
open Go.RowKit
set_option linter.unusedVariables false

theorem sz_congr {L L' : Nat → It} {m : Nat} (h : ∀ j, j < m → (L j).n = (L' j).n) : ∀ k, k ≤ m → sz L k = sz L' k := by
  intro k hk
  induction k with
  | zero => rfl
  | succ k ih => simp only [sz, ih (by omega), h k (by omega)]
theorem bad_congr {L L' : Nat → It} {m : Nat} (h : ∀ j, j < m → (L j).n = (L' j).n) (k : Nat) (hk : k < m) : bad L k ↔ bad L' k := by
  unfold bad; rw [h k hk, sz_congr h (k + 1) (by omega)]
theorem jends_congr {L L' : Nat → It} {m m0 : Nat} (h : ∀ j, j < m → (L j).n = (L' j).n) (hj : JEnds L m m0) : JEnds L' m m0 :=
  ⟨hj.1, fun k hk => fun hb => hj.2.1 k hk ((bad_congr h k (by have := hj.1; omega)).2 hb), hj.2.2.elim .inl (fun hx => .inr ⟨hx.1, (bad_congr h m0 hx.1).1 hx.2⟩)⟩
theorem J_congr {L L' : Nat → It} {m : Nat} (h : ∀ j, j < m → (L j).ty = (L' j).ty ∧ (L j).n = (L' j).n ∧ ∀ i, i < (L j).n → (L j).z i = (L' j).z i) : ∀ k, k ≤ m → ∀ j, j < sz L k → J L k j = J L' k j := by
  intro k hk
  induction k with
  | zero => intro j hj; simp [sz] at hj
  | succ k ih =>
    intro j hj
    have hs := sz_congr (fun j hj => (h j hj).2.1) k (by omega)
    obtain ⟨h1, h2, h3⟩ := h k (by omega)
    simp only [J, ← hs, ← h1, ← h2]
    unfold cat
    split
    · split
      · exact ih (by omega) j (by omega)
      · rfl
    · exact h3 _ (by simp only [sz] at hj; omega)
theorem J_old (L : Nat → It) (k m : Nat) (h : k ≤ m) : ∀ j, j < sz L k → J L m j = J L k j := by
  induction m with
  | zero => obtain rfl : k = 0 := by omega
            intro j _; rfl
  | succ m ih =>
    by_cases e : k = m + 1
    · subst e; intro j _; rfl
    · intro j hj
      have := sz_mono L k m (by omega)
      simp only [J]
      unfold cat
      rw [if_pos (by omega), if_pos (by omega)]
      exact ih (by omega) j hj
theorem J_item (L : Nat → It) (k m : Nat) (h : k < m) : J L m (sz L k) = (L k).ty ∧ J L m (sz L k + 1) = (L k).n ∧ ∀ i, i < (L k).n → J L m (sz L k + 2 + i) = (L k).z i := by
  have hs : sz L (k + 1) = sz L k + (2 + (L k).n) := rfl
  refine ⟨?_, ?_, fun i hi => ?_⟩
  · rw [J_old L (k + 1) m (by omega) _ (by omega)]
    simp [J, cat, two]
  · rw [J_old L (k + 1) m (by omega) _ (by omega)]
    simp [J, cat, two]
    omega
  · rw [J_old L (k + 1) m (by omega) _ (by omega)]
    simp only [J]
    unfold cat
    rw [if_neg (by omega)]
    congr 1; omega
theorem J_pos (L : Nat → It) (m : Nat) : ∀ k, k ≤ m → pos (J L m) k = sz L k := by
  intro k hk
  induction k with
  | zero => rfl
  | succ k ih =>
    obtain ⟨_, h2, _⟩ := J_item L k m (by omega)
    simp only [pos, sz, ih (by omega), h2]
    omega
theorem J_back {L L5 : Nat → It} {m : Nat} (hI : IsItZ (J L m) L5 m) : ∀ j, j < m → (L5 j).ty = (L j).ty ∧ (L5 j).n = (L j).n ∧ ∀ i, i < (L5 j).n → (L5 j).z i = (L j).z i := by
  intro j hj
  obtain ⟨g, cap, e⟩ := hI j hj
  obtain ⟨h1, h2, h3⟩ := J_item L j m hj
  rw [e]
  unfold itZ
  simp only [J_pos L m j (by omega), h1, h2]
  refine ⟨trivial, by omega, fun i hi => h3 i (by omega)⟩
end Go.Proofs.Ytfojfdlapekjoaa

/- A list of types and values that came in as an argument can be read. No condition. -/
namespace Go.Proofs.Ytfojfdlapekjoaa
open Go.RowKit Go.ChangeShapes Go.WideShapes
set_option linter.unusedVariables false

theorem mem_weightsAll {H : Type} {P : Program} {e : TypeId} {ds : List (DataW H)} {d : DataW H} (hd : d ∈ ds) : ∀ n ∈ d.weights P e, n ∈ DataW.weightsAll P e ds := by
  induction ds with
  | nil => cases hd
  | cons x r ih =>
    intro n hn
    simp only [DataW.weightsAll, List.mem_append]
    rcases List.mem_cons.1 hd with rfl | h
    · exact .inl hn
    · exact .inr (ih h n hn)

theorem open_tlvs {H : Type} {enc : TypeId × Value → H} {w : World} {base : Nat} {held : Bool} {a : Option Addr} {len cap : Nat} {d : DataW H} {ps : List MemPlace}
    (h : DataW.Trod enc Try.prog w base (fun _ => true) held 29 (.slice a len cap) d ps) (hsz : ∀ n ∈ d.weights Try.prog 29, n ≤ 140737488351232) :
    ∃ L, RdT w a len L ∧ (a = none → len = 0 ∧ cap = 0) ∧ len ≤ cap ∧ cap * 32 ≤ 140737488351232 := by
  obtain ⟨fuel, hf⟩ := h
  have he := Try.underlying53
  rcases Deep.open_slice_pairs Try.underlying29 he (by kernel_rfl) rfl rfl (by kernel_rfl) (by kernel_rfl) hf with ⟨hcs, _⟩ | ⟨x, l, c, mm, n, V0, V1, D0, D1, P0, P1, hcs, _, hl, hm, hmm, hx, hcell⟩
  · simp [Value.cells] at hcs
    obtain ⟨rfl, rfl, rfl⟩ := hcs
    exact ⟨fun _ => ⟨0, none, 0, 0, fun _ => 0⟩, .inl rfl, fun _ => ⟨rfl, rfl⟩, Nat.le_refl _, by omega⟩
  · simp [Value.cells] at hcs
    obtain ⟨rfl, rfl, rfl⟩ := hcs
    rw [if_pos rfl] at hmm
    subst hmm
    simp only [Prod.mk.injEq] at hx
    obtain ⟨rfl, rfl⟩ := hx
    have hb : Try.prog.bytesOf 53 = 32 := by kernel_rfl
    have hw0 := hsz ((len + (mm - len)) * 32) (by
      simp only [DataW.weights, Try.underlying29, List.length_map, List.length_range, hb]
      exact List.mem_cons_self ..)
    have each : ∀ i, i < len → ∃ t : Int × Option Addr × Nat × Nat × (Nat → Int), w.cell? (x.add (i * 2)) = some (.int .u8 t.1) ∧ w.cell? (x.add (i * 2 + 1)) = some (.slice t.2.1 t.2.2.1 t.2.2.2.1) ∧ ItOk w ⟨t.1, t.2.1, t.2.2.1, t.2.2.2.1, t.2.2.2.2⟩ := by
      intro i hi
      obtain ⟨e0, e1, t0, t1⟩ := hcell i (by omega)
      obtain ⟨ty, ety, _, wty⟩ := DataW.trod_int Try.underlying5 t0
      have hty : V0 i = .int .u8 ty := by simpa using ety
      have hwt : ∀ k ∈ (D1 i).weights Try.prog 35, k ≤ 140737488351232 := by
        intro k hk
        refine hsz k ?_
        simp only [DataW.weights, Try.underlying29]
        refine List.mem_cons_of_mem _ (List.mem_append_left _ (mem_weightsAll (d := .agg [D0 i, D1 i]) (List.mem_map.2 ⟨i, by simpa using hi, rfl⟩) k ?_))
        simp only [DataW.weights, he]
        exact DataW.weights_mem_each (j := 1) (t := 35) (d := D1 i) rfl rfl k hk
      rcases open_ints Try.underlying35 Try.underlying5 (by kernel_rfl) t1 with ⟨hcs, _⟩ | ⟨y, l, c, zs, hcs, _, hl', hm', hz', hx', hc', hwz⟩
      · have hv : V1 i = .slice none 0 0 := by simpa using hcs
        rw [hty] at e0
        rw [hv] at e1
        exact ⟨(ty, none, 0, 0, fun _ => 0), e0, e1, wf_u8 wty, ⟨.inl rfl, fun _ => by simp⟩, fun _ => ⟨rfl, rfl⟩, by simp⟩
      · have hv : V1 i = .slice (some y) l c := by simpa using hcs
        rw [hty] at e0
        rw [hv] at e1
        rw [if_pos rfl] at hz'
        obtain ⟨hr, hn⟩ := isRow_rd (w := w) (A := some y) (len := l) (cap := c) (zs := zs) (.inr ⟨y, rfl, hl', hm', hz', hc', hwz⟩)
        have hD : D1 i = .slice (lits .u8 (zs.take l)) (lits .u8 (zs.drop l)) := by
          have := congrArg Prod.fst hx'
          simpa using this
        have hbb : Try.prog.bytesOf 5 = 1 := by kernel_rfl
        have hw1 := hwt ((l + (c - l)) * 1) (by
          rw [hD]
          simp only [DataW.weights, Try.underlying35, lits, List.length_map, List.length_take, List.length_drop, hz', hbb, Nat.min_eq_left hl']
          exact List.mem_cons_self ..)
        exact ⟨(ty, some y, l, c, fun j => zs.getD j 0), e0, e1, wf_u8 wty, hr, fun e => (by cases e), by show l ≤ _; omega⟩
    obtain ⟨f, hf'⟩ := Deep.choose_lt each
    refine ⟨fun i => ⟨(f i).1, (f i).2.1, (f i).2.2.1, (f i).2.2.2.1, (f i).2.2.2.2⟩, ?_, fun e => (by cases e), hl, by omega⟩
    rcases Nat.eq_zero_or_pos len with h0 | h0
    · exact .inl h0
    · obtain ⟨b, off, spot⟩ := x
      have hc0 := (hf' 0 h0).1
      have hs : spot = none := by simpa [Addr.add] using World.cell?_spot hc0
      subst hs
      have hadd : ∀ j, (⟨b, off, none⟩ : Addr).add j = ⟨b, off + j, none⟩ := fun j => by unfold Addr.add; split <;> simp_all
      refine .inr ⟨b, off, rfl, ?_, fun j hj => ?_⟩
      · have := cell_lt hc0
        simpa [hadd] using this
      · obtain ⟨h1, h2, h3⟩ := hf' j hj
        rw [hadd] at h1 h2
        exact ⟨h1, by rw [← Nat.add_assoc] at h2; exact h2, h3⟩
end Go.Proofs.Ytfojfdlapekjoaa

/- The steps of a region whose order is drawn, taken by hand: the place that is written is named. Each theorem states its conditions. -/
namespace Go.Proofs.Ytfojfdlapekjoaa
open Go.RowKit
set_option linter.unusedVariables false

section
variable {P : Program} {ops : Array Oper} {Q : Exit → Act → World → Prop} {md : Region.Mode} {S : World → Prop}
/-- what may come up, is wanted and yields v is taken first -/
theorem takeY {i : Nat} {oi : Oper} (d : Option Tmp) {v : Value} {fuel : Nat} {listed : Array Bool} {a : Act} {w : World} (hi : ops[i]? = some oi) (hd : oi.dst = d)
    (hs : Region.noSelect ops = true) (hf : Region.free md ops listed i = true) (hr : (Region.ready md ops listed).contains i = true)
    (hQ : ∀ c a w, Q (.panic c) (a.put d v) w → Q (.panic c) a w) (hw : Region.wanted oi (yielded ops a.tmps) = true) (hy : ∀ w, S w → (execOp a.eval oi).run P w = .ok (.value v) w) (hS : S w)
    (h : wpAnyH P md ops Q S fuel (listed.setIfInBounds i true) (a.put d v) w) : wpAnyH P md ops Q S (fuel + 1) listed a w := by
  subst hd
  exact wpAnyH_take hi hs hf hr hQ (.inl ⟨hw, hy⟩) hS h
/-- what may come up and is not wanted -/
theorem takeN {i : Nat} {oi : Oper} (d : Option Tmp) {fuel : Nat} {listed : Array Bool} {a : Act} {w : World} (hi : ops[i]? = some oi) (hd : oi.dst = d)
    (hs : Region.noSelect ops = true) (hf : Region.free md ops listed i = true) (hr : (Region.ready md ops listed).contains i = true)
    (hQ : ∀ c a w, Q (.panic c) (a.put d undef) w → Q (.panic c) a w) (hw : Region.wanted oi (yielded ops a.tmps) = false) (hS : S w)
    (h : wpAnyH P md ops Q S fuel (listed.setIfInBounds i true) (a.put d undef) w) : wpAnyH P md ops Q S (fuel + 1) listed a w := by
  subst hd
  exact wpAnyH_take hi hs hf hr hQ (.inr ⟨hw, rfl⟩) hS h
/-- a row of cells is read -/
theorem takeL {i : Nat} {oi : Oper} (d : Option Tmp) {fuel : Nat} {listed : Array Bool} {a : Act} {w : World} (ty : TypeId) (x : Operand) (b o : Nat) (cs : Array Value) (dd : TypeDesc) (hi : ops[i]? = some oi) (hd : oi.dst = d)
    (hs : Region.noSelect ops = true) (hf : Region.free md ops listed i = true) (hr : (Region.ready md ops listed).contains i = true)
    (hQ : ∀ c a w, Q (.panic c) (a.put d (.agg cs)) w → Q (.panic c) a w) (hw : Region.wanted oi (yielded ops a.tmps) = true) (ho : oi.op = .load ty x)
    (hx : a.eval x = .pointer (some ⟨b, o, none⟩)) (hr2 : ∀ w, S w → w.rangeAt b o cs.toList) (hu : P.underlying ty = some dd) (hdd : dd.isRow = true) (hz : (P.info? ty).map (·.size) = some cs.toList.length) (hS : S w)
    (h : wpAnyH P md ops Q S fuel (listed.setIfInBounds i true) (a.put d (.agg cs)) w) : wpAnyH P md ops Q S (fuel + 1) listed a w := by
  subst hd
  exact wpAnyH_take hi hs hf hr (by simpa using hQ) (by simpa using yieldsIf_load_mid (P := P) hw ty x ho b o hx cs.toList dd hr2 hu hdd hz) hS h
/-- one alone may come up: it is run -/
theorem only {i : Nat} {oi : Oper} (d : Option Tmp) (op : Op) {fuel : Nat} {listed : Array Bool} {a : Act} {w : World} (hi : ops[i]? = some oi) (hd : oi.dst = d) (ho : oi.op = op)
    (hr : Region.ready md ops listed = [i]) (hw : Region.wanted oi (yielded ops a.tmps) = true)
    (h : ∀ K' : Act → World → Prop, Shut (∀ a w, S w → (S w → wpAnyH P md ops Q S fuel (listed.setIfInBounds i true) a w) → K' a w) → Oper.wp P { oi with dst := d, op := op } a w K' Q) :
    wpAnyH P md ops Q S (fuel + 1) listed a w := by
  subst hd ho
  refine wpAnyH_ready hr (by simp) (AllReadyH.cons hi (fun K hK => ?_) AllReadyH.nil)
  rw [if_pos hw]
  exact h K hK
/-- a call alone may come up -/
theorem takeC {i : Nat} {oi : Oper} (d : Option Tmp) (f : FuncId) (args : Array Value) (v : Value) {R : World → Prop} {fuel : Nat} {listed : Array Bool} {a : Act} {w : World} (hi : ops[i]? = some oi) (hd : oi.dst = d)
    (hr : Region.ready md ops listed = [i]) (hw : Region.wanted oi (yielded ops a.tmps) = true) (hx : (execOp a.eval oi).run P w = .ok (.enter f args) w)
    (hc : Calls P f args w fun e w' => e = .returned v ∧ R w') (hS : ∀ w', R w' → S w')
    (h : ∀ w', R w' → S w' → wpAnyH P md ops Q S fuel (listed.setIfInBounds i true) (a.put d v) w') : wpAnyH P md ops Q S (fuel + 1) listed a w := by
  subst hd
  refine wpAnyH_ready hr (by simp) (AllReadyH.cons hi (fun K hK => ?_) AllReadyH.nil)
  rw [if_pos hw]
  unfold Oper.wp
  rw [hx, Oper.upon_enter]
  refine hc.mono ?_
  rintro e w' ⟨rfl, hR⟩
  exact hK.out _ _ (hS w' hR) (h w' hR)
/-- a variable of the call's own is written whole -/
theorem takeS {i : Nat} {oi : Oper} {ty : TypeId} {cells old : Array Value} {b : Nat} {fuel : Nat} {listed : Array Bool} {a : Act} {w : World} (x y : Operand) (hi : ops[i]? = some oi) (hd : oi.dst = none) (ho : oi.op = .store ty x y)
    (hr : Region.ready md ops listed = [i]) (hw : Region.wanted oi (yielded ops a.tmps) = true) (hx : a.eval x = .pointer (some ⟨b, 0, none⟩)) (hy : a.eval y = .agg cells)
    (hg : w.heap[b]? = some (.cells old ty (0, 0))) (hz : (P.info? ty).map (·.size) = some cells.size) (hs : old.size = cells.size) (h1 : cells.all (·.oneCell') = true)
    (hS : ∀ w', w'.heap[b]? = some (.cells cells ty (0, 0)) → (∀ B, B ≤ b → Below B w w') → (∀ k, k ≠ b → w'.heap[k]? = w.heap[k]?) → S w')
    (h : ∀ w', w'.heap[b]? = some (.cells cells ty (0, 0)) → (∀ B, B ≤ b → Below B w w') → (∀ k, k ≠ b → w'.heap[k]? = w.heap[k]?) → S w' → wpAnyH P md ops Q S fuel (listed.setIfInBounds i true) (a.put none undef) w') :
    wpAnyH P md ops Q S (fuel + 1) listed a w := by
  refine wpAnyH_ready hr (by simp) (AllReadyH.cons hi (fun K hK => ?_) AllReadyH.nil)
  rw [if_pos hw]
  have hrun := run_storeVar_row (P := P) w b ty ty old cells hg hz hs h1
  have e1 := setRow_heap w b old cells ty (0, 0) hg
  have e2 : ∀ B, B ≤ b → Below B w (w.setRow b cells) := fun B hB => ⟨rfl, rfl, rfl, by simp [World.setRow], fun k hk => setRow_other w b k cells (by omega)⟩
  have e3 : ∀ k, k ≠ b → (w.setRow b cells).heap[k]? = w.heap[k]? := fun k hk => setRow_other w b k cells hk
  unfold Oper.wp execOp
  simp only [ho, hx, hy, Instr.storeAt, Instr.sureAddr, Sem.run_bind, Sem.run_pure, Result.andThen_ok, hrun]
  have := hK.out (a.put none undef) _ (hS _ e1 e2 e3) (h _ e1 e2 e3)
  rw [← hd] at this
  exact this
/-- of several that may come up: one that yields v at the world at hand -/
theorem consV {i : Nat} {oi : Oper} (d : Option Tmp) {v : Value} {rs : List Nat} {fuel : Nat} {listed : Array Bool} {a : Act} {w : World} (hi : ops[i]? = some oi) (hd : oi.dst = d)
    (hw : Region.wanted oi (yielded ops a.tmps) = true) (hx : (execOp a.eval oi).run P w = .ok (.value v) w) (hS : S w)
    (h : wpAnyH P md ops Q S fuel (listed.setIfInBounds i true) (a.put d v) w) (hs : AllReadyH P md ops Q S fuel listed a w rs) : AllReadyH P md ops Q S fuel listed a w (i :: rs) := by
  subst hd
  refine AllReadyH.cons hi (fun K hK => ?_) hs
  rw [if_pos hw]
  unfold Oper.wp
  rw [hx, Oper.upon_value]
  exact hK.out _ _ hS (fun _ => h)
/-- of several that may come up: a call -/
theorem consC {i : Nat} {oi : Oper} (d : Option Tmp) (f : FuncId) (args : Array Value) (v : Value) {R : World → Prop} {rs : List Nat} {fuel : Nat} {listed : Array Bool} {a : Act} {w : World} (hi : ops[i]? = some oi) (hd : oi.dst = d)
    (hw : Region.wanted oi (yielded ops a.tmps) = true) (hx : (execOp a.eval oi).run P w = .ok (.enter f args) w)
    (hc : Calls P f args w fun e w' => e = .returned v ∧ R w') (hS : ∀ w', R w' → S w')
    (h : ∀ w', R w' → S w' → wpAnyH P md ops Q S fuel (listed.setIfInBounds i true) (a.put d v) w') (hs : AllReadyH P md ops Q S fuel listed a w rs) : AllReadyH P md ops Q S fuel listed a w (i :: rs) := by
  subst hd
  refine AllReadyH.cons hi (fun K hK => ?_) hs
  rw [if_pos hw]
  unfold Oper.wp
  rw [hx, Oper.upon_enter]
  refine hc.mono ?_
  rintro e w' ⟨rfl, hR⟩
  exact hK.out _ _ (hS w' hR) (h w' hR)
/-- one cell is written -/
theorem takeW {i : Nat} {oi : Oper} {w' : World} {fuel : Nat} {listed : Array Bool} {a : Act} {w : World} (hi : ops[i]? = some oi) (hd : oi.dst = none)
    (hr : Region.ready md ops listed = [i]) (hw : Region.wanted oi (yielded ops a.tmps) = true) (hx : (execOp a.eval oi).run P w = .ok .skip w')
    (hS : S w') (h : wpAnyH P md ops Q S fuel (listed.setIfInBounds i true) (a.put none undef) w') : wpAnyH P md ops Q S (fuel + 1) listed a w := by
  refine wpAnyH_ready hr (by simp) (AllReadyH.cons hi (fun K hK => ?_) AllReadyH.nil)
  rw [if_pos hw]
  unfold Oper.wp
  rw [hx, Oper.upon_skip, hd]
  exact hK.out _ _ hS (fun _ => h)
end
end Go.Proofs.Ytfojfdlapekjoaa

/- Entries: their cells, their bytes; small functions of pdu. Each theorem states its conditions. -/
namespace Go.Proofs.Ytfojfdlapekjoaa
open Go.RowKit
set_option linter.unusedVariables false

theorem vals_add (z : Nat → Int) (n m : Nat) : vals z (n + m) = vals z n ++ vals (fun j => z (n + j)) m := by
  unfold vals
  rw [List.range_add, List.map_append, List.map_map]
  rfl
theorem vals_snoc (z : Nat → Int) (n : Nat) : vals z n ++ [.int .u8 (z n)] = vals z (n + 1) := by
  rw [vals_add]
  rfl
theorem u8_one (x : Int) : ∀ u ∈ [Value.int .u8 x], u.oneCell' = true := by
  intro u hu; simp only [List.mem_cons, List.not_mem_nil, or_false] at hu; subst hu; rfl
/-- an entry: its ID's eight bytes, its number, its life, its sum -/
structure En where
  s : Nat → Int
  sq : Nat
  li : Int
  su : Nat
def EnOk (e : En) : Prop := (∀ j, 0 ≤ e.s j ∧ e.s j ≤ 255) ∧ e.sq ≤ 4294967295 ∧ (-9223372036854775808 ≤ e.li ∧ e.li ≤ 9223372036854775807) ∧ e.su ≤ 65535
/-- its cells -/
def enC (e : En) : Array Value := #[.int .u8 (e.s 0), .int .u8 (e.s 1), .int .u8 (e.s 2), .int .u8 (e.s 3), .int .u8 (e.s 4), .int .u8 (e.s 5), .int .u8 (e.s 6), .int .u8 (e.s 7), .int .u32 (e.sq : Int), .int .i64 e.li, .int .u16 (e.su : Int)]
def enA (L : Nat → En) : Nat → Array Value := fun j => enC (L j)
theorem enC_one (e : En) : ∀ u ∈ (enC e).toList, u.oneCell' = true := by
  intro u hu
  simp only [enC, List.mem_cons, List.not_mem_nil, or_false] at hu
  rcases hu with rfl | rfl | rfl | rfl | rfl | rfl | rfl | rfl | rfl | rfl | rfl <;> rfl
theorem recs_en (L : Nat → En) : Recs 11 (enA L) := fun j => ⟨rfl, enC_one (L j)⟩
theorem enC_cells {w : World} {b o : Nat} {e : En} (h : w.rangeAt b o (enC e).toList) :
    (w.cell? ⟨b, o, none⟩ = some (.int .u8 (e.s 0)) ∧ w.cell? ⟨b, o + 1, none⟩ = some (.int .u8 (e.s 1)) ∧ w.cell? ⟨b, o + 2, none⟩ = some (.int .u8 (e.s 2)) ∧ w.cell? ⟨b, o + 3, none⟩ = some (.int .u8 (e.s 3))) ∧
    (w.cell? ⟨b, o + 4, none⟩ = some (.int .u8 (e.s 4)) ∧ w.cell? ⟨b, o + 5, none⟩ = some (.int .u8 (e.s 5)) ∧ w.cell? ⟨b, o + 6, none⟩ = some (.int .u8 (e.s 6)) ∧ w.cell? ⟨b, o + 7, none⟩ = some (.int .u8 (e.s 7))) ∧
    w.cell? ⟨b, o + 8, none⟩ = some (.int .u32 (e.sq : Int)) ∧ w.cell? ⟨b, o + 9, none⟩ = some (.int .i64 e.li) ∧ w.cell? ⟨b, o + 10, none⟩ = some (.int .u16 (e.su : Int)) :=
  ⟨⟨h 0 _ rfl, h 1 _ rfl, h 2 _ rfl, h 3 _ rfl⟩, ⟨h 4 _ rfl, h 5 _ rfl, h 6 _ rfl, h 7 _ rfl⟩, h 8 _ rfl, h 9 _ rfl, h 10 _ rfl⟩

/-- the bytes of entries, sixteen each -/
def enZ (L : Nat → En) : Nat → Int := fun j => if j % 16 < 2 then putZ (L (j / 16)).li.toNat 2 (j % 16) else if j % 16 < 10 then (L (j / 16)).s (j % 16 - 2) else if j % 16 < 14 then putZ (L (j / 16)).sq 4 (j % 16 - 10) else putZ (L (j / 16)).su 2 (j % 16 - 14)
theorem enZ_at (L : Nat → En) (k i : Nat) (h : i < 16) : enZ L (16 * k + i) = if i < 2 then putZ (L k).li.toNat 2 i else if i < 10 then (L k).s (i - 2) else if i < 14 then putZ (L k).sq 4 (i - 10) else putZ (L k).su 2 (i - 14) := by
  unfold enZ
  rw [show (16 * k + i) % 16 = i by omega, show (16 * k + i) / 16 = k by omega]
theorem enZ_bd (L : Nat → En) (hL : ∀ j, EnOk (L j)) : ∀ j, 0 ≤ enZ L j ∧ enZ L j ≤ 255 := by
  intro j
  unfold enZ
  split
  · exact putZ_bd _ _ _
  · split
    · exact (hL _).1 _
    · split <;> exact putZ_bd _ _ _
theorem vals_congr {z z' : Nat → Int} {n : Nat} (h : ∀ j, j < n → z j = z' j) : vals z n = vals z' n := by
  unfold vals
  apply List.map_congr_left
  intro j hj
  rw [h j (by simpa using hj)]
theorem enZ_push (L : Nat → En) (k : Nat) :
    vals (enZ L) (16 * k) ++ vals (putZ (L k).li.toNat 2) 2 ++ vals (L k).s 8 ++ vals (putZ (L k).sq 4) 4 ++ vals (putZ (L k).su 2) 2 = vals (enZ L) (16 * (k + 1)) := by
  rw [show 16 * (k + 1) = 16 * k + 2 + 8 + 4 + 2 by omega, vals_add, vals_add, vals_add, vals_add]
  have h := fun i hi => enZ_at L k i hi
  congr 1
  · congr 1
    · congr 1
      · congr 1
        exact vals_congr fun j hj => by rw [h j (by omega), if_pos hj]
      · exact vals_congr fun j hj => by rw [show 16 * k + 2 + j = 16 * k + (2 + j) by omega, h (2 + j) (by omega), if_neg (by omega), if_pos (by omega), show 2 + j - 2 = j by omega]
    · exact vals_congr fun j hj => by rw [show 16 * k + 2 + 8 + j = 16 * k + (10 + j) by omega, h (10 + j) (by omega), if_neg (by omega), if_neg (by omega), if_pos (by omega), show 10 + j - 10 = j by omega]
  · exact vals_congr fun j hj => by rw [show 16 * k + 2 + 8 + 4 + j = 16 * k + (14 + j) by omega, h (14 + j) (by omega), if_neg (by omega), if_neg (by omega), if_neg (by omega), show 14 + j - 14 = j by omega]

theorem size_2 (f : Int) (w : World) (h : f = 3 ∨ f = 4 ∨ f = 8 ∨ f = 11) : Calls Try.prog 52 #[.int .i64 f] w fun e w' => e = .returned (.int .i64 2) ∧ w' = w := by
  rcases h with rfl | rfl | rfl | rfl <;>
  · go_enter Try.func52, Try.ntmps52
    go_wp2
    go_ret
    exact ⟨rfl, rfl⟩
theorem size_4 (w : World) : Calls Try.prog 52 #[.int .i64 10] w fun e w' => e = .returned (.int .i64 4) ∧ w' = w := by
  go_enter Try.func52, Try.ntmps52
  go_wp2
  go_ret
  exact ⟨rfl, rfl⟩
theorem isTime_yes (n : Int) (w : World) (h1 : 0 ≤ n) (h2 : n ≤ 65535) : Calls Try.prog 50 #[.int .i64 n] w fun e w' => e = .returned (.bool true) ∧ w' = w := by
  go_enter Try.func50, Try.ntmps50
  go_wp2
  go_ret
  exact ⟨rfl, rfl⟩
theorem isTime_no (n : Int) (w : World) (h : n < 0 ∨ 65535 < n) : Calls Try.prog 50 #[.int .i64 n] w fun e w' => e = .returned (.bool false) ∧ w' = w := by
  by_cases a : n < 0
  · clear h
    go_enter Try.func50, Try.ntmps50
    go_wp2
    go_ret
    exact ⟨rfl, rfl⟩
  · have a' : 0 ≤ n := by omega
    have b : ¬ n ≤ 65535 := by omega
    clear h a
    go_enter Try.func50, Try.ntmps50
    go_wp2
    go_ret
    exact ⟨rfl, rfl⟩
/-- a number of so many bytes is written -/
theorem putNumber_any (N k : Nat) (w : World) (hk1 : 1 ≤ k) (hk8 : k ≤ 8) (hN : N ≤ 18446744073709551615) (h : qN N k = 0) :
    Calls Try.prog 51 #[.int .u64 (N : Int), .int .i64 (k : Int)] w fun e w' => ∃ g, e = .returned (.slice (some ⟨g, 0, none⟩) k k) ∧ w.heap.size ≤ g ∧ Own8 w' g k k (putZ N k) ∧ Below w.heap.size w w' := by
  have HP := Lib.hid (put_any N k w hN hk1 hk8)
  have HQ := Lib.hid h
  clear h
  go_enter Try.func51, Try.ntmps51
  go_wp2_with fail
  refine HP.out.mono ?_
  rintro e w1 ⟨hif, hb⟩
  rw [if_pos HQ.out] at hif
  obtain ⟨g, rfl, hg, ho⟩ := hif
  have HO := Lib.hid ho
  have HB := Lib.hid hb
  clear ho hb
  go_wp2_with fail
  go_ret
  exact ⟨g, rfl, hg, HO.out, HB.out⟩
theorem made_b (w0 w : World) (hb : Below w0.heap.size w0 w) : (w.alloc (.cells #[] 5)).ownsRow w0.heap.size 5 1 (.slice (some ⟨w.heap.size, 0, none⟩) 0 0) 0 [] :=
  World.ownsRow_made w #[] 0 hb.size (by decide) rfl
set_option maxHeartbeats 1000000 in
set_option maxRecDepth 100000 in
theorem cloneB_any (b off n c : Nat) (z : Nat → Int) (w : World) (hr : Row8 w b off n z) (hn : n ≤ 1000) :
    Calls Try.prog 68 #[.slice (some ⟨b, off, none⟩) n c] w fun e w' => ∃ v, e = .returned v ∧ OwnB w' w.heap.size v n z ∧ Below w.heap.size w w' := by
  have HR := Lib.hid hr
  clear hr
  have hq : ∀ W : World, (binOp BinOp.eql 35 (Value.slice (some ⟨b, off, none⟩) n c) (Value.slice none 0 0)).run Try.prog W = .ok (.bool false) W := fun W => by kernel_rfl
  have HM := Lib.hid (made_b w w (bself w))
  have HB := Lib.hid ((bself w).alloc (Nat.le_refl _) (.cells #[] 5))
  have HD : Hid (Rd (w.alloc (.cells #[] 5)) (some ⟨b, off, none⟩) n z) := Lib.hid (Rd.below ⟨.inr ⟨b, off, rfl, HR.out⟩, HR.out.2.2⟩ HB.out rfl)
  go_enter Try.func68, Try.ntmps68
  go_wp2_with (first
    | (at_builtin; refine app_s rfl (.tmp 5) (.tmp 6) rfl w (.slice (some ⟨w.heap.size, 0, none⟩) 0 0) 0 [] rfl HM.out HB.out ⟨b, off, none⟩ n c (vals z n) rfl (vals_len _ _) (rd_newsB HD.out) (vals_one _ _) (by omega) ?_; intro v2 w2 ho2 hb2 hs2 hk2))
  rw [Nat.zero_add, List.nil_append] at ho2
  go_ret
  exact ⟨_, rfl, ⟨ho2, HR.out.2.2⟩, hb2⟩
end Go.Proofs.Ytfojfdlapekjoaa

/- More steps of a region whose order is drawn: memory that is made, calls told with what they answer, appends. Each theorem states its conditions. -/
namespace Go.Proofs.Ytfojfdlapekjoaa
open Go.RowKit
set_option linter.unusedVariables false

section
variable {P : Program} {ops : Array Oper} {Q : Exit → Act → World → Prop} {md : Region.Mode} {S : World → Prop}
/-- one alone may come up: it yields v and turns the world -/
theorem takeV {i : Nat} {oi : Oper} (d : Option Tmp) {v : Value} {w' : World} {fuel : Nat} {listed : Array Bool} {a : Act} {w : World} (hi : ops[i]? = some oi) (hd : oi.dst = d)
    (hr : Region.ready md ops listed = [i]) (hw : Region.wanted oi (yielded ops a.tmps) = true) (hx : (execOp a.eval oi).run P w = .ok (.value v) w')
    (hS : S w') (h : wpAnyH P md ops Q S fuel (listed.setIfInBounds i true) (a.put d v) w') : wpAnyH P md ops Q S (fuel + 1) listed a w := by
  subst hd
  refine wpAnyH_ready hr (by simp) (AllReadyH.cons hi (fun K hK => ?_) AllReadyH.nil)
  rw [if_pos hw]
  unfold Oper.wp
  rw [hx, Oper.upon_value]
  exact hK.out _ _ hS (fun _ => h)
/-- of several that may come up: one that yields v and turns the world -/
theorem consVW {i : Nat} {oi : Oper} (d : Option Tmp) {v : Value} {w' : World} {rs : List Nat} {fuel : Nat} {listed : Array Bool} {a : Act} {w : World} (hi : ops[i]? = some oi) (hd : oi.dst = d)
    (hw : Region.wanted oi (yielded ops a.tmps) = true) (hx : (execOp a.eval oi).run P w = .ok (.value v) w') (hS : S w')
    (h : wpAnyH P md ops Q S fuel (listed.setIfInBounds i true) (a.put d v) w') (hs : AllReadyH P md ops Q S fuel listed a w rs) : AllReadyH P md ops Q S fuel listed a w (i :: rs) := by
  subst hd
  refine AllReadyH.cons hi (fun K hK => ?_) hs
  rw [if_pos hw]
  unfold Oper.wp
  rw [hx, Oper.upon_value]
  exact hK.out _ _ hS (fun _ => h)
/-- a call alone may come up, told with what it answers -/
theorem takeCE {i : Nat} {oi : Oper} (d : Option Tmp) (f : FuncId) (args : Array Value) {R : Value → World → Prop} {fuel : Nat} {listed : Array Bool} {a : Act} {w : World} (hi : ops[i]? = some oi) (hd : oi.dst = d)
    (hr : Region.ready md ops listed = [i]) (hw : Region.wanted oi (yielded ops a.tmps) = true) (hx : (execOp a.eval oi).run P w = .ok (.enter f args) w)
    (hc : Calls P f args w fun e w' => ∃ v, e = .returned v ∧ R v w') (hS : ∀ v w', R v w' → S w')
    (h : ∀ v w', R v w' → S w' → wpAnyH P md ops Q S fuel (listed.setIfInBounds i true) (a.put d v) w') : wpAnyH P md ops Q S (fuel + 1) listed a w := by
  subst hd
  refine wpAnyH_ready hr (by simp) (AllReadyH.cons hi (fun K hK => ?_) AllReadyH.nil)
  rw [if_pos hw]
  unfold Oper.wp
  rw [hx, Oper.upon_enter]
  refine hc.mono ?_
  rintro e w' ⟨v, rfl, hR⟩
  exact hK.out _ _ (hS v w' hR) (h v w' hR)
/-- of several that may come up: a call, told with what it answers -/
theorem consCE {i : Nat} {oi : Oper} (d : Option Tmp) (f : FuncId) (args : Array Value) {R : Value → World → Prop} {rs : List Nat} {fuel : Nat} {listed : Array Bool} {a : Act} {w : World} (hi : ops[i]? = some oi) (hd : oi.dst = d)
    (hw : Region.wanted oi (yielded ops a.tmps) = true) (hx : (execOp a.eval oi).run P w = .ok (.enter f args) w)
    (hc : Calls P f args w fun e w' => ∃ v, e = .returned v ∧ R v w') (hS : ∀ v w', R v w' → S w')
    (h : ∀ v w', R v w' → S w' → wpAnyH P md ops Q S fuel (listed.setIfInBounds i true) (a.put d v) w') (hs : AllReadyH P md ops Q S fuel listed a w rs) : AllReadyH P md ops Q S fuel listed a w (i :: rs) := by
  subst hd
  refine AllReadyH.cons hi (fun K hK => ?_) hs
  rw [if_pos hw]
  unfold Oper.wp
  rw [hx, Oper.upon_enter]
  refine hc.mono ?_
  rintro e w' ⟨v, rfl, hR⟩
  exact hK.out _ _ (hS v w' hR) (h v w' hR)
end
/-- an append of bytes, as an operation -/
theorem app_run {o : Oper} {a : Act} {w : World} (s x : Operand)
    (ho : o.op = .call { callee := .builtin .append, args := #[s, x], argTypes := #[35, 35] })
    (w0 : World) (v : Value) (n : Nat) (xs : List Value) (hs : a.eval s = v) (hown : w.ownsRow w0.heap.size 5 1 v n xs) (hb : Below w0.heap.size w0 w)
    (ad : Addr) (m c : Nat) (news : List Value) (hx : a.eval x = .slice (some ad) m c) (hl : news.length = m) (hnews : ∀ j u, news[j]? = some u → w.cell? (ad.add j) = some u) (h1 : ∀ u ∈ news, u.oneCell' = true)
    (hn : n + m ≤ 140737488355328) :
    ∃ v' w', (execOp a.eval o).run Try.prog w = .ok (.value v') w' ∧ w'.ownsRow w0.heap.size 5 1 v' (n + m) (xs ++ news) ∧ Below w0.heap.size w0 w' ∧ w.heap.size ≤ w'.heap.size ∧ (∀ k, k < w.heap.size → v.ownBlock ≠ some k → w'.heap[k]? = w.heap[k]? ∧ v'.ownBlock ≠ some k) := by
  obtain ⟨i0, hi, hz0, hz1, hz2⟩ := info_parts info_u8
  obtain ⟨v', w', hr, h2, h3, h4, h5⟩ := run_append_own_at (P := Try.prog) w w0.heap.size 35 o.type 5 i0 (.int .u8 0) 1 1 Try.underlying35 hi hz0 hz1 hz2 rfl (by decide) v n xs hown ad m c news (by omega) hnews h1 (by unfold maxLen; omega) (by omega) hb.size
  refine ⟨v', w', ?_, h2, hb.grown h3 hb.size (fun k e => (hown.lt k e).1), h3.size, fun k hk hne => ⟨h3.block k hk (fun e => hne e.symm), fun e => ?_⟩⟩
  · unfold execOp
    simp only [ho, resolve, invoke, builtin, Sem.run_bind, Sem.run_pure, Result.andThen_ok, List.map_toArray, List.map_cons, List.map_nil, hs, hx, hr]
  · rcases h5 with h5 | h5
    · rw [h5] at e; exact hne e
    · rw [h5] at e; injection e with e; omega
/-- an append alone may come up -/
theorem takeA {ops : Array Oper} {Q : Exit → Act → World → Prop} {md : Region.Mode} {S : World → Prop} {i : Nat} {oi : Oper} (d : Option Tmp) {fuel : Nat} {listed : Array Bool} {a : Act} {w : World} (s x : Operand) (hi : ops[i]? = some oi) (hd : oi.dst = d)
    (hr : Region.ready md ops listed = [i]) (hw : Region.wanted oi (yielded ops a.tmps) = true)
    (ho : oi.op = .call { callee := .builtin .append, args := #[s, x], argTypes := #[35, 35] })
    (w0 : World) (v : Value) (n : Nat) (xs : List Value) (hs : a.eval s = v) (hown : w.ownsRow w0.heap.size 5 1 v n xs) (hb : Below w0.heap.size w0 w)
    (ad : Addr) (m c : Nat) (news : List Value) (hx : a.eval x = .slice (some ad) m c) (hl : news.length = m) (hnews : ∀ j u, news[j]? = some u → w.cell? (ad.add j) = some u) (h1 : ∀ u ∈ news, u.oneCell' = true)
    (hn : n + m ≤ 140737488355328)
    (h : ∀ v' w', w'.ownsRow w0.heap.size 5 1 v' (n + m) (xs ++ news) → Below w0.heap.size w0 w' → w.heap.size ≤ w'.heap.size → (∀ k, k < w.heap.size → v.ownBlock ≠ some k → w'.heap[k]? = w.heap[k]? ∧ v'.ownBlock ≠ some k) → S w' ∧ wpAnyH Try.prog md ops Q S fuel (listed.setIfInBounds i true) (a.put d v') w') :
    wpAnyH Try.prog md ops Q S (fuel + 1) listed a w := by
  obtain ⟨v', w', h2, h3, h4, h5, h6⟩ := app_run s x ho w0 v n xs hs hown hb ad m c news hx hl hnews h1 hn
  obtain ⟨h7, h8⟩ := h v' w' h3 h4 h5 h6
  exact takeV d hi hd hr hw h2 h7 h8
/-- a node's cells -/
def ndC (z : Nat → Int) : Array Value := #[.int .u8 (z 0), .int .u8 (z 1), .int .u8 (z 2), .int .u8 (z 3), .int .u8 (z 4), .int .u8 (z 5), .int .u8 (z 6)]
theorem nd_at (z : Nat → Int) (j : Nat) (h : j < 7) : (ndC z)[j]? = some (.int .u8 (z j)) := by
  rcases (by omega : j = 0 ∨ j = 1 ∨ j = 2 ∨ j = 3 ∨ j = 4 ∨ j = 5 ∨ j = 6) with rfl | rfl | rfl | rfl | rfl | rfl | rfl <;> rfl
theorem nd_row {w : World} {X : Nat} {z : Nat → Int} (h : w.heap[X]? = some (.cells (ndC z) 25 (0, 0))) (hz : ∀ j, 0 ≤ z j ∧ z j ≤ 255) : Row8 w X 0 6 z :=
  ⟨(Array.getElem?_eq_some_iff.1 h).1, fun j hj => by rw [Nat.zero_add, cell_of_row w X j _ _ _ h, nd_at z j (by omega)], hz⟩
set_option maxHeartbeats 2000000 in
set_option maxRecDepth 100000 in
/-- a node's seven bytes -/
theorem putNode_any (z : Nat → Int) (w : World) (hz : ∀ j, 0 ≤ z j ∧ z j ≤ 255) :
    Calls Try.prog 58 #[.agg (ndC z)] w fun e w' => ∃ v, e = .returned v ∧ OwnB w' w.heap.size v 7 z ∧ Below w.heap.size w w' := by
  have HZ := Lib.hid hz
  have HX := Lib.hid (heap_alloc_new w (.cells (ndC z) 25))
  have HB := Lib.hid ((bself w).alloc (Nat.le_refl _) (.cells (ndC z) 25))
  clear hz
  unfold ndC at *
  go_enter Try.func58, Try.ntmps58
  go_wp2_with fail
  refine wp_region_held_drew (S := fun w' => w'.heap[w.heap.size]? = some (.cells (ndC z) 25 (0, 0)) ∧ Below w.heap.size w w') (by kernel_rfl) ⟨HX.out, HB.out.drew⟩ (fun hS0 => ?_)
  refine takeY (i := 0) (some 3) (v := .pointer (some ⟨w.heap.size, 0, none⟩)) rfl rfl (by kernel_rfl) (by kernel_rfl) (by kernel_rfl) (fun _ _ _ h => h) (by rfl) (fun w' hS => by go_simp) hS0 ?_
  simp only [Act.put, List.setIfInBounds_toArray, List.set_cons_zero, List.set_cons_succ]
  refine takeY (i := 1) (some 4) (v := .slice (some ⟨w.heap.size, 0, none⟩) 6 6) rfl rfl (by kernel_rfl) (by kernel_rfl) (by kernel_rfl) (fun _ _ _ h => h) (by rfl) (fun w' hS => by go_simp) hS0 ?_
  simp only [Act.put, List.setIfInBounds_toArray, List.set_cons_zero, List.set_cons_succ]
  refine takeY (i := 3) (some 6) (v := .pointer (some ⟨w.heap.size, 6, none⟩)) rfl rfl (by kernel_rfl) (by kernel_rfl) (by kernel_rfl) (fun _ _ _ h => h) (by rfl) (fun w' hS => by go_simp) hS0 ?_
  simp only [Act.put, List.setIfInBounds_toArray, List.set_cons_zero, List.set_cons_succ]
  refine takeY (i := 4) (some 7) (v := .int .u8 (z 6)) rfl rfl (by kernel_rfl) (by kernel_rfl) (by kernel_rfl) (fun _ _ _ h => h) (by rfl) (fun w' hS => by have c6 : w'.cell? ⟨w.heap.size, 6, none⟩ = some (.int .u8 (z 6)) := (cell_of_row w' _ 6 _ _ _ hS.1).trans rfl; clear hS; go_simp) hS0 ?_
  simp only [Act.put, List.setIfInBounds_toArray, List.set_cons_zero, List.set_cons_succ]
  obtain ⟨W0, hW0⟩ : ∃ W0, (w.alloc (.cells #[.int .u8 (z 0), .int .u8 (z 1), .int .u8 (z 2), .int .u8 (z 3), .int .u8 (z 4), .int .u8 (z 5), .int .u8 (z 6)] 25)).drew = W0 := ⟨_, rfl⟩
  have hsz : W0.heap.size = w.heap.size + 1 := by rw [← hW0]; simp
  rw [hW0] at hS0
  rw [hW0]
  have HS0 := Lib.hid hS0
  clear hS0 hW0 HX HB
  refine wpAnyH_ready (rs := [2, 5]) (by kernel_rfl) (by simp) (consCE (i := 2) (some 5) 68 #[.slice (some ⟨w.heap.size, 0, none⟩) 6 6] (R := fun v w' => OwnB w' W0.heap.size v 6 z ∧ Below W0.heap.size W0 w') rfl rfl (by rfl) (by go_simp) (cloneB_any _ _ _ _ z _ (nd_row HS0.out.1 HZ.out) (by omega)) (fun v w' h => ⟨(h.2.block _ (by omega)).trans HS0.out.1, HS0.out.2.trans (h.2.mono HS0.out.2.size)⟩) (fun v1 w1 h1 hS1 => ?_) (consVW (i := 5) (some 8) (v := .slice (some ⟨W0.heap.size, 0, none⟩) 1 1) (w' := W0.alloc (.cells #[.int .u8 (z 6)] 5)) rfl rfl (by rfl) (by go_simp) ⟨(Below.heap_alloc W0 _ _ (by omega)).trans HS0.out.1, HS0.out.2.alloc HS0.out.2.size _⟩ ?_ AllReadyH.nil))
  · simp only [Act.put, List.setIfInBounds_toArray, List.set_cons_zero, List.set_cons_succ]
    have hw1 := h1.2.size
    refine takeV (i := 5) (some 8) (v := .slice (some ⟨w1.heap.size, 0, none⟩) 1 1) (w' := w1.alloc (.cells #[.int .u8 (z 6)] 5)) rfl rfl (by kernel_rfl) (by rfl) (by clear h1 hS1; go_simp) ⟨(Below.heap_alloc w1 _ _ (by omega)).trans hS1.1, hS1.2.alloc hS1.2.size _⟩ ?_
    have HO1 := Lib.hid ((ownsRow_mono h1.1.1 HS0.out.2.size).alloc (.cells #[.int .u8 (z 6)] 5))
    have HB1 := Lib.hid (hS1.2.alloc hS1.2.size (.cells #[.int .u8 (z 6)] 5))
    have HC1 := Lib.hid (cell_one_new w1 (.int .u8 (z 6)) 5)
    have HL1 : Hid (w.heap.size < (w1.alloc (.cells #[.int .u8 (z 6)] 5)).heap.size) := Lib.hid (by simp; omega)
    have HF1 : Hid (v1.ownBlock ≠ some w.heap.size) := Lib.hid (fun e => by have := (h1.1.1.lt _ e).1; omega)
    have HN1 := Lib.hid ((Below.heap_alloc w1 (.cells #[.int .u8 (z 6)] 5) _ (by omega)).trans hS1.1)
    clear h1 hS1
    simp only [Act.put, List.setIfInBounds_toArray, List.set_cons_zero, List.set_cons_succ]
    refine takeA (i := 6) (some 9) (.tmp 5) (.tmp 8) rfl rfl (by kernel_rfl) (by rfl) rfl w v1 6 (vals z 6) rfl HO1.out HB1.out ⟨w1.heap.size, 0, none⟩ 1 1 [.int .u8 (z 6)] rfl rfl HC1.out (u8_one _) (by omega) (fun v2 w2 ho2 hb2 hs2 hk2 => ⟨⟨(hk2 w.heap.size HL1.out HF1.out).1.trans HN1.out, hb2⟩, ?_⟩)
    have HO2 : Hid (OwnB w2 w.heap.size v2 7 z) := Lib.hid ⟨by rw [vals_snoc] at ho2; exact ho2, HZ.out⟩
    have HB2 := Lib.hid hb2
    have HS2 : w2.heap[w.heap.size]? = some (.cells (ndC z) 25 (0, 0)) ∧ Below w.heap.size w w2 := ⟨(hk2 w.heap.size HL1.out HF1.out).1.trans HN1.out, hb2⟩
    clear ho2 hb2 hs2 hk2
    simp only [Act.put, List.setIfInBounds_toArray, List.set_cons_zero, List.set_cons_succ]
    refine takeY (i := 7) (some 2) (v := v2) rfl rfl (by kernel_rfl) (by kernel_rfl) (by kernel_rfl) (fun _ _ _ h => h) (by rfl) (fun w' hS => by go_simp) HS2 ?_
    simp only [Act.put, List.setIfInBounds_toArray, List.set_cons_zero, List.set_cons_succ]
    refine wpAnyH_done (by kernel_rfl) ?_ _
    go_wp2_with fail
    go_ret
    exact ⟨_, rfl, HO2.out, HB2.out⟩
  · simp only [Act.put, List.setIfInBounds_toArray, List.set_cons_zero, List.set_cons_succ]
    have HS1 : Hid ((W0.alloc (.cells #[.int .u8 (z 6)] 5)).heap[w.heap.size]? = some (.cells (ndC z) 25 (0, 0)) ∧ Below w.heap.size w (W0.alloc (.cells #[.int .u8 (z 6)] 5))) := Lib.hid ⟨(Below.heap_alloc W0 _ _ (by omega)).trans HS0.out.1, HS0.out.2.alloc HS0.out.2.size _⟩
    have HC0 := Lib.hid (cell_one_new W0 (.int .u8 (z 6)) 5)
    have hsz2 : (W0.alloc (.cells #[.int .u8 (z 6)] 5)).heap.size = w.heap.size + 2 := by simp; omega
    have hsB : W0.heap.size < (W0.alloc (.cells #[.int .u8 (z 6)] 5)).heap.size := by omega
    obtain ⟨B, hB⟩ : ∃ B, W0.heap.size = B := ⟨_, rfl⟩
    rw [hB] at HC0 hsB ⊢
    obtain ⟨W1, hW1⟩ : ∃ W1, W0.alloc (.cells #[.int .u8 (z 6)] 5) = W1 := ⟨_, rfl⟩
    rw [hW1] at HS1 HC0 hsz2 hsB ⊢
    clear hW1
    refine takeCE (i := 2) (some 5) 68 #[.slice (some ⟨w.heap.size, 0, none⟩) 6 6] (R := fun v w' => OwnB w' W1.heap.size v 6 z ∧ Below W1.heap.size W1 w') rfl rfl (by kernel_rfl) (by rfl) (by go_simp) (cloneB_any _ _ _ _ z _ (nd_row HS1.out.1 HZ.out) (by omega)) (fun v w' h => ⟨(h.2.block _ (by omega)).trans HS1.out.1, HS1.out.2.trans (h.2.mono HS1.out.2.size)⟩) (fun v1 w1 h1 hS1 => ?_)
    have hw1 := h1.2.size
    have HO1 := Lib.hid (ownsRow_mono h1.1.1 HS1.out.2.size)
    have HB1 := Lib.hid hS1.2
    have HC1 : Hid (∀ j u, [Value.int .u8 (z 6)][j]? = some u → w1.cell? ((⟨B, 0, none⟩ : Addr).add j) = some u) := Lib.hid (fun j u hj => by have := HC0.out j u hj; rw [add_none] at this ⊢; rw [← this]; exact h1.2.cell hsB)
    have HL1 : Hid (w.heap.size < w1.heap.size) := Lib.hid (by omega)
    have HF1 : Hid (v1.ownBlock ≠ some w.heap.size) := Lib.hid (fun e => by have := (h1.1.1.lt _ e).1; omega)
    have HN1 := Lib.hid hS1.1
    clear h1 hS1
    simp only [Act.put, List.setIfInBounds_toArray, List.set_cons_zero, List.set_cons_succ]
    refine takeA (i := 6) (some 9) (.tmp 5) (.tmp 8) rfl rfl (by kernel_rfl) (by rfl) rfl w v1 6 (vals z 6) rfl HO1.out HB1.out ⟨B, 0, none⟩ 1 1 [.int .u8 (z 6)] rfl rfl HC1.out (u8_one _) (by omega) (fun v2 w2 ho2 hb2 hs2 hk2 => ⟨⟨(hk2 w.heap.size HL1.out HF1.out).1.trans HN1.out, hb2⟩, ?_⟩)
    have HO2 : Hid (OwnB w2 w.heap.size v2 7 z) := Lib.hid ⟨by rw [vals_snoc] at ho2; exact ho2, HZ.out⟩
    have HB2 := Lib.hid hb2
    have HS2 : w2.heap[w.heap.size]? = some (.cells (ndC z) 25 (0, 0)) ∧ Below w.heap.size w w2 := ⟨(hk2 w.heap.size HL1.out HF1.out).1.trans HN1.out, hb2⟩
    clear ho2 hb2 hs2 hk2
    simp only [Act.put, List.setIfInBounds_toArray, List.set_cons_zero, List.set_cons_succ]
    refine takeY (i := 7) (some 2) (v := v2) rfl rfl (by kernel_rfl) (by kernel_rfl) (by kernel_rfl) (fun _ _ _ h => h) (by rfl) (fun w' hS => by go_simp) HS2 ?_
    simp only [Act.put, List.setIfInBounds_toArray, List.set_cons_zero, List.set_cons_succ]
    refine wpAnyH_done (by kernel_rfl) ?_ _
    go_wp2_with fail
    go_ret
    exact ⟨_, rfl, HO2.out, HB2.out⟩
end Go.Proofs.Ytfojfdlapekjoaa

/- pdu.putID writes an ID. Each theorem states its conditions. -/
namespace Go.Proofs.Ytfojfdlapekjoaa
open Go.RowKit
set_option linter.unusedVariables false
def idC (z : Nat → Int) : Array Value := #[.int .u8 (z 0), .int .u8 (z 1), .int .u8 (z 2), .int .u8 (z 3), .int .u8 (z 4), .int .u8 (z 5), .int .u8 (z 6), .int .u8 (z 7)]
theorem hi_nd {z : Nat → Int} : (Try.prog.info? 25).map (·.size) = some (ndC z).toList.length := by kernel_rfl
theorem id_range {w : World} {X : Nat} {z : Nat → Int} (h : w.heap[X]? = some (.cells (idC z) 27 (0, 0))) : w.rangeAt X 0 (ndC z).toList := by
  intro j u hj
  rw [Nat.zero_add, cell_of_row w X j _ _ _ h]
  rw [Array.getElem?_toList] at hj
  have h7 : j < 7 := by
    rcases Nat.lt_or_ge j 7 with h | h
    · exact h
    · rw [Array.getElem?_eq_none (by show 7 ≤ j; exact h)] at hj; cases hj
  rw [← hj]
  rcases (by omega : j = 0 ∨ j = 1 ∨ j = 2 ∨ j = 3 ∨ j = 4 ∨ j = 5 ∨ j = 6) with rfl | rfl | rfl | rfl | rfl | rfl | rfl <;> rfl
set_option maxHeartbeats 2000000 in
set_option maxRecDepth 100000 in
/-- an ID's eight bytes -/
theorem putID_any (z : Nat → Int) (w : World) (hz : ∀ j, 0 ≤ z j ∧ z j ≤ 255) :
    Calls Try.prog 53 #[.agg (idC z)] w fun e w' => ∃ v, e = .returned v ∧ OwnB w' w.heap.size v 8 z ∧ Below w.heap.size w w' := by
  have HZ := Lib.hid hz
  have HX := Lib.hid (heap_alloc_new w (.cells (idC z) 27))
  have HB := Lib.hid ((bself w).alloc (Nat.le_refl _) (.cells (idC z) 27))
  clear hz
  unfold idC at *
  go_enter Try.func53, Try.ntmps53
  go_wp2_with fail
  refine wp_region_held_drew (S := fun w' => w'.heap[w.heap.size]? = some (.cells (idC z) 27 (0, 0)) ∧ Below w.heap.size w w') (by kernel_rfl) ⟨HX.out, HB.out.drew⟩ (fun hS0 => ?_)
  refine takeY (i := 0) (some 3) (v := .pointer (some ⟨w.heap.size, 0, none⟩)) rfl rfl (by kernel_rfl) (by kernel_rfl) (by kernel_rfl) (fun _ _ _ h => h) (by rfl) (fun w' hS => by go_simp) hS0 ?_
  simp only [Act.put, List.setIfInBounds_toArray, List.set_cons_zero, List.set_cons_succ]
  refine takeL (i := 1) (some 4) 25 (.tmp 3) w.heap.size 0 (ndC z) _ rfl rfl (by kernel_rfl) (by kernel_rfl) (by kernel_rfl) (fun _ _ _ h => h) (by rfl) rfl rfl (fun w' hS => id_range hS.1) Try.underlying25 rfl hi_nd hS0 ?_
  simp only [Act.put, List.setIfInBounds_toArray, List.set_cons_zero, List.set_cons_succ]
  refine takeY (i := 3) (some 6) (v := .pointer (some ⟨w.heap.size, 7, none⟩)) rfl rfl (by kernel_rfl) (by kernel_rfl) (by kernel_rfl) (fun _ _ _ h => h) (by rfl) (fun w' hS => by go_simp) hS0 ?_
  simp only [Act.put, List.setIfInBounds_toArray, List.set_cons_zero, List.set_cons_succ]
  refine takeY (i := 4) (some 7) (v := .int .u8 (z 7)) rfl rfl (by kernel_rfl) (by kernel_rfl) (by kernel_rfl) (fun _ _ _ h => h) (by rfl) (fun w' hS => by have c6 : w'.cell? ⟨w.heap.size, 7, none⟩ = some (.int .u8 (z 7)) := (cell_of_row w' _ 7 _ _ _ hS.1).trans rfl; clear hS; go_simp) hS0 ?_
  simp only [Act.put, List.setIfInBounds_toArray, List.set_cons_zero, List.set_cons_succ]
  obtain ⟨W0, hW0⟩ : ∃ W0, (w.alloc (.cells #[.int .u8 (z 0), .int .u8 (z 1), .int .u8 (z 2), .int .u8 (z 3), .int .u8 (z 4), .int .u8 (z 5), .int .u8 (z 6), .int .u8 (z 7)] 27)).drew = W0 := ⟨_, rfl⟩
  have hsz : W0.heap.size = w.heap.size + 1 := by rw [← hW0]; simp
  rw [hW0] at hS0
  rw [hW0]
  have HS0 := Lib.hid hS0
  clear hS0 hW0 HX HB
  refine wpAnyH_ready (rs := [2, 5]) (by kernel_rfl) (by simp) (consCE (i := 2) (some 5) 58 #[.agg (ndC z)] (R := fun v w' => OwnB w' W0.heap.size v 7 z ∧ Below W0.heap.size W0 w') rfl rfl (by rfl) (by go_simp) (putNode_any z _ HZ.out) (fun v w' h => ⟨(h.2.block _ (by omega)).trans HS0.out.1, HS0.out.2.trans (h.2.mono HS0.out.2.size)⟩) (fun v1 w1 h1 hS1 => ?_) (consVW (i := 5) (some 8) (v := .slice (some ⟨W0.heap.size, 0, none⟩) 1 1) (w' := W0.alloc (.cells #[.int .u8 (z 7)] 5)) rfl rfl (by rfl) (by go_simp) ⟨(Below.heap_alloc W0 _ _ (by omega)).trans HS0.out.1, HS0.out.2.alloc HS0.out.2.size _⟩ ?_ AllReadyH.nil))
  · simp only [Act.put, List.setIfInBounds_toArray, List.set_cons_zero, List.set_cons_succ]
    have hw1 := h1.2.size
    refine takeV (i := 5) (some 8) (v := .slice (some ⟨w1.heap.size, 0, none⟩) 1 1) (w' := w1.alloc (.cells #[.int .u8 (z 7)] 5)) rfl rfl (by kernel_rfl) (by rfl) (by clear h1 hS1; go_simp) ⟨(Below.heap_alloc w1 _ _ (by omega)).trans hS1.1, hS1.2.alloc hS1.2.size _⟩ ?_
    have HO1 := Lib.hid ((ownsRow_mono h1.1.1 HS0.out.2.size).alloc (.cells #[.int .u8 (z 7)] 5))
    have HB1 := Lib.hid (hS1.2.alloc hS1.2.size (.cells #[.int .u8 (z 7)] 5))
    have HC1 := Lib.hid (cell_one_new w1 (.int .u8 (z 7)) 5)
    have HL1 : Hid (w.heap.size < (w1.alloc (.cells #[.int .u8 (z 7)] 5)).heap.size) := Lib.hid (by simp; omega)
    have HF1 : Hid (v1.ownBlock ≠ some w.heap.size) := Lib.hid (fun e => by have := (h1.1.1.lt _ e).1; omega)
    have HN1 := Lib.hid ((Below.heap_alloc w1 (.cells #[.int .u8 (z 7)] 5) _ (by omega)).trans hS1.1)
    clear h1 hS1
    simp only [Act.put, List.setIfInBounds_toArray, List.set_cons_zero, List.set_cons_succ]
    refine takeA (i := 6) (some 9) (.tmp 5) (.tmp 8) rfl rfl (by kernel_rfl) (by rfl) rfl w v1 7 (vals z 7) rfl HO1.out HB1.out ⟨w1.heap.size, 0, none⟩ 1 1 [.int .u8 (z 7)] rfl rfl HC1.out (u8_one _) (by omega) (fun v2 w2 ho2 hb2 hs2 hk2 => ⟨⟨(hk2 w.heap.size HL1.out HF1.out).1.trans HN1.out, hb2⟩, ?_⟩)
    have HO2 : Hid (OwnB w2 w.heap.size v2 8 z) := Lib.hid ⟨by rw [vals_snoc] at ho2; exact ho2, HZ.out⟩
    have HB2 := Lib.hid hb2
    have HS2 : w2.heap[w.heap.size]? = some (.cells (idC z) 27 (0, 0)) ∧ Below w.heap.size w w2 := ⟨(hk2 w.heap.size HL1.out HF1.out).1.trans HN1.out, hb2⟩
    clear ho2 hb2 hs2 hk2
    simp only [Act.put, List.setIfInBounds_toArray, List.set_cons_zero, List.set_cons_succ]
    refine takeY (i := 7) (some 2) (v := v2) rfl rfl (by kernel_rfl) (by kernel_rfl) (by kernel_rfl) (fun _ _ _ h => h) (by rfl) (fun w' hS => by go_simp) HS2 ?_
    simp only [Act.put, List.setIfInBounds_toArray, List.set_cons_zero, List.set_cons_succ]
    refine wpAnyH_done (by kernel_rfl) ?_ _
    go_wp2_with fail
    go_ret
    exact ⟨_, rfl, HO2.out, HB2.out⟩
  · simp only [Act.put, List.setIfInBounds_toArray, List.set_cons_zero, List.set_cons_succ]
    have HS1 : Hid ((W0.alloc (.cells #[.int .u8 (z 7)] 5)).heap[w.heap.size]? = some (.cells (idC z) 27 (0, 0)) ∧ Below w.heap.size w (W0.alloc (.cells #[.int .u8 (z 7)] 5))) := Lib.hid ⟨(Below.heap_alloc W0 _ _ (by omega)).trans HS0.out.1, HS0.out.2.alloc HS0.out.2.size _⟩
    have HC0 := Lib.hid (cell_one_new W0 (.int .u8 (z 7)) 5)
    have hsz2 : (W0.alloc (.cells #[.int .u8 (z 7)] 5)).heap.size = w.heap.size + 2 := by simp; omega
    have hsB : W0.heap.size < (W0.alloc (.cells #[.int .u8 (z 7)] 5)).heap.size := by omega
    obtain ⟨B, hB⟩ : ∃ B, W0.heap.size = B := ⟨_, rfl⟩
    rw [hB] at HC0 hsB ⊢
    obtain ⟨W1, hW1⟩ : ∃ W1, W0.alloc (.cells #[.int .u8 (z 7)] 5) = W1 := ⟨_, rfl⟩
    rw [hW1] at HS1 HC0 hsz2 hsB ⊢
    clear hW1
    refine takeCE (i := 2) (some 5) 58 #[.agg (ndC z)] (R := fun v w' => OwnB w' W1.heap.size v 7 z ∧ Below W1.heap.size W1 w') rfl rfl (by kernel_rfl) (by rfl) (by go_simp) (putNode_any z _ HZ.out) (fun v w' h => ⟨(h.2.block _ (by omega)).trans HS1.out.1, HS1.out.2.trans (h.2.mono HS1.out.2.size)⟩) (fun v1 w1 h1 hS1 => ?_)
    have hw1 := h1.2.size
    have HO1 := Lib.hid (ownsRow_mono h1.1.1 HS1.out.2.size)
    have HB1 := Lib.hid hS1.2
    have HC1 : Hid (∀ j u, [Value.int .u8 (z 7)][j]? = some u → w1.cell? ((⟨B, 0, none⟩ : Addr).add j) = some u) := Lib.hid (fun j u hj => by have := HC0.out j u hj; rw [add_none] at this ⊢; rw [← this]; exact h1.2.cell hsB)
    have HL1 : Hid (w.heap.size < w1.heap.size) := Lib.hid (by omega)
    have HF1 : Hid (v1.ownBlock ≠ some w.heap.size) := Lib.hid (fun e => by have := (h1.1.1.lt _ e).1; omega)
    have HN1 := Lib.hid hS1.1
    clear h1 hS1
    simp only [Act.put, List.setIfInBounds_toArray, List.set_cons_zero, List.set_cons_succ]
    refine takeA (i := 6) (some 9) (.tmp 5) (.tmp 8) rfl rfl (by kernel_rfl) (by rfl) rfl w v1 7 (vals z 7) rfl HO1.out HB1.out ⟨B, 0, none⟩ 1 1 [.int .u8 (z 7)] rfl rfl HC1.out (u8_one _) (by omega) (fun v2 w2 ho2 hb2 hs2 hk2 => ⟨⟨(hk2 w.heap.size HL1.out HF1.out).1.trans HN1.out, hb2⟩, ?_⟩)
    have HO2 : Hid (OwnB w2 w.heap.size v2 8 z) := Lib.hid ⟨by rw [vals_snoc] at ho2; exact ho2, HZ.out⟩
    have HB2 := Lib.hid hb2
    have HS2 : w2.heap[w.heap.size]? = some (.cells (idC z) 27 (0, 0)) ∧ Below w.heap.size w w2 := ⟨(hk2 w.heap.size HL1.out HF1.out).1.trans HN1.out, hb2⟩
    clear ho2 hb2 hs2 hk2
    simp only [Act.put, List.setIfInBounds_toArray, List.set_cons_zero, List.set_cons_succ]
    refine takeY (i := 7) (some 2) (v := v2) rfl rfl (by kernel_rfl) (by kernel_rfl) (by kernel_rfl) (fun _ _ _ h => h) (by rfl) (fun w' hS => by go_simp) HS2 ?_
    simp only [Act.put, List.setIfInBounds_toArray, List.set_cons_zero, List.set_cons_succ]
    refine wpAnyH_done (by kernel_rfl) ?_ _
    go_wp2_with fail
    go_ret
    exact ⟨_, rfl, HO2.out, HB2.out⟩
end Go.Proofs.Ytfojfdlapekjoaa

/- pdu.PutEntries writes entries as bytes. Each theorem states its conditions. -/
namespace Go.Proofs.Ytfojfdlapekjoaa
open Go.RowKit
set_option linter.unusedVariables false

/-- the first m0 lives fit; behind them the list ends, or one doesn't fit -/
def NEnds (L : Nat → En) (m m0 : Nat) : Prop := m0 ≤ m ∧ (∀ k, k < m0 → 0 ≤ (L k).li ∧ (L k).li ≤ 65535) ∧ (m0 = m ∨ (m0 < m ∧ ((L m0).li < 0 ∨ 65535 < (L m0).li)))
theorem nends (L : Nat → En) (m : Nat) : ∃ m0, NEnds L m m0 := by
  induction m with
  | zero => exact ⟨0, by omega, fun k hk => by omega, .inl rfl⟩
  | succ m ih =>
    obtain ⟨m0, h1, h2, h3⟩ := ih
    rcases h3 with rfl | ⟨h3, h4⟩
    · by_cases hb : (L m0).li < 0 ∨ 65535 < (L m0).li
      · exact ⟨m0, by omega, h2, .inr ⟨by omega, hb⟩⟩
      · refine ⟨m0 + 1, by omega, fun k hk => ?_, .inl rfl⟩
        by_cases e : k = m0
        · subst e; omega
        · exact h2 k (by omega)
    · exact ⟨m0, by omega, h2, .inr ⟨by omega, h4⟩⟩
/-- what PutEntries leaves -/
def PutNPost (w : World) (L : Nat → En) (m m0 : Nat) (e : Ending) (w' : World) : Prop :=
  (m0 < m ∧ e = .returned (.tuple #[.slice none 0 0, .int .i64 1]) ∧ Below w.heap.size w w') ∨
  (m0 = m ∧ 15 < m ∧ e = .returned (.tuple #[.slice none 0 0, .int .i64 2]) ∧ Below w.heap.size w w') ∨
  (m0 = m ∧ m ≤ 15 ∧ ∃ v, e = .returned (.tuple #[v, .int .i64 0]) ∧ OwnB w' w.heap.size v (16 * m) (enZ L) ∧ Below w.heap.size w w')
theorem qN_fit (N k : Nat) (h : N < 256 ^ k) : qN N k = 0 := Nat.div_eq_of_lt h
theorem wrapU (N : Nat) (h : N ≤ 4294967295) : IntKind.u64.wrap (N : Int) = (N : Int) := by simp [IntKind.wrap, IntKind.signed, IntKind.bits]; omega
theorem own_ofB {w : World} {base n : Nat} {v : Value} {z : Nat → Int} (h : OwnB w base v n z) (hn : 0 < n) : ∃ g cap, v = .slice (some ⟨g, 0, none⟩) n cap ∧ base ≤ g ∧ Own8 w g n cap z := by
  obtain ⟨g0, cap0, hv, _⟩ := h.1.form (by omega)
  exact own_of h.1 rfl (by rw [hv]; simp) h.2

set_option maxHeartbeats 4000000 in
set_option maxRecDepth 100000 in
theorem putEntries_any (A : Option Addr) (m c m0 : Nat) (L : Nat → En) (w : World) (h : RdR w A m 11 (enA L)) (hL : ∀ j, EnOk (L j)) (hc : m ≤ c) (hcm : c ≤ 9223372036854775807) (hm0 : NEnds L m m0) :
    Calls Try.prog 22 #[.slice A m c] w (PutNPost w L m m0) := by
  have HM := Lib.hid hm0
  have HR := Lib.hid h
  have HB := Lib.hid (enZ_bd L hL)
  have HOK := Lib.hid hL
  have hm0' := hm0.1
  clear h hm0 hL
  go_enter Try.func22, Try.ntmps22
  go_wp2_with fail
  go_loopw [11] (fun i wr => ∃ k : Nat, k ≤ m0 ∧ i = .int .i64 k ∧ Hid (Below w.heap.size w wr))
    (fun i _ => m - (intOf i).toNat)
  case atStart => exact ⟨0, by omega, rfl, Lib.hid (bself w)⟩
  case round =>
    obtain ⟨k, hk, rfl, HW⟩ := hrel
    by_cases hkm : k < m
    · obtain ⟨b, off, rfl, hr⟩ := (HR.out.below HW.out rfl).row (by omega)
      obtain ⟨⟨c0, c1, c2, c3⟩, ⟨c4, c5, c6, c7⟩, c8, c9, c10⟩ := enC_cells (hr.2 k hkm)
      clear hr
      have hki : (k : Int) < (m : Int) := by omega
      have hOk := Lib.hid (HOK.out k)
      have hHm := Lib.hid HM.out.2
      obtain ⟨E, hE⟩ : ∃ E, L k = E := ⟨_, rfl⟩
      have HE := Lib.hid hE
      rw [hE] at c0 c1 c2 c3 c4 c5 c6 c7 c8 c9 c10 hOk
      have hB0 := Lib.hid (HW.out.alloc HW.out.size (.cells (enC E) 96))
      have q1 := hOk.out.2.2.1.1
      have q2 := hOk.out.2.2.1.2
      by_cases hk0 : k < m0
      · have hl := hHm.out.1 k hk0
        rw [hE] at hl
        clear hE
        go_wp2_with fail
        refine (isTime_yes E.li _ hl.1 hl.2).mono ?_
        rintro e w1 ⟨rfl, hw1⟩
        have hB1 : Hid (Below w.heap.size w w1) := Lib.hid (by rw [hw1]; exact hB0.out)
        clear hw1 c0 c1 c2 c3 c4 c5 c6 c7 c8 c9 c10
        go_wp2_with fail
        go_roundw
        case rel => exact ⟨k + 1, by omega, by go_num, hB1⟩
        case measure => simp only [intOf]; omega
      · have hkk : k = m0 := by omega
        have hl : E.li < 0 ∨ 65535 < E.li := by
          have := hHm.out.2
          rw [← hkk, hE] at this
          omega
        have hlm : Hid (m0 < m) := Lib.hid (by omega)
        clear hE hkk hk0
        go_wp2_with fail
        refine (isTime_no E.li _ hl).mono ?_
        rintro e w1 ⟨rfl, hw1⟩
        have hB1 : Hid (Below w.heap.size w w1) := Lib.hid (by rw [hw1]; exact hB0.out)
        clear hw1 c0 c1 c2 c3 c4 c5 c6 c7 c8 c9 c10
        go_wp2_with fail
        go_ret2
        exact .inl ⟨hlm.out, rfl, hB1.out⟩
    · obtain rfl : k = m := by omega
      obtain rfl : m0 = k := by omega
      by_cases h15 : 15 < m0
      · have h15' : (15 : Int) < (m0 : Int) := by omega
        go_wp2_with fail
        go_ret2
        exact .inr (.inl ⟨rfl, h15, rfl, HW.out⟩)
      · have h15' : (m0 : Int) ≤ 15 := by omega
        have HW0 := Lib.hid HW.out
        go_wp2_with fail
        go_loopw [6, 25] (fun p i wr2 => ∃ k : Nat, k ≤ m0 ∧ i = .int .i64 k ∧ Hid (OwnB wr2 w.heap.size p (16 * k) (enZ L)) ∧ Hid (Below w.heap.size w wr2))
          (fun _ i _ => m0 - (intOf i).toNat)
        case atStart => exact ⟨0, by omega, rfl, Lib.hid (OwnB.nil wr _ HB.out), HW0⟩
        case round =>
          clear HW HW0
          obtain ⟨k, hk, rfl, HO, HW⟩ := hrel
          by_cases hkm : k < m0
          · obtain ⟨b, off, rfl, hr⟩ := (HR.out.below HW.out rfl).row (by omega)
            obtain ⟨⟨c0, c1, c2, c3⟩, ⟨c4, c5, c6, c7⟩, c8, c9, c10⟩ := enC_cells (hr.2 k hkm)
            clear hr
            have hki : (k : Int) < (m0 : Int) := by omega
            have hOk := HOK.out k
            have hl := HM.out.2.1 k hkm
            have hn0 := Lib.hid (enZ_push L k)
            obtain ⟨E, hE⟩ : ∃ E, L k = E := ⟨_, rfl⟩
            have HE := Lib.hid hE
            rw [hE] at c0 c1 c2 c3 c4 c5 c6 c7 c8 c9 c10 hOk hl hn0
            have HES := Lib.hid hOk.1
            have hsq := hOk.2.1
            have hsu := hOk.2.2.2
            obtain ⟨N, hN⟩ : ∃ N : Nat, E.li = (N : Int) := ⟨E.li.toNat, by omega⟩
            rw [hN] at c9 hn0 hl
            rw [Int.toNat_natCast] at hn0
            have HN := Lib.hid hN
            have hN2 : N ≤ 65535 := by omega
            clear hE hN hl hOk
            obtain ⟨wo, rfl⟩ : ∃ wo : World, wo = wr := ⟨_, rfl⟩
            have hbw0 := (bself wo).alloc (Nat.le_refl _) (.cells (enC E) 96)
            have hwr : w.heap.size ≤ wo.heap.size := HW.out.size
            have hX0 := heap_alloc_new wo (.cells (enC E) 96)
            have hO0 := ownsRow_below' HO.out.1 hbw0
            have hW0 := HW.out.trans (hbw0.mono hwr)
            have hf0 : u6.ownBlock ≠ some wo.heap.size := (fun e => by have := (HO.out.1.lt _ e).2; omega)
            have hX0' : (wo.alloc (.cells #[.int .u8 (E.s 0), .int .u8 (E.s 1), .int .u8 (E.s 2), .int .u8 (E.s 3), .int .u8 (E.s 4), .int .u8 (E.s 5), .int .u8 (E.s 6), .int .u8 (E.s 7), .int .u32 (E.sq : Int), .int .i64 (N : Int), .int .u16 (E.su : Int)] 96)) = wo.alloc (.cells (enC E) 96) := by unfold enC; rw [HN.out]
            have hsz0 : (wo.alloc (.cells (enC E) 96)).heap.size = wo.heap.size + 1 := by simp
            obtain ⟨W0, hWW⟩ : ∃ W0, wo.alloc (.cells (enC E) 96) = W0 := ⟨_, rfl⟩
            rw [hWW] at hX0 hO0 hW0 hX0' hsz0
            have HX0 := Lib.hid hX0
            have HO0 := Lib.hid hO0
            have HW0 := Lib.hid hW0
            have HF0 := Lib.hid hf0
            have HWW := Lib.hid hX0'
            clear hX0 hO0 hW0 hf0 hX0' hbw0 hWW
            go_wp2_with fail
            rw [HWW.out]
            refine wp_region_held_drew (S := fun w' => w'.heap[wo.heap.size]? = some (.cells (enC E) 96 (0, 0))) (by kernel_rfl) HX0.out (fun hS0 => ?_)
            refine takeY (i := 0) (some 29) (v := u6) rfl rfl (by kernel_rfl) (by kernel_rfl) (by kernel_rfl) (fun _ _ _ h => h) (by rfl) (fun w' hS => by go_simp) hS0 ?_
            simp only [Act.put, List.setIfInBounds_toArray, List.set_cons_zero, List.set_cons_succ]
            refine takeY (i := 1) (some 30) (v := .pointer (some ⟨wo.heap.size, 9, none⟩)) rfl rfl (by kernel_rfl) (by kernel_rfl) (by kernel_rfl) (fun _ _ _ h => h) (by rfl) (fun w' hS => by go_simp) hS0 ?_
            simp only [Act.put, List.setIfInBounds_toArray, List.set_cons_zero, List.set_cons_succ]
            refine takeY (i := 2) (some 31) (v := .int .i64 (N : Int)) rfl rfl (by kernel_rfl) (by kernel_rfl) (by kernel_rfl) (fun _ _ _ h => h) (by rfl) (fun w' hS => by have cx : w'.cell? ⟨wo.heap.size, 9, none⟩ = some (.int .i64 (N : Int)) := (cell_of_row w' _ 9 _ _ _ hS).trans (by show some (Value.int .i64 E.li) = _; rw [HN.out]); clear hS; go_simp) hS0 ?_
            simp only [Act.put, List.setIfInBounds_toArray, List.set_cons_zero, List.set_cons_succ]
            refine takeY (i := 3) (some 32) (v := .int .u64 (N : Int)) rfl rfl (by kernel_rfl) (by kernel_rfl) (by kernel_rfl) (fun _ _ _ h => h) (by rfl) (fun w' hS => by first | (go_simp; done) | (go_simp; exact wrapU _ (by omega))) hS0 ?_
            simp only [Act.put, List.setIfInBounds_toArray, List.set_cons_zero, List.set_cons_succ]
            refine takeC (i := 4) (some 33) 52 #[.int .i64 8] (.int .i64 2) (R := fun w' => w' = (W0).drew) rfl rfl (by kernel_rfl) (by rfl) (by go_simp) (size_2 8 _ (by decide)) (fun w' h => by rw [h]; exact HX0.out) (fun w1 hw1 hS1 => ?_)
            simp only [Act.put, List.setIfInBounds_toArray, List.set_cons_zero, List.set_cons_succ]
            subst hw1
            refine takeCE (i := 5) (some 34) 51 #[.int .u64 (N : Int), .int .i64 2] (R := fun v w' => ∃ g, v = .slice (some ⟨g, 0, none⟩) 2 2 ∧ (W0).heap.size ≤ g ∧ Own8 w' g 2 2 (putZ N 2) ∧ Below (W0).heap.size (W0) w') rfl rfl (by kernel_rfl) (by rfl) (by go_simp) ((putNumber_any (N) 2 _ (by decide) (by decide) (by omega) (qN_fit _ _ (by show _ < 65536; omega))).mono fun e w' h => by obtain ⟨g, h1, h2, h3, h4⟩ := h; exact ⟨_, h1, g, rfl, h2, h3, (bself (W0)).drew.trans h4⟩) (fun v w' h => by obtain ⟨g, _, _, _, h4⟩ := h; exact (h4.block _ (by omega)).trans HX0.out) (fun v w1 h1 hS1 => ?_)
            simp only [Act.put, List.setIfInBounds_toArray, List.set_cons_zero, List.set_cons_succ]
            obtain ⟨g, rfl, hg, hog, hb1⟩ := h1
            have hw1 := hb1.size
            have HGn := Lib.hid hog
            have HO1 := Lib.hid (ownsRow_below' HO0.out hb1)
            have HB1 := Lib.hid (HW0.out.trans (hb1.mono HW0.out.size))
            have HN1 := Lib.hid hS1
            have HL1 : Hid (wo.heap.size < w1.heap.size) := Lib.hid (by omega)
            clear hog hb1 hS1 hS0
            refine takeA (i := 6) (some 35) (.tmp 29) (.tmp 34) rfl rfl (by kernel_rfl) (by rfl) rfl w u6 (16 * k) (vals (enZ L) (16 * k)) rfl HO1.out HB1.out ⟨g, 0, none⟩ 2 2 (vals (putZ N 2) 2) rfl (vals_len _ _) (rd_newsB HGn.out.rd) (vals_one _ _) (by omega) (fun v3 w3 ho3 hb3 hs3 hk3 => ⟨(hk3 wo.heap.size HL1.out HF0.out).1.trans HN1.out, ?_⟩)
            simp only [Act.put, List.setIfInBounds_toArray, List.set_cons_zero, List.set_cons_succ]
            have hS3 : w3.heap[wo.heap.size]? = some (.cells (enC E) 96 (0, 0)) := (hk3 wo.heap.size HL1.out HF0.out).1.trans HN1.out
            have HX3 := Lib.hid hS3
            have HF3 := Lib.hid (hk3 wo.heap.size HL1.out HF0.out).2
            have HO3 := Lib.hid ho3
            have HB3 := Lib.hid hb3
            have HL3 : Hid (wo.heap.size < w3.heap.size) := Lib.hid (by have := HL1.out; omega)
            clear ho3 hb3 hs3 hk3 HO1 HB1 HN1 HL1 HGn hg hw1 HX0 HF0 HO0 HW0 hsz0
            refine takeY (i := 7) (some 6) (v := v3) rfl rfl (by kernel_rfl) (by kernel_rfl) (by kernel_rfl) (fun _ _ _ h => h) (by rfl) (fun w' hS => by go_simp) hS3 ?_
            simp only [Act.put, List.setIfInBounds_toArray, List.set_cons_zero, List.set_cons_succ]
            refine wpAnyH_done (by kernel_rfl) ?_ _
            have d0 : w3.cell? ⟨wo.heap.size, 0, none⟩ = some (.int .u8 (E.s 0)) := (cell_of_row w3 _ 0 _ _ _ HX3.out).trans rfl
            have d1 : w3.cell? ⟨wo.heap.size, 1, none⟩ = some (.int .u8 (E.s 1)) := (cell_of_row w3 _ 1 _ _ _ HX3.out).trans rfl
            have d2 : w3.cell? ⟨wo.heap.size, 2, none⟩ = some (.int .u8 (E.s 2)) := (cell_of_row w3 _ 2 _ _ _ HX3.out).trans rfl
            have d3 : w3.cell? ⟨wo.heap.size, 3, none⟩ = some (.int .u8 (E.s 3)) := (cell_of_row w3 _ 3 _ _ _ HX3.out).trans rfl
            have d4 : w3.cell? ⟨wo.heap.size, 4, none⟩ = some (.int .u8 (E.s 4)) := (cell_of_row w3 _ 4 _ _ _ HX3.out).trans rfl
            have d5 : w3.cell? ⟨wo.heap.size, 5, none⟩ = some (.int .u8 (E.s 5)) := (cell_of_row w3 _ 5 _ _ _ HX3.out).trans rfl
            have d6 : w3.cell? ⟨wo.heap.size, 6, none⟩ = some (.int .u8 (E.s 6)) := (cell_of_row w3 _ 6 _ _ _ HX3.out).trans rfl
            have d7 : w3.cell? ⟨wo.heap.size, 7, none⟩ = some (.int .u8 (E.s 7)) := (cell_of_row w3 _ 7 _ _ _ HX3.out).trans rfl
            clear c0 c1 c2 c3 c4 c5 c6 c7 c8 c9 c10
            go_wp2_with fail
            clear d0 d1 d2 d3 d4 d5 d6 d7
            refine (putID_any E.s _ HES.out).mono ?_
            rintro e w4 ⟨v4, rfl, ho4, hb4⟩
            obtain ⟨g4, cap4, rfl, hg4, hog4⟩ := own_ofB ho4 (by omega)
            have HG4 := Lib.hid hog4
            have HO4 := Lib.hid (ownsRow_below' HO3.out hb4)
            have HB4 := Lib.hid (HB3.out.trans (hb4.mono HB3.out.size))
            have hX4 := Lib.hid ((hb4.block _ HL3.out).trans HX3.out)
            have hL4 := Lib.hid (show wo.heap.size < w4.heap.size by have := hb4.size; have := HL3.out; omega)
            clear ho4 hb4 hog4
            go_wp2_with (first
              | (at_builtin; refine app_s rfl (.tmp 36) (.tmp 39) rfl w v3 (16 * k + 2) _ rfl HO4.out HB4.out ⟨g4, 0, none⟩ 8 cap4 _ rfl (vals_len _ _) (rd_newsB HG4.out.rd) (vals_one _ _) (by omega) ?_; intro v5 w5 ho5 hb5 hs5 hk5))
            have HX0 := Lib.hid ((hk5 wo.heap.size hL4.out HF3.out).1.trans hX4.out)
            have HF0 := Lib.hid (hk5 wo.heap.size hL4.out HF3.out).2
            have HO0 := Lib.hid ho5
            have HW0 := Lib.hid hb5
            have hsz0 : wo.heap.size < w5.heap.size := by have := hL4.out; omega
            clear ho5 hb5 hs5 hk5 HO4 HB4 hX4 hL4 HG4 HO3 HB3 HX3 HF3 HL3
            refine wp_region_held_drew (S := fun w' => w'.heap[wo.heap.size]? = some (.cells (enC E) 96 (0, 0))) (by kernel_rfl) HX0.out (fun hS0 => ?_)
            refine takeY (i := 0) (some 41) (v := v5) rfl rfl (by kernel_rfl) (by kernel_rfl) (by kernel_rfl) (fun _ _ _ h => h) (by rfl) (fun w' hS => by go_simp) hS0 ?_
            simp only [Act.put, List.setIfInBounds_toArray, List.set_cons_zero, List.set_cons_succ]
            refine takeY (i := 1) (some 42) (v := .pointer (some ⟨wo.heap.size, 8, none⟩)) rfl rfl (by kernel_rfl) (by kernel_rfl) (by kernel_rfl) (fun _ _ _ h => h) (by rfl) (fun w' hS => by go_simp) hS0 ?_
            simp only [Act.put, List.setIfInBounds_toArray, List.set_cons_zero, List.set_cons_succ]
            refine takeY (i := 2) (some 43) (v := .int .u32 (E.sq : Int)) rfl rfl (by kernel_rfl) (by kernel_rfl) (by kernel_rfl) (fun _ _ _ h => h) (by rfl) (fun w' hS => by have cx : w'.cell? ⟨wo.heap.size, 8, none⟩ = some (.int .u32 (E.sq : Int)) := (cell_of_row w' _ 8 _ _ _ hS).trans rfl; clear hS; go_simp) hS0 ?_
            simp only [Act.put, List.setIfInBounds_toArray, List.set_cons_zero, List.set_cons_succ]
            refine takeY (i := 3) (some 44) (v := .int .u64 (E.sq : Int)) rfl rfl (by kernel_rfl) (by kernel_rfl) (by kernel_rfl) (fun _ _ _ h => h) (by rfl) (fun w' hS => by first | (go_simp; done) | (go_simp; exact wrapU _ (by omega))) hS0 ?_
            simp only [Act.put, List.setIfInBounds_toArray, List.set_cons_zero, List.set_cons_succ]
            refine takeC (i := 4) (some 45) 52 #[.int .i64 10] (.int .i64 4) (R := fun w' => w' = (w5).drew) rfl rfl (by kernel_rfl) (by rfl) (by go_simp) (size_4 _ ) (fun w' h => by rw [h]; exact HX0.out) (fun w1 hw1 hS1 => ?_)
            simp only [Act.put, List.setIfInBounds_toArray, List.set_cons_zero, List.set_cons_succ]
            subst hw1
            refine takeCE (i := 5) (some 46) 51 #[.int .u64 (E.sq : Int), .int .i64 4] (R := fun v w' => ∃ g, v = .slice (some ⟨g, 0, none⟩) 4 4 ∧ (w5).heap.size ≤ g ∧ Own8 w' g 4 4 (putZ E.sq 4) ∧ Below (w5).heap.size (w5) w') rfl rfl (by kernel_rfl) (by rfl) (by go_simp) ((putNumber_any (E.sq) 4 _ (by decide) (by decide) (by omega) (qN_fit _ _ (by show _ < 4294967296; omega))).mono fun e w' h => by obtain ⟨g, h1, h2, h3, h4⟩ := h; exact ⟨_, h1, g, rfl, h2, h3, (bself (w5)).drew.trans h4⟩) (fun v w' h => by obtain ⟨g, _, _, _, h4⟩ := h; exact (h4.block _ (by omega)).trans HX0.out) (fun v w1 h1 hS1 => ?_)
            simp only [Act.put, List.setIfInBounds_toArray, List.set_cons_zero, List.set_cons_succ]
            obtain ⟨g, rfl, hg, hog, hb1⟩ := h1
            have hw1 := hb1.size
            have HGn := Lib.hid hog
            have HO1 := Lib.hid (ownsRow_below' HO0.out hb1)
            have HB1 := Lib.hid (HW0.out.trans (hb1.mono HW0.out.size))
            have HN1 := Lib.hid hS1
            have HL1 : Hid (wo.heap.size < w1.heap.size) := Lib.hid (by omega)
            clear hog hb1 hS1 hS0
            refine takeA (i := 6) (some 47) (.tmp 41) (.tmp 46) rfl rfl (by kernel_rfl) (by rfl) rfl w v5 (16 * k + 2 + 8) (_) rfl HO1.out HB1.out ⟨g, 0, none⟩ 4 4 (vals (putZ E.sq 4) 4) rfl (vals_len _ _) (rd_newsB HGn.out.rd) (vals_one _ _) (by omega) (fun v6 w6 ho3 hb3 hs3 hk3 => ⟨(hk3 wo.heap.size HL1.out HF0.out).1.trans HN1.out, ?_⟩)
            simp only [Act.put, List.setIfInBounds_toArray, List.set_cons_zero, List.set_cons_succ]
            have hS3 : w6.heap[wo.heap.size]? = some (.cells (enC E) 96 (0, 0)) := (hk3 wo.heap.size HL1.out HF0.out).1.trans HN1.out
            have HX3 := Lib.hid hS3
            have HF3 := Lib.hid (hk3 wo.heap.size HL1.out HF0.out).2
            have HO3 := Lib.hid ho3
            have HB3 := Lib.hid hb3
            have HL3 : Hid (wo.heap.size < w6.heap.size) := Lib.hid (by have := HL1.out; omega)
            clear ho3 hb3 hs3 hk3 HO1 HB1 HN1 HL1 HGn hg hw1 HX0 HF0 HO0 HW0 hsz0
            refine takeY (i := 7) (some 6) (v := v6) rfl rfl (by kernel_rfl) (by kernel_rfl) (by kernel_rfl) (fun _ _ _ h => h) (by rfl) (fun w' hS => by go_simp) hS3 ?_
            simp only [Act.put, List.setIfInBounds_toArray, List.set_cons_zero, List.set_cons_succ]
            refine wpAnyH_done (by kernel_rfl) ?_ _
            have HX0 := HX3
            have HF0 := HF3
            have HO0 := HO3
            have HW0 := HB3
            have hsz0 := HL3.out
            clear HO3 HB3 HX3 HF3 HL3
            go_wp2_with fail
            refine wp_region_held_drew (S := fun w' => w'.heap[wo.heap.size]? = some (.cells (enC E) 96 (0, 0))) (by kernel_rfl) HX0.out (fun hS0 => ?_)
            refine takeY (i := 0) (some 48) (v := v6) rfl rfl (by kernel_rfl) (by kernel_rfl) (by kernel_rfl) (fun _ _ _ h => h) (by rfl) (fun w' hS => by go_simp) hS0 ?_
            simp only [Act.put, List.setIfInBounds_toArray, List.set_cons_zero, List.set_cons_succ]
            refine takeY (i := 1) (some 49) (v := .pointer (some ⟨wo.heap.size, 10, none⟩)) rfl rfl (by kernel_rfl) (by kernel_rfl) (by kernel_rfl) (fun _ _ _ h => h) (by rfl) (fun w' hS => by go_simp) hS0 ?_
            simp only [Act.put, List.setIfInBounds_toArray, List.set_cons_zero, List.set_cons_succ]
            refine takeY (i := 2) (some 50) (v := .int .u16 (E.su : Int)) rfl rfl (by kernel_rfl) (by kernel_rfl) (by kernel_rfl) (fun _ _ _ h => h) (by rfl) (fun w' hS => by have cx : w'.cell? ⟨wo.heap.size, 10, none⟩ = some (.int .u16 (E.su : Int)) := (cell_of_row w' _ 10 _ _ _ hS).trans rfl; clear hS; go_simp) hS0 ?_
            simp only [Act.put, List.setIfInBounds_toArray, List.set_cons_zero, List.set_cons_succ]
            refine takeY (i := 3) (some 51) (v := .int .u64 (E.su : Int)) rfl rfl (by kernel_rfl) (by kernel_rfl) (by kernel_rfl) (fun _ _ _ h => h) (by rfl) (fun w' hS => by first | (go_simp; done) | (go_simp; exact wrapU _ (by omega))) hS0 ?_
            simp only [Act.put, List.setIfInBounds_toArray, List.set_cons_zero, List.set_cons_succ]
            refine takeC (i := 4) (some 52) 52 #[.int .i64 11] (.int .i64 2) (R := fun w' => w' = (w6).drew) rfl rfl (by kernel_rfl) (by rfl) (by go_simp) (size_2 11 _ (by decide)) (fun w' h => by rw [h]; exact HX0.out) (fun w1 hw1 hS1 => ?_)
            simp only [Act.put, List.setIfInBounds_toArray, List.set_cons_zero, List.set_cons_succ]
            subst hw1
            refine takeCE (i := 5) (some 53) 51 #[.int .u64 (E.su : Int), .int .i64 2] (R := fun v w' => ∃ g, v = .slice (some ⟨g, 0, none⟩) 2 2 ∧ (w6).heap.size ≤ g ∧ Own8 w' g 2 2 (putZ E.su 2) ∧ Below (w6).heap.size (w6) w') rfl rfl (by kernel_rfl) (by rfl) (by go_simp) ((putNumber_any (E.su) 2 _ (by decide) (by decide) (by omega) (qN_fit _ _ (by show _ < 65536; omega))).mono fun e w' h => by obtain ⟨g, h1, h2, h3, h4⟩ := h; exact ⟨_, h1, g, rfl, h2, h3, (bself (w6)).drew.trans h4⟩) (fun v w' h => by obtain ⟨g, _, _, _, h4⟩ := h; exact (h4.block _ (by omega)).trans HX0.out) (fun v w1 h1 hS1 => ?_)
            simp only [Act.put, List.setIfInBounds_toArray, List.set_cons_zero, List.set_cons_succ]
            obtain ⟨g, rfl, hg, hog, hb1⟩ := h1
            have hw1 := hb1.size
            have HGn := Lib.hid hog
            have HO1 := Lib.hid (ownsRow_below' HO0.out hb1)
            have HB1 := Lib.hid (HW0.out.trans (hb1.mono HW0.out.size))
            have HN1 := Lib.hid hS1
            have HL1 : Hid (wo.heap.size < w1.heap.size) := Lib.hid (by omega)
            clear hog hb1 hS1 hS0
            refine takeA (i := 6) (some 54) (.tmp 48) (.tmp 53) rfl rfl (by kernel_rfl) (by rfl) rfl w v6 (16 * k + 2 + 8 + 4) (_) rfl HO1.out HB1.out ⟨g, 0, none⟩ 2 2 (vals (putZ E.su 2) 2) rfl (vals_len _ _) (rd_newsB HGn.out.rd) (vals_one _ _) (by omega) (fun v9 w9 ho3 hb3 hs3 hk3 => ⟨(hk3 wo.heap.size HL1.out HF0.out).1.trans HN1.out, ?_⟩)
            simp only [Act.put, List.setIfInBounds_toArray, List.set_cons_zero, List.set_cons_succ]
            have hS3 : w9.heap[wo.heap.size]? = some (.cells (enC E) 96 (0, 0)) := (hk3 wo.heap.size HL1.out HF0.out).1.trans HN1.out
            have HX3 := Lib.hid hS3
            have HF3 := Lib.hid (hk3 wo.heap.size HL1.out HF0.out).2
            have HO3 := Lib.hid ho3
            have HB3 := Lib.hid hb3
            have HL3 : Hid (wo.heap.size < w9.heap.size) := Lib.hid (by have := HL1.out; omega)
            clear ho3 hb3 hs3 hk3 HO1 HB1 HN1 HL1 HGn hg hw1 HX0 HF0 HO0 HW0 hsz0
            refine takeY (i := 7) (some 6) (v := v9) rfl rfl (by kernel_rfl) (by kernel_rfl) (by kernel_rfl) (fun _ _ _ h => h) (by rfl) (fun w' hS => by go_simp) hS3 ?_
            simp only [Act.put, List.setIfInBounds_toArray, List.set_cons_zero, List.set_cons_succ]
            refine wpAnyH_done (by kernel_rfl) ?_ _
            have HOF : Hid (OwnB w9 w.heap.size v9 (16 * (k + 1)) (enZ L)) := Lib.hid (by
              have h := HO3.out
              rw [hn0.out] at h
              exact ⟨h, HB.out⟩)
            go_wp2_with fail
            go_roundw
            case rel => first | exact ⟨k + 1, by omega, by go_num, HOF, HB3⟩ | exact ⟨_, _, _, ⟨k + 1, by omega, by go_num, HOF, HB3⟩, rfl, rfl, rfl⟩ | ((repeat apply Exists.intro); exact ⟨⟨k + 1, by omega, by go_num, HOF, HB3⟩, rfl⟩)
            case measure => simp only [intOf]; omega
          · obtain rfl : k = m0 := by omega
            go_wp2_with fail
            go_ret2
            exact .inr (.inr ⟨rfl, by omega, _, rfl, HO.out, HW.out⟩)
end Go.Proofs.Ytfojfdlapekjoaa

/- pdu.getNumber, getNode, getID. Each theorem states its conditions. -/
namespace Go.Proofs.Ytfojfdlapekjoaa
open Go.RowKit
set_option linter.unusedVariables false

theorem Row8.shift {w : World} {b off n : Nat} {z : Nat → Int} (h : Row8 w b off n z) (k m : Nat) (hk : k + m ≤ n) : Row8 w b (off + k) m (fun j => z (k + j)) :=
  ⟨h.1, fun j hj => by have := h.2.1 (k + j) (by omega); rwa [← Nat.add_assoc] at this, fun j => h.2.2 _⟩
/-- the number that all bytes are -/
theorem getNumber_any (b off n c : Nat) (z : Nat → Int) (w : World) (hr : Row8 w b off n z) (h1 : 1 ≤ n) (h8 : n ≤ 8) (hc : n ≤ c) (hcm : c ≤ maxLen) :
    Calls Try.prog 55 #[.slice (some ⟨b, off, none⟩) n c] w fun e w' => e = .returned (.int .u64 (((numZ z 0 n).toNat : Nat) : Int)) ∧ w' = w := by
  have HN := Lib.hid (num_ok b off n c z 0 n w hr.2.2 hcm hc (fun j hj => hr.2.1 j hj) (by omega) (by omega) (Int.le_refl 0) (by omega))
  have hb := numZ_lt z 0 n (fun j => hr.2.2 _)
  obtain ⟨M, hM⟩ : ∃ M, (numZ z 0 n).toNat = M := ⟨_, rfl⟩
  have HB : Hid (numZ z (0 : Int).toNat (n : Int).toNat = (M : Int)) := Lib.hid (by rw [← hM, Int.toNat_natCast, Int.toNat_of_nonneg hb.1]; rfl)
  rw [hM]
  clear hM
  unfold maxLen at hcm
  clear hr hb
  go_enter Try.func55, Try.ntmps55
  go_wp2_with fail
  refine HN.out.mono ?_
  rintro e w1 ⟨rfl, rfl⟩
  rw [HB.out]
  go_wp2_with fail
  go_ret
  exact ⟨rfl, rfl⟩
theorem six_src {W : World} {b off n : Nat} {z : Nat → Int} (h : Row8 W b off n z) (hp : 6 ≤ n) : ∀ j v, (vals z 6)[j]? = some v → W.cell? ((⟨b, off, none⟩ : Addr).add j) = some v := by
  intro j v hj
  have hj6 : j < 6 := by
    rcases Nat.lt_or_ge j 6 with h | h
    · exact h
    · rw [List.getElem?_eq_none (by rw [vals_len]; omega)] at hj; cases hj
  rw [vals_at _ _ _ hj6] at hj
  injection hj with hj
  subst hj
  rw [add_none]
  exact h.2.1 j (by omega)
theorem info_u8s' : (Try.prog.info? 5).map (·.size) = some 1 := by kernel_rfl
theorem info_nd : (Try.prog.info? 25).map (·.size) = some 7 := by kernel_rfl
theorem hi_nd' (z : Nat → Int) : (Try.prog.info? 25).map (·.size) = some (ndC z).size := by kernel_rfl
def nd0 : Array Value := #[.int .u8 0, .int .u8 0, .int .u8 0, .int .u8 0, .int .u8 0, .int .u8 0, .int .u8 0]
theorem nd_splice (z : Nat → Int) : (splice nd0.toList 0 (vals z 6)).toArray = ndC (fun j => if j < 6 then z j else 0) := by kernel_rfl
theorem nd_put (z : Nat → Int) : (ndC (fun j => if j < 6 then z j else 0)).setIfInBounds 6 (.int .u8 (z 6)) = ndC z := by kernel_rfl
theorem nd_all (z : Nat → Int) : (ndC z).all (·.oneCell') = true := by kernel_rfl
section
variable {ops : Array Oper} {rest : List Oper} {op : Oper} {a : Act} {w : World} {Q : Exit → Act → World → Prop} {b : Nat}
theorem store_blk {ty : TypeId} {cells old : Array Value} (hgd : op.guard = none) (x y : Operand) (ho : op.op = .store ty x y) (hx : a.eval x = .pointer (some ⟨b, 0, none⟩)) (hy : a.eval y = .agg cells)
    (hg : w.heap[b]? = some (.cells old ty (0, 0))) (hi : (Try.prog.info? ty).map (·.size) = some cells.size) (hs : old.size = cells.size) (h1 : cells.all (·.oneCell') = true)
    (h : ∀ w', w'.heap[b]? = some (.cells cells ty (0, 0)) → (∀ B, B ≤ b → Below B w w') → (∀ k, k ≠ b → w'.heap[k]? = w.heap[k]?) → wpList Try.prog ops Q rest (a.put op.dst undef) w') : wpList Try.prog ops Q (op :: rest) a w := by
  refine wpList_plain hgd fun K hK => ?_
  have hrun := run_storeVar_row (P := Try.prog) w b ty ty old cells hg hi hs h1
  unfold Oper.wp execOp
  simp only [ho, hx, hy, Instr.storeAt, Instr.sureAddr, Sem.run_bind, Sem.run_pure, Result.andThen_ok, hrun]
  exact hK _ _ (h _ (setRow_heap w b old cells ty (0, 0) hg) (fun B hB => ⟨rfl, rfl, rfl, by simp [World.setRow], fun k hk => setRow_other w b k cells (by omega)⟩) (fun k hk => setRow_other w b k cells hk))
end
theorem results_nd {fn : Func} {p : Tmp} (h : fn.results = #[.cell p 25]) (tmps : Array Value) (W : World) (g : Nat) (z : Nat → Int)
    (hp : tmps.getD p undef = .pointer (some ⟨g, 0, none⟩)) (hg : W.heap[g]? = some (.cells (ndC z) 25 (0, 0))) : (results fn tmps).run Try.prog W = .ok (.agg (ndC z)) W := by
  have h1 := run_loadVar_row (P := Try.prog) W g 25 25 (ndC z) (0, 0) _ hg Try.underlying25 rfl (hi_nd' z)
  have hp' : (tmps[p]?).getD undef = .pointer (some ⟨g, 0, none⟩) := by simpa using hp
  simp only [results, h]
  simp [hp', asAddr, h1]
theorem nd_range {w : World} {X : Nat} {C : Array Value} {t : TypeId} (h : w.heap[X]? = some (.cells C t (0, 0))) : w.rangeAt X 0 C.toList := by
  intro j u hj
  rw [Nat.zero_add, cell_of_row w X j _ _ _ h]
  simpa using hj
theorem row_put {W : World} {X i : Nat} {C C' : Array Value} {t : TypeId} {v : Value} (h : W.heap[X]? = some (.cells C t (0, 0))) (hC : C.setIfInBounds i v = C') : (W.setCell ⟨X, i, none⟩ v).heap[X]? = some (.cells C' t (0, 0)) := by
  subst hC
  simp [World.setCell, Array.getElem?_modify, h]
set_option maxHeartbeats 2000000 in
set_option maxRecDepth 100000 in
theorem getNode_any (b off n c : Nat) (z : Nat → Int) (w : World) (hr : Row8 w b off n z) (h1 : 7 ≤ n) (hc : n ≤ c) (hcm : c ≤ maxLen) :
    Calls Try.prog 72 #[.slice (some ⟨b, off, none⟩) n c] w fun e w' => e = .returned (.agg (ndC z)) ∧ Below w.heap.size w w' := by
  obtain ⟨W2, hW2⟩ : ∃ W2, (w.alloc (.cells nd0 25)).alloc (.cells nd0 25) = W2 := ⟨_, rfl⟩
  have hB2 : Below w.heap.size w W2 := by rw [← hW2]; exact ((bself w).alloc (Nat.le_refl _) _).alloc (by simp) _
  have hX1 : W2.heap[w.heap.size + 1]? = some (.cells nd0 25 (0, 0)) := by
    have := heap_alloc_new (w.alloc (.cells nd0 25)) (.cells nd0 25)
    rw [World.size_alloc, hW2] at this
    exact this
  have hX0 : W2.heap[w.heap.size]? = some (.cells nd0 25 (0, 0)) := by
    rw [← hW2]
    exact (Below.heap_alloc _ _ _ (by simp)).trans (heap_alloc_new w _)
  have hR2 := hr.below hB2 hr.1
  have HS := Lib.hid (six_src hR2 (by omega))
  have HB2 := Lib.hid hB2
  have HX1 := Lib.hid hX1
  have HX0 := Lib.hid hX0
  have HR2 := Lib.hid hR2
  have hbw := hr.1
  have HW2 := Lib.hid hW2
  have HML : Hid ((vals z 6).length = Nat.min n 6) := Lib.hid (by rw [vals_len]; exact (Nat.min_eq_right (by omega)).symm)
  unfold maxLen at hcm
  clear hr hB2 hX1 hX0 hR2 hW2
  unfold nd0 at HW2
  go_enter Try.func72, Try.ntmps72
  go_wp2_with (first
    | (rw [HW2.out]; refine wpList_step fun K hK => ?_; refine step_copy_splice rfl (.tmp 6) (.tmp 7) 35 35 rfl 5 Try.underlying35 info_u8s' (some ⟨w.heap.size + 1, 0, none⟩) (some ⟨b, off, none⟩) 6 6 n c rfl rfl (w.heap.size + 1) 0 nd0.toList 25 (by simpa using HX1.out) (vals z 6) HML.out (fun _ => ⟨rfl, _, rfl, HS.out⟩) (show 0 + (vals z 6).length ≤ 7 by rw [vals_len]; decide) (vals_one _ _) (w.heap.size + 1) W2 (Below.refl _ _) (Nat.le_refl _) ?_; intro w3 hc3 hb3; refine hK _ _ ?_; rw [vals_len];
        have hE3 : w3.heap[w.heap.size + 1]? = some (.cells (ndC (fun j => if j < 6 then z j else 0)) 25 (0, 0)) := (by have := hc3.out; rw [nd_splice] at this; exact this);
        have c6 : w3.cell? ⟨b, off + 6, none⟩ = some (.int .u8 (z 6)) := (by rw [hb3.cell (by show b < _; omega)]; exact HR2.out.2.1 6 (by omega));
        have d6 : w3.cell? ⟨w.heap.size + 1, 6, none⟩ = some (.int .u8 0) := (cell_of_row w3 _ 6 _ _ _ hE3).trans rfl;
        have f6 : w3.frozen? ⟨w.heap.size + 1, 6, none⟩ = false := (by simp [World.frozen?, hE3]);
        have hE4 := Lib.hid (row_put (i := 6) (v := .int .u8 (z 6)) hE3 (nd_put z));
        have hB4 := Lib.hid (hb3.setCell (p := ⟨w.heap.size + 1, 6, none⟩) (Nat.le_refl _) (.int .u8 (z 6)));
        clear hE3)
    | (refine wpList_load_mid rfl 25 (.tmp 3) rfl (w.heap.size + 1) 0 rfl _ _ (nd_range hE4.out) Try.underlying25 rfl info_nd ?_)
    | (refine store_blk rfl (.tmp 2) (.tmp 14) (cells := ndC z) rfl rfl rfl ((hB4.out.block w.heap.size (by omega)).trans HX0.out) info_nd rfl (nd_all z) ?_; intro w5 hg5 hb5 ho5; refine Hid.out ?_))
  refine Lib.hid ?_
  have HQ := Lib.hid hg5
  have HB5 := Lib.hid (HB2.out.trans ((hB4.out.mono (by omega)).trans (hb5 w.heap.size (Nat.le_refl _))))
  clear hg5 hb5 ho5
  go_wp2_with fail
  refine bodyPost_ret (results_nd rfl _ w5 w.heap.size z rfl HQ.out) rfl ⟨rfl, HB5.out⟩
end Go.Proofs.Ytfojfdlapekjoaa

/- pdu.getID reads an ID. Each theorem states its conditions. -/
namespace Go.Proofs.Ytfojfdlapekjoaa
open Go.RowKit
set_option linter.unusedVariables false

def id0 : Array Value := #[.int .u8 0, .int .u8 0, .int .u8 0, .int .u8 0, .int .u8 0, .int .u8 0, .int .u8 0, .int .u8 0]
theorem info_id : (Try.prog.info? 27).map (·.size) = some 8 := by kernel_rfl
theorem hi_id (z : Nat → Int) : (Try.prog.info? 27).map (·.size) = some (idC z).size := by kernel_rfl
theorem id_all (z : Nat → Int) : (idC z).all (·.oneCell') = true := by kernel_rfl
theorem results_id {fn : Func} {p : Tmp} (h : fn.results = #[.cell p 27]) (tmps : Array Value) (W : World) (g : Nat) (z : Nat → Int)
    (hp : tmps.getD p undef = .pointer (some ⟨g, 0, none⟩)) (hg : W.heap[g]? = some (.cells (idC z) 27 (0, 0))) : (results fn tmps).run Try.prog W = .ok (.agg (idC z)) W := by
  have h1 := run_loadVar_row (P := Try.prog) W g 27 27 (idC z) (0, 0) _ hg Try.underlying27 rfl (hi_id z)
  have hp' : (tmps[p]?).getD undef = .pointer (some ⟨g, 0, none⟩) := by simpa using hp
  simp only [results, h]
  simp [hp', asAddr, h1]
theorem build_id (o : Oper) (e : Operand → Value) (x0 x1 : Operand) (ho : o.op = .build 27 #[(0, x0), (1, x1)]) (z : Nat → Int) (h0 : e x0 = .agg (ndC z)) (h1 : e x1 = .int .u8 (z 7)) (W : World) :
    (execOp e o).run Try.prog W = .ok (.value (.agg (idC z))) W := by
  unfold execOp
  simp only [ho]
  simp only [List.map_toArray, List.map_cons, List.map_nil, h0, h1]
  kernel_rfl
set_option maxHeartbeats 2000000 in
set_option maxRecDepth 100000 in
theorem getID_any (b off c : Nat) (z : Nat → Int) (w : World) (hr : Row8 w b off 8 z) (hc : 8 ≤ c) (hcm : c ≤ maxLen) :
    Calls Try.prog 56 #[.slice (some ⟨b, off, none⟩) 8 c] w fun e w' => e = .returned (.agg (idC z)) ∧ Below w.heap.size w w' := by
  have hbw := hr.1
  have HB1 := Lib.hid ((bself w).alloc (Nat.le_refl _) (.cells id0 27))
  have HX1 := Lib.hid (heap_alloc_new w (.cells id0 27))
  have hs1 : (w.alloc (.cells id0 27)).heap.size = w.heap.size + 1 := by simp
  have HR1 := Lib.hid (hr.below HB1.out hbw)
  obtain ⟨W1, hW1⟩ : ∃ W1, w.alloc (.cells id0 27) = W1 := ⟨_, rfl⟩
  rw [hW1] at HB1 HX1 hs1 HR1
  have HW1 := Lib.hid hW1
  have hcm' := Lib.hid hcm
  unfold maxLen at hcm
  clear hr hW1
  unfold id0 at HW1
  go_enter Try.func56, Try.ntmps56
  go_wp2_with fail
  rw [HW1.out]
  refine wp_region_held_drew (S := fun w' => w'.cell? ⟨b, off + 7, none⟩ = some (.int .u8 (z 7))) (by kernel_rfl) (HR1.out.2.1 7 (by omega)) (fun hS0 => ?_)
  refine takeY (i := 0) (some 3) (v := .slice (some ⟨b, off, none⟩) 8 c) rfl rfl (by kernel_rfl) (by kernel_rfl) (by kernel_rfl) (fun _ _ _ h => h) (by rfl) (fun w' hS => by go_simp) hS0 ?_
  simp only [Act.put, List.setIfInBounds_toArray, List.set_cons_zero, List.set_cons_succ]
  refine takeY (i := 2) (some 5) (v := .slice (some ⟨b, off, none⟩) 8 c) rfl rfl (by kernel_rfl) (by kernel_rfl) (by kernel_rfl) (fun _ _ _ h => h) (by rfl) (fun w' hS => by go_simp) hS0 ?_
  simp only [Act.put, List.setIfInBounds_toArray, List.set_cons_zero, List.set_cons_succ]
  refine takeY (i := 3) (some 6) (v := .slice (some ⟨b, off, none⟩) 8 c) rfl rfl (by kernel_rfl) (by kernel_rfl) (by kernel_rfl) (fun _ _ _ h => h) (by rfl) (fun w' hS => by go_simp) hS0 ?_
  simp only [Act.put, List.setIfInBounds_toArray, List.set_cons_zero, List.set_cons_succ]
  refine takeY (i := 4) (some 7) (v := .int .i64 8) rfl rfl (by kernel_rfl) (by kernel_rfl) (by kernel_rfl) (fun _ _ _ h => h) (by rfl) (fun w' hS => by go_simp) hS0 ?_
  simp only [Act.put, List.setIfInBounds_toArray, List.set_cons_zero, List.set_cons_succ]
  refine takeY (i := 5) (some 8) (v := .int .i64 7) rfl rfl (by kernel_rfl) (by kernel_rfl) (by kernel_rfl) (fun _ _ _ h => h) (by rfl) (fun w' hS => by go_simp; rfl) hS0 ?_
  simp only [Act.put, List.setIfInBounds_toArray, List.set_cons_zero, List.set_cons_succ]
  refine takeY (i := 6) (some 9) (v := .pointer (some ⟨b, off + 7, none⟩)) rfl rfl (by kernel_rfl) (by kernel_rfl) (by kernel_rfl) (fun _ _ _ h => h) (by rfl) (fun w' hS => by go_simp) hS0 ?_
  simp only [Act.put, List.setIfInBounds_toArray, List.set_cons_zero, List.set_cons_succ]
  refine takeY (i := 7) (some 10) (v := .int .u8 (z 7)) rfl rfl (by kernel_rfl) (by kernel_rfl) (by kernel_rfl) (fun _ _ _ h => h) (by rfl) (fun w' hS => by go_simp) hS0 ?_
  simp only [Act.put, List.setIfInBounds_toArray, List.set_cons_zero, List.set_cons_succ]
  refine takeC (i := 1) (some 4) 72 #[.slice (some ⟨b, off, none⟩) 8 c] (.agg (ndC z)) (R := fun w' => Below W1.heap.size W1 w') rfl rfl (by kernel_rfl) (by rfl) (by go_simp) ((getNode_any b off 8 c z W1.drew HR1.out (by omega) hc hcm'.out).mono fun e w' h => ⟨h.1, (bself W1).drew.trans h.2⟩) (fun w' h => by rw [h.cell (show b < W1.heap.size by omega)]; exact HR1.out.2.1 7 (by omega)) (fun w2 h2 hS0 => ?_)
  simp only [Act.put, List.setIfInBounds_toArray, List.set_cons_zero, List.set_cons_succ]
  refine takeY (i := 8) (some 11) (v := .agg (idC z)) rfl rfl (by kernel_rfl) (by kernel_rfl) (by kernel_rfl) (fun _ _ _ h => h) (by rfl) (fun w' hS => build_id _ _ _ _ rfl z rfl rfl w') hS0 ?_
  simp only [Act.put, List.setIfInBounds_toArray, List.set_cons_zero, List.set_cons_succ]
  have hX2 := (h2.block w.heap.size (by omega)).trans HX1.out
  refine takeS (i := 9) (.tmp 2) (.tmp 11) rfl rfl rfl (by kernel_rfl) (by rfl) rfl rfl hX2 (hi_id z) rfl (id_all z) (fun w' _ hb _ => by rw [(hb w.heap.size (Nat.le_refl _)).cell hbw]; exact hS0) (fun w3 hg3 hb3 _ hS3 => ?_)
  simp only [Act.put]
  refine wpAnyH_done (by kernel_rfl) ?_ _
  have HQ := Lib.hid hg3
  have HB3 := Lib.hid (HB1.out.trans ((h2.mono (by omega)).trans (hb3 w.heap.size (Nat.le_refl _))))
  clear hg3 hb3 h2 hX2 hS3 hS0
  go_wp2_with fail
  refine bodyPost_ret (results_id rfl _ w3 w.heap.size z rfl HQ.out) rfl ⟨rfl, HB3.out⟩
end Go.Proofs.Ytfojfdlapekjoaa

/- Packets: their cells, which fields a kind has, and their bytes. Each theorem states its conditions. -/
namespace Go.Proofs.Ytfojfdlapekjoaa
open Go.RowKit
set_option linter.unusedVariables false

/-- a packet: what stands in its cells -/
structure Pd where
  kd : Int
  ci : Int
  so : Nat → Int
  ho : Int
  nu : Int
  pr : Int
  la : Nat → Int
  li : Int
  id : Nat → Int
  sq : Nat
  bi : Int
  st : Nat → Int
  en : Nat → Int
  A : Option Addr
  m : Nat
  c : Nat
def by1 (x : Int) : Prop := 0 ≤ x ∧ x ≤ 255
def in64 (x : Int) : Prop := -9223372036854775808 ≤ x ∧ x ≤ 9223372036854775807
def PdOk (p : Pd) : Prop := (by1 p.kd ∧ by1 p.ci ∧ (∀ j, 0 ≤ p.so j ∧ p.so j ≤ 255) ∧ in64 p.ho ∧ by1 p.nu ∧ by1 p.pr ∧ (∀ j, 0 ≤ p.la j ∧ p.la j ≤ 255)) ∧
  in64 p.li ∧ (∀ j, 0 ≤ p.id j ∧ p.id j ≤ 255) ∧ p.sq ≤ 4294967295 ∧ by1 p.bi ∧ (∀ j, 0 ≤ p.st j ∧ p.st j ≤ 255) ∧ (∀ j, 0 ≤ p.en j ∧ p.en j ≤ 255)
def pdC (p : Pd) : Array Value := #[.int .u8 p.kd, .int .u8 p.ci,
  .int .u8 (p.so 0), .int .u8 (p.so 1), .int .u8 (p.so 2), .int .u8 (p.so 3), .int .u8 (p.so 4), .int .u8 (p.so 5), .int .u8 (p.so 6),
  .int .i64 p.ho, .int .u8 p.nu, .int .u8 p.pr,
  .int .u8 (p.la 0), .int .u8 (p.la 1), .int .u8 (p.la 2), .int .u8 (p.la 3), .int .u8 (p.la 4), .int .u8 (p.la 5), .int .u8 (p.la 6),
  .int .i64 p.li,
  .int .u8 (p.id 0), .int .u8 (p.id 1), .int .u8 (p.id 2), .int .u8 (p.id 3), .int .u8 (p.id 4), .int .u8 (p.id 5), .int .u8 (p.id 6), .int .u8 (p.id 7),
  .int .u32 (p.sq : Int), .int .u8 p.bi,
  .int .u8 (p.st 0), .int .u8 (p.st 1), .int .u8 (p.st 2), .int .u8 (p.st 3), .int .u8 (p.st 4), .int .u8 (p.st 5), .int .u8 (p.st 6), .int .u8 (p.st 7),
  .int .u8 (p.en 0), .int .u8 (p.en 1), .int .u8 (p.en 2), .int .u8 (p.en 3), .int .u8 (p.en 4), .int .u8 (p.en 5), .int .u8 (p.en 6), .int .u8 (p.en 7),
  .slice p.A p.m p.c]
theorem pdC_size (p : Pd) : (pdC p).size = 47 := rfl
theorem pdC_one (p : Pd) : (pdC p).all (·.oneCell') = true := by kernel_rfl

/-- of which class a kind is -/
def cls (k : Int) : Nat := if k = 17 then 0 else if k = 15 ∨ k = 16 then 1 else if k = 18 ∨ k = 20 then 2 else if k = 24 ∨ k = 25 then 3 else if k = 26 ∨ k = 27 then 4 else 5
/-- the fields of a class -/
def flC : Nat → List Nat
  | 0 => [0, 1, 3, 4, 5]
  | 1 => [0, 1, 3, 4, 6, 7]
  | 2 => [4, 8, 9, 10, 11, 12]
  | 3 => [4, 2, 13, 14]
  | 4 => [4, 2]
  | _ => []
def flA (q : Nat) : Array Value := ((flC q).map fun (f : Nat) => Value.int .i64 (f : Int)).toArray
/-- how many bytes a field has -/
def fsz : Nat → Nat
  | 1 => 6
  | 2 => 7
  | 3 => 2
  | 4 => 2
  | 7 => 7
  | 8 => 2
  | 9 => 8
  | 10 => 4
  | 11 => 2
  | 13 => 8
  | 14 => 8
  | _ => 1
def fAt (q i : Nat) : Nat := (flC q).getD i 0
/-- how many bytes stand ahead of field i -/
def accN (q : Nat) : Nat → Nat
  | 0 => 8
  | i + 1 => accN q i + fsz (fAt q i)
def hdN (q : Nat) : Nat := accN q (flC q).length
theorem fAt_le (q i : Nat) (hq : q ≤ 4) : fAt q i ≤ 14 := by
  have h : ∀ f ∈ flC q, f ≤ 14 := by
    rcases (by omega : q = 0 ∨ q = 1 ∨ q = 2 ∨ q = 3 ∨ q = 4) with rfl | rfl | rfl | rfl | rfl <;> decide
  unfold fAt
  by_cases hi : i < (flC q).length
  · simp only [List.getD, List.getElem?_eq_getElem hi, Option.getD_some]
    exact h _ (List.getElem_mem hi)
  · simp only [List.getD, List.getElem?_eq_none (Nat.le_of_not_lt hi), Option.getD_none]
    omega
theorem fl_len (q : Nat) (hq : q ≤ 4) : 0 < (flC q).length ∧ (flC q).length ≤ 6 := by
  rcases (by omega : q = 0 ∨ q = 1 ∨ q = 2 ∨ q = 3 ∨ q = 4) with rfl | rfl | rfl | rfl | rfl <;> decide
theorem fsz_bd (f : Nat) : 1 ≤ fsz f ∧ fsz f ≤ 8 := by
  unfold fsz; split <;> decide
theorem accN_bd (q i : Nat) : 8 ≤ accN q i ∧ accN q i ≤ 8 + 8 * i := by
  induction i with
  | zero => simp [accN]
  | succ i ih => have := fsz_bd (fAt q i); simp only [accN]; omega
theorem hdN_bd (q : Nat) (hq : q ≤ 4) : 17 ≤ hdN q ∧ hdN q ≤ 33 := by
  rcases (by omega : q = 0 ∨ q = 1 ∨ q = 2 ∨ q = 3 ∨ q = 4) with rfl | rfl | rfl | rfl | rfl <;> decide
theorem flA_at (q i : Nat) (hi : i < (flC q).length) : (flA q)[i]? = some (.int .i64 ((fAt q i : Nat) : Int)) := by
  unfold flA fAt
  simp [List.getD, hi]
theorem flA_size (q : Nat) : (flA q).size = (flC q).length := by simp [flA]

/-- may what stands in a field stand there? -/
def fitB (p : Pd) : Nat → Bool
  | 0 => decide (1 ≤ p.ci ∧ p.ci ≤ 3)
  | 3 => decide (0 ≤ p.ho ∧ p.ho ≤ 65535)
  | 8 => decide (0 ≤ p.li ∧ p.li ≤ 65535)
  | 6 => decide (p.pr ≤ 127)
  | _ => true
/-- the first i fields -/
def fitsTo (p : Pd) (q : Nat) : Nat → Bool
  | 0 => true
  | i + 1 => fitsTo p q i && fitB p (fAt q i)
def fitP (p : Pd) (q : Nat) : Bool := fitsTo p q (flC q).length
/-- the first six -/
def cutSys (s : Nat → Int) : Nat → Int := fun j => if j < 6 then s j else 0
theorem cutSys_bd {s : Nat → Int} (h : ∀ j, 0 ≤ s j ∧ s j ≤ 255) : ∀ j, 0 ≤ cutSys s j ∧ cutSys s j ≤ 255 := by
  intro j; unfold cutSys; split
  · exact h j
  · exact ⟨Int.le_refl 0, (by decide : (0 : Int) ≤ 255)⟩
theorem cutSys_cut (s : Nat → Int) : cutSys (cutSys s) = cutSys s := by funext j; unfold cutSys; split <;> rfl
/-- the bytes of a field; W: how many bytes the packet has -/
def fZ (p : Pd) (W : Nat) : Nat → Nat → Int
  | 0 => fun _ => p.ci
  | 1 => cutSys p.so
  | 2 => p.so
  | 3 => putZ p.ho.toNat 2
  | 4 => putZ W 2
  | 5 => fun _ => p.nu
  | 6 => fun _ => p.pr
  | 7 => p.la
  | 8 => putZ p.li.toNat 2
  | 9 => p.id
  | 10 => putZ p.sq 4
  | 12 => fun _ => p.bi
  | 13 => p.st
  | 14 => p.en
  | _ => fun _ => 0
theorem fZ_bd (p : Pd) (W f : Nat) (h : PdOk p) : ∀ j, 0 ≤ fZ p W f j ∧ fZ p W f j ≤ 255 := by
  obtain ⟨⟨h1, h2, h3, h4, h5, h6, h7⟩, h8, h9, h10, h11, h12, h13⟩ := h
  intro j
  unfold fZ
  split <;> first | assumption | exact cutSys_bd h3 j | exact h3 j | exact h7 j | exact h9 j | exact h12 j | exact h13 j | exact putZ_bd _ _ _ | exact ⟨Int.le_refl 0, (by decide : (0 : Int) ≤ 255)⟩
/-- the first eight bytes -/
def headZ (k : Int) (n : Nat) : Nat → Int := fun j => if j = 0 then 131 else if j = 1 then (n : Int) else if j = 2 then 1 else if j = 3 then 0 else if j = 4 then k else if j = 5 then 1 else 0
theorem headZ_bd (k : Int) (n : Nat) (hk : by1 k) (hn : n ≤ 255) : ∀ j, 0 ≤ headZ k n j ∧ headZ k n j ≤ 255 := by
  intro j; unfold headZ; unfold by1 at hk
  repeat' split
  all_goals omega
/-- the bytes to field i -/
def accZ (p : Pd) (W q : Nat) : Nat → Nat → Int
  | 0 => headZ p.kd (hdN q)
  | i + 1 => cat (accZ p W q i) (accN q i) (fZ p W (fAt q i))
theorem accZ_bd (p : Pd) (W q : Nat) (hq : q ≤ 4) (h : PdOk p) (i : Nat) : ∀ j, 0 ≤ accZ p W q i j ∧ accZ p W q i j ≤ 255 := by
  induction i with
  | zero => exact headZ_bd _ _ h.1.1 (by have := hdN_bd q hq; omega)
  | succ i ih => exact cat_bd ih (fZ_bd p W _ h)
/-- all bytes, without the check bytes -/
def wZ (p : Pd) (q : Nat) (L : Nat → It) : Nat → Int := cat (accZ p (hdN q + sz L p.m) q (flC q).length) (hdN q) (J L p.m)
/-- check bytes are laid -/
def sgZ (z : Nat → Int) (n : Nat) : Nat → Int := fun j => if j = 24 then chkX (fun i => z (12 + i)) 12 (n - 12) else if j = 25 then chkY (fun i => z (12 + i)) 12 (n - 12) else z j
theorem sgZ_bd (z : Nat → Int) (n : Nat) (hz : ∀ j, 0 ≤ z j ∧ z j ≤ 255) : ∀ j, 0 ≤ sgZ z n j ∧ sgZ z n j ≤ 255 := by
  intro j
  have := chk_bd (fun i => z (12 + i)) 12 (n - 12)
  unfold sgZ
  split
  · omega
  · split
    · omega
    · exact hz j
/-- the bytes of a packet -/
def pdZ (p : Pd) (q : Nat) (L : Nat → It) : Nat → Int := if q = 2 then sgZ (wZ p q L) (hdN q + sz L p.m) else wZ p q L
end Go.Proofs.Ytfojfdlapekjoaa
