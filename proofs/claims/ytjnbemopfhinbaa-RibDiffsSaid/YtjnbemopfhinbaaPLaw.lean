/- Two texts put together; each theorem states its conditions. -/
import Derived.Test.YtjnbemopfhinbaaPCmp
/- The document's Less and DocCmp. Each theorem states its conditions. -/
namespace Go.Proofs.Ytjnbemopfhinbaa
open Go.RowKit
set_option linter.unusedVariables false

theorem lt_fam {fam len fam' len' : Int} {z z' : Nat → Int} (hz : Bytes z) (hz' : Bytes z') (hl : 0 ≤ len ∧ len ≤ 128) (hl' : 0 ≤ len' ∧ len' ≤ 128) (h : fam < fam') : keyP fam len z < keyP fam' len' z' := by
  have h1 := keyZ_bd hz 16 0
  have h2 := keyZ_bd hz' 16 0
  unfold keyP
  exact cat_lt (cat_lt h h2.1 h1.2 (by decide)) (by omega) (by omega) (by decide)
theorem lt_addr {fam len len' : Int} {z z' : Nat → Int} (hl : 0 ≤ len ∧ len ≤ 128) (hl' : 0 ≤ len' ∧ len' ≤ 128) (h : keyZ z 0 16 < keyZ z' 0 16) : keyP fam len z < keyP fam len' z' := by
  unfold keyP
  exact cat_lt (by omega) (by omega) (by omega) (by decide)
theorem lt_len {fam len len' : Int} {z z' : Nat → Int} (hs : Same16 z z') : keyP fam len z < keyP fam len' z' ↔ len < len' := by
  unfold keyP
  rw [key_congr (z := z) (z' := z') 16 0 (fun j hj => by simpa using hs j hj)]
  omega
theorem lt_byte {fam len len' : Int} {z z' : Nat → Int} (hz : Bytes z) (hz' : Bytes z') (hl : 0 ≤ len ∧ len ≤ 128) (hl' : 0 ≤ len' ∧ len' ≤ 128) (k : Nat) (hk : k < 16) (hs : ∀ j, j < k → z j = z' j) (hn : ¬ z k = z' k) : keyP fam len z < keyP fam len' z' ↔ z k < z' k := by
  rcases Int.lt_trichotomy (z k) (z' k) with h | h | h
  · exact ⟨fun _ => h, fun _ => lt_addr hl hl' (key_first hz hz' 16 0 k hk (fun j hj => by simpa using hs j hj) (by simpa using h))⟩
  · exact absurd h hn
  · have h1 : keyP fam len' z' < keyP fam len z := lt_addr hl' hl (key_first hz' hz 16 0 k hk (fun j hj => by simpa using (hs j hj).symm) (by simpa using h))
    exact ⟨fun h2 => by omega, fun h2 => by omega⟩

set_option maxHeartbeats 1000000 in
set_option maxRecDepth 100000 in
theorem less_any (fam len : Int) (z : Nat → Int) (fam' len' : Int) (z' : Nat → Int) (w : World) (hz : Bytes z) (hz' : Bytes z') (hl : 0 ≤ len ∧ len ≤ 128) (hl' : 0 ≤ len' ∧ len' ≤ 128) :
    Calls Try.prog 47 #[.agg (pvC fam len z), .agg (pvC fam' len' z')] w fun e w' => e = .returned (.bool (decide (keyP fam len z < keyP fam' len' z'))) ∧ Below w.heap.size w w' := by
  have HP := Lib.hid (v2_p fam len z fam' len' z' w)
  have HQ := Lib.hid (v2_q fam len z fam' len' z' w)
  have hB := Lib.hid (v2_below fam len z fam' len' z' w)
  have f0 : ((w.alloc (.cells (pvC fam len z) 32)).alloc (.cells (pvC fam' len' z') 32)).cell? ⟨w.heap.size, 0, none⟩ = some (.int .u8 fam) := HP.out.fam
  have f1 : ((w.alloc (.cells (pvC fam len z) 32)).alloc (.cells (pvC fam' len' z') 32)).cell? ⟨w.heap.size + 1, 0, none⟩ = some (.int .u8 fam') := HQ.out.fam
  by_cases hfam : fam = fam'
  · subst hfam
    go_enter Try.func47, Try.ntmps47
    go_wp2_with fail
    go_loopw [16] (fun i wr => ∃ k : Nat, k ≤ 16 ∧ i = .int .i64 k ∧ (∀ j, j < k → z j = z' j) ∧ IsPv wr w.heap.size fam len z ∧ IsPv wr (w.heap.size + 1) fam len' z' ∧ Below w.heap.size w wr)
      (fun i _ => 16 - (intOf i).toNat)
    case atStart => exact ⟨0, by omega, rfl, fun j hj => by omega, HP.out, HQ.out, hB.out⟩
    case round =>
      obtain ⟨k, hk, rfl, hs, hp, hq, hb⟩ := hrel
      by_cases hk16 : k < 16
      · have c0 := hp.at k hk16
        have c1 := hq.at k hk16
        have HP2 := Lib.hid hp
        have HQ2 := Lib.hid hq
        have HB2 := Lib.hid hb
        have HS := Lib.hid hs
        clear hp hq hb hs f0 f1 HP HQ hB
        by_cases he : z k = z' k
        · have HS1 : Hid (∀ j, j < k + 1 → z j = z' j) := Lib.hid (fun j hj => by
            rcases Nat.lt_or_ge j k with h | h
            · exact HS.out j h
            · obtain rfl : j = k := by omega
              exact he)
          go_wp2_with fail
          go_region
          go_wp2
          go_roundw
          case rel => exact ⟨k + 1, by omega, by go_num, HS1.out, HP2.out, HQ2.out, HB2.out.drew⟩
          case measure => simp only [intOf]; omega
        · go_wp2_with fail
          go_region
          go_wp2_with fail
          go_region
          go_wp2
          go_ret
          refine ⟨?_, HB2.out.drew.drew⟩
          simp only [lt_byte hz hz' hl hl' k hk16 HS.out he]
          rfl
      · obtain rfl : k = 16 := by omega
        have c0 := hp.len
        have c1 := hq.len
        go_wp2
        go_ret
        refine ⟨?_, hb⟩
        simp only [lt_len (fam := fam) (len := len) (len' := len') (show Same16 z z' from hs)]
        rfl
  · go_enter Try.func47, Try.ntmps47
    go_wp2
    go_ret
    refine ⟨?_, hB.out⟩
    rcases Int.lt_trichotomy fam fam' with h | h | h
    · have h1 := lt_fam hz hz' hl hl' h
      simp [h, h1]
    · exact absurd h hfam
    · have h1 := lt_fam hz' hz hl' hl h
      have h2 : ¬ fam < fam' := by omega
      have h3 : ¬ keyP fam len z < keyP fam' len' z' := by omega
      simp [h2, h3]

end Go.Proofs.Ytjnbemopfhinbaa
/- What covers, as a test; what is cut and what it was, in the order. Each theorem states its conditions. -/
namespace Go.Proofs.Ytjnbemopfhinbaa
open Go.RowKit
set_option linter.unusedVariables false

/-- does the one cover the other? -/
def covB (fam len : Int) (z : Nat → Int) (fam' len' : Int) (z' : Nat → Int) : Bool := decide (fam = fam' ∧ len ≤ len' ∧ Same16 (firstZ z' len.toNat) z)
theorem covers_b (fam len : Int) (z : Nat → Int) (fam' len' : Int) (z' : Nat → Int) (w : World) (hz : Bytes z) (hz' : Bytes z') (hf : Form fam len z) (hf' : Form fam' len' z') :
    Calls Try.prog 27 #[.agg (pvC fam len z), .agg (pvC fam' len' z')] w fun r w' => r = .returned (.tuple #[.bool (covB fam len z fam' len' z'), .int .i64 0]) ∧ Below w.heap.size w w' := by
  by_cases hfam : fam = fam'
  · subst hfam
    by_cases hlen : len ≤ len'
    · have h0 : 0 ≤ len := (sized_le hf.1).1
      obtain ⟨l, rfl⟩ := Int.eq_ofNat_of_zero_le h0
      by_cases hs : Same16 (firstZ z' l) z
      · rw [show covB fam (l : Int) z fam len' z' = true by simp [covB, hlen, hs]]
        exact covers_yes fam l len' z z' w hz hz' ⟨hf, hf'⟩ hlen hs
      · rw [show covB fam (l : Int) z fam len' z' = false by simp [covB, hs]]
        exact covers_no fam l len' z z' w hz hz' ⟨hf, hf'⟩ hlen hs
    · rw [show covB fam len z fam len' z' = false by simp [covB, hlen]]
      exact covers_len fam len len' z z' w hz hz' ⟨hf, hf'⟩ (by omega)
  · rw [show covB fam len z fam' len' z' = false by simp [covB, hfam]]
    exact covers_fam fam len fam' len' z z' w hz hz' ⟨hf, hf'⟩ hfam
theorem first_congr {u v : Nat → Int} (h : Same16 u v) (l : Nat) : Same16 (firstZ u l) (firstZ v l) := by
  intro j hj
  unfold firstZ
  rw [h j hj]
theorem form_first {fam len : Int} {z : Nat → Int} (h : Form fam len z) : Same16 (firstZ z len.toNat) z := h.2
theorem cov_trans {fam len fam' len' fam'' len'' : Int} {z z' z'' : Nat → Int} (hz'' : Bytes z'') (h0 : 0 ≤ len) (h1 : covB fam len z fam' len' z' = true) (h2 : covB fam' len' z' fam'' len'' z'' = true) : covB fam len z fam'' len'' z'' = true := by
  simp only [covB, decide_eq_true_eq] at h1 h2 ⊢
  obtain ⟨rfl, a1, b1⟩ := h1
  obtain ⟨rfl, a2, b2⟩ := h2
  refine ⟨rfl, by omega, fun j hj => ?_⟩
  rw [← first_first z'' hz'' len'.toNat len.toNat (by omega) j hj, first_congr b2 len.toNat j hj, b1 j hj]
theorem cov_anti {fam len fam' len' : Int} {z z' : Nat → Int} (hf' : Form fam' len' z') (h1 : covB fam len z fam' len' z' = true) (h2 : covB fam' len' z' fam len z = true) : fam = fam' ∧ len = len' ∧ Same16 z z' := by
  simp only [covB, decide_eq_true_eq] at h1 h2
  obtain ⟨rfl, a1, b1⟩ := h1
  obtain ⟨_, a2, b2⟩ := h2
  obtain rfl : len = len' := by omega
  exact ⟨rfl, rfl, fun j hj => by rw [← b1 j hj]; exact form_first hf' j hj⟩
theorem cut_form' {fam : Int} {x l : Nat} {z : Nat → Int} (hz : Bytes z) (hf : Form fam (l : Int) z) (hx : x ≤ l) : Form fam (x : Int) (firstZ z x) :=
  (form_same fam x (firstZ z x)).2 ⟨sized_down hf.1 hx, first_first z hz x x (Nat.le_refl x)⟩
theorem cut_cov {fam : Int} {x l : Nat} {z : Nat → Int} (hx : x ≤ l) : covB fam (x : Int) (firstZ z x) fam (l : Int) z = true := by
  unfold covB
  exact decide_eq_true ⟨rfl, by omega, fun j _ => rfl⟩
theorem key_le {z z' : Nat → Int} (h : ∀ j, z j ≤ z' j) : ∀ n i, keyZ z i n ≤ keyZ z' i n := by
  intro n
  induction n with
  | zero => intro i; exact Int.le_refl 0
  | succ n ih =>
    intro i
    have h1 := Int.mul_le_mul_of_nonneg_right (h i) (show (0 : Int) ≤ 256 ^ n by have := pow_pos' n; omega)
    have h2 := ih (i + 1)
    simp only [keyZ]
    omega
theorem first_le {z : Nat → Int} (hz : Bytes z) (c j : Nat) : firstZ z c j ≤ z j := by
  have h := hz j
  unfold firstZ
  split
  · omega
  · split
    · omega
    · unfold keep
      exact Int.ediv_mul_le _ (by have : (0 : Int) < 2 ^ (8 - (c - 8 * j)) := Int.pow_pos (by decide); omega)
theorem cut_lt {fam : Int} {x l : Nat} {z : Nat → Int} (hz : Bytes z) (hx : x < l) : keyP fam (x : Int) (firstZ z x) < keyP fam (l : Int) z := by
  have := key_le (first_le hz x) 16 0
  unfold keyP
  omega
theorem cut_same {fam : Int} {l : Nat} {z : Nat → Int} (hf : Form fam (l : Int) z) : keyP fam (l : Int) (firstZ z l) = keyP fam (l : Int) z := by
  unfold keyP
  rw [key_congr (z := firstZ z l) (z' := z) 16 0 (fun j hj => by have := form_first hf j hj; simpa using this)]
end Go.Proofs.Ytjnbemopfhinbaa
