/- Texts of this claim put together; each theorem states its conditions. -/
import Derived.Test.YtccoicjmmeoggaaDoorGMacOpensCard6
import Derived.Test.YtccoicjmmeoggaaDoorGMacOpensCard3
import Derived.Test.YtccoicjmmeoggaaDoorGMacOpensCard1
import Derived.Test.YtccoicjmmeoggaaDoorGMacOpensCard4
import Derived.Test.YtccoicjmmeoggaaDoorGMacOpensCard2
import Derived.Laws.MakeOwn
/- What was read is written as just these bytes, if they are of the form. Each theorem states its conditions. -/
namespace Go.Proofs.YtccoicjmmeoggaaDoor
open Go.RowKit
set_option linter.unusedVariables false

theorem sz_it {z : Nat → Int} {L : Nat → It} {m : Nat} (h : IsItZ z L m) : ∀ k, k ≤ m → sz L k = pos z k := by
  intro k hk
  induction k with
  | zero => rfl
  | succ k ih =>
    obtain ⟨g, cap, e⟩ := h k (by omega)
    simp only [sz, pos, ih (by omega), e, itZ]
    omega
theorem J_it {z : Nat → Int} {L : Nat → It} {m : Nat} (hz : ∀ j, 0 ≤ z j) (h : IsItZ z L m) : ∀ k, k ≤ m → ∀ j, j < pos z k → J L k j = z j := by
  intro k hk
  induction k with
  | zero => intro j hj; simp [pos] at hj
  | succ k ih =>
    intro j hj
    obtain ⟨g, cap, e⟩ := h k (by omega)
    have hs := sz_it h k (by omega)
    have h0 := hz (pos z k + 1)
    simp only [J, e, itZ, hs]
    unfold cat two
    by_cases h1 : j < pos z k
    · rw [if_pos (by omega), if_pos h1]; exact ih (by omega) j h1
    · by_cases h2 : j < pos z k + 2
      · rw [if_pos h2, if_neg h1]
        by_cases h3 : j = pos z k
        · subst h3; simp
        · rw [if_neg (by omega)]
          rw [show j = pos z k + 1 by omega]
          omega
      · rw [if_neg h2]
        show z (pos z k + 2 + (j - (pos z k + 2))) = z j
        rw [show pos z k + 2 + (j - (pos z k + 2)) = j by omega]
theorem good_it {z : Nat → Int} {L : Nat → It} {m : Nat} (hz : ∀ j, 0 ≤ z j ∧ z j ≤ 255) (h : IsItZ z L m) (hp : pos z m ≤ 1492) : ∀ k, k < m → ¬ bad L k := by
  intro k hk hb
  obtain ⟨g, cap, e⟩ := h k hk
  have hs := sz_it h (k + 1) (by omega)
  have h1 := pos_mono z (k + 1) m (by omega)
  have h2 := hz (pos z k + 1)
  unfold bad at hb
  rw [hs, e] at hb
  simp only [itZ] at hb
  omega
theorem num2 (y : Nat → Int) : numZ y 0 2 = y 0 * 256 + y 1 := by simp [numZ]
theorem num4 (y : Nat → Int) : numZ y 0 4 = ((y 0 * 256 + y 1) * 256 + y 2) * 256 + y 3 := by simp [numZ]
theorem put_num2 (y : Nat → Int) (N : Nat) (hy : ∀ j, 0 ≤ y j ∧ y j ≤ 255) (hN : (numZ y 0 2).toNat = N) : ∀ j, j < 2 → putZ N 2 j = y j := by
  intro j hj
  rw [num2] at hN
  have h0 := hy 0
  have h1 := hy 1
  rcases (by omega : j = 0 ∨ j = 1) with rfl | rfl
  · show ((N / 256 ^ 1 % 256 : Nat) : Int) = _
    rw [show (256 : Nat) ^ 1 = 256 from rfl]
    omega
  · show ((N / 256 ^ 0 % 256 : Nat) : Int) = _
    rw [show (256 : Nat) ^ 0 = 1 from rfl]
    omega
theorem put_num4 (y : Nat → Int) (N : Nat) (hy : ∀ j, 0 ≤ y j ∧ y j ≤ 255) (hN : (numZ y 0 4).toNat = N) : ∀ j, j < 4 → putZ N 4 j = y j := by
  intro j hj
  rw [num4] at hN
  have h0 := hy 0
  have h1 := hy 1
  have h2 := hy 2
  have h3 := hy 3
  rcases (by omega : j = 0 ∨ j = 1 ∨ j = 2 ∨ j = 3) with rfl | rfl | rfl | rfl
  · show ((N / 256 ^ 3 % 256 : Nat) : Int) = _
    rw [show (256 : Nat) ^ 3 = 16777216 from rfl]
    omega
  · show ((N / 256 ^ 2 % 256 : Nat) : Int) = _
    rw [show (256 : Nat) ^ 2 = 65536 from rfl]
    omega
  · show ((N / 256 ^ 1 % 256 : Nat) : Int) = _
    rw [show (256 : Nat) ^ 1 = 256 from rfl]
    omega
  · show ((N / 256 ^ 0 % 256 : Nat) : Int) = _
    rw [show (256 : Nat) ^ 0 = 1 from rfl]
    omega
/-- every byte ahead of the TLVs is of the first eight, or of a field -/
theorem cover_l : ∀ q ∈ List.range 5, ∀ j ∈ List.range 33, 8 ≤ j → j < hdN q → ∃ i ∈ List.range 6, i < (flC q).length ∧ ∃ k ∈ List.range 8, k < fsz (fAt q i) ∧ j = accN q i + k := by decide +kernel
theorem cover (q : Nat) (hq : q < 5) (j : Nat) (h33 : j < 33) (h8 : 8 ≤ j) (hh : j < hdN q) : ∃ i, i < 6 ∧ i < (flC q).length ∧ ∃ k, k < 8 ∧ k < fsz (fAt q i) ∧ j = accN q i + k := by
  obtain ⟨i, h1, h2, k, h3, h4⟩ := cover_l q (List.mem_range.2 hq) j (List.mem_range.2 h33) h8 hh
  exact ⟨i, List.mem_range.1 h1, h2, k, List.mem_range.1 h3, h4⟩
theorem cover_11 : ∀ q, q < 5 → ∀ i, i < 6 → i < (flC q).length → fAt q i = 11 → q = 2 ∧ accN q i = 24 := by decide +kernel
theorem fsz_11 : fsz 11 = 2 := rfl
/-- what stands in a field that was read -/
theorem fld_rd (q : Nat) (hq : q < 5) (z : Nat → Int) (hz : ∀ j, 0 ≤ z j ∧ z j ≤ 255) (A : Option Addr) (m c W : Nat) (i : Nat) (hi : i < (flC q).length) (h4 : fAt q i ≠ 4) (h11 : fAt q i ≠ 11) :
    ∀ k, k < fsz (fAt q i) → fZ (withT (rdP q z) A m c) W (fAt q i) k = z (accN q i + k) := by
  rcases (by omega : q = 0 ∨ q = 1 ∨ q = 2 ∨ q = 3 ∨ q = 4) with rfl | rfl | rfl | rfl | rfl
  · rcases (by have : (flC 0).length = 5 := rfl
               omega : i = 0 ∨ i = 1 ∨ i = 2 ∨ i = 3 ∨ i = 4) with rfl | rfl | rfl | rfl | rfl
    · intro k hk; obtain rfl : k = 0 := by have : fsz (fAt 0 0) = 1 := rfl
                                           omega
      rfl
    · intro k hk
      rcases (by have : fsz (fAt 0 1) = 6 := rfl
                 omega : k = 0 ∨ k = 1 ∨ k = 2 ∨ k = 3 ∨ k = 4 ∨ k = 5) with rfl | rfl | rfl | rfl | rfl | rfl <;> rfl
    · exact put_num2 (fun j => z (15 + j)) _ (fun j => hz _) rfl
    · exact absurd rfl h4
    · intro k hk; obtain rfl : k = 0 := by have : fsz (fAt 0 4) = 1 := rfl
                                           omega
      rfl
  · rcases (by have : (flC 1).length = 6 := rfl
               omega : i = 0 ∨ i = 1 ∨ i = 2 ∨ i = 3 ∨ i = 4 ∨ i = 5) with rfl | rfl | rfl | rfl | rfl | rfl
    · intro k hk; obtain rfl : k = 0 := by have : fsz (fAt 1 0) = 1 := rfl
                                           omega
      rfl
    · intro k hk
      rcases (by have : fsz (fAt 1 1) = 6 := rfl
                 omega : k = 0 ∨ k = 1 ∨ k = 2 ∨ k = 3 ∨ k = 4 ∨ k = 5) with rfl | rfl | rfl | rfl | rfl | rfl <;> rfl
    · exact put_num2 (fun j => z (15 + j)) _ (fun j => hz _) rfl
    · exact absurd rfl h4
    · intro k hk; obtain rfl : k = 0 := by have : fsz (fAt 1 4) = 1 := rfl
                                           omega
      rfl
    · intro k hk; rfl
  · rcases (by have : (flC 2).length = 6 := rfl
               omega : i = 0 ∨ i = 1 ∨ i = 2 ∨ i = 3 ∨ i = 4 ∨ i = 5) with rfl | rfl | rfl | rfl | rfl | rfl
    · exact absurd rfl h4
    · exact put_num2 (fun j => z (10 + j)) _ (fun j => hz _) rfl
    · intro k hk; rfl
    · exact put_num4 (fun j => z (20 + j)) _ (fun j => hz _) rfl
    · exact absurd rfl h11
    · intro k hk; obtain rfl : k = 0 := by have : fsz (fAt 2 5) = 1 := rfl
                                           omega
      rfl
  · rcases (by have : (flC 3).length = 4 := rfl
               omega : i = 0 ∨ i = 1 ∨ i = 2 ∨ i = 3) with rfl | rfl | rfl | rfl
    · exact absurd rfl h4
    · intro k hk; rfl
    · intro k hk; rfl
    · intro k hk; rfl
  · rcases (by have : (flC 4).length = 2 := rfl
               omega : i = 0 ∨ i = 1) with rfl | rfl
    · exact absurd rfl h4
    · intro k hk; rfl
/-- but for check bytes: what was read is written as just these bytes, if they are of the form -/
theorem back_iff (q : Nat) (hq : q ≤ 4) (z : Nat → Int) (n m : Nat) (L : Nat → It) (A : Option Addr) (c : Nat) (hk : cls (z 4) = q) (h8 : 8 ≤ n) (hh : hdN q ≤ n) (hn : n ≤ 1492) (hz : ∀ j, 0 ≤ z j ∧ z j ≤ 255)
    (hI : IsItZ (tlZ q z) L m) (hp : pos (tlZ q z) m = n - hdN q) :
    (∀ j, j < n → (q = 2 → j ≠ 24 ∧ j ≠ 25) → pdZ (withT (rdP q z) A m c) q L j = z j) ↔ FormOk z n := by
  have h17 := hdN_bd q hq
  have hs : sz L m = n - hdN q := (sz_it hI m (Nat.le_refl _)).trans hp
  have hkd : (withT (rdP q z) A m c).kd = z 4 := rdP_kd q z
  have hmm : (withT (rdP q z) A m c).m = m := rfl
  have hW : hdN q + sz L m = n := by omega
  constructor
  · intro hE
    refine ⟨h8, by rw [hk]; exact hq, by rw [hk]; exact hh, ?_, ?_⟩
    · rw [eqB_iff hz (headZ_bd _ _ (hz 4) (by rw [hk]; omega))]
      intro j hj
      rw [hk, ← hE j (by omega) (fun _ => by omega), pd_head _ q L hq j hj, hkd]
    · rw [hk]
      intro i hi h4
      have ht := told_pd (withT (rdP q z) A m c) q L (by rw [hmm]; omega) i hi h4
      rw [hmm, hW] at ht
      rw [← ht]
      unfold toldN
      have hac := accN_hd q i hi
      have hf : fsz (fAt q i) = 2 := by rw [h4]; rfl
      have h11 : q = 2 → accN q i ≠ 24 ∧ accN q i ≠ 25 ∧ accN q i + 1 ≠ 24 := fun e => by
        subst e
        rcases (by have : (flC 2).length = 6 := rfl
                   omega : i = 0 ∨ i = 1 ∨ i = 2 ∨ i = 3 ∨ i = 4 ∨ i = 5) with rfl | rfl | rfl | rfl | rfl | rfl
        · exact ⟨by decide, by decide, by decide⟩
        all_goals exact absurd h4 (by decide)
      rw [dnumZ_congr (fun j => pdZ (withT (rdP q z) A m c) q L (accN q i + j)) (fun j => z (accN q i + j)) 2 (fun j hj => hE _ (by omega) (fun e => by have := h11 e; omega))]
  · rintro ⟨_, _, _, h1, h2⟩ j hj hc
    rw [hk] at h1 h2
    rw [eqB_iff hz (headZ_bd _ _ (hz 4) (by omega))] at h1
    by_cases hj8 : j < 8
    · rw [pd_head _ q L hq j hj8, hkd, ← h1 j hj8]
    · by_cases hjh : j < hdN q
      · obtain ⟨i, hi6, hi, k, hk8, hkf, rfl⟩ := cover q (by omega) j (by omega) (by omega) hjh
        by_cases h11 : fAt q i = 11
        · obtain ⟨e1, e2⟩ := cover_11 q (by omega) i hi6 hi h11
          have := hc e1
          rw [h11, fsz_11] at hkf
          omega
        · rw [pd_field _ q L i k hi hkf h11]
          by_cases h4 : fAt q i = 4
          · have ht := h2 i hi h4
            rw [h4] at hkf ⊢
            show putZ (hdN q + sz L m) 2 k = _
            rw [hW]
            exact put_num2 (fun j => z (accN q i + j)) n (fun j => hz _) ht k hkf
          · exact fld_rd q (by omega) z hz A m c _ i hi h4 h11 k hkf
      · obtain ⟨k, rfl⟩ : ∃ k, j = hdN q + k := ⟨j - hdN q, by omega⟩
        rw [pd_tail _ q L hq k]
        exact J_it (z := tlZ q z) (fun j => (hz _).1) hI m (Nat.le_refl _) k (by rw [hp]; omega)
/-- the check bytes of what is written -/
theorem pdZ_chk (p : Pd) (L : Nat → It) (n : Nat) (hW : hdN 2 + sz L p.m = n) (z : Nat → Int) (hE : ∀ j, j < n → (j ≠ 24 ∧ j ≠ 25) → pdZ p 2 L j = z j) :
    pdZ p 2 L 24 = chkX (fun j => z (12 + j)) 12 (n - 12) ∧ pdZ p 2 L 25 = chkY (fun j => z (12 + j)) 12 (n - 12) := by
  have hw : ∀ j, j < n - 12 → j ≠ 12 → j ≠ 12 + 1 → (fun j => wZ p 2 L (12 + j)) j = (fun j => z (12 + j)) j := fun j hj h1 h2 => by
    show wZ p 2 L (12 + j) = z (12 + j)
    rw [← hE (12 + j) (by omega) (by omega), pdZ_far p 2 L (12 + j) (fun _ => by omega)]
  have e : pdZ p 2 L = sgZ (wZ p 2 L) n := by unfold pdZ; rw [if_pos rfl, hW]
  rw [e]
  unfold sgZ
  rw [← chkX_congr _ _ 12 (n - 12) hw, ← chkY_congr _ _ 12 (n - 12) hw]
  exact ⟨if_pos rfl, by rw [if_neg (by decide), if_pos rfl]⟩
/-- with check bytes: all is alike just if they are right -/
theorem all_iff (p : Pd) (L : Nat → It) (n : Nat) (hn : 27 ≤ n) (hW : hdN 2 + sz L p.m = n) (z : Nat → Int) (hE : ∀ j, j < n → (j ≠ 24 ∧ j ≠ 25) → pdZ p 2 L j = z j) :
    (∀ j, j < n → pdZ p 2 L j = z j) ↔ rightB (fun j => z (12 + j)) 12 (n - 12) = true := by
  obtain ⟨e1, e2⟩ := pdZ_chk p L n hW z hE
  unfold rightB
  simp only [Bool.and_eq_true, beq_iff_eq]
  show _ ↔ z 24 = _ ∧ z 25 = _
  constructor
  · intro h
    exact ⟨by rw [← e1, h 24 (by omega)], by rw [← e2, h 25 (by omega)]⟩
  · rintro ⟨h1, h2⟩ j hj
    by_cases h24 : j = 24
    · subst h24; rw [e1, h1]
    · by_cases h25 : j = 25
      · subst h25; rw [e2, h2]
      · exact hE j hj ⟨h24, h25⟩
end Go.Proofs.YtccoicjmmeoggaaDoor

/- The document's number, NodeAt, IDAt. Each theorem states its conditions. -/
namespace Go.Proofs.YtccoicjmmeoggaaDoor
open Go.RowKit
set_option linter.unusedVariables false

theorem wrI (e : Int) (h0 : -9223372036854775808 ≤ e) (h1 : e ≤ 9223372036854775807) : IntKind.i64.wrap e = e := by simp [IntKind.wrap, IntKind.signed, IntKind.bits]; omega
set_option maxHeartbeats 2000000 in
set_option maxRecDepth 100000 in
theorem number_two (b off n c : Nat) (z : Nat → Int) (w : World) (hr : Row8 w b off n z) (h2 : 2 ≤ n) :
    Calls Tryd.prog 77 #[.slice (some ⟨b, off, none⟩) n c] w fun e w' => e = .returned (.int .i64 (((numZ z 0 2).toNat : Nat) : Int)) ∧ Below w.heap.size w w' := by
  have c0 : w.cell? ⟨b, off, none⟩ = some (.int .u8 (z 0)) := hr.2.1 0 (by omega)
  have c1 : w.cell? ⟨b, off + 1, none⟩ = some (.int .u8 (z 1)) := hr.2.1 1 (by omega)
  have z0 := hr.2.2 0
  have z1 := hr.2.2 1
  have hb := numZ_lt z 0 2 (fun j => hr.2.2 _)
  have hM : (((numZ z 0 2).toNat : Nat) : Int) = z 0 * 256 + z 1 := by
    rw [Int.toNat_of_nonneg hb.1]
    simp only [numZ]
    simp
  rw [hM]
  have i1 : (1 : Int) < (n : Int) := by omega
  have i0 : (0 : Int) < (n : Int) := by omega
  have n0 : ¬ n = 0 := by omega
  clear hb hM hr
  go_enter Tryd.func77, Tryd.ntmps77
  go_wp2_with fail
  refine wp_region_held_drew (S := fun w' => w'.cell? ⟨b, off, none⟩ = some (.int .u8 (z 0)) ∧ w'.cell? ⟨b, off + 1, none⟩ = some (.int .u8 (z 1))) (by kernel_rfl) ⟨c0, c1⟩ (fun hS0 => ?_)
  refine takeY (i := 0) (some 3) (v := .slice (some ⟨b, off, none⟩) n c) rfl rfl (by kernel_rfl) (by kernel_rfl) (by kernel_rfl) (fun _ _ _ h => h) (by rfl) (fun w' hS => by obtain ⟨s0, s1⟩ := hS; go_simp) hS0 ?_
  simp only [Act.put, List.setIfInBounds_toArray, List.set_cons_zero, List.set_cons_succ]
  refine takeY (i := 1) (some 4) (v := .pointer (some ⟨b, off, none⟩)) rfl rfl (by kernel_rfl) (by kernel_rfl) (by kernel_rfl) (fun _ _ _ h => h) (by rfl) (fun w' hS => by obtain ⟨s0, s1⟩ := hS; go_simp) hS0 ?_
  simp only [Act.put, List.setIfInBounds_toArray, List.set_cons_zero, List.set_cons_succ]
  refine takeY (i := 2) (some 5) (v := .int .u8 (z 0)) rfl rfl (by kernel_rfl) (by kernel_rfl) (by kernel_rfl) (fun _ _ _ h => h) (by rfl) (fun w' hS => by obtain ⟨s0, s1⟩ := hS; go_simp) hS0 ?_
  simp only [Act.put, List.setIfInBounds_toArray, List.set_cons_zero, List.set_cons_succ]
  refine takeY (i := 3) (some 6) (v := .int .i64 (z 0)) rfl rfl (by kernel_rfl) (by kernel_rfl) (by kernel_rfl) (fun _ _ _ h => h) (by rfl) (fun w' hS => by obtain ⟨s0, s1⟩ := hS; first | (go_simp; done) | (go_simp; exact wrI _ (by omega) (by omega))) hS0 ?_
  simp only [Act.put, List.setIfInBounds_toArray, List.set_cons_zero, List.set_cons_succ]
  refine takeY (i := 4) (some 7) (v := .int .i64 (z 0 * 256)) rfl rfl (by kernel_rfl) (by kernel_rfl) (by kernel_rfl) (fun _ _ _ h => h) (by rfl) (fun w' hS => by obtain ⟨s0, s1⟩ := hS; first | (go_simp; done) | (go_simp; exact wrI _ (by omega) (by omega))) hS0 ?_
  simp only [Act.put, List.setIfInBounds_toArray, List.set_cons_zero, List.set_cons_succ]
  refine takeY (i := 5) (some 8) (v := .slice (some ⟨b, off, none⟩) n c) rfl rfl (by kernel_rfl) (by kernel_rfl) (by kernel_rfl) (fun _ _ _ h => h) (by rfl) (fun w' hS => by obtain ⟨s0, s1⟩ := hS; go_simp) hS0 ?_
  simp only [Act.put, List.setIfInBounds_toArray, List.set_cons_zero, List.set_cons_succ]
  refine takeY (i := 6) (some 9) (v := .pointer (some ⟨b, off + 1, none⟩)) rfl rfl (by kernel_rfl) (by kernel_rfl) (by kernel_rfl) (fun _ _ _ h => h) (by rfl) (fun w' hS => by obtain ⟨s0, s1⟩ := hS; go_simp) hS0 ?_
  simp only [Act.put, List.setIfInBounds_toArray, List.set_cons_zero, List.set_cons_succ]
  refine takeY (i := 7) (some 10) (v := .int .u8 (z 1)) rfl rfl (by kernel_rfl) (by kernel_rfl) (by kernel_rfl) (fun _ _ _ h => h) (by rfl) (fun w' hS => by obtain ⟨s0, s1⟩ := hS; go_simp) hS0 ?_
  simp only [Act.put, List.setIfInBounds_toArray, List.set_cons_zero, List.set_cons_succ]
  refine takeY (i := 8) (some 11) (v := .int .i64 (z 1)) rfl rfl (by kernel_rfl) (by kernel_rfl) (by kernel_rfl) (fun _ _ _ h => h) (by rfl) (fun w' hS => by obtain ⟨s0, s1⟩ := hS; first | (go_simp; done) | (go_simp; exact wrI _ (by omega) (by omega))) hS0 ?_
  simp only [Act.put, List.setIfInBounds_toArray, List.set_cons_zero, List.set_cons_succ]
  refine takeY (i := 9) (some 12) (v := .int .i64 (z 0 * 256 + z 1)) rfl rfl (by kernel_rfl) (by kernel_rfl) (by kernel_rfl) (fun _ _ _ h => h) (by rfl) (fun w' hS => by obtain ⟨s0, s1⟩ := hS; first | (go_simp; done) | (go_simp; exact wrI _ (by omega) (by omega))) hS0 ?_
  simp only [Act.put, List.setIfInBounds_toArray, List.set_cons_zero, List.set_cons_succ]
  refine takeY (i := 10) (some 2) (v := .int .i64 (z 0 * 256 + z 1)) rfl rfl (by kernel_rfl) (by kernel_rfl) (by kernel_rfl) (fun _ _ _ h => h) (by rfl) (fun w' hS => by obtain ⟨s0, s1⟩ := hS; go_simp) hS0 ?_
  simp only [Act.put, List.setIfInBounds_toArray, List.set_cons_zero, List.set_cons_succ]
  refine wpAnyH_done (by kernel_rfl) ?_ _
  clear hS0
  go_wp2_with fail
  go_ret
  exact ⟨rfl, (bself w).drew⟩
def hdZ (z : Nat → Int) (i : Nat) : Nat → Int := fun j => if j < i then z j else 0
theorem hd_put (z : Nat → Int) (i : Nat) (hi : i < 7) : (ndC (hdZ z i)).setIfInBounds i (.int .u8 (z i)) = ndC (hdZ z (i + 1)) := by
  rcases (by omega : i = 0 ∨ i = 1 ∨ i = 2 ∨ i = 3 ∨ i = 4 ∨ i = 5 ∨ i = 6) with rfl | rfl | rfl | rfl | rfl | rfl | rfl <;> rfl
theorem hd_at (z : Nat → Int) (i : Nat) (hi : i < 7) : (ndC (hdZ z i))[i]? = some (.int .u8 0) := by
  rcases (by omega : i = 0 ∨ i = 1 ∨ i = 2 ∨ i = 3 ∨ i = 4 ∨ i = 5 ∨ i = 6) with rfl | rfl | rfl | rfl | rfl | rfl | rfl <;> rfl
set_option maxHeartbeats 4000000 in
set_option maxRecDepth 100000 in
theorem nodeAt_any (b off n c : Nat) (z : Nat → Int) (w : World) (hr : Row8 w b off n z) (h7 : 7 ≤ n) (hn : n ≤ 1492) :
    Calls Tryd.prog 78 #[.slice (some ⟨b, off, none⟩) n c] w fun e w' => e = .returned (.agg (ndC z)) ∧ Below w.heap.size w w' := by
  obtain ⟨W2, hW2⟩ : ∃ W2, (w.alloc (.cells nd0 36)).alloc (.cells nd0 36) = W2 := ⟨_, rfl⟩
  have hB2 : Below w.heap.size w W2 := by rw [← hW2]; exact ((bself w).alloc (Nat.le_refl _) _).alloc (by simp) _
  have hX1 : W2.heap[w.heap.size + 1]? = some (.cells (ndC (hdZ z 0)) 36 (0, 0)) := by
    have := heap_alloc_new (w.alloc (.cells nd0 36)) (.cells nd0 36)
    rw [World.size_alloc, hW2] at this
    exact this
  have hX0 : W2.heap[w.heap.size]? = some (.cells nd0 36 (0, 0)) := by
    rw [← hW2]
    exact (Below.heap_alloc _ _ _ (by simp)).trans (heap_alloc_new w _)
  have HX1 := Lib.hid hX1
  have HX0 := Lib.hid hX0
  have HB2 := Lib.hid hB2
  have HR := Lib.hid hr
  have hbw := hr.1
  have HW2 := Lib.hid hW2
  clear hr hB2 hX1 hX0 hW2
  unfold nd0 at HW2
  go_enter Tryd.func78, Tryd.ntmps78
  go_wp2_with fail
  rw [HW2.out]
  go_loopw [5] (fun t wr => ∃ i : Nat, i ≤ 6 ∧ t = .int .i64 i ∧ Hid (wr.heap[w.heap.size + 1]? = some (.cells (ndC (hdZ z i)) 36 (0, 0))) ∧ Hid (wr.heap[w.heap.size]? = some (.cells nd0 36 (0, 0))) ∧ Hid (Below w.heap.size w wr))
    (fun t _ => 6 - (intOf t).toNat)
  case atStart => exact ⟨0, by omega, rfl, HX1, HX0, HB2⟩
  case round =>
    clear HX1 HX0 HB2
    obtain ⟨i, hi, rfl, HX, HY, HB⟩ := hrel
    have hRi := HR.out.below HB.out hbw
    by_cases hi6 : i < 6
    · have ci := hRi.2.1 i (by omega)
      have cx : wr.cell? ⟨w.heap.size + 1, i, none⟩ = some (.int .u8 0) := (cell_of_row wr _ i _ _ _ HX.out).trans (hd_at z i (by omega))
      have fx : wr.frozen? ⟨w.heap.size + 1, i, none⟩ = false := by have := HX.out; simp [World.frozen?, this]
      have HX' := Lib.hid (row_put (i := i) (v := .int .u8 (z i)) HX.out (hd_put z i (by omega)))
      have HY' := Lib.hid ((Below.heap_setCell wr ⟨w.heap.size + 1, i, none⟩ (.int .u8 (z i)) w.heap.size (by show _ ≠ w.heap.size + 1; omega)).trans HY.out)
      have HB' := Lib.hid (HB.out.setCell (p := ⟨w.heap.size + 1, i, none⟩) (by show w.heap.size ≤ w.heap.size + 1; omega) (.int .u8 (z i)))
      have hin : (i : Int) < (n : Int) := by omega
      have hi6' : (i : Int) < 6 := by omega
      clear hRi
      go_wp2_with fail
      go_roundw
      case rel => first | exact ⟨i + 1, by omega, by go_num, HX', HY', HB'⟩ | exact ⟨_, _, ⟨i + 1, by omega, by go_num, HX', HY', HB'⟩, rfl, rfl⟩
      case measure => simp only [intOf]; omega
    · obtain rfl : i = 6 := by omega
      have c6 := hRi.2.1 6 (by omega)
      have d6 : wr.cell? ⟨w.heap.size + 1, 6, none⟩ = some (.int .u8 0) := (cell_of_row wr _ 6 _ _ _ HX.out).trans rfl
      have f6 : wr.frozen? ⟨w.heap.size + 1, 6, none⟩ = false := by have := HX.out; simp [World.frozen?, this]
      have HX' := Lib.hid (row_put (i := 6) (v := .int .u8 (z 6)) HX.out (hd_put z 6 (by omega)))
      have HY' := Lib.hid ((Below.heap_setCell wr ⟨w.heap.size + 1, 6, none⟩ (.int .u8 (z 6)) w.heap.size (by show _ ≠ w.heap.size + 1; omega)).trans HY.out)
      have HB' := Lib.hid (HB.out.setCell (p := ⟨w.heap.size + 1, 6, none⟩) (by show w.heap.size ≤ w.heap.size + 1; omega) (.int .u8 (z 6)))
      have i6 : (6 : Int) < (n : Int) := by omega
      clear hRi
      go_wp2_with (first
        | (refine wpList_load_mid rfl 36 (.tmp 3) rfl (w.heap.size + 1) 0 rfl _ _ (nd_range HX'.out) Tryd.underlying36 rfl info_nd ?_)
        | (refine store_blk rfl (.tmp 2) (.tmp 20) (cells := ndC z) rfl rfl rfl HY'.out info_nd rfl (nd_all z) ?_; intro w5 hg5 hb5 ho5; refine Hid.out ?_))
      refine Lib.hid ?_
      have HQ := Lib.hid hg5
      have HB5 := Lib.hid (HB'.out.trans (hb5 w.heap.size (Nat.le_refl _)))
      clear hg5 hb5 ho5
      go_wp2_with fail
      refine bodyPost_ret (results_nd rfl _ w5 w.heap.size z rfl HQ.out) rfl ⟨rfl, HB5.out⟩
set_option maxHeartbeats 2000000 in
set_option maxRecDepth 100000 in
theorem idAt_any (b off n c : Nat) (z : Nat → Int) (w : World) (hr : Row8 w b off n z) (h8 : 8 ≤ n) (hn : n ≤ 1492) :
    Calls Tryd.prog 79 #[.slice (some ⟨b, off, none⟩) n c] w fun e w' => e = .returned (.agg (idC z)) ∧ Below w.heap.size w w' := by
  have hbw := hr.1
  have HB1 := Lib.hid ((bself w).alloc (Nat.le_refl _) (.cells id0 38))
  have HX1 := Lib.hid (heap_alloc_new w (.cells id0 38))
  have hs1 : (w.alloc (.cells id0 38)).heap.size = w.heap.size + 1 := by simp
  have HR1 := Lib.hid (hr.below HB1.out hbw)
  obtain ⟨W1, hW1⟩ : ∃ W1, w.alloc (.cells id0 38) = W1 := ⟨_, rfl⟩
  rw [hW1] at HB1 HX1 hs1 HR1
  have HW1 := Lib.hid hW1
  have i7 : (7 : Int) < (n : Int) := by omega
  clear hr hW1
  unfold id0 at HW1
  go_enter Tryd.func79, Tryd.ntmps79
  go_wp2_with fail
  rw [HW1.out]
  refine wp_region_held_drew (S := fun w' => w'.cell? ⟨b, off + 7, none⟩ = some (.int .u8 (z 7))) (by kernel_rfl) (HR1.out.2.1 7 (by omega)) (fun hS0 => ?_)
  refine takeY (i := 0) (some 3) (v := .slice (some ⟨b, off, none⟩) n c) rfl rfl (by kernel_rfl) (by kernel_rfl) (by kernel_rfl) (fun _ _ _ h => h) (by rfl) (fun w' hS => by go_simp) hS0 ?_
  simp only [Act.put, List.setIfInBounds_toArray, List.set_cons_zero, List.set_cons_succ]
  refine takeY (i := 2) (some 5) (v := .slice (some ⟨b, off, none⟩) n c) rfl rfl (by kernel_rfl) (by kernel_rfl) (by kernel_rfl) (fun _ _ _ h => h) (by rfl) (fun w' hS => by go_simp) hS0 ?_
  simp only [Act.put, List.setIfInBounds_toArray, List.set_cons_zero, List.set_cons_succ]
  refine takeY (i := 3) (some 6) (v := .pointer (some ⟨b, off + 7, none⟩)) rfl rfl (by kernel_rfl) (by kernel_rfl) (by kernel_rfl) (fun _ _ _ h => h) (by rfl) (fun w' hS => by go_simp) hS0 ?_
  simp only [Act.put, List.setIfInBounds_toArray, List.set_cons_zero, List.set_cons_succ]
  refine takeY (i := 4) (some 7) (v := .int .u8 (z 7)) rfl rfl (by kernel_rfl) (by kernel_rfl) (by kernel_rfl) (fun _ _ _ h => h) (by rfl) (fun w' hS => by go_simp) hS0 ?_
  simp only [Act.put, List.setIfInBounds_toArray, List.set_cons_zero, List.set_cons_succ]
  refine takeC (i := 1) (some 4) 78 #[.slice (some ⟨b, off, none⟩) n c] (.agg (ndC z)) (R := fun w' => Below W1.heap.size W1 w') rfl rfl (by kernel_rfl) (by rfl) (by go_simp) ((nodeAt_any b off n c z W1.drew HR1.out (by omega) hn).mono fun e w' h => ⟨h.1, (bself W1).drew.trans h.2⟩) (fun w' h => by rw [h.cell (show b < W1.heap.size by omega)]; exact HR1.out.2.1 7 (by omega)) (fun w2 h2 hS0 => ?_)
  simp only [Act.put, List.setIfInBounds_toArray, List.set_cons_zero, List.set_cons_succ]
  refine takeY (i := 5) (some 8) (v := .agg (idC z)) rfl rfl (by kernel_rfl) (by kernel_rfl) (by kernel_rfl) (fun _ _ _ h => h) (by rfl) (fun w' hS => build_id _ _ _ _ rfl z rfl rfl w') hS0 ?_
  simp only [Act.put, List.setIfInBounds_toArray, List.set_cons_zero, List.set_cons_succ]
  have hX2 := (h2.block w.heap.size (by omega)).trans HX1.out
  refine takeS (i := 6) (.tmp 2) (.tmp 8) rfl rfl rfl (by kernel_rfl) (by rfl) rfl rfl hX2 (hi_id z) rfl (id_all z) (fun w' _ hb _ => by rw [(hb w.heap.size (Nat.le_refl _)).cell hbw]; exact hS0) (fun w3 hg3 hb3 _ hS3 => ?_)
  simp only [Act.put]
  refine wpAnyH_done (by kernel_rfl) ?_ _
  have HQ := Lib.hid hg3
  have HB3 := Lib.hid (HB1.out.trans ((h2.mono (by omega)).trans (hb3 w.heap.size (Nat.le_refl _))))
  clear hg3 hb3 h2 hX2 hS3 hS0
  go_wp2_with fail
  refine bodyPost_ret (results_id rfl _ w3 w.heap.size z rfl HQ.out) rfl ⟨rfl, HB3.out⟩
end Go.Proofs.YtccoicjmmeoggaaDoor

/- SameBytes answers false where bytes differ. Each theorem states its conditions. -/
namespace Go.Proofs.YtccoicjmmeoggaaDoor
open Go.RowKit
set_option linter.unusedVariables false

/-- whether two rows of bytes are the same, by the document -/
theorem same_no (A B : Option Addr) (n n' c d : Nat) (z z' : Nat → Int) (w : World) (ha : Rd w A n z) (hb : Rd w B n' z') (he : ¬ (n = n' ∧ ∀ j, j < n → z j = z' j)) (hm : n ≤ 9223372036854775807) (hm' : n' ≤ 9223372036854775807) :
    Calls Tryd.prog 20 #[.slice A n c, .slice B n' d] w fun e w' => e = .returned (.bool false) ∧ ∃ m, w' = w.drewN m := by
  by_cases hn : n = n'
  · subst hn
    have hx : ∃ k, k < n ∧ z k ≠ z' k ∧ ∀ j, j < k → z j = z' j := by
      have hne : ∃ k, k < n ∧ z k ≠ z' k := by
        apply Classical.byContradiction
        intro hno
        exact he ⟨rfl, fun j hj => Classical.byContradiction fun h => hno ⟨j, hj, h⟩⟩
      obtain ⟨k0, h1, h2⟩ := hne
      have key : ∀ t, t ≤ n → (∃ k, k < t ∧ z k ≠ z' k ∧ ∀ j, j < k → z j = z' j) ∨ ∀ j, j < t → z j = z' j := by
        intro t
        induction t with
        | zero => intro _; exact .inr (fun j hj => by omega)
        | succ t ih =>
          intro ht
          rcases ih (by omega) with ⟨k, h1, h2, h3⟩ | h3
          · exact .inl ⟨k, by omega, h2, h3⟩
          · by_cases h4 : z t = z' t
            · exact .inr (fun j hj => by
                by_cases e : j = t
                · subst e; exact h4
                · exact h3 j (by omega))
            · exact .inl ⟨t, by omega, h4, h3⟩
      rcases key n (Nat.le_refl _) with ⟨k, h3, h4, h5⟩ | h3
      · exact ⟨k, h3, h4, h5⟩
      · exact absurd (h3 k0 h1) h2
    obtain ⟨k0, hk0, hne, hpre⟩ := hx
    obtain ⟨b, off, rfl, hr⟩ := ha.row (by omega)
    obtain ⟨b', off', rfl, hr'⟩ := hb.row (by omega)
    have hc := hr.2.1
    have hc' := hr'.2.1
    have HE := Lib.hid hpre
    have HNE := Lib.hid hne
    clear ha hb hr hr' he hpre hne
    go_enter Tryd.func20, Tryd.ntmps20
    go_wp2
    go_loopw [13] (fun t wr => ∃ k m : Nat, k ≤ k0 ∧ t = .int .i64 k ∧ wr = w.drewN m) (fun t _ => n - (intOf t).toNat)
    case atStart => exact ⟨0, 0, by omega, rfl, rfl⟩
    case round =>
      obtain ⟨k, m, hk, rfl, rfl⟩ := hrel
      have hlt : k < n := by omega
      have g1 := hc k hlt
      have g2 := hc' k hlt
      by_cases e : k = k0
      · subst e
        have hq : (z k != z' k) = true := by simpa using HNE.out
        generalize z k = v at *
        generalize z' k = v' at *
        clear hc hc'
        go_wp2
        go_region
        go_wp2
        go_ret
        exact ⟨rfl, m + 1, rfl⟩
      · rw [← HE.out k (by omega)] at g2
        generalize z k = v at *
        clear hc hc'
        go_wp2
        go_region
        go_wp2
        go_roundw
        case rel => exact ⟨k + 1, m + 1, by omega, by go_num, rfl⟩
        case measure => simp [intOf]; omega
  · have hnb : ((n : Int) != (n' : Int)) = true := by simp; omega
    clear ha hb he
    go_enter Tryd.func20, Tryd.ntmps20
    go_wp2
    go_ret
    exact ⟨rfl, 0, rfl⟩
end Go.Proofs.YtccoicjmmeoggaaDoor

/- The document's DocSplit reads a list out of bytes. Each theorem states its conditions. -/
namespace Go.Proofs.YtccoicjmmeoggaaDoor
open Go.RowKit
set_option linter.unusedVariables false

set_option maxHeartbeats 4000000 in
set_option maxRecDepth 100000 in
theorem docsplit_any (A : Option Addr) (n c m : Nat) (z : Nat → Int) (w : World) (h : Rd w A n z) (hA : A = none → n = 0 ∧ c = 0) (hn : n ≤ 1492) (hc : n ≤ c) (hcm : c ≤ 9223372036854775807) (hm : Ends z n m) :
    Calls Tryd.prog 76 #[.slice A n c] w (SplitPost w z n m) := by
  obtain ⟨i0, hi, hz0, hz1, hz2⟩ := info_parts info_tlv
  have hz := h.2
  have HM := Lib.hid hm
  have HR := Lib.hid h
  clear h hm
  go_enter Tryd.func76, Tryd.ntmps76
  go_wp2_with fail
  go_loopw [4, 5] (fun v p wr => ∃ (k : Nat) (L : Nat → It), pos z k ≤ n ∧ k ≤ m ∧ p = .int .i64 (pos z k : Nat) ∧ OwnT wr w.heap.size v k L ∧ Hid (IsItZ z L k) ∧ Below w.heap.size w wr)
    (fun _ p _ => n - (intOf p).toNat)
  case atStart => exact ⟨0, fun _ => ⟨0, none, 0, 0, z⟩, by simp [pos], by omega, rfl, OwnT.nil _ _ _, Lib.hid (fun j hj => by omega), bself w⟩
  case round =>
    obtain ⟨k, L, hk, hkm, rfl, hown, hL, hb⟩ := hrel
    by_cases hkm1 : k < m
    · have hlt : pos z k < n := by
        have := HM.out.1; have := pos_mono z k m (by omega); omega
      obtain ⟨b, off, rfl, hr⟩ := HR.out.row (by omega)
      have hn1 : pos z (k + 1) ≤ n := by
        have := HM.out.1; have := pos_mono z (k + 1) m (by omega); omega
      have hp := pos_lt z k
      have c0 : wr.cell? ⟨b, off + pos z k, none⟩ = some (.int .u8 (z (pos z k))) := (hb.cell (p := ⟨b, off + pos z k, none⟩) hr.1).trans (hr.2.1 _ hlt)
      have c1 : wr.cell? ⟨b, off + (pos z k + 1), none⟩ = some (.int .u8 (z (pos z k + 1))) := (hb.cell (p := ⟨b, off + (pos z k + 1), none⟩) hr.1).trans (hr.2.1 (pos z k + 1) (by omega))
      have z0 := hz (pos z k)
      have z1 := hz (pos z k + 1)
      obtain ⟨v1, hv1⟩ := Int.eq_ofNat_of_zero_le z1.1
      have hv1n : (z (pos z k + 1)).toNat = v1 := by omega
      have hpk : pos z (k + 1) = pos z k + 2 + v1 := by simp only [pos]; omega
      have H := Lib.hid (fun (W : World) (hW : Row8 W b off n z) (ad : Addr) (cc : Nat) (had : v1 = 0 ∨ ad = ⟨b, off + (pos z k + 2), none⟩) => twin_any (some ad) v1 cc (fun j => z (pos z k + 2 + j)) W ⟨by
        rcases Nat.eq_zero_or_pos v1 with h0 | h0
        · exact .inl h0
        · rcases had with had | rfl
          · omega
          · exact .inr ⟨b, off + (pos z k + 2), rfl, hW.1, fun j hj => by
              have := hW.2.1 (pos z k + 2 + j) (by omega)
              rw [← this]; congr 2; omega, fun j => hz _⟩, fun j => hz _⟩ (fun e => by cases e) (by omega))
      have hrr := Lib.hid (hr.below hb hr.1)
      have hlb : b < wr.heap.size := by have := hr.1; have := hb.size; omega
      have hbs := hb.size
      have ho := Lib.hid hown
      have hE := Lib.hid hv1
      have hEn := Lib.hid hv1n
      rw [hv1] at c1 z1
      have HN1 := Lib.hid hn1
      rw [hpk] at hn1
      have hk31 : (k + 1) * 32 ≤ 140737488355328 := by have := pos_mono z 0 k (by omega); simp only [pos] at this; omega
      have hk63 : k + 1 ≤ maxLen := by unfold maxLen; omega
      have hbase : ∀ g1 cap1 (W : World), wr.heap.size ≤ W.heap.size → w.heap.size ≤ (W.alloc (.cells #[.int .u8 (z (pos z k)), .slice (some ⟨g1, 0, none⟩) v1 cap1] 49)).heap.size := fun g1 cap1 W h => by simp; omega
      have HB := Lib.hid hbase
      have hr1 := hr.1
      have hfar : u4.ownBlock ≠ some b := fun e => by have := (hown.1.lt b e).1; omega
      have HPK := Lib.hid hpk
      clear hv1 hv1n hpk hp hr hk hown hbase
      generalize hz0' : z (pos z k) = v0 at *
      have HZ0 := Lib.hid hz0'
      clear hz0'
      generalize hopos : pos z k = o at c0 c1 hlt hn1 H ⊢
      have HO := Lib.hid hopos
      clear hopos
      have q1 : (o : Int) < (n : Int) := by omega
      have q2 : ¬ (o : Int) = (n : Int) - 1 := by omega
      have q3 : ¬ ((n : Int) - (o : Int) - 2 < (v1 : Int)) := by omega
      have q4 : (0 : Int) ≤ (o : Int) + 1 := by omega
      have q5 : (o : Int) + 1 < (n : Int) := by omega
      have q6 : (o : Int) + 2 ≤ (o : Int) + 2 + (v1 : Int) := by omega
      have q7 : (o : Int) + 2 + (v1 : Int) ≤ (c : Int) := by omega
      have q71 : (0 : Int) ≤ (o : Int) + 2 + (v1 : Int) := by omega
      have q72 : (0 : Int) ≤ (o : Int) + 2 := by omega
      have q73 : (o : Int) + 2 ≤ (c : Int) := by omega
      have hlen2 : ((o : Int) + 2 + (v1 : Int)).toNat = o + 2 + v1 := by omega
      have hw1 : IntKind.i64.wrap ((o : Int) + 2) = (o : Int) + 2 := by rw [IntKind.wrap_i64]; omega
      have hw2 : IntKind.i64.wrap ((o : Int) + 2 + (v1 : Int)) = (o : Int) + 2 + (v1 : Int) := by rw [IntKind.wrap_i64]; omega
      have hlen3 : ((o : Int) + 2).toNat = o + 2 := by omega
      by_cases hcap : c = o + 2
      · have HV0 := Lib.hid (show v1 = 0 by omega)
        have hcap' : (c = o + 2) = True := eq_true hcap
        clear hcap
        go_wp2_with fail
        go_region_held3 (fun w' => w'.cell? ⟨b, off + o, none⟩ = some (.int .u8 v0))
          (first | go_keep | (exact (hb1.cell (by exact hlb)).trans c0) | (rw [hgrow.cell_far _ (by have := hbx.size; simp; omega) (Ne.symm hfar)]; assumption))
          (first | (go_at_call 27; refine (H.out _ (by exact hrr.out) _ _ (.inl HV0.out)).mono ?_; (rintro e w1 ⟨g1, cap1, rfl, hg1, ho1, hb1⟩; have hbx : Below wr.heap.size wr w1 := (Below.refl _ wr).drew.trans hb1; have hbz := HB.out g1 cap1 w1 hbx.size)) | (refine step_append_lies _ (by rfl) _ _ _ (by rfl) w.heap.size 49 i0 _ 2 32 Tryd.underlying40 hi hz0 hz1 hz2 rfl (by omega) u4 k (cellsT L k) (by rfl) ((ownsRow_below ho.out.1 hbx).alloc _) ⟨w1.heap.size, 0, none⟩ 1 1 [.int .u8 v0, .slice (some ⟨g1, 0, none⟩) v1 cap1] (by rfl) (by rfl) (World.news_of_block (heap_alloc_new w1 _)) (two_one _ _ _ _) (by omega) hk63 hk31 hbz (w1.heap.size + 1) (by simp) ?_; intro gg cap w2 hown2 hgrow hat hlt2))
        have hz0' := HZ0.out
        have hit : OwnV (w1.alloc (.cells #[.int .u8 v0, .slice (some ⟨g1, 0, none⟩) v1 cap1] 49)) w.heap.size ⟨v0, some ⟨g1, 0, none⟩, v1, cap1, fun j => z (o + 2 + j)⟩ := ⟨z0, by show v1 ≤ _; omega, g1, rfl, by have := hb.size; simp at hg1; omega, ho1.alloc _⟩
        have R := Lib.hid (OwnT.push ((ho.out.below hbx).below ((bself w1).alloc (Nat.le_refl _) (.cells #[.int .u8 v0, .slice (some ⟨g1, 0, none⟩) v1 cap1] 49))) hit hown2 hgrow)
        have hI : IsItZ z (updT L k ⟨v0, some ⟨g1, 0, none⟩, v1, cap1, fun j => z (o + 2 + j)⟩) (k + 1) := by
          intro j hj
          by_cases e : j = k
          · subst e; rw [updT_same]; exact ⟨g1, cap1, by unfold itZ; rw [hz0', hEn.out, HO.out]⟩
          · rw [updT_other _ _ _ _ e]; exact hL.out j (by omega)
        have hB2 : Below w.heap.size w w2 := ((hb.trans (hbx.mono hbs)).alloc (by have := hbx.size; omega) _).grown hgrow (by have := hbx.size; simp; omega) (fun x e => (ho.out.1.lt x e).1)
        have HI := Lib.hid hI
        have HB2 := Lib.hid hB2
        clear hI hB2 hit hown2 hgrow ho1 hb1 hbx hbz hz0' hat hlt2 c0 c1 hg1
        go_wp2
        go_roundw
        case rel => exact ⟨k + 1, _, HN1.out, hkm1, by rw [HPK.out, HO.out]; go_num, R.out, HI, HB2.out⟩
        case measure =>
          have hm1 := HPK.out
          have hm2 := HN1.out
          have hm3 := HO.out
          simp only [intOf]
          omega
      · have q99 : ¬ (c : Int) = (o : Int) + 2 := by omega
        go_wp2_with fail
        go_region_held3 (fun w' => w'.cell? ⟨b, off + o, none⟩ = some (.int .u8 v0))
          (first | go_keep | (exact (hb1.cell (by exact hlb)).trans c0) | (rw [hgrow.cell_far _ (by have := hbx.size; simp; omega) (Ne.symm hfar)]; assumption))
          (first | (go_at_call 27; refine (H.out _ (by exact hrr.out) _ _ (.inr rfl)).mono ?_; (rintro e w1 ⟨g1, cap1, rfl, hg1, ho1, hb1⟩; have hbx : Below wr.heap.size wr w1 := (Below.refl _ wr).drew.trans hb1; have hbz := HB.out g1 cap1 w1 hbx.size)) | (refine step_append_lies _ (by rfl) _ _ _ (by rfl) w.heap.size 49 i0 _ 2 32 Tryd.underlying40 hi hz0 hz1 hz2 rfl (by omega) u4 k (cellsT L k) (by rfl) ((ownsRow_below ho.out.1 hbx).alloc _) ⟨w1.heap.size, 0, none⟩ 1 1 [.int .u8 v0, .slice (some ⟨g1, 0, none⟩) v1 cap1] (by rfl) (by rfl) (World.news_of_block (heap_alloc_new w1 _)) (two_one _ _ _ _) (by omega) hk63 hk31 hbz (w1.heap.size + 1) (by simp) ?_; intro gg cap w2 hown2 hgrow hat hlt2))
        have hz0' := HZ0.out
        have hit : OwnV (w1.alloc (.cells #[.int .u8 v0, .slice (some ⟨g1, 0, none⟩) v1 cap1] 49)) w.heap.size ⟨v0, some ⟨g1, 0, none⟩, v1, cap1, fun j => z (o + 2 + j)⟩ := ⟨z0, by show v1 ≤ _; omega, g1, rfl, by have := hb.size; simp at hg1; omega, ho1.alloc _⟩
        have R := Lib.hid (OwnT.push ((ho.out.below hbx).below ((bself w1).alloc (Nat.le_refl _) (.cells #[.int .u8 v0, .slice (some ⟨g1, 0, none⟩) v1 cap1] 49))) hit hown2 hgrow)
        have hI : IsItZ z (updT L k ⟨v0, some ⟨g1, 0, none⟩, v1, cap1, fun j => z (o + 2 + j)⟩) (k + 1) := by
          intro j hj
          by_cases e : j = k
          · subst e; rw [updT_same]; exact ⟨g1, cap1, by unfold itZ; rw [hz0', hEn.out, HO.out]⟩
          · rw [updT_other _ _ _ _ e]; exact hL.out j (by omega)
        have hB2 : Below w.heap.size w w2 := ((hb.trans (hbx.mono hbs)).alloc (by have := hbx.size; omega) _).grown hgrow (by have := hbx.size; simp; omega) (fun x e => (ho.out.1.lt x e).1)
        have HI := Lib.hid hI
        have HB2 := Lib.hid hB2
        clear hI hB2 hit hown2 hgrow ho1 hb1 hbx hbz hz0' hat hlt2 c0 c1 hg1
        go_wp2
        go_roundw
        case rel => exact ⟨k + 1, _, HN1.out, hkm1, by rw [HPK.out, HO.out]; go_num, R.out, HI, HB2.out⟩
        case measure =>
          have hm1 := HPK.out
          have hm2 := HN1.out
          have hm3 := HO.out
          simp only [intOf]
          omega
    · have hkm2 : k = m := by omega
      subst hkm2
      have ho := Lib.hid hown
      by_cases hend : pos z k = n
      · have he := Lib.hid hend
        clear hown hk hkm1
        rw [hend]
        clear hend
        go_wp2
        go_ret2
        exact .inl ⟨he.out, _, L, rfl, ho.out, hL.out, hb⟩
      · have HE := Lib.hid hend
        have hM := HM.out.2
        by_cases h2 : n < pos z k + 2
        · have q1 : pos z k = n - 1 := by omega
          have q2 : 0 < n := by omega
          rw [q1]
          have q3 : ((n - 1 : Nat) : Int) = (n : Int) - 1 := by omega
          rw [q3]
          have q4 : (n : Int) - 1 < (n : Int) := by omega
          clear hown hk hkm1 hM h2 q1 q3 hend
          go_wp2
          go_ret2
          exact .inr ⟨HE.out, rfl, hb⟩
        · obtain ⟨b, off, rfl, hr⟩ := HR.out.row (by omega)
          have c1 : wr.cell? ⟨b, off + (pos z k + 1), none⟩ = some (.int .u8 (z (pos z k + 1))) := (hb.cell (p := ⟨b, off + (pos z k + 1), none⟩) hr.1).trans (hr.2.1 (pos z k + 1) (by omega))
          have z1 := hz (pos z k + 1)
          obtain ⟨v1, hv1⟩ := Int.eq_ofNat_of_zero_le z1.1
          have hpk : pos z (k + 1) = pos z k + 2 + v1 := by simp only [pos]; omega
          rw [hv1] at c1 z1
          generalize hopos : pos z k = o at c1 hpk hk hend h2 hM ⊢
          have q1 : (o : Int) < (n : Int) := by omega
          have q2 : ¬ (o : Int) = (n : Int) - 1 := by omega
          have q3 : ((n : Int) - (o : Int) - 2 < (v1 : Int)) := by omega
          have q4 : (0 : Int) ≤ (o : Int) + 1 := by omega
          have q5 : (o : Int) + 1 < (n : Int) := by omega
          clear hown hk hkm1 hM h2 hr hv1 hpk hopos hend
          go_wp2
          go_ret2
          exact .inr ⟨HE.out, rfl, hb⟩
end Go.Proofs.YtccoicjmmeoggaaDoor

/- What the document's DocRead is walked with. Each theorem states its conditions. -/
namespace Go.Proofs.YtccoicjmmeoggaaDoor
open Go.RowKit
set_option linter.unusedVariables false

/-- while DocRead fills a packet -/
def DrS (w : World) (P X b off n : Nat) (z : Nat → Int) (B : Nat) (A : Option Addr) (m cL : Nat) (L : Nat → It) (x : Pd) (w' : World) : Prop :=
  PdT 42 w' P x ∧ PdT 42 w' X pd0 ∧ Row8 w' b off n z ∧ Below w.heap.size w w' ∧ OwnT w' B (.slice A m cL) m L ∧ (X < P ∧ w.heap.size ≤ X ∧ b < w.heap.size ∧ P < B ∧ B ≤ w'.heap.size)
theorem row_keep {w w' : World} {b off n : Nat} {z : Nat → Int} (h : Row8 w b off n z) (hb : w'.heap[b]? = w.heap[b]?) : Row8 w' b off n z := by
  have hlt : b < w'.heap.size := by
    have := (Array.getElem?_eq_some_iff (xs := w'.heap) (i := b) (b := w.heap[b]'h.1)).1 (by rw [hb]; exact Array.getElem?_eq_getElem h.1)
    exact this.1
  refine ⟨hlt, fun j hj => ?_, h.2.2⟩
  rw [← h.2.1 j hj]
  simp only [World.cell?, hb]
section
variable {w : World} {P X b off n : Nat} {z : Nat → Int} {B : Nat} {A : Option Addr} {m cL : Nat} {L : Nat → It} {x y : Pd} {w' w'' : World}
theorem DrS.below (h : DrS w P X b off n z B A m cL L x w') (hb : Below w'.heap.size w' w'') : DrS w P X b off n z B A m cL L x w'' := by
  obtain ⟨h1, h2, h3, h4, h5, h6, h7, h8, h9, h10⟩ := h
  exact ⟨h1.below hb h1.lt, h2.below hb h2.lt, row_keep h3 (hb.block _ h3.1), h4.trans (hb.mono h4.size), h5.below hb, h6, h7, h8, h9, Nat.le_trans h10 hb.size⟩
theorem DrS.put (h : DrS w P X b off n z B A m cL L x w') (q : Stored w' w'' P (pdC y) 42) : DrS w P X b off n z B A m cL L y w'' := by
  obtain ⟨h1, h2, h3, h4, h5, h6, h7, h8, h9, h10⟩ := h
  exact ⟨q.1, h2.far q (by omega), row_keep h3 (q.2.2 _ (by omega)), h4.trans (q.2.1 _ (by omega)), h5.far q h9, h6, h7, h8, h9, Nat.le_trans h10 (q.2.1 0 (Nat.zero_le _)).size⟩
theorem DrS.eq (h : DrS w P X b off n z B A m cL L x w') (e : pdC x = pdC y) : DrS w P X b off n z B A m cL L y w' := by
  obtain ⟨h1, h2⟩ := h
  refine ⟨?_, h2⟩
  unfold PdT at h1 ⊢
  rw [← e]; exact h1
end
/-- what DocRead leaves -/
def DrOk (q : Nat) (z : Nat → Int) (n m : Nat) : Prop := pos (tlZ q z) m = n - hdN q ∧ fitP (rdP q z) q = true ∧ FormOk z n
def DrP (w : World) (q : Nat) (z : Nat → Int) (n m : Nat) (e : Ending) (w' : World) : Prop :=
  (¬ DrOk q z n m ∧ RdErr w 3 e w') ∨ (DrOk q z n m ∧ q = 2 ∧ rightB (fun j => z (12 + j)) 12 (n - 12) = false ∧ RdErr w 8 e w') ∨
  (DrOk q z n m ∧ (q = 2 → rightB (fun j => z (12 + j)) 12 (n - 12) = true) ∧ RdOk w q z m e w')
/-- a packet ahead of its name -/
def swP (q : Nat) (z : Nat → Int) (A : Option Addr) (m c : Nat) : Pd :=
  if q = 0 then ⟨z 4, z (8 + 0), z0, (((numZ (fun j => z (15 + j)) 0 2).toNat : Nat) : Int), z (19 + 0), 0, z0, 0, z0, 0, 0, z0, z0, A, m, c⟩
  else if q = 1 then ⟨z 4, z (8 + 0), z0, (((numZ (fun j => z (15 + j)) 0 2).toNat : Nat) : Int), 0, z (19 + 0), fun j => z (20 + j), 0, z0, 0, 0, z0, z0, A, m, c⟩
  else withT (rdP q z) A m c
theorem hello_q (k : Int) (q : Nat) (hk : cls k = q) (hq : q ≤ 4) (w : World) : Calls Tryd.prog 50 #[.int .u8 k] w fun e w' => e = .returned (.bool (decide (q ≤ 1))) ∧ w = w' := by
  rcases cls_cases k q hk hq with ⟨h, rfl⟩ | ⟨h, rfl⟩ | ⟨h, rfl⟩ | ⟨h, rfl⟩ | ⟨h, rfl⟩ | ⟨h, rfl⟩ | ⟨h, rfl⟩ | ⟨h, rfl⟩ | ⟨h, rfl⟩
  · exact hello_yes k (by omega) w
  · exact hello_yes k (by omega) w
  · exact hello_yes k (by omega) w
  all_goals exact hello_no k (by omega) w
theorem lsp_q (k : Int) (q : Nat) (hk : cls k = q) (hq : q ≤ 4) (w : World) : Calls Tryd.prog 26 #[.int .u8 k] w fun e w' => e = .returned (.bool (decide (q = 2))) ∧ w = w' := by
  rcases cls_cases k q hk hq with ⟨h, rfl⟩ | ⟨h, rfl⟩ | ⟨h, rfl⟩ | ⟨h, rfl⟩ | ⟨h, rfl⟩ | ⟨h, rfl⟩ | ⟨h, rfl⟩ | ⟨h, rfl⟩ | ⟨h, rfl⟩
  · exact lsp_no k (by omega) w
  · exact lsp_no k (by omega) w
  · exact lsp_no k (by omega) w
  · exact lsp_yes k (by omega) w
  · exact lsp_yes k (by omega) w
  all_goals exact lsp_no k (by omega) w
theorem rdP_ok (q : Nat) (hq : q ≤ 4) (z : Nat → Int) (hz : ∀ j, 0 ≤ z j ∧ z j ≤ 255) : PdOk (rdP q z) := by
  have zb : ∀ j, 0 ≤ z0 j ∧ z0 j ≤ 255 := fun j => (⟨Int.le_refl 0, by decide⟩ : (0 : Int) ≤ 0 ∧ (0 : Int) ≤ 255)
  have b0 : by1 0 := ⟨Int.le_refl 0, by decide⟩
  have i0 : in64 0 := ⟨by decide, by decide⟩
  have hn : ∀ s, in64 (((numZ (fun j => z (s + j)) 0 2).toNat : Nat) : Int) := fun s => by
    have h0 := hz (s + 0)
    have h1 := hz (s + 1)
    rw [num2]
    unfold in64
    omega
  have hn4 : ∀ s, (numZ (fun j => z (s + j)) 0 4).toNat ≤ 4294967295 := fun s => by
    have h0 := hz (s + 0)
    have h1 := hz (s + 1)
    have h2 := hz (s + 2)
    have h3 := hz (s + 3)
    rw [num4]
    omega
  rcases (by omega : q = 0 ∨ q = 1 ∨ q = 2 ∨ q = 3 ∨ q = 4) with rfl | rfl | rfl | rfl | rfl
  · exact ⟨⟨hz 4, hz _, mixS_bd (fun j => hz _) zb, hn 15, hz _, b0, zb⟩, i0, zb, Nat.zero_le _, b0, zb, zb⟩
  · exact ⟨⟨hz 4, hz _, mixS_bd (fun j => hz _) zb, hn 15, b0, hz _, fun j => hz _⟩, i0, zb, Nat.zero_le _, b0, zb, zb⟩
  · exact ⟨⟨hz 4, b0, zb, i0, b0, b0, zb⟩, hn 10, fun j => hz _, hn4 20, hz _, zb, zb⟩
  · exact ⟨⟨hz 4, b0, fun j => hz _, i0, b0, b0, zb⟩, i0, zb, Nat.zero_le _, b0, fun j => hz _, fun j => hz _⟩
  · exact ⟨⟨hz 4, b0, fun j => hz _, i0, b0, b0, zb⟩, i0, zb, Nat.zero_le _, b0, zb, zb⟩
theorem fit_withT (p : Pd) (q : Nat) (A : Option Addr) (m c : Nat) : fitP (withT p A m c) q = fitP p q :=
  fitsTo_congr (p := withT p A m c) (p' := p) (q := q) _ fun i _ => by unfold fitB; split <;> rfl
/-- a slice from a place within -/
theorem slice_in (W : World) (o : Oper) (e : Operand → Value) (x : Operand) (b off n c l : Nat) (li : Int) (hli : li = (l : Int)) (ho : o.op = .slice 22 x (some (.const (.int .i64 li))) none none) (hx : e x = .slice (some ⟨b, off, none⟩) n c) (he : e (.const (.int .i64 li)) = .int .i64 li) (h1 : l < n) (h2 : n ≤ c) (hcm : c ≤ 9223372036854775807) :
    (execOp e o).run Tryd.prog W = .ok (.value (.slice (some ⟨b, off + l, none⟩) (n - l) (c - l))) W := by
  subst hli
  have := run_from W b off n c l (by omega) h2 hcm
  rw [if_neg (by omega)] at this
  exact slice_op o e x _ ho _ _ hx he _ this
theorem results_dr {fn : Func} {q u : Tmp} (h : fn.results = #[.cell q 42, .tmp u]) (tmps : Array Value) (W : World) (g : Nat) (p : Pd) (x : Value)
    (hp : tmps.getD q undef = .pointer (some ⟨g, 0, none⟩)) (hg : PdT 42 W g p) (hx : tmps.getD u undef = x) : (results fn tmps).run Tryd.prog W = .ok (.tuple #[.agg (pdC p), x]) W := by
  have h1 := run_loadVar_row (P := Tryd.prog) W g 42 42 (pdC p) (0, 0) _ hg Tryd.underlying42 rfl info_pdR
  have hp' : (tmps[q]?).getD undef = .pointer (some ⟨g, 0, none⟩) := by simpa using hp
  have hx' : (tmps[u]?).getD undef = x := by simpa using hx
  simp only [results, h]
  simp [hp', hx', asAddr, h1]
theorem build_0d (o : Oper) (e : Operand → Value) (ho : o.op = .build 42 #[]) (W : World) : (execOp e o).run Tryd.prog W = .ok (.value (.agg (pdC pd0))) W := by
  unfold execOp
  simp only [ho]
  kernel_rfl
theorem build_1d (o : Oper) (e : Operand → Value) (x0 : Operand) (ho : o.op = .build 42 #[(0, x0)]) (k : Int) (h0 : e x0 = .int .u8 k) (W : World) : (execOp e o).run Tryd.prog W = .ok (.value (.agg (pdC (kdP k)))) W := by
  unfold execOp
  simp only [ho, List.map_toArray, List.map_cons, List.map_nil, h0]
  kernel_rfl
theorem rd_from {w : World} {b off n c H : Nat} {z : Nat → Int} (h : Row8 w b off n z) (hh : H ≤ n) (hc : n ≤ c) : Rd w (if c = H then some ⟨b, off, none⟩ else some ⟨b, off + H, none⟩) (n - H) (fun j => z (H + j)) := by
  by_cases e : c = H
  · exact ⟨.inl (by omega), fun j => h.2.2 _⟩
  · rw [if_neg e]
    exact ⟨.inr ⟨b, off + H, rfl, h.shift H (n - H) (by omega)⟩, fun j => h.2.2 _⟩
theorem swP_kd (q : Nat) (z : Nat → Int) (A : Option Addr) (m c : Nat) : (swP q z A m c).kd = z 4 := by
  unfold swP
  split
  · rfl
  · split
    · rfl
    · exact rdP_kd q z
def setSo (x : Pd) (s : Nat → Int) : Pd := ⟨x.kd, x.ci, s, x.ho, x.nu, x.pr, x.la, x.li, x.id, x.sq, x.bi, x.st, x.en, x.A, x.m, x.c⟩
theorem num4_le (z : Nat → Int) (s : Nat) (hz : ∀ j, 0 ≤ z j ∧ z j ≤ 255) : (numZ (fun j => z (s + j)) 0 4).toNat ≤ 4294967295 := by
  have h0 := hz (s + 0)
  have h1 := hz (s + 1)
  have h2 := hz (s + 2)
  have h3 := hz (s + 3)
  rw [num4]
  omega
theorem number_four (b off c : Nat) (z : Nat → Int) (w : World) (hr : Row8 w b off 4 z) :
    Calls Tryd.prog 80 #[.slice (some ⟨b, off, none⟩) 4 c] w fun e w' => e = .returned (.int .u64 (((numZ z 0 4).toNat : Nat) : Int)) ∧ Below w.heap.size w w' :=
  (number_any b off 4 c z w hr (by decide)).mono fun e w' h => by
    obtain ⟨rfl, rfl⟩ := h
    exact ⟨by rw [Int.toNat_of_nonneg (numZ_lt z 0 4 hr.2.2).1], bself _⟩
theorem ownT_mono {w : World} {B B' m : Nat} {v : Value} {L : Nat → It} (h : OwnT w B v m L) (hb : B' ≤ B) : OwnT w B' v m L := ⟨ownsRow_mono h.1 hb, fun j hj => (h.2 j hj).mono hb⟩
/-- two bytes of a copy are laid -/
theorem lay_two {w wg wh : World} {P X b off n : Nat} {z y : Nat → Int} {B : Nat} {A : Option Addr} {m cL g1 c1 g2 c2 : Nat} {L : Nat → It} {x : Pd} (q : Nat) (hD : DrS w P X b off n z B A m cL L x wg) (hO1 : Own8 wg g1 n c1 y) (hb : Below wg.heap.size wg wh) (hO2 : Own8 wh g2 n c2 z) (hg2 : wg.heap.size ≤ g2) (hn : 27 ≤ n) :
    ∃ yz, Hid (∀ j, j < n → (q = 2 → j ≠ 24 ∧ j ≠ 25) → q = 2 → yz j = z j) ∧ Hid (q = 2 → yz 24 = y 24 ∧ yz 25 = y 25) ∧ Hid (Rd ((wh.setCell ⟨g2, 24, none⟩ (.int .u8 (y 24))).setCell ⟨g2, 25, none⟩ (.int .u8 (y 25))).drew (some ⟨g1, 0, none⟩) n y) ∧ Hid (Rd ((wh.setCell ⟨g2, 24, none⟩ (.int .u8 (y 24))).setCell ⟨g2, 25, none⟩ (.int .u8 (y 25))).drew (some ⟨g2, 0, none⟩) n yz) ∧
      Hid (DrS w P X b off n z B A m cL L x ((wh.setCell ⟨g2, 24, none⟩ (.int .u8 (y 24))).setCell ⟨g2, 25, none⟩ (.int .u8 (y 25))).drew) := by
  have hbW : Below wg.heap.size wg ((wh.setCell ⟨g2, 24, none⟩ (.int .u8 (y 24))).setCell ⟨g2, 25, none⟩ (.int .u8 (y 25))).drew := ((hb.setCell (p := ⟨g2, 24, none⟩) hg2 _).setCell (p := ⟨g2, 25, none⟩) hg2 _).drew
  have h2 := (hO2.put 24 (by omega) (y 24) (hO1.2 24)).put 25 (by omega) (y 25) (hO1.2 25)
  refine ⟨upd (upd z 24 (y 24)) 25 (y 25), Lib.hid fun j hj hc hq => ?_, Lib.hid fun _ => ⟨rfl, rfl⟩, Lib.hid (hO1.below hbW hO1.lt).rd, Lib.hid h2.rd, Lib.hid (hD.below hbW)⟩
  obtain ⟨h24, h25⟩ := hc hq
  unfold upd
  rw [if_neg h25, if_neg h24]
def drSet_ci (x : Pd) (v : Int) : Pd := ⟨x.kd, v, x.so, x.ho, x.nu, x.pr, x.la, x.li, x.id, x.sq, x.bi, x.st, x.en, x.A, x.m, x.c⟩
theorem drPut_ci (x : Pd) (v : Int) : putMany (pdC x) 1 (#[.int .u8 v] : Array Value).toList = pdC (drSet_ci x v) := by kernel_rfl
def drSet_so (x : Pd) (v : Nat → Int) : Pd := ⟨x.kd, x.ci, v, x.ho, x.nu, x.pr, x.la, x.li, x.id, x.sq, x.bi, x.st, x.en, x.A, x.m, x.c⟩
theorem drPut_so (x : Pd) (v : Nat → Int) : putMany (pdC x) 2 ((ndC v) : Array Value).toList = pdC (drSet_so x v) := by kernel_rfl
def drSet_ho (x : Pd) (v : Int) : Pd := ⟨x.kd, x.ci, x.so, v, x.nu, x.pr, x.la, x.li, x.id, x.sq, x.bi, x.st, x.en, x.A, x.m, x.c⟩
theorem drPut_ho (x : Pd) (v : Int) : putMany (pdC x) 9 (#[.int .i64 v] : Array Value).toList = pdC (drSet_ho x v) := by kernel_rfl
def drSet_nu (x : Pd) (v : Int) : Pd := ⟨x.kd, x.ci, x.so, x.ho, v, x.pr, x.la, x.li, x.id, x.sq, x.bi, x.st, x.en, x.A, x.m, x.c⟩
theorem drPut_nu (x : Pd) (v : Int) : putMany (pdC x) 10 (#[.int .u8 v] : Array Value).toList = pdC (drSet_nu x v) := by kernel_rfl
def drSet_pr (x : Pd) (v : Int) : Pd := ⟨x.kd, x.ci, x.so, x.ho, x.nu, v, x.la, x.li, x.id, x.sq, x.bi, x.st, x.en, x.A, x.m, x.c⟩
theorem drPut_pr (x : Pd) (v : Int) : putMany (pdC x) 11 (#[.int .u8 v] : Array Value).toList = pdC (drSet_pr x v) := by kernel_rfl
def drSet_la (x : Pd) (v : Nat → Int) : Pd := ⟨x.kd, x.ci, x.so, x.ho, x.nu, x.pr, v, x.li, x.id, x.sq, x.bi, x.st, x.en, x.A, x.m, x.c⟩
theorem drPut_la (x : Pd) (v : Nat → Int) : putMany (pdC x) 12 ((ndC v) : Array Value).toList = pdC (drSet_la x v) := by kernel_rfl
def drSet_li (x : Pd) (v : Int) : Pd := ⟨x.kd, x.ci, x.so, x.ho, x.nu, x.pr, x.la, v, x.id, x.sq, x.bi, x.st, x.en, x.A, x.m, x.c⟩
theorem drPut_li (x : Pd) (v : Int) : putMany (pdC x) 19 (#[.int .i64 v] : Array Value).toList = pdC (drSet_li x v) := by kernel_rfl
def drSet_id (x : Pd) (v : Nat → Int) : Pd := ⟨x.kd, x.ci, x.so, x.ho, x.nu, x.pr, x.la, x.li, v, x.sq, x.bi, x.st, x.en, x.A, x.m, x.c⟩
theorem drPut_id (x : Pd) (v : Nat → Int) : putMany (pdC x) 20 ((idC v) : Array Value).toList = pdC (drSet_id x v) := by kernel_rfl
def drSet_sq (x : Pd) (v : Nat) : Pd := ⟨x.kd, x.ci, x.so, x.ho, x.nu, x.pr, x.la, x.li, x.id, v, x.bi, x.st, x.en, x.A, x.m, x.c⟩
theorem drPut_sq (x : Pd) (v : Nat) : putMany (pdC x) 28 (#[.int .u32 (v : Int)] : Array Value).toList = pdC (drSet_sq x v) := by kernel_rfl
def drSet_bi (x : Pd) (v : Int) : Pd := ⟨x.kd, x.ci, x.so, x.ho, x.nu, x.pr, x.la, x.li, x.id, x.sq, v, x.st, x.en, x.A, x.m, x.c⟩
theorem drPut_bi (x : Pd) (v : Int) : putMany (pdC x) 29 (#[.int .u8 v] : Array Value).toList = pdC (drSet_bi x v) := by kernel_rfl
def drSet_st (x : Pd) (v : Nat → Int) : Pd := ⟨x.kd, x.ci, x.so, x.ho, x.nu, x.pr, x.la, x.li, x.id, x.sq, x.bi, v, x.en, x.A, x.m, x.c⟩
theorem drPut_st (x : Pd) (v : Nat → Int) : putMany (pdC x) 30 ((idC v) : Array Value).toList = pdC (drSet_st x v) := by kernel_rfl
def drSet_en (x : Pd) (v : Nat → Int) : Pd := ⟨x.kd, x.ci, x.so, x.ho, x.nu, x.pr, x.la, x.li, x.id, x.sq, x.bi, x.st, v, x.A, x.m, x.c⟩
theorem drPut_en (x : Pd) (v : Nat → Int) : putMany (pdC x) 38 ((idC v) : Array Value).toList = pdC (drSet_en x v) := by kernel_rfl
theorem swD_0 (z : Nat → Int) (A : Option Addr) (m cL : Nat) : pdC (drSet_nu (drSet_ho (drSet_ci (withT (kdP (z 4)) A m cL) (z (8 + 0))) ((((numZ (fun j => z (15 + j)) 0 2).toNat : Nat) : Int))) (z (19 + 0))) = pdC (swP 0 z A m cL) := by kernel_rfl
theorem swD_1 (z : Nat → Int) (A : Option Addr) (m cL : Nat) : pdC (drSet_la (drSet_pr (drSet_ho (drSet_ci (withT (kdP (z 4)) A m cL) (z (8 + 0))) ((((numZ (fun j => z (15 + j)) 0 2).toNat : Nat) : Int))) (z (19 + 0))) ((fun j => z (20 + j)))) = pdC (swP 1 z A m cL) := by kernel_rfl
theorem swD_2 (z : Nat → Int) (A : Option Addr) (m cL : Nat) : pdC (drSet_bi (drSet_sq (drSet_id (drSet_li (withT (kdP (z 4)) A m cL) ((((numZ (fun j => z (10 + j)) 0 2).toNat : Nat) : Int))) ((fun j => z (12 + j)))) ((numZ (fun j => z (20 + j)) 0 4).toNat)) (z (26 + 0))) = pdC (swP 2 z A m cL) := by kernel_rfl
theorem swD_3 (z : Nat → Int) (A : Option Addr) (m cL : Nat) : pdC (drSet_en (drSet_st (drSet_so (withT (kdP (z 4)) A m cL) ((fun j => z (10 + j)))) ((fun j => z (17 + j)))) ((fun j => z (25 + j)))) = pdC (swP 3 z A m cL) := by kernel_rfl
theorem swD_4 (z : Nat → Int) (A : Option Addr) (m cL : Nat) : pdC (drSet_so (withT (kdP (z 4)) A m cL) (fun j => z (10 + j))) = pdC (swP 4 z A m cL) := by kernel_rfl
end Go.Proofs.YtccoicjmmeoggaaDoor

/- The document's Blank: a packet's bytes as they are signed. Each theorem states its conditions. -/
namespace Go.Proofs.YtccoicjmmeoggaaDoor
open Go.RowKit
set_option linter.unusedVariables false

theorem info_u81 : (Tryd.prog.info? 5).map (·.size) = some 1 := by kernel_rfl
/-- a byte is written into bytes of the call's own -/
theorem wpList_put8 {ops : Array Oper} {Q : Exit → Act → World → Prop} {rest : List Oper} {op : Oper} {a : Act} {w : World} (hgd : op.guard = none) (x y : Operand) (ho : op.op = .store 5 x y) (g i : Nat) (hx : a.eval x = .pointer (some ⟨g, i, none⟩)) (v : Int) (hy : a.eval y = .int .u8 v) (hv : 0 ≤ v ∧ v ≤ 255)
    {n cap : Nat} {z : Nat → Int} (h : Own8 w g n cap z) (hi : i < n)
    (H : ∀ w' C, Stored w w' g C 5 → Own8 w' g n cap (upd z i v) → wpList Tryd.prog ops Q rest (a.put op.dst undef) w') : wpList Tryd.prog ops Q (op :: rest) a w := by
  obtain ⟨⟨cur, hg, h1, h2, h3, h4⟩, h5⟩ := h
  refine wpList_st hgd 5 x y ho g i hx (.int .u8 v) #[.int .u8 v] hy rfl info_u81 (by kernel_rfl) hg (by show i + 1 ≤ cur.size; omega) rfl ?_
  intro w' hs
  refine H w' _ hs ⟨⟨_, hs.1, h1, h2, by rw [putMany_size, h3], fun j hj => ?_⟩, upd_bd h5 i v hv⟩
  show (cur.setIfInBounds i (.int .u8 v))[j]? = _
  rw [Array.getElem?_setIfInBounds]
  unfold upd
  by_cases e : i = j
  · subst e; rw [if_pos rfl, if_pos (by omega), if_pos rfl]
  · rw [if_neg e, if_neg (fun h => e h.symm)]; exact h4 j hj
theorem zap_next (z : Nat → Int) (o k : Nat) : upd (zapZ z o k) (o + k) 0 = zapZ z o (k + 1) := by
  funext j
  unfold upd zapZ
  by_cases e : j = o + k
  · subst e; rw [if_pos rfl, if_pos (by omega)]
  · rw [if_neg e]
    by_cases h : o ≤ j ∧ j < o + k
    · rw [if_pos h, if_pos (by omega)]
    · rw [if_neg h, if_neg (by omega)]
theorem zap_0 (z : Nat → Int) (o : Nat) : zapZ z o 0 = z := by funext j; unfold zapZ; rw [if_neg (by omega)]
/-- where an LSP's life and check bytes lie -/
def plN : Nat → Nat
  | 0 => 10 | 1 => 11 | 2 => 24 | _ => 25
theorem plN_lt (k : Nat) : plN k ≤ 25 := by unfold plN; split <;> decide
def zap4 (z : Nat → Int) : Nat → Nat → Int
  | 0 => z
  | k + 1 => upd (zap4 z k) (plN k) 0
theorem zap_4 (z : Nat → Int) : zap4 z 4 = zapZ (zapZ z 10 2) 24 2 := by
  funext j
  show upd (upd (upd (upd z 10 0) 11 0) 24 0) 25 0 j = _
  unfold upd zapZ
  by_cases h1 : j = 25
  · subst h1; rfl
  · rw [if_neg h1]
    by_cases h2 : j = 24
    · subst h2; rfl
    · rw [if_neg h2]
      rw [if_neg (show ¬ (24 ≤ j ∧ j < 24 + 2) by omega)]
      by_cases h3 : j = 11
      · subst h3; rfl
      · rw [if_neg h3]
        by_cases h4 : j = 10
        · subst h4; rfl
        · rw [if_neg h4, if_neg (show ¬ (10 ≤ j ∧ j < 10 + 2) by omega)]
theorem bs_four (W : World) (o : Oper) (e : Operand → Value) (ho : o.op = .buildSlice 131 4 #[(0, .const (.int .i64 10)), (1, .const (.int .i64 11)), (2, .const (.int .i64 24)), (3, .const (.int .i64 25))]) (hc : ∀ v, e (.const v) = v) :
    (execOp e o).run Tryd.prog W = .ok (.value (.slice (some ⟨W.heap.size, 0, none⟩) 4 4)) (W.alloc (.cells #[.int .i64 10, .int .i64 11, .int .i64 24, .int .i64 25] 3)) := by
  unfold execOp
  simp only [ho]
  simp only [List.map_toArray, List.map_cons, List.map_nil, hc]
  kernel_rfl
/-- bytes of the call's own -/
def BlkP (w : World) (n : Nat) (z : Nat → Int) (e : Ending) (w' : World) : Prop := ∃ g c, e = .returned (.slice (some ⟨g, 0, none⟩) n c) ∧ w.heap.size ≤ g ∧ Own8 w' g n c z ∧ Below w.heap.size w w'
set_option maxHeartbeats 8000000 in
set_option maxRecDepth 100000 in
theorem blank_2 (B : Option Addr) (n c : Nat) (z : Nat → Int) (kd : Int) (w : World) (hq : kd = 18 ∨ kd = 20) (h4 : z 4 = kd) (hB : Rd w B n z) (hBn : B = none → n = 0 ∧ c = 0) (hn : 54 ≤ n) (hn2 : n ≤ 1492) :
    Calls Tryd.prog 49 #[.slice B n c] w (BlkP w n (blkZ (kd = 18 ∨ kd = 20) z n)) := by
  have HQ := Lib.hid hq
  have HR := Lib.hid hB
  have HBN := Lib.hid hBn
  have H4 := Lib.hid h4
  obtain ⟨o, ho⟩ : ∃ o, n = o + 32 := ⟨n - 32, by omega⟩
  have ho1 : 22 ≤ o := by omega
  have ho2 : o ≤ 1460 := by omega
  obtain ⟨Y, hY⟩ : ∃ Y, blkZ (kd = 18 ∨ kd = 20) z n = Y := ⟨_, rfl⟩
  have HY := Lib.hid hY
  rw [hY]
  clear hB hBn hn hn2 hq h4 hY
  subst ho
  go_enter Tryd.func49, Tryd.ntmps49
  go_wp2_with fail
  refine (twin_any B (o + 32) c z w HR.out HBN.out (by omega)).mono ?_
  rintro e w1 ⟨g, cap, rfl, hg, hO, hb⟩
  have K := Lib.hid hO
  have HB := Lib.hid hb
  have hcap := hO.caps.1
  have hcm : cap ≤ 9223372036854775807 := hO.caps.2
  have hgw := hg
  clear hO hb hg
  go_wp2_with fail
  go_loopw [4] (fun t wr => ∃ k : Nat, k ≤ 32 ∧ t = .int .i64 ((o + k : Nat) : Int) ∧ Hid (Own8 wr g (o + 32) cap (zapZ z o k)) ∧ Hid (Below w.heap.size w wr)) (fun t _ => o + 32 - (intOf t).toNat)
  case atStart => exact ⟨0, by omega, by go_num, Lib.hid (by rw [zap_0]; exact K.out), HB⟩
  case round =>
    clear K HB
    obtain ⟨k, hk, rfl, K, HB⟩ := hrel
    obtain ⟨i, hi⟩ : ∃ i, o + k = i := ⟨_, rfl⟩
    rw [hi]
    have HI := Lib.hid hi
    by_cases hlt : k < 32
    · have h1 : (i : Int) < (o : Int) + 32 := by omega
      have h2 : i < o + 32 := by omega
      have h3 : (i : Int) < ((o + 32 : Nat) : Int) := by omega
      have h6 : i ≤ 2000 := by omega
      clear hi
      go_wp2_with (refine wpList_put8 (op := ⟨none, _, _, _, _, _⟩) rfl (.tmp 20) _ rfl g i rfl 0 rfl (by decide) K.out h2 ?_; intro w2 C2 q1 q2; refine Hid.out ?_)
      refine Lib.hid ?_
      have HB2 := Lib.hid (HB.out.trans (q1.2.1 _ hgw))
      rw [← HI.out, zap_next] at q2
      have K2 := Lib.hid q2
      clear q1 q2 K HB
      go_wp2_with fail
      go_roundw
      case rel => exact ⟨k + 1, by omega, by have := HI.out; go_num, K2, HB2⟩
      case measure => simp only [intOf]; omega
    · have h1 : ¬ (i : Int) < (o : Int) + 32 := by omega
      have h3 : ¬ (i : Int) < ((o + 32 : Nat) : Int) := by omega
      obtain rfl : k = 32 := by omega
      clear hi
      have c4 : wr.cell? ⟨g, 4, none⟩ = some (.int .u8 kd) := by
        have := K.out.row.2.1 4 (by omega)
        rw [Nat.zero_add] at this
        rw [this]
        unfold zapZ
        rw [if_neg (by omega), H4.out]
      go_wp2_with fail
      refine (lsp_yes kd HQ.out wr).mono ?_
      rintro e w3 ⟨rfl, rfl⟩
      clear c4 h1 h3 HI
      obtain ⟨N9, hN9⟩ : ∃ N, wr.heap.size = N := ⟨_, rfl⟩
      have HN9 := Lib.hid hN9
      clear hN9
      go_wp2_with (refine wpList_bsn (op := ⟨some 25, _, _, _, _, _⟩) 4 rfl 3 (#[.int .i64 10, .int .i64 11, .int .i64 24, .int .i64 25]) (bs_four _ _ _ rfl (fun _ => rfl)) N9 HN9.out ?_; intro w5 k1 b1 s1; refine Hid.out ?_)
      refine Lib.hid ?_
      have KF := Lib.hid k1
      have lt_g : g < N9 := by rw [← HN9.out]; exact K.out.lt
      have K3 := Lib.hid (K.out.below b1 K.out.lt)
      have HB3 := Lib.hid (HB.out.trans (b1.mono HB.out.size))
      clear k1 b1 K HB HN9
      obtain ⟨Y0, hY0⟩ : ∃ Y, zapZ z o 32 = Y := ⟨_, rfl⟩
      have HY0 := Lib.hid hY0
      rw [hY0] at K3
      clear hY0
      go_wp2_with fail
      go_loopw [27] (fun t wr => ∃ k : Nat, k ≤ 4 ∧ t = .int .i64 (k : Int) ∧ Hid (Own8 wr g (o + 32) cap (zap4 Y0 k)) ∧ Hid (Blk 3 wr N9 #[.int .i64 10, .int .i64 11, .int .i64 24, .int .i64 25]) ∧ Hid (Below w.heap.size w wr)) (fun t _ => 4 - (intOf t).toNat)
      case atStart => exact ⟨0, by omega, rfl, K3, KF, HB3⟩
      case round =>
        clear K3 KF HB3
        obtain ⟨k, hk, rfl, K, KF, HB⟩ := hrel
        by_cases hlt : k < 4
        · have h1 : (k : Int) < 4 := by omega
          obtain ⟨p, hp⟩ : ∃ p, plN k = p := ⟨_, rfl⟩
          have hp2 : p ≤ 25 := by rw [← hp]; exact plN_lt k
          have c5 : wr.cell? ⟨N9, k, none⟩ = some (.int .i64 (p : Int)) := by
            rw [KF.out.cell, ← hp]
            rcases (by omega : k = 0 ∨ k = 1 ∨ k = 2 ∨ k = 3) with rfl | rfl | rfl | rfl <;> rfl
          have HP := Lib.hid hp
          clear hp
          have h2 : p < o + 32 := by omega
          have h3 : (p : Int) < (o : Int) + 32 := by omega
          have h4 : (p : Int) < ((o + 32 : Nat) : Int) := by omega
          go_wp2_with (refine wpList_put8 (op := ⟨none, _, _, _, _, _⟩) rfl (.tmp 33) _ rfl g p rfl 0 rfl (by decide) K.out h2 ?_; intro w6 C6 q1 q2; refine Hid.out ?_)
          refine Lib.hid ?_
          have HB2 := Lib.hid (HB.out.trans (q1.2.1 _ hgw))
          have KF2 := Lib.hid (KF.out.far q1 (by omega))
          have K2 : Hid (Own8 w6 g (o + 32) cap (zap4 Y0 (k + 1))) := Lib.hid (by show Own8 _ _ _ _ (upd (zap4 Y0 k) (plN k) 0); rw [HP.out]; exact q2)
          clear q1 q2 K HB KF c5
          go_wp2_with fail
          go_roundw
          case rel => exact ⟨k + 1, by omega, by go_num, K2, KF2, HB2⟩
          case measure => simp only [intOf]; omega
        · obtain rfl : k = 4 := by omega
          go_wp2_with fail
          go_ret
          refine ⟨g, cap, rfl, hgw, ?_, HB.out⟩
          have h9 := HY.out
          unfold blkZ at h9
          rw [if_pos HQ.out, Nat.add_sub_cancel, HY0.out, ← zap_4] at h9
          rw [← h9]
          exact K.out
set_option maxHeartbeats 8000000 in
set_option maxRecDepth 100000 in
theorem blank_0 (B : Option Addr) (n c : Nat) (z : Nat → Int) (kd : Int) (w : World) (hq : ¬ (kd = 18 ∨ kd = 20)) (h4 : z 4 = kd) (hB : Rd w B n z) (hBn : B = none → n = 0 ∧ c = 0) (hn : 54 ≤ n) (hn2 : n ≤ 1492) :
    Calls Tryd.prog 49 #[.slice B n c] w (BlkP w n (blkZ (kd = 18 ∨ kd = 20) z n)) := by
  have HQ := Lib.hid hq
  have HR := Lib.hid hB
  have HBN := Lib.hid hBn
  have H4 := Lib.hid h4
  obtain ⟨o, ho⟩ : ∃ o, n = o + 32 := ⟨n - 32, by omega⟩
  have ho1 : 22 ≤ o := by omega
  have ho2 : o ≤ 1460 := by omega
  obtain ⟨Y, hY⟩ : ∃ Y, blkZ (kd = 18 ∨ kd = 20) z n = Y := ⟨_, rfl⟩
  have HY := Lib.hid hY
  rw [hY]
  clear hB hBn hn hn2 hq h4 hY
  subst ho
  go_enter Tryd.func49, Tryd.ntmps49
  go_wp2_with fail
  refine (twin_any B (o + 32) c z w HR.out HBN.out (by omega)).mono ?_
  rintro e w1 ⟨g, cap, rfl, hg, hO, hb⟩
  have K := Lib.hid hO
  have HB := Lib.hid hb
  have hcap := hO.caps.1
  have hcm : cap ≤ 9223372036854775807 := hO.caps.2
  have hgw := hg
  clear hO hb hg
  go_wp2_with fail
  go_loopw [4] (fun t wr => ∃ k : Nat, k ≤ 32 ∧ t = .int .i64 ((o + k : Nat) : Int) ∧ Hid (Own8 wr g (o + 32) cap (zapZ z o k)) ∧ Hid (Below w.heap.size w wr)) (fun t _ => o + 32 - (intOf t).toNat)
  case atStart => exact ⟨0, by omega, by go_num, Lib.hid (by rw [zap_0]; exact K.out), HB⟩
  case round =>
    clear K HB
    obtain ⟨k, hk, rfl, K, HB⟩ := hrel
    obtain ⟨i, hi⟩ : ∃ i, o + k = i := ⟨_, rfl⟩
    rw [hi]
    have HI := Lib.hid hi
    by_cases hlt : k < 32
    · have h1 : (i : Int) < (o : Int) + 32 := by omega
      have h2 : i < o + 32 := by omega
      have h3 : (i : Int) < ((o + 32 : Nat) : Int) := by omega
      have h6 : i ≤ 2000 := by omega
      clear hi
      go_wp2_with (refine wpList_put8 (op := ⟨none, _, _, _, _, _⟩) rfl (.tmp 20) _ rfl g i rfl 0 rfl (by decide) K.out h2 ?_; intro w2 C2 q1 q2; refine Hid.out ?_)
      refine Lib.hid ?_
      have HB2 := Lib.hid (HB.out.trans (q1.2.1 _ hgw))
      rw [← HI.out, zap_next] at q2
      have K2 := Lib.hid q2
      clear q1 q2 K HB
      go_wp2_with fail
      go_roundw
      case rel => exact ⟨k + 1, by omega, by have := HI.out; go_num, K2, HB2⟩
      case measure => simp only [intOf]; omega
    · have h1 : ¬ (i : Int) < (o : Int) + 32 := by omega
      have h3 : ¬ (i : Int) < ((o + 32 : Nat) : Int) := by omega
      obtain rfl : k = 32 := by omega
      clear hi
      have c4 : wr.cell? ⟨g, 4, none⟩ = some (.int .u8 kd) := by
        have := K.out.row.2.1 4 (by omega)
        rw [Nat.zero_add] at this
        rw [this]
        unfold zapZ
        rw [if_neg (by omega), H4.out]
      go_wp2_with fail
      refine (lsp_no kd HQ.out wr).mono ?_
      rintro e w3 ⟨rfl, rfl⟩
      go_wp2_with fail
      go_ret
      refine ⟨g, cap, rfl, hgw, ?_, HB.out⟩
      have h9 := HY.out
      unfold blkZ at h9
      rw [if_neg HQ.out, Nat.add_sub_cancel] at h9
      rw [← h9]
      exact K.out
theorem blank_any (B : Option Addr) (n c : Nat) (z : Nat → Int) (kd : Int) (w : World) (h4 : z 4 = kd) (hB : Rd w B n z) (hBn : B = none → n = 0 ∧ c = 0) (hn : 54 ≤ n) (hn2 : n ≤ 1492) :
    Calls Tryd.prog 49 #[.slice B n c] w (BlkP w n (blkZ (kd = 18 ∨ kd = 20) z n)) := by
  by_cases h : kd = 18 ∨ kd = 20
  · exact blank_2 B n c z kd w h h4 hB hBn hn hn2
  · exact blank_0 B n c z kd w h h4 hB hBn hn hn2
end Go.Proofs.YtccoicjmmeoggaaDoor

/- Operations on numbers of 64 bits, told in natural numbers; rows of such numbers. Each theorem states its conditions. -/
namespace Go.Proofs.YtccoicjmmeoggaaDoor
open Go.RowKit
set_option linter.unusedVariables false

def W64 (x : Nat) : Prop := x < 18446744073709551616
theorem w64 {x : Nat} (h : W32 x) : W64 x := by unfold W32 at h; unfold W64; omega
section
variable (o : Oper) (e : Operand → Value) (x y : Operand) (t u : TypeId)
theorem run_xorq (ho : o.op = .binOp .xor t x y u) (a b : Nat) (h0 : e x = .int .u64 a) (h1 : e y = .int .u64 b) (ha : W64 a) (hb : W64 b) (W : World) : (execOp e o).run Tryd.prog W = .ok (.value (.int .u64 ((a ^^^ b : Nat) : Int))) W := by
  unfold execOp
  simp only [ho, h0, h1]
  simp [go_sem, u64_xor_nat a b ha hb]
theorem run_andq (ho : o.op = .binOp .and t x y u) (a b : Nat) (h0 : e x = .int .u64 a) (h1 : e y = .int .u64 b) (ha : W64 a) (hb : W64 b) (W : World) : (execOp e o).run Tryd.prog W = .ok (.value (.int .u64 ((a &&& b : Nat) : Int))) W := by
  unfold execOp
  simp only [ho, h0, h1]
  simp [go_sem, u64_and_nat a b ha hb]
theorem run_addq (ho : o.op = .binOp .add t x y u) (a b c : Nat) (h0 : e x = .int .u64 a) (h1 : e y = .int .u64 b) (hc : a + b = c) (hb : W64 c) (W : World) : (execOp e o).run Tryd.prog W = .ok (.value (.int .u64 ((c : Nat) : Int))) W := by
  subst hc
  unfold W64 at hb
  unfold execOp
  simp only [ho, h0, h1]
  simp [go_sem, IntKind.wrap_u64]
  omega
theorem run_subq (k : Int) (ho : o.op = .binOp .sub t (.const (.int .u64 k)) y u) (hc : ∀ v, e (.const v) = v) (a b c : Nat) (hk : k = (a : Int)) (h1 : e y = .int .u64 b) (hb : b ≤ a) (ha : W64 a) (h9 : a - b = c) (W : World) : (execOp e o).run Tryd.prog W = .ok (.value (.int .u64 ((c : Nat) : Int))) W := by
  subst h9 hk
  unfold W64 at ha
  unfold execOp
  simp only [ho, hc, h1]
  simp [go_sem, IntKind.wrap_u64]
  omega
theorem run_remq (ho : o.op = .binOp .rem t x (.const (.int .u64 4294967296)) u) (hc : ∀ v, e (.const v) = v) (a : Nat) (h0 : e x = .int .u64 a) (W : World) : (execOp e o).run Tryd.prog W = .ok (.value (.int .u64 ((a % 4294967296 : Nat) : Int))) W := by
  have e1 : Int.tmod (a : Int) 4294967296 = ((a % 4294967296 : Nat) : Int) := by rw [Int.tmod_eq_emod_of_nonneg (by omega)]; rfl
  unfold execOp
  simp only [ho, h0, hc]
  simp [go_sem, e1]
theorem run_remn (ho : o.op = .binOp .rem t x (.const (.int .u64 4294967296)) u) (hc : ∀ v, e (.const v) = v) (a c : Nat) (h0 : e x = .int .u64 a) (h9 : a % 4294967296 = c) (W : World) : (execOp e o).run Tryd.prog W = .ok (.value (.int .u64 ((c : Nat) : Int))) W := by
  subst h9
  exact run_remq o e x t u ho hc a h0 W
theorem run_shrq (k : Int) (ho : o.op = .binOp .shr t x (.const (.int .u64 k)) u) (n : Nat) (hk : k = (n : Int)) (hn : n ≤ 32) (a : Nat) (h0 : e x = .int .u64 a) (hc : ∀ v, e (.const v) = v) (W : World) : (execOp e o).run Tryd.prog W = .ok (.value (.int .u64 ((a / 2 ^ n : Nat) : Int))) W := by
  subst hk
  unfold execOp
  simp only [ho, h0, hc]
  have : min n 64 = n := by omega
  simp [go_sem]
theorem run_shri (ho : o.op = .binOp .shr t x y u) (n : Nat) (hn : n ≤ 32) (a : Nat) (h0 : e x = .int .u64 a) (h1 : e y = .int .i64 (n : Int)) (W : World) : (execOp e o).run Tryd.prog W = .ok (.value (.int .u64 ((a / 2 ^ n : Nat) : Int))) W := by
  unfold execOp
  simp only [ho, h0, h1]
  have : min n 64 = n := by omega
  simp [go_sem]
theorem run_shli (ho : o.op = .binOp .shl t x y u) (n : Nat) (hn : n ≤ 32) (a c : Nat) (h0 : e x = .int .u64 a) (h1 : e y = .int .i64 (n : Int)) (hc : a * 2 ^ n = c) (hb : W64 c) (W : World) : (execOp e o).run Tryd.prog W = .ok (.value (.int .u64 ((c : Nat) : Int))) W := by
  unfold W64 at hb
  have e1 : (a : Int) * (2 : Int) ^ n = (c : Int) := by rw [← hc, Int.natCast_mul]; rfl
  unfold execOp
  simp only [ho, h0, h1]
  have : min n 64 = n := by omega
  simp [go_sem, e1, IntKind.wrap_u64]
  omega
end
/-- a row of numbers -/
def tqC (n : Nat) (T : Nat → Nat) : Array Value := ((List.range n).map fun i => Value.int .u64 ((T i : Nat) : Int)).toArray
theorem tq_size (n : Nat) (T : Nat → Nat) : (tqC n T).size = n := by simp [tqC]
theorem tq_at (n : Nat) (T : Nat → Nat) {i : Nat} (h : i < n) : (tqC n T)[i]? = some (.int .u64 ((T i : Nat) : Int)) := by simp [tqC, h]
theorem tq_congr {n : Nat} {T T' : Nat → Nat} (h : ∀ j, j < n → T j = T' j) : tqC n T = tqC n T' := by
  unfold tqC
  congr 1
  exact List.map_congr_left fun j hj => by rw [h j (List.mem_range.1 hj)]
theorem tq_set (n : Nat) (T T' : Nat → Nat) {i : Nat} (h : i < n) (v : Nat) (h1 : T' i = v) (h2 : ∀ j, j < n → j ≠ i → T' j = T j) : (tqC n T).setIfInBounds i (.int .u64 ((v : Nat) : Int)) = tqC n T' := by
  subst h1
  apply Array.ext
  · simp [tqC]
  · intro j hj hk
    simp only [tqC, Array.size_setIfInBounds, List.size_toArray, List.length_map, List.length_range] at hj hk
    rw [Array.getElem_setIfInBounds (by simp [tqC]; omega)]
    by_cases e : i = j
    · subst e
      simp [tqC]
    · simp only [e, if_false, tqC, List.getElem_toArray, List.getElem_map, List.getElem_range]
      rw [h2 j (by omega) (fun h => e h.symm)]
theorem info_u64f : (Tryd.prog.info? 78).map (fun i => (i.zero, i.size, i.bytes)) = some (some (.int .u64 0), 1, 8) := by kernel_rfl
theorem info_u64s : (Tryd.prog.info? 78).map (·.size) = some 1 := by kernel_rfl
theorem made64 : madeCells (Value.cells (.int .u64 0)) 64 = tqC 64 fun _ => 0 := by kernel_rfl
set_option maxRecDepth 100000 in
/-- 64 noughts in a new block -/
theorem wpList_mq {ops : Array Oper} {rest : List Oper} {op : Oper} {a : Act} {w : World} {Q : Exit → Act → World → Prop} (hgd : op.guard = none) (ho : op.op = .makeSlice 79 (.const (.int .i64 64)) (.const (.int .i64 64))) (N : Nat) (hN : w.heap.size = N)
    (h : ∀ w', Blk 78 w' N (tqC 64 fun _ => 0) → Below w.heap.size w w' → N + 1 ≤ w'.heap.size → wpList Tryd.prog ops Q rest (a.put op.dst (.slice (some ⟨N, 0, none⟩) 64 64)) w') : wpList Tryd.prog ops Q (op :: rest) a w := by
  subst hN
  have hmk : (Instr.makeSlice 79 (.int .i64 64) (.int .i64 64)).run Tryd.prog w = .ok (.slice (some ⟨w.heap.size, 0, none⟩) 64 64) (w.alloc (.cells (tqC 64 fun _ => 0) 78)) := by
    cases hq : Tryd.prog.info? 78 with
    | none => have := info_u64f; rw [hq] at this; cases this
    | some i =>
      have h9 := info_u64f
      rw [hq] at h9
      have h9' : (i.zero, i.size, i.bytes) = (some (.int .u64 0), 1, 8) := by simpa using h9
      injection h9' with hz h9'
      injection h9' with hs hb
      have h := run_make (P := Tryd.prog) w 79 78 i (.int .u64 0) Tryd.underlying79 hq hz .i64 .i64 64 64 (by omega) (by omega) (by rw [hb]; omega) (by omega)
      have e2 : (64 : Int).toNat = 64 := rfl
      rw [hs, e2, Nat.mul_one, made64] at h
      exact h
  refine wpList_plain hgd fun K hK => ?_
  unfold Oper.wp execOp
  simp only [ho]
  have e1 : a.eval (.const (.int .i64 64)) = .int .i64 64 := rfl
  rw [e1]
  simp [hmk, Result.andThen]
  exact hK _ _ (h _ (heap_alloc_new w _) ((bself w).alloc (Nat.le_refl _) _) (by simp))
theorem zer_byt8 : zer 8 = bytC 8 fun _ => 0 := by
  apply Array.ext_getElem?
  intro j
  by_cases h : j < 8
  · rw [zer_at 8 j h, byt_at _ _ h]
  · rw [Array.getElem?_eq_none (by rw [zer_size]; omega), Array.getElem?_eq_none (by rw [byt_size]; omega)]
theorem wpList_m8 {ops : Array Oper} {rest : List Oper} {op : Oper} {a : Act} {w : World} {Q : Exit → Act → World → Prop} (hgd : op.guard = none) (ho : op.op = .makeSlice 22 (.const (.int .i64 8)) (.const (.int .i64 8))) (N : Nat) (hN : w.heap.size = N)
    (h : ∀ w', Blk 5 w' N (bytC 8 fun _ => 0) → Below w.heap.size w w' → N + 1 ≤ w'.heap.size → wpList Tryd.prog ops Q rest (a.put op.dst (.slice (some ⟨N, 0, none⟩) 8 8)) w') : wpList Tryd.prog ops Q (op :: rest) a w := by
  subst hN
  have hmk : (Instr.makeSlice 22 (.int .i64 8) (.int .i64 8)).run Tryd.prog w = .ok (.slice (some ⟨w.heap.size, 0, none⟩) 8 8) (w.alloc (.cells (zer 8) 5)) := make8 8 (by omega) w
  rw [zer_byt8] at hmk
  refine wpList_plain hgd fun K hK => ?_
  unfold Oper.wp execOp
  simp only [ho]
  have e1 : a.eval (.const (.int .i64 8)) = .int .i64 8 := rfl
  rw [e1]
  simp [hmk, Result.andThen]
  exact hK _ _ (h _ (heap_alloc_new w _) ((bself w).alloc (Nat.le_refl _) _) (by simp))
/-- eight numbers in a new block -/
theorem wpList_b8 {ops : Array Oper} {rest : List Oper} {op : Oper} {a : Act} {w : World} {Q : Exit → Act → World → Prop} (hgd : op.guard = none) (x0 x1 x2 x3 x4 x5 x6 x7 : Operand) (ho : op.op = .buildSlice 79 8 #[(0, x0), (1, x1), (2, x2), (3, x3), (4, x4), (5, x5), (6, x6), (7, x7)]) (s : H8)
    (h0 : a.eval x0 = .int .u64 (s.a : Nat)) (h1 : a.eval x1 = .int .u64 (s.b : Nat)) (h2 : a.eval x2 = .int .u64 (s.c : Nat)) (h3 : a.eval x3 = .int .u64 (s.d : Nat)) (h4 : a.eval x4 = .int .u64 (s.e : Nat)) (h5 : a.eval x5 = .int .u64 (s.f : Nat)) (h6 : a.eval x6 = .int .u64 (s.g : Nat)) (h7 : a.eval x7 = .int .u64 (s.h : Nat)) (N : Nat) (hN : w.heap.size = N)
    (h : ∀ w', Blk 78 w' N (tqC 8 s.at) → Below w.heap.size w w' → N + 1 ≤ w'.heap.size → wpList Tryd.prog ops Q rest (a.put op.dst (.slice (some ⟨N, 0, none⟩) 8 8)) w') : wpList Tryd.prog ops Q (op :: rest) a w := by
  subst hN
  have hrun : (execOp a.eval op).run Tryd.prog w = .ok (.value (.slice (some ⟨w.heap.size, 0, none⟩) 8 8)) (w.alloc (.cells (tqC 8 s.at) 78)) := by
    unfold execOp
    simp only [ho]
    simp only [List.map_toArray, List.map_cons, List.map_nil, h0, h1, h2, h3, h4, h5, h6, h7]
    kernel_rfl
  refine wpList_plain hgd fun K hK => ?_
  unfold Oper.wp
  rw [hrun, Oper.upon_value]
  exact hK _ _ (h _ (heap_alloc_new w _) ((bself w).alloc (Nat.le_refl _) _) (by simp))
end Go.Proofs.YtccoicjmmeoggaaDoor

/- The document's turning of words, and its table. Each theorem states its conditions. -/
namespace Go.Proofs.YtccoicjmmeoggaaDoor
open Go.RowKit
set_option linter.unusedVariables false

def knownX : Array (Nat × Operand) := #[(0, Operand.const (Value.int IntKind.u32 1116352408)), (1, Operand.const (Value.int IntKind.u32 1899447441)), (2, Operand.const (Value.int IntKind.u32 3049323471)), (3, Operand.const (Value.int IntKind.u32 3921009573)), (4, Operand.const (Value.int IntKind.u32 961987163)), (5, Operand.const (Value.int IntKind.u32 1508970993)), (6, Operand.const (Value.int IntKind.u32 2453635748)), (7, Operand.const (Value.int IntKind.u32 2870763221)), (8, Operand.const (Value.int IntKind.u32 3624381080)), (9, Operand.const (Value.int IntKind.u32 310598401)), (10, Operand.const (Value.int IntKind.u32 607225278)), (11, Operand.const (Value.int IntKind.u32 1426881987)), (12, Operand.const (Value.int IntKind.u32 1925078388)), (13, Operand.const (Value.int IntKind.u32 2162078206)), (14, Operand.const (Value.int IntKind.u32 2614888103)), (15, Operand.const (Value.int IntKind.u32 3248222580)), (16, Operand.const (Value.int IntKind.u32 3835390401)), (17, Operand.const (Value.int IntKind.u32 4022224774)), (18, Operand.const (Value.int IntKind.u32 264347078)), (19, Operand.const (Value.int IntKind.u32 604807628)), (20, Operand.const (Value.int IntKind.u32 770255983)), (21, Operand.const (Value.int IntKind.u32 1249150122)), (22, Operand.const (Value.int IntKind.u32 1555081692)), (23, Operand.const (Value.int IntKind.u32 1996064986)), (24, Operand.const (Value.int IntKind.u32 2554220882)), (25, Operand.const (Value.int IntKind.u32 2821834349)), (26, Operand.const (Value.int IntKind.u32 2952996808)), (27, Operand.const (Value.int IntKind.u32 3210313671)), (28, Operand.const (Value.int IntKind.u32 3336571891)), (29, Operand.const (Value.int IntKind.u32 3584528711)), (30, Operand.const (Value.int IntKind.u32 113926993)), (31, Operand.const (Value.int IntKind.u32 338241895)), (32, Operand.const (Value.int IntKind.u32 666307205)), (33, Operand.const (Value.int IntKind.u32 773529912)), (34, Operand.const (Value.int IntKind.u32 1294757372)), (35, Operand.const (Value.int IntKind.u32 1396182291)), (36, Operand.const (Value.int IntKind.u32 1695183700)), (37, Operand.const (Value.int IntKind.u32 1986661051)), (38, Operand.const (Value.int IntKind.u32 2177026350)), (39, Operand.const (Value.int IntKind.u32 2456956037)), (40, Operand.const (Value.int IntKind.u32 2730485921)), (41, Operand.const (Value.int IntKind.u32 2820302411)), (42, Operand.const (Value.int IntKind.u32 3259730800)), (43, Operand.const (Value.int IntKind.u32 3345764771)), (44, Operand.const (Value.int IntKind.u32 3516065817)), (45, Operand.const (Value.int IntKind.u32 3600352804)), (46, Operand.const (Value.int IntKind.u32 4094571909)), (47, Operand.const (Value.int IntKind.u32 275423344)), (48, Operand.const (Value.int IntKind.u32 430227734)), (49, Operand.const (Value.int IntKind.u32 506948616)), (50, Operand.const (Value.int IntKind.u32 659060556)), (51, Operand.const (Value.int IntKind.u32 883997877)), (52, Operand.const (Value.int IntKind.u32 958139571)), (53, Operand.const (Value.int IntKind.u32 1322822218)), (54, Operand.const (Value.int IntKind.u32 1537002063)), (55, Operand.const (Value.int IntKind.u32 1747873779)), (56, Operand.const (Value.int IntKind.u32 1955562222)), (57, Operand.const (Value.int IntKind.u32 2024104815)), (58, Operand.const (Value.int IntKind.u32 2227730452)), (59, Operand.const (Value.int IntKind.u32 2361852424)), (60, Operand.const (Value.int IntKind.u32 2428436474)), (61, Operand.const (Value.int IntKind.u32 2756734187)), (62, Operand.const (Value.int IntKind.u32 3204031479)), (63, Operand.const (Value.int IntKind.u32 3329325298))]
theorem known_run (o : Oper) (e : Operand → Value) (ho : o.op = .build 76 knownX) (hc : ∀ v, e (.const v) = v) (W : World) : (execOp e o).run Tryd.prog W = .ok (.value (.agg (tabC rootN))) W := by
  unfold execOp
  simp only [ho]
  rw [show knownX.map (fun (i, x) => (i, e x)) = ((List.range 64).map fun i => (i, Value.int .u32 ((rootN i : Nat) : Int))).toArray from by
    simp only [knownX, List.map_toArray, List.map_cons, List.map_nil, hc]
    kernel_rfl]
  kernel_rfl

theorem shl_64 {x n : Nat} (hx : W32 x) (hn : n ≤ 31) : W64 (x * 2 ^ n) := by
  unfold W32 at hx
  unfold W64
  have h : (2 : Nat) ^ n ≤ 2 ^ 31 := Nat.pow_le_pow_right (by decide) hn
  have h2 : x * 2 ^ n ≤ 4294967295 * 2 ^ 31 := Nat.mul_le_mul (by omega) h
  omega
set_option maxHeartbeats 4000000 in
set_option maxRecDepth 100000 in
theorem right_w (x n : Nat) (w : World) (hx : W32 x) (h1 : 1 ≤ n) (h2 : n ≤ 31) :
    Calls Tryd.prog 34 #[.int .u64 ((x : Nat) : Int), .int .i64 (n : Int)] w fun e w' => e = .returned (.int .u64 ((rotN x n : Nat) : Int)) ∧ Below w.heap.size w w' := by
  have HX := Lib.hid hx
  have HR := Lib.hid (rot_lt hx h1 h2)
  clear hx
  obtain ⟨r, hr⟩ : ∃ r, rotN x n = r := ⟨_, rfl⟩
  have HRR := Lib.hid hr
  rw [hr] at HR ⊢
  clear hr
  go_enter Tryd.func34, Tryd.ntmps34
  have HB := Lib.hid (Below.refl w.heap.size w)
  go_wp2_with fail
  refine wp_region_held_drew (S := fun w' => Below w.heap.size w w') (by kernel_rfl) HB.out.drew (fun hS => ?_)
  generalize hW1 : w.drew = W1 at hS ⊢
  clear hW1
  clear HB
  have HB := Lib.hid hS
  refine takeY (i := 0) (some 5) (v := .int .u64 ((x : Nat) : Int)) rfl rfl (by kernel_rfl) (by kernel_rfl) (by kernel_rfl) (fun _ _ _ h => h) (by rfl) (fun w' hS => by go_simp) hS ?_
  simp only [Act.put, List.setIfInBounds_toArray, List.set_cons_zero, List.set_cons_succ]
  refine takeY (i := 1) (some 6) (v := .int .i64 (n : Int)) rfl rfl (by kernel_rfl) (by kernel_rfl) (by kernel_rfl) (fun _ _ _ h => h) (by rfl) (fun w' hS => by go_simp) hS ?_
  simp only [Act.put, List.setIfInBounds_toArray, List.set_cons_zero, List.set_cons_succ]
  refine takeY (i := 2) (some 7) (v := .int .u64 ((x / 2 ^ n : Nat) : Int)) rfl rfl (by kernel_rfl) (by kernel_rfl) (by kernel_rfl) (fun _ _ _ h => h) (by rfl) (fun w' hS => by exact run_shri _ _ _ _ _ _ rfl n (by omega) _ rfl rfl _) hS ?_
  simp only [Act.put, List.setIfInBounds_toArray, List.set_cons_zero, List.set_cons_succ]
  refine takeY (i := 3) (some 8) (v := .int .u64 ((x : Nat) : Int)) rfl rfl (by kernel_rfl) (by kernel_rfl) (by kernel_rfl) (fun _ _ _ h => h) (by rfl) (fun w' hS => by go_simp) hS ?_
  simp only [Act.put, List.setIfInBounds_toArray, List.set_cons_zero, List.set_cons_succ]
  refine takeY (i := 4) (some 9) (v := .int .i64 (n : Int)) rfl rfl (by kernel_rfl) (by kernel_rfl) (by kernel_rfl) (fun _ _ _ h => h) (by rfl) (fun w' hS => by go_simp) hS ?_
  simp only [Act.put, List.setIfInBounds_toArray, List.set_cons_zero, List.set_cons_succ]
  refine takeY (i := 5) (some 10) (v := .int .i64 ((32 - n : Nat) : Int)) rfl rfl (by kernel_rfl) (by kernel_rfl) (by kernel_rfl) (fun _ _ _ h => h) (by rfl) (fun w' hS => by exact run_sub64 _ _ _ _ _ _ rfl 32 (n : Int) _ rfl rfl (by omega) (by omega) _) hS ?_
  simp only [Act.put, List.setIfInBounds_toArray, List.set_cons_zero, List.set_cons_succ]
  refine takeY (i := 6) (some 11) (v := .int .u64 ((x * 2 ^ (32 - n) : Nat) : Int)) rfl rfl (by kernel_rfl) (by kernel_rfl) (by kernel_rfl) (fun _ _ _ h => h) (by rfl) (fun w' hS => by exact run_shli _ _ _ _ _ _ rfl (32 - n) (by omega) _ _ rfl rfl rfl (shl_64 HX.out (by omega)) _) hS ?_
  simp only [Act.put, List.setIfInBounds_toArray, List.set_cons_zero, List.set_cons_succ]
  refine takeY (i := 7) (some 12) (v := .int .u64 ((x * 2 ^ (32 - n) % 4294967296 : Nat) : Int)) rfl rfl (by kernel_rfl) (by kernel_rfl) (by kernel_rfl) (fun _ _ _ h => h) (by rfl) (fun w' hS => by exact run_remq _ _ _ _ _ rfl (fun _ => rfl) _ rfl _) hS ?_
  simp only [Act.put, List.setIfInBounds_toArray, List.set_cons_zero, List.set_cons_succ]
  refine takeY (i := 8) (some 13) (v := .int .u64 ((r : Nat) : Int)) rfl rfl (by kernel_rfl) (by kernel_rfl) (by kernel_rfl) (fun _ _ _ h => h) (by rfl) (fun w' hS => by exact run_addq _ _ _ _ _ _ rfl _ _ _ rfl rfl HRR.out (w64 HR.out) _) hS ?_
  simp only [Act.put, List.setIfInBounds_toArray, List.set_cons_zero, List.set_cons_succ]
  refine takeY (i := 9) (some 4) (v := .int .u64 ((r : Nat) : Int)) rfl rfl (by kernel_rfl) (by kernel_rfl) (by kernel_rfl) (fun _ _ _ h => h) (by rfl) (fun w' hS => by go_simp) hS ?_
  simp only [Act.put, List.setIfInBounds_toArray, List.set_cons_zero, List.set_cons_succ]
  clear hS
  refine wpAnyH_done (by kernel_rfl) ?_ _
  go_wp2_with fail
  go_ret
  exact ⟨rfl, HB.out⟩
set_option maxHeartbeats 4000000 in
set_option maxRecDepth 100000 in
theorem known_any (w : World) :
    Calls Tryd.prog 33 #[] w fun e w' => e = .returned (.agg (tabC rootN)) ∧ Below w.heap.size w w' := by
  go_enter Tryd.func33, Tryd.ntmps33
  have HB := Lib.hid (Below.refl w.heap.size w)
  obtain ⟨N1, hN1⟩ : ∃ N, w.heap.size = N := ⟨_, rfl⟩
  have HN1 := Lib.hid hN1
  clear hN1
  go_wp2_with (refine wpList_new (op := ⟨some 0, _, _, _, _, _⟩) rfl 76 rfl (tabC fun _ => 0) zero_tab N1 HN1.out ?_; intro w1 k1 b1 s1; refine Hid.out ?_)
  refine Lib.hid ?_
  have KR := Lib.hid k1
  clear k1
  have le_HB_N1 : w.heap.size ≤ N1 := by rw [← HN1.out]; exact HB.out.size
  have HBn := Lib.hid (HB.out.trans (b1.mono HB.out.size))
  clear HB
  have HB := HBn
  clear HBn
  clear b1 HN1
  go_wp2_with (refine wpList_v (op := ⟨some 1, _, _, _, _, _⟩) rfl _ (known_run _ _ rfl (fun _ => rfl) _) ?_; refine Hid.out ?_)
  refine Lib.hid ?_
  go_wp2_with (refine wpList_st rfl 76 (.tmp 0) (.tmp 1) rfl N1 0 rfl (.agg (tabC rootN)) (tabC rootN) rfl rfl (info_tabT _) (tab_one _) KR.out (tab_fit _ _) (C' := tabC rootN) (tab_all _ _) ?_; intro w9 q1; refine Hid.out ?_)
  refine Lib.hid ?_
  have HBn := Lib.hid (HB.out.trans (q1.2.1 _ (by omega)))
  clear HB
  have HB := HBn
  clear HBn
  have KRn : Hid (Blk 76 w9 N1 (tabC rootN)) := Lib.hid q1.1
  clear KR
  have KR := KRn
  clear KRn q1
  go_wp2_with fail
  exact bodyPost_ret (results_1 rfl _ _ N1 (tabC rootN) Tryd.underlying76 rfl (info_tabT _) rfl KR.out) rfl ⟨rfl, HB.out⟩
theorem right2 (x : Nat) (w : World) (hx : W32 x) :
    Calls Tryd.prog 34 #[.int .u64 ((x : Nat) : Int), .int .i64 2] w fun e w' => e = .returned (.int .u64 ((rotN x 2 : Nat) : Int)) ∧ Below w.heap.size w w' := right_w x 2 w hx (by omega) (by omega)
theorem right6 (x : Nat) (w : World) (hx : W32 x) :
    Calls Tryd.prog 34 #[.int .u64 ((x : Nat) : Int), .int .i64 6] w fun e w' => e = .returned (.int .u64 ((rotN x 6 : Nat) : Int)) ∧ Below w.heap.size w w' := right_w x 6 w hx (by omega) (by omega)
theorem right7 (x : Nat) (w : World) (hx : W32 x) :
    Calls Tryd.prog 34 #[.int .u64 ((x : Nat) : Int), .int .i64 7] w fun e w' => e = .returned (.int .u64 ((rotN x 7 : Nat) : Int)) ∧ Below w.heap.size w w' := right_w x 7 w hx (by omega) (by omega)
theorem right11 (x : Nat) (w : World) (hx : W32 x) :
    Calls Tryd.prog 34 #[.int .u64 ((x : Nat) : Int), .int .i64 11] w fun e w' => e = .returned (.int .u64 ((rotN x 11 : Nat) : Int)) ∧ Below w.heap.size w w' := right_w x 11 w hx (by omega) (by omega)
theorem right13 (x : Nat) (w : World) (hx : W32 x) :
    Calls Tryd.prog 34 #[.int .u64 ((x : Nat) : Int), .int .i64 13] w fun e w' => e = .returned (.int .u64 ((rotN x 13 : Nat) : Int)) ∧ Below w.heap.size w w' := right_w x 13 w hx (by omega) (by omega)
theorem right17 (x : Nat) (w : World) (hx : W32 x) :
    Calls Tryd.prog 34 #[.int .u64 ((x : Nat) : Int), .int .i64 17] w fun e w' => e = .returned (.int .u64 ((rotN x 17 : Nat) : Int)) ∧ Below w.heap.size w w' := right_w x 17 w hx (by omega) (by omega)
theorem right18 (x : Nat) (w : World) (hx : W32 x) :
    Calls Tryd.prog 34 #[.int .u64 ((x : Nat) : Int), .int .i64 18] w fun e w' => e = .returned (.int .u64 ((rotN x 18 : Nat) : Int)) ∧ Below w.heap.size w w' := right_w x 18 w hx (by omega) (by omega)
theorem right19 (x : Nat) (w : World) (hx : W32 x) :
    Calls Tryd.prog 34 #[.int .u64 ((x : Nat) : Int), .int .i64 19] w fun e w' => e = .returned (.int .u64 ((rotN x 19 : Nat) : Int)) ∧ Below w.heap.size w w' := right_w x 19 w hx (by omega) (by omega)
theorem right22 (x : Nat) (w : World) (hx : W32 x) :
    Calls Tryd.prog 34 #[.int .u64 ((x : Nat) : Int), .int .i64 22] w fun e w' => e = .returned (.int .u64 ((rotN x 22 : Nat) : Int)) ∧ Below w.heap.size w w' := right_w x 22 w hx (by omega) (by omega)
theorem right25 (x : Nat) (w : World) (hx : W32 x) :
    Calls Tryd.prog 34 #[.int .u64 ((x : Nat) : Int), .int .i64 25] w fun e w' => e = .returned (.int .u64 ((rotN x 25 : Nat) : Int)) ∧ Below w.heap.size w w' := right_w x 25 w hx (by omega) (by omega)
end Go.Proofs.YtccoicjmmeoggaaDoor
