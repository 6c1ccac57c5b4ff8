/- The bytes of prefixes are read as these. Each theorem states its conditions. -/
import Derived.Test.YtplfilghhgdffaaGetR
import Derived.Test.YtplfilghhgdffaaRAwake
namespace Go.Proofs.Ytplfilghhgdffaa
open Go.RowKit
set_option linter.unusedVariables false

theorem flatR_at (L : Nat → Rc) (m k i : Nat) (hk : k < m) (hi : i < (recV (L k)).length) : (flatR L m)[(flatR L k).length + i]? = (recV (L k))[i]? := by
  induction m with
  | zero => omega
  | succ m ih =>
    simp only [flatR]
    by_cases e : k = m
    · subst e
      rw [List.getElem?_append_right (by omega), Nat.add_sub_cancel_left]
    · have h1 := ih (by omega)
      have h2 : (flatR L k).length + i < (flatR L m).length := by
        rcases Nat.lt_or_ge ((flatR L k).length + i) (flatR L m).length with h | h
        · exact h
        · rw [List.getElem?_eq_none h, List.getElem?_eq_getElem hi] at h1; cases h1
      rw [List.getElem?_append_left h2]
      exact h1
/-- one that is right, and can stand there -/
def RG (fam : Nat) (r : Rc) : Prop := RGood fam r ∧ RcOk r
theorem zL_flat {fam : Nat} {L : Nat → Rc} {m : Nat} (h : ∀ k, k < m → RG fam (L k)) (k i : Nat) (hk : k < m) (v : Int) (hv : (recV (L k))[i]? = some (.int .u8 v)) : zL (flatR L m) ((flatR L k).length + i) = v := by
  have hi : i < (recV (L k)).length := by
    rcases Nat.lt_or_ge i (recV (L k)).length with h | h
    · exact h
    · rw [List.getElem?_eq_none h] at hv; cases hv
  have := flatR_at L m k i hk hi
  unfold zL
  rw [this, hv]
theorem recV_m (r : Rc) (i : Nat) (h : i < 4) : (recV r)[i]? = some (.int .u8 (putZ r.me 4 i)) := by
  unfold recV
  rw [List.append_assoc, List.getElem?_append_left (by rw [vals_len]; exact h), vals_at _ _ _ h]
theorem recV_l (r : Rc) (i : Nat) (h : i < (lenL r).length) : (recV r)[4 + i]? = (lenL r)[i]? := by
  unfold recV
  rw [List.append_assoc, List.getElem?_append_right (by rw [vals_len]; omega), vals_len, Nat.add_sub_cancel_left, List.getElem?_append_left h]
theorem recV_a (r : Rc) (i : Nat) (h : i < nd r.len) : (recV r)[4 + (lenL r).length + i]? = some (.int .u8 (r.z i)) := by
  unfold recV
  rw [List.append_assoc, List.getElem?_append_right (by rw [vals_len]; omega), vals_len, List.getElem?_append_right (by omega), show 4 + (lenL r).length + i - 4 - (lenL r).length = i by omega, vals_at _ _ _ h]
theorem recV_length (r : Rc) : (recV r).length = 4 + (lenL r).length + nd r.len := by unfold recV; simp only [List.length_append, vals_len]
theorem lenL_hd (fam : Nat) (hf : fam = 4 ∨ fam = 6) (r : Rc) (h : r.fam = fam) : 4 + (lenL r).length = rHd fam := by
  rcases hf with rfl | rfl
  · unfold lenL; rw [if_pos (show r.fam = 4 from h)]; rfl
  · unfold lenL; rw [if_neg (by rw [h]; decide)]; rfl
theorem first_congr (z z' : Nat → Int) (l : Nat) (h : ∀ j, j < nd l → z j = z' j) : ∀ j, firstZ z l j = firstZ z' l j := by
  intro j
  have hn : nd l = (l + 7) / 8 := by unfold nd; omega
  unfold firstZ
  by_cases h1 : 8 * (j + 1) ≤ l
  · rw [if_pos h1, if_pos h1, h j (by omega)]
  · rw [if_neg h1, if_neg h1]
    by_cases h2 : l ≤ 8 * j
    · rw [if_pos h2, if_pos h2]
    · rw [if_neg h2, if_neg h2, h j (by omega)]
theorem rcC_congr (r r' : Rc) (h1 : r.fam = r'.fam) (h2 : r.len = r'.len) (h3 : ∀ j, j < 16 → r.z j = r'.z j) (h4 : r.me = r'.me) (h5 : r.dn = r'.dn) : rcC r = rcC r' := by
  unfold rcC
  simp only [h1, h2, h4, h5, h3 0 (by omega), h3 1 (by omega), h3 2 (by omega), h3 3 (by omega), h3 4 (by omega), h3 5 (by omega), h3 6 (by omega), h3 7 (by omega), h3 8 (by omega), h3 9 (by omega), h3 10 (by omega), h3 11 (by omega), h3 12 (by omega), h3 13 (by omega), h3 14 (by omega), h3 15 (by omega)]

/-- what stands at a place where a prefix's bytes begin -/
theorem at_rec (fam : Nat) (hf : fam = 4 ∨ fam = 6) (z : Nat → Int) (p : Nat) (r : Rc) (hg : RG fam r) (hz : ∀ i v, (recV r)[i]? = some (.int .u8 v) → z (p + i) = v) :
    Sized fam (rL fam z p) ∧ rNx fam z p = p + (recV r).length ∧ rC fam z p = rcC r := by
  obtain ⟨⟨hfam, hform⟩, hok⟩ := hg
  have hsz := hform.1
  have hlb : 0 ≤ r.len ∧ r.len ≤ 128 := by rcases hsz with ⟨_, h1, h2⟩ | ⟨_, h1, h2⟩ <;> exact ⟨h1, by omega⟩
  have hlen : r.len = ((r.len.toNat : Nat) : Int) := (Int.toNat_of_nonneg hlb.1).symm
  have hhd := lenL_hd fam hf r hfam
  have key : rL fam z p = r.len.toNat ∧ rMo fam z p = false ∧ decide (128 ≤ (z (p + 4)).toNat) = r.dn := by
    rcases hf with rfl | rfl
    · have h4 : lenL r = [.int .u8 (flagI r.dn + r.len)] := by unfold lenL; rw [if_pos (show r.fam = 4 from hfam)]
      have e := hz 4 (flagI r.dn + r.len) (by have := recV_l r 0 (by rw [h4]; simp); rw [h4] at this; exact this)
      have hl32 : r.len ≤ 32 := by
        rcases hsz with ⟨_, _, h2⟩ | ⟨h0, _, _⟩
        · exact h2
        · rw [hfam] at h0; exact absurd h0 (by decide)
      unfold rL rMo flagI at *
      rw [if_pos rfl, if_pos rfl, e]
      cases r.dn
      · simp only [Bool.false_eq_true, if_false]
        refine ⟨by omega, decide_eq_false (by omega), decide_eq_false (by omega)⟩
      · simp only [if_true]
        refine ⟨by omega, decide_eq_false (by omega), decide_eq_true (by omega)⟩
    · have h6 : lenL r = [.int .u8 (flagI r.dn), .int .u8 r.len] := by unfold lenL; rw [if_neg (by rw [hfam]; decide)]
      have e := hz 4 (flagI r.dn) (by have := recV_l r 0 (by rw [h6]; simp); rw [h6] at this; exact this)
      have e5 := hz 5 r.len (by have := recV_l r 1 (by rw [h6]; simp); rw [h6] at this; exact this)
      unfold rL rMo flagI at *
      rw [if_neg (by decide), if_neg (by decide), e, e5]
      cases r.dn
      · simp only [Bool.false_eq_true, if_false]
        exact ⟨trivial, by decide, by decide⟩
      · simp only [if_true]
        exact ⟨trivial, by decide, by decide⟩
  obtain ⟨k1, k2, k3⟩ := key
  have hza : ∀ j, j < nd r.len → z (p + rHd fam + j) = r.z j := fun j hj => by
    rw [← hhd, Nat.add_assoc]
    exact hz _ _ (recV_a r j hj)
  refine ⟨by rw [k1, ← hlen, ← hfam]; exact hsz, ?_, ?_⟩
  · unfold rNx
    rw [k2, k1, recV_length, ← hhd, ← hlen]
    simp only [Bool.false_eq_true, if_false]
    omega
  · unfold rC rRc
    refine rcC_congr _ _ hfam.symm (by show ((rL fam z p : Nat) : Int) = _; rw [k1, ← hlen]) (fun j hj => ?_) ?_ k3
    · show firstZ (fun j => z (p + rHd fam + j)) (rL fam z p) j = r.z j
      rw [k1, ← hform.2 j hj]
      refine first_congr _ _ _ (fun i hi => ?_) j
      rw [← hlen] at hi
      exact hza i hi
    · show (numZ (fun j => z (p + j)) 0 4).toNat = r.me
      have e : numZ (fun j => z (p + j)) 0 4 = numZ (putZ r.me 4) 0 4 := by
        have hj : ∀ j, j < 4 → z (p + j) = putZ r.me 4 j := fun j hj => hz j _ (recV_m r j hj)
        simp only [numZ, Nat.zero_add, hj 0 (by omega), hj 1 (by omega), hj 2 (by omega), hj 3 (by omega)]
      rw [e, num_put, put_fits _ _ (qN4 _ hok.2.2)]
      simp
section
variable {fam : Nat} {L : Nat → Rc} {m : Nat}
theorem pos_flat (hf : fam = 4 ∨ fam = 6) (h : ∀ k, k < m → RG fam (L k)) (k : Nat) (hk : k ≤ m) : pos (rNx fam (zL (flatR L m))) k = (flatR L k).length := by
  induction k with
  | zero => rfl
  | succ k ih =>
    show rNx fam (zL (flatR L m)) (pos (rNx fam (zL (flatR L m))) k) = _
    rw [ih (by omega), (at_rec fam hf _ _ (L k) (h k (by omega)) (fun i v hv => zL_flat h k i (by omega) v hv)).2.1]
    simp only [flatR, List.length_append]
theorem flat_mono (k : Nat) (hk : k ≤ m) : (flatR L k).length ≤ (flatR L m).length := by
  induction m with
  | zero => obtain rfl : k = 0 := by omega
            exact Nat.le_refl _
  | succ m ih =>
    by_cases e : k = m + 1
    · subst e; exact Nat.le_refl _
    · have := ih (by omega)
      simp only [flatR, List.length_append]
      omega
theorem lends_flat (hf : fam = 4 ∨ fam = 6) (h : ∀ k, k < m → RG fam (L k)) : LEnds (rNx fam (zL (flatR L m))) (rOk fam (zL (flatR L m)) (flatR L m).length) (flatR L m).length m := by
  refine ⟨fun k hk => ?_, .inl (pos_flat hf h m (Nat.le_refl _))⟩
  have h1 := at_rec fam hf _ _ (L k) (h k hk) (fun i v hv => zL_flat h k i hk v hv)
  have h2 : (flatR L (k + 1)).length ≤ (flatR L m).length := flat_mono (k + 1) (by omega)
  have h3 : (flatR L (k + 1)).length = (flatR L k).length + (recV (L k)).length := by simp only [flatR, List.length_append]
  have h4 := recV_length (L k)
  rw [pos_flat hf h k (by omega)]
  exact ⟨by omega, h1.1, by rw [h1.2.1]; omega⟩
theorem rC_flat (hf : fam = 4 ∨ fam = 6) (h : ∀ k, k < m → RG fam (L k)) (k : Nat) (hk : k < m) : rC fam (zL (flatR L m)) (pos (rNx fam (zL (flatR L m))) k) = rcA L k := by
  rw [pos_flat hf h k (by omega)]
  exact (at_rec fam hf _ _ (L k) (h k hk) (fun i v hv => zL_flat h k i hk v hv)).2.2
end
end Go.Proofs.Ytplfilghhgdffaa
