/- The bytes of a packet, read again. Each theorem states its conditions. -/
import Derived.Test.YtigkmcbkckfhbaaDRd
import Derived.Test.YtigkmcbkckfhbaaDPlain
import Derived.Test.YtigkmcbkckfhbaaTJs
import Derived.Test.YtigkmcbkckfhbaaLaid
import Derived.Test.YtigkmcbkckfhbaaDOpn
namespace Go.Proofs.Ytigkmcbkckfhbaa
open Go.RowKit
set_option linter.unusedVariables false

theorem accZ_old (p : Pd) (W q k k' : Nat) (h : k ≤ k') : ∀ j, j < accN q k → accZ p W q k' j = accZ p W q k j := by
  induction k' with
  | zero => obtain rfl : k = 0 := by omega
            intro j _; rfl
  | succ k' ih =>
    by_cases e : k = k' + 1
    · subst e; intro j _; rfl
    · intro j hj
      have := accN_mono q k k' (by omega)
      simp only [accZ]
      unfold cat
      rw [if_pos (by omega)]
      exact ih (by omega) j hj
theorem acc_at (p : Pd) (W q i j : Nat) (hi : i < (flC q).length) (hj : j < fsz (fAt q i)) : accZ p W q (flC q).length (accN q i + j) = fZ p W (fAt q i) j := by
  rw [accZ_old p W q (i + 1) _ (by omega) _ (by simp only [accN]; omega)]
  simp only [accZ]
  unfold cat
  rw [if_neg (by omega), Nat.add_sub_cancel_left]
theorem wZ_lo (p : Pd) (q : Nat) (L : Nat → It) (j : Nat) (h : j < hdN q) : wZ p q L j = accZ p (hdN q + sz L p.m) q (flC q).length j := by
  unfold wZ cat; rw [if_pos h]
theorem wZ_hi (p : Pd) (q : Nat) (L : Nat → It) (j : Nat) : wZ p q L (hdN q + j) = J L p.m j := by
  unfold wZ cat; rw [if_neg (by omega), Nat.add_sub_cancel_left]
theorem pdZ_far (p : Pd) (q : Nat) (L : Nat → It) (j : Nat) (h : q = 2 → j ≠ 24 ∧ j ≠ 25) : pdZ p q L j = wZ p q L j := by
  unfold pdZ
  by_cases e : q = 2
  · rw [if_pos e]
    unfold sgZ
    rw [if_neg (h e).1, if_neg (h e).2]
  · rw [if_neg e]
theorem pd_field (p : Pd) (q : Nat) (L : Nat → It) (i j : Nat) (hi : i < (flC q).length) (hj : j < fsz (fAt q i)) (h11 : fAt q i ≠ 11) : pdZ p q L (accN q i + j) = fZ p (hdN q + sz L p.m) (fAt q i) j := by
  have hh := accN_hd q i hi
  rw [pdZ_far, wZ_lo _ _ _ _ (by omega), acc_at _ _ _ _ _ hi hj]
  intro e
  subst e
  have hi' : i < 6 := hi
  rcases (by omega : i = 0 ∨ i = 1 ∨ i = 2 ∨ i = 3 ∨ i = 4 ∨ i = 5) with rfl | rfl | rfl | rfl | rfl | rfl
  · have : j < 2 := hj
    show 8 + j ≠ 24 ∧ 8 + j ≠ 25; omega
  · have : j < 2 := hj
    show 10 + j ≠ 24 ∧ 10 + j ≠ 25; omega
  · have : j < 8 := hj
    show 12 + j ≠ 24 ∧ 12 + j ≠ 25; omega
  · have : j < 4 := hj
    show 20 + j ≠ 24 ∧ 20 + j ≠ 25; omega
  · exact absurd rfl h11
  · have : j < 1 := hj
    show 26 + j ≠ 24 ∧ 26 + j ≠ 25; omega
theorem pd_head (p : Pd) (q : Nat) (L : Nat → It) (hq : q ≤ 4) (j : Nat) (hj : j < 8) : pdZ p q L j = headZ p.kd (hdN q) j := by
  have hh := hdN_bd q hq
  rw [pdZ_far _ _ _ _ (fun _ => by omega), wZ_lo _ _ _ _ (by omega), accZ_old p _ q 0 _ (Nat.zero_le _) j hj]
  rfl
theorem pd_tail (p : Pd) (q : Nat) (L : Nat → It) (hq : q ≤ 4) (j : Nat) : pdZ p q L (hdN q + j) = J L p.m j := by
  rw [pdZ_far, wZ_hi]
  intro e
  subst e
  show 27 + j ≠ 24 ∧ 27 + j ≠ 25
  omega
theorem told_pd (p : Pd) (q : Nat) (L : Nat → It) (hn : hdN q + sz L p.m ≤ 1492) (i : Nat) (hi : i < (flC q).length) (h4 : fAt q i = 4) : toldN q (pdZ p q L) i = hdN q + sz L p.m := by
  unfold toldN
  rw [numZ_congr _ (putZ (hdN q + sz L p.m) 2) 2 (fun j hj => by rw [pd_field p q L i j hi (by rw [h4]; exact hj) (by rw [h4]; decide), h4]; rfl), num_put, Int.toNat_natCast]
  exact Nat.mod_eq_of_lt (by omega)
/-- each class tells its length -/
theorem told_at (q : Nat) (hq : q ≤ 4) : ∃ i, i < (flC q).length ∧ fAt q i = 4 := by
  rcases (by omega : q = 0 ∨ q = 1 ∨ q = 2 ∨ q = 3 ∨ q = 4) with rfl | rfl | rfl | rfl | rfl
  · exact ⟨3, by decide, rfl⟩
  · exact ⟨3, by decide, rfl⟩
  · exact ⟨0, by decide, rfl⟩
  · exact ⟨0, by decide, rfl⟩
  · exact ⟨0, by decide, rfl⟩
theorem form_pd (p : Pd) (L : Nat → It) (hq : cls p.kd ≤ 4) (hn : hdN (cls p.kd) + sz L p.m ≤ 1492) (hk : by1 p.kd) (hzb : ∀ j, 0 ≤ pdZ p (cls p.kd) L j ∧ pdZ p (cls p.kd) L j ≤ 255) : FormOk (pdZ p (cls p.kd) L) (hdN (cls p.kd) + sz L p.m) := by
  have hh := hdN_bd _ hq
  have h4 : pdZ p (cls p.kd) L 4 = p.kd := pd_head p _ L hq 4 (by omega)
  refine ⟨by omega, by rw [h4]; exact hq, by rw [h4]; omega, ?_, ?_⟩
  · rw [h4, eqB_iff hzb (headZ_bd _ _ hk (by omega))]
    exact fun j hj => pd_head p _ L hq j hj
  · rw [h4]
    exact fun i hi he => told_pd p _ L hn i hi he
/-- bytes whose told length is another one are of no form -/
theorem form_not (p : Pd) (L : Nat → It) (z : Nat → Int) (n : Nat) (hq : cls p.kd ≤ 4) (hn : hdN (cls p.kd) + sz L p.m ≤ 1492) (hz : ∀ j, j < hdN (cls p.kd) → j < n → z j = pdZ p (cls p.kd) L j) (hne : n ≠ hdN (cls p.kd) + sz L p.m) : ¬ FormOk z n := by
  intro h
  obtain ⟨h1, h2, h3, h4, h5⟩ := h
  have hh := hdN_bd _ hq
  have e4 : z 4 = p.kd := by rw [hz 4 (by omega) (by omega)]; exact pd_head p _ L hq 4 (by omega)
  rw [e4] at h2 h3 h4 h5
  obtain ⟨i, hi, hf⟩ := told_at _ hq
  have h6 := h5 i hi hf
  have hd := accN_hd _ i hi
  rw [hf] at hd
  have h7 := told_pd p _ L hn i hi hf
  unfold toldN at h6 h7
  rw [numZ_congr _ (fun j => pdZ p (cls p.kd) L (accN (cls p.kd) i + j)) 2 (fun j hj => hz _ (by have : fsz 4 = 2 := rfl; omega) (by have : fsz 4 = 2 := rfl; omega))] at h6
  omega
/-- the same in all cells but the TLVs -/
def PdEq (p p' : Pd) : Prop := (p.kd = p'.kd ∧ p.ci = p'.ci ∧ (∀ j, j < 7 → p.so j = p'.so j) ∧ p.ho = p'.ho ∧ p.nu = p'.nu ∧ p.pr = p'.pr ∧ (∀ j, j < 7 → p.la j = p'.la j)) ∧
  p.li = p'.li ∧ (∀ j, j < 8 → p.id j = p'.id j) ∧ p.sq = p'.sq ∧ p.bi = p'.bi ∧ (∀ j, j < 8 → p.st j = p'.st j) ∧ ∀ j, j < 8 → p.en j = p'.en j
theorem pdC_ext {p p' : Pd} (h : PdEq p p') (A : Option Addr) (m c : Nat) : pdC (withT p A m c) = pdC (withT p' A m c) := by
  obtain ⟨⟨h1, h2, h3, h4, h5, h6, h7⟩, h8, h9, h10, h11, h12, h13⟩ := h
  unfold pdC withT
  simp only [h1, h2, h4, h5, h6, h8, h10, h11, h3 0 (by omega), h3 1 (by omega), h3 2 (by omega), h3 3 (by omega), h3 4 (by omega), h3 5 (by omega), h3 6 (by omega),
    h7 0 (by omega), h7 1 (by omega), h7 2 (by omega), h7 3 (by omega), h7 4 (by omega), h7 5 (by omega), h7 6 (by omega)]
  simp only [h9 0 (by omega), h9 1 (by omega), h9 2 (by omega), h9 3 (by omega), h9 4 (by omega), h9 5 (by omega), h9 6 (by omega), h9 7 (by omega), h12 0 (by omega), h12 1 (by omega), h12 2 (by omega), h12 3 (by omega), h12 4 (by omega), h12 5 (by omega), h12 6 (by omega), h12 7 (by omega), h13 0 (by omega), h13 1 (by omega), h13 2 (by omega), h13 3 (by omega), h13 4 (by omega), h13 5 (by omega), h13 6 (by omega), h13 7 (by omega)]
theorem num_field (p : Pd) (q : Nat) (L : Nat → It) (i k N : Nat) (hi : i < (flC q).length) (hk : fsz (fAt q i) = k) (h11 : fAt q i ≠ 11) (hN : fZ p (hdN q + sz L p.m) (fAt q i) = putZ N k) (hf : N < 256 ^ k) : (numZ (fun j => pdZ p q L (accN q i + j)) 0 k).toNat = N := by
  rw [numZ_congr _ (putZ N k) k (fun j hj => by rw [pd_field p q L i j hi (by omega) h11, hN]), num_put, Int.toNat_natCast]
  exact Nat.mod_eq_of_lt hf
theorem fitB_eq {p p' : Pd} (f : Nat) (h : p.ci = p'.ci ∧ p.ho = p'.ho ∧ p.li = p'.li ∧ p.pr = p'.pr) : fitB p f = fitB p' f := by
  obtain ⟨h1, h2, h3, h4⟩ := h
  unfold fitB
  split <;> simp only [h1, h2, h3, h4]
theorem rd_eq0 (p : Pd) (L : Nat → It) (hp : PdOk p) (hk : cls p.kd = 0) (hft : fitP p 0 = true) : PdEq (rdP 0 (pdZ p 0 L)) (pl0 p) := by
  have hfit := fun i hi => fitP_at hft i hi
  have e_kd : (rdP 0 (pdZ p 0 L)).kd = p.kd := (rdP_kd _ _).trans (pd_head p 0 L (by decide) 4 (by omega))
  have e_ci : (rdP 0 (pdZ p 0 L)).ci = p.ci := pd_field p 0 L 0 0 (by decide) (by decide) (by decide)
  have e_so : ∀ j, j < 7 → (rdP 0 (pdZ p 0 L)).so j = cutSys p.so j := fun j hj => by
    show mixS (fun j => pdZ p 0 L (accN 0 1 + j)) z0 j = cutSys p.so j
    unfold mixS
    by_cases h6 : j < 6
    · rw [if_pos h6]
      exact pd_field p 0 L 1 j (by decide) h6 (by decide)
    · rw [if_neg h6]
      unfold cutSys
      rw [if_neg h6]
      rfl
  have e_ho : (rdP 0 (pdZ p 0 L)).ho = p.ho := by
    have hb := of_decide_eq_true (hfit 2 (by decide))
    have h2 : 0 ≤ p.ho ∧ p.ho ≤ 65535 := hb
    show (((numZ (fun j => pdZ p 0 L (accN 0 2 + j)) 0 2).toNat : Nat) : Int) = p.ho
    rw [num_field p 0 L 2 2 p.ho.toNat (by decide) rfl (by decide) rfl (by omega)]
    omega
  have e_nu : (rdP 0 (pdZ p 0 L)).nu = p.nu := pd_field p 0 L 4 0 (by decide) (by decide) (by decide)
  exact ⟨⟨e_kd, e_ci, e_so, e_ho, e_nu, rfl, fun _ _ => rfl⟩, rfl, fun _ _ => rfl, rfl, rfl, fun _ _ => rfl, fun _ _ => rfl⟩
theorem rd_eq1 (p : Pd) (L : Nat → It) (hp : PdOk p) (hk : cls p.kd = 1) (hft : fitP p 1 = true) : PdEq (rdP 1 (pdZ p 1 L)) (pl1 p) := by
  have hfit := fun i hi => fitP_at hft i hi
  have e_kd : (rdP 1 (pdZ p 1 L)).kd = p.kd := (rdP_kd _ _).trans (pd_head p 1 L (by decide) 4 (by omega))
  have e_ci : (rdP 1 (pdZ p 1 L)).ci = p.ci := pd_field p 1 L 0 0 (by decide) (by decide) (by decide)
  have e_so : ∀ j, j < 7 → (rdP 1 (pdZ p 1 L)).so j = cutSys p.so j := fun j hj => by
    show mixS (fun j => pdZ p 1 L (accN 1 1 + j)) z0 j = cutSys p.so j
    unfold mixS
    by_cases h6 : j < 6
    · rw [if_pos h6]
      exact pd_field p 1 L 1 j (by decide) h6 (by decide)
    · rw [if_neg h6]
      unfold cutSys
      rw [if_neg h6]
      rfl
  have e_ho : (rdP 1 (pdZ p 1 L)).ho = p.ho := by
    have hb := of_decide_eq_true (hfit 2 (by decide))
    have h2 : 0 ≤ p.ho ∧ p.ho ≤ 65535 := hb
    show (((numZ (fun j => pdZ p 1 L (accN 1 2 + j)) 0 2).toNat : Nat) : Int) = p.ho
    rw [num_field p 1 L 2 2 p.ho.toNat (by decide) rfl (by decide) rfl (by omega)]
    omega
  have e_pr : (rdP 1 (pdZ p 1 L)).pr = p.pr := pd_field p 1 L 4 0 (by decide) (by decide) (by decide)
  have e_la : ∀ j, j < 7 → (rdP 1 (pdZ p 1 L)).la j = p.la j := fun j hj => pd_field p 1 L 5 j (by decide) hj (by decide)
  exact ⟨⟨e_kd, e_ci, e_so, e_ho, rfl, e_pr, e_la⟩, rfl, fun _ _ => rfl, rfl, rfl, fun _ _ => rfl, fun _ _ => rfl⟩
theorem rd_eq2 (p : Pd) (L : Nat → It) (hp : PdOk p) (hk : cls p.kd = 2) (hft : fitP p 2 = true) : PdEq (rdP 2 (pdZ p 2 L)) (pl2 p) := by
  have hfit := fun i hi => fitP_at hft i hi
  have e_kd : (rdP 2 (pdZ p 2 L)).kd = p.kd := (rdP_kd _ _).trans (pd_head p 2 L (by decide) 4 (by omega))
  have e_li : (rdP 2 (pdZ p 2 L)).li = p.li := by
    have hb := of_decide_eq_true (hfit 1 (by decide))
    have h2 : 0 ≤ p.li ∧ p.li ≤ 65535 := hb
    show (((numZ (fun j => pdZ p 2 L (accN 2 1 + j)) 0 2).toNat : Nat) : Int) = p.li
    rw [num_field p 2 L 1 2 p.li.toNat (by decide) rfl (by decide) rfl (by omega)]
    omega
  have e_id : ∀ j, j < 8 → (rdP 2 (pdZ p 2 L)).id j = p.id j := fun j hj => pd_field p 2 L 2 j (by decide) hj (by decide)
  have e_sq : (rdP 2 (pdZ p 2 L)).sq = p.sq := by
    show (numZ (fun j => pdZ p 2 L (accN 2 3 + j)) 0 4).toNat = p.sq
    exact num_field p 2 L 3 4 p.sq (by decide) rfl (by decide) rfl (by have := hp.2.2.2.1; omega)
  have e_bi : (rdP 2 (pdZ p 2 L)).bi = p.bi := pd_field p 2 L 5 0 (by decide) (by decide) (by decide)
  exact ⟨⟨e_kd, rfl, fun _ _ => rfl, rfl, rfl, rfl, fun _ _ => rfl⟩, e_li, e_id, e_sq, e_bi, fun _ _ => rfl, fun _ _ => rfl⟩
theorem rd_eq3 (p : Pd) (L : Nat → It) (hp : PdOk p) (hk : cls p.kd = 3) (hft : fitP p 3 = true) : PdEq (rdP 3 (pdZ p 3 L)) (pl3 p) := by
  have hfit := fun i hi => fitP_at hft i hi
  have e_kd : (rdP 3 (pdZ p 3 L)).kd = p.kd := (rdP_kd _ _).trans (pd_head p 3 L (by decide) 4 (by omega))
  have e_so : ∀ j, j < 7 → (rdP 3 (pdZ p 3 L)).so j = p.so j := fun j hj => pd_field p 3 L 1 j (by decide) hj (by decide)
  have e_st : ∀ j, j < 8 → (rdP 3 (pdZ p 3 L)).st j = p.st j := fun j hj => pd_field p 3 L 2 j (by decide) hj (by decide)
  have e_en : ∀ j, j < 8 → (rdP 3 (pdZ p 3 L)).en j = p.en j := fun j hj => pd_field p 3 L 3 j (by decide) hj (by decide)
  exact ⟨⟨e_kd, rfl, e_so, rfl, rfl, rfl, fun _ _ => rfl⟩, rfl, fun _ _ => rfl, rfl, rfl, e_st, e_en⟩
theorem rd_eq4 (p : Pd) (L : Nat → It) (hp : PdOk p) (hk : cls p.kd = 4) (hft : fitP p 4 = true) : PdEq (rdP 4 (pdZ p 4 L)) (pl4 p) := by
  have hfit := fun i hi => fitP_at hft i hi
  have e_kd : (rdP 4 (pdZ p 4 L)).kd = p.kd := (rdP_kd _ _).trans (pd_head p 4 L (by decide) 4 (by omega))
  have e_so : ∀ j, j < 7 → (rdP 4 (pdZ p 4 L)).so j = p.so j := fun j hj => pd_field p 4 L 1 j (by decide) hj (by decide)
  exact ⟨⟨e_kd, rfl, e_so, rfl, rfl, rfl, fun _ _ => rfl⟩, rfl, fun _ _ => rfl, rfl, rfl, fun _ _ => rfl, fun _ _ => rfl⟩
/-- Plain, by the class -/
def plQ (q : Nat) (p : Pd) : Pd := if q = 0 then pl0 p else if q = 1 then pl1 p else if q = 2 then pl2 p else if q = 3 then pl3 p else pl4 p
theorem rd_eq (p : Pd) (L : Nat → It) (hp : PdOk p) (q : Nat) (hk : cls p.kd = q) (hq : q ≤ 4) (hft : fitP p q = true) : PdEq (rdP q (pdZ p q L)) (plQ q p) := by
  rcases (by omega : q = 0 ∨ q = 1 ∨ q = 2 ∨ q = 3 ∨ q = 4) with rfl | rfl | rfl | rfl | rfl
  · exact rd_eq0 p L hp hk hft
  · exact rd_eq1 p L hp hk hft
  · exact rd_eq2 p L hp hk hft
  · exact rd_eq3 p L hp hk hft
  · exact rd_eq4 p L hp hk hft
theorem fit_plQ (p : Pd) (q : Nat) (hq : q ≤ 4) : fitP (plQ q p) q = fitP p q := by
  refine fitsTo_congr _ fun i hi => ?_
  rcases (by omega : q = 0 ∨ q = 1 ∨ q = 2 ∨ q = 3 ∨ q = 4) with rfl | rfl | rfl | rfl | rfl
  · have hi : i < 5 := hi
    rcases (by omega : i = 0 ∨ i = 1 ∨ i = 2 ∨ i = 3 ∨ i = 4) with rfl | rfl | rfl | rfl | rfl <;> rfl
  · have hi : i < 6 := hi
    rcases (by omega : i = 0 ∨ i = 1 ∨ i = 2 ∨ i = 3 ∨ i = 4 ∨ i = 5) with rfl | rfl | rfl | rfl | rfl | rfl <;> rfl
  · have hi : i < 6 := hi
    rcases (by omega : i = 0 ∨ i = 1 ∨ i = 2 ∨ i = 3 ∨ i = 4 ∨ i = 5) with rfl | rfl | rfl | rfl | rfl | rfl <;> rfl
  · have hi : i < 4 := hi
    rcases (by omega : i = 0 ∨ i = 1 ∨ i = 2 ∨ i = 3) with rfl | rfl | rfl | rfl <;> rfl
  · have hi : i < 2 := hi
    rcases (by omega : i = 0 ∨ i = 1) with rfl | rfl <;> rfl
theorem fit_rd (p : Pd) (L : Nat → It) (hp : PdOk p) (q : Nat) (hk : cls p.kd = q) (hq : q ≤ 4) (hft : fitP p q = true) : fitP (rdP q (pdZ p q L)) q = true := by
  have h := rd_eq p L hp q hk hq hft
  rw [← hft, ← fit_plQ p q hq]
  exact fitsTo_congr _ fun i _ => fitB_eq _ ⟨h.1.2.1, h.1.2.2.2.1, h.2.1, h.1.2.2.2.2.2.1⟩
theorem pos_congr {z z' : Nat → Int} {n : Nat} (h : ∀ j, j < n → z j = z' j) : ∀ k, pos z' k ≤ n → (∀ i, i < k → pos z' i + 1 < n) → pos z k = pos z' k := by
  intro k
  induction k with
  | zero => intro _ _; rfl
  | succ k ih =>
    intro hk h2
    have hm := pos_mono z' k (k + 1) (by omega)
    have := h2 k (by omega)
    have e := ih (by omega) (fun i hi => h2 i (by omega))
    simp only [pos, e]
    rw [h (pos z' k + 1) (by omega)]
/-- the TLVs of what was written -/
theorem tl_pd (p : Pd) (q : Nat) (L : Nat → It) (hq : q ≤ 4) : tlZ q (pdZ p q L) = J L p.m := by
  funext j
  exact pd_tail p q L hq j
theorem ends_pd (p : Pd) (q : Nat) (L : Nat → It) (hq : q ≤ 4) : pos (tlZ q (pdZ p q L)) p.m = sz L p.m := by
  rw [tl_pd p q L hq]
  exact J_pos L p.m p.m (Nat.le_refl _)
theorem right_sg (z : Nat → Int) (n : Nat) (hn : 27 ≤ n) : rightB (fun j => sgZ z n (12 + j)) 12 (n - 12) = true := by
  have e : (fun j => sgZ z n (12 + j)) = laidZ (fun j => z (12 + j)) 12 (n - 12) := by
    funext j
    unfold sgZ laidZ upd
    by_cases e13 : j = 13
    · subst e13; simp
    · by_cases e12 : j = 12
      · subst e12; simp
      · rw [if_neg (by omega), if_neg (by omega), if_neg e13, if_neg e12]
  rw [e]
  exact right_laid _ _ _
theorem right_pd (p : Pd) (q : Nat) (L : Nat → It) (h2 : q = 2) : rightB (fun j => pdZ p q L (12 + j)) 12 (hdN q + sz L p.m - 12) = true := by
  have e : pdZ p q L = sgZ (wZ p q L) (hdN q + sz L p.m) := by unfold pdZ; rw [if_pos h2]
  rw [e]
  exact right_sg _ _ (by subst h2; show 27 ≤ 27 + _; omega)
end Go.Proofs.Ytigkmcbkckfhbaa
