/- Members that are known in another order, or with other priorities: who speaks. Plain facts, and a cell of a row of members written. Each theorem states its conditions. -/
import Derived.Test.YtahflakanbhapaaWDisElects
namespace Go.Proofs.Ytahflakanbhapaa
open Go.RowKit
set_option linter.unusedVariables false

/-- no two of the first n have one key -/
def Dist (L : Nat → Mb) (n : Nat) : Prop := ∀ i j, i < n → j < n → keyM (L i) = keyM (L j) → i = j
/-- the i-th is unlike those ahead of it, up to x -/
def Unl (L : Nat → Mb) (i x : Nat) : Prop := ∀ j, j < x → (L i).pr ≤ 127 ∧ ¬ ((L i).pr = (L j).pr ∧ eq6 (L i).k (L j).k = true)
def UnlAll (L : Nat → Mb) (k : Nat) : Prop := ∀ i, i < k → Unl L i i
theorem unl_dist {L : Nat → Mb} {n : Nat} (hOk : ∀ j, MbOk (L j)) (h : UnlAll L n) : Dist L n := by
  have key : ∀ i j, keyM (L i) = keyM (L j) → (L i).pr = (L j).pr ∧ eq6 (L i).k (L j).k = true := by
    intro i j e
    have h1 := num6_bd (hOk i).2.1
    have h2 := num6_bd (hOk j).2.1
    unfold keyM at e
    refine ⟨by omega, ?_⟩
    unfold eq6
    rw [beq_iff_eq]
    omega
  intro i j hi hj e
  rcases Nat.lt_trichotomy i j with hl | hl | hl
  · exact ((h j hj i hl).2 (key j i e.symm)).elim
  · exact hl
  · exact ((h i hi j hl).2 (key i j e)).elim
theorem unl_pr {L : Nat → Mb} {n : Nat} (h : UnlAll L n) (h0 : (L 0).pr ≤ 127) : ∀ j, j < n → ¬ 127 < (L j).pr := by
  intro j hj
  by_cases e : j = 0
  · subst e; omega
  · have := (h j hj 0 (by omega)).1; omega
/-- the list from place k on, and then what stands ahead of it -/
def rotL (L : Nat → Mb) (n k : Nat) : Nat → Mb := fun j => if j < n - k then L (k + j) else L (j - (n - k))
theorem rot_at (L : Nat → Mb) (n k j : Nat) (hk : k < n) (hj : j < n) : rotL L n k j = L ((j + k) % n) := by
  unfold rotL
  by_cases h : j < n - k
  · rw [if_pos h, Nat.mod_eq_of_lt (by omega), Nat.add_comm]
  · rw [if_neg h, show j + k = (j - (n - k)) + n by omega, Nat.add_mod_right, Nat.mod_eq_of_lt (by omega)]
theorem rot_best {L : Nat → Mb} {n k : Nat} {i j : Int} (hk : k < n) (hd : Dist L n) (h : Best L n i) (g : Best (rotL L n k) n j) : (i = -1 ∧ j = -1) ∨ ∃ t u : Nat, t < n ∧ u < n ∧ i = t ∧ j = u ∧ (u + k) % n = t := by
  rcases g with ⟨rfl, g⟩ | ⟨u, hu, rfl, gu, g⟩
  · left
    refine ⟨best_unique h (.inl ⟨rfl, fun x hx => ?_⟩), rfl⟩
    have hy : (x + (n - k)) % n < n := Nat.mod_lt _ (by omega)
    have := g _ hy
    rw [rot_at L n k _ hk hy] at this
    have e : ((x + (n - k)) % n + k) % n = x := by
      rw [Nat.mod_add_mod, show x + (n - k) + k = x + n by omega, Nat.add_mod_right, Nat.mod_eq_of_lt hx]
    rwa [e] at this
  · right
    have ht : (u + k) % n < n := Nat.mod_lt _ (by omega)
    refine ⟨(u + k) % n, u, ht, hu, best_unique h (.inr ⟨(u + k) % n, ht, rfl, ?_, fun x hx xu => ?_⟩), rfl, rfl⟩
    · rw [rot_at L n k u hk hu] at gu; exact gu
    · have hy : (x + (n - k)) % n < n := Nat.mod_lt _ (by omega)
      have e : ((x + (n - k)) % n + k) % n = x := by
        rw [Nat.mod_add_mod, show x + (n - k) + k = x + n by omega, Nat.add_mod_right, Nat.mod_eq_of_lt hx]
      have h9 := g _ hy (by rw [rot_at L n k _ hk hy, e]; exact xu)
      rw [rot_at L n k _ hk hy, e, rot_at L n k u hk hu] at h9
      rcases h9 with h9 | ⟨h9, _⟩
      · exact .inl h9
      · have := hd x _ hx ht h9
        exact .inr ⟨h9, by omega⟩
/-- a priority that is changed -/
def prM (m : Mb) (p : Int) : Mb := ⟨m.s, m.k, p, m.up⟩
def capM (L : Nat → Mb) (k : Nat) : Nat → Mb := fun j => if j < k then prM (L j) (if 126 < (L j).pr then 126 else (L j).pr) else L j
def topM (L : Nat → Mb) (n t : Nat) : Nat → Mb := fun j => if j = t then ⟨(L j).s, (L j).k, 127, true⟩ else capM L n j
theorem top_best {L : Nat → Mb} {n t : Nat} (hOk : ∀ j, MbOk (L j)) (ht : t < n) : Best (topM L n t) n t := by
  refine .inr ⟨t, ht, rfl, by unfold topM; rw [if_pos rfl], fun j hj ju => ?_⟩
  by_cases e : j = t
  · subst e; exact .inr ⟨rfl, Nat.le_refl _⟩
  · left
    have h1 := num6_bd (hOk j).2.1
    have h2 := num6_bd (hOk t).2.1
    have e1 : keyM (topM L n t j) = (if 126 < (L j).pr then 126 else (L j).pr) * 281474976710656 + numZ (L j).k 0 6 := by
      unfold topM capM keyM prM
      rw [if_neg e, if_pos hj]
    have e2 : keyM (topM L n t t) = 127 * 281474976710656 + numZ (L t).k 0 6 := by
      unfold topM keyM
      rw [if_pos rfl]
    rw [e1, e2]
    split <;> omega
theorem top_ok {L : Nat → Mb} {n t : Nat} (hOk : ∀ j, MbOk (L j)) : ∀ j, MbOk (topM L n t j) := by
  intro j
  unfold topM capM prM
  have := hOk j
  split
  · exact ⟨this.1, this.2.1, by show (0 : Int) ≤ 127; decide, by show (127 : Int) ≤ 255; decide⟩
  · split
    · refine ⟨this.1, this.2.1, ?_, ?_⟩
      · show 0 ≤ (if 126 < (L j).pr then 126 else (L j).pr); have := this.2.2.1; split <;> omega
      · show (if 126 < (L j).pr then 126 else (L j).pr) ≤ 255; have := this.2.2.2; split <;> omega
    · exact this
theorem top_chk {L : Nat → Mb} {n t : Nat} {r : Int} (hn : n ≤ 64) (h : chkM (topM L n t) n r) : r = 0 := by
  refine chkM_unique h (.inr ⟨fun j hj => ?_, .inr ⟨hn, rfl⟩⟩)
  unfold topM capM prM
  split
  · show ¬ (127 : Int) < 127; omega
  · show ¬ 127 < (if 126 < (L j).pr then 126 else (L j).pr)
    split <;> omega
/-- one cell of a row of members is written -/
theorem row_set {w : World} {b off n : Nat} {L L' : Nat → Mb} (h : RowR w b off n 14 (mbA L)) (k i : Nat) (hk : k < n) (hi : i < 14) (v : Value) (hL : ∀ j, j < n → j ≠ k → L' j = L j) (hv : (mbC (L' k))[i]? = some v) (ho : ∀ x, x < 14 → x ≠ i → (mbC (L' k))[x]? = (mbC (L k))[x]?) :
    RowR (w.setCell ⟨b, off + k * 14 + i, none⟩ v) b off n 14 (mbA L') := by
  refine ⟨by simpa using h.1, fun j hj x u hu => ?_⟩
  have hx : x < 14 := by
    rcases Nat.lt_or_ge x 14 with h | h
    · exact h
    · rw [List.getElem?_eq_none (by rw [Array.length_toList]; exact h)] at hu; cases hu
  rw [Array.getElem?_toList] at hu
  by_cases e : j = k ∧ x = i
  · obtain ⟨rfl, rfl⟩ := e
    have h1 : u = v := by
      have : (mbC (L' j))[x]? = some u := hu
      rw [hv] at this
      cases this; rfl
    subst h1
    refine World.cell?_setCell_same' _ _ _ ?_
    have h9 := h.2 j hj x ((mbC (L j))[x]'(by show x < 14; exact hx)) (by rw [Array.getElem?_toList]; exact Array.getElem?_eq_getElem _)
    rw [h9]; rfl
  · have hne : (⟨b, off + j * 14 + x, none⟩ : Addr) ≠ ⟨b, off + k * 14 + i, none⟩ := by
      intro e2
      injection e2 with e3 e4
      omega
    have hold : (mbC (L j))[x]? = some u := by
      have hu' : (mbC (L' j))[x]? = some u := hu
      by_cases ej : j = k
      · subst ej
        rw [ho x hx (fun e9 => e ⟨rfl, e9⟩)] at hu'; exact hu'
      · rw [hL j hj ej] at hu'; exact hu'
    have h9 := h.2 j hj x u (by rw [Array.getElem?_toList]; exact hold)
    rw [World.cell?_setCell_other] <;> first | exact h9 | exact hne | exact hne.symm
theorem guard_mbP : Try.prog.eqGuardType Try.prog.depth 40 = false := by kernel_rfl
theorem self_mbP (d : Nat) (m : Mb) (h : MbOk m) : SelfEq (d + 3) 40 (.agg (mbC m)) := by
  refine self_struct (d + 2) _ _ [(37, 0), (36, 6), (5, 12), (4, 13)] (by kernel_rfl) (by kernel_rfl) (by kernel_rfl) (fun p hp => ?_)
  simp only [List.mem_cons, List.not_mem_nil, or_false] at hp
  rcases hp with rfl | rfl | rfl | rfl
  · exact ⟨.agg (syC m.s), fun w => by kernel_rfl, self_six d _ Try.underlying37 m.s h.1⟩
  · exact ⟨.agg (syC m.k), fun w => by kernel_rfl, self_six d _ Try.underlying36 m.k h.2.1⟩
  · exact ⟨.int .u8 m.pr, fun w => by kernel_rfl, self_int (d + 1) _ .u8 _ Try.underlying5⟩
  · exact ⟨.bool m.up, fun w => by kernel_rfl, self_bool (d + 1) _ _ Try.underlying4⟩
end Go.Proofs.Ytahflakanbhapaa
