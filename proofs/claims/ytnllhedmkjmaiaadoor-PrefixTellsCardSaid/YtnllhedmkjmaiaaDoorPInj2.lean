/- Two prefixes in form have one text just if they are one: the texts of numbers, addresses, prefixes. Each theorem states its conditions. -/
import Derived.Test.YtnllhedmkjmaiaaDoorPInj
namespace Go.Proofs.YtnllhedmkjmaiaaDoor
open Go.RowKit
set_option linter.unusedVariables false

theorem u8n (k : Nat) (h : k < 256) : (UInt8.ofNat k).toNat = k := by rw [UInt8.toNat_ofNat']; omega
def decV (l : List UInt8) : Nat := l.foldl (fun a c => 10 * a + (c.toNat - 48)) 0
theorem dec_val (n : Nat) : decV (Lib.decDigits n) = n := by
  induction n using Nat.strongRecOn with
  | ind n ih =>
    by_cases h : n < 10
    · rw [dec_one n h]; simp only [decV, List.foldl, u8n (48 + n) (by omega)]; omega
    · rw [Lib.decDigits, dif_neg h]
      have := ih (n / 10) (by omega)
      unfold decV at this ⊢
      rw [List.foldl_append, this]
      simp only [List.foldl, u8n (48 + n % 10) (by omega)]
      omega
theorem dec_inj {n m : Nat} (h : Lib.decDigits n = Lib.decDigits m) : n = m := by rw [← dec_val n, h, dec_val]
theorem dec_mem (n : Nat) : ∀ c ∈ Lib.decDigits n, 48 ≤ c.toNat ∧ c.toNat ≤ 57 := by
  induction n using Nat.strongRecOn with
  | ind n ih =>
    by_cases h : n < 10
    · rw [dec_one n h]; intro c hc; rw [List.mem_singleton.1 hc, u8n _ (by omega)]; omega
    · rw [Lib.decDigits, dif_neg h]
      intro c hc
      rcases List.mem_append.1 hc with hc | hc
      · exact ih _ (by omega) c hc
      · rw [List.mem_singleton.1 hc, u8n _ (by omega)]; omega
theorem dec_ne (n : Nat) : Lib.decDigits n ≠ [] := by
  by_cases h : n < 10
  · rw [dec_one n h]; simp
  · rw [Lib.decDigits, dif_neg h]; simp
theorem dec_free (n : Nat) (c : UInt8) (hc : c.toNat < 48 ∨ 57 < c.toNat) : c ∉ Lib.decDigits n := fun h => by have := dec_mem n c h; omega
def hexv (c : UInt8) : Nat := if c.toNat < 58 then c.toNat - 48 else c.toNat - 87
def hexV (l : List UInt8) : Nat := l.foldl (fun a c => 16 * a + hexv c) 0
theorem hexv_c (k : Nat) (h : k < 16) : hexv (hexc k) = k := by
  have : ∀ k : Fin 16, hexv (hexc k.val) = k.val := by decide +kernel
  exact this ⟨k, h⟩
theorem hexc_ne (k : Nat) (h : k < 16) : hexc k ≠ 58 ∧ hexc k ≠ 47 ∧ hexc k ≠ 46 := by
  have : ∀ k : Fin 16, hexc k.val ≠ 58 ∧ hexc k.val ≠ 47 ∧ hexc k.val ≠ 46 := by decide +kernel
  exact this ⟨k, h⟩
theorem hex_val (n : Nat) : hexV (hexD n) = n := by
  induction n using Nat.strongRecOn with
  | ind n ih =>
    by_cases h : n < 16
    · rw [hexD_lt h]; simp only [hexV, List.foldl, hexv_c n h]; omega
    · rw [hexD_ge (by omega)]
      have := ih (n / 16) (by omega)
      unfold hexV at this ⊢
      rw [List.foldl_append, this]
      simp only [List.foldl, hexv_c (n % 16) (by omega)]
      omega
theorem hex_inj {n m : Nat} (h : hexD n = hexD m) : n = m := by rw [← hex_val n, h, hex_val]
theorem hex_mem (n : Nat) : ∀ c ∈ hexD n, c ≠ 58 ∧ c ≠ 47 ∧ c ≠ 46 := by
  induction n using Nat.strongRecOn with
  | ind n ih =>
    by_cases h : n < 16
    · rw [hexD_lt h]; intro c hc; simp at hc; subst hc; exact hexc_ne n h
    · rw [hexD_ge (by omega)]
      intro c hc
      rcases List.mem_append.1 hc with hc | hc
      · exact ih _ (by omega) c hc
      · simp at hc; subst hc; exact hexc_ne _ (by omega)
theorem hex_ne (n : Nat) : hexD n ≠ [] := by
  by_cases h : n < 16
  · rw [hexD_lt h]; simp
  · rw [hexD_ge (by omega)]; simp
theorem lst_zero (f : Nat → ByteArray) (i : Nat) : (∀ j, (lst f i).start ≤ j → j < i → f j = ⟨#[48]⟩) ∧ (∀ j, (lst f i).fr ≤ j → j < (lst f i).be → f j = ⟨#[48]⟩) := by
  induction i with
  | zero => exact ⟨fun j _ h => by omega, fun j _ h => by simp [lst] at h⟩
  | succ i ih =>
    obtain ⟨st, h0⟩ : ∃ st, st = if f i = ⟨#[48]⟩ then (lst f i).start else i + 1 := ⟨_, rfl⟩
    have e : lst f (i + 1) = if (lst f i).least ≤ i + 1 - st then ⟨st, i + 1 - st + 1, st, i + 1⟩ else ⟨st, (lst f i).least, (lst f i).fr, (lst f i).be⟩ := by rw [h0]; rfl
    have hst : ∀ j, st ≤ j → j < i + 1 → f j = ⟨#[48]⟩ := by
      intro j h1 h2
      by_cases hz : f i = ⟨#[48]⟩
      · rw [if_pos hz] at h0
        rcases Nat.lt_or_ge j i with h | h
        · exact ih.1 j (by omega) h
        · obtain rfl : j = i := by omega
          exact hz
      · rw [if_neg hz] at h0; omega
    rw [e]
    split
    · exact ⟨hst, hst⟩
    · exact ⟨hst, ih.2⟩

/-- the parts of an address of IPv6 -/
theorem parts_ok (y : Nat → Nat) (a n : Nat) : ∀ x ∈ (List.range n).map fun j => (grpT y (a + j)).data.toList, (58 : UInt8) ∉ x ∧ x ≠ [] := by
  intro x hx
  obtain ⟨j, _, rfl⟩ := List.mem_map.1 hx
  have e : (grpT y (a + j)).data.toList = hexD (grp y (a + j)) := rfl
  rw [e]
  exact ⟨fun h => (hex_mem _ _ h).1 rfl, hex_ne _⟩
theorem joinT_inj {y y' : Nat → Nat} {a a' n n' : Nat} (h : joinT (grpT y) a n = joinT (grpT y') a' n') : n = n' ∧ ∀ j, j < n → grpT y (a + j) = grpT y' (a' + j) := by
  have e := join_inj _ _ (parts_ok y a n) (parts_ok y' a' n') h
  have hl := congrArg List.length e
  simp at hl
  subst hl
  refine ⟨rfl, fun j hj => ?_⟩
  have := congrArg (fun l => l[j]?) e
  simp [hj] at this
  exact WideShapes.bytes_inj (by rw [this])
theorem sixT_list (f : Nat → ByteArray) : (sixT f).data.toList = if (lst f 8).fr = (lst f 8).be then joinT f 0 8 else joinT f 0 (lst f 8).fr ++ 58 :: 58 :: joinT f (lst f 8).be (8 - (lst f 8).be) := by
  unfold sixT
  split
  · rfl
  · simp
theorem six_inj {y y' : Nat → Nat} (h : (sixT (grpT y)).data.toList = (sixT (grpT y')).data.toList) : ∀ j, j < 8 → grpT y j = grpT y' j := by
  rw [sixT_list, sixT_list] at h
  have hz := (lst_zero (grpT y) 8).2
  have hz' := (lst_zero (grpT y') 8).2
  have hb := lst_bd (grpT y) 8
  have hb' := lst_bd (grpT y') 8
  generalize (lst (grpT y) 8).fr = fr at *
  generalize (lst (grpT y) 8).be = be at *
  generalize (lst (grpT y') 8).fr = fr' at *
  generalize (lst (grpT y') 8).be = be' at *
  by_cases h1 : fr = be <;> by_cases h2 : fr' = be'
  · rw [if_pos h1, if_pos h2] at h
    intro j hj
    have := (joinT_inj h).2 j hj
    simpa using this
  · rw [if_pos h1, if_neg h2] at h
    exact absurd h ((join_nocc _ (parts_ok y 0 8)).1 _ _)
  · rw [if_neg h1, if_pos h2] at h
    exact absurd h.symm ((join_nocc _ (parts_ok y' 0 8)).1 _ _)
  · rw [if_neg h1, if_neg h2] at h
    obtain ⟨n1, n2, _⟩ := join_nocc _ (parts_ok y 0 fr)
    obtain ⟨n3, n4, _⟩ := join_nocc _ (parts_ok y' 0 fr')
    obtain ⟨r1, r2⟩ := cut_cc n1 n3 n2 n4 h
    obtain ⟨rfl, s1⟩ := joinT_inj r1
    obtain ⟨s2, s3⟩ := joinT_inj r2
    obtain rfl : be = be' := by omega
    intro j hj
    rcases Nat.lt_or_ge j fr with c | c
    · have := s1 j c; simpa using this
    · rcases Nat.lt_or_ge j be with d | d
      · rw [hz j c d, hz' j c d]
      · have := s3 (j - be) (by omega)
        rw [show be + (j - be) = j by omega] at this
        exact this
theorem grp_inj {y y' : Nat → Nat} (hy : ∀ j, y j < 256) (hy' : ∀ j, y' j < 256) (h : ∀ j, j < 8 → grpT y j = grpT y' j) : ∀ j, j < 16 → y j = y' j := by
  intro j hj
  have e := h (j / 2) (by omega)
  have e1 : hexD (grp y (j / 2)) = hexD (grp y' (j / 2)) := congrArg (fun b : ByteArray => b.data.toList) e
  have e2 := hex_inj e1
  unfold grp at e2
  have a1 := hy (2 * (j / 2))
  have a2 := hy (2 * (j / 2) + 1)
  have a3 := hy' (2 * (j / 2))
  have a4 := hy' (2 * (j / 2) + 1)
  rcases (by omega : j = 2 * (j / 2) ∨ j = 2 * (j / 2) + 1) with c | c
  · rw [c]; omega
  · rw [c]; omega
theorem four_parts (y : Nat → Nat) : ∀ x ∈ (List.range 4).map fun j => (dec (y j)).data.toList, (46 : UInt8) ∉ x ∧ x ≠ [] := by
  intro x hx
  obtain ⟨j, _, rfl⟩ := List.mem_map.1 hx
  exact ⟨dec_free _ _ (by decide), dec_ne _⟩
theorem four_inj {y y' : Nat → Nat} (h : (fourT y).data.toList = (fourT y').data.toList) : ∀ j, j < 4 → y j = y' j := by
  have e := join_inj _ _ (four_parts y) (four_parts y') h
  intro j hj
  have := congrArg (fun l => l[j]?) e
  simp [hj] at this
  exact dec_inj (by simpa [dec] using this)
theorem join_free {c d : UInt8} (hcd : d ≠ c) : ∀ (l : List (List UInt8)), (∀ x ∈ l, d ∉ x) → d ∉ Lib.join l [c] := by
  intro l
  induction l with
  | nil => intro _; rw [Lib.join_nil]; simp
  | cons x l ih =>
    intro h
    cases l with
    | nil => rw [Lib.join_one]; exact h x (by simp)
    | cons y l =>
      rw [join_cons]
      simp only [List.mem_append, List.mem_cons, not_or]
      exact ⟨h x (by simp), hcd, ih (fun u hu => h u (by simp at hu ⊢; right; exact hu))⟩
theorem four_free (y : Nat → Nat) (d : UInt8) (h1 : d.toNat < 48 ∨ 57 < d.toNat) (h2 : d ≠ 46) : d ∉ (fourT y).data.toList :=
  join_free h2 _ (fun x hx => by
    obtain ⟨j, _, rfl⟩ := List.mem_map.1 hx
    exact dec_free _ _ h1)
theorem joinT_free (y : Nat → Nat) (a n : Nat) : (47 : UInt8) ∉ joinT (grpT y) a n :=
  join_free (by decide) _ (fun x hx => by
    obtain ⟨j, _, rfl⟩ := List.mem_map.1 hx
    exact fun h => (hex_mem _ _ h).2.1 rfl)
theorem six_free (y : Nat → Nat) : (47 : UInt8) ∉ (sixT (grpT y)).data.toList := by
  rw [sixT_list]
  split
  · exact joinT_free y 0 8
  · simp only [List.mem_append, List.mem_cons, not_or]
    exact ⟨joinT_free y _ _, by decide, by decide, joinT_free y _ _⟩
theorem six_has (y : Nat → Nat) : (58 : UInt8) ∈ (sixT (grpT y)).data.toList := by
  rw [sixT_list]
  split
  · have e : joinT (grpT y) 0 8 = (grpT y 0).data.toList ++ 58 :: Lib.join ((List.range 7).map fun j => (grpT y (j + 1)).data.toList) [58] := by
      unfold joinT
      have : ((List.range 8).map fun j => (grpT y (0 + j)).data.toList) = (grpT y 0).data.toList :: (grpT y 1).data.toList :: ((List.range 6).map fun j => (grpT y (j + 2)).data.toList) := rfl
      rw [this, join_cons]
      rfl
    rw [e]; simp
  · simp
/-- a text tells its prefix -/
theorem wtext_inj {fam fam' : Int} {len len' : Nat} {y y' : Nat → Nat} (hy : ∀ j, y j < 256) (hy' : ∀ j, y' j < 256) (hf : Form fam (len : Int) (fun j => (y j : Int))) (hf' : Form fam' (len' : Int) (fun j => (y' j : Int)))
    (h : wtext fam len y = wtext fam' len' y') : fam = fam' ∧ len = len' ∧ Same16 (fun j => (y j : Int)) (fun j => (y' j : Int)) := by
  have e : (if fam = 6 then sixT (grpT y) else fourT y).data.toList ++ 47 :: Lib.decDigits len = (if fam' = 6 then sixT (grpT y') else fourT y').data.toList ++ 47 :: Lib.decDigits len' := by
    have := congrArg (fun b : ByteArray => b.data.toList) h
    unfold wtext at this
    simpa [dec] using this
  have fr : ∀ (fam : Int) (y : Nat → Nat), (47 : UInt8) ∉ (if fam = 6 then sixT (grpT y) else fourT y).data.toList := by
    intro fam y
    split
    · exact six_free y
    · exact four_free y 47 (by decide) (by decide)
  obtain ⟨e1, e2⟩ := cut_one_sign (fr fam y) (fr fam' y') e
  have hl := dec_inj e2
  have sz : ∀ {fam : Int} {len : Nat} {z : Nat → Int}, Form fam (len : Int) z → fam = 4 ∨ fam = 6 := fun h => by have := h.1; unfold Sized at this; omega
  have hi : ∀ {len : Nat} {y : Nat → Nat}, Form 4 (len : Int) (fun j => (y j : Int)) → ∀ j, 4 ≤ j → j < 16 → y j = 0 := by
    intro len y h j h4 h16
    have h1 : firstZ (fun j => (y j : Int)) (len : Int).toNat j = (y j : Int) := h.2 j h16
    have h2 : len ≤ 32 := by have := h.1; unfold Sized at this; omega
    rw [firstZ_hi (by omega)] at h1
    omega
  rcases sz hf with rfl | rfl <;> rcases sz hf' with rfl | rfl
  · refine ⟨rfl, hl, fun j hj => ?_⟩
    rw [if_neg (by decide), if_neg (by decide)] at e1
    show (y j : Int) = (y' j : Int)
    rcases Nat.lt_or_ge j 4 with c | c
    · rw [four_inj e1 j c]
    · rw [hi hf j c hj, hi hf' j c hj]
  · rw [if_neg (by decide), if_pos rfl] at e1
    exact absurd (six_has y') (by rw [← e1]; exact four_free y 58 (by decide) (by decide))
  · rw [if_pos rfl, if_neg (by decide)] at e1
    exact absurd (six_has y) (by rw [e1]; exact four_free y' 58 (by decide) (by decide))
  · refine ⟨rfl, hl, fun j hj => ?_⟩
    rw [if_pos rfl, if_pos rfl] at e1
    show (y j : Int) = (y' j : Int)
    rw [grp_inj hy hy' (six_inj e1) j hj]
end Go.Proofs.YtnllhedmkjmaiaaDoor
