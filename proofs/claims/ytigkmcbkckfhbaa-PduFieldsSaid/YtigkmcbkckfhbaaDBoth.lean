/- The program's reader of entries and the document's: both answer the same, whatever the bytes; what was written is read again. Each theorem states its conditions. -/
import Derived.Test.YtigkmcbkckfhbaaDDocG
import Derived.Test.YtigkmcbkckfhbaaDDocL
namespace Go.Proofs.Ytigkmcbkckfhbaa
open Go.RowKit
set_option linter.unusedVariables false

/-- K records and a number -/
def GetsP (w : World) (s K : Nat) (X : Int) (C : Nat → Array Value) (e : Ending) (w' : World) : Prop :=
  ∃ A c, e = .returned (.tuple #[.slice A K c, .int .i64 X]) ∧ RdR w' A K s C ∧ Below w.heap.size w w'
theorem getsP_none {w : World} {s : Nat} {X : Int} {C : Nat → Array Value} {e : Ending} {w' : World} (he : e = .returned (.tuple #[.slice none 0 0, .int .i64 X])) (hb : Below w.heap.size w w') : GetsP w s 0 X C e w' :=
  ⟨none, 0, he, .inl rfl, hb⟩
/-- both readers, of n bytes z -/
structure BothN (n : Nat) (z : Nat → Int) (K : Nat) (X : Int) (C : Nat → Array Value) : Prop where
  le : K ≤ 15
  lo : 0 ≤ X
  hi : X ≤ 3
  size : ∀ j, (C j).size = 11
  self : ∀ j, SelfEq 10000 96 (.agg (C j))
  prog : ∀ A c w, Rd w A n z → n ≤ c → c ≤ maxLen → Calls Try.prog 24 #[.slice A n c] w (GetsP w 11 K X C)
  docu : ∀ A c w, Rd w A n z → n ≤ c → c ≤ maxLen → Calls Try.prog 26 #[.slice A n c] w (GetsP w 11 K X C)
theorem gEn_ok (z : Nat → Int) (hz : ∀ j, 0 ≤ z j ∧ z j ≤ 255) : EnOk (gEn z) := by
  have h1 := n2_bd z hz
  have h2 := n4_bd (fun j => z (10 + j)) (fun j => hz _)
  have h3 := n2_bd (fun j => z (14 + j)) (fun j => hz _)
  refine ⟨fun j => hz _, h2, ?_, h3⟩
  show -9223372036854775808 ≤ (((numZ z 0 2).toNat : Nat) : Int) ∧ (((numZ z 0 2).toNat : Nat) : Int) ≤ 9223372036854775807
  omega
theorem nC_self (z : Nat → Int) (hz : ∀ j, 0 ≤ z j ∧ z j ≤ 255) (k : Nat) : SelfEq 10000 96 (.agg (nC z k)) := self_en 9995 _ (gEn_ok _ fun j => hz _)
theorem own_gets {w w' : World} {z : Nat → Int} {m : Nat} {e : Ending} (h : ∃ v, e = .returned (.tuple #[v, .int .i64 0]) ∧ w'.ownsRow w.heap.size 96 11 v m (cellsR (nC z) m) ∧ Below w.heap.size w w') : GetsP w 11 m 0 (nC z) e w' := by
  obtain ⟨v, rfl, ho, hb⟩ := h
  obtain ⟨A, c, rfl, _, _, _, hr⟩ := ownR_shape (recs_nC z) (by decide) ho
  exact ⟨A, c, rfl, hr, hb⟩
theorem both_n (n : Nat) (z : Nat → Int) (hz : ∀ j, 0 ≤ z j ∧ z j ≤ 255) : ∃ K X C, BothN n z K X C := by
  by_cases h255 : 255 < n
  · refine ⟨0, 2, nC z, by omega, by omega, by omega, fun j => rfl, fun j => nC_self z hz j, fun A c w h hc hcm => ?_, fun A c w h hc hcm => ?_⟩
    · refine (getEntries_long A n c w h255).mono ?_
      rintro e w' ⟨he, rfl⟩
      exact getsP_none he (Below.refl _ _)
    · refine (docGetEntries_long A n c w h255).mono ?_
      rintro e w' ⟨he, rfl⟩
      exact getsP_none he (Below.refl _ _)
  · by_cases h16 : n % 16 = 0
    · obtain ⟨m, rfl⟩ : ∃ m, n = 16 * m := ⟨n / 16, by omega⟩
      refine ⟨m, 0, nC z, by omega, by omega, by omega, fun j => rfl, fun j => nC_self z hz j, fun A c w h hc hcm => ?_, fun A c w h hc hcm => ?_⟩
      · rcases Nat.eq_zero_or_pos m with rfl | h0
        · refine (getEntries_nil A c w).mono ?_
          rintro e w' ⟨he, rfl⟩
          exact getsP_none he (Below.refl _ _)
        · obtain ⟨b, off, rfl, hr⟩ := h.row (by omega)
          exact (getEntries_any b off m c z w hr h0 (by omega) hc hcm).mono fun e w' h => own_gets h
      · rcases Nat.eq_zero_or_pos m with rfl | h0
        · refine (docGetEntries_nil A c w).mono ?_
          rintro e w' ⟨he, rfl⟩
          exact getsP_none he (Below.refl _ _)
        · obtain ⟨b, off, rfl, hr⟩ := h.row (by omega)
          exact (docGetEntries_any b off m c z w hr h0 (by omega) hc hcm).mono fun e w' h => own_gets h
    · refine ⟨0, 3, nC z, by omega, by omega, by omega, fun j => rfl, fun j => nC_self z hz j, fun A c w h hc hcm => ?_, fun A c w h hc hcm => ?_⟩
      · refine (getEntries_form A n c w (by omega) h16).mono ?_
        rintro e w' ⟨he, rfl⟩
        exact getsP_none he (Below.refl _ _)
      · refine (docGetEntries_form A n c w (by omega) h16).mono ?_
        rintro e w' ⟨he, rfl⟩
        exact getsP_none he (Below.refl _ _)
theorem numZ_congr (z z' : Nat → Int) (k : Nat) (h : ∀ j, j < k → z j = z' j) : numZ z 0 k = numZ z' 0 k := by
  induction k with
  | zero => rfl
  | succ k ih =>
    show numZ z 0 k * 256 + z (0 + k) = numZ z' 0 k * 256 + z' (0 + k)
    rw [ih fun j hj => h j (by omega), Nat.zero_add, h k (by omega)]
/-- what was written is read again -/
theorem nC_enZ (L : Nat → En) (k : Nat) (h : EnOk (L k)) (hl : 0 ≤ (L k).li ∧ (L k).li ≤ 65535) : nC (enZ L) k = enC (L k) := by
  have hz : ∀ i, i < 16 → enZ L (16 * k + i) = if i < 2 then putZ (L k).li.toNat 2 i else if i < 10 then (L k).s (i - 2) else if i < 14 then putZ (L k).sq 4 (i - 10) else putZ (L k).su 2 (i - 14) := fun i hi => enZ_at L k i hi
  have e1 : numZ (fun j => enZ L (16 * k + j)) 0 2 = (((L k).li.toNat % 256 ^ 2 : Nat) : Int) := by
    rw [← num_put]
    exact numZ_congr _ _ 2 fun j hj => by rw [hz j (by omega), if_pos hj]
  have e2 : numZ (fun j => enZ L (16 * k + (10 + j))) 0 4 = (((L k).sq % 256 ^ 4 : Nat) : Int) := by
    rw [← num_put]
    exact numZ_congr _ _ 4 fun j hj => by rw [hz (10 + j) (by omega), if_neg (by omega), if_neg (by omega), if_pos (by omega), show 10 + j - 10 = j by omega]
  have e3 : numZ (fun j => enZ L (16 * k + (14 + j))) 0 2 = (((L k).su % 256 ^ 2 : Nat) : Int) := by
    rw [← num_put]
    exact numZ_congr _ _ 2 fun j hj => by rw [hz (14 + j) (by omega), if_neg (by omega), if_neg (by omega), if_neg (by omega), show 14 + j - 14 = j by omega]
  have hs : ∀ j, j < 8 → enZ L (16 * k + (2 + j)) = (L k).s j := fun j hj => by rw [hz (2 + j) (by omega), if_neg (by omega), if_pos (by omega), show 2 + j - 2 = j by omega]
  have h1 : (256 : Nat) ^ 2 = 65536 := rfl
  have h2 : (256 : Nat) ^ 4 = 4294967296 := rfl
  have f1 : ((numZ (fun j => enZ L (16 * k + j)) 0 2).toNat : Int) = (L k).li := by rw [e1, Int.toNat_natCast, h1]; omega
  have f2 : (numZ (fun j => enZ L (16 * k + (10 + j))) 0 4).toNat = (L k).sq := by rw [e2, Int.toNat_natCast, h2]; have := h.2.1; omega
  have f3 : (numZ (fun j => enZ L (16 * k + (14 + j))) 0 2).toNat = (L k).su := by rw [e3, Int.toNat_natCast, h1]; have := h.2.2.2; omega
  unfold nC gEn enC
  simp only [hs 0 (by omega), hs 1 (by omega), hs 2 (by omega), hs 3 (by omega), hs 4 (by omega), hs 5 (by omega), hs 6 (by omega), hs 7 (by omega), f1, f2, f3]
end Go.Proofs.Ytigkmcbkckfhbaa
