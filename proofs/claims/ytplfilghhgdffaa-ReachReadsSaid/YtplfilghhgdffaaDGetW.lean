/- The program's readers of lists and the document's: both answer the same, whatever the bytes. Each theorem states its conditions. -/
import Derived.Test.YtplfilghhgdffaaDGetR
import Derived.Test.YtplfilghhgdffaaDGetN
import Derived.Test.YtplfilghhgdffaaSelf
namespace Go.Proofs.Ytplfilghhgdffaa
open Go.RowKit
set_option linter.unusedVariables false

/-- K records and a number -/
def GetsP (w : World) (s K : Nat) (X : Int) (C : Nat → Array Value) (e : Ending) (w' : World) : Prop :=
  ∃ A c, e = .returned (.tuple #[.slice A K c, .int .i64 X]) ∧ RdR w' A K s C ∧ Below w.heap.size w w'
theorem getsP_none {w : World} {s : Nat} {X : Int} {C : Nat → Array Value} {e : Ending} {w' : World} (he : e = .returned (.tuple #[.slice none 0 0, .int .i64 X])) (hb : Below w.heap.size w w') : GetsP w s 0 X C e w' :=
  ⟨none, 0, he, .inl rfl, hb⟩
/-- both readers, of n bytes z -/
structure BothE (n : Nat) (z : Nat → Int) (K : Nat) (X : Int) (C : Nat → Array Value) : Prop where
  le : K ≤ 255
  lo : 0 ≤ X
  hi : X ≤ 3
  size : ∀ j, (C j).size = 8
  self : ∀ j, SelfEq 10000 30 (.agg (C j))
  prog : ∀ A c w, Rd w A n z → n ≤ c → c ≤ 9223372036854775807 → Calls Try.prog 14 #[.slice A n c] w (GetsP w 8 K X C)
  docu : ∀ A c w, Rd w A n z → n ≤ c → c ≤ 9223372036854775807 → Calls Try.prog 20 #[.slice A n c] w (GetsP w 8 K X C)
structure BothR (fam : Int) (n : Nat) (z : Nat → Int) (K : Nat) (X : Int) (C : Nat → Array Value) : Prop where
  le : K ≤ 255
  lo : 0 ≤ X
  hi : X ≤ 3
  size : ∀ j, (C j).size = 20
  self : ∀ j, SelfEq 10000 47 (.agg (C j))
  prog : ∀ A c w, Rd w A n z → n ≤ c → c ≤ 9223372036854775807 → Calls Try.prog 18 #[.int .u8 fam, .slice A n c] w (GetsP w 20 K X C)
  docu : ∀ A c w, Rd w A n z → n ≤ c → c ≤ 9223372036854775807 → Calls Try.prog 21 #[.int .u8 fam, .slice A n c] w (GetsP w 20 K X C)

theorem eC_self (z : Nat → Int) (hz : ∀ j, 0 ≤ z j ∧ z j ≤ 255) (p : Nat) : SelfEq 10000 30 (.agg (eC z p)) :=
  self_ed 9996 (gEd z p) ⟨fun j => hz _, by have := me3_bd z p hz; show (numZ (fun j => z (p + 7 + j)) 0 3).toNat ≤ _; omega⟩
theorem rC_self (fam : Nat) (hf : fam = 4 ∨ fam = 6) (z : Nat → Int) (hz : ∀ j, 0 ≤ z j ∧ z j ≤ 255) (p : Nat) : SelfEq 10000 47 (.agg (rC fam z p)) :=
  self_rc 9996 (rRc fam z p) ⟨firstZ_bd (fun j => hz _) _, by show 0 ≤ (fam : Int) ∧ (fam : Int) ≤ 255; omega, by show (numZ (fun j => z (p + j)) 0 4).toNat ≤ _; exact me_bd z p hz⟩
theorem glE_gets {w : World} {z : Nat → Int} {n m : Nat} (hm : LEnds (eNx z) (eOk z n) n m) {e : Ending} {w' : World} (h : GLPostE w (eC z) (eNx z) n m e w') :
    GetsP w 8 (if pos (eNx z) m = n then m else 0) (if pos (eNx z) m = n then 0 else 3) (fun i => eC z (pos (eNx z) i)) e w' := by
  rcases h with ⟨hp, v, rfl, ho, hb⟩ | ⟨hp, rfl, hb⟩
  · rw [if_pos hp, if_pos hp]
    obtain ⟨A, c, rfl, _, _, _, hr⟩ := ownR_shape (fun j => recs_eC z (pos (eNx z) j)) (by decide) ho
    exact ⟨A, c, rfl, hr, hb⟩
  · rw [if_neg (by omega), if_neg (by omega)]
    exact getsP_none rfl hb
theorem glR_gets {w : World} {fam : Nat} {z : Nat → Int} {n m : Nat} (hm : LEnds (rNx fam z) (rOk fam z n) n m) {e : Ending} {w' : World} (h : GLPostR w (rC fam z) (rNx fam z) n m e w') :
    GetsP w 20 (if pos (rNx fam z) m = n then m else 0) (if pos (rNx fam z) m = n then 0 else 3) (fun i => rC fam z (pos (rNx fam z) i)) e w' := by
  rcases h with ⟨hp, v, rfl, ho, hb⟩ | ⟨hp, rfl, hb⟩
  · rw [if_pos hp, if_pos hp]
    obtain ⟨A, c, rfl, _, _, _, hr⟩ := ownR_shape (fun j => recs_rC fam z (pos (rNx fam z) j)) (by decide) ho
    exact ⟨A, c, rfl, hr, hb⟩
  · rw [if_neg (by omega), if_neg (by omega)]
    exact getsP_none rfl hb
theorem both_e (n : Nat) (z : Nat → Int) (hz : ∀ j, 0 ≤ z j ∧ z j ≤ 255) : ∃ K X C, BothE n z K X C := by
  obtain ⟨m, hm⟩ := lends (eNx z) (eOk z n) n (steps_e z n)
  have hml := (lends_le (steps_e z n) hm m (Nat.le_refl _))
  by_cases h255 : 255 < n
  · refine ⟨0, 2, fun i => eC z i, by omega, by omega, by omega, fun j => rfl, fun j => eC_self z hz j, fun A c w h hc hcm => ?_, fun A c w h hc hcm => ?_⟩
    · refine (getEdges_long A n c w h255 (by omega)).mono ?_
      rintro e w' ⟨he, hb⟩
      exact getsP_none he hb
    · refine (docGetEdges_long A n c w h255).mono ?_
      rintro e w' ⟨he, rfl⟩
      exact getsP_none he (Below.refl _ _)
  · refine ⟨if pos (eNx z) m = n then m else 0, if pos (eNx z) m = n then 0 else 3, fun i => eC z (pos (eNx z) i), by split <;> omega, by split <;> omega, by split <;> omega, fun j => rfl, fun j => eC_self z hz _, fun A c w h hc hcm => ?_, fun A c w h hc hcm => ?_⟩
    · exact (getEdges_any A n c m z w h hm (by omega) hc hcm).mono fun e w' h => glE_gets hm h
    · rcases Nat.eq_zero_or_pos n with rfl | h0
      · have hm0 : m = 0 := by
          rcases Nat.eq_zero_or_pos m with e | e
          · exact e
          · have := (hm.1 0 e).1; omega
        subst hm0
        refine (docGetEdges_nil A c w).mono ?_
        rintro e w' ⟨he, rfl⟩
        exact getsP_none he (Below.refl _ _)
      · obtain ⟨b, off, rfl, hr⟩ := h.row h0
        exact (docGetEdges_any b off n c m z w hr h0 hm (by omega) hc hcm).mono fun e w' h => glE_gets hm h
theorem both_f (fam : Nat) (hf : fam = 4 ∨ fam = 6) (n : Nat) (z : Nat → Int) (hz : ∀ j, 0 ≤ z j ∧ z j ≤ 255) : ∃ K X C, BothR (fam : Int) n z K X C := by
  obtain ⟨m, hm⟩ := lends (rNx fam z) (rOk fam z n) n (steps_r fam z n)
  have hml := (lends_le (steps_r fam z n) hm m (Nat.le_refl _))
  by_cases h255 : 255 < n
  · refine ⟨0, 2, fun i => rC fam z i, by omega, by omega, by omega, fun j => rfl, fun j => rC_self fam hf z hz j, fun A c w h hc hcm => ?_, fun A c w h hc hcm => ?_⟩
    · refine (getReach_long fam hf A n c w h255 (by omega)).mono ?_
      rintro e w' ⟨he, hb⟩
      exact getsP_none he hb
    · refine (docGetReach_long fam hf A n c w h255).mono ?_
      rintro e w' ⟨he, rfl⟩
      exact getsP_none he (Below.refl _ _)
  · refine ⟨if pos (rNx fam z) m = n then m else 0, if pos (rNx fam z) m = n then 0 else 3, fun i => rC fam z (pos (rNx fam z) i), by split <;> omega, by split <;> omega, by split <;> omega, fun j => rfl, fun j => rC_self fam hf z hz _, fun A c w h hc hcm => ?_, fun A c w h hc hcm => ?_⟩
    · exact (getReach_any fam hf A n c m z w h hm (by omega) hc hcm).mono fun e w' h => glR_gets hm h
    · rcases Nat.eq_zero_or_pos n with rfl | h0
      · have hm0 : m = 0 := by
          rcases Nat.eq_zero_or_pos m with e | e
          · exact e
          · have := (hm.1 0 e).1; omega
        subst hm0
        refine (docGetReach_nil fam hf A c w).mono ?_
        rintro e w' ⟨he, rfl⟩
        exact getsP_none he (Below.refl _ _)
      · obtain ⟨b, off, rfl, hr⟩ := h.row h0
        rcases hf with rfl | rfl
        · exact (docGetReach_4 b off n c m z w hr h0 hm (by omega) hc hcm).mono fun e w' h => glR_gets hm h
        · exact (docGetReach_6 b off n c m z w hr h0 hm (by omega) hc hcm).mono fun e w' h => glR_gets hm h
theorem both_r (fam : Int) (n : Nat) (z : Nat → Int) (hz : ∀ j, 0 ≤ z j ∧ z j ≤ 255) : ∃ K X C, BothR fam n z K X C := by
  by_cases h4 : fam = 4
  · subst h4; exact both_f 4 (.inl rfl) n z hz
  · by_cases h6 : fam = 6
    · subst h6; exact both_f 6 (.inr rfl) n z hz
    · have e4 : (fam == 4) = false := by simpa using h4
      have e6 : (fam == 6) = false := by simpa using h6
      refine ⟨0, 1, fun i => rC 4 z i, by omega, by omega, by omega, fun j => rfl, fun j => rC_self 4 (.inl rfl) z hz j, fun A c w h hc hcm => ?_, fun A c w h hc hcm => ?_⟩
      · refine (getReach_arg fam A n c w e4 e6).mono ?_
        rintro e w' ⟨he, rfl⟩
        exact getsP_none he (Below.refl _ _)
      · refine (docGetReach_arg fam A n c w e4 e6).mono ?_
        rintro e w' ⟨he, rfl⟩
        exact getsP_none he (Below.refl _ _)
theorem rd_congr {w : World} {A : Option Addr} {n : Nat} {z z' : Nat → Int} (h : Rd w A n z) (he : ∀ j, j < n → z j = z' j) (hz : ∀ j, 0 ≤ z' j ∧ z' j ≤ 255) : Rd w A n z' := by
  refine ⟨?_, hz⟩
  rcases h.1 with h0 | ⟨b, off, rfl, h1, h2, h3⟩
  · exact .inl h0
  · exact .inr ⟨b, off, rfl, h1, fun j hj => by rw [← he j hj]; exact h2 j hj, hz⟩
end Go.Proofs.Ytplfilghhgdffaa
