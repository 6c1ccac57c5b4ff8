/- bytes.Equal; whether two sides share an area, by the program and by the document. Each theorem states its conditions. -/
import Derived.Test.YthmnbhmficdifaaAStr
import Derived.Laws.IdiomStrings
import Derived.Laws.BytesArg
namespace Go.Proofs.Ythmnbhmficdifaa
open Go.RowKit
set_option linter.unusedVariables false

def bsL (z : Nat → Int) (n : Nat) : List UInt8 := (List.range n).map fun j => UInt8.ofNat (z j).toNat
def bsS (z : Nat → Int) (n : Nat) : ByteArray := ⟨(bsL z n).toArray⟩
theorem bsL_len (z : Nat → Int) (n : Nat) : (bsL z n).length = n := by simp [bsL]
theorem bsL_at (z : Nat → Int) (hz : ∀ j, 0 ≤ z j ∧ z j ≤ 255) (n j : Nat) (h : j < (bsL z n).length) : (((bsL z n)[j]).toNat : Int) = z j := by
  have := hz j
  simp [bsL]
  omega
theorem conv_sl {w : World} {t : Sl} (h : SlOk w t) : (convert 49 9 (.slice t.A t.n t.c)).run Try.prog w = .ok (.string (bsS t.z t.n)) w := by
  obtain ⟨A, n, c, z⟩ := t
  obtain ⟨h1, h2, h3⟩ := h
  rcases A with _ | ⟨b, off, sp⟩
  · obtain ⟨h4, h5⟩ := h2 rfl
    simp only at h4 h5
    subst h4 h5
    have := run_convert_bytes_nil (P := Try.prog) (w := w) (dst := 9) 49 5 Try.underlying49 Try.underlying5 0 0
    first | exact this | exact this Try.underlying9 | simpa using this
  · have := run_convert_bytes_back (P := Try.prog) w 49 9 5 ⟨b, off, sp⟩ c (bsL z n) Try.underlying49 Try.underlying5 Try.underlying9 (fun j hj => by
      have hn : 0 < n := by rw [bsL_len] at hj; omega
      obtain ⟨b', off', e, hr⟩ := h1.row hn
      injection e with e
      injection e with e1 e2 e3
      subst e1 e2 e3
      have hadd : (⟨b, off, none⟩ : Addr).add j = ⟨b, off + j, none⟩ := by unfold Addr.add; split <;> simp_all
      rw [hadd, bsL_at z h1.2 n j hj]
      exact hr.2.1 j (by rwa [bsL_len] at hj))
    rw [bsL_len] at this
    exact this
/-- the same bytes? -/
def sB (a b : Sl) : Bool := bsL a.z a.n == bsL b.z b.n
theorem sB_iff {a b : Sl} (ha : ∀ j, 0 ≤ a.z j ∧ a.z j ≤ 255) (hb : ∀ j, 0 ≤ b.z j ∧ b.z j ≤ 255) : sB a b = true ↔ sameS a b := by
  unfold sB sameS
  rw [beq_iff_eq]
  constructor
  · intro e
    have hl : a.n = b.n := by rw [← bsL_len a.z a.n, e, bsL_len]
    refine ⟨hl, fun i hi => ?_⟩
    have h1 := bsL_at a.z ha a.n i (by rw [bsL_len]; exact hi)
    have h2 := bsL_at b.z hb b.n i (by rw [bsL_len]; omega)
    rw [← h1, ← h2]
    simp only [e]
  · rintro ⟨hl, h⟩
    unfold bsL
    rw [← hl]
    apply List.map_congr_left
    intro j hj
    rw [h j (by simpa using hj)]
theorem sB_list (a b : Sl) : ((bsS a.z a.n).toList == (bsS b.z b.n).toList) = sB a b := by
  rw [ByteArray.toList_eq, ByteArray.toList_eq]
  rfl
theorem equalS_any (a b : Sl) (r : Bool) (w : World) (h : SlOk w a) (h' : SlOk w b) (hr : sB a b = r) :
    Calls Try.prog 41 #[.slice a.A a.n a.c, .slice b.A b.n b.c] w fun e w' => e = .returned (.bool r) ∧ w = w' := by
  have h1 := conv_sl h
  have h2 := conv_sl h'
  rw [← sB_list] at hr
  obtain ⟨s, hs⟩ : ∃ s, bsS a.z a.n = s := ⟨_, rfl⟩
  obtain ⟨t, ht⟩ : ∃ t, bsS b.z b.n = t := ⟨_, rfl⟩
  rw [hs] at h1 hr
  rw [ht] at h2 hr
  have HR := Lib.hid hr
  clear h h' hs ht hr
  obtain ⟨q, hq⟩ : ∃ q, (s.toList == t.toList) = q := ⟨_, rfl⟩
  have HQ : Hid (q = r) := Lib.hid (by rw [← hq]; exact HR.out)
  clear HR
  go_enter Try.func41, Try.ntmps41
  go_wp2_with fail
  go_ret
  exact ⟨by rw [← HQ.out]; rfl, rfl⟩
/-- some of the one is some of the other -/
def Shr (L : Nat → Sl) (m : Nat) (H : Nat → Sl) (k : Nat) : Prop := ∃ i, i < m ∧ ∃ j, j < k ∧ sameS (L i) (H j)
noncomputable def shB (L : Nat → Sl) (m : Nat) (H : Nat → Sl) (k : Nat) : Bool := @decide (Shr L m H k) (Classical.propDecidable _)
theorem shB_yes {L : Nat → Sl} {m : Nat} {H : Nat → Sl} {k : Nat} (h : Shr L m H k) : shB L m H k = true := by unfold shB; exact @decide_eq_true _ (Classical.propDecidable _) h
theorem shB_no {L : Nat → Sl} {m : Nat} {H : Nat → Sl} {k : Nat} (h : ¬ Shr L m H k) : shB L m H k = false := by unfold shB; exact @decide_eq_false _ (Classical.propDecidable _) h
theorem shB_alike {L L' : Nat → Sl} {m : Nat} {H H' : Nat → Sl} {k : Nat} (h : ∀ i, i < m → sameS (L i) (L' i)) (h' : ∀ i, i < k → sameS (H i) (H' i)) : shB L m H k = shB L' m H' k := by
  by_cases hs : Shr L m H k
  · rw [shB_yes hs]
    obtain ⟨i, hi, j, hj, e⟩ := hs
    exact (shB_yes ⟨i, hi, j, hj, ((h i hi).symm.trans e).trans (h' j hj)⟩).symm
  · rw [shB_no hs, shB_no]
    rintro ⟨i, hi, j, hj, e⟩
    exact hs ⟨i, hi, j, hj, ((h i hi).trans e).trans (h' j hj).symm⟩
theorem RdS.ok {w : World} {A : Option Addr} {m : Nat} {L : Nat → Sl} (h : RdS w A m L) {j : Nat} (hj : j < m) : SlOk w (L j) := by
  obtain ⟨b, off, _, hr⟩ := h.row (by omega)
  exact (hr.2 j hj).2

set_option maxHeartbeats 4000000 in
set_option maxRecDepth 100000 in
theorem share_any (A B : Option Addr) (m c k d : Nat) (L H : Nat → Sl) (w : World) (ha : RdS w A m L) (hb : RdS w B k H) (hm : m ≤ 9223372036854775807) (hk : k ≤ 9223372036854775807) :
    Calls Try.prog 39 #[.slice A m c, .slice B k d] w fun e w' => e = .returned (.bool (shB L m H k)) ∧ w = w' := by
  have HA := Lib.hid ha
  have HB := Lib.hid hb
  clear ha hb
  go_enter Try.func39, Try.ntmps39
  go_wp2_with fail
  go_loop [11] (fun t => ∃ i : Nat, i ≤ m ∧ t = .int .i64 i ∧ Hid (∀ i', i' < i → ∀ j, j < k → ¬ sameS (L i') (H j))) (fun t => m - (intOf t).toNat)
  case atStart => exact ⟨0, by omega, rfl, Lib.hid (fun _ h => by omega)⟩
  case round =>
    obtain ⟨i, hi, rfl, hno⟩ := hrel
    by_cases hlt : i < m
    · obtain ⟨b, off, rfl, hr⟩ := HA.out.row (by omega)
      obtain ⟨c0, o0⟩ := hr.2 i hlt
      have HO0 := Lib.hid o0
      clear hr o0
      go_wp2_with fail
      go_loop [17] (fun t => ∃ j : Nat, j ≤ k ∧ t = .int .i64 j ∧ Hid (∀ j', j' < j → ¬ sameS (L i) (H j'))) (fun t => k - (intOf t).toNat)
      case atStart => exact ⟨0, by omega, rfl, Lib.hid (fun _ h => by omega)⟩
      case round =>
        obtain ⟨j, hj, rfl, hnj⟩ := hrel
        by_cases hlj : j < k
        · obtain ⟨b', off', rfl, hr'⟩ := HB.out.row (by omega)
          obtain ⟨c1, o1⟩ := hr'.2 j hlj
          have HIF := Lib.hid (sB_iff HO0.out.1.2 o1.1.2)
          have HE := Lib.hid (fun r hr => equalS_any (L i) (H j) r w HO0.out o1 hr)
          clear hr' o1
          cases hq : sB (L i) (H j)
          · have hf : ¬ sameS (L i) (H j) := fun h => by rw [HIF.out.2 h] at hq; cases hq
            have HE2 := Lib.hid (HE.out _ hq)
            have hnj2 : Hid (∀ j', j' < j + 1 → ¬ sameS (L i) (H j')) := Lib.hid (fun j' h => by
              by_cases e : j' = j
              · subst e; exact hf
              · exact hnj.out j' (by omega))
            clear hq hf HE HIF
            go_wp2_with fail
            refine HE2.out.mono ?_
            rintro e w1 ⟨rfl, rfl⟩
            go_wp2_with fail
            go_round
            case rel => exact ⟨j + 1, by omega, by go_num, hnj2⟩
            case measure => simp [intOf]; omega
          · have hs := HIF.out.1 hq
            have HE2 := Lib.hid (HE.out _ hq)
            have HS : Hid (shB L m H k = true) := Lib.hid (shB_yes ⟨i, hlt, j, hlj, hs⟩)
            clear hq hs HE HIF
            go_wp2_with fail
            refine HE2.out.mono ?_
            rintro e w1 ⟨rfl, rfl⟩
            go_wp2_with fail
            go_ret
            exact ⟨by rw [HS.out]; rfl, rfl⟩
        · obtain rfl : j = k := by omega
          have hno2 : Hid (∀ i', i' < i + 1 → ∀ j', j' < j → ¬ sameS (L i') (H j')) := Lib.hid (fun i' h => by
            by_cases e : i' = i
            · subst e; exact hnj.out
            · exact hno.out i' (by omega))
          go_wp2_with fail
          go_round
          case rel => exact ⟨i + 1, by omega, by go_num, hno2⟩
          case measure => simp [intOf]; omega
    · obtain rfl : i = m := by omega
      have HS : Hid (shB L i H k = false) := Lib.hid (shB_no (fun ⟨i', h1, j, h2, h3⟩ => hno.out i' h1 j h2 h3))
      go_wp2_with fail
      go_ret
      exact ⟨by rw [HS.out]; rfl, rfl⟩
end Go.Proofs.Ythmnbhmficdifaa
