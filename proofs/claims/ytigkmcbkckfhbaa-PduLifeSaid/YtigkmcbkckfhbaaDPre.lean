/- bytes.Equal and bytes.HasPrefix. Each theorem states its conditions. -/
import Derived.Test.YtigkmcbkckfhbaaDSign
import Derived.Test.YtigkmcbkckfhbaaDGetN1
import Derived.Laws.IdiomStrings
namespace Go.Proofs.Ytigkmcbkckfhbaa
open Go.RowKit
set_option linter.unusedVariables false

def bsL (z : Nat → Int) (n : Nat) : List UInt8 := (List.range n).map fun j => UInt8.ofNat (z j).toNat
def bsS (z : Nat → Int) (n : Nat) : ByteArray := ⟨(bsL z n).toArray⟩
theorem bsL_len (z : Nat → Int) (n : Nat) : (bsL z n).length = n := by simp [bsL]
theorem bsL_at (z : Nat → Int) (hz : ∀ j, 0 ≤ z j ∧ z j ≤ 255) (n j : Nat) (h : j < (bsL z n).length) : (((bsL z n)[j]).toNat : Int) = z j := by
  have := hz j
  simp [bsL]
  omega
theorem conv_row {w : World} {b off n : Nat} {z : Nat → Int} (h : Row8 w b off n z) (c : Nat) : (convert 35 9 (.slice (some ⟨b, off, none⟩) n c)).run Try.prog w = .ok (.string (bsS z n)) w := by
  have := run_convert_bytes_back (P := Try.prog) w 35 9 5 ⟨b, off, none⟩ c (bsL z n) Try.underlying35 Try.underlying5 Try.underlying9 (fun j hj => by
    rw [add_none, bsL_at z h.2.2 n j hj]
    exact h.2.1 j (by rwa [bsL_len] at hj))
  rw [bsL_len] at this
  exact this
theorem bsS_eq {z z' : Nat → Int} {n : Nat} (h : ∀ j, j < n → z j = z' j) : bsS z n = bsS z' n := by
  unfold bsS bsL
  congr 2
  apply List.map_congr_left
  intro j hj
  rw [h j (by simpa using hj)]
theorem bsS_inj {z z' : Nat → Int} {n : Nat} (hz : ∀ j, 0 ≤ z j ∧ z j ≤ 255) (hz' : ∀ j, 0 ≤ z' j ∧ z' j ≤ 255) (h : bsS z n = bsS z' n) : ∀ j, j < n → z j = z' j := by
  intro j hj
  have e : bsL z n = bsL z' n := by
    have := congrArg (fun s : ByteArray => s.data.toList) h
    simpa [bsS] using this
  have h1 := bsL_at z hz n j (by rw [bsL_len]; exact hj)
  have h2 := bsL_at z' hz' n j (by rw [bsL_len]; exact hj)
  rw [← h1, ← h2]
  simp only [e]
/-- the first n bytes are the same -/
def eqB (z z' : Nat → Int) (n : Nat) : Bool := bsL z n == bsL z' n
theorem eqB_list (z z' : Nat → Int) (n : Nat) : ((bsS z n).toList == (bsS z' n).toList) = eqB z z' n := by
  rw [ByteArray.toList_eq, ByteArray.toList_eq]
  rfl
theorem eqB_iff {z z' : Nat → Int} {n : Nat} (hz : ∀ j, 0 ≤ z j ∧ z j ≤ 255) (hz' : ∀ j, 0 ≤ z' j ∧ z' j ≤ 255) : eqB z z' n = true ↔ ∀ j, j < n → z j = z' j := by
  unfold eqB
  rw [beq_iff_eq]
  constructor
  · intro e
    exact bsS_inj hz hz' (by unfold bsS; rw [e])
  · intro h
    have := bsS_eq h
    unfold bsS at this
    have h2 := congrArg (fun s : ByteArray => s.data.toList) this
    simpa using h2
theorem equal_any (b off n c g off' c' : Nat) (z z' : Nat → Int) (r : Bool) (w : World) (h : Row8 w b off n z) (h' : Row8 w g off' n z') (hr : eqB z z' n = r) :
    Calls Try.prog 76 #[.slice (some ⟨b, off, none⟩) n c, .slice (some ⟨g, off', none⟩) n c'] w fun e w' => e = .returned (.bool r) ∧ w = w' := by
  have h1 := conv_row h c
  have h2 := conv_row h' c'
  rw [← eqB_list] at hr
  obtain ⟨s, hs⟩ : ∃ s, bsS z n = s := ⟨_, rfl⟩
  obtain ⟨t, ht⟩ : ∃ t, bsS z' n = t := ⟨_, rfl⟩
  rw [hs] at h1 hr
  rw [ht] at h2 hr
  have HR := Lib.hid hr
  clear h h' hs ht hr
  obtain ⟨q, hq⟩ : ∃ q, (s.toList == t.toList) = q := ⟨_, rfl⟩
  have HQ : Hid (q = r) := Lib.hid (by rw [← hq]; exact HR.out)
  clear HR
  go_enter Try.func76, Try.ntmps76
  go_wp2_with fail
  go_ret
  exact ⟨by rw [← HQ.out]; rfl, rfl⟩
theorem starts_any (b off n c g c' : Nat) (z z' : Nat → Int) (r : Bool) (w : World) (h : Row8 w b off n z) (h' : Row8 w g 0 8 z') (hr : eqB z z' 8 = r) (hn : 8 ≤ n) (hc : n ≤ c) (hcm : c ≤ 9223372036854775807) :
    Calls Try.prog 66 #[.slice (some ⟨b, off, none⟩) n c, .slice (some ⟨g, 0, none⟩) 8 c'] w fun e w' => e = .returned (.bool r) ∧ w = w' := by
  have HE := Lib.hid (equal_any b off 8 c g 0 c' z z' r w (h.cut 8 hn) h' hr)
  clear h h' hr
  go_enter Try.func66, Try.ntmps66
  go_wp2_with fail
  refine HE.out.mono ?_
  rintro e w1 ⟨rfl, rfl⟩
  go_wp2_with fail
  go_ret
  exact ⟨rfl, rfl⟩
end Go.Proofs.Ytigkmcbkckfhbaa
