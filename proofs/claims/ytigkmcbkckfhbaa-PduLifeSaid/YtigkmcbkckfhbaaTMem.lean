/- Lists of types and values that a call reads: what is known of them. Each theorem states its conditions. -/
import Derived.Test.YtigkmcbkckfhbaaSpare
import Derived.Deep.QuietTactic
import Derived.Deep.RegionWith
import Derived.BigQuiet
namespace Go.Proofs.Ytigkmcbkckfhbaa
open Go.RowKit
set_option linter.unusedVariables false

/-- one of a list: its type, and its value: where it lies, how many bytes, the room, the bytes -/
structure It where
  ty : Int
  A : Option Addr
  n : Nat
  c : Nat
  z : Nat → Int

def ItOk (w : World) (t : It) : Prop := (0 ≤ t.ty ∧ t.ty ≤ 255) ∧ Rd w t.A t.n t.z ∧ (t.A = none → t.n = 0 ∧ t.c = 0) ∧ t.n ≤ 140737488351232

/-- m of them, from ⟨b, off⟩ on, two cells each -/
def RowT (w : World) (b off m : Nat) (L : Nat → It) : Prop :=
  b < w.heap.size ∧ ∀ j, j < m → w.cell? ⟨b, off + j * 2, none⟩ = some (.int .u8 (L j).ty) ∧ w.cell? ⟨b, off + j * 2 + 1, none⟩ = some (.slice (L j).A (L j).n (L j).c) ∧ ItOk w (L j)

/-- a list that can be read -/
def RdT (w : World) (A : Option Addr) (m : Nat) (L : Nat → It) : Prop := m = 0 ∨ ∃ b off, A = some ⟨b, off, none⟩ ∧ RowT w b off m L

theorem ItOk.below {w w' : World} {t : It} (h : ItOk w t) (hb : Below w.heap.size w w') : ItOk w' t := ⟨h.1, h.2.1.below hb rfl, h.2.2⟩
theorem RowT.below {w w' : World} {b off m : Nat} {L : Nat → It} (h : RowT w b off m L) (hb : Below w.heap.size w w') : RowT w' b off m L := by
  refine ⟨?_, fun j hj => ?_⟩
  · have := hb.size; have := h.1; omega
  · obtain ⟨h1, h2, h3⟩ := h.2 j hj
    exact ⟨(hb.cell (p := ⟨b, off + j * 2, none⟩) h.1).trans h1, (hb.cell (p := ⟨b, off + j * 2 + 1, none⟩) h.1).trans h2, h3.below hb⟩
theorem RdT.below {w w' : World} {A : Option Addr} {m : Nat} {L : Nat → It} (h : RdT w A m L) (hb : Below w.heap.size w w') : RdT w' A m L := by
  rcases h with h | ⟨b, off, rfl, h⟩
  · exact .inl h
  · exact .inr ⟨b, off, rfl, h.below hb⟩
theorem RdT.row {w : World} {A : Option Addr} {m : Nat} {L : Nat → It} (h : RdT w A m L) (hm : 0 < m) : ∃ b off, A = some ⟨b, off, none⟩ ∧ RowT w b off m L := by
  rcases h with h | h
  · omega
  · exact h
theorem Rd.draws {w : World} {A : Option Addr} {n : Nat} {z : Nat → Int} (h : Rd w A n z) (k : Nat) : Rd (w.drewN k) A n z := h

set_option maxHeartbeats 1000000 in
theorem sameL_yes (A B : Option Addr) (m c d : Nat) (L L' : Nat → It) (w : World) (ha : RdT w A m L) (hb : RdT w B m L')
    (he : ∀ j, j < m → (L j).ty = (L' j).ty ∧ (L j).n = (L' j).n ∧ ∀ i, i < (L j).n → (L j).z i = (L' j).z i) (hm : m ≤ 9223372036854775807) :
    Calls Try.prog 15 #[.slice A m c, .slice B m d] w fun e w' => e = .returned (.bool true) ∧ ∃ k, w' = w.drewN k := by
  rcases Nat.eq_zero_or_pos m with rfl | hn
  · clear ha hb he
    go_enter Try.func15, Try.ntmps15
    go_wp2
    refine wp_loop_rounds 1 ?_
    rw [rounds_succ]
    go_wp2
    go_ret
    exact ⟨rfl, 0, rfl⟩
  · obtain ⟨b, off, rfl, hr⟩ := ha.row hn
    obtain ⟨b', off', rfl, hr'⟩ := hb.row hn
    have HR := Lib.hid hr
    have HR' := Lib.hid hr'
    have HE := Lib.hid he
    clear ha hb hr hr' he
    go_enter Try.func15, Try.ntmps15
    go_wp2
    go_loopw [13] (fun t wr => ∃ k r : Nat, k ≤ m ∧ t = .int .i64 k ∧ Hid (wr = w.drewN r)) (fun t _ => m - (intOf t).toNat)
    case atStart => exact ⟨0, 0, by omega, rfl, Lib.hid rfl⟩
    case round =>
      obtain ⟨k, r, hk, rfl, hw⟩ := hrel
      by_cases hlt : k < m
      · have h1 : RowT wr b off m L := by rw [hw.out]; exact HR.out
        have h2 : RowT wr b' off' m L' := by rw [hw.out]; exact HR'.out
        obtain ⟨g1, g2, g3⟩ := h1.2 k hlt
        obtain ⟨g1', g2', g3'⟩ := h2.2 k hlt
        obtain ⟨e1, e2, e3⟩ := HE.out k hlt
        have H := Lib.hid (fun (q : Nat) c d => same_yes (L k).A (L' k).A (L k).n c d (L k).z (L' k).z (wr.drewN q) (Rd.draws g3.2.1 q) (Rd.draws (by rw [e2]; exact g3'.2.1) q) e3 (by have := g3.2.2.2; omega))
        rw [← e1] at g1'
        rw [← e2] at g2'
        clear h1 h2 e1 e2 e3 g3 g3'
        go_wp2_with fail
        go_quiet (first | (go_at_call 14; exact Calls.quiet_of (H.out _ _ _)))
        go_wp2
        go_roundw
        case rel => exact ⟨k + 1, r + nq, by omega, by go_num, Lib.hid (by rw [hw.out, World.drewN_drewN])⟩
        case measure => simp [intOf]; omega
      · obtain rfl : k = m := by omega
        go_wp2
        go_ret
        exact ⟨rfl, r, hw.out⟩
end Go.Proofs.Ytigkmcbkckfhbaa
