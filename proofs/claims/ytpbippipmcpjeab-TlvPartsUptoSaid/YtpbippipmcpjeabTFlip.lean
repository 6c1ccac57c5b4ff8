/- What becomes of a list of the call's own while its values' bytes are turned; what Split and DocSplit answer of too many bytes. Each theorem states its conditions. -/
import Derived.Test.YtpbippipmcpjeabTAwake
import Derived.Test.YtpbippipmcpjeabTDoc
namespace Go.Proofs.Ytpbippipmcpjeab
open Go.RowKit
set_option linter.unusedVariables false

theorem split_long (A : Option Addr) (n c : Nat) (w : World) (hn : 1492 < n) :
    Calls Try.prog 16 #[.slice A n c] w fun e w' => e = .returned (.tuple #[.slice none 0 0, .int .i64 2]) ∧ w = w' := by
  have h : (1492 : Int) < (n : Int) := by omega
  go_enter Try.func16, Try.ntmps16
  go_wp2
  go_ret2
  exact ⟨rfl, rfl⟩
theorem docsplit_long (A : Option Addr) (n c : Nat) (w : World) (hn : 1492 < n) :
    Calls Try.prog 18 #[.slice A n c] w fun e w' => e = .returned (.tuple #[.slice none 0 0, .int .i64 2]) ∧ w = w' := by
  have h : (1492 : Int) < (n : Int) := by omega
  go_enter Try.func18, Try.ntmps18
  go_wp2
  go_ret2
  exact ⟨rfl, rfl⟩

/-- block g holds n bytes, whichever -/
def Some8 (w : World) (g n cap : Nat) : Prop := ∃ z, Own8 w g n cap z
theorem Some8.put {w : World} {g n cap : Nat} (h : Some8 w g n cap) (g' k : Nat) (v : Int) (hv : 0 ≤ v ∧ v ≤ 255) : Some8 (w.setCell ⟨g', k, none⟩ (.int .u8 v)) g n cap := by
  obtain ⟨z, h⟩ := h
  by_cases e : g = g'
  · subst e
    by_cases hk : k < n
    · exact ⟨_, h.put k hk v hv⟩
    · obtain ⟨⟨cur, hg, h1, h2, h3, h4⟩, h5⟩ := h
      refine ⟨z, ⟨cur.setIfInBounds k (.int .u8 v), ?_, h1, h2, by simpa using h3, fun j hj => ?_⟩, h5⟩
      · simp [World.setCell, Array.getElem?_modify, hg]
      · rw [Array.getElem?_setIfInBounds, if_neg (by omega)]
        exact h4 j hj
  · exact ⟨z, h.far e _⟩
/-- a list of the call's own, whose values hold whichever bytes -/
def OwnW (w : World) (base : Nat) (v : Value) (m : Nat) (K : Nat → It) : Prop :=
  w.ownsRow base 27 2 v m (cellsT K m) ∧ ∀ j, j < m → ∃ g, (K j).A = some ⟨g, 0, none⟩ ∧ base ≤ g ∧ Some8 w g (K j).n (K j).c
theorem OwnT.whichever {w : World} {base m : Nat} {v : Value} {L : Nat → It} (h : OwnT w base v m L) : OwnW w base v m L :=
  ⟨h.1, fun j hj => by obtain ⟨_, _, g, h1, h2, h3⟩ := h.2 j hj; exact ⟨g, h1, h2, _, h3⟩⟩
theorem OwnW.drew {w : World} {base m : Nat} {v : Value} {L : Nat → It} (h : OwnW w base v m L) (r : Nat) : OwnW (w.drewN r) base v m L := h
theorem OwnW.put {w : World} {base m : Nat} {v : Value} {K : Nat → It} (h : OwnW w base v m K) (k : Nat) (hk : k < m) (g : Nat) (hg : (K k).A = some ⟨g, 0, none⟩) (i : Nat) (x : Int) (hx : 0 ≤ x ∧ x ≤ 255) :
    OwnW (w.setCell ⟨g, i, none⟩ (.int .u8 x)) base v m K := by
  refine ⟨⟨h.1.1, ?_⟩, fun j hj => ?_⟩
  · rcases h.1.2 with h0 | ⟨b, cap, cur, hv, hb, hc, r⟩
    · exact .inl h0
    · refine .inr ⟨b, cap, cur, hv, hb, ?_, r⟩
      obtain ⟨g', hg', _, z, ⟨cur', hc', _⟩, _⟩ := h.2 k hk
      rw [hg] at hg'
      injection hg' with hg'
      injection hg' with hg'
      subst hg'
      have hne : b ≠ g := by
        intro e; subst e
        rw [hc] at hc'
        simp at hc'
      rw [Below.heap_setCell w _ _ b (by simpa using hne)]
      exact hc
  · obtain ⟨g', h1, h2, h3⟩ := h.2 j hj
    exact ⟨g', h1, h2, h3.put g i x hx⟩
/-- item k: its cell, its bytes -/
theorem OwnW.at {w : World} {base m : Nat} {v : Value} {K : Nat → It} (h : OwnW w base v m K) (k : Nat) (hk : k < m) :
    ∃ b c g, v = .slice (some ⟨b, 0, none⟩) m c ∧ w.cell? ⟨b, k * 2 + 1, none⟩ = some (.slice (some ⟨g, 0, none⟩) (K k).n (K k).c) ∧ (K k).A = some ⟨g, 0, none⟩ ∧ base ≤ g ∧
      ∀ i, i < (K k).n → ∃ x, 0 ≤ x ∧ x ≤ 255 ∧ w.cell? ⟨g, i, none⟩ = some (.int .u8 x) ∧ w.frozen? ⟨g, i, none⟩ = false := by
  obtain ⟨g, hg, hb, z, ho⟩ := h.2 k hk
  rcases h.1.2 with ⟨_, h0⟩ | ⟨b, cap, cur, hv, hbb, hc, h1, h2, h3, h4⟩
  · omega
  · refine ⟨b, cap, g, hv, ?_, hg, hb, fun i hi => ⟨z i, (ho.2 i).1, (ho.2 i).2, own_at ho i hi, ho.free i⟩⟩
    have hx := (cellsT_at K m k hk).2
    rw [← h4, List.getElem?_take, if_pos (by omega), hg] at hx
    rw [cell_of_row w b _ cur _ (0, 0) hc]
    simpa using hx
theorem xor1_bd (x : Int) (h : 0 ≤ x ∧ x ≤ 255) : 0 ≤ bits .xor .u8 x 1 ∧ bits .xor .u8 x 1 ≤ 255 := by
  obtain ⟨n, rfl⟩ := Int.eq_ofNat_of_zero_le h.1
  have hn : n < 256 := by omega
  have : ∀ n : Nat, n < 256 → 0 ≤ bits .xor .u8 (n : Int) 1 ∧ bits .xor .u8 (n : Int) 1 ≤ 255 := by decide +kernel
  exact this n hn
end Go.Proofs.Ytpbippipmcpjeab
