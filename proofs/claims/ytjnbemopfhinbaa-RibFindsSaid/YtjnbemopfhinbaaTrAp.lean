/- Two texts put together; each theorem states its conditions. -/
import Derived.Test.YtjnbemopfhinbaaTrRx
import Derived.Test.YtjnbemopfhinbaaTrK
import Derived.Test.YtjnbemopfhinbaaTrO
/- The order of a trie's list, and tries made of one list in two orders: plain facts for TrieOrder. Each theorem states its conditions. -/
namespace Go.Proofs.Ytjnbemopfhinbaa
open Go.RowKit
set_option linter.unusedVariables false
set_option linter.unusedSimpArgs false

def vlF (p : Pf) : Int := IntKind.i64.wrap (p.len + p.z 1)
/-- under each key stands the number of the rows that have it -/
def Vls (L : Nat → Pf) (i : Nat) (T : Ts) : Prop := ∀ (k : Bool × List Bool) (v : Int), T.G k = some v ↔ ∃ j : Nat, j < i ∧ kyF (L j) = some k ∧ v = vlF (L j)
theorem Vls.nil (L : Nat → Pf) : Vls L 0 ⟨.nil, .nil⟩ := fun k v => by
  obtain ⟨x, y⟩ := k
  constructor
  · intro h
    cases x
    · cases h
    · cases h
  · rintro ⟨j, h, _⟩
    exact absurd h (by omega)
theorem ky_val {x y : Pf} (hx : Bytes x.z) (hy : Bytes y.z) {k : Bool × List Bool} (h1 : kyF x = some k) (h2 : kyF y = some k) : vlF x = vlF y := by
  by_cases h : y.fam = x.fam ∧ y.len = x.len ∧ Same16 y.z x.z
  · unfold vlF; rw [h.2.1, h.2.2 1 (by omega)]
  · exact absurd h2 (ky_ne hy hx h k h1)
theorem Vls.step {L : Nat → Pf} {i : Nat} {T T' : Ts} (h : Vls L i T) (hb : ∀ j, Bytes (L j).z) (hg : ∀ q, T'.G q = if kyF (L i) = some q then some (vlF (L i)) else T.G q) : Vls L (i + 1) T' := fun k v => by
  rw [hg]
  by_cases e : kyF (L i) = some k
  · rw [if_pos e]
    constructor
    · intro hv
      exact ⟨i, by omega, e, (Option.some.inj hv).symm⟩
    · rintro ⟨j, _, h2, rfl⟩
      rw [ky_val (hb i) (hb j) e h2]
  · rw [if_neg e, h k v]
    constructor
    · rintro ⟨j, h1, h2⟩
      exact ⟨j, by omega, h2⟩
    · rintro ⟨j, h1, h2, h3⟩
      refine ⟨j, ?_, h2, h3⟩
      rcases Nat.lt_or_ge j i with h4 | h4
      · exact h4
      · exact absurd ((show j = i by omega) ▸ h2) e
/-- the same rows in two orders -/
theorem Vls.same {L M : Nat → Pf} {n : Nat} {T T' : Ts} (h : Vls L n T) (h' : Vls M n T') (hm : ∀ j, j < n → ∃ i, i < n ∧ M j = L i) (hl : ∀ j, j < n → ∃ i, i < n ∧ L j = M i) (k : Bool × List Bool) : T.G k = T'.G k := by
  have one : ∀ v, T.G k = some v ↔ T'.G k = some v := fun v => by
    rw [h k v, h' k v]
    constructor
    · rintro ⟨j, h1, h2, h3⟩
      obtain ⟨i, h4, h5⟩ := hl j h1
      exact ⟨i, h4, h5 ▸ h2, h5 ▸ h3⟩
    · rintro ⟨j, h1, h2, h3⟩
      obtain ⟨i, h4, h5⟩ := hm j h1
      exact ⟨i, h4, h5 ▸ h2, h5 ▸ h3⟩
  cases h1 : T.G k with
  | some v => exact ((one v).1 h1).symm
  | none =>
    cases h2 : T'.G k with
    | none => rfl
    | some v => rw [(one v).2 h2] at h1; cases h1
/-- two tries whose blocks are apart -/
def Apart (s : Nat) (T : Ts) (s' : Nat) (T' : Ts) : Prop := ∀ i, i ∈ s :: T.fp → i ∉ s' :: T'.fp
theorem Apart.left {w w' : World} {B s B' s' : Nat} {T T1 T' : Ts} {k : Option (Bool × List Bool)} {x : Option Int} (h : Apart s T s' T') (n : TsN B s T T1 k x w w') (hT' : TsAt w B' s' T') : Apart s T1 s' T' ∧ TsAt w' B' s' T' := by
  have hlt : ∀ i, i ∈ s' :: T'.fp → i < w.heap.size := fun i hi => by
    rcases List.mem_cons.1 hi with h1 | h1
    · exact h1 ▸ hT'.lt
    · exact hT'.fpl i h1
  refine ⟨fun i hi hm => ?_, hT'.kp n.kp (fun hm => h _ hm (List.mem_cons_self ..)) (fun y hy hm => h _ hm (List.mem_cons_of_mem _ hy))⟩
  rcases List.mem_cons.1 hi with h1 | h1
  · exact h i (h1 ▸ List.mem_cons_self ..) hm
  · rcases n.fp i h1 with h2 | h2
    · exact h i (List.mem_cons_of_mem _ h2) hm
    · have := hlt i hm; omega
theorem Apart.symm {s s' : Nat} {T T' : Ts} (h : Apart s T s' T') : Apart s' T' s T := fun i hi hm => h i hm hi
theorem Apart.right {w w' : World} {B s B' s' : Nat} {T T1 T' : Ts} {k : Option (Bool × List Bool)} {x : Option Int} (h : Apart s T s' T') (n : TsN B' s' T' T1 k x w w') (hT : TsAt w B s T) : Apart s T s' T1 ∧ TsAt w' B s T := by
  obtain ⟨h1, h2⟩ := h.symm.left n hT
  exact ⟨h1.symm, h2⟩
theorem Apart.new {w : World} {B s s' : Nat} {T : Ts} (hT : TsAt w B s T) (hs : w.heap.size ≤ s') : Apart s T s' ⟨.nil, .nil⟩ := fun i hi hm => by
  have h9 : i = s' := by simpa [Ts.fp, Ht.fp] using hm
  rcases List.mem_cons.1 hi with h1 | h1
  · have := hT.lt; omega
  · have := hT.fpl i h1; omega
end Go.Proofs.Ytjnbemopfhinbaa
/- Rows of prefixes, cut and put together. Each theorem states its conditions. -/
namespace Go.Proofs.Ytjnbemopfhinbaa
open Go.RowKit
set_option linter.unusedVariables false
set_option linter.unusedSimpArgs false

section
variable {ops : Array Oper} {Q : Exit → Act → World → Prop} {md : Region.Mode} {S : World → Prop}
end
theorem min60 (o : Oper) (e : Operand → Value) (x : Operand) (ho : o.op = .call { callee := .builtin .min, args := #[x, .const (.int .i64 60)], argTypes := #[3, 3] }) (m : Nat) (h0 : e x = .int .i64 (m : Int)) (hc : e (.const (.int .i64 60)) = .int .i64 60) (W : World) : (execOp e o).run Try.prog W = .ok (.value (.int .i64 ((min m 60 : Nat) : Int))) W :=
  min_runN o e x _ ho m 60 h0 hc W
theorem RdR.belowS {w w' : World} {A : Option Addr} {m s B : Nat} {C : Nat → Array Value} (h : RdR w A m s C) (hA : ∀ b o, A = some ⟨b, o, none⟩ → 0 < m → b < B) (hb : Below B w w') : RdR w' A m s C := by
  rcases Nat.eq_zero_or_pos m with h0 | h0
  · exact .inl h0
  · obtain ⟨b, o, e, h1⟩ := h.row h0
    exact .inr ⟨b, o, e, h1.below hb (hA b o e h0)⟩
end Go.Proofs.Ytjnbemopfhinbaa
