/- The order of a trie's list, and tries made of one list in two orders: plain facts for TrieOrder. Each theorem states its conditions. -/
import Derived.Test.YtjnbemopfhinbaaTrRx
import Derived.Test.YtjnbemopfhinbaaTrS
namespace Go.Proofs.Ytjnbemopfhinbaa
open Go.RowKit
set_option linter.unusedVariables false
set_option linter.unusedSimpArgs false

def vlF (p : Pf) : Int := IntKind.i64.wrap (p.len + p.z 1)
/-- under each key stands the number of the rows that have it -/
def Vls (L : Nat → Pf) (i : Nat) (T : Ts) : Prop := ∀ (k : Bool × List Bool) (v : Int), T.G k = some v ↔ ∃ j : Nat, j < i ∧ kyF (L j) = some k ∧ v = vlF (L j)
theorem Vls.nil (L : Nat → Pf) : Vls L 0 ⟨.nil, .nil⟩ := fun k v => by
  obtain ⟨x, y⟩ := k
  constructor
  · intro h
    cases x
    · cases h
    · cases h
  · rintro ⟨j, h, _⟩
    exact absurd h (by omega)
theorem ky_val {x y : Pf} (hx : Bytes x.z) (hy : Bytes y.z) {k : Bool × List Bool} (h1 : kyF x = some k) (h2 : kyF y = some k) : vlF x = vlF y := by
  by_cases h : y.fam = x.fam ∧ y.len = x.len ∧ Same16 y.z x.z
  · unfold vlF; rw [h.2.1, h.2.2 1 (by omega)]
  · exact absurd h2 (ky_ne hy hx h k h1)
theorem Vls.step {L : Nat → Pf} {i : Nat} {T T' : Ts} (h : Vls L i T) (hb : ∀ j, Bytes (L j).z) (hg : ∀ q, T'.G q = if kyF (L i) = some q then some (vlF (L i)) else T.G q) : Vls L (i + 1) T' := fun k v => by
  rw [hg]
  by_cases e : kyF (L i) = some k
  · rw [if_pos e]
    constructor
    · intro hv
      exact ⟨i, by omega, e, (Option.some.inj hv).symm⟩
    · rintro ⟨j, _, h2, rfl⟩
      rw [ky_val (hb i) (hb j) e h2]
  · rw [if_neg e, h k v]
    constructor
    · rintro ⟨j, h1, h2⟩
      exact ⟨j, by omega, h2⟩
    · rintro ⟨j, h1, h2, h3⟩
      refine ⟨j, ?_, h2, h3⟩
      rcases Nat.lt_or_ge j i with h4 | h4
      · exact h4
      · exact absurd ((show j = i by omega) ▸ h2) e
/-- the same rows in two orders -/
theorem Vls.same {L M : Nat → Pf} {n : Nat} {T T' : Ts} (h : Vls L n T) (h' : Vls M n T') (hm : ∀ j, j < n → ∃ i, i < n ∧ M j = L i) (hl : ∀ j, j < n → ∃ i, i < n ∧ L j = M i) (k : Bool × List Bool) : T.G k = T'.G k := by
  have one : ∀ v, T.G k = some v ↔ T'.G k = some v := fun v => by
    rw [h k v, h' k v]
    constructor
    · rintro ⟨j, h1, h2, h3⟩
      obtain ⟨i, h4, h5⟩ := hl j h1
      exact ⟨i, h4, h5 ▸ h2, h5 ▸ h3⟩
    · rintro ⟨j, h1, h2, h3⟩
      obtain ⟨i, h4, h5⟩ := hm j h1
      exact ⟨i, h4, h5 ▸ h2, h5 ▸ h3⟩
  cases h1 : T.G k with
  | some v => exact ((one v).1 h1).symm
  | none =>
    cases h2 : T'.G k with
    | none => rfl
    | some v => rw [(one v).2 h2] at h1; cases h1
/-- a list, turned by k -/
def rotL (L : Nat → Pf) (n k : Nat) (j : Nat) : Pf := if j < n - k then L (k + j) else L (j - (n - k))
theorem rot_1 (L : Nat → Pf) {n k : Nat} (hk : k ≤ n) : ∀ j, j < n → ∃ i, i < n ∧ rotL L n k j = L i := fun j hj => by
  unfold rotL
  by_cases h : j < n - k
  · rw [if_pos h]; exact ⟨k + j, by omega, rfl⟩
  · rw [if_neg h]; exact ⟨j - (n - k), by omega, rfl⟩
theorem rot_2 (L : Nat → Pf) {n k : Nat} (hk : k ≤ n) : ∀ j, j < n → ∃ i, i < n ∧ L j = rotL L n k i := fun j hj => by
  unfold rotL
  by_cases h : j < k
  · refine ⟨j + (n - k), by omega, ?_⟩
    rw [if_neg (by omega), Nat.add_sub_cancel]
  · refine ⟨j - k, by omega, ?_⟩
    rw [if_pos (by omega)]
    congr 1
    omega
theorem pf_len {fam : Int} {p : Pf} (h : PfOk fam p) : 0 ≤ p.len ∧ p.len ≤ 128 := by
  obtain ⟨_, _, n, h2, h3⟩ := h
  have := form_len h3
  omega
theorem bits_asc {fam : Int} : ∀ {S : List Pf}, (∀ p, p ∈ S → PfOk fam p) → (S.map (fun p => btP p.len.toNat p.z)).Pairwise (fun p q => Tr.ltB p q = true) → S.Pairwise (fun p q => keyP p.fam p.len p.z < keyP q.fam q.len q.z)
  | [], _, _ => .nil
  | p :: S, h, ha => by
    rw [List.map_cons, List.pairwise_cons] at ha
    refine List.pairwise_cons.2 ⟨fun q hq => ?_, bits_asc (fun p hp => h p (List.mem_cons_of_mem _ hp)) ha.2⟩
    have h1 := ha.1 _ (List.mem_map_of_mem hq)
    obtain ⟨a1, a2, n, a3, a4⟩ := h p (List.mem_cons_self ..)
    obtain ⟨b1, b2, m, b3, b4⟩ := h q (List.mem_cons_of_mem _ hq)
    rw [a3, b3, Int.toNat_natCast, Int.toNat_natCast] at h1
    rw [a1, b1, a3, b3]
    exact (key_ltB a2 b2 a4 b4).2 h1
theorem all_asc {w : World} {B s : Nat} {T : Ts} (h : TsAt w B s T) : T.all.Pairwise (fun p q => keyP p.fam p.len p.z < keyP q.fam q.len q.z) := by
  unfold Ts.all
  refine List.pairwise_append.2 ⟨bits_asc (hl_ok h.a4) ?_, bits_asc (hl_ok h.a6) ?_, fun p hp q hq => ?_⟩
  · rw [Ht.hl_bits]; exact Tr.lst_asc h.ok.o4
  · rw [Ht.hl_bits]; exact Tr.lst_asc h.ok.o6
  · have h1 := hl_ok h.a4 p hp
    have h2 := hl_ok h.a6 q hq
    exact lt_fam h1.2.1 h2.2.1 (pf_len h1) (pf_len h2) (by rw [h1.1, h2.1]; decide)
/-- the list's neighbours -/
theorem all_next {w : World} {B s : Nat} {T : Ts} (h : TsAt w B s T) (i : Nat) (hi : i + 1 < T.cnt) : cmp1 (keyP (T.all.getD i pf0).fam (T.all.getD i pf0).len (T.all.getD i pf0).z) (keyP (T.all.getD (i + 1) pf0).fam (T.all.getD (i + 1) pf0).len (T.all.getD (i + 1) pf0).z) = -1 := by
  rw [← T.all_len] at hi
  have h1 := List.pairwise_iff_getElem.1 (all_asc h) i (i + 1) (by omega) hi (by omega)
  rw [List.getD_eq_getElem?_getD, List.getD_eq_getElem?_getD, List.getElem?_eq_getElem hi, List.getElem?_eq_getElem (show i < T.all.length by omega), Option.getD_some, Option.getD_some]
  exact cmp1_lt h1
theorem all_form {w : World} {B s : Nat} {T : Ts} (h : TsAt w B s T) (i : Nat) (hi : i < T.cnt) : Form (T.all.getD i pf0).fam (T.all.getD i pf0).len (T.all.getD i pf0).z := by
  rw [← T.all_len] at hi
  rw [List.getD_eq_getElem?_getD, List.getElem?_eq_getElem hi, Option.getD_some]
  have hm : T.all[i] ∈ T.all := List.getElem_mem hi
  rcases List.mem_append.1 hm with h1 | h1
  · obtain ⟨a1, _, n, a3, a4⟩ := hl_ok h.a4 _ h1
    rw [a1, a3]; exact a4
  · obtain ⟨a1, _, n, a3, a4⟩ := hl_ok h.a6 _ h1
    rw [a1, a3]; exact a4
/-- two tries whose blocks are apart -/
def Apart (s : Nat) (T : Ts) (s' : Nat) (T' : Ts) : Prop := ∀ i, i ∈ s :: T.fp → i ∉ s' :: T'.fp
theorem Apart.left {w w' : World} {B s B' s' : Nat} {T T1 T' : Ts} {k : Option (Bool × List Bool)} {x : Option Int} (h : Apart s T s' T') (n : TsN B s T T1 k x w w') (hT' : TsAt w B' s' T') : Apart s T1 s' T' ∧ TsAt w' B' s' T' := by
  have hlt : ∀ i, i ∈ s' :: T'.fp → i < w.heap.size := fun i hi => by
    rcases List.mem_cons.1 hi with h1 | h1
    · exact h1 ▸ hT'.lt
    · exact hT'.fpl i h1
  refine ⟨fun i hi hm => ?_, hT'.kp n.kp (fun hm => h _ hm (List.mem_cons_self ..)) (fun y hy hm => h _ hm (List.mem_cons_of_mem _ hy))⟩
  rcases List.mem_cons.1 hi with h1 | h1
  · exact h i (h1 ▸ List.mem_cons_self ..) hm
  · rcases n.fp i h1 with h2 | h2
    · exact h i (List.mem_cons_of_mem _ h2) hm
    · have := hlt i hm; omega
theorem Apart.symm {s s' : Nat} {T T' : Ts} (h : Apart s T s' T') : Apart s' T' s T := fun i hi hm => h i hm hi
theorem Apart.right {w w' : World} {B s B' s' : Nat} {T T1 T' : Ts} {k : Option (Bool × List Bool)} {x : Option Int} (h : Apart s T s' T') (n : TsN B' s' T' T1 k x w w') (hT : TsAt w B s T) : Apart s T s' T1 ∧ TsAt w' B s T := by
  obtain ⟨h1, h2⟩ := h.symm.left n hT
  exact ⟨h1.symm, h2⟩
theorem Apart.new {w : World} {B s s' : Nat} {T : Ts} (hT : TsAt w B s T) (hs : w.heap.size ≤ s') : Apart s T s' ⟨.nil, .nil⟩ := fun i hi hm => by
  have h9 : i = s' := by simpa [Ts.fp, Ht.fp] using hm
  rcases List.mem_cons.1 hi with h1 | h1
  · have := hT.lt; omega
  · have := hT.fpl i h1; omega
end Go.Proofs.Ytjnbemopfhinbaa
