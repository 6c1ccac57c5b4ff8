/- Two texts put together; each theorem states its conditions. -/
import Derived.Test.YtjnbemopfhinbaaRbB
import Derived.Test.YtjnbemopfhinbaaRbSm
/- What a table of routes has: plain facts. Each theorem states its conditions. -/
namespace Go.Proofs.Ytjnbemopfhinbaa
open Go.RowKit
set_option linter.unusedVariables false
set_option linter.unusedSimpArgs false

section
variable {n : Nat} {X : Nat → Rx} {S : List Rx}
theorem PermX.len (h : PermX n X S) : S.length = n := by
  obtain ⟨R, h1, h2, _⟩ := h
  exact h1.length_eq.trans h2
theorem PermX.to (h : PermX n X S) : ∀ i, i < n → ∃ j, j < n ∧ (S.getD i rx0).r = (X j).r := fun i hi => by
  have hl := h.len
  obtain ⟨R, h1, h2, h3⟩ := h
  have hm := h1.mem_iff.1 (S_mem hl hi)
  obtain ⟨j, hj, e⟩ := List.getElem_of_mem hm
  refine ⟨j, by omega, ?_⟩
  have h4 := h3 j (by omega)
  rw [List.getD_eq_getElem?_getD, List.getElem?_eq_getElem hj, Option.getD_some, e] at h4
  exact h4
theorem PermX.of (h : PermX n X S) : ∀ j, j < n → ∃ i, i < n ∧ (S.getD i rx0).r = (X j).r := fun j hj => by
  have hl := h.len
  obtain ⟨R, h1, h2, h3⟩ := h
  have hm := h1.mem_iff.2 (S_mem (S := R) h2 hj)
  obtain ⟨i, hi, e⟩ := List.getElem_of_mem hm
  refine ⟨i, by omega, ?_⟩
  rw [List.getD_eq_getElem?_getD, List.getElem?_eq_getElem hi, Option.getD_some, e]
  exact h3 j hj
/-- no two of one prefix, in whatever order -/
theorem PermX.nodup (h : PermX n X S) (hx : ∀ i j, i < j → j < n → kyF (X i).r.p ≠ kyF (X j).r.p) : ∀ i j, i < j → j < n → kyF (S.getD i rx0).r.p ≠ kyF (S.getD j rx0).r.p := by
  have hl := h.len
  obtain ⟨R, h1, h2, h3⟩ := h
  have hR : R.Pairwise (fun x y => kyF x.r.p ≠ kyF y.r.p) := by
    rw [List.pairwise_iff_getElem]
    intro i j hi hj hij
    have e : ∀ q (hq : q < R.length), R[q].r = (X q).r := fun q hq => by
      have := h3 q (by omega)
      rw [List.getD_eq_getElem?_getD, List.getElem?_eq_getElem hq, Option.getD_some] at this
      exact this
    rw [e i hi, e j hj]
    exact hx i j hij (by omega)
  have hS : S.Pairwise (fun x y => kyF x.r.p ≠ kyF y.r.p) := (List.Perm.pairwise_iff (fun {x y} h => fun e => h e.symm) h1).2 hR
  intro i j hij hj
  rw [List.pairwise_iff_getElem] at hS
  have := hS i j (by omega) (by omega) hij
  rw [List.getD_eq_getElem?_getD, List.getD_eq_getElem?_getD, List.getElem?_eq_getElem (by omega : i < S.length), List.getElem?_eq_getElem (by omega : j < S.length)]
  exact this
end
/-- the places are told as by the last one of each prefix -/
theorem TabAt.lst {w : World} {t s n c : Nat} {A : Option Addr} {S : List Rx} {T : Ts} (h : TabAt w t s n A c S T) : Lst (fun i => (S.getD i rx0).r.p) n T := ⟨fun k v hg => by
  obtain ⟨i, h1, h2, h3⟩ := h.ix k v hg
  refine ⟨i, h2, h1, h3, fun j hij hj e => ?_⟩
  obtain ⟨k', h4, h5⟩ := h.all j hj
  have e9 : some k' = some k := h4.symm.trans e
  cases e9
  rw [hg, h1] at h5
  have := Int.ofNat.inj (Option.some.inj h5)
  omega, fun i hi k hk => by
  obtain ⟨k', h4, h5⟩ := h.all i hi
  have e9 : some k' = some k := h4.symm.trans hk
  cases e9
  rw [h5]; simp⟩
/-- what Find comes to: the longest that covers the address -/
theorem TabAt.fnd {w : World} {t s n c : Nat} {A : Option Addr} {S : List Rx} {T : Ts} (h : TabAt w t s n A c S T) (hb : ∀ i, Bytes (S.getD i rx0).r.p.z) (pl : Bool) {z : Nat → Int} (hz : Bytes z) : Fnd (fun i => (S.getD i rx0).r.p) n T pl z (T.FA (famB pl) z) := fnd_of h.lst h.tr.ok hb pl hz
end Go.Proofs.Ytjnbemopfhinbaa
/- A table and the one with a route more, to the prefix of no bits: plain facts. Each theorem states its conditions. -/
namespace Go.Proofs.Ytjnbemopfhinbaa
open Go.RowKit
set_option linter.unusedVariables false
set_option linter.unusedSimpArgs false

/-- the route to the prefix of no bits -/
def xall (f : Int) : Rx := ⟨⟨⟨f, 0, Z0⟩, 4, 7, 0, fun _ => hp0⟩, none, 0⟩
theorem root_sized (pl : Bool) : Sized (famB pl) ((0 : Nat) : Int) := by
  cases pl
  · exact Or.inl ⟨rfl, by omega, by omega⟩
  · exact Or.inr ⟨rfl, by omega, by omega⟩
theorem root_form (pl : Bool) : Form (famB pl) ((0 : Nat) : Int) Z0 := (form_same _ 0 Z0).2 ⟨root_sized pl, fun j hj => by unfold firstZ Z0; simp⟩
theorem root_key (pl : Bool) : kyF ⟨famB pl, 0, Z0⟩ = some (pl, []) := by
  obtain ⟨p, hp, e⟩ := ky_yes (root_form pl)
  have hpp : p = pl := famB_inj hp.symm
  subst hpp
  exact e
/-- which keys a table has -/
theorem tab_keys {w : World} {t s n c : Nat} {A : Option Addr} {S : List Rx} {T : Ts} {X : Nat → Rx} (h : TabAt w t s n A c S T) (hp : PermX n X S) : (∀ q, q < n → ∃ k, kyF (X q).r.p = some k ∧ T.G k ≠ none) ∧ ∀ k v, T.G k = some v → ∃ i q : Nat, v = (i : Int) ∧ q < n ∧ (S.getD i rx0).r = (X q).r ∧ kyF (X q).r.p = some k := by
  refine ⟨fun q hq => ?_, fun k v hv => ?_⟩
  · obtain ⟨i, hi, e⟩ := hp.of q hq
    obtain ⟨k, h1, h2⟩ := h.all i hi
    rw [e] at h1
    exact ⟨k, h1, by rw [h2]; simp⟩
  · obtain ⟨i, h1, h2, h3⟩ := h.ix k v hv
    obtain ⟨q, hq, e⟩ := hp.to i h2
    rw [e] at h3
    exact ⟨i, q, h1, hq, e, h3⟩
theorem catch_eq {w w' : World} {t s m c t' s' c' : Nat} {A A' : Option Addr} {S S' : List Rx} {T T' : Ts} {X X' : Nat → Rx} {pl : Bool} {z : Nat → Int} (h1 : TabAt w t s m A c S T) (p1 : PermX m X S) (h2 : TabAt w' t' s' (m + 1) A' c' S' T') (p2 : PermX (m + 1) X' S') (hx : ∀ j, j < m → (X' j).r = (X j).r) (hm : (X' m).r = (xall (famB pl)).r)
    (hnd : ∀ i j, i < j → j < m + 1 → kyF (X' i).r.p ≠ kyF (X' j).r.p) : ∃ (P' : Pf) (i' : Nat), T'.FA (famB pl) z = (P', (i' : Int), true, 0) ∧ (∀ (P : Pf) (i : Nat), T.FA (famB pl) z = (P, (i : Int), true, 0) → (S'.getD i' rx0).r = (S.getD i rx0).r) ∧ (∀ er : Int, T.FA (famB pl) z = (pf0, 0, false, er) → (S'.getD i' rx0).r = (xall (famB pl)).r) := by
  obtain ⟨a1, a2⟩ := tab_keys h1 p1
  obtain ⟨b1, b2⟩ := tab_keys h2 p2
  have hone : ∀ i j, i < m + 1 → j < m + 1 → kyF (X' i).r.p = kyF (X' j).r.p → i = j := fun i j hi hj e => by
    rcases Nat.lt_trichotomy i j with h | h | h
    · exact absurd e (hnd i j h hj)
    · exact h
    · exact absurd e.symm (hnd j i h hi)
  have hkm : kyF (X' m).r.p = some (pl, []) := by rw [hm]; exact root_key pl
  -- a key of the greater table is one of the lesser, or the root's
  have hdom : ∀ k, T'.G k ≠ none → T.G k ≠ none ∨ k = (pl, []) := fun k hk => by
    cases hv : T'.G k with
    | none => exact absurd hv hk
    | some v =>
      obtain ⟨i, q, _, hq, _, e⟩ := b2 k v hv
      rcases Nat.lt_or_ge q m with h | h
      · left
        obtain ⟨k', e1, e2⟩ := a1 q h
        rw [hx q h, e1] at e
        cases e; exact e2
      · right
        have hqm : q = m := by omega
        subst hqm
        rw [hkm] at e; cases e; rfl
  have hsub : ∀ k, T.G k ≠ none → T'.G k ≠ none := fun k hk => by
    cases hv : T.G k with
    | none => exact absurd hv hk
    | some v =>
      obtain ⟨i, q, _, hq, _, e⟩ := a2 k v hv
      obtain ⟨k', e1, e2⟩ := b1 q (by omega)
      rw [hx q hq, e] at e1
      cases e1; exact e2
  have hroot : T'.G (pl, []) ≠ none := by
    obtain ⟨k', e1, e2⟩ := b1 m (by omega)
    rw [hkm] at e1
    cases e1; exact e2
  rw [FA_pl, FA_pl]
  rcases Tr.lng_spec (p := btP (lenB pl) (whZ pl z)) none (h2.tr.ok.o pl) with ⟨_, g2⟩ | ⟨x', v', g1, g2, g3, g4⟩
  · exact absurd (List.nil_prefix) (g2 [] hroot)
  have g2' : T'.G (pl, x') = some v' := g2
  obtain ⟨i', q', rfl, hq', e1, e2⟩ := b2 (pl, x') v' g2'
  refine ⟨_, i', by rw [show T'.F pl z = some (x', (i' : Int)) from g1]; rfl, fun P i hf => ?_, fun er hf => ?_⟩
  · rcases Tr.lng_spec (p := btP (lenB pl) (whZ pl z)) none (h1.tr.ok.o pl) with ⟨f1, _⟩ | ⟨x, v, f1, f2, f3, f4⟩
    · rw [show T.F pl z = none from f1] at hf
      cases hf
    · rw [show T.F pl z = some (x, v) from f1] at hf
      have hv : v = (i : Int) := congrArg (fun q : Pf × Int × Bool × Int => q.2.1) hf
      subst hv
      have f2' : T.G (pl, x) = some (i : Int) := f2
      have l1 : x.length ≤ x'.length := g4 x (by show T'.G (pl, x) ≠ none; exact hsub _ (by rw [f2']; simp)) f3
      have l2 : x'.length ≤ x.length := by
        rcases hdom (pl, x') (by rw [g2']; simp) with h | h
        · exact f4 x' h g3
        · have : x' = [] := congrArg Prod.snd h
          rw [this]; exact Nat.zero_le _
      have ex : x = x' := Tr.pre_uniq f3 g3 (Nat.le_antisymm l1 l2)
      subst ex
      obtain ⟨i2, q, hi2, hq, c1, c2⟩ := a2 (pl, x) _ f2'
      have hii : i = i2 := Int.ofNat.inj hi2
      subst hii
      have hqq : q' = q := hone q' q hq' (by omega) (by rw [e2, hx q hq, c2])
      subst hqq
      rw [e1, c1, hx _ hq]
  · rcases Tr.lng_spec (p := btP (lenB pl) (whZ pl z)) none (h1.tr.ok.o pl) with ⟨_, f2⟩ | ⟨x, v, f1, _, _, _⟩
    · have hxr : x' = [] := by
        rcases hdom (pl, x') (by rw [g2']; simp) with h | h
        · exact absurd g3 (f2 x' h)
        · exact congrArg Prod.snd h
      subst hxr
      have hqm : q' = m := hone q' m hq' (by omega) (by rw [e2, hkm])
      rw [e1, hqm, hm]
    · rw [show T.F pl z = some (x, v) from f1] at hf
      have : true = false := congrArg (fun q : Pf × Int × Bool × Int => q.2.2.1) hf
      cases this
/-- a route to the prefix of no bits is found, if nothing else is -/
theorem root_found {w : World} {t s n c : Nat} {A : Option Addr} {S : List Rx} {T : Ts} {X : Nat → Rx} {pl : Bool} {z : Nat → Int} (h : TabAt w t s n A c S T) (hp : PermX n X S) {j : Nat} (hj : j < n) (hk : kyF (X j).r.p = some (pl, [])) : ∀ er : Int, T.FA (famB pl) z ≠ (pf0, 0, false, er) := fun er hf => by
  obtain ⟨k, e1, e2⟩ := (tab_keys h hp).1 j hj
  rw [hk] at e1
  cases e1
  rw [FA_pl] at hf
  rcases Tr.lng_spec (p := btP (lenB pl) (whZ pl z)) none (h.tr.ok.o pl) with ⟨_, f2⟩ | ⟨x, v, f1, _, _, _⟩
  · exact absurd (List.nil_prefix) (f2 [] e2)
  · rw [show T.F pl z = some (x, v) from f1] at hf
    have : true = false := congrArg (fun q : Pf × Int × Bool × Int => q.2.2.1) hf
    cases this
theorem FA_er {T : Ts} {pl : Bool} {z : Nat → Int} {er : Int} (h : T.FA (famB pl) z = (pf0, 0, false, er)) : er = 0 := by
  rw [FA_pl] at h
  cases hf : T.F pl z with
  | none => rw [hf] at h; exact (congrArg (fun q : Pf × Int × Bool × Int => q.2.2.2) h).symm
  | some y =>
    rw [hf] at h
    have : true = false := congrArg (fun q : Pf × Int × Bool × Int => q.2.2.1) h
    cases this
theorem root_is {pl : Bool} {p : Pf} (hb : Bytes p.z) (h : p.fam = famB pl ∧ p.len = 0 ∧ Same16 p.z Z0) : kyF p = some (pl, []) := by
  have hf : Form p.fam ((0 : Nat) : Int) p.z := by
    refine (form_same _ 0 _).2 ⟨by rw [h.1]; exact (root_form pl).1, fun j hj => ?_⟩
    rw [h.2.2 j hj]
    unfold firstZ Z0
    simp
  obtain ⟨pl2, e1, e2⟩ := ky_yes hf
  have : pl2 = pl := famB_inj (e1.symm.trans h.1)
  subst this
  unfold kyF
  rw [h.2.1]
  exact e2
theorem root_not {pl : Bool} {p : Pf} (hb : Bytes p.z) (h : ¬ (p.fam = famB pl ∧ p.len = 0 ∧ Same16 p.z Z0)) : kyF p ≠ some (pl, []) := fun e => h (by
  have hf : Form p.fam p.len p.z := ky_some (k := (pl, [])) e
  obtain ⟨n, hn, _⟩ := form_nat hf
  rw [hn] at hf
  obtain ⟨pl2, e1, e2⟩ := ky_yes hf
  unfold kyF at e
  rw [hn, e2] at e
  obtain ⟨e3, e4⟩ := Prod.mk.inj (Option.some.inj e)
  subst e3
  have e5 : btP n p.z = btP 0 Z0 := e4
  obtain ⟨e6, e7⟩ := (btP_eq hb (fun j => show (0 : Int) ≤ 0 ∧ (0 : Int) ≤ 255 from by omega) hf (root_form pl2)).1 e5
  subst e6
  exact ⟨e1, hn, e7⟩)
end Go.Proofs.Ytjnbemopfhinbaa
