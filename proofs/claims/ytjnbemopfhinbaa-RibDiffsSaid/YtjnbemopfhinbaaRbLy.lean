/- Two texts put together; each theorem states its conditions. -/
import Derived.Test.YtjnbemopfhinbaaRbDi
import Derived.Test.YtjnbemopfhinbaaRbO
/- Two texts put together; each theorem states its conditions. -/
/- Routes told in one way only: what memory does not hold is nought. Each theorem states its conditions. -/
namespace Go.Proofs.Ytjnbemopfhinbaa
open Go.RowKit
set_option linter.unusedVariables false
set_option linter.unusedSimpArgs false

def canZ (k : Nat) (z : Nat → Int) (j : Nat) : Int := if j < k then z j else 0
def canH (h : Hp) : Hp := ⟨h.c, canZ 6 h.y⟩
def canR (r : Rt) : Rt := ⟨⟨r.p.fam, r.p.len, canZ 16 r.p.z⟩, r.k, r.m, r.n, fun j => if j < r.n then canH (r.h j) else hp0⟩
def canX (x : Rx) : Rx := ⟨canR x.r, x.A, x.c⟩
theorem canZ_lo {k j : Nat} (z : Nat → Int) (h : j < k) : canZ k z j = z j := if_pos h
theorem canZ_hi {k j : Nat} (z : Nat → Int) (h : ¬ j < k) : canZ k z j = 0 := if_neg h
theorem canZ_b {k : Nat} {z : Nat → Int} (h : ∀ j, 0 ≤ z j ∧ z j ≤ 255) (j : Nat) : 0 ≤ canZ k z j ∧ canZ k z j ≤ 255 := by
  by_cases h9 : j < k
  · rw [canZ_lo z h9]; exact h j
  · rw [canZ_hi z h9]; omega
theorem canZ_canZ (k : Nat) (z : Nat → Int) : canZ k (canZ k z) = canZ k z := funext fun j => by
  by_cases h9 : j < k
  · rw [canZ_lo _ h9]
  · rw [canZ_hi _ h9, canZ_hi _ h9]
theorem canH_C (h : Hp) : hopC (canH h) = hopC h := rfl
theorem canX_C (x : Rx) : rxC (canX x) = rxC x := rfl
theorem canX_hop {w : World} {x : Rx} (h : HopAt w x) : HopAt w (canX x) := ⟨h.rd.congr (fun j hj => by
  have hj : j < x.r.n := hj
  show hopC (x.r.h j) = hopC (if j < x.r.n then canH (x.r.h j) else hp0)
  rw [if_pos hj]; exact (canH_C _).symm), h.le, h.nl⟩
theorem canR_b {r : Rt} (h : RtB r) : RtB (canR r) := ⟨fun j => canZ_b h.p j, fun j i => by
  show 0 ≤ (if j < r.n then canH (r.h j) else hp0).y i ∧ (if j < r.n then canH (r.h j) else hp0).y i ≤ 255
  by_cases h9 : j < r.n
  · rw [if_pos h9]; exact canZ_b (h.h j) i
  · rw [if_neg h9]; exact ⟨Int.le_refl 0, show (0 : Int) ≤ 255 by omega⟩⟩
theorem in_can {w : World} {a : Option Addr} {len cap : Nat} {X : Nat → Rx} (h : InRx w a len cap X) : InRx w a len cap (fun j => canX (X j)) :=
  ⟨h.1.congr (fun j _ => (canX_C (X j)).symm), fun j => ⟨canR_b (h.2.1 j).1, canX_hop (h.2.1 j).2⟩, h.2.2.1, h.2.2.2.1, h.2.2.2.2⟩
/-- told in the one way -/
def Can (r : Rt) : Prop := canR r = r
theorem can_can (r : Rt) : Can (canR r) := by
  unfold Can canR
  simp only [canZ_canZ]
  congr 1
  funext j
  by_cases h9 : j < r.n
  · rw [if_pos h9, if_pos h9]; unfold canH; simp only [canZ_canZ]
  · rw [if_neg h9, if_neg h9]
/-- routes to one prefix that are alike are one -/
theorem alike_eq {r q : Rt} (hr : Can r) (hq : Can q) (h1 : r.p.fam = q.p.fam) (h2 : r.p.len = q.p.len) (h3 : Same16 r.p.z q.p.z) (ha : Alike r q) : r = q := by
  rw [← hr, ← hq]
  obtain ⟨a1, a2, a3, a4⟩ := ha
  unfold canR
  have e1 : canZ 16 r.p.z = canZ 16 q.p.z := funext fun j => by
    by_cases h9 : j < 16
    · rw [canZ_lo _ h9, canZ_lo _ h9]; exact h3 j h9
    · rw [canZ_hi _ h9, canZ_hi _ h9]
  have e2 : (fun j => if j < r.n then canH (r.h j) else hp0) = (fun j => if j < q.n then canH (q.h j) else hp0) := funext fun j => by
    rw [← a3]
    by_cases h9 : j < r.n
    · rw [if_pos h9, if_pos h9]
      obtain ⟨b1, b2⟩ := a4 j h9
      unfold canH
      rw [b1]
      congr 1
      funext i
      by_cases h8 : i < 6
      · rw [canZ_lo _ h8, canZ_lo _ h8]; exact b2 i h8
      · rw [canZ_hi _ h8, canZ_hi _ h8]
    · rw [if_neg h9, if_neg h9]
  rw [h1, h2, a1, a2, e1, e2, a3]
/-- one key, one prefix -/
theorem key_same {p q : Pf} (hp : Bytes p.z) (hq : Bytes q.z) {k : Bool × List Bool} (h1 : kyF p = some k) (h2 : kyF q = some k) : p.fam = q.fam ∧ p.len = q.len ∧ Same16 p.z q.z := by
  have f1 : Form p.fam p.len p.z := ky_some h1
  have f2 : Form q.fam q.len q.z := ky_some h2
  obtain ⟨n1, hn1, _⟩ := form_nat f1
  obtain ⟨n2, hn2, _⟩ := form_nat f2
  rw [hn1] at f1
  rw [hn2] at f2
  obtain ⟨l1, e1, k1⟩ := ky_yes f1
  obtain ⟨l2, e2, k2⟩ := ky_yes f2
  unfold kyF at h1 h2
  rw [hn1, k1] at h1
  rw [hn2, k2] at h2
  obtain rfl := Option.some.inj h1
  obtain ⟨g1, g2⟩ := Prod.mk.inj (Option.some.inj h2)
  subst g1
  obtain ⟨g3, g4⟩ := (btP_eq hq hp f2 f1).1 g2
  subst g3
  exact ⟨by rw [e1, e2], by rw [hn1, hn2], fun j hj => (g4 j hj).symm⟩
end Go.Proofs.Ytjnbemopfhinbaa
/- Ascending lists with the same routes are one list. Each theorem states its conditions. -/
namespace Go.Proofs.Ytjnbemopfhinbaa
open Go.RowKit
set_option linter.unusedVariables false
set_option linter.unusedSimpArgs false

theorem sorted_uniq {α : Type} (f : α → Int) : ∀ (L M : List α), L.Pairwise (fun a b => f a < f b) → M.Pairwise (fun a b => f a < f b) → (∀ a, a ∈ L ↔ a ∈ M) → L = M
  | [], M, _, _, h => by
    cases M with
    | nil => rfl
    | cons b M => exact absurd ((h b).2 (List.mem_cons_self ..)) (by simp)
  | a :: L, [], _, _, h => absurd ((h a).1 (List.mem_cons_self ..)) (by simp)
  | a :: L, b :: M, h1, h2, h => by
    rw [List.pairwise_cons] at h1 h2
    have hab : a = b := by
      rcases List.mem_cons.1 ((h a).1 (List.mem_cons_self ..)) with e | e
      · exact e
      · rcases List.mem_cons.1 ((h b).2 (List.mem_cons_self ..)) with e' | e'
        · exact e'.symm
        · have := h2.1 a e
          have := h1.1 b e'
          omega
    subst hab
    rw [sorted_uniq f L M h1.2 h2.2 (fun x => ⟨fun hx => ?_, fun hx => ?_⟩)]
    · rcases List.mem_cons.1 ((h x).1 (List.mem_cons_of_mem _ hx)) with e | e
      · subst e
        have := h1.1 x hx
        omega
      · exact e
    · rcases List.mem_cons.1 ((h x).2 (List.mem_cons_of_mem _ hx)) with e | e
      · subst e
        have := h2.1 x hx
        omega
      · exact e
def rKey (r : Rt) : Int := keyP r.p.fam r.p.len r.p.z
/-- ascending and no two of one prefix: strictly ascending -/
theorem asc_strict {S : List Rx} {n : Nat} (hl : S.length = n) (ha : AscX S) (hf : ∀ i, i < n → Form (S.getD i rx0).r.p.fam (S.getD i rx0).r.p.len (S.getD i rx0).r.p.z) (hb : ∀ i, i < n → Bytes (S.getD i rx0).r.p.z) (hd : ∀ i j, i < j → j < n → kyF (S.getD i rx0).r.p ≠ kyF (S.getD j rx0).r.p) : (S.map (fun y => y.r)).Pairwise (fun a b => rKey a < rKey b) := by
  rw [List.pairwise_map, List.pairwise_iff_getElem]
  intro i j hi hj hij
  have g : ∀ q (hq : q < S.length), S.getD q rx0 = S[q] := fun q hq => by rw [List.getD_eq_getElem?_getD, List.getElem?_eq_getElem hq]; rfl
  have h1 := ha i j hij hj
  have h2 := hd i j hij (by omega)
  have hfi := hf i (by omega)
  have hfj := hf j (by omega)
  have hbi := hb i (by omega)
  have hbj := hb j (by omega)
  rw [g i hi] at h1 h2 hfi hbi
  rw [g j hj] at h1 h2 hfj hbj
  rcases Int.lt_or_eq_of_le h1 with h | h
  · exact h
  · exfalso
    obtain ⟨n1, hn1, hn2⟩ := form_nat hfi
    obtain ⟨n3, hn3, hn4⟩ := form_nat hfj
    obtain ⟨e1, e2, e3⟩ := (keyP_eq hbi hbj ⟨by omega, by omega⟩ ⟨by omega, by omega⟩).1 h
    apply h2
    rw [hn1] at hfi
    rw [hn3] at hfj
    obtain ⟨l1, a1, a2⟩ := ky_yes hfi
    obtain ⟨l2, b1, b2⟩ := ky_yes hfj
    have hl12 : l1 = l2 := famB_inj (by rw [← a1, ← b1, e1])
    subst hl12
    have hnn : n1 = n3 := by omega
    subst hnn
    unfold kyF
    rw [hn1, hn3, a2, b2, (btP_eq hbi hbj hfi hfj).2 ⟨rfl, e3⟩]
/-- two tables of the same routes have one list -/
theorem tab_uniq {S M : List Rx} (h1 : (S.map (fun y => y.r)).Pairwise (fun a b => rKey a < rKey b)) (h2 : (M.map (fun y => y.r)).Pairwise (fun a b => rKey a < rKey b)) (h : ∀ r, (∃ y, y ∈ S ∧ y.r = r) ↔ ∃ y, y ∈ M ∧ y.r = r) : S.length = M.length ∧ ∀ j, j < S.length → (S.getD j rx0).r = (M.getD j rx0).r := by
  have e := sorted_uniq rKey _ _ h1 h2 (fun r => by rw [List.mem_map, List.mem_map]; exact h r)
  have hl := congrArg List.length e
  rw [List.length_map, List.length_map] at hl
  refine ⟨hl, fun j hj => ?_⟩
  have h3 := congrArg (fun L : List Rt => L[j]?) e
  simp only [List.getElem?_map] at h3
  rw [List.getElem?_eq_getElem hj, List.getElem?_eq_getElem (by omega : j < M.length)] at h3
  rw [List.getD_eq_getElem?_getD, List.getD_eq_getElem?_getD, List.getElem?_eq_getElem hj, List.getElem?_eq_getElem (by omega : j < M.length)]
  exact Option.some.inj h3
end Go.Proofs.Ytjnbemopfhinbaa
/- What is gone taken away and what is new laid over it: the new routes. Each theorem states its conditions. -/
namespace Go.Proofs.Ytjnbemopfhinbaa
open Go.RowKit
set_option linter.unusedVariables false
set_option linter.unusedSimpArgs false

theorem mem_gone {T : Ts} {L : List Rx} {y : Rx} : y ∈ goneL T L ↔ y ∈ L ∧ Gone T y := by
  unfold goneL
  rw [List.mem_filter]
  exact and_congr_right fun _ => ⟨fun h => @of_decide_eq_true _ (Classical.propDecidable _) h, fun h => @decide_eq_true _ (Classical.propDecidable _) h⟩
theorem mem_new {S : List Rx} {T : Ts} {L : List Rx} {y : Rx} : y ∈ newL S T L ↔ y ∈ L ∧ Newer S T y := by
  unfold newL
  rw [List.mem_filter]
  exact and_congr_right fun _ => ⟨fun h => @of_decide_eq_true _ (Classical.propDecidable _) h, fun h => @decide_eq_true _ (Classical.propDecidable _) h⟩
theorem mem_at {S : List Rx} {y : Rx} (h : y ∈ S) : ∃ i, i < S.length ∧ S.getD i rx0 = y := by
  obtain ⟨i, hi, e⟩ := List.getElem_of_mem h
  exact ⟨i, hi, by rw [List.getD_eq_getElem?_getD, List.getElem?_eq_getElem hi]; exact e⟩
/-- a prefix of old that is neither gone nor laid over is now's; what is now's is laid over or old's -/
theorem lay_same {w w' : World} {t s n c t2 s2 m c2 : Nat} {A A2 : Option Addr} {S S2 : List Rx} {T T2 : Ts} {X Y : Nat → Rx} (h1 : TabAt w t s n A c S T) (h2 : TabAt w' t2 s2 m A2 c2 S2 T2) (p1 : PermX n X S) (p2 : PermX m Y S2) (cX : ∀ i, i < n → Can (X i).r) (cY : ∀ i, i < m → Can (Y i).r) (bX : ∀ i, i < n → Bytes (X i).r.p.z) (bY : ∀ i, i < m → Bytes (Y i).r.p.z) :
    (∀ q, q < n → (∀ g, g ∈ goneL T2 S → kyF g.r.p ≠ kyF (X q).r.p) → (∀ x, x ∈ newL S T S2 → kyF x.r.p ≠ kyF (X q).r.p) → ∃ j, j < m ∧ (Y j).r = (X q).r) ∧
    (∀ j, j < m → (∃ x, x ∈ newL S T S2 ∧ x.r = (Y j).r) ∨ ∃ q, q < n ∧ (X q).r = (Y j).r ∧ (∀ g, g ∈ goneL T2 S → kyF g.r.p ≠ kyF (X q).r.p) ∧ ∀ x, x ∈ newL S T S2 → kyF x.r.p ≠ kyF (X q).r.p) ∧
    ∀ x, x ∈ newL S T S2 → ∃ j, j < m ∧ (Y j).r = x.r := by
  have one : ∀ i j k, i < n → j < m → kyF (S.getD i rx0).r.p = some k → kyF (S2.getD j rx0).r.p = some k → Alike (S.getD i rx0).r (S2.getD j rx0).r → (S.getD i rx0).r = (S2.getD j rx0).r := fun i j k hi hj k1 k2 ha => by
    obtain ⟨q, hq, eq⟩ := p1.to i hi
    obtain ⟨q2, hq2, eq2⟩ := p2.to j hj
    obtain ⟨e1, e2, e3⟩ := key_same (by rw [eq]; exact bX q hq) (by rw [eq2]; exact bY q2 hq2) k1 k2
    exact alike_eq (by rw [eq]; exact cX q hq) (by rw [eq2]; exact cY q2 hq2) e1 e2 e3 ha
  have notNew : ∀ y, y ∈ S2 → ¬ y ∈ newL S T S2 → ∃ k, ∃ i : Nat, kyF y.r.p = some k ∧ T.G k = some (i : Int) ∧ Alike (S.getD i rx0).r y.r := fun y hy hn => by
    refine Classical.byContradiction fun hc => hn (mem_new.2 ⟨hy, fun k i a b d => hc ⟨k, i, a, b, d⟩⟩)
  refine ⟨fun q hq hg hx => ?_, fun j hj => ?_, fun x hx => ?_⟩
  · obtain ⟨i, hi, ei⟩ := p1.of q hq
    obtain ⟨k, k1, k2⟩ := h1.all i hi
    have hng : ¬ Gone T2 (S.getD i rx0) := fun h => hg _ (mem_gone.2 ⟨S_mem h1.len hi, h⟩) (by rw [ei])
    have hex : ∃ v, T2.G k = some v := by
      cases hv : T2.G k with
      | some v => exact ⟨v, rfl⟩
      | none => exact absurd (fun k' hk' => by rw [k1] at hk'; cases hk'; exact hv) hng
    obtain ⟨v, hv⟩ := hex
    obtain ⟨j, rfl, hj, kj⟩ := h2.ix k v hv
    obtain ⟨k', i', a1, a2, a3⟩ := notNew _ (S_mem h2.len hj) (fun h => hx _ h (by rw [kj, ← ei, k1]))
    rw [kj] at a1
    cases a1
    rw [k2] at a2
    have hii : i = i' := Int.ofNat.inj (Option.some.inj a2)
    subst hii
    obtain ⟨q2, hq2, e2⟩ := p2.to j hj
    exact ⟨q2, hq2, by rw [← e2, ← one i j k hi hj k1 kj a3, ei]⟩
  · obtain ⟨i, hi, ei⟩ := p2.of j hj
    by_cases hin : S2.getD i rx0 ∈ newL S T S2
    · exact .inl ⟨_, hin, ei⟩
    · right
      obtain ⟨k, i1, a1, a2, a3⟩ := notNew _ (S_mem h2.len hi) hin
      obtain ⟨i2, hi2, hlt, b1⟩ := h1.ix k _ a2
      have hii : i1 = i2 := Int.ofNat.inj hi2
      subst hii
      have e9 := one i1 i k hlt hi b1 a1 a3
      obtain ⟨q, hq, eq⟩ := p1.to i1 hlt
      obtain ⟨k', d1, d2⟩ := h2.all i hi
      rw [a1] at d1
      cases d1
      refine ⟨q, hq, by rw [← eq, e9, ei], fun g hg e => ?_, fun x hx e => ?_⟩
      · have h9 := (mem_gone.1 hg).2 k (by rw [e, ← eq]; exact b1)
        rw [d2] at h9
        cases h9
      · obtain ⟨hm, hnew⟩ := mem_new.1 hx
        obtain ⟨i3, hi3, e3⟩ := mem_at hm
        rw [h2.len] at hi3
        obtain ⟨k3, f1, f2⟩ := h2.all i3 hi3
        rw [e3, e, ← eq, b1] at f1
        cases f1
        rw [d2] at f2
        have h33 : i = i3 := Int.ofNat.inj (Option.some.inj f2)
        subst h33
        rw [e3] at hin
        exact hin hx
  · obtain ⟨hm, _⟩ := mem_new.1 hx
    obtain ⟨i3, hi3, e3⟩ := mem_at hm
    rw [h2.len] at hi3
    obtain ⟨q2, hq2, e2⟩ := p2.to i3 hi3
    exact ⟨q2, hq2, by rw [← e2, e3]⟩
end Go.Proofs.Ytjnbemopfhinbaa
