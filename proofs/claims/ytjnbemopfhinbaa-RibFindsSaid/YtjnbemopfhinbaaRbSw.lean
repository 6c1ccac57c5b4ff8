/- Two texts put together; each theorem states its conditions. -/
import Derived.Test.YtjnbemopfhinbaaRbRf
import Derived.Test.YtjnbemopfhinbaaRbCn
import Derived.Test.YtjnbemopfhinbaaRbSm
import Derived.Test.YtjnbemopfhinbaaRbOr
import Derived.Test.YtjnbemopfhinbaaRbLd
/- Two texts put together; each theorem states its conditions. -/
/- SameRoute of any two routes. Each theorem states its conditions. -/
namespace Go.Proofs.Ytjnbemopfhinbaa
open Go.RowKit
set_option linter.unusedVariables false
set_option linter.unusedSimpArgs false

end Go.Proofs.Ytjnbemopfhinbaa
/- The document of a table: what of it has become another. Each theorem states its conditions. -/
namespace Go.Proofs.Ytjnbemopfhinbaa
open Go.RowKit
set_option linter.unusedVariables false
set_option linter.unusedSimpArgs false

theorem SameP.symm {p q : Pf} (h : SameP p q) : SameP q p := ⟨h.1.symm, h.2.1.symm, fun j hj => (h.2.2 j hj).symm⟩
theorem SameP.trans {p q r : Pf} (h : SameP p q) (h2 : SameP q r) : SameP p r := ⟨h.1.trans h2.1, h.2.1.trans h2.2.1, fun j hj => (h.2.2 j hj).trans (h2.2.2 j hj)⟩
end Go.Proofs.Ytjnbemopfhinbaa
/- Two texts put together; each theorem states its conditions. -/
/- What the program's Diff and the document's come to is one thing. Each theorem states its conditions. -/
namespace Go.Proofs.Ytjnbemopfhinbaa
open Go.RowKit
set_option linter.unusedVariables false
set_option linter.unusedSimpArgs false

theorem Alike.symm {x y : Rt} (h : Alike x y) : Alike y x := ⟨h.1.symm, h.2.1.symm, h.2.2.1.symm, fun j hj => ⟨(h.2.2.2 j (by rw [h.2.2.1]; exact hj)).1.symm, fun i hi => ((h.2.2.2 j (by rw [h.2.2.1]; exact hj)).2 i hi).symm⟩⟩
theorem ErrX.uniq {n : Nat} {X : Nat → Rx} {e f : Int} (h : ErrX n X e) (k : ErrX n X f) : e = f := by
  rcases h with ⟨rfl, i, hi, hb⟩ | ⟨rfl, hf, i, j, hij, hj, he⟩ | ⟨rfl, hf, hd⟩
  · rcases k with ⟨rfl, _⟩ | ⟨rfl, hf2, _⟩ | ⟨rfl, hf2, _⟩
    · rfl
    · exact absurd (hf2 i hi) hb
    · exact absurd (hf2 i hi) hb
  · rcases k with ⟨rfl, i2, hi2, hb2⟩ | ⟨rfl, _⟩ | ⟨rfl, _, hd2⟩
    · exact absurd (hf i2 hi2) hb2
    · rfl
    · exact absurd he (hd2 i j hij hj)
  · rcases k with ⟨rfl, i2, hi2, hb2⟩ | ⟨rfl, _, i, j, hij, hj, he⟩ | ⟨rfl, _⟩
    · exact absurd (hf i2 hi2) hb2
    · exact absurd he (hd i j hij hj)
    · rfl
/-- the same routes, place by place -/
theorem map_at {L M : List Rx} (h : L.map (fun y => y.r) = M.map (fun y => y.r)) : L.length = M.length ∧ ∀ j, j < L.length → (L.getD j rx0).r = (M.getD j rx0).r := by
  have hl : L.length = M.length := by
    have := congrArg List.length h
    rw [List.length_map, List.length_map] at this
    exact this
  refine ⟨hl, fun j hj => ?_⟩
  have e : (L.map (fun y => y.r))[j]? = (M.map (fun y => y.r))[j]? := by rw [h]
  rw [List.getElem?_map, List.getElem?_map, List.getElem?_eq_getElem hj, List.getElem?_eq_getElem (by omega : j < M.length)] at e
  rw [List.getD_eq_getElem?_getD, List.getD_eq_getElem?_getD, List.getElem?_eq_getElem hj, List.getElem?_eq_getElem (by omega : j < M.length)]
  exact Option.some.inj e
/-- the table's list and the document's order are the same routes -/
theorem ord_same {w : World} {n t s c : Nat} {A : Option Addr} {S : List Rx} {T : Ts} {X : Nat → Rx} (h : TabAt w t s n A c S T) (p : PermX n X S) (a : AscX S) (hx : ErrX n X 0) (hc : ∀ i, Can (X i).r) (hb : ∀ i, RtB (X i).r) : S.map (fun y => y.r) = (ordL X n).map (fun y => y.r) := by
  have h1 := asc_strict h.len a (fun i hi => by obtain ⟨q, hq, e⟩ := p.to i hi; rw [e]; exact hx.form q hq) (fun i hi => by obtain ⟨q, hq, e⟩ := p.to i hi; rw [e]; exact (hb q).p) h.nodup
  have h2 : ((ordL X n).map (fun y => y.r)).Pairwise (fun a b => rKey a < rKey b) := by
    rw [List.pairwise_map]
    refine ordL_asc (fun a b hab hbn e => ?_)
    refine hx.nd a b hab hbn ?_
    have l : ∀ i, i < n → 0 ≤ (X i).r.p.len ∧ (X i).r.p.len ≤ 128 := fun i hi => by
      have := (hx.form i hi).1
      unfold Sized at this
      omega
    exact congrArg kyF (can_pf (hc a) (hc b) ((keyP_eq (hb a).p (hb b).p (l a (by omega)) (l b hbn)).1 e))
  have h3 : ∀ r, (∃ y, y ∈ S ∧ y.r = r) ↔ ∃ y, y ∈ ordL X n ∧ y.r = r := fun r => by
    constructor
    · rintro ⟨y, hy, e⟩
      obtain ⟨i, hi, ei⟩ := mem_at hy
      rw [h.len] at hi
      obtain ⟨q, hq, eq⟩ := p.to i hi
      exact ⟨X q, ordL_mem.2 ⟨q, hq, rfl⟩, by rw [← eq, ei, e]⟩
    · rintro ⟨y, hy, e⟩
      obtain ⟨q, hq, eq⟩ := ordL_mem.1 hy
      obtain ⟨i, hi, ei⟩ := p.of q hq
      exact ⟨_, S_mem h.len hi, by rw [ei, eq, e]⟩
  obtain ⟨hl, he⟩ := tab_uniq h1 h2 h3
  refine List.ext_getElem (by rw [List.length_map, List.length_map, hl]) (fun j h4 h5 => ?_)
  rw [List.length_map] at h4 h5
  rw [List.getElem_map, List.getElem_map]
  have := he j h4
  rw [List.getD_eq_getElem?_getD, List.getD_eq_getElem?_getD, List.getElem?_eq_getElem h4, List.getElem?_eq_getElem h5] at this
  exact this
end Go.Proofs.Ytjnbemopfhinbaa
/- What the laws of tables ask: answers told by their shape. Each theorem states its conditions. -/
namespace Go.Proofs.Ytjnbemopfhinbaa
open Go.RowKit
set_option linter.unusedVariables false
set_option linter.unusedSimpArgs false

theorem ownR_rdr {w : World} {B m c : Nat} {A : Option Addr} {E : List Rx} (h : OwnR w B 70 21 (.slice A m c) m (rxB E)) : RdR w A m 21 (fun j => rxC (E.getD j rx0)) := by
  obtain ⟨A', c', e, _, _, _, hr⟩ := h.shape (rxB_recs _) (by decide)
  cases e
  exact hr
end Go.Proofs.Ytjnbemopfhinbaa
