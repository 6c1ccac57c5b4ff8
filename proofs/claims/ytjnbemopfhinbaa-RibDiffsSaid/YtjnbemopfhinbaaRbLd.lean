/- A list laid over another one is the new list: each route of it is now's, and each of now's is there. Each theorem states its conditions. -/
import Derived.Test.YtjnbemopfhinbaaRbSe
namespace Go.Proofs.Ytjnbemopfhinbaa
open Go.RowKit
set_option linter.unusedVariables false
set_option linter.unusedSimpArgs false

/-- one prefix -/
def SameP (p q : Pf) : Prop := p.fam = q.fam ∧ p.len = q.len ∧ Same16 p.z q.z
instance (p q : Pf) : Decidable (SameP p q) := by unfold SameP; infer_instance
/-- what is kept of old -/
def Keep (G : List Pf) (E : List Rx) (r : Rt) : Prop := (∀ j, j < G.length → ¬ SameP (G.getD j pf0) r.p) ∧ ∀ j, j < E.length → ¬ SameP (E.getD j rx0).r.p r.p
noncomputable def keptL (G : List Pf) (E : List Rx) (X : Nat → Rx) (i : Nat) : List Rx := ((List.range i).map X).filter (fun y => @decide (Keep G E y.r) (Classical.propDecidable _))
theorem filt_app_yes {p : Rx → Bool} {L : List Rx} {x : Rx} (h : p x = true) : (L ++ [x]).filter p = L.filter p ++ [x] := by
  rw [List.filter_append, List.filter_cons_of_pos h]; rfl
theorem filt_app_no {p : Rx → Bool} {L : List Rx} {x : Rx} (h : ¬ p x = true) : (L ++ [x]).filter p = L.filter p := by
  rw [List.filter_append, List.filter_cons_of_neg h, List.filter_nil, List.append_nil]
theorem kept_yes {G : List Pf} {E : List Rx} {X : Nat → Rx} {i : Nat} (h : Keep G E (X i).r) : keptL G E X (i + 1) = keptL G E X i ++ [X i] := by
  unfold keptL
  rw [List.range_succ, List.map_append, List.map_singleton]
  exact filt_app_yes (@decide_eq_true _ (Classical.propDecidable _) h)
theorem kept_no {G : List Pf} {E : List Rx} {X : Nat → Rx} {i : Nat} (h : ¬ Keep G E (X i).r) : keptL G E X (i + 1) = keptL G E X i := by
  unfold keptL
  rw [List.range_succ, List.map_append, List.map_singleton]
  exact filt_app_no (fun h9 => h (@of_decide_eq_true _ (Classical.propDecidable _) h9))
theorem kept_len (G : List Pf) (E : List Rx) (X : Nat → Rx) (i : Nat) : (keptL G E X i).length ≤ i := Nat.le_trans (List.length_filter_le _ _) (by rw [List.length_map, List.length_range]; exact Nat.le_refl _)
theorem kept_step {F : Nat → Pf} {p : Pf} {j : Nat} {rq : Bool} {Z : Prop} (h : (!decide ((F j).fam = p.fam ∧ (F j).len = p.len ∧ Same16 (F j).z p.z)) = rq) (hq : True ↔ Z ∧ ∀ j2, j2 < j → ¬ SameP (F j2) p) : rq = true ↔ Z ∧ ∀ j2, j2 < j + 1 → ¬ SameP (F j2) p := by
  have hz := hq.1 trivial
  subst h
  rw [Bool.not_eq_true', decide_eq_false_iff_not]
  refine ⟨fun h => ⟨hz.1, fun j2 h2 => ?_⟩, fun h => h.2 j (by omega)⟩
  by_cases h9 : j2 = j
  · subst h9; exact h
  · exact hz.2 j2 (by omega)
theorem mem_kept {G : List Pf} {E : List Rx} {X : Nat → Rx} {n : Nat} {y : Rx} : y ∈ keptL G E X n ↔ ∃ q, q < n ∧ X q = y ∧ Keep G E (X q).r := by
  unfold keptL
  rw [List.mem_filter]
  constructor
  · rintro ⟨h1, h2⟩
    obtain ⟨q, hq, e⟩ := List.mem_map.1 h1
    exact ⟨q, List.mem_range.1 hq, e, by rw [e]; exact @of_decide_eq_true _ (Classical.propDecidable _) h2⟩
  · rintro ⟨q, hq, e, hk⟩
    exact ⟨List.mem_map.2 ⟨q, List.mem_range.2 hq, e⟩, @decide_eq_true _ (Classical.propDecidable _) (by rw [← e]; exact hk)⟩
theorem can_pf {r q : Rt} (hr : Can r) (hq : Can q) (h : SameP r.p q.p) : r.p = q.p := by
  have e1 : canZ 16 r.p.z = r.p.z := congrArg (fun x : Rt => x.p.z) hr
  have e2 : canZ 16 q.p.z = q.p.z := congrArg (fun x : Rt => x.p.z) hq
  have e3 : r.p.z = q.p.z := by
    rw [← e1, ← e2]
    funext j
    unfold canZ
    split
    · exact h.2.2 j (by omega)
    · rfl
  obtain ⟨⟨f1, l1, z1⟩, _, _, _, _⟩ := r
  obtain ⟨⟨f2, l2, z2⟩, _, _, _, _⟩ := q
  obtain ⟨h1, h2, _⟩ := h
  simp only at h1 h2 e3
  subst h1; subst h2; subst e3
  rfl
theorem laid_ok {w w' : World} {t s n c t2 s2 m c2 : Nat} {A A2 : Option Addr} {S S2 : List Rx} {T T2 : Ts} {X Y : Nat → Rx} {G : List Pf} {E K : List Rx} (h1 : TabAt w t s n A c S T) (h2 : TabAt w' t2 s2 m A2 c2 S2 T2) (p1 : PermX n X S) (p2 : PermX m Y S2) (cX : ∀ i, Can (X i).r) (cY : ∀ i, Can (Y i).r) (bX : ∀ i, RtB (X i).r) (bY : ∀ i, RtB (Y i).r)
    (hx : ∀ i j, i < j → j < n → kyF (X i).r.p ≠ kyF (X j).r.p) (hG : pfL (goneL T2 S) = G) (hE : newL S T S2 = E) (hK : keptL G E X n = K) :
    (∀ y, y ∈ K ++ E → ∃ q, q < m ∧ y.r = (Y q).r) ∧ (∀ q, q < m → ∃ y, y ∈ K ++ E ∧ y.r = (Y q).r) ∧ (K ++ E).Pairwise (fun a b => kyF a.r.p ≠ kyF b.r.p) := by
  obtain ⟨l1, l2, l3⟩ := lay_same h1 h2 p1 p2 (fun i _ => cX i) (fun i _ => cY i) (fun i _ => (bX i).p) (fun i _ => (bY i).p)
  rw [hE] at l1 l2 l3
  have kx := (tab_keys h1 p1).1
  have gS : ∀ g, g ∈ goneL T2 S → ∃ q, q < n ∧ g.r = (X q).r := fun g hg => by
    obtain ⟨i, hi, ei⟩ := mem_at (mem_gone.1 hg).1
    rw [h1.len] at hi
    obtain ⟨q, hq, eq⟩ := p1.to i hi
    exact ⟨q, hq, by rw [← ei, eq]⟩
  have gG : ∀ g, g ∈ goneL T2 S → ∃ j, j < G.length ∧ G.getD j pf0 = g.r.p := fun g hg => by
    have hm : g.r.p ∈ G := by rw [← hG]; exact List.mem_map.2 ⟨g, hg, rfl⟩
    obtain ⟨j, hj, e⟩ := List.getElem_of_mem hm
    exact ⟨j, hj, by rw [List.getD_eq_getElem?_getD, List.getElem?_eq_getElem hj]; exact e⟩
  have Gg : ∀ j, j < G.length → ∃ g, g ∈ goneL T2 S ∧ G.getD j pf0 = g.r.p := fun j hj => by
    have hm : G.getD j pf0 ∈ G := by rw [List.getD_eq_getElem?_getD, List.getElem?_eq_getElem hj]; exact List.getElem_mem hj
    obtain ⟨P, hP⟩ : ∃ P, G.getD j pf0 = P := ⟨_, rfl⟩
    rw [hP] at hm ⊢
    rw [← hG] at hm
    obtain ⟨g, hg, e⟩ := List.mem_map.1 hm
    exact ⟨g, hg, e.symm⟩
  -- one key, one prefix
  have same : ∀ q, q < n → ∀ p : Pf, Bytes p.z → kyF p = kyF (X q).r.p → SameP p (X q).r.p := fun q hq p hp e => by
    obtain ⟨k, k1, _⟩ := kx q hq
    exact key_same hp (bX q).p (e.trans k1) k1
  have keepK : ∀ q, q < n → Keep G E (X q).r → (∀ g, g ∈ goneL T2 S → kyF g.r.p ≠ kyF (X q).r.p) ∧ ∀ x, x ∈ E → kyF x.r.p ≠ kyF (X q).r.p := fun q hq hk =>
    ⟨fun g hg e => by
      obtain ⟨j, hj, ej⟩ := gG g hg
      obtain ⟨q2, hq2, e2⟩ := gS g hg
      exact hk.1 j hj (by rw [ej]; exact same q hq g.r.p (by rw [e2]; exact (bX q2).p) e),
     fun x hx9 e => by
      obtain ⟨j, hj, ej⟩ := mem_at hx9
      obtain ⟨q2, hq2, e2⟩ := l3 x hx9
      exact hk.2 j hj (by rw [ej]; exact same q hq x.r.p (by rw [← e2]; exact (bY q2).p) e)⟩
  refine ⟨fun y hy => ?_, fun q hq => ?_, ?_⟩
  · rcases List.mem_append.1 hy with h | h
    · rw [← hK] at h
      obtain ⟨q, hq, e, hk⟩ := mem_kept.1 h
      obtain ⟨g1, g2⟩ := keepK q hq hk
      obtain ⟨j, hj, ej⟩ := l1 q hq g1 g2
      exact ⟨j, hj, by rw [ej, e]⟩
    · obtain ⟨j, hj, ej⟩ := l3 y h
      exact ⟨j, hj, ej.symm⟩
  · rcases l2 q hq with ⟨x, hx9, e⟩ | ⟨q2, hq2, e, g1, g2⟩
    · exact ⟨x, List.mem_append.2 (.inr hx9), e⟩
    · refine ⟨X q2, List.mem_append.2 (.inl ?_), e⟩
      rw [← hK]
      refine mem_kept.2 ⟨q2, hq2, rfl, fun j hj hs => ?_, fun j hj hs => ?_⟩
      · obtain ⟨g, hg, eg⟩ := Gg j hj
        obtain ⟨q3, hq3, e3⟩ := gS g hg
        rw [eg] at hs
        exact g1 g hg (congrArg kyF (can_pf (by rw [e3]; exact cX q3) (cX q2) hs))
      · have hm := S_mem (S := E) rfl hj
        obtain ⟨q3, hq3, e3⟩ := l3 _ hm
        exact g2 _ hm (congrArg kyF (can_pf (by rw [← e3]; exact cY q3) (cX q2) hs))
  · rw [List.pairwise_append]
    refine ⟨?_, ?_, fun a ha b hb => ?_⟩
    · rw [← hK]
      unfold keptL
      refine List.Pairwise.filter _ ?_
      rw [List.pairwise_map, List.pairwise_iff_getElem]
      intro i j hi hj hij
      rw [List.length_range] at hi hj
      rw [List.getElem_range, List.getElem_range]
      exact hx i j hij hj
    · rw [← hE]
      unfold newL
      refine List.Pairwise.filter _ ?_
      rw [List.pairwise_iff_getElem]
      intro i j hi hj hij
      have h9 := h2.nodup i j hij (by rw [← h2.len]; exact hj)
      rw [List.getD_eq_getElem?_getD, List.getD_eq_getElem?_getD, List.getElem?_eq_getElem hi, List.getElem?_eq_getElem hj] at h9
      exact h9
    · rw [← hK] at ha
      obtain ⟨q, hq, e, hk⟩ := mem_kept.1 ha
      rw [← e]
      exact fun h => (keepK q hq hk).2 b hb h.symm
end Go.Proofs.Ytjnbemopfhinbaa
