/- Two texts put together; each theorem states its conditions. -/
import Derived.Test.YtjnbemopfhinbaaTrW
/- with, of any tree. Each theorem states its conditions. -/
namespace Go.Proofs.Ytjnbemopfhinbaa
open Go.RowKit
set_option linter.unusedVariables false
set_option linter.unusedSimpArgs false

theorem side_flip {q p : List Bool} (h1 : Tr.lcp q p < p.length) (h2 : Tr.lcp q p < q.length) : Tr.side q (Tr.lcp q p) = !Tr.side p (Tr.lcp q p) := by
  have h := (Tr.pre_take h1 h2).2
  have h3 := Tr.side_of h
  rwa [List.length_take, Nat.min_eq_left (Nat.le_of_lt h1)] at h3
theorem btP_joint {n L : Nat} {z : Nat → Int} (hz : Bytes z) (h : L ≤ n) : btP L (firstZ z L) = (btP n z).take L := by rw [btP_first hz, btP_take z h]
section
variable {g : Nat} {l r : Ht} {n : Nat} {z : Nat → Int} {v : Option Int}
theorem nd_nodup (h : (Ht.nd g n z v l r).fp.Nodup) : g ∉ l.fp ∧ g ∉ r.fp ∧ l.fp.Nodup ∧ r.fp.Nodup ∧ ∀ x, x ∈ l.fp → x ∉ r.fp := by
  simp only [Ht.fp, List.nodup_cons, List.mem_append, not_or, List.nodup_append] at h
  exact ⟨h.1.1, h.1.2, h.2.1, h.2.2.1, fun x h1 h2 => h.2.2.2 x h1 x h2 rfl⟩
theorem nd_nodup' (h1 : g ∉ l.fp) (h2 : g ∉ r.fp) (h3 : l.fp.Nodup) (h4 : r.fp.Nodup) (h5 : ∀ x, x ∈ l.fp → x ∉ r.fp) : (Ht.nd g n z v l r).fp.Nodup := by
  simp only [Ht.fp, List.nodup_cons, List.mem_append, not_or, List.nodup_append]
  exact ⟨⟨h1, h2⟩, h3, h4, fun x hx y hy e => h5 x hx (e ▸ hy)⟩
theorem mem_nd {k : Nat} : k ∈ (Ht.nd g n z v l r).fp ↔ k = g ∨ k ∈ l.fp ∨ k ∈ r.fp := by simp only [Ht.fp, List.mem_cons, List.mem_append]
end
set_option maxHeartbeats 1600000 in
set_option maxRecDepth 100000 in
theorem with_any (fam v : Int) (n : Nat) (z : Nat → Int) (hz : Bytes z) (hf : Form fam n z) : ∀ (t : Ht) (w : World), t.At w fam → t.fp.Nodup →
    Calls Try.prog 44 #[t.root, .agg (pvC fam n z), .int .i64 v] w (TreeP fam t.fp (Tr.ins (btP n z) v t.bits) w)
  | .nil, w, _, _ => with_nil fam v n z hz hf w
  | .nd g n' z' v' l r, w, h, hnd => by
    have h0 := h
    obtain ⟨hk, hz', hf', hl, hr⟩ := h
    obtain ⟨d1, d2, d3, d4, d5⟩ := nd_nodup hnd
    have hn := form_len hf
    have hn' := form_len hf'
    show Calls _ _ #[.pointer (some ⟨g, 0, none⟩), _, _] w (TreeP fam _ (Tr.ins (btP n z) v (.nd (btP n' z') v' l.bits r.bits)) w)
    unfold Tr.ins
    by_cases e1 : btP n' z' = btP n z
    · rw [if_pos e1]
      obtain ⟨a1, a2⟩ := (btP_eq hz' hz hf' hf).1 e1
      refine (with_same g fam _ v n n' z z' _ l r hz hz' ⟨by rw [a1], a2⟩ w hk).mono ?_
      rintro e w' ⟨rfl, k1, k2⟩
      refine ⟨.nd g n' z' (some v) l r, rfl, ⟨k1, hz', hf', hl.kp k2 (fun x hx h9 => d1 (by simpa using List.mem_singleton.1 h9 ▸ hx)), hr.kp k2 (fun x hx h9 => d2 (by simpa using List.mem_singleton.1 h9 ▸ hx))⟩, rfl, ?_, fun k hk => .inl hk, hnd⟩
      exact (Kp.refl _ w).tr k2 (fun x hx => .inl (mem_nd.2 (.inl (List.mem_singleton.1 hx))))
    rw [if_neg e1]
    have he : ¬ ((n' : Int) = (n : Int) ∧ Same16 z' z) := fun h9 => e1 ((btP_eq hz' hz hf' hf).2 ⟨by omega, h9.2⟩)
    by_cases e2 : btP n' z' <+: btP n z
    · rw [if_pos e2]
      have hlt : n' < n := by have := Tr.pre_len e2 e1; rwa [btP_len, btP_len] at this
      rw [btP_len]
      by_cases hs : Tr.side (btP n z) n' = true
      · rw [if_pos hs]
        refine (with_side1 g fam _ v n n' z z' _ l r hz hz' hn he e2 hlt hs _ (fun W hW => with_any fam v n z hz hf r W hW d4) w hk hr d2).mono ?_
        rintro e w' ⟨t2, rfl, k1, k2, k3, k4, k5, k6, k7⟩
        have hlr : ∀ x, x ∈ l.fp → x ∉ t2.fp := fun x hx h9 => (k5 x h9).elim (d5 x hx) (fun h8 => absurd (hl.lt x hx) (by omega))
        refine ⟨.nd g n' z' v' l t2, rfl, ⟨k1, hz', hf', hl.kp k4 (fun x hx h9 => ?_), k2⟩, by rw [Ht.bits, k3], k4.tr (Kp.refl [] w') (fun x hx => by cases hx) |>.tr (Kp.refl [] w') (fun x hx => by cases hx) |> fun q => ⟨q.os, q.tape, q.output, q.size, fun i hi hx => q.block i hi (fun h9 => hx (by rcases List.mem_cons.1 h9 with h8 | h8; exact mem_nd.2 (.inl h8); exact mem_nd.2 (.inr (.inr h8))))⟩, fun k hk => ?_, nd_nodup' d1 k7 d3 k6 hlr⟩
        · rcases List.mem_cons.1 h9 with h8 | h8
          · exact d1 (h8 ▸ hx)
          · exact d5 x hx h8
        · rcases mem_nd.1 hk with h9 | h9 | h9
          · exact .inl (mem_nd.2 (.inl h9))
          · exact .inl (mem_nd.2 (.inr (.inl h9)))
          · exact (k5 k h9).imp_left (fun h8 => mem_nd.2 (.inr (.inr h8)))
      · rw [if_neg hs]
        rw [Bool.not_eq_true] at hs
        refine (with_side0 g fam _ v n n' z z' _ l r hz hz' hn he e2 hlt hs _ (fun W hW => with_any fam v n z hz hf l W hW d3) w hk hl d1).mono ?_
        rintro e w' ⟨t2, rfl, k1, k2, k3, k4, k5, k6, k7⟩
        have hlr : ∀ x, x ∈ t2.fp → x ∉ r.fp := fun x hx h9 => (k5 x hx).elim (fun h8 => d5 x h8 h9) (fun h8 => absurd (hr.lt x h9) (by omega))
        refine ⟨.nd g n' z' v' t2 r, rfl, ⟨k1, hz', hf', k2, hr.kp k4 (fun x hx h9 => ?_)⟩, by rw [Ht.bits, k3], ⟨k4.os, k4.tape, k4.output, k4.size, fun i hi hx => k4.block i hi (fun h9 => hx (by rcases List.mem_cons.1 h9 with h8 | h8; exact mem_nd.2 (.inl h8); exact mem_nd.2 (.inr (.inl h8))))⟩, fun k hk => ?_, nd_nodup' k7 d2 k6 d4 hlr⟩
        · rcases List.mem_cons.1 h9 with h8 | h8
          · exact d2 (h8 ▸ hx)
          · exact d5 x h8 hx
        · rcases mem_nd.1 hk with h9 | h9 | h9
          · exact .inl (mem_nd.2 (.inl h9))
          · exact (k5 k h9).imp_left (fun h8 => mem_nd.2 (.inr (.inl h8)))
          · exact .inl (mem_nd.2 (.inr (.inr h9)))
    rw [if_neg e2]
    obtain ⟨L, hL⟩ : ∃ L, Tr.lcp (btP n' z') (btP n z) = L := ⟨_, rfl⟩
    have hql : L < n' := by
      rcases Nat.lt_or_eq_of_le (Tr.lcp_le_left (btP n' z') (btP n z)) with h9 | h9
      · rwa [hL, btP_len] at h9
      · exact absurd ((Tr.lcp_cov _ _).1 h9) e2
    have hLn : L ≤ n := by have := Tr.lcp_le_right (btP n' z') (btP n z); rwa [hL, btP_len] at this
    have hzL := firstZ_bd hz L
    have hfL := cut_form' hz hf hLn
    rw [hL]
    -- what lies above
    have key : ∀ (T : Tr) (sq : Bool), Tr.side (btP n' z') L = sq →
        (∀ gA W, w.heap.size ≤ gA → Below w.heap.size w W → Blk 106 W gA (ndC fam L (firstZ z L) false 0 (Ht.pick sq (.nd g n' z' v' l r) .nil).root (Ht.pick sq .nil (.nd g n' z' v' l r)).root) →
          Calls Try.prog 44 #[.pointer (some ⟨gA, 0, none⟩), .agg (pvC fam n z), .int .i64 v] W (fun e w' => ∃ x, e = .returned x ∧ (∃ t : Ht, x = t.root ∧ t.At w' fam ∧ t.bits = T ∧ Kp (Ht.nd g n' z' v' l r).fp w w' ∧ (∀ k, k ∈ t.fp → k ∈ (Ht.nd g n' z' v' l r).fp ∨ w.heap.size ≤ k) ∧ t.fp.Nodup) ∧ Kp (gA :: []) W w')) →
        Calls Try.prog 44 #[.pointer (some ⟨g, 0, none⟩), .agg (pvC fam n z), .int .i64 v] w (TreeP fam (Ht.nd g n' z' v' l r).fp T w) := by
      intro T sq hsq hrec
      cases sq with
      | true =>
        refine (with_fork1 g fam _ v n n' z z' _ l r L hz hz' hf.1 hn hn' he e2 hL hql hsq w _ [] (fun k hk => by cases hk) hrec hk).mono ?_
        rintro e w' ⟨x, rfl, t, rfl, h9⟩
        exact ⟨t, rfl, h9⟩
      | false =>
        refine (with_fork0 g fam _ v n n' z z' _ l r L hz hz' hf.1 hn hn' he e2 hL hql hsq w _ [] (fun k hk => by cases hk) hrec hk).mono ?_
        rintro e w' ⟨x, rfl, t, rfl, h9⟩
        exact ⟨t, rfl, h9⟩
    have hbl : ∀ {W : World}, Below w.heap.size w W → (Ht.nd g n' z' v' l r).At W fam := fun h9 => Ht.At.below h0 h9 h0.lt
    have hgn : ∀ {gA : Nat}, w.heap.size ≤ gA → gA ∉ (Ht.nd g n' z' v' l r).fp := fun h8 h9 => absurd (h0.lt _ h9) (by omega)
    have hkp : ∀ {gA : Nat} {W w' : World}, w.heap.size ≤ gA → Below w.heap.size w W → Kp [gA] W w' → Kp (Ht.nd g n' z' v' l r).fp w w' := fun h7 h8 h9 => (Kp.of_below _ h8).tr h9 (fun x hx => .inr (by rw [List.mem_singleton.1 hx]; exact h7))
    by_cases e3 : L = n
    · have e3' : n = L := e3.symm
      subst e3'
      have hLn' : n = (btP n z).length := (btP_len n z).symm
      rw [if_pos hLn']
      have hsm : (n : Int) = (n : Int) ∧ Same16 (firstZ z n) z := ⟨rfl, ((form_same fam n z).1 hf).2⟩
      have hbt : btP n (firstZ z n) = btP n z := btP_first hz n
      rw [btP_len]
      by_cases hs : Tr.side (btP n' z') n = true
      · rw [if_pos hs]
        refine key _ true hs fun gA W h1 h2 h3 => ?_
        refine (with_same gA fam 0 v n n z (firstZ z n) false .nil (.nd g n' z' v' l r) hz hzL hsm W h3).mono ?_
        rintro e w' ⟨rfl, k1, k2⟩
        refine ⟨_, rfl, ⟨.nd gA n (firstZ z n) (some v) .nil (.nd g n' z' v' l r), rfl, ⟨k1, hzL, hfL, trivial, (hbl h2).kp k2 (fun x hx h9 => hgn h1 (List.mem_singleton.1 h9 ▸ hx))⟩, by simp only [Ht.bits, hbt], hkp h1 h2 k2, fun k hk => ?_, nd_nodup' (by simp [Ht.fp]) (hgn h1) (by simp [Ht.fp]) hnd (fun x hx => by cases hx)⟩, k2⟩
        rcases mem_nd.1 hk with h9 | h9 | h9
        · exact .inr (h9 ▸ h1)
        · cases h9
        · exact .inl h9
      · rw [if_neg hs]
        rw [Bool.not_eq_true] at hs
        refine key _ false hs fun gA W h1 h2 h3 => ?_
        refine (with_same gA fam 0 v n n z (firstZ z n) false (.nd g n' z' v' l r) .nil hz hzL hsm W h3).mono ?_
        rintro e w' ⟨rfl, k1, k2⟩
        refine ⟨_, rfl, ⟨.nd gA n (firstZ z n) (some v) (.nd g n' z' v' l r) .nil, rfl, ⟨k1, hzL, hfL, (hbl h2).kp k2 (fun x hx h9 => hgn h1 (List.mem_singleton.1 h9 ▸ hx)), trivial⟩, by simp only [Ht.bits, hbt], hkp h1 h2 k2, fun k hk => ?_, nd_nodup' (hgn h1) (by simp [Ht.fp]) hnd (by simp [Ht.fp]) (fun x hx h9 => by cases h9)⟩, k2⟩
        rcases mem_nd.1 hk with h9 | h9 | h9
        · exact .inr (h9 ▸ h1)
        · exact .inl h9
        · cases h9
    · have hlt : L < n := by omega
      rw [if_neg (by rw [btP_len]; exact e3)]
      have hfl := side_flip (q := btP n' z') (p := btP n z) (by rw [hL, btP_len]; exact hlt) (by rw [hL, btP_len]; exact hql)
      rw [hL] at hfl
      have hbt : btP L (firstZ z L) = (btP n z).take L := btP_joint hz hLn
      have hc : btP L (firstZ z L) <+: btP n z := by rw [hbt]; exact List.take_prefix _ _
      have he' : ¬ ((L : Int) = (n : Int) ∧ Same16 (firstZ z L) z) := fun h9 => by omega
      by_cases hs : Tr.side (btP n z) L = true
      · rw [if_pos hs]
        rw [hs] at hfl
        refine key _ false hfl fun gA W h1 h2 h3 => ?_
        refine (with_side1 gA fam 0 v n L z (firstZ z L) false (.nd g n' z' v' l r) .nil hz hzL hn he' hc hlt hs _ (fun W hW => with_nil fam v n z hz hf W) W h3 trivial (by simp [Ht.fp])).mono ?_
        rintro e w' ⟨t2, rfl, k1, k2, k3, k4, k5, k6, k7⟩
        have k5' : ∀ k, k ∈ t2.fp → W.heap.size ≤ k := fun k hk => (k5 k hk).elim (fun h => by cases h) id
        refine ⟨_, rfl, ⟨.nd gA L (firstZ z L) none (.nd g n' z' v' l r) t2, rfl, ⟨k1, hzL, hfL, (hbl h2).kp k4 (fun x hx h9 => hgn h1 (List.mem_singleton.1 h9 ▸ hx)), k2⟩, by simp only [Ht.bits, hbt, k3], hkp h1 h2 k4, fun k hk => ?_, nd_nodup' (hgn h1) k7 hnd k6 (fun x hx h9 => absurd (h0.lt x hx) (by have := k5' x h9; have := h2.size; omega))⟩, k4⟩
        rcases mem_nd.1 hk with h9 | h9 | h9
        · exact .inr (h9 ▸ h1)
        · exact .inl h9
        · exact .inr (Nat.le_trans h2.size (k5' k h9))
      · rw [if_neg hs]
        rw [Bool.not_eq_true] at hs
        rw [hs] at hfl
        refine key _ true hfl fun gA W h1 h2 h3 => ?_
        refine (with_side0 gA fam 0 v n L z (firstZ z L) false .nil (.nd g n' z' v' l r) hz hzL hn he' hc hlt hs _ (fun W hW => with_nil fam v n z hz hf W) W h3 trivial (by simp [Ht.fp])).mono ?_
        rintro e w' ⟨t2, rfl, k1, k2, k3, k4, k5, k6, k7⟩
        have k5' : ∀ k, k ∈ t2.fp → W.heap.size ≤ k := fun k hk => (k5 k hk).elim (fun h => by cases h) id
        refine ⟨_, rfl, ⟨.nd gA L (firstZ z L) none t2 (.nd g n' z' v' l r), rfl, ⟨k1, hzL, hfL, k2, (hbl h2).kp k4 (fun x hx h9 => hgn h1 (List.mem_singleton.1 h9 ▸ hx))⟩, by simp only [Ht.bits, hbt, k3], hkp h1 h2 k4, fun k hk => ?_, nd_nodup' k7 (hgn h1) k6 hnd (fun x h9 hx => absurd (h0.lt x hx) (by have := k5' x h9; have := h2.size; omega))⟩, k4⟩
        rcases mem_nd.1 hk with h9 | h9 | h9
        · exact .inr (h9 ▸ h1)
        · exact .inr (Nat.le_trans h2.size (k5' k h9))
        · exact .inl h9
end Go.Proofs.Ytjnbemopfhinbaa
/- without of the program's trie. Each theorem states its conditions. -/
namespace Go.Proofs.Ytjnbemopfhinbaa
open Go.RowKit
set_option linter.unusedVariables false
set_option linter.unusedSimpArgs false

section
variable {g n : Nat} {z : Nat → Int} {h : Option Int} {l r : Ht}
end
end Go.Proofs.Ytjnbemopfhinbaa
