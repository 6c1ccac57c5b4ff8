/- Texts of this claim put together; each theorem states its conditions. -/
import Derived.Test.YtccoicjmmeoggaaDoorGMacSealsCard3
import Derived.Test.YtccoicjmmeoggaaDoorGMacSealsCard1
import Derived.Laws.AppendOwnNone
import Derived.Deep.DeepCutAuto
import Derived.Deep.CutBlock
/- pdu.Write, all ways told as one. Each theorem states its conditions. -/
namespace Go.Proofs.YtccoicjmmeoggaaDoor
open Go.RowKit
set_option linter.unusedVariables false

/-- n bytes and a number -/
def WrP (w : World) (n : Nat) (X : Int) (z : Nat → Int) (e : Ending) (w' : World) : Prop :=
  ∃ A c, e = .returned (.tuple #[.slice A n c, .int .i64 X]) ∧ Rd w' A n z ∧ n ≤ c ∧ c ≤ maxLen ∧ Below w.heap.size w w' ∧ (X = 0 → ∃ g, A = some ⟨g, 0, none⟩ ∧ w.heap.size ≤ g ∧ Own8 w' g n c z)
/-- what Write says, how many bytes, which -/
def wrX (p : Pd) (L : Nat → It) (m0 : Nat) : Int := if cls p.kd = 5 ∨ fitP p (cls p.kd) = false then 1 else if m0 < p.m ∨ 1492 < hdN (cls p.kd) + sz L p.m then 2 else 0
def wrN (p : Pd) (L : Nat → It) (m0 : Nat) : Nat := if wrX p L m0 = 0 then hdN (cls p.kd) + sz L p.m else 0
def wrZ (p : Pd) (L : Nat → It) (m0 : Nat) : Nat → Int := if wrX p L m0 = 0 then pdZ p (cls p.kd) L else fun _ => 0
theorem cls_le (k : Int) : cls k ≤ 5 := by unfold cls; (repeat' split) <;> omega
theorem wr_none {w w' : World} {X : Int} {e : Ending} (hX : X ≠ 0) (he : e = .returned (.tuple #[.slice none 0 0, .int .i64 X])) (hb : Below w.heap.size w w') : WrP w 0 X (fun _ => 0) e w' :=
  ⟨none, 0, he, ⟨.inl rfl, fun _ => ⟨Int.le_refl 0, (by decide : (0 : Int) ≤ 255)⟩⟩, Nat.le_refl _, by decide, hb, fun h => absurd h hX⟩
theorem wr_1 (p : Pd) (L : Nat → It) (m0 : Nat) (h : cls p.kd = 5 ∨ fitP p (cls p.kd) = false) : wrX p L m0 = 1 ∧ wrN p L m0 = 0 ∧ wrZ p L m0 = fun _ => 0 := by
  have h1 : wrX p L m0 = 1 := if_pos h
  refine ⟨h1, ?_, ?_⟩
  · unfold wrN; rw [h1]; rfl
  · unfold wrZ; rw [h1]; rfl
theorem wr_2 (p : Pd) (L : Nat → It) (m0 : Nat) (h : ¬ (cls p.kd = 5 ∨ fitP p (cls p.kd) = false)) (h2 : m0 < p.m ∨ 1492 < hdN (cls p.kd) + sz L p.m) : wrX p L m0 = 2 ∧ wrN p L m0 = 0 ∧ wrZ p L m0 = fun _ => 0 := by
  have h1 : wrX p L m0 = 2 := by unfold wrX; rw [if_neg h, if_pos h2]
  refine ⟨h1, ?_, ?_⟩
  · unfold wrN; rw [h1]; rfl
  · unfold wrZ; rw [h1]; rfl
theorem wr_0 (p : Pd) (L : Nat → It) (m0 : Nat) (h : ¬ (cls p.kd = 5 ∨ fitP p (cls p.kd) = false)) (h2 : ¬ (m0 < p.m ∨ 1492 < hdN (cls p.kd) + sz L p.m)) : wrX p L m0 = 0 ∧ wrN p L m0 = hdN (cls p.kd) + sz L p.m ∧ wrZ p L m0 = pdZ p (cls p.kd) L := by
  have h1 : wrX p L m0 = 0 := by unfold wrX; rw [if_neg h, if_neg h2]
  refine ⟨h1, ?_, ?_⟩
  · unfold wrN; rw [if_pos h1]
  · unfold wrZ; rw [if_pos h1]
theorem wrN_le (p : Pd) (L : Nat → It) (m0 : Nat) : wrN p L m0 ≤ 1492 := by
  unfold wrN wrX
  by_cases h : cls p.kd = 5 ∨ fitP p (cls p.kd) = false
  · rw [if_pos h]; simp
  · rw [if_neg h]
    by_cases h2 : m0 < p.m ∨ 1492 < hdN (cls p.kd) + sz L p.m
    · rw [if_pos h2]; simp
    · rw [if_neg h2]; simp only [if_true]; omega
theorem wrX_bd (p : Pd) (L : Nat → It) (m0 : Nat) : 0 ≤ wrX p L m0 ∧ wrX p L m0 ≤ 2 := by
  unfold wrX; (repeat' split) <;> omega
theorem write_any (p : Pd) (hp : PdOk p) (L : Nat → It) (m0 : Nat) (hm : JEnds L p.m m0) (w : World) (hin : PdIn w p L) :
    Calls Tryd.prog 28 #[.agg (pdC p)] w (WrP w (wrN p L m0) (wrX p L m0) (wrZ p L m0)) := by
  have hc := cls_le p.kd
  by_cases h5 : cls p.kd = 5
  · obtain ⟨e1, e2, e3⟩ := wr_1 p L m0 (.inl h5)
    rw [e1, e2, e3]
    exact (write_5 p h5 w).mono fun e w' h => wr_none (by decide) h.1 h.2
  · have hq : cls p.kd ≤ 4 := by omega
    cases hf : fitP p (cls p.kd)
    · obtain ⟨e1, e2, e3⟩ := wr_1 p L m0 (.inr hf)
      rw [e1, e2, e3]
      exact (write_nofit p _ rfl hq hp hf w).mono fun e w' h => wr_none (by decide) h.1 h.2
    · have hn : ¬ (cls p.kd = 5 ∨ fitP p (cls p.kd) = false) := by rw [hf]; simpa using h5
      by_cases hlt : m0 < p.m
      · obtain ⟨e1, e2, e3⟩ := wr_2 p L m0 hn (.inl hlt)
        rw [e1, e2, e3]
        exact (write_join p _ rfl hq hp hf L m0 hm hlt w hin).mono fun e w' h => wr_none (by decide) h.1 h.2
      · obtain rfl : m0 = p.m := by have := hm.1; omega
        by_cases hl : 1492 < hdN (cls p.kd) + sz L p.m
        · obtain ⟨e1, e2, e3⟩ := wr_2 p L p.m hn (.inr hl)
          rw [e1, e2, e3]
          exact (write_long p _ rfl hq hp hf L hm hl w hin).mono fun e w' h => wr_none (by decide) h.1 h.2
        · obtain ⟨e1, e2, e3⟩ := wr_0 p L p.m hn (by omega)
          rw [e1, e2, e3]
          refine (write_ok p _ rfl hq hp hf L hm (by omega) w hin).mono fun e w' h => ?_
          obtain ⟨v, rfl, ho, hb⟩ := h
          have h17 := hdN_bd _ hq
          obtain ⟨g, cap, rfl, hg, hO⟩ := own_ofB ho (by omega)
          exact ⟨_, _, rfl, hO.rd, hO.caps.1, hO.caps.2, hb, fun _ => ⟨g, rfl, hg, hO⟩⟩
/-- packets that have the same in all fields of their kind -/
def PdLike (p p' : Pd) : Prop := p.kd = p'.kd ∧ p.m = p'.m ∧ ∀ i, i < (flC (cls p.kd)).length → fitB p (fAt (cls p.kd) i) = fitB p' (fAt (cls p.kd) i) ∧ ∀ W, fZ p W (fAt (cls p.kd) i) = fZ p' W (fAt (cls p.kd) i)
theorem accZ_congr {p p' : Pd} {q W : Nat} (hk : p.kd = p'.kd) (n : Nat) (h : ∀ i, i < n → fZ p W (fAt q i) = fZ p' W (fAt q i)) : accZ p W q n = accZ p' W q n := by
  induction n with
  | zero => simp only [accZ, hk]
  | succ n ih => simp only [accZ, ih fun i hi => h i (by omega), h n (by omega)]
theorem fitsTo_congr {p p' : Pd} {q : Nat} (n : Nat) (h : ∀ i, i < n → fitB p (fAt q i) = fitB p' (fAt q i)) : fitsTo p q n = fitsTo p' q n := by
  induction n with
  | zero => rfl
  | succ n ih => simp only [fitsTo, ih fun i hi => h i (by omega), h n (by omega)]
theorem pdZ_like {p p' : Pd} (h : PdLike p p') (L : Nat → It) : pdZ p (cls p.kd) L = pdZ p' (cls p'.kd) L := by
  obtain ⟨h1, h2, h3⟩ := h
  have hw : wZ p (cls p.kd) L = wZ p' (cls p.kd) L := by
    unfold wZ
    rw [h2, accZ_congr (p' := p') h1 _ fun i hi => (h3 i hi).2 _]
  unfold pdZ
  rw [← h1, hw, h2]
theorem wr_like {p p' : Pd} (h : PdLike p p') (L : Nat → It) (m0 : Nat) : wrX p L m0 = wrX p' L m0 ∧ wrN p L m0 = wrN p' L m0 ∧ wrZ p L m0 = wrZ p' L m0 := by
  have hz := pdZ_like h L
  obtain ⟨h1, h2, h3⟩ := h
  have hf : fitP p (cls p.kd) = fitP p' (cls p'.kd) := by
    rw [← h1]
    exact fitsTo_congr _ fun i hi => (h3 i hi).1
  have hX : wrX p L m0 = wrX p' L m0 := by
    unfold wrX
    rw [← hf, ← h1, h2]
  refine ⟨hX, ?_, ?_⟩
  · unfold wrN; rw [hX, ← h1, h2]
  · unfold wrZ; rw [hX, hz]
end Go.Proofs.YtccoicjmmeoggaaDoor

/- pdu.readFields reads what stands ahead of the TLVs. Each theorem states its conditions. -/
namespace Go.Proofs.YtccoicjmmeoggaaDoor
open Go.RowKit
set_option linter.unusedVariables false

theorem accN_mono (q i k : Nat) (h : i ≤ k) : accN q i ≤ accN q k := by
  induction k with
  | zero => obtain rfl : i = 0 := by omega
            exact Nat.le_refl _
  | succ k ih =>
    by_cases e : i = k + 1
    · subst e; exact Nat.le_refl _
    · have := ih (by omega); simp only [accN]; omega
end Go.Proofs.YtccoicjmmeoggaaDoor

/- pdu.readFields: the fields. Each theorem states its conditions. -/
namespace Go.Proofs.YtccoicjmmeoggaaDoor
open Go.RowKit
set_option linter.unusedVariables false

end Go.Proofs.YtccoicjmmeoggaaDoor

/- pdu.readFields: another length is told. Each theorem states its conditions. -/
namespace Go.Proofs.YtccoicjmmeoggaaDoor
open Go.RowKit
set_option linter.unusedVariables false

end Go.Proofs.YtccoicjmmeoggaaDoor

/- pdu.Read reads a packet. Each theorem states its conditions. -/
namespace Go.Proofs.YtccoicjmmeoggaaDoor
open Go.RowKit
set_option linter.unusedVariables false

/-- a packet with these TLVs -/
def withT (p : Pd) (A : Option Addr) (m c : Nat) : Pd := ⟨p.kd, p.ci, p.so, p.ho, p.nu, p.pr, p.la, p.li, p.id, p.sq, p.bi, p.st, p.en, A, m, c⟩
theorem OwnT.far {w w' : World} {base m b : Nat} {v : Value} {L : Nat → It} {C : Array Value} {t : TypeId} (h : OwnT w base v m L) (hs : Stored w w' b C t) (hb : b < base) : OwnT w' base v m L := by
  refine ⟨⟨h.1.1, ?_⟩, fun j hj => ?_⟩
  · rcases h.1.2 with h1 | ⟨g, cap, cur, hv, hg, hc, r⟩
    · exact .inl h1
    · exact .inr ⟨g, cap, cur, hv, hg, (hs.2.2 g (by omega)).trans hc, r⟩
  · obtain ⟨h1, h2, g, h3, h4, h5⟩ := h.2 j hj
    exact ⟨h1, h2, g, h3, h4, h5.block (hs.2.2 g (by omega))⟩
end Go.Proofs.YtccoicjmmeoggaaDoor

/- The document's Same of two packets: packets that are alike are the same. Each theorem states its conditions. -/
namespace Go.Proofs.YtccoicjmmeoggaaDoor
open Go.RowKit
set_option linter.unusedVariables false

end Go.Proofs.YtccoicjmmeoggaaDoor

/- The document's Plain: a packet with the fields alone that its kind has. Each theorem states its conditions. -/
namespace Go.Proofs.YtccoicjmmeoggaaDoor
open Go.RowKit
set_option linter.unusedVariables false

theorem hello_yes (k : Int) (h : k = 15 ∨ k = 16 ∨ k = 17) (w : World) : Calls Tryd.prog 50 #[.int .u8 k] w fun e w' => e = .returned (.bool true) ∧ w = w' := by
  rcases h with rfl | rfl | rfl <;>
  · go_enter Tryd.func50, Tryd.ntmps50
    go_wp2
    go_ret
    exact ⟨rfl, rfl⟩
theorem hello_no (k : Int) (h : ¬ (k = 15 ∨ k = 16 ∨ k = 17)) (w : World) : Calls Tryd.prog 50 #[.int .u8 k] w fun e w' => e = .returned (.bool false) ∧ w = w' := by
  have h1 : (k == 15) = false := by simp; omega
  have h2 : (k == 16) = false := by simp; omega
  have h3 : (k == 17) = false := by simp; omega
  clear h
  go_enter Tryd.func50, Tryd.ntmps50
  go_wp2
  go_ret
  exact ⟨rfl, rfl⟩
theorem lsp_yes (k : Int) (h : k = 18 ∨ k = 20) (w : World) : Calls Tryd.prog 26 #[.int .u8 k] w fun e w' => e = .returned (.bool true) ∧ w = w' := by
  rcases h with rfl | rfl <;>
  · go_enter Tryd.func26, Tryd.ntmps26
    go_wp2
    go_ret
    exact ⟨rfl, rfl⟩
theorem lsp_no (k : Int) (h : ¬ (k = 18 ∨ k = 20)) (w : World) : Calls Tryd.prog 26 #[.int .u8 k] w fun e w' => e = .returned (.bool false) ∧ w = w' := by
  have h1 : (k == 18) = false := by simp; omega
  have h2 : (k == 20) = false := by simp; omega
  clear h
  go_enter Tryd.func26, Tryd.ntmps26
  go_wp2
  go_ret
  exact ⟨rfl, rfl⟩
end Go.Proofs.YtccoicjmmeoggaaDoor

/- The document's Head: how many bytes stand ahead of the TLVs. Each theorem states its conditions. -/
namespace Go.Proofs.YtccoicjmmeoggaaDoor
open Go.RowKit
set_option linter.unusedVariables false

theorem refHead_of (k : Int) (n : Nat) (h : (k = 17 ∧ n = 20) ∨ (k = 15 ∧ n = 27) ∨ (k = 16 ∧ n = 27) ∨ (k = 18 ∧ n = 27) ∨ (k = 20 ∧ n = 27) ∨ (k = 24 ∧ n = 33) ∨ (k = 25 ∧ n = 33) ∨ (k = 26 ∧ n = 17) ∨ (k = 27 ∧ n = 17)) (w : World) :
    Calls Tryd.prog 68 #[.int .u8 k] w fun e w' => e = .returned (.int .i64 (n : Nat)) ∧ w = w' := by
  rcases h with ⟨rfl, rfl⟩ | ⟨rfl, rfl⟩ | ⟨rfl, rfl⟩ | ⟨rfl, rfl⟩ | ⟨rfl, rfl⟩ | ⟨rfl, rfl⟩ | ⟨rfl, rfl⟩ | ⟨rfl, rfl⟩ | ⟨rfl, rfl⟩ <;>
  · go_enter Tryd.func68, Tryd.ntmps68
    go_wp2
    go_ret
    exact ⟨rfl, rfl⟩
/-- of a kind that there is -/
theorem refHead_any (k : Int) (q : Nat) (hk : cls k = q) (hq : q ≤ 4) (w : World) : Calls Tryd.prog 68 #[.int .u8 k] w fun e w' => e = .returned (.int .i64 (hdN q : Nat)) ∧ w = w' := by
  refine refHead_of k (hdN q) ?_ w
  subst hk
  unfold cls at hq ⊢
  by_cases h0 : k = 17
  · rw [if_pos h0]; exact .inl ⟨h0, rfl⟩
  rw [if_neg h0] at hq ⊢
  by_cases h1 : k = 15 ∨ k = 16
  · rw [if_pos h1]; rcases h1 with h | h <;> simp [h, show hdN 1 = 27 from rfl]
  rw [if_neg h1] at hq ⊢
  by_cases h2 : k = 18 ∨ k = 20
  · rw [if_pos h2]; rcases h2 with h | h <;> simp [h, show hdN 2 = 27 from rfl]
  rw [if_neg h2] at hq ⊢
  by_cases h3 : k = 24 ∨ k = 25
  · rw [if_pos h3]; rcases h3 with h | h <;> simp [h, show hdN 3 = 33 from rfl]
  rw [if_neg h3] at hq ⊢
  by_cases h4 : k = 26 ∨ k = 27
  · rw [if_pos h4]; rcases h4 with h | h <;> simp [h, show hdN 4 = 17 from rfl]
  rw [if_neg h4] at hq
  exact absurd hq (by decide)
/-- of no kind -/
theorem refHead_none (k : Int) (hk : cls k = 5) (w : World) : Calls Tryd.prog 68 #[.int .u8 k] w fun e w' => e = .returned (.int .i64 0) ∧ w = w' := by
  have H : k ≠ 17 ∧ k ≠ 15 ∧ k ≠ 16 ∧ k ≠ 18 ∧ k ≠ 20 ∧ k ≠ 24 ∧ k ≠ 25 ∧ k ≠ 26 ∧ k ≠ 27 := by
    refine ⟨?_, ?_, ?_, ?_, ?_, ?_, ?_, ?_, ?_⟩ <;> rintro rfl <;> exact absurd hk (by decide)
  have h1 : (k == 17) = false := by simp; omega
  have h2 : (k == 15) = false := by simp; omega
  have h3 : (k == 16) = false := by simp; omega
  have h4 : (k == 18) = false := by simp; omega
  have h5 : (k == 20) = false := by simp; omega
  have h6 : (k == 24) = false := by simp; omega
  have h7 : (k == 25) = false := by simp; omega
  have h8 : (k == 26) = false := by simp; omega
  have h9 : (k == 27) = false := by simp; omega
  clear H hk
  go_enter Tryd.func68, Tryd.ntmps68
  go_wp2
  go_ret
  exact ⟨rfl, rfl⟩
end Go.Proofs.YtccoicjmmeoggaaDoor

/- The document's Join and DocJoin write a list as bytes. Each theorem states its conditions. -/
namespace Go.Proofs.YtccoicjmmeoggaaDoor
open Go.RowKit
set_option linter.unusedVariables false

theorem one_new (w : World) (a : Value) (t : TypeId) : ∀ j u, [a][j]? = some u → (w.alloc (.cells #[a] t)).cell? ((⟨w.heap.size, 0, none⟩ : Addr).add j) = some u := by
  intro j u hj
  match j, hj with
  | 0, hj => simp at hj; subst hj; simp [Addr.add]
theorem one_new2 (w : World) (o : Obj) (a : Value) (t : TypeId) : ∀ j u, [a][j]? = some u → ((w.alloc o).alloc (.cells #[a] t)).cell? ((⟨w.heap.size + 1, 0, none⟩ : Addr).add j) = some u := by
  have := one_new (w.alloc o) a t
  rwa [World.size_alloc] at this
theorem int_one (k : IntKind) (a : Int) : ∀ u ∈ [Value.int k a], u.oneCell' = true := by
  intro u hu; simp only [List.mem_cons, List.not_mem_nil, or_false] at hu; subst hu; rfl

theorem far_step {x n : Nat} {v v' : Value} (h : v'.ownBlock = v.ownBlock ∨ v'.ownBlock = some n) (hf : some x ≠ v.ownBlock) (hx : x < n) : some x ≠ v'.ownBlock := by
  rcases h with e | e
  · rw [e]; exact hf
  · rw [e]; intro e'; injection e' with e'; omega

def RefJoinPost (w : World) (L : Nat → It) (m : Nat) (e : Ending) (w' : World) : Prop :=
  ∃ v, e = .returned v ∧ w'.ownsRow w.heap.size 5 1 v (sz L m) (vals (J L m) (sz L m)) ∧ Below w.heap.size w w'

set_option maxHeartbeats 4000000 in
set_option maxRecDepth 100000 in
theorem refjoin_any (A : Option Addr) (m c : Nat) (L : Nat → It) (w : World) (h : RdT w A m L) (hc : m ≤ c) (hcm : c ≤ 9223372036854775807) (hm : ∀ k, k < m → ¬ bad L k) :
    Calls Tryd.prog 90 #[.slice A m c] w (RefJoinPost w L m) := by
  obtain ⟨i0, hi, hz0, hz1, hz2⟩ := info_parts info_u8
  have HM := Lib.hid hm
  have HR := Lib.hid h
  clear h hm
  go_enter Tryd.func90, Tryd.ntmps90
  go_wp2_with fail
  go_loopw [3, 8] (fun v i wr => ∃ k : Nat, k ≤ m ∧ i = .int .i64 k ∧ wr.ownsRow w.heap.size 5 1 v (sz L k) (vals (J L k) (sz L k)) ∧ Below w.heap.size w wr)
    (fun _ i _ => m - (intOf i).toNat)
  case atStart => exact ⟨0, by omega, rfl, World.ownsRow_nil _ _ _ _, bself w⟩
  case round =>
    obtain ⟨k, hk, rfl, hown, hb⟩ := hrel
    by_cases hkm : k < m
    · obtain ⟨b, off, rfl, hr⟩ := (HR.out.below hb).row (by omega)
      obtain ⟨c0, c1, c2⟩ := hr.2 k hkm
      have hRd : Rd w (L k).A (L k).n (L k).z := by
        obtain ⟨b', off', _, hr'⟩ := HR.out.row (by omega)
        exact (hr'.2 k hkm).2.2.2.1
      have hnone := c2.2.2.1
      have hs1 : sz L (k + 1) = sz L k + (2 + (L k).n) := rfl
      have hnb := HM.out k hkm
      unfold bad at hnb
      have q1 : ((L k).n : Int) ≤ 255 := by omega
      have q2 : sz L k + (2 + (L k).n) ≤ 1492 := by omega
      have HRd := Lib.hid hRd
      have HO := Lib.hid hown
      have hJ : vals (J L k) (sz L k) ++ [.int .u8 (L k).ty] ++ [.int .u8 ((L k).n : Int)] ++ vals (L k).z (L k).n = vals (J L (k + 1)) (sz L (k + 1)) := by
        rw [List.append_assoc _ [_] [_], show [Value.int .u8 (L k).ty] ++ [.int .u8 ((L k).n : Int)] = vals (two (L k).ty (L k).n) 2 from (vals_two _ _).symm, vals_cat, vals_cat]
        show vals _ (sz L k + 2 + (L k).n) = vals _ (sz L k + (2 + (L k).n))
        rw [Nat.add_assoc]
        rfl
      have HJ := Lib.hid hJ
      have HSE := Lib.hid hs1
      have hHN1 := Lib.hid (vals_one (L k).z (L k).n)
      have hHNL := Lib.hid (show (vals (L k).z (L k).n).length = (L k).n * 1 by rw [vals_len]; omega)
      have hbs := hb.size
      have hfar : some wr.heap.size ≠ u3.ownBlock := fun e => by have := (hown.lt _ e.symm).2; omega
      clear hr hnb hs1 hRd hown hJ c2
      generalize hty : (L k).ty = ty at *
      generalize hLA : (L k).A = LA at *
      generalize hLn : (L k).n = n at *
      generalize hLc : (L k).c = lc at *
      generalize hsk : sz L k = s at *
      have HNone := Lib.hid hnone
      have m1 : s + 1 ≤ maxLen := by unfold maxLen; omega
      have m2 : s + 1 + 1 ≤ maxLen := by unfold maxLen; omega
      have m3 : s + 1 + 1 + n ≤ maxLen := by unfold maxLen; omega
      clear hty hLA hLn hLc hsk hnone
      rcases LA with _ | ad
      · obtain ⟨rfl, rfl⟩ := HNone.out rfl
        go_wp2_with (first
          | (at_builtin; refine wpList_append_own_at _ rfl (.tmp 12) (.tmp 15) 22 rfl w.heap.size 5 i0 (.int .u8 0) 1 1 Tryd.underlying22 hi hz0 hz1 hz2 rfl (by decide) u3 s _ rfl ((HO.out.alloc _).alloc _) ⟨wr.heap.size + 1, 0, none⟩ 1 1 [.int .u8 ty] rfl rfl (one_new2 wr _ _ _) (int_one _ _) m1 (by omega) (by simp; omega) ?_; intro v1 w1 hown1 hgrow1 hnil1 hat1; have ct1 : w1.cell? ⟨wr.heap.size, 1, none⟩ = some (.slice none 0 0) := hgrow1.cell (by simp) hfar)
          | (at_builtin; refine wpList_append_own_at _ rfl (.tmp 17) (.tmp 22) 22 rfl w.heap.size 5 i0 (.int .u8 0) 1 1 Tryd.underlying22 hi hz0 hz1 hz2 rfl (by decide) v1 (s + 1) _ rfl (hown1.alloc _) ⟨w1.heap.size, 0, none⟩ 1 1 [.int .u8 ((0 : Nat) : Int)] rfl rfl (one_new w1 _ _) (int_one _ _) m2 (by omega) (by have := hgrow1.size; simp at this ⊢; omega) ?_; intro v2 w2 hown2 hgrow2 hnil2 hat2; have ct2 : w2.cell? ⟨wr.heap.size, 1, none⟩ = some (.slice none 0 0) := hgrow2.cell (by rw [World.cell?_alloc_lt _ _ _ (cell_lt ct1)]; exact ct1) (far_step hat1 hfar (by simp; omega)))
          | (at_builtin; refine wpList_append_own_none rfl (.tmp 24) (.tmp 26) 22 rfl w.heap.size 5 i0 1 Tryd.underlying22 hi v2 (s + 1 + 1) _ rfl hown2 rfl ?_))
        have hs1' := hgrow1.size
        have hs2' := hgrow2.size
        simp at hs1' hs2'
        have hB2 := (((((hb.alloc hbs _).alloc (by simp; omega) _).grown hgrow1 (by simp; omega) (fun x e => (HO.out.lt x e).1)).alloc (by omega) _)).grown hgrow2 (by simp; omega) (fun x e => (hown1.lt x e).1)
        have HB2 := Lib.hid hB2
        have hR : w2.ownsRow w.heap.size 5 1 v2 (sz L (k + 1)) (vals (J L (k + 1)) (sz L (k + 1))) := by
          rw [← HJ.out, HSE.out]
          simpa [vals, Nat.add_assoc] using hown2
        have HRR := Lib.hid hR
        clear hR hB2 hown2 hown1 hgrow1 hgrow2 hat1 hat2 hnil1 hnil2 ct1 ct2 c0 c1
        go_roundw
        case rel => exact ⟨k + 1, by omega, by go_num, HRR.out, HB2.out⟩
        case measure => simp only [intOf]; omega
      · have hns := HNone
        go_wp2_with (first
          | (at_builtin; refine wpList_append_own_at _ rfl (.tmp 12) (.tmp 15) 22 rfl w.heap.size 5 i0 (.int .u8 0) 1 1 Tryd.underlying22 hi hz0 hz1 hz2 rfl (by decide) u3 s _ rfl ((HO.out.alloc _).alloc _) ⟨wr.heap.size + 1, 0, none⟩ 1 1 [.int .u8 ty] rfl rfl (one_new2 wr _ _ _) (int_one _ _) m1 (by omega) (by simp; omega) ?_; intro v1 w1 hown1 hgrow1 hnil1 hat1; have ct1 : w1.cell? ⟨wr.heap.size, 1, none⟩ = some (.slice (some ad) n lc) := hgrow1.cell (by simp) hfar)
          | (at_builtin; refine wpList_append_own_at _ rfl (.tmp 17) (.tmp 22) 22 rfl w.heap.size 5 i0 (.int .u8 0) 1 1 Tryd.underlying22 hi hz0 hz1 hz2 rfl (by decide) v1 (s + 1) _ rfl (hown1.alloc _) ⟨w1.heap.size, 0, none⟩ 1 1 [.int .u8 (n : Int)] rfl rfl (one_new w1 _ _) (int_one _ _) m2 (by omega) (by have := hgrow1.size; simp at this ⊢; omega) ?_; intro v2 w2 hown2 hgrow2 hnil2 hat2; have ct2 : w2.cell? ⟨wr.heap.size, 1, none⟩ = some (.slice (some ad) n lc) := hgrow2.cell (by rw [World.cell?_alloc_lt _ _ _ (cell_lt ct1)]; exact ct1) (far_step hat1 hfar (by simp; omega)))
          | (at_builtin; refine wpList_append_own_at _ rfl (.tmp 24) (.tmp 26) 22 rfl w.heap.size 5 i0 (.int .u8 0) 1 1 Tryd.underlying22 hi hz0 hz1 hz2 rfl (by decide) v2 (s + 1 + 1) _ rfl hown2 ad n lc (vals (L k).z n) rfl hHNL.out (rd_news' (HRd.out.below ((((((hb.alloc hbs _).alloc (by simp; omega) _).grown hgrow1 (by simp; omega) (fun x e => (HO.out.lt x e).1)).alloc (by have := hgrow1.size; simp at this; omega) _)).grown hgrow2 (by have := hgrow1.size; simp at this ⊢; omega) (fun x e => (hown1.lt x e).1)) rfl)) hHN1.out m3 (by omega) (by have := hgrow1.size; have h2 := hgrow2.size; simp at this h2; omega) ?_; intro v3 w3 hown3 hgrow3 hnil3 hat3))
        have hs1' := hgrow1.size
        have hs2' := hgrow2.size
        simp at hs1' hs2'
        have hB2 := (((((hb.alloc hbs _).alloc (by simp; omega) _).grown hgrow1 (by simp; omega) (fun x e => (HO.out.lt x e).1)).alloc (by omega) _)).grown hgrow2 (by simp; omega) (fun x e => (hown1.lt x e).1)
        have hs3' := hgrow3.size
        have hB3 := hB2.grown hgrow3 (by omega) (fun x e => (hown2.lt x e).1)
        have HB2 := Lib.hid hB3
        have hR : w3.ownsRow w.heap.size 5 1 v3 (sz L (k + 1)) (vals (J L (k + 1)) (sz L (k + 1))) := by
          rw [← HJ.out, HSE.out, show s + (2 + n) = s + 1 + 1 + n by omega]
          exact hown3
        have HRR := Lib.hid hR
        clear hR hB2 hB3 hown2 hown1 hown3 hgrow1 hgrow2 hgrow3 hat1 hat2 hat3 hnil1 hnil2 hnil3 ct1 ct2 c0 c1
        go_roundw
        case rel => exact ⟨k + 1, by omega, by go_num, HRR.out, HB2.out⟩
        case measure => simp only [intOf]; omega
    · obtain rfl : k = m := by omega
      have ho := Lib.hid hown
      clear hown
      go_wp2
      go_ret
      exact ⟨_, rfl, ho.out, hb⟩

/-- what DocJoin leaves -/
def DocJoinPost (w : World) (L : Nat → It) (m m0 : Nat) (e : Ending) (w' : World) : Prop :=
  (m0 = m ∧ ∃ v, e = .returned (.tuple #[v, .int .i64 0]) ∧ w'.ownsRow w.heap.size 5 1 v (sz L m) (vals (J L m) (sz L m)) ∧ Below w.heap.size w w') ∨
  (m0 < m ∧ e = .returned (.tuple #[.slice none 0 0, .int .i64 2]) ∧ Below w.heap.size w w')

set_option maxHeartbeats 4000000 in
set_option maxRecDepth 100000 in
theorem docjoin_any (A : Option Addr) (m c m0 : Nat) (L : Nat → It) (w : World) (h : RdT w A m L) (hc : m ≤ c) (hcm : c ≤ 9223372036854775807) (hm : JEnds L m m0) :
    Calls Tryd.prog 67 #[.slice A m c] w (DocJoinPost w L m m0) := by
  obtain ⟨i0, hi, hz0, hz1, hz2⟩ := info_parts info_u8
  have HM := Lib.hid hm
  have HR := Lib.hid h
  have hm0 := hm.1
  clear h hm
  go_enter Tryd.func67, Tryd.ntmps67
  go_wp2_with fail
  go_loopw [4, 9] (fun s i wr => ∃ k : Nat, k ≤ m0 ∧ s = .int .i64 (sz L k : Nat) ∧ i = .int .i64 k ∧ Below w.heap.size w wr)
    (fun _ i _ => m - (intOf i).toNat)
  case atStart => exact ⟨0, by omega, rfl, rfl, bself w⟩
  case round =>
    obtain ⟨k, hk, rfl, rfl, hb⟩ := hrel
    by_cases hkm : k < m
    · obtain ⟨b, off, rfl, hr⟩ := (HR.out.below hb).row (by omega)
      obtain ⟨c0, c1, c2⟩ := hr.2 k hkm
      have hn := c2.2.2.2
      have hs : sz L k ≤ 1492 := by
        rcases Nat.eq_zero_or_pos k with h0 | h0
        · subst h0; simp [sz]
        · have := HM.out.2.1 (k - 1) (by omega)
          unfold bad at this
          rw [show k - 1 + 1 = k by omega] at this
          omega
      have hs1 : sz L (k + 1) = sz L k + (2 + (L k).n) := rfl
      have HB2 := Lib.hid c2
      generalize hLn : (L k).n = n at *
      generalize hLs : sz L k = s at *
      by_cases hk0 : k < m0
      · have hnb := HM.out.2.1 k hk0
        unfold bad at hnb
        rw [hs1, hLn] at hnb
        have q1 : (n : Int) ≤ 255 := by omega
        have q2 : (s : Int) + (2 + (n : Int)) ≤ 1492 := by omega
        have HS1 := Lib.hid hs1
        have HLs := Lib.hid hLs
        have HLn := Lib.hid hLn
        clear hnb hs1 hr hLn hLs c2
        go_wp2
        go_roundw
        case rel => exact ⟨k + 1, by omega, by rw [HS1.out]; go_num, by go_num, hb.alloc hb.size _⟩
        case measure => simp only [intOf]; omega
      · obtain rfl : k = m0 := by omega
        have hbad : bad L k := by
          rcases HM.out.2.2 with h | h
          · omega
          · exact h.2
        unfold bad at hbad
        rw [hs1, hLn] at hbad
        have hend : DocJoinPost w L m k (.returned (.tuple #[.slice none 0 0, .int .i64 2])) (wr.alloc (.cells #[.int .u8 (L k).ty, .slice (L k).A n (L k).c] 49)) := .inr ⟨hkm, rfl, hb.alloc hb.size _⟩
        have HE := Lib.hid hend
        have HBA := Lib.hid hbad
        clear hs1 hr hLn hLs c2 hend hbad
        by_cases h1 : 255 < n
        · have q1 : (255 : Int) < (n : Int) := by omega
          go_wp2
          go_ret2
          exact HE.out
        · have q1 : (n : Int) ≤ 255 := by omega
          have q2 : (1492 : Int) < (s : Int) + (2 + (n : Int)) := by have := HBA.out; omega
          go_wp2
          go_ret2
          exact HE.out
    · obtain rfl : k = m := by omega
      obtain rfl : m0 = k := by omega
      have H := Lib.hid (refjoin_any A m0 c L wr (HR.out.below hb) hc hcm HM.out.2.1)
      go_wp2_with fail
      refine (H.out).mono ?_
      rintro e w1 ⟨v, rfl, ho, hb1⟩
      have HO := Lib.hid (show w1.ownsRow w.heap.size 5 1 v (sz L m0) (vals (J L m0) (sz L m0)) from ⟨ho.1, ho.2.elim .inl (fun ⟨g, cap, cur, hv, hg, r⟩ => .inr ⟨g, cap, cur, hv, Nat.le_trans hb.size hg, r⟩)⟩)
      have HB := Lib.hid (hb.trans (hb1.mono hb.size))
      clear ho hb1
      go_wp2
      go_ret2
      exact .inl ⟨rfl, v, rfl, HO.out, HB.out⟩
end Go.Proofs.YtccoicjmmeoggaaDoor

/- Bytes that grow by appends while other blocks stay as they are. Each theorem states its conditions. -/
namespace Go.Proofs.YtccoicjmmeoggaaDoor
open Go.RowKit
set_option linter.unusedVariables false

/-- blocks that stay as they are -/
def Kp (w : World) (l : List (Nat × Obj)) : Prop := ∀ p ∈ l, w.heap[p.1]? = some p.2
/-- bytes that grow: v is a row of the call's own, apart from the blocks of l -/
def Out (w0 w : World) (v : Value) (n : Nat) (z : Nat → Int) (l : List (Nat × Obj)) : Prop :=
  OwnB w w0.heap.size v n z ∧ Below w0.heap.size w0 w ∧ Kp w l ∧ ∀ p ∈ l, v.ownBlock ≠ some p.1
theorem Kp.nil (w : World) : Kp w [] := fun p h => by cases h
theorem Kp.cons {w : World} {l : List (Nat × Obj)} {g : Nat} {o : Obj} (h : Kp w l) (hg : w.heap[g]? = some o) : Kp w ((g, o) :: l) := by
  intro p hp
  rcases List.mem_cons.1 hp with rfl | hp
  · exact hg
  · exact h p hp
theorem Kp.tail {w : World} {l : List (Nat × Obj)} {q : Nat × Obj} (h : Kp w (q :: l)) : Kp w l := fun p hp => h p (List.mem_cons_of_mem _ hp)
theorem Kp.below {w w' : World} {l : List (Nat × Obj)} (h : Kp w l) (hb : Below w.heap.size w w') : Kp w' l := fun p hp => (hb.block _ (Array.getElem?_eq_some_iff.1 (h p hp)).1).trans (h p hp)
section
variable {w0 w w' : World} {v : Value} {n : Nat} {z : Nat → Int} {l : List (Nat × Obj)}
theorem Out.kp (h : Out w0 w v n z l) : Kp w l := h.2.2.1
theorem Out.le (h : Out w0 w v n z l) : w0.heap.size ≤ w.heap.size := h.2.1.size
theorem Out.tail {q : Nat × Obj} (h : Out w0 w v n z (q :: l)) : Out w0 w v n z l := ⟨h.1, h.2.1, h.2.2.1.tail, fun p hp => h.2.2.2 p (List.mem_cons_of_mem _ hp)⟩
theorem Out.below (h : Out w0 w v n z l) (hb : Below w.heap.size w w') : Out w0 w' v n z l := ⟨h.1.below hb, h.2.1.trans (hb.mono h.le), h.2.2.1.below hb, h.2.2.2⟩
theorem Out.new (h : Out w0 w v n z l) (hb : Below w.heap.size w w') {g : Nat} {o : Obj} (hg : w.heap.size ≤ g) (ho : w'.heap[g]? = some o) : Out w0 w' v n z ((g, o) :: l) := by
  refine ⟨h.1.below hb, h.2.1.trans (hb.mono h.le), (h.2.2.1.below hb).cons ho, fun p hp => ?_⟩
  rcases List.mem_cons.1 hp with rfl | hp
  · intro e
    have := (h.1.1.lt _ e).2
    simp only at this
    omega
  · exact h.2.2.2 p hp
theorem Out.alloc (h : Out w0 w v n z l) (C : Array Value) (t : TypeId) : Out w0 (w.alloc (.cells C t)) v n z ((w.heap.size, .cells C t (0, 0)) :: l) := h.new ((bself w).alloc (Nat.le_refl _) _) (Nat.le_refl _) (heap_alloc_new w _)
theorem Out.zz {z' : Nat → Int} (h : Out w0 w v n z l) (he : ∀ j, j < n → z j = z' j) (hz : ∀ j, 0 ≤ z' j ∧ z' j ≤ 255) : Out w0 w v n z' l := by
  refine ⟨⟨?_, hz⟩, h.2⟩
  rw [← vals_ext he]
  exact h.1.1
end
/-- an append to bytes that grow -/
theorem out_run {o : Oper} {a : Act} {w0 w : World} {v : Value} {n : Nat} {z : Nat → Int} {l : List (Nat × Obj)} (s x : Operand)
    (ho : o.op = .call { callee := .builtin .append, args := #[s, x], argTypes := #[22, 22] })
    (hs : a.eval s = v) (h : Out w0 w v n z l) (A : Option Addr) (m c : Nat) (zx : Nat → Int) (hx : a.eval x = .slice A m c) (hR : Rd w A m zx) (hA : A = none → m = 0 ∧ c = 0) (hn : n + m ≤ 140737488355328) :
    ∃ v' w', (execOp a.eval o).run Tryd.prog w = .ok (.value v') w' ∧ Out w0 w' v' (n + m) (cat z n zx) l ∧ w.heap.size ≤ w'.heap.size := by
  rcases A with _ | ad
  · obtain ⟨rfl, rfl⟩ := hA rfl
    refine ⟨v, w, ?_, ⟨⟨?_, cat_bd h.1.2 hR.2⟩, h.2⟩, Nat.le_refl _⟩
    · obtain ⟨i0, hi, hz0, hz1, hz2⟩ := info_parts info_u8
      obtain ⟨g, cap, hv⟩ : ∃ A c, v = .slice A n c := by obtain ⟨A, c, h1, _⟩ := h.1.shape; exact ⟨A, c, h1⟩
      have hr := run_append_owned_none (P := Tryd.prog) (w := w) w0.heap.size 22 o.type 5 i0 1 Tryd.underlying22 hi v n _ h.1.1
      simp [execOp, ho, resolve, invoke, builtin, hs, hx, hr, Result.andThen]
    · rw [Nat.add_zero, vals_ext (z' := z) (fun j hj => by unfold cat; rw [if_pos hj])]
      exact h.1.1
  · obtain ⟨v', w', h2, h3, h4, h5, h6⟩ := app_run s x ho w0 v n _ hs h.1.1 h.2.1 ad m c (vals zx m) hx (vals_len _ _) (rd_newsB hR) (vals_one _ _) hn
    rw [vals_cat] at h3
    have hb : ∀ p ∈ l, w'.heap[p.1]? = w.heap[p.1]? ∧ v'.ownBlock ≠ some p.1 := fun p hp => h6 p.1 (Array.getElem?_eq_some_iff.1 (h.2.2.1 p hp)).1 (h.2.2.2 p hp)
    exact ⟨v', w', h2, ⟨⟨h3, cat_bd h.1.2 hR.2⟩, h4, fun p hp => (hb p hp).1.trans (h.2.2.1 p hp), fun p hp => (hb p hp).2⟩, h5⟩
section
variable {ops : Array Oper} {Q : Exit → Act → World → Prop} {md : Region.Mode} {S : World → Prop}
/-- an append alone may come up -/
theorem takeOut {i : Nat} {oi : Oper} (d : Option Tmp) {fuel : Nat} {listed : Array Bool} {a : Act} {w0 w : World} {v : Value} {n : Nat} {z : Nat → Int} {l : List (Nat × Obj)} (s x : Operand) (hi : ops[i]? = some oi) (hd : oi.dst = d)
    (hr : Region.ready md ops listed = [i]) (hw : Region.wanted oi (yielded ops a.tmps) = true)
    (ho : oi.op = .call { callee := .builtin .append, args := #[s, x], argTypes := #[22, 22] })
    (hs : a.eval s = v) (h : Out w0 w v n z l) (A : Option Addr) (m c : Nat) (zx : Nat → Int) (hx : a.eval x = .slice A m c) (hR : Rd w A m zx) (hA : A = none → m = 0 ∧ c = 0) (hn : n + m ≤ 140737488355328)
    (k : ∀ v' w', Out w0 w' v' (n + m) (cat z n zx) l → S w' ∧ wpAnyH Tryd.prog md ops Q S fuel (listed.setIfInBounds i true) (a.put d v') w') :
    wpAnyH Tryd.prog md ops Q S (fuel + 1) listed a w := by
  obtain ⟨v', w', h2, h3, _⟩ := out_run s x ho hs h A m c zx hx hR hA hn
  obtain ⟨h7, h8⟩ := k v' w' h3
  exact takeV d hi hd hr hw h2 h7 h8
/-- of several that may come up: an append -/
theorem consOut {i : Nat} {oi : Oper} (d : Option Tmp) {rs : List Nat} {fuel : Nat} {listed : Array Bool} {a : Act} {w0 w : World} {v : Value} {n : Nat} {z : Nat → Int} {l : List (Nat × Obj)} (s x : Operand) (hi : ops[i]? = some oi) (hd : oi.dst = d)
    (hw : Region.wanted oi (yielded ops a.tmps) = true)
    (ho : oi.op = .call { callee := .builtin .append, args := #[s, x], argTypes := #[22, 22] })
    (hs : a.eval s = v) (h : Out w0 w v n z l) (A : Option Addr) (m c : Nat) (zx : Nat → Int) (hx : a.eval x = .slice A m c) (hR : Rd w A m zx) (hA : A = none → m = 0 ∧ c = 0) (hn : n + m ≤ 140737488355328)
    (k : ∀ v' w', Out w0 w' v' (n + m) (cat z n zx) l → S w' ∧ wpAnyH Tryd.prog md ops Q S fuel (listed.setIfInBounds i true) (a.put d v') w') (hs' : AllReadyH Tryd.prog md ops Q S fuel listed a w rs) :
    AllReadyH Tryd.prog md ops Q S fuel listed a w (i :: rs) := by
  obtain ⟨v', w', h2, h3, _⟩ := out_run s x ho hs h A m c zx hx hR hA hn
  obtain ⟨h7, h8⟩ := k v' w' h3
  exact consVW d hi hd hw h2 h7 h8 hs'
/-- an append, in the order of the text -/
theorem wpList_out {rest : List Oper} {op : Oper} {a : Act} {w0 w : World} {v : Value} {n : Nat} {z : Nat → Int} {l : List (Nat × Obj)} (hgd : op.guard = none) (s x : Operand)
    (ho : op.op = .call { callee := .builtin .append, args := #[s, x], argTypes := #[22, 22] })
    (hs : a.eval s = v) (h : Out w0 w v n z l) (A : Option Addr) (m c : Nat) (zx : Nat → Int) (hx : a.eval x = .slice A m c) (hR : Rd w A m zx) (hA : A = none → m = 0 ∧ c = 0) (hn : n + m ≤ 140737488355328)
    (k : ∀ v' w', Out w0 w' v' (n + m) (cat z n zx) l → wpList Tryd.prog ops Q rest (a.put op.dst v') w') : wpList Tryd.prog ops Q (op :: rest) a w := by
  obtain ⟨v', w', h2, h3, _⟩ := out_run s x ho hs h A m c zx hx hR hA hn
  refine wpList_plain hgd fun K hK => ?_
  unfold Oper.wp
  rw [h2, Oper.upon_value]
  exact hK _ _ (k v' w' h3)
end
/-- bytes that a call made: they can be read as long as their block stays -/
theorem own_has {w : World} {base n : Nat} {v : Value} {z : Nat → Int} (h : OwnB w base v n z) : ∃ A c, ∃ l : List (Nat × Obj), v = .slice A n c ∧ n ≤ c ∧ c ≤ maxLen ∧ (A = none → n = 0 ∧ c = 0) ∧ Kp w l ∧ ∀ w', Kp w' l → Rd w' A n z := by
  rcases h.1.2 with ⟨rfl, rfl⟩ | ⟨g, cap, cur, rfl, hb, hc, h1, h2, h3, h4⟩
  · exact ⟨none, 0, [], rfl, Nat.le_refl _, by decide, fun _ => ⟨rfl, rfl⟩, Kp.nil w, fun w' _ => ⟨.inl rfl, h.2⟩⟩
  · refine ⟨some ⟨g, 0, none⟩, cap, [(g, .cells cur 5 (0, 0))], rfl, h1, h2, fun e => (by cases e), (Kp.nil w).cons hc, fun w' hk => ?_⟩
    obtain ⟨A, c, he, _, _, _, hR⟩ := h.shape
    injection he with e1 e2 e3
    subst e1
    rcases hR.1 with h0 | ⟨b, off, e, hr⟩
    · exact ⟨.inl h0, h.2⟩
    · injection e with e
      injection e with e1 e2
      subst e1 e2
      have hg := hk (g, .cells cur 5 (0, 0)) List.mem_cons_self
      exact ⟨.inr ⟨g, 0, rfl, (Array.getElem?_eq_some_iff.1 hg).1, fun j hj => by rw [← hr.2.1 j hj, cell_of_row w g _ _ _ _ hc, cell_of_row w' g _ _ _ _ hg], h.2⟩, h.2⟩
/-- the same of a row -/
theorem own8_has {w : World} {g n cap : Nat} {z : Nat → Int} (h : Own8 w g n cap z) : ∃ o : Obj, w.heap[g]? = some o ∧ ∀ w' : World, w'.heap[g]? = some o → Own8 w' g n cap z := by
  obtain ⟨⟨cur, hg, h1⟩, h2⟩ := h
  exact ⟨_, hg, fun w' hk => ⟨⟨cur, hk, h1⟩, h2⟩⟩
theorem out_first {w0 w w' : World} {g n c : Nat} {z : Nat → Int} {l : List (Nat × Obj)} (hk : Kp w l) (hb : Below w0.heap.size w0 w) (hb' : Below w.heap.size w w') (ho : Own8 w' g n c z) (hg : w.heap.size ≤ g) : Out w0 w' (.slice (some ⟨g, 0, none⟩) n c) n z l :=
  ⟨ho.ownB (Nat.le_trans hb.size hg), hb.trans (hb'.mono hb.size), hk.below hb', fun p hp e => by
    have := (Array.getElem?_eq_some_iff.1 (hk p hp)).1
    simp [Value.ownBlock] at e
    omega⟩
theorem Kp.head {w : World} {l : List (Nat × Obj)} {q : Nat × Obj} (h : Kp w (q :: l)) : w.heap[q.1]? = some q.2 := h q List.mem_cons_self
theorem rd_one {w : World} {g : Nat} {a : Int} {C : Array Value} (h : w.heap[g]? = some (.cells C 5 (0, 0))) (hC : C = #[.int .u8 a]) (ha : 0 ≤ a ∧ a ≤ 255) : Rd w (some ⟨g, 0, none⟩) 1 (fun _ => a) := by
  subst hC
  refine ⟨.inr ⟨g, 0, rfl, (Array.getElem?_eq_some_iff.1 h).1, fun j hj => ?_, fun _ => ha⟩, fun _ => ha⟩
  rw [cell_of_row w g _ _ _ _ h]
  obtain rfl : j = 0 := by omega
  rfl
theorem rd_two0 {w : World} {g : Nat} (h : w.heap[g]? = some (.cells #[.int .u8 0, .int .u8 0] 5 (0, 0))) : Rd w (some ⟨g, 0, none⟩) 2 (fun _ => 0) := by
  refine ⟨.inr ⟨g, 0, rfl, (Array.getElem?_eq_some_iff.1 h).1, fun j hj => ?_, fun _ => ⟨Int.le_refl 0, (by omega : (0 : Int) ≤ 255)⟩⟩, fun _ => ⟨Int.le_refl 0, (by omega : (0 : Int) ≤ 255)⟩⟩
  rw [cell_of_row w g _ _ _ _ h]
  rcases (by omega : j = 0 ∨ j = 1) with rfl | rfl <;> rfl
/-- a run of cells is read, in the order of the text -/
theorem wpList_ldr {ops : Array Oper} {Q : Exit → Act → World → Prop} {rest : List Oper} {op : Oper} {a : Act} {w : World} (hw : Region.wanted op (yielded ops a.tmps) = true) (ty : TypeId) (x : Operand) (ho : op.op = .load ty x) (b off : Nat) (hx : a.eval x = .pointer (some ⟨b, off, none⟩)) (cs : Array Value) (d : TypeDesc) (hc : w.rangeAt b off cs.toList) (hu : Tryd.prog.underlying ty = some d) (hd : d.isRow = true) (hi : (Tryd.prog.info? ty).map (·.size) = some cs.size)
    (h : wpList Tryd.prog ops Q rest (a.put op.dst (.agg cs)) w) : wpList Tryd.prog ops Q (op :: rest) a w :=
  wpList_gv (.agg cs) hw (by have := load_rng op a.eval ty x ho b off hx cs.toList d hc hu hd (by simpa using hi); simpa using this) h
end Go.Proofs.YtccoicjmmeoggaaDoor

/- The document's Fields: may the fields of a packet stand so. Each theorem states its conditions. -/
namespace Go.Proofs.YtccoicjmmeoggaaDoor
open Go.RowKit
set_option linter.unusedVariables false

set_option maxHeartbeats 2000000 in
set_option maxRecDepth 100000 in
theorem fields_17 (p : Pd) (hk : p.kd = 17) (b : Bool) (hb : decide (p.ci ≠ 0 ∧ p.ci ≤ 3 ∧ 0 ≤ p.ho ∧ p.ho ≤ 65535) = b) (w : World) : Calls Tryd.prog 66 #[.agg (pdC p)] w fun e w' => e = .returned (.bool b) ∧ Below w.heap.size w w' := by
  have hx : PdT 42 (w.alloc (.cells (pdC p) 42)) w.heap.size p := heap_alloc_new w _
  have c0 : (w.alloc (.cells (pdC p) 42)).cell? ⟨w.heap.size, 0, none⟩ = some (.int .u8 p.kd) := (hx.cell 0).trans rfl
  have c1 : (w.alloc (.cells (pdC p) 42)).cell? ⟨w.heap.size, 1, none⟩ = some (.int .u8 p.ci) := (hx.cell 1).trans rfl
  have c9 : (w.alloc (.cells (pdC p) 42)).cell? ⟨w.heap.size, 9, none⟩ = some (.int .i64 p.ho) := (hx.cell 9).trans rfl
  have HB := Lib.hid ((bself w).alloc (Nat.le_refl _) (.cells (pdC p) 42))
  have HE := Lib.hid (refHead_any 17 0 rfl (by decide))
  have HH := Lib.hid (hello_yes 17 (by decide))
  have HL := Lib.hid (lsp_no 17 (by decide))
  rw [hk] at c0
  clear hk hx
  obtain ⟨ci, hci⟩ : ∃ ci, p.ci = ci := ⟨_, rfl⟩
  rw [hci] at c1 hb
  clear hci
  obtain ⟨ho, hho⟩ : ∃ ho, p.ho = ho := ⟨_, rfl⟩
  rw [hho] at c9 hb
  clear hho
  by_cases t : ci = 0
  · obtain rfl : false = b := by rw [← hb]; exact (decide_eq_false (by omega)).symm
    clear hb
    have f0 : (ci == 0) = true := by simp; omega
    go_enter Tryd.func66, Tryd.ntmps66
    go_wp2_with fail
    refine (HE.out _).mono ?_
    rintro e w1 ⟨rfl, rfl⟩
    go_wp2_with fail
    refine (HH.out _).mono ?_
    rintro e w1 ⟨rfl, rfl⟩
    go_wp2_with fail
    go_ret
    exact ⟨rfl, HB.out⟩
  have t28 := t; clear t
  by_cases t : 3 < ci
  · obtain rfl : false = b := by rw [← hb]; exact (decide_eq_false (by omega)).symm
    clear hb
    have f0 : (ci == 0) = false := by simp; omega
    have f1 : decide (3 < ci) = true := by simp; omega
    go_enter Tryd.func66, Tryd.ntmps66
    go_wp2_with fail
    refine (HE.out _).mono ?_
    rintro e w1 ⟨rfl, rfl⟩
    go_wp2_with fail
    refine (HH.out _).mono ?_
    rintro e w1 ⟨rfl, rfl⟩
    go_wp2_with fail
    go_ret
    exact ⟨rfl, HB.out⟩
  have t44 := t; clear t
  by_cases t : ho < 0
  · obtain rfl : false = b := by rw [← hb]; exact (decide_eq_false (by omega)).symm
    clear hb
    have f0 : (ci == 0) = false := by simp; omega
    have f1 : decide (3 < ci) = false := by simp; omega
    have f2 : decide (ho < 0) = true := by simp; omega
    go_enter Tryd.func66, Tryd.ntmps66
    go_wp2_with fail
    refine (HE.out _).mono ?_
    rintro e w1 ⟨rfl, rfl⟩
    go_wp2_with fail
    refine (HH.out _).mono ?_
    rintro e w1 ⟨rfl, rfl⟩
    go_wp2_with fail
    go_ret
    exact ⟨rfl, HB.out⟩
  have t61 := t; clear t
  by_cases t : 65535 < ho
  · obtain rfl : false = b := by rw [← hb]; exact (decide_eq_false (by omega)).symm
    clear hb
    have f0 : (ci == 0) = false := by simp; omega
    have f1 : decide (3 < ci) = false := by simp; omega
    have f2 : decide (ho < 0) = false := by simp; omega
    have f3 : decide (65535 < ho) = true := by simp; omega
    go_enter Tryd.func66, Tryd.ntmps66
    go_wp2_with fail
    refine (HE.out _).mono ?_
    rintro e w1 ⟨rfl, rfl⟩
    go_wp2_with fail
    refine (HH.out _).mono ?_
    rintro e w1 ⟨rfl, rfl⟩
    go_wp2_with fail
    go_ret
    exact ⟨rfl, HB.out⟩
  have t79 := t; clear t
  obtain rfl : true = b := by rw [← hb]; exact (decide_eq_true (by omega)).symm
  clear hb
  have f0 : (ci == 0) = false := by simp; omega
  have f1 : decide (3 < ci) = false := by simp; omega
  have f2 : decide (ho < 0) = false := by simp; omega
  have f3 : decide (65535 < ho) = false := by simp; omega
  go_enter Tryd.func66, Tryd.ntmps66
  go_wp2_with fail
  refine (HE.out _).mono ?_
  rintro e w1 ⟨rfl, rfl⟩
  go_wp2_with fail
  refine (HH.out _).mono ?_
  rintro e w1 ⟨rfl, rfl⟩
  go_wp2_with fail
  refine (HL.out _).mono ?_
  rintro e w1 ⟨rfl, rfl⟩
  go_wp2_with fail
  go_ret
  exact ⟨rfl, HB.out⟩
set_option maxHeartbeats 2000000 in
set_option maxRecDepth 100000 in
theorem fields_15 (p : Pd) (hk : p.kd = 15) (b : Bool) (hb : decide (p.ci ≠ 0 ∧ p.ci ≤ 3 ∧ 0 ≤ p.ho ∧ p.ho ≤ 65535 ∧ p.pr ≤ 127) = b) (w : World) : Calls Tryd.prog 66 #[.agg (pdC p)] w fun e w' => e = .returned (.bool b) ∧ Below w.heap.size w w' := by
  have hx : PdT 42 (w.alloc (.cells (pdC p) 42)) w.heap.size p := heap_alloc_new w _
  have c0 : (w.alloc (.cells (pdC p) 42)).cell? ⟨w.heap.size, 0, none⟩ = some (.int .u8 p.kd) := (hx.cell 0).trans rfl
  have c1 : (w.alloc (.cells (pdC p) 42)).cell? ⟨w.heap.size, 1, none⟩ = some (.int .u8 p.ci) := (hx.cell 1).trans rfl
  have c9 : (w.alloc (.cells (pdC p) 42)).cell? ⟨w.heap.size, 9, none⟩ = some (.int .i64 p.ho) := (hx.cell 9).trans rfl
  have c11 : (w.alloc (.cells (pdC p) 42)).cell? ⟨w.heap.size, 11, none⟩ = some (.int .u8 p.pr) := (hx.cell 11).trans rfl
  have HB := Lib.hid ((bself w).alloc (Nat.le_refl _) (.cells (pdC p) 42))
  have HE := Lib.hid (refHead_any 15 1 rfl (by decide))
  have HH := Lib.hid (hello_yes 15 (by decide))
  have HL := Lib.hid (lsp_no 15 (by decide))
  rw [hk] at c0
  clear hk hx
  obtain ⟨ci, hci⟩ : ∃ ci, p.ci = ci := ⟨_, rfl⟩
  rw [hci] at c1 hb
  clear hci
  obtain ⟨ho, hho⟩ : ∃ ho, p.ho = ho := ⟨_, rfl⟩
  rw [hho] at c9 hb
  clear hho
  obtain ⟨pr, hpr⟩ : ∃ pr, p.pr = pr := ⟨_, rfl⟩
  rw [hpr] at c11 hb
  clear hpr
  by_cases t : ci = 0
  · obtain rfl : false = b := by rw [← hb]; exact (decide_eq_false (by omega)).symm
    clear hb
    have f0 : (ci == 0) = true := by simp; omega
    go_enter Tryd.func66, Tryd.ntmps66
    go_wp2_with fail
    refine (HE.out _).mono ?_
    rintro e w1 ⟨rfl, rfl⟩
    go_wp2_with fail
    refine (HH.out _).mono ?_
    rintro e w1 ⟨rfl, rfl⟩
    go_wp2_with fail
    go_ret
    exact ⟨rfl, HB.out⟩
  have t128 := t; clear t
  by_cases t : 3 < ci
  · obtain rfl : false = b := by rw [← hb]; exact (decide_eq_false (by omega)).symm
    clear hb
    have f0 : (ci == 0) = false := by simp; omega
    have f1 : decide (3 < ci) = true := by simp; omega
    go_enter Tryd.func66, Tryd.ntmps66
    go_wp2_with fail
    refine (HE.out _).mono ?_
    rintro e w1 ⟨rfl, rfl⟩
    go_wp2_with fail
    refine (HH.out _).mono ?_
    rintro e w1 ⟨rfl, rfl⟩
    go_wp2_with fail
    go_ret
    exact ⟨rfl, HB.out⟩
  have t144 := t; clear t
  by_cases t : ho < 0
  · obtain rfl : false = b := by rw [← hb]; exact (decide_eq_false (by omega)).symm
    clear hb
    have f0 : (ci == 0) = false := by simp; omega
    have f1 : decide (3 < ci) = false := by simp; omega
    have f2 : decide (ho < 0) = true := by simp; omega
    go_enter Tryd.func66, Tryd.ntmps66
    go_wp2_with fail
    refine (HE.out _).mono ?_
    rintro e w1 ⟨rfl, rfl⟩
    go_wp2_with fail
    refine (HH.out _).mono ?_
    rintro e w1 ⟨rfl, rfl⟩
    go_wp2_with fail
    go_ret
    exact ⟨rfl, HB.out⟩
  have t161 := t; clear t
  by_cases t : 65535 < ho
  · obtain rfl : false = b := by rw [← hb]; exact (decide_eq_false (by omega)).symm
    clear hb
    have f0 : (ci == 0) = false := by simp; omega
    have f1 : decide (3 < ci) = false := by simp; omega
    have f2 : decide (ho < 0) = false := by simp; omega
    have f3 : decide (65535 < ho) = true := by simp; omega
    go_enter Tryd.func66, Tryd.ntmps66
    go_wp2_with fail
    refine (HE.out _).mono ?_
    rintro e w1 ⟨rfl, rfl⟩
    go_wp2_with fail
    refine (HH.out _).mono ?_
    rintro e w1 ⟨rfl, rfl⟩
    go_wp2_with fail
    go_ret
    exact ⟨rfl, HB.out⟩
  have t179 := t; clear t
  by_cases t : 127 < pr
  · obtain rfl : false = b := by rw [← hb]; exact (decide_eq_false (by omega)).symm
    clear hb
    have f0 : (ci == 0) = false := by simp; omega
    have f1 : decide (3 < ci) = false := by simp; omega
    have f2 : decide (ho < 0) = false := by simp; omega
    have f3 : decide (65535 < ho) = false := by simp; omega
    have f4 : decide (127 < pr) = true := by simp; omega
    go_enter Tryd.func66, Tryd.ntmps66
    go_wp2_with fail
    refine (HE.out _).mono ?_
    rintro e w1 ⟨rfl, rfl⟩
    go_wp2_with fail
    refine (HH.out _).mono ?_
    rintro e w1 ⟨rfl, rfl⟩
    go_wp2_with fail
    go_ret
    exact ⟨rfl, HB.out⟩
  have t198 := t; clear t
  obtain rfl : true = b := by rw [← hb]; exact (decide_eq_true (by omega)).symm
  clear hb
  have f0 : (ci == 0) = false := by simp; omega
  have f1 : decide (3 < ci) = false := by simp; omega
  have f2 : decide (ho < 0) = false := by simp; omega
  have f3 : decide (65535 < ho) = false := by simp; omega
  have f4 : decide (127 < pr) = false := by simp; omega
  go_enter Tryd.func66, Tryd.ntmps66
  go_wp2_with fail
  refine (HE.out _).mono ?_
  rintro e w1 ⟨rfl, rfl⟩
  go_wp2_with fail
  refine (HH.out _).mono ?_
  rintro e w1 ⟨rfl, rfl⟩
  go_wp2_with fail
  refine (HL.out _).mono ?_
  rintro e w1 ⟨rfl, rfl⟩
  go_wp2_with fail
  go_ret
  exact ⟨rfl, HB.out⟩
set_option maxHeartbeats 2000000 in
set_option maxRecDepth 100000 in
theorem fields_16 (p : Pd) (hk : p.kd = 16) (b : Bool) (hb : decide (p.ci ≠ 0 ∧ p.ci ≤ 3 ∧ 0 ≤ p.ho ∧ p.ho ≤ 65535 ∧ p.pr ≤ 127) = b) (w : World) : Calls Tryd.prog 66 #[.agg (pdC p)] w fun e w' => e = .returned (.bool b) ∧ Below w.heap.size w w' := by
  have hx : PdT 42 (w.alloc (.cells (pdC p) 42)) w.heap.size p := heap_alloc_new w _
  have c0 : (w.alloc (.cells (pdC p) 42)).cell? ⟨w.heap.size, 0, none⟩ = some (.int .u8 p.kd) := (hx.cell 0).trans rfl
  have c1 : (w.alloc (.cells (pdC p) 42)).cell? ⟨w.heap.size, 1, none⟩ = some (.int .u8 p.ci) := (hx.cell 1).trans rfl
  have c9 : (w.alloc (.cells (pdC p) 42)).cell? ⟨w.heap.size, 9, none⟩ = some (.int .i64 p.ho) := (hx.cell 9).trans rfl
  have c11 : (w.alloc (.cells (pdC p) 42)).cell? ⟨w.heap.size, 11, none⟩ = some (.int .u8 p.pr) := (hx.cell 11).trans rfl
  have HB := Lib.hid ((bself w).alloc (Nat.le_refl _) (.cells (pdC p) 42))
  have HE := Lib.hid (refHead_any 16 1 rfl (by decide))
  have HH := Lib.hid (hello_yes 16 (by decide))
  have HL := Lib.hid (lsp_no 16 (by decide))
  rw [hk] at c0
  clear hk hx
  obtain ⟨ci, hci⟩ : ∃ ci, p.ci = ci := ⟨_, rfl⟩
  rw [hci] at c1 hb
  clear hci
  obtain ⟨ho, hho⟩ : ∃ ho, p.ho = ho := ⟨_, rfl⟩
  rw [hho] at c9 hb
  clear hho
  obtain ⟨pr, hpr⟩ : ∃ pr, p.pr = pr := ⟨_, rfl⟩
  rw [hpr] at c11 hb
  clear hpr
  by_cases t : ci = 0
  · obtain rfl : false = b := by rw [← hb]; exact (decide_eq_false (by omega)).symm
    clear hb
    have f0 : (ci == 0) = true := by simp; omega
    go_enter Tryd.func66, Tryd.ntmps66
    go_wp2_with fail
    refine (HE.out _).mono ?_
    rintro e w1 ⟨rfl, rfl⟩
    go_wp2_with fail
    refine (HH.out _).mono ?_
    rintro e w1 ⟨rfl, rfl⟩
    go_wp2_with fail
    go_ret
    exact ⟨rfl, HB.out⟩
  have t248 := t; clear t
  by_cases t : 3 < ci
  · obtain rfl : false = b := by rw [← hb]; exact (decide_eq_false (by omega)).symm
    clear hb
    have f0 : (ci == 0) = false := by simp; omega
    have f1 : decide (3 < ci) = true := by simp; omega
    go_enter Tryd.func66, Tryd.ntmps66
    go_wp2_with fail
    refine (HE.out _).mono ?_
    rintro e w1 ⟨rfl, rfl⟩
    go_wp2_with fail
    refine (HH.out _).mono ?_
    rintro e w1 ⟨rfl, rfl⟩
    go_wp2_with fail
    go_ret
    exact ⟨rfl, HB.out⟩
  have t264 := t; clear t
  by_cases t : ho < 0
  · obtain rfl : false = b := by rw [← hb]; exact (decide_eq_false (by omega)).symm
    clear hb
    have f0 : (ci == 0) = false := by simp; omega
    have f1 : decide (3 < ci) = false := by simp; omega
    have f2 : decide (ho < 0) = true := by simp; omega
    go_enter Tryd.func66, Tryd.ntmps66
    go_wp2_with fail
    refine (HE.out _).mono ?_
    rintro e w1 ⟨rfl, rfl⟩
    go_wp2_with fail
    refine (HH.out _).mono ?_
    rintro e w1 ⟨rfl, rfl⟩
    go_wp2_with fail
    go_ret
    exact ⟨rfl, HB.out⟩
  have t281 := t; clear t
  by_cases t : 65535 < ho
  · obtain rfl : false = b := by rw [← hb]; exact (decide_eq_false (by omega)).symm
    clear hb
    have f0 : (ci == 0) = false := by simp; omega
    have f1 : decide (3 < ci) = false := by simp; omega
    have f2 : decide (ho < 0) = false := by simp; omega
    have f3 : decide (65535 < ho) = true := by simp; omega
    go_enter Tryd.func66, Tryd.ntmps66
    go_wp2_with fail
    refine (HE.out _).mono ?_
    rintro e w1 ⟨rfl, rfl⟩
    go_wp2_with fail
    refine (HH.out _).mono ?_
    rintro e w1 ⟨rfl, rfl⟩
    go_wp2_with fail
    go_ret
    exact ⟨rfl, HB.out⟩
  have t299 := t; clear t
  by_cases t : 127 < pr
  · obtain rfl : false = b := by rw [← hb]; exact (decide_eq_false (by omega)).symm
    clear hb
    have f0 : (ci == 0) = false := by simp; omega
    have f1 : decide (3 < ci) = false := by simp; omega
    have f2 : decide (ho < 0) = false := by simp; omega
    have f3 : decide (65535 < ho) = false := by simp; omega
    have f4 : decide (127 < pr) = true := by simp; omega
    go_enter Tryd.func66, Tryd.ntmps66
    go_wp2_with fail
    refine (HE.out _).mono ?_
    rintro e w1 ⟨rfl, rfl⟩
    go_wp2_with fail
    refine (HH.out _).mono ?_
    rintro e w1 ⟨rfl, rfl⟩
    go_wp2_with fail
    go_ret
    exact ⟨rfl, HB.out⟩
  have t318 := t; clear t
  obtain rfl : true = b := by rw [← hb]; exact (decide_eq_true (by omega)).symm
  clear hb
  have f0 : (ci == 0) = false := by simp; omega
  have f1 : decide (3 < ci) = false := by simp; omega
  have f2 : decide (ho < 0) = false := by simp; omega
  have f3 : decide (65535 < ho) = false := by simp; omega
  have f4 : decide (127 < pr) = false := by simp; omega
  go_enter Tryd.func66, Tryd.ntmps66
  go_wp2_with fail
  refine (HE.out _).mono ?_
  rintro e w1 ⟨rfl, rfl⟩
  go_wp2_with fail
  refine (HH.out _).mono ?_
  rintro e w1 ⟨rfl, rfl⟩
  go_wp2_with fail
  refine (HL.out _).mono ?_
  rintro e w1 ⟨rfl, rfl⟩
  go_wp2_with fail
  go_ret
  exact ⟨rfl, HB.out⟩
set_option maxHeartbeats 2000000 in
set_option maxRecDepth 100000 in
theorem fields_18 (p : Pd) (hk : p.kd = 18) (b : Bool) (hb : decide (0 ≤ p.li ∧ p.li ≤ 65535) = b) (w : World) : Calls Tryd.prog 66 #[.agg (pdC p)] w fun e w' => e = .returned (.bool b) ∧ Below w.heap.size w w' := by
  have hx : PdT 42 (w.alloc (.cells (pdC p) 42)) w.heap.size p := heap_alloc_new w _
  have c0 : (w.alloc (.cells (pdC p) 42)).cell? ⟨w.heap.size, 0, none⟩ = some (.int .u8 p.kd) := (hx.cell 0).trans rfl
  have c19 : (w.alloc (.cells (pdC p) 42)).cell? ⟨w.heap.size, 19, none⟩ = some (.int .i64 p.li) := (hx.cell 19).trans rfl
  have HB := Lib.hid ((bself w).alloc (Nat.le_refl _) (.cells (pdC p) 42))
  have HE := Lib.hid (refHead_any 18 2 rfl (by decide))
  have HH := Lib.hid (hello_no 18 (by decide))
  have HL := Lib.hid (lsp_yes 18 (by decide))
  rw [hk] at c0
  clear hk hx
  obtain ⟨li, hli⟩ : ∃ li, p.li = li := ⟨_, rfl⟩
  rw [hli] at c19 hb
  clear hli
  by_cases t : li < 0
  · obtain rfl : false = b := by rw [← hb]; exact (decide_eq_false (by omega)).symm
    clear hb
    have f0 : decide (0 ≤ li) = false := by simp; omega
    go_enter Tryd.func66, Tryd.ntmps66
    go_wp2_with fail
    refine (HE.out _).mono ?_
    rintro e w1 ⟨rfl, rfl⟩
    go_wp2_with fail
    refine (HH.out _).mono ?_
    rintro e w1 ⟨rfl, rfl⟩
    go_wp2_with fail
    refine (HL.out _).mono ?_
    rintro e w1 ⟨rfl, rfl⟩
    go_wp2_with fail
    go_ret
    exact ⟨rfl, HB.out⟩
  have t367 := t; clear t
  by_cases t : 65535 < li
  · obtain rfl : false = b := by rw [← hb]; exact (decide_eq_false (by omega)).symm
    clear hb
    have f0 : decide (0 ≤ li) = true := by simp; omega
    have f1 : decide (li ≤ 65535) = false := by simp; omega
    go_enter Tryd.func66, Tryd.ntmps66
    go_wp2_with fail
    refine (HE.out _).mono ?_
    rintro e w1 ⟨rfl, rfl⟩
    go_wp2_with fail
    refine (HH.out _).mono ?_
    rintro e w1 ⟨rfl, rfl⟩
    go_wp2_with fail
    refine (HL.out _).mono ?_
    rintro e w1 ⟨rfl, rfl⟩
    go_wp2_with fail
    go_ret
    exact ⟨rfl, HB.out⟩
  have t386 := t; clear t
  obtain rfl : true = b := by rw [← hb]; exact (decide_eq_true (by omega)).symm
  clear hb
  have f0 : decide (0 ≤ li) = true := by simp; omega
  have f1 : decide (li ≤ 65535) = true := by simp; omega
  go_enter Tryd.func66, Tryd.ntmps66
  go_wp2_with fail
  refine (HE.out _).mono ?_
  rintro e w1 ⟨rfl, rfl⟩
  go_wp2_with fail
  refine (HH.out _).mono ?_
  rintro e w1 ⟨rfl, rfl⟩
  go_wp2_with fail
  refine (HL.out _).mono ?_
  rintro e w1 ⟨rfl, rfl⟩
  go_wp2_with fail
  go_ret
  exact ⟨rfl, HB.out⟩
set_option maxHeartbeats 2000000 in
set_option maxRecDepth 100000 in
theorem fields_20 (p : Pd) (hk : p.kd = 20) (b : Bool) (hb : decide (0 ≤ p.li ∧ p.li ≤ 65535) = b) (w : World) : Calls Tryd.prog 66 #[.agg (pdC p)] w fun e w' => e = .returned (.bool b) ∧ Below w.heap.size w w' := by
  have hx : PdT 42 (w.alloc (.cells (pdC p) 42)) w.heap.size p := heap_alloc_new w _
  have c0 : (w.alloc (.cells (pdC p) 42)).cell? ⟨w.heap.size, 0, none⟩ = some (.int .u8 p.kd) := (hx.cell 0).trans rfl
  have c19 : (w.alloc (.cells (pdC p) 42)).cell? ⟨w.heap.size, 19, none⟩ = some (.int .i64 p.li) := (hx.cell 19).trans rfl
  have HB := Lib.hid ((bself w).alloc (Nat.le_refl _) (.cells (pdC p) 42))
  have HE := Lib.hid (refHead_any 20 2 rfl (by decide))
  have HH := Lib.hid (hello_no 20 (by decide))
  have HL := Lib.hid (lsp_yes 20 (by decide))
  rw [hk] at c0
  clear hk hx
  obtain ⟨li, hli⟩ : ∃ li, p.li = li := ⟨_, rfl⟩
  rw [hli] at c19 hb
  clear hli
  by_cases t : li < 0
  · obtain rfl : false = b := by rw [← hb]; exact (decide_eq_false (by omega)).symm
    clear hb
    have f0 : decide (0 ≤ li) = false := by simp; omega
    go_enter Tryd.func66, Tryd.ntmps66
    go_wp2_with fail
    refine (HE.out _).mono ?_
    rintro e w1 ⟨rfl, rfl⟩
    go_wp2_with fail
    refine (HH.out _).mono ?_
    rintro e w1 ⟨rfl, rfl⟩
    go_wp2_with fail
    refine (HL.out _).mono ?_
    rintro e w1 ⟨rfl, rfl⟩
    go_wp2_with fail
    go_ret
    exact ⟨rfl, HB.out⟩
  have t432 := t; clear t
  by_cases t : 65535 < li
  · obtain rfl : false = b := by rw [← hb]; exact (decide_eq_false (by omega)).symm
    clear hb
    have f0 : decide (0 ≤ li) = true := by simp; omega
    have f1 : decide (li ≤ 65535) = false := by simp; omega
    go_enter Tryd.func66, Tryd.ntmps66
    go_wp2_with fail
    refine (HE.out _).mono ?_
    rintro e w1 ⟨rfl, rfl⟩
    go_wp2_with fail
    refine (HH.out _).mono ?_
    rintro e w1 ⟨rfl, rfl⟩
    go_wp2_with fail
    refine (HL.out _).mono ?_
    rintro e w1 ⟨rfl, rfl⟩
    go_wp2_with fail
    go_ret
    exact ⟨rfl, HB.out⟩
  have t451 := t; clear t
  obtain rfl : true = b := by rw [← hb]; exact (decide_eq_true (by omega)).symm
  clear hb
  have f0 : decide (0 ≤ li) = true := by simp; omega
  have f1 : decide (li ≤ 65535) = true := by simp; omega
  go_enter Tryd.func66, Tryd.ntmps66
  go_wp2_with fail
  refine (HE.out _).mono ?_
  rintro e w1 ⟨rfl, rfl⟩
  go_wp2_with fail
  refine (HH.out _).mono ?_
  rintro e w1 ⟨rfl, rfl⟩
  go_wp2_with fail
  refine (HL.out _).mono ?_
  rintro e w1 ⟨rfl, rfl⟩
  go_wp2_with fail
  go_ret
  exact ⟨rfl, HB.out⟩
set_option maxHeartbeats 2000000 in
set_option maxRecDepth 100000 in
theorem fields_24 (p : Pd) (hk : p.kd = 24) (b : Bool) (hb : decide (True) = b) (w : World) : Calls Tryd.prog 66 #[.agg (pdC p)] w fun e w' => e = .returned (.bool b) ∧ Below w.heap.size w w' := by
  have hx : PdT 42 (w.alloc (.cells (pdC p) 42)) w.heap.size p := heap_alloc_new w _
  have c0 : (w.alloc (.cells (pdC p) 42)).cell? ⟨w.heap.size, 0, none⟩ = some (.int .u8 p.kd) := (hx.cell 0).trans rfl
  have HB := Lib.hid ((bself w).alloc (Nat.le_refl _) (.cells (pdC p) 42))
  have HE := Lib.hid (refHead_any 24 3 rfl (by decide))
  have HH := Lib.hid (hello_no 24 (by decide))
  have HL := Lib.hid (lsp_no 24 (by decide))
  rw [hk] at c0
  clear hk hx
  obtain rfl : true = b := by rw [← hb]; exact (decide_eq_true (trivial)).symm
  clear hb
  go_enter Tryd.func66, Tryd.ntmps66
  go_wp2_with fail
  refine (HE.out _).mono ?_
  rintro e w1 ⟨rfl, rfl⟩
  go_wp2_with fail
  refine (HH.out _).mono ?_
  rintro e w1 ⟨rfl, rfl⟩
  go_wp2_with fail
  refine (HL.out _).mono ?_
  rintro e w1 ⟨rfl, rfl⟩
  go_wp2_with fail
  go_ret
  exact ⟨rfl, HB.out⟩
set_option maxHeartbeats 2000000 in
set_option maxRecDepth 100000 in
theorem fields_25 (p : Pd) (hk : p.kd = 25) (b : Bool) (hb : decide (True) = b) (w : World) : Calls Tryd.prog 66 #[.agg (pdC p)] w fun e w' => e = .returned (.bool b) ∧ Below w.heap.size w w' := by
  have hx : PdT 42 (w.alloc (.cells (pdC p) 42)) w.heap.size p := heap_alloc_new w _
  have c0 : (w.alloc (.cells (pdC p) 42)).cell? ⟨w.heap.size, 0, none⟩ = some (.int .u8 p.kd) := (hx.cell 0).trans rfl
  have HB := Lib.hid ((bself w).alloc (Nat.le_refl _) (.cells (pdC p) 42))
  have HE := Lib.hid (refHead_any 25 3 rfl (by decide))
  have HH := Lib.hid (hello_no 25 (by decide))
  have HL := Lib.hid (lsp_no 25 (by decide))
  rw [hk] at c0
  clear hk hx
  obtain rfl : true = b := by rw [← hb]; exact (decide_eq_true (trivial)).symm
  clear hb
  go_enter Tryd.func66, Tryd.ntmps66
  go_wp2_with fail
  refine (HE.out _).mono ?_
  rintro e w1 ⟨rfl, rfl⟩
  go_wp2_with fail
  refine (HH.out _).mono ?_
  rintro e w1 ⟨rfl, rfl⟩
  go_wp2_with fail
  refine (HL.out _).mono ?_
  rintro e w1 ⟨rfl, rfl⟩
  go_wp2_with fail
  go_ret
  exact ⟨rfl, HB.out⟩
set_option maxHeartbeats 2000000 in
set_option maxRecDepth 100000 in
theorem fields_26 (p : Pd) (hk : p.kd = 26) (b : Bool) (hb : decide (True) = b) (w : World) : Calls Tryd.prog 66 #[.agg (pdC p)] w fun e w' => e = .returned (.bool b) ∧ Below w.heap.size w w' := by
  have hx : PdT 42 (w.alloc (.cells (pdC p) 42)) w.heap.size p := heap_alloc_new w _
  have c0 : (w.alloc (.cells (pdC p) 42)).cell? ⟨w.heap.size, 0, none⟩ = some (.int .u8 p.kd) := (hx.cell 0).trans rfl
  have HB := Lib.hid ((bself w).alloc (Nat.le_refl _) (.cells (pdC p) 42))
  have HE := Lib.hid (refHead_any 26 4 rfl (by decide))
  have HH := Lib.hid (hello_no 26 (by decide))
  have HL := Lib.hid (lsp_no 26 (by decide))
  rw [hk] at c0
  clear hk hx
  obtain rfl : true = b := by rw [← hb]; exact (decide_eq_true (trivial)).symm
  clear hb
  go_enter Tryd.func66, Tryd.ntmps66
  go_wp2_with fail
  refine (HE.out _).mono ?_
  rintro e w1 ⟨rfl, rfl⟩
  go_wp2_with fail
  refine (HH.out _).mono ?_
  rintro e w1 ⟨rfl, rfl⟩
  go_wp2_with fail
  refine (HL.out _).mono ?_
  rintro e w1 ⟨rfl, rfl⟩
  go_wp2_with fail
  go_ret
  exact ⟨rfl, HB.out⟩
set_option maxHeartbeats 2000000 in
set_option maxRecDepth 100000 in
theorem fields_27 (p : Pd) (hk : p.kd = 27) (b : Bool) (hb : decide (True) = b) (w : World) : Calls Tryd.prog 66 #[.agg (pdC p)] w fun e w' => e = .returned (.bool b) ∧ Below w.heap.size w w' := by
  have hx : PdT 42 (w.alloc (.cells (pdC p) 42)) w.heap.size p := heap_alloc_new w _
  have c0 : (w.alloc (.cells (pdC p) 42)).cell? ⟨w.heap.size, 0, none⟩ = some (.int .u8 p.kd) := (hx.cell 0).trans rfl
  have HB := Lib.hid ((bself w).alloc (Nat.le_refl _) (.cells (pdC p) 42))
  have HE := Lib.hid (refHead_any 27 4 rfl (by decide))
  have HH := Lib.hid (hello_no 27 (by decide))
  have HL := Lib.hid (lsp_no 27 (by decide))
  rw [hk] at c0
  clear hk hx
  obtain rfl : true = b := by rw [← hb]; exact (decide_eq_true (trivial)).symm
  clear hb
  go_enter Tryd.func66, Tryd.ntmps66
  go_wp2_with fail
  refine (HE.out _).mono ?_
  rintro e w1 ⟨rfl, rfl⟩
  go_wp2_with fail
  refine (HH.out _).mono ?_
  rintro e w1 ⟨rfl, rfl⟩
  go_wp2_with fail
  refine (HL.out _).mono ?_
  rintro e w1 ⟨rfl, rfl⟩
  go_wp2_with fail
  go_ret
  exact ⟨rfl, HB.out⟩
end Go.Proofs.YtccoicjmmeoggaaDoor

/- The document's check bytes, found by trying them all, are those that octet.Sum reckons. Each theorem states its conditions. -/
namespace Go.Proofs.YtccoicjmmeoggaaDoor
open Go.RowKit
set_option linter.unusedVariables false

theorem weigh_ok (b off len cap : Nat) (z : Nat → Int) (i : Int) (w : World) (hr : Row8 w b off len z) (hn : len ≤ 1492) (hi0 : 0 ≤ i) (hi : i ≤ len - 2) :
    Calls Tryd.prog 103 #[.slice (some ⟨b, off, none⟩) len cap, .int .i64 i] w fun e w' => e = .returned (.tuple #[.int .i64 (sumA z i.toNat len), .int .i64 (sumB z i.toNat len len)]) ∧ w = w' := by
  obtain ⟨s, rfl⟩ := Int.eq_ofNat_of_zero_le hi0
  rw [Int.toNat_natCast]
  have hz := hr.2.2
  have hc := hr.2.1
  clear hr
  go_enter Tryd.func103, Tryd.ntmps103
  go_wp2
  go_loop [6, 7, 11] (fun p q t => ∃ c : Nat, c ≤ len ∧ t = .int .i64 c ∧ p = .int .i64 (sumA z s c) ∧ q = .int .i64 (sumB z s len c)) (fun _ _ t => len - (intOf t).toNat)
  case atStart => exact ⟨0, Nat.zero_le _, rfl, rfl, rfl⟩
  case round =>
    obtain ⟨c, hcm, rfl, rfl, rfl⟩ := hrel
    have hA := sumA_bd z s c hz
    have hB := sumB_bd z s len c hz hn hcm
    by_cases hlt : c < len
    · have hcell := hc c hlt
      have hb := hz c
      have hm := mul_bd (z c) ((len : Int) - c) 255 1492 hb.1 hb.2 (by omega) (by omega)
      by_cases h1 : c = s
      · have hs1 := Lib.hid (sumA_skip z s c (.inl h1))
        have hs2 := Lib.hid (sumB_skip z s len c (.inl h1))
        have h1' : ((c : Int) != s) = false := by simp [h1]
        have H1 := Lib.hid h1; clear h1
        go_wp2
        go_round
        case rel => exact ⟨c + 1, by omega, by go_num, by rw [hs1.out], by rw [hs2.out]⟩
        case measure => simp [intOf]; omega
      · have h1' : ((c : Int) != s) = true := by simp; omega
        by_cases h2 : c = s + 1
        · have hs1 := Lib.hid (sumA_skip z s c (.inr h2))
          have hs2 := Lib.hid (sumB_skip z s len c (.inr h2))
          have h2' : ((c : Int) != (s : Int) + 1) = false := by simp; omega
          have H2 := Lib.hid h2; clear h2
          go_wp2
          go_round
          case rel => exact ⟨c + 1, by omega, by go_num, by rw [hs1.out], by rw [hs2.out]⟩
          case measure => simp [intOf]; omega
        · have hs1 := Lib.hid (sumA_take z s c (by omega))
          have hs2 := Lib.hid (sumB_take z s len c (by omega))
          have h2' : ((c : Int) != (s : Int) + 1) = true := by simp; omega
          go_wp2
          go_round
          case rel => exact ⟨c + 1, by omega, by go_num, by rw [hs1.out], by rw [hs2.out]⟩
          case measure => simp [intOf]; omega
    · obtain rfl : c = len := by omega
      go_wp2
      go_ret2
      exact ⟨rfl, rfl⟩

/-- the second byte that goes with the first one k -/
def yOf (A k : Int) : Int := 255 - (A + k) % 255
theorem yOf_bd (A k : Int) : 1 ≤ yOf A k ∧ yOf A k ≤ 255 := by unfold yOf; omega
theorem yOf_chk (A k : Int) : cbI (-A - k) = yOf A k := by unfold cbI yOf; omega
theorem try_iff (A B k m : Int) (h1 : 1 ≤ k) (h2 : k ≤ 255) :
    (B + k * (m + 1) + yOf A k * m) % 255 = 0 ↔ k = cbI (A * m - B) := by
  have hq : ∃ q, yOf A k = 255 - A - k + 255 * q := ⟨(A + k) / 255, by unfold yOf; omega⟩
  obtain ⟨q, hq⟩ := hq
  have e : B + k * (m + 1) + yOf A k * m = B + k - A * m + 255 * ((1 + q) * m) := by
    rw [hq]
    simp only [Int.add_mul, Int.sub_mul, Int.mul_add, Int.mul_one, Int.mul_assoc, Int.one_mul]
    omega
  rw [e]
  unfold cbI
  generalize A * m = P
  generalize (1 + q) * m = Q
  omega

theorem check_ok (b off len cap : Nat) (z : Nat → Int) (i : Int) (w : World) (hr : Row8 w b off len z) (hn : len ≤ 1492) (hi0 : 0 ≤ i) (hi : i ≤ len - 2) :
    Calls Tryd.prog 95 #[.slice (some ⟨b, off, none⟩) len cap, .int .i64 i] w fun e w' => e = .returned (.tuple #[.int .i64 (chkX z i.toNat len), .int .i64 (chkY z i.toNat len)]) ∧ w = w' := by
  obtain ⟨s, rfl⟩ := Int.eq_ofNat_of_zero_le hi0
  rw [Int.toNat_natCast]
  have HW := Lib.hid (weigh_ok b off len cap z s w hr hn hi0 hi)
  rw [Int.toNat_natCast] at HW
  have hA := sumA_bd z s len hr.2.2
  have hB := sumB_bd z s len len hr.2.2 hn (Nat.le_refl _)
  have hX := (chk_bd z s len).2.2.2.2
  have heX : Hid (chkX z s len = cbI (sumA z s len * ((len : Int) - s - 1) - sumB z s len len)) := Lib.hid rfl
  have heY : Hid (chkY z s len = yOf (sumA z s len) (chkX z s len)) := Lib.hid (by rw [← yOf_chk]; rfl)
  generalize chkX z s len = X at *
  generalize chkY z s len = Y at *
  generalize sumA z s len = A at *
  generalize sumB z s len len = B at *
  clear hr
  go_enter Tryd.func95, Tryd.ntmps95
  go_wp2_with (refine (HW.out).mono ?_; rintro e w' ⟨rfl, rfl⟩)
  go_loop [8] (fun t => ∃ k : Int, 1 ≤ k ∧ k ≤ X ∧ t = .int .i64 k) (fun t => (256 - intOf t).toNat)
  case atStart => exact ⟨1, by omega, by omega, rfl⟩
  case round =>
    obtain ⟨k, hk1, hkX, rfl⟩ := hrel
    have ht := try_iff A B k ((len : Int) - s - 1) hk1 (by omega)
    rw [← heX.out, show (len : Int) - s - 1 + 1 = len - s by omega] at ht
    have hy := yOf_bd A k
    have m1 := mul_bd k ((len : Int) - s) 255 1492 (by omega) (by omega) (by omega) (by omega)
    have m2 := mul_bd (yOf A k) ((len : Int) - s - 1) 255 1492 (by omega) (by omega) (by omega) (by omega)
    have HT := Lib.hid ht
    clear ht
    by_cases hkx : k = X
    · subst hkx
      have t1 : ((B + k * ((len : Int) - s) + yOf A k * ((len : Int) - s - 1)) % 255 == 0) = true := by simp only [beq_iff_eq]; exact HT.out.2 rfl
      unfold yOf at t1 hy m2
      go_wp2
      go_ret2
      exact ⟨by rw [heY.out]; rfl, rfl⟩
    · have t1 : ((B + k * ((len : Int) - s) + yOf A k * ((len : Int) - s - 1)) % 255 == 0) = false := by simp only [beq_eq_false_iff_ne]; exact fun h => hkx (HT.out.1 h)
      unfold yOf at t1 hy m2
      go_wp2
      go_round
      case rel => exact ⟨k + 1, by omega, by omega, rfl⟩
      case measure => simp [intOf]; omega

end Go.Proofs.YtccoicjmmeoggaaDoor

/- What the document's Write is walked with. Each theorem states its conditions. -/
namespace Go.Proofs.YtccoicjmmeoggaaDoor
open Go.RowKit
set_option linter.unusedVariables false

/-- n new bytes are answered -/
def RwP (w : World) (n : Nat) (z : Nat → Int) (e : Ending) (w' : World) : Prop :=
  ∃ g c, e = .returned (.slice (some ⟨g, 0, none⟩) n c) ∧ w.heap.size ≤ g ∧ Own8 w' g n c z ∧ Below w.heap.size w w'
theorem J_rd {w : World} {A : Option Addr} {m : Nat} {L : Nat → It} (h : RdT w A m L) (hm : ∀ k, k < m → ¬ bad L k) : ∀ j, 0 ≤ J L m j ∧ J L m j ≤ 255 := by
  refine J_bd L m (fun j hj => ?_) (fun j hj => ?_) (fun j hj => ?_)
  · obtain ⟨b, off, rfl, hr⟩ := h.row (by omega)
    exact (hr.2 j hj).2.2.1
  · have := hm j hj
    unfold bad at this
    omega
  · obtain ⟨b, off, rfl, hr⟩ := h.row (by omega)
    exact (hr.2 j hj).2.2.2.1.2
theorem pdZ_bd (p : Pd) (q : Nat) (L : Nat → It) (hq : q ≤ 4) (hp : PdOk p) (hJ : ∀ j, 0 ≤ J L p.m j ∧ J L p.m j ≤ 255) : ∀ j, 0 ≤ pdZ p q L j ∧ pdZ p q L j ≤ 255 := by
  have h := cat_bd (n := hdN q) (accZ_bd p (hdN q + sz L p.m) q hq hp (flC q).length) hJ
  unfold pdZ
  split
  · exact sgZ_bd _ _ h
  · exact h
theorem fit_ho (p : Pd) (q : Nat) (hq : q ≤ 1) (hf : fitP p q = true) : 0 ≤ p.ho ∧ p.ho ≤ 65535 := by
  rcases (by omega : q = 0 ∨ q = 1) with rfl | rfl <;>
  · simp [fitP, fitsTo, flC, fAt, fitB] at hf
    omega
theorem fit_li (p : Pd) (hf : fitP p 2 = true) : 0 ≤ p.li ∧ p.li ≤ 65535 := by
  simp [fitP, fitsTo, flC, fAt, fitB] at hf
  omega
theorem head_at (W : World) (p : Pd) (K : Int) (q H T : Nat) (hk : p.kd = K) (hH : hdN q = H) (hb : 0 ≤ K ∧ K ≤ 255) (hH2 : H ≤ 255) :
    Own8 (W.alloc (.cells #[.int .u8 131, .int .u8 (H : Int), .int .u8 1, .int .u8 0, .int .u8 K, .int .u8 1, .int .u8 0, .int .u8 0] 5)) W.heap.size 8 8 (accZ p (H + T) q 0) := by
  subst hk hH
  exact (head_new W p.kd (hdN q)).2 (headZ_bd p.kd (hdN q) hb hH2)
theorem rd_cutSys {w : World} {A : Option Addr} {z : Nat → Int} (h : Rd w A 6 z) : Rd w A 6 (cutSys z) := by
  refine ⟨?_, cutSys_bd h.2⟩
  rcases h.1 with h0 | ⟨b, off, e, hr⟩
  · exact .inl h0
  · exact .inr ⟨b, off, e, hr.1, fun j hj => by unfold cutSys; rw [if_pos hj]; exact hr.2.1 j hj, cutSys_bd h.2⟩
/-- two check bytes are laid -/
theorem sg_own {w : World} {g n c : Nat} {z : Nat → Int} (h : Own8 w g n c z) (hn : 27 ≤ n) (x y : Int) (hx : chkX (fun i => z (12 + i)) 12 (n - 12) = x) (hy : chkY (fun i => z (12 + i)) 12 (n - 12) = y) (hx1 : 0 ≤ x ∧ x ≤ 255) (hy1 : 0 ≤ y ∧ y ≤ 255) :
    Own8 ((w.setCell ⟨g, 24, none⟩ (.int .u8 x)).setCell ⟨g, 25, none⟩ (.int .u8 y)) g n c (sgZ z n) := by
  have h1 := (h.put 24 (by omega) x hx1).put 25 (by omega) y hy1
  have e : upd (upd z 24 x) 25 y = sgZ z n := by
    funext j
    unfold upd sgZ
    rw [hx, hy]
    by_cases h24 : j = 24
    · subst h24; simp
    · by_cases h25 : j = 25
      · subst h25; simp
      · simp [h24, h25]
  rwa [e] at h1
end Go.Proofs.YtccoicjmmeoggaaDoor
