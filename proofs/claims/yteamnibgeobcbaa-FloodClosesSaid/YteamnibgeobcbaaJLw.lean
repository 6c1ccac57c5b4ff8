/- What the laws of flood have in common. Each theorem states its conditions. -/
import Derived.Test.YteamnibgeobcbaaJOpen
namespace Go.Proofs.Yteamnibgeobcbaa
open Go.RowKit
set_option linter.unusedVariables false

def op0 : OpR := ⟨0, 0, 0, 0, none, 0, 0, fun _ => 0⟩
theorem zero_op : (Try.prog.info? 37).map (·.zero) = some (some (.agg (opC op0))) := by kernel_rfl
/-- the first j circuits are open -/
def Opened (F : Nat → Option Cir) (j n : Nat) : Prop := (∀ i, i < j → ∃ c, F i = some c ∧ c.mesh = 0 ∧ ∀ y, c.send y = false) ∧ ∀ i, j ≤ i → i < n → F i = none
theorem Opened.start (n : Nat) : Opened (fun _ => none) 0 n := ⟨fun i hi => by omega, fun i _ _ => rfl⟩
theorem Opened.step {F : Nat → Option Cir} {j n : Nat} (h : Opened F j n) (hj : j < n) {c : Cir} (hm : c.mesh = 0) (hs : ∀ y, c.send y = false) : Opened (updF F j (some c)) (j + 1) n := by
  refine ⟨fun i hi => ?_, fun i h1 h2 => by rw [updF_other F _ (by omega)]; exact h.2 i (by omega) h2⟩
  by_cases e : i = j
  · subst e; exact ⟨c, updF_same _ _ _, hm, hs⟩
  · rw [updF_other F _ e]; exact h.1 i (by omega)
theorem Opened.all {F : Nat → Option Cir} {n : Nat} (h : Opened F n n) : AllOpen F n := fun i hi => by obtain ⟨c, h1, h2, _⟩ := h.1 i hi; exact ⟨c, h1, h2⟩
theorem opened_mem (a b c : Nat) : ∀ y, (cirN 0 a b c (memL (fun _ => 0) 0)).send y = false := fun y => by simp [cirN, memL]
theorem lst_unique {T U : List IdT} (h1 : T.Pairwise (fun x y => x.1 < y.1)) (h2 : U.Pairwise (fun x y => x.1 < y.1)) (h : ∀ x, x ∈ T ↔ x ∈ U) : T = U := by
  have n1 : T.Nodup := h1.imp (fun {a b} hab e => by rw [e] at hab; exact Nat.lt_irrefl _ hab)
  have n2 : U.Nodup := h2.imp (fun {a b} hab e => by rw [e] at hab; exact Nat.lt_irrefl _ hab)
  refine List.Perm.eq_of_pairwise (le := fun a b : IdT => a.1 < b.1) (fun a b _ _ p q => ?_) h1 h2 ((List.perm_ext_iff_of_nodup n1 n2).2 h)
  omega
theorem LstAt.kept {w w' : World} {base k : Nat} {S : Nat → Bool} {v : Value} {T : List IdT} (h : LstAt w base S k v T) (hk : KeptT w w') : LstAt w' base S k v T := ⟨h.1.kept hk (by decide), h.2⟩
theorem LstAt.eq {w w' : World} {base base' k k' : Nat} {S S' : Nat → Bool} {v v' : Value} {T U : List IdT} (h : LstAt w base S k v T) (h' : LstAt w' base' S' k' v' U) (hS : ∀ x, S x = S' x) : T = U :=
  lst_unique h.2.1 h'.2.1 (fun x => by rw [h.2.2.1 x, h'.2.2.1 x, hS])
/-- how many circuits -/
theorem count_n (a : Int) (h : (Lit.int .u8 a).wf = true) : ∃ n : Nat, wrap64 (1 + wrap64 (a.tmod 8)) = (n : Int) ∧ 1 ≤ n ∧ n ≤ 8 := by
  have ha := wf_u8 h
  refine ⟨(1 + a % 8).toNat, ?_, by omega, by omega⟩
  have e : a.tmod 8 = a % 8 := Int.tmod_eq_emod_of_nonneg ha.1
  have w1 : wrap64 (a.tmod 8) = a % 8 := by rw [e]; unfold wrap64; omega
  rw [w1]
  unfold wrap64
  omega
theorem pick_c (a : Int) (n : Nat) (h1 : 1 ≤ n) (h8 : n ≤ 8) : ∃ i : Nat, wrap64 ((IntKind.u64.wrap a).tmod (n : Int)) = (i : Int) ∧ i < n := by
  have hu : 0 ≤ IntKind.u64.wrap a := by simp [IntKind.wrap, IntKind.bits, IntKind.signed]; omega
  obtain ⟨z, hz⟩ : ∃ z, IntKind.u64.wrap a = z := ⟨_, rfl⟩
  rw [hz] at hu ⊢
  rw [Int.tmod_eq_emod_of_nonneg hu]
  refine ⟨(z % (n : Int)).toNat, ?_, ?_⟩
  · have h2 := Int.emod_nonneg z (show (n : Int) ≠ 0 by omega)
    have h3 := Int.emod_lt_of_pos z (show (0 : Int) < n by omega)
    unfold wrap64
    omega
  · have h2 := Int.emod_nonneg z (show (n : Int) ≠ 0 by omega)
    have h3 := Int.emod_lt_of_pos z (show (0 : Int) < n by omega)
    omega
theorem FlAt.far_op {w w' : World} {B g ga n k N : Nat} {F : Nat → Option Cir} {C C' : Array Value} {t : TypeId} (h : FlAt w B g ga n F k) (hN : Blk 37 w N C) (hs : Stored w w' N C' t) : FlAt w' B g ga n F k := by
  have hne : ∀ {u : TypeId} {b : Nat} {D : Array Value}, Blk u w b D → (u == 37) = false → b ≠ N := fun hb hu e => by
    subst e
    have h9 := (show w.heap[_]? = _ from hb).symm.trans (show w.heap[_]? = _ from hN)
    simp only [Option.some.injEq, Obj.cells.injEq] at h9
    rw [h9.2.1] at hu
    simp at hu
  have hnm : ∀ {b : Nat} {S : Nat → Bool}, SetAt w b S k → b ≠ N := fun hb e => by
    subst e
    obtain ⟨es, cl, h0, _⟩ := hb
    rw [show w.heap[_]? = _ from hN] at h0
    cases h0
  refine ⟨h.hg, h.ha, h.hn, h.g.far hs (hne h.g (by decide)), h.a.far hs (hne h.a (by decide)), fun i c hi e => ?_, h.far⟩
  have hc := h.cir i c hi e
  exact ⟨hc.hc, hc.hs, hc.hm, hc.ne, hc.blk.far hs (hne hc.blk (by decide)), hc.send.at (hs.2.2 _ (hnm hc.send)), hc.sum.at (hs.2.2 _ (hnm hc.sum))⟩
theorem OpOk.below' {w w' : World} {o : OpR} (h : OpOk w o) (hb : Below w.heap.size w w') : OpOk w' o := h.below hb
end Go.Proofs.Yteamnibgeobcbaa
