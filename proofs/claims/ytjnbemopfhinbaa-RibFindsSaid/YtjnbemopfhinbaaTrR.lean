/- Rows of prefixes; the program's list of what stands in a tree. Each theorem states its conditions. -/
import Derived.Test.YtjnbemopfhinbaaTrL
import Derived.Test.YtjnbemopfhinbaaRec
namespace Go.Proofs.Ytjnbemopfhinbaa
open Go.RowKit
set_option linter.unusedVariables false
set_option linter.unusedSimpArgs false

def OwnR (w : World) (base : Nat) (e : TypeId) (s : Nat) (v : Value) (m : Nat) (C : Nat → Array Value) : Prop := w.ownsRow base e s v m (cellsR C m)
theorem OwnR.below {w w' : World} {base s m : Nat} {e : TypeId} {v : Value} {C : Nat → Array Value} (h : OwnR w base e s v m C) (hb : Below w.heap.size w w') : OwnR w' base e s v m C := ownsRow_below' h hb
theorem OwnR.nil (w : World) (base : Nat) (e : TypeId) (s : Nat) (C : Nat → Array Value) : OwnR w base e s (.slice none 0 0) 0 C := World.ownsRow_nil _ _ _ _
theorem OwnR.mono {w : World} {base base' s m : Nat} {e : TypeId} {v : Value} {C : Nat → Array Value} (h : OwnR w base e s v m C) (hb : base' ≤ base) : OwnR w base' e s v m C := ownsRow_mono h hb
theorem OwnR.congr {w : World} {base s m : Nat} {e : TypeId} {v : Value} {C C' : Nat → Array Value} (h : OwnR w base e s v m C) (hc : ∀ j, j < m → C j = C' j) : OwnR w base e s v m C' := by
  unfold OwnR at h ⊢
  rwa [cellsR_congr m hc] at h
theorem OwnR.shape {w : World} {base s m : Nat} {e : TypeId} {v : Value} {C : Nat → Array Value} (h : OwnR w base e s v m C) (hC : Recs s C) (hs : 0 < s) : ∃ A c, v = .slice A m c ∧ m ≤ c ∧ c ≤ maxLen ∧ (A = none → m = 0 ∧ c = 0) ∧ RdR w A m s C := ownR_shape hC hs h
theorem rdR_blk {w : World} {B s : Nat} {C : Array Value} {t : TypeId} (h : Blk t w B C) : RdR w (some ⟨B, 0, none⟩) 1 s (fun _ => C) := by
  refine .inr ⟨B, 0, rfl, h.lt, fun j hj i u hu => ?_⟩
  obtain rfl : j = 0 := by omega
  rw [Nat.zero_mul, Nat.zero_add, h.cell i]
  simpa using hu
section
variable {ops : Array Oper} {Q : Exit → Act → World → Prop}
theorem app_Y {rest : List Oper} {o : Oper} {a : Act} {w : World} (T E : TypeId) (s bs : Nat) (z : Value) (hT : Try.prog.underlying T = some (.slice E)) (hI : (Try.prog.info? E).map (fun i => (i.zero, i.size, i.bytes)) = some (some z, s, bs)) (hzs : z.cells.size = s) (hs0 : 0 < s)
    (hgd : o.guard = none) (y x : Operand) (ho : o.op = .call { callee := .builtin .append, args := #[y, x], argTypes := #[T, T] })
    (B : Nat) (v : Value) (n : Nat) (C : Nat → Array Value) (hs : a.eval y = v) (hown : OwnR w B E s v n C) (hb : B ≤ w.heap.size)
    (ad : Addr) (m c : Nat) (D : Nat → Array Value) (hx : a.eval x = .slice (some ad) m c) (hR : RdR w (some ad) m s D) (hD : Recs s D) (h63 : n + m ≤ maxLen) (hbd : (n + m) * bs ≤ 140737488355328)
    (h : ∀ v' w', OwnR w' B E s v' (n + m) (catR C n D) → w.grownBy w' v.ownBlock → (∀ k, v.ownBlock = some k → B ≤ k) → wpList Try.prog ops Q rest (a.put o.dst v') w') :
    wpList Try.prog ops Q (o :: rest) a w := by
  obtain ⟨i0, hi, hz0, hz1, hz2⟩ := info_parts hI
  refine wpList_append_own_at w hgd y x _ ho B E i0 z s bs hT hi hz0 hz1 hz2 hzs hs0 v n _ hs hown ad m c (cellsR D m) hx (cellsR_len hD m) (recs_news hD hs0 hR) (cellsR_one hD m) h63 hbd hb ?_
  intro v' w' h2 h3 h4 h5
  rw [cellsR_cat] at h2
  exact h v' w' h2 h3 (fun k e => (hown.lt k e).1)
theorem wpList_bs {rest : List Oper} {op : Oper} {a : Act} {w : World} (hgd : op.guard = none) (t : TypeId) (C : Array Value) (hx : (execOp a.eval op).run Try.prog w = .ok (.value (.slice (some ⟨w.heap.size, 0, none⟩) 1 1)) (w.alloc (.cells C t)))
    (N : Nat) (hN : w.heap.size = N) (h : ∀ w', Blk t w' N C → Below w.heap.size w w' → N + 1 ≤ w'.heap.size → wpList Try.prog ops Q rest (a.put op.dst (.slice (some ⟨N, 0, none⟩) 1 1)) w') : wpList Try.prog ops Q (op :: rest) a w := by
  subst hN
  refine wpList_plain hgd fun K hK => ?_
  unfold Oper.wp
  rw [hx, Oper.upon_value]
  exact hK _ _ (h _ (heap_alloc_new w _) ((Below.refl _ _).alloc (Nat.le_refl _) _) (by simp))
end
/-- a prefix -/
structure Pf where
  fam : Int
  len : Int
  z : Nat → Int
def pfC (p : Pf) : Array Value := pvC p.fam p.len p.z
def pf0 : Pf := ⟨0, 0, Z0⟩
/-- what stands in a tree, in its order -/
def Ht.hl (fam : Int) : Ht → List Pf
  | .nil => []
  | .nd _ n z v l r => (if v.isSome then [⟨fam, n, z⟩] else []) ++ (l.hl fam ++ r.hl fam)
theorem below_grown {w w' : World} {B : Nat} {row : Option Nat} (hg : w.grownBy w' row) (hB : B ≤ w.heap.size) (hr : ∀ k, row = some k → B ≤ k) : Below B w w' := (Below.refl B w).grown hg hB hr
end Go.Proofs.Ytjnbemopfhinbaa
