/- Parts of the document's DocGetReach: a struct in a struct is written; numbers of four bytes. Each theorem states its conditions. -/
import Derived.Test.YtplfilghhgdffaaDGetE
import Derived.Test.YtplfilghhgdffaaGetR
import Derived.Test.YtplfilghhgdffaaSameR
import Derived.Test.YtplfilghhgdffaaDPutR
import Derived.Test.YtplfilghhgdffaaPRef
namespace Go.Proofs.Ytplfilghhgdffaa
open Go.RowKit
set_option linter.unusedVariables false

def putMany (cur : Array Value) : Nat → List Value → Array Value
  | _, [] => cur
  | o, v :: r => putMany (cur.setIfInBounds o v) (o + 1) r
theorem heap_setMany (b : Nat) (t : TypeId) : ∀ (vs : List Value) (o : Nat) (w : World) (cur : Array Value), w.heap[b]? = some (.cells cur t (0, 0)) → (w.setCells b o vs).heap[b]? = some (.cells (putMany cur o vs) t (0, 0)) := by
  intro vs
  induction vs with
  | nil => intro o w cur h; exact h
  | cons v r ih =>
    intro o w cur h
    refine ih (o + 1) _ _ ?_
    simp [World.setCell, Array.getElem?_modify, h]
theorem below_setMany (b : Nat) : ∀ (vs : List Value) (o : Nat) (w : World) (B : Nat), B ≤ b → Below B w (w.setCells b o vs) := by
  intro vs
  induction vs with
  | nil => intro o w B _; exact Below.refl _ _
  | cons v r ih =>
    intro o w B hB
    exact ((Below.refl B w).setCell (p := ⟨b, o, none⟩) hB v).trans (ih (o + 1) _ B hB)
theorem put_pv (fam len : Int) (z : Nat → Int) (r : Rc) : putMany (rcC r) 0 (pvC fam len z).toList = rcC ⟨fam, len, z, r.me, r.dn⟩ := by kernel_rfl
section
variable {ops : Array Oper} {rest : List Oper} {op : Oper} {a : Act} {w : World} {Q : Exit → Act → World → Prop} {b : Nat} {r : Rc}
/-- a prefix is written into what is told -/
theorem store_pvrc {fam len : Int} {z : Nat → Int} (hgd : op.guard = none) (x y : Operand) (ho : op.op = .store 45 x y) (hx : a.eval x = .pointer (some ⟨b, 0, none⟩)) (hy : a.eval y = .agg (pvC fam len z)) (hc : IsRc w b r)
    (h : ∀ w', IsRc w' b ⟨fam, len, z, r.me, r.dn⟩ → (∀ B, B ≤ b → Below B w w') → wpList Try.prog ops Q rest (a.put op.dst undef) w') : wpList Try.prog ops Q (op :: rest) a w := by
  have hfree : ∀ j, w.frozen? ⟨b, j, none⟩ = false := fun j => by unfold IsRc at hc; simp [World.frozen?, hc]
  refine wpList_store_mid hgd 45 x y ho b 0 (pvC fam len z) hx hy (fun j hj => ⟨?_, by rw [Nat.zero_add]; exact hfree j⟩) (by rw [info_pv]; rfl) (all_pv fam len z) ?_
  · rw [Nat.zero_add, hc.at, Array.getElem?_eq_getElem (by rw [rcC_size]; rw [pvC_size] at hj; omega)]
    rfl
  · have h1 := heap_setMany b 47 (pvC fam len z).toList 0 w (rcC r) hc
    rw [put_pv] at h1
    exact h _ h1 (fun B hB => below_setMany b _ 0 w B hB)
end
theorem build_12 (o : Oper) (e : Operand → Value) (x1 x2 : Operand) (ho : o.op = .build 47 #[(1, x1), (2, x2)]) (me : Nat) (dn : Bool) (h1 : e x1 = .int .u32 (me : Int)) (h2 : e x2 = .bool dn) (W : World) :
    (execOp e o).run Try.prog W = .ok (.value (.agg (rcC ⟨0, 0, Z0, me, dn⟩))) W := by
  unfold execOp
  simp only [ho]
  simp only [List.map_toArray, List.map_cons, List.map_nil, h1, h2]
  kernel_rfl
theorem rcC_put (fam len : Int) (z : Nat → Int) (q i me : Nat) (dn : Bool) (hi : i < 16) : (rcC ⟨fam, len, headZ z q i, me, dn⟩).setIfInBounds (2 + i) (.int .u8 (z (q + i))) = rcC ⟨fam, len, headZ z q (i + 1), me, dn⟩ := by
  rcases (by omega : i = 0 ∨ i = 1 ∨ i = 2 ∨ i = 3 ∨ i = 4 ∨ i = 5 ∨ i = 6 ∨ i = 7 ∨ i = 8 ∨ i = 9 ∨ i = 10 ∨ i = 11 ∨ i = 12 ∨ i = 13 ∨ i = 14 ∨ i = 15) with rfl | rfl | rfl | rfl | rfl | rfl | rfl | rfl | rfl | rfl | rfl | rfl | rfl | rfl | rfl | rfl <;> rfl
theorem isRc_put {W : World} {X q i me : Nat} {fam len : Int} {dn : Bool} {z : Nat → Int} (h : IsRc W X ⟨fam, len, headZ z q i, me, dn⟩) (hi : i < 16) : IsRc (W.setCell ⟨X, 2 + i, none⟩ (.int .u8 (z (q + i)))) X ⟨fam, len, headZ z q (i + 1), me, dn⟩ := by
  unfold IsRc at *
  rw [← rcC_put fam len z q i me dn hi]
  simp [World.setCell, Array.getElem?_modify, h]
theorem head_atR (fam len : Int) (z : Nat → Int) (q i me : Nat) (dn : Bool) (hi : i < 16) : (rcC ⟨fam, len, headZ z q i, me, dn⟩)[2 + i]? = some (.int .u8 0) := by
  rw [rcC_z _ i hi]
  show some (Value.int .u8 (headZ z q i i)) = _
  unfold headZ
  rw [if_neg (by omega)]
theorem isRc_free {W : World} {X : Nat} {r : Rc} (h : IsRc W X r) (j : Nat) : W.frozen? ⟨X, j, none⟩ = false := by unfold IsRc at h; simp [World.frozen?, h]
theorem number4 (b off n c p : Nat) (z : Nat → Int) (w : World) (hr : Row8 w b off n z) (hp : p + 4 ≤ n) :
    Calls Try.prog 36 #[.slice (some ⟨b, off + p, none⟩) 4 c] w fun e w' => e = .returned (.int .u64 (((numZ (fun j => z (p + j)) 0 4).toNat : Nat) : Int)) ∧ w = w' := by
  have hz := hr.2.2
  refine (number_any b (off + p) 4 c (fun j => z (p + j)) w (hr.shift p 4 (by omega)) (by omega)).mono ?_
  rintro e w' ⟨rfl, rfl⟩
  exact ⟨by rw [Int.toNat_of_nonneg (numZ_lt (fun j => z (p + j)) 0 4 (fun j => hz _)).1], rfl⟩
theorem rcC_congr' (r r' : Rc) (h1 : r.fam = r'.fam) (h2 : r.len = r'.len) (h3 : ∀ j, j < 16 → r.z j = r'.z j) (h4 : r.me = r'.me) (h5 : r.dn = r'.dn) : rcC r = rcC r' := by
  unfold rcC
  simp only [h1, h2, h4, h5, h3 0 (by omega), h3 1 (by omega), h3 2 (by omega), h3 3 (by omega), h3 4 (by omega), h3 5 (by omega), h3 6 (by omega), h3 7 (by omega), h3 8 (by omega), h3 9 (by omega), h3 10 (by omega), h3 11 (by omega), h3 12 (by omega), h3 13 (by omega), h3 14 (by omega), h3 15 (by omega)]
/-- the record at a place, as the document puts it together -/
theorem doc_rC (fam : Nat) (z : Nat → Int) (p l me : Nat) (dn : Bool) (hl : rL fam z p = l) (hl128 : l ≤ 128) (hme : (numZ (fun j => z (p + j)) 0 4).toNat = me) (hdn : decide (128 ≤ (z (p + 4)).toNat) = dn) :
    rcC ⟨fam, l, firstZ (headZ z (p + rHd fam) (nd l)) l, me, dn⟩ = rC fam z p := by
  unfold rC rRc
  refine rcC_congr' _ _ rfl (by show (l : Int) = _; rw [hl]) (fun j hj => ?_) hme.symm hdn.symm
  show firstZ (headZ z (p + rHd fam) (nd l)) l j = firstZ (fun j => z (p + rHd fam + j)) (rL fam z p) j
  rw [hl]
  have h16 : nd l ≤ 16 := nd_le l (by omega) (by omega)
  have := first_head z (p + rHd fam) l j hj
  rw [Nat.min_eq_left h16] at this
  exact this
theorem sized_le' (fam : Nat) (hf : fam = 4 ∨ fam = 6) (l : Nat) : Sized fam l ↔ (l : Int) ≤ bitsI fam := by
  unfold Sized bitsI
  rcases hf with rfl | rfl
  · rw [if_pos (show ((4 : Nat) : Int) = 4 from rfl)]
    constructor
    · rintro (⟨_, _, h⟩ | ⟨h, _⟩)
      · exact h
      · exact absurd h (by decide)
    · intro h; exact .inl ⟨rfl, by omega, h⟩
  · rw [if_neg (by decide), if_pos (show ((6 : Nat) : Int) = 6 from rfl)]
    constructor
    · rintro (⟨h, _⟩ | ⟨_, _, h⟩)
      · exact absurd h (by decide)
      · exact h
    · intro h; exact .inr ⟨rfl, by omega, h⟩
end Go.Proofs.Ytplfilghhgdffaa
