/- A tree of nodes in memory. Plain facts. Each theorem states its conditions. -/
import Derived.Test.YtjnbemopfhinbaaTrC
namespace Go.Proofs.Ytjnbemopfhinbaa
open Go.RowKit
set_option linter.unusedVariables false
set_option linter.unusedSimpArgs false

/-- a tree of nodes with the blocks in which they lie -/
inductive Ht where
  | nil : Ht
  | nd (g n : Nat) (z : Nat → Int) (v : Option Int) (l r : Ht) : Ht
namespace Ht
def root : Ht → Value
  | nil => .pointer none
  | nd g _ _ _ _ _ => .pointer (some ⟨g, 0, none⟩)
def fp : Ht → List Nat
  | nil => []
  | nd g _ _ _ l r => g :: (fp l ++ fp r)
def bits : Ht → Tr
  | nil => .nil
  | nd _ n z v l r => .nd (btP n z) v l.bits r.bits
/-- it lies in memory -/
def At (w : World) (fam : Int) : Ht → Prop
  | nil => True
  | nd g n z v l r => Blk 106 w g (ndC fam n z v.isSome (v.getD 0) l.root r.root) ∧ Bytes z ∧ Form fam n z ∧ At w fam l ∧ At w fam r
def pick : Bool → Ht → Ht → Ht
  | false, l, _ => l
  | true, _, r => r
end Ht
theorem Ht.At.keep {w w' : World} {fam : Int} : ∀ {t : Ht}, t.At w fam → (∀ k, k ∈ t.fp → w'.heap[k]? = w.heap[k]?) → t.At w' fam
  | .nil, _, _ => trivial
  | .nd g n z v l r, h, hk => by
    obtain ⟨h1, h2, h3, h4, h5⟩ := h
    refine ⟨(hk g (by simp [Ht.fp])).trans h1, h2, h3, h4.keep fun k hx => hk k (by simp [Ht.fp, hx]), h5.keep fun k hx => hk k (by simp [Ht.fp, hx])⟩
theorem Ht.At.lt {w : World} {fam : Int} : ∀ {t : Ht}, t.At w fam → ∀ k, k ∈ t.fp → k < w.heap.size
  | .nil, _, k, hk => by cases hk
  | .nd g n z v l r, h, k, hk => by
    obtain ⟨h1, _, _, h4, h5⟩ := h
    simp only [Ht.fp, List.mem_cons, List.mem_append] at hk
    rcases hk with rfl | hk | hk
    · exact h1.lt
    · exact h4.lt k hk
    · exact h5.lt k hk
theorem Ht.At.below {w w' : World} {fam : Int} {t : Ht} (h : t.At w fam) {B : Nat} (hb : Below B w w') (hB : ∀ k, k ∈ t.fp → k < B) : t.At w' fam := h.keep fun k hk => hb.block k (hB k hk)
/-- nothing but these blocks has turned -/
structure Kp (S : List Nat) (w w' : World) : Prop where
  os : w'.os = w.os
  tape : w'.tape = w.tape
  output : w'.output = w.output
  size : w.heap.size ≤ w'.heap.size
  block : ∀ i, i < w.heap.size → i ∉ S → w'.heap[i]? = w.heap[i]?
theorem Kp.refl (S : List Nat) (w : World) : Kp S w w := ⟨rfl, rfl, rfl, Nat.le_refl _, fun _ _ _ => rfl⟩
theorem Kp.of_below (S : List Nat) {w w' : World} (h : Below w.heap.size w w') : Kp S w w' := ⟨h.os, h.tape, h.output, h.size, fun i hi _ => h.block i hi⟩
theorem Kp.tr {S T : List Nat} {a b c : World} (h : Kp S a b) (k : Kp T b c) (hT : ∀ x, x ∈ T → x ∈ S ∨ a.heap.size ≤ x) : Kp S a c :=
  ⟨k.os.trans h.os, k.tape.trans h.tape, k.output.trans h.output, Nat.le_trans h.size k.size, fun i hi hS => (k.block i (Nat.lt_of_lt_of_le hi h.size) (fun hx => (hT i hx).elim hS (fun h9 => absurd hi (Nat.not_lt.2 h9)))).trans (h.block i hi hS)⟩
theorem Kp.tb {S : List Nat} {a b c : World} (h : Kp S a b) (k : Below b.heap.size b c) : Kp S a c := h.tr (Kp.of_below [] k) (fun x hx => by cases hx)
theorem Kp.drew {S : List Nat} {a b : World} (h : Kp S a b) : Kp S a b.drew := ⟨h.os, h.tape, h.output, h.size, h.block⟩
theorem Kp.st {S : List Nat} {a b c : World} {g : Nat} {C : Array Value} {t : TypeId} (h : Kp S a b) (q : Stored b c g C t) (hg : g ∈ S ∨ a.heap.size ≤ g) : Kp S a c :=
  ⟨(q.2.1 0 (Nat.zero_le _)).os.trans h.os, (q.2.1 0 (Nat.zero_le _)).tape.trans h.tape, (q.2.1 0 (Nat.zero_le _)).output.trans h.output, Nat.le_trans h.size (q.2.1 0 (Nat.zero_le _)).size, fun i hi hS => (q.2.2 i (by rintro rfl; exact hg.elim hS (fun h9 => absurd hi (Nat.not_lt.2 h9)))).trans (h.block i hi hS)⟩
theorem Kp.nil {a b : World} (h : Kp [] a b) : Below a.heap.size a b := ⟨h.os, h.tape, h.output, h.size, fun i hi => h.block i hi (by simp)⟩
theorem Kp.below {S : List Nat} {a b : World} (h : Kp S a b) {B : Nat} (hS : ∀ k, k ∈ S → B ≤ k) (hB : B ≤ a.heap.size) : Below B a b := ⟨h.os, h.tape, h.output, h.size, fun i hi => h.block i (by omega) (fun hx => by have := hS i hx; omega)⟩
theorem Blk.kp {t : TypeId} {w w' : World} {g : Nat} {C : Array Value} {S : List Nat} (h : Blk t w g C) (k : Kp S w w') (hg : g ∉ S) : Blk t w' g C := (k.block g h.lt hg).trans h
theorem Ht.At.kp {w w' : World} {fam : Int} {t : Ht} {S : List Nat} (h : t.At w fam) (k : Kp S w w') (hd : ∀ x, x ∈ t.fp → x ∉ S) : t.At w' fam := h.keep fun x hx => k.block x (h.lt x hx) (hd x hx)
theorem Ht.At.far {w w' : World} {fam : Int} {t : Ht} {b : Nat} {C : Array Value} {u : TypeId} (h : t.At w fam) (q : Stored w w' b C u) (hd : b ∉ t.fp) : t.At w' fam := h.keep fun x hx => q.2.2 x (fun e => hd (e ▸ hx))
/-- what a call leaves that makes another tree of the one in the blocks S -/
def TreeP (fam : Int) (S : List Nat) (T : Tr) (w : World) (e : Ending) (w' : World) : Prop :=
  ∃ t : Ht, e = .returned t.root ∧ t.At w' fam ∧ t.bits = T ∧ Kp S w w' ∧ (∀ k, k ∈ t.fp → k ∈ S ∨ w.heap.size ≤ k) ∧ t.fp.Nodup
theorem Blk.drew {t : TypeId} {w : World} {g : Nat} {C : Array Value} (h : Blk t w g C) : Blk t w.drew g C := h
theorem Ht.At.drew {w : World} {fam : Int} {t : Ht} (h : t.At w fam) : t.At w.drew fam := h.keep fun _ _ => rfl
theorem load_ptr (o : Oper) (e : Operand → Value) (x : Operand) (ho : o.op = .load 87 x) (b off : Nat) (hx : e x = .pointer (some ⟨b, off, none⟩)) (t : Ht) {w : World} (hc : w.cell? ⟨b, off, none⟩ = some t.root) : (execOp e o).run Try.prog w = .ok (.value t.root) w := by
  cases t with
  | nil =>
    have hc' : w.cell? ⟨b, off, none⟩ = some (.pointer none) := hc
    unfold execOp
    simp only [ho, hx]
    simp [go_sem, hc', Ht.root]
  | nd g n z v l r =>
    have hc' : w.cell? ⟨b, off, none⟩ = some (.pointer (some ⟨g, 0, none⟩)) := hc
    unfold execOp
    simp only [ho, hx]
    simp [go_sem, hc', Ht.root]
theorem build_nd1 (o : Oper) (e : Operand → Value) (x0 x2 : Operand) (ho : o.op = .build 106 #[(0, x0), (1, .const (.bool true)), (2, x2)]) (fam v : Int) (n : Nat) (z : Nat → Int) (h0 : e x0 = .agg (pvC fam n z)) (h1 : e (.const (.bool true)) = .bool true) (h2 : e x2 = .int .i64 v) (W : World) :
    (execOp e o).run Try.prog W = .ok (.value (.agg (ndC fam n z true v (.pointer none) (.pointer none)))) W := by
  unfold execOp
  simp only [ho]
  simp [go_sem, h0, h1, h2]
  kernel_rfl
theorem build_nd0 (o : Oper) (e : Operand → Value) (x0 : Operand) (ho : o.op = .build 106 #[(0, x0)]) (fam : Int) (n : Nat) (z : Nat → Int) (h0 : e x0 = .agg (pvC fam n z)) (W : World) :
    (execOp e o).run Try.prog W = .ok (.value (.agg (ndC fam n z false 0 (.pointer none) (.pointer none)))) W := by
  unfold execOp
  simp only [ho]
  simp [go_sem, h0]
  kernel_rfl
section
variable (fam m m' : Int) (n : Nat) (z : Nat → Int) (hb hb' : Bool) (a b c : Value)
theorem nd_put18 : putMany (ndC fam n z hb m a b) 18 [.bool hb'] = ndC fam n z hb' m a b := by kernel_rfl
theorem nd_put19 : putMany (ndC fam n z hb m a b) 19 [.int .i64 m'] = ndC fam n z hb m' a b := by kernel_rfl
theorem nd_put20 : putMany (ndC fam n z hb m a b) 20 [c] = ndC fam n z hb m c b := by kernel_rfl
theorem nd_put21 : putMany (ndC fam n z hb m a b) 21 [c] = ndC fam n z hb m a c := by kernel_rfl
end
theorem one_bool' (b : Bool) : (#[Value.bool b] : Array Value).all (·.oneCell') = true := by kernel_rfl
theorem one_i64 (k : Int) : (#[Value.int .i64 k] : Array Value).all (·.oneCell') = true := by kernel_rfl
theorem one_root (t : Ht) : (#[t.root] : Array Value).all (·.oneCell') = true := by cases t <;> kernel_rfl
theorem root_cells (t : Ht) : t.root.cells = #[t.root] := by cases t <;> rfl
theorem info_b1 : (Try.prog.info? 4).map (·.size) = some 1 := by kernel_rfl
theorem info_i1 : (Try.prog.info? 3).map (·.size) = some 1 := by kernel_rfl
theorem info_p1 : (Try.prog.info? 87).map (·.size) = some 1 := by kernel_rfl
end Go.Proofs.Ytjnbemopfhinbaa
