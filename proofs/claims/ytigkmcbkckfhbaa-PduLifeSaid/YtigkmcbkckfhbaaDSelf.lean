/- A value is equal to itself: entries. Each theorem states its conditions. -/
import Derived.Test.YtigkmcbkckfhbaaDPutI
import Derived.Stop.BytesEq
namespace Go.Proofs.Ytigkmcbkckfhbaa
open Go.RowKit
open Go.Extern.Stop (cell)
set_option linter.unusedVariables false

/-- v is equal to itself -/
def SelfEq (d : Nat) (t : TypeId) (v : Value) : Prop := ∀ w, (Op.equalIn d t v v).run Try.prog w = .ok true w
theorem eqFields_self (d : Nat) (xs : Array Value) : ∀ fs : List Field, (∀ f ∈ fs, ∃ u, (∀ w, (part f.type xs f.offset).run Try.prog w = .ok u w) ∧ SelfEq d f.type u) → ∀ w, (Op.eqFields d xs xs fs).run Try.prog w = .ok true w := by
  intro fs
  induction fs with
  | nil => intro _ w; rfl
  | cons f fs ih =>
    intro h w
    obtain ⟨u, h1, h2⟩ := h f (List.mem_cons_self ..)
    have h3 := ih (fun g hg => h g (List.mem_cons_of_mem _ hg))
    unfold Op.eqFields
    by_cases hn : f.name ≠ "_"
    · rw [if_pos hn]
      simp only [Sem.run_bind, h1, Result.andThen_ok, h2 w]
      simpa using h3 w
    · rw [if_neg hn]
      exact h3 w
theorem self_struct (d : Nat) (t : TypeId) (xs : Array Value) (l : List (TypeId × Nat)) (ht : Try.prog.underlying t = some (.struct (Try.prog.fieldsOf t))) (hp : Try.prog.stoodInHeld t = false) (hl : (Try.prog.fieldsOf t).toList.map (fun f => (f.type, f.offset)) = l)
    (h : ∀ p ∈ l, ∃ u, (∀ w, (part p.1 xs p.2).run Try.prog w = .ok u w) ∧ SelfEq d p.1 u) : SelfEq (d + 1) t (.agg xs) := by
  intro w
  rw [run_equalIn_struct w d t xs xs ht hp]
  refine eqFields_self d xs _ (fun f hf => ?_) w
  exact h (f.type, f.offset) (by rw [← hl]; exact List.mem_map.2 ⟨f, hf, rfl⟩)
theorem self_int (d : Nat) (t : TypeId) (k : IntKind) (n : Int) (h : Try.prog.underlying t = some (.int k)) : SelfEq (d + 1) t (.int k n) := fun w => by rw [run_equalIn_int w d t k k n n h]; simp
theorem self_bool (d : Nat) (t : TypeId) (b : Bool) (h : Try.prog.underlying t = some .bool) : SelfEq (d + 1) t (.bool b) := fun w => by rw [run_equalIn_bool w d t b b h]; simp
theorem size_u8 : ∀ w, (sizeOf 5).run Try.prog w = .ok 1 w := by
  obtain ⟨i, hi, _, hz1, _⟩ := info_parts info_u8
  intro w
  simp [sizeOf, typeInfo, hi, hz1]
theorem vals_cells (z : Nat → Int) (n : Nat) (hz : ∀ j, 0 ≤ z j ∧ z j ≤ 255) : vals z n = (((List.range n).map fun j => UInt8.ofNat (z j).toNat).map cell) := by
  unfold vals
  rw [List.map_map]
  apply List.map_congr_left
  intro j _
  have := hz j
  simp [cell]
  omega
theorem self_bytes (d n : Nat) (t : TypeId) (z : Nat → Int) (hz : ∀ j, 0 ≤ z j ∧ z j ≤ 255) (h : Try.prog.underlying t = some (.array n 5)) : SelfEq (d + 2) t (.agg (vals z n).toArray) := by
  intro w
  rw [vals_cells z n hz]
  rw [run_equalIn_bytes w d t 5 n h Try.underlying5 size_u8 _ _ (by simp) (by simp)]
  simp

theorem self_node (d : Nat) (s : Nat → Int) (hs : ∀ j, 0 ≤ s j ∧ s j ≤ 255) : SelfEq (d + 3) 25 (.agg (vals s 7).toArray) := by
  refine self_struct (d + 2) _ _ [(23, 0), (5, 6)] (by kernel_rfl) (by kernel_rfl) (by kernel_rfl) (fun p hp => ?_)
  simp only [List.mem_cons, List.not_mem_nil, or_false] at hp
  rcases hp with rfl | rfl
  · exact ⟨.agg (vals s 6).toArray, fun w => by kernel_rfl, self_bytes d 6 _ s hs Try.underlying23⟩
  · exact ⟨.int .u8 (s 6), fun w => by kernel_rfl, self_int (d + 1) _ .u8 _ Try.underlying5⟩
theorem self_id (d : Nat) (s : Nat → Int) (hs : ∀ j, 0 ≤ s j ∧ s j ≤ 255) : SelfEq (d + 4) 27 (.agg (idC s)) := by
  refine self_struct (d + 3) _ _ [(25, 0), (5, 7)] (by kernel_rfl) (by kernel_rfl) (by kernel_rfl) (fun p hp => ?_)
  simp only [List.mem_cons, List.not_mem_nil, or_false] at hp
  rcases hp with rfl | rfl
  · exact ⟨.agg (vals s 7).toArray, fun w => by kernel_rfl, self_node d s hs⟩
  · exact ⟨.int .u8 (s 7), fun w => by kernel_rfl, self_int (d + 2) _ .u8 _ Try.underlying5⟩
theorem self_en (d : Nat) (e : En) (h : EnOk e) : SelfEq (d + 5) 96 (.agg (enC e)) := by
  refine self_struct (d + 4) _ _ [(27, 0), (28, 8), (3, 9), (65, 10)] (by kernel_rfl) (by kernel_rfl) (by kernel_rfl) (fun p hp => ?_)
  simp only [List.mem_cons, List.not_mem_nil, or_false] at hp
  rcases hp with rfl | rfl | rfl | rfl
  · exact ⟨.agg (idC e.s), fun w => by kernel_rfl, self_id d e.s h.1⟩
  · exact ⟨.int .u32 (e.sq : Int), fun w => by kernel_rfl, self_int (d + 3) _ .u32 _ Try.underlying28⟩
  · exact ⟨.int .i64 e.li, fun w => by kernel_rfl, self_int (d + 3) _ .i64 _ Try.underlying3⟩
  · exact ⟨.int .u16 (e.su : Int), fun w => by kernel_rfl, self_int (d + 3) _ .u16 _ Try.underlying65⟩
/-- != of a value with itself, as an operation -/
theorem neq_self (o : Oper) (e : Operand → Value) (x y : Operand) (t t' : TypeId) (ho : o.op = .binOp .neq t x y t') (htt : t = t') (hg : Try.prog.eqGuardType Try.prog.depth t = false) (xs : Array Value) (hs : SelfEq 10000 t (.agg xs)) (h0 : e x = .agg xs) (h1 : e y = .agg xs) (W : World) :
    (execOp e o).run Try.prog W = .ok (.value (.bool false)) W := by
  subst htt
  unfold execOp
  simp only [ho, h0, h1]
  simp [Sem.run_bind, run_eqGuard_agg _ _ _ _ _ _ _ hg, run_neq_struct, hs W]
end Go.Proofs.Ytigkmcbkckfhbaa
