/- What the laws of pdu have in common: a copy is made and written. Each theorem states its conditions. -/
import Derived.Test.YtigkmcbkckfhbaaDRc
import Derived.Test.YtigkmcbkckfhbaaDPOpen
namespace Go.Proofs.Ytigkmcbkckfhbaa
open Go.RowKit
set_option linter.unusedVariables false

theorem withT_ok {p : Pd} (hp : PdOk p) (A : Option Addr) (m c : Nat) : PdOk (withT p A m c) := hp
theorem wr_yes {p : Pd} {L : Nat → It} {m0 : Nat} (hm : JEnds L p.m m0) (h : wrX p L m0 = 0) : cls p.kd ≤ 4 ∧ fitP p (cls p.kd) = true ∧ hdN (cls p.kd) + sz L p.m ≤ 1492 ∧ m0 = p.m ∧ wrN p L m0 = hdN (cls p.kd) + sz L p.m ∧ wrZ p L m0 = pdZ p (cls p.kd) L := by
  have hc := cls_le p.kd
  by_cases h1 : cls p.kd = 5 ∨ fitP p (cls p.kd) = false
  · rw [(wr_1 p L m0 h1).1] at h; cases h
  · by_cases h2 : m0 < p.m ∨ 1492 < hdN (cls p.kd) + sz L p.m
    · rw [(wr_2 p L m0 h1 h2).1] at h; cases h
    · obtain ⟨_, e2, e3⟩ := wr_0 p L m0 h1 h2
      have h3 : fitP p (cls p.kd) = true := by
        cases hf : fitP p (cls p.kd)
        · exact absurd (.inr hf) h1
        · rfl
      exact ⟨by omega, h3, by omega, by have := hm.1; omega, e2, e3⟩
theorem wr_noN {p : Pd} {L : Nat → It} {m0 : Nat} (h : wrX p L m0 ≠ 0) : wrN p L m0 = 0 := by unfold wrN; rw [if_neg h]
/-- 'append(p, x...)' of bytes that came in, none perhaps -/
theorem app_o {ops : Array Oper} {rest : List Oper} {o : Oper} {a : Act} {w : World} {Q : Exit → Act → World → Prop} (hgd : o.guard = none) (s x : Operand)
    (ho : o.op = .call { callee := .builtin .append, args := #[s, x], argTypes := #[35, 35] })
    (w0 : World) (v : Value) (n : Nat) (xs : List Value) (hs : a.eval s = v) (hown : w.ownsRow w0.heap.size 5 1 v n xs) (hb : Below w0.heap.size w0 w)
    (A : Option Addr) (m c : Nat) (z : Nat → Int) (hx : a.eval x = .slice A m c) (hR : Rd w A m z) (hA : A = none → m = 0 ∧ c = 0)
    (hn : n + m ≤ 140737488355328)
    (h : ∀ v' w', w'.ownsRow w0.heap.size 5 1 v' (n + m) (xs ++ vals z m) → Below w0.heap.size w0 w' → w.heap.size ≤ w'.heap.size → (∀ k, k < w.heap.size → v.ownBlock ≠ some k → w'.heap[k]? = w.heap[k]? ∧ v'.ownBlock ≠ some k) → wpList Try.prog ops Q rest (a.put o.dst v') w') :
    wpList Try.prog ops Q (o :: rest) a w := by
  rcases A with _ | ad
  · obtain ⟨rfl, rfl⟩ := hA rfl
    obtain ⟨i0, hi, hz0, hz1, hz2⟩ := info_parts info_u8
    refine wpList_append_own_none hgd s x _ ho w0.heap.size 5 i0 1 Try.underlying35 hi v n xs hs hown hx ?_
    exact h v w (by simpa [vals] using hown) hb (Nat.le_refl _) (fun k _ hne => ⟨rfl, hne⟩)
  · exact app_s hgd s x ho w0 v n xs hs hown hb ad m c (vals z m) hx (vals_len _ _) (rd_newsB hR) (vals_one _ _) hn h
theorem cat_lo (z z' : Nat → Int) (n j : Nat) (h : j < n) : cat z n z' j = z j := by unfold cat; rw [if_pos h]
end Go.Proofs.Ytigkmcbkckfhbaa
