/- An append of one entry as a step of a drawn region; an entry is built. Each theorem states its conditions. -/
import Derived.Test.YtigkmcbkckfhbaaSameN
import Derived.Test.YtigkmcbkckfhbaaDGetID
namespace Go.Proofs.Ytigkmcbkckfhbaa
open Go.RowKit
set_option linter.unusedVariables false

theorem build_en (o : Oper) (e : Operand → Value) (x0 x1 x2 x3 : Operand) (ho : o.op = .build 96 #[(2, x2), (0, x0), (1, x1), (3, x3)]) (E : En) (h0 : e x0 = .agg (idC E.s)) (h1 : e x1 = .int .u32 (E.sq : Int)) (h2 : e x2 = .int .i64 E.li) (h3 : e x3 = .int .u16 (E.su : Int)) (W : World) :
    (execOp e o).run Try.prog W = .ok (.value (.agg (enC E))) W := by
  unfold execOp
  simp only [ho]
  simp only [List.map_toArray, List.map_cons, List.map_nil, h0, h1, h2, h3]
  kernel_rfl
theorem takeAN {ops : Array Oper} {Q : Exit → Act → World → Prop} {md : Region.Mode} {S : World → Prop} {i : Nat} {oi : Oper} (d : Option Tmp) {fuel : Nat} {listed : Array Bool} {a : Act} {w : World} (s x : Operand) (hi' : ops[i]? = some oi) (hd : oi.dst = d)
    (hr : Region.ready md ops listed = [i]) (hw : Region.wanted oi (yielded ops a.tmps) = true)
    (ho : oi.op = .call { callee := .builtin .append, args := #[s, x], argTypes := #[55, 55] })
    (w0 : World) (v : Value) (n : Nat) (xs : List Value) (hs : a.eval s = v) (hown : w.ownsRow w0.heap.size 96 11 v n xs) (hb : Below w0.heap.size w0 w)
    (ad : Addr) (c : Nat) (C : Array Value) (hx : a.eval x = .slice (some ad) 1 c) (hR : RdR w (some ad) 1 11 (fun _ => C)) (hC : Recs 11 (fun _ => C)) (hbd : (n + 1) * 32 ≤ 140737488355328)
    (h : ∀ v' w', w'.ownsRow w0.heap.size 96 11 v' (n + 1) (xs ++ C.toList) → Below w0.heap.size w0 w' → w.heap.size ≤ w'.heap.size → S w' ∧ wpAnyH Try.prog md ops Q S fuel (listed.setIfInBounds i true) (a.put d v') w') :
    wpAnyH Try.prog md ops Q S (fuel + 1) listed a w := by
  obtain ⟨i0, hi, hz0, hz1, hz2⟩ := info_parts infoA_N
  have hc1 : cellsR (fun _ => C) 1 = C.toList := by simp [cellsR]
  obtain ⟨v', w', hr', h2, h3, h4, h5⟩ := run_append_own_at (P := Try.prog) w w0.heap.size 55 oi.type 96 i0 _ 11 32 Try.underlying55 hi hz0 hz1 hz2 rfl (by decide) v n xs hown ad 1 c (cellsR (fun _ => C) 1) (cellsR_len hC 1) (recs_news hC (by decide) hR) (cellsR_one hC 1) (by unfold maxLen; omega) hbd hb.size
  rw [hc1] at h2
  obtain ⟨h7, h8⟩ := h v' w' h2 (hb.grown h3 hb.size (fun k e => (hown.lt k e).1)) h3.size
  refine takeV d hi' hd hr hw ?_ h7 h8
  unfold execOp
  simp only [ho, resolve, invoke, builtin, Sem.run_bind, Sem.run_pure, Result.andThen_ok, List.map_toArray, List.map_cons, List.map_nil, hs, hx, hr']
end Go.Proofs.Ytigkmcbkckfhbaa
