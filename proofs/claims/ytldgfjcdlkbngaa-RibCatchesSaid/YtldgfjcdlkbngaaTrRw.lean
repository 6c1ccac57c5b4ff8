/- Rows of prefixes beside a trie; small operations of the laws. Each theorem states its conditions. -/
import Derived.Test.YtldgfjcdlkbngaaTrV
namespace Go.Proofs.Ytldgfjcdlkbngaa
open Go.RowKit
set_option linter.unusedVariables false
set_option linter.unusedSimpArgs false

theorem s_ne {w : World} {g : Nat} {C : Array Value} {B s : Nat} {T : Ts} (hT : TsAt w B s T) (h : Blk 32 w g C) : g ∉ s :: T.fp := fun hm => by
  rcases List.mem_cons.1 hm with h1 | h1
  · subst h1
    have h2 : w.heap[g]? = _ := h
    have h3 : w.heap[g]? = _ := hT.blk
    rw [h2] at h3
    injection h3 with h3
    injection h3 with _ h3 _
    exact absurd h3 (by decide)
  · exact ts_not h (by decide) hT h1
theorem pv_kp {w w' : World} {g : Nat} {C : Array Value} {B s : Nat} {T : Ts} (h : Blk 32 w g C) (hT : TsAt w B s T) (k : Kp (s :: T.fp) w w') : Blk 32 w' g C := h.kp k (s_ne hT h)
/-- a row of prefixes of the call's own -/
def RowF (w : World) (A : Option Addr) (n : Nat) (P : Nat → Pf) : Prop := RdR w A n 18 (fun j => pfC (P j)) ∧ ∀ b o, A = some ⟨b, o, none⟩ → ∃ cur, Blk 32 w b cur
theorem RowF.keep {w w' : World} {A : Option Addr} {n : Nat} {P : Nat → Pf} (h : RowF w A n P) (hk : ∀ b cur, Blk 32 w b cur → w'.heap[b]? = w.heap[b]?) : RowF w' A n P := by
  refine ⟨?_, fun b o e => ?_⟩
  · rcases h.1 with h0 | ⟨b, o, e, h1, h2⟩
    · exact .inl h0
    · obtain ⟨cur, hc⟩ := h.2 b o e
      have hc' : Blk 32 w' b cur := (hk b cur hc).trans hc
      refine .inr ⟨b, o, e, hc'.lt, fun j hj i u hu => ?_⟩
      have h3 := h2 j hj i u hu
      rw [hc.cell] at h3
      rw [hc'.cell]
      exact h3
  · obtain ⟨cur, hc⟩ := h.2 b o e
    exact ⟨cur, (hk b cur hc).trans hc⟩
theorem RowF.below {w w' : World} {A : Option Addr} {n : Nat} {P : Nat → Pf} (h : RowF w A n P) (hb : Below w.heap.size w w') : RowF w' A n P := h.keep fun b cur hc => hb.block b hc.lt
theorem RowF.kp {w w' : World} {A : Option Addr} {n : Nat} {P : Nat → Pf} {B s : Nat} {T : Ts} (h : RowF w A n P) (hT : TsAt w B s T) (k : Kp (s :: T.fp) w w') : RowF w' A n P := h.keep fun b cur hc => k.block b hc.lt (s_ne hT hc)
theorem row_of {w : World} {B n : Nat} {v : Value} {S : List Pf} (h : OwnR w B 32 18 v n (pfB S)) : ∃ A c, v = .slice A n c ∧ Hid (RowF w A n (fun j => S.getD j pf0)) := by
  obtain ⟨A, c, rfl, _, _, hA, hr⟩ := h.shape (pfB_recs S) (by decide)
  refine ⟨A, c, rfl, Lib.hid ⟨hr, fun b o e => ?_⟩⟩
  rcases h with ⟨_, h2 | ⟨g, cap, cur, e1, e2, e3, rest⟩⟩
  · have h3 : A = none := by
      have := h2.1
      simp at this
      exact this.1
    rw [h3] at e
    cases e
  · have h4 : A = some ⟨g, 0, none⟩ := by
      injection e1
    rw [h4] at e
    cases e
    exact ⟨cur, e3⟩
theorem all_b {w : World} {B s : Nat} {T : Ts} (hT : TsAt w B s T) (j : Nat) : Bytes (T.all.getD j pf0).z := by
  by_cases h : j < T.all.length
  · have hm : T.all.getD j pf0 ∈ T.all := by
      rw [List.getD_eq_getElem?_getD, List.getElem?_eq_getElem h, Option.getD_some]
      exact List.getElem_mem h
    rcases List.mem_append.1 hm with h1 | h1
    · exact (hl_ok hT.a4 _ h1).2.1
    · exact (hl_ok hT.a6 _ h1).2.1
  · rw [List.getD_eq_getElem?_getD, List.getElem?_eq_none (by omega), Option.getD_none]
    intro j
    show (0 : Int) ≤ 0 ∧ (0 : Int) ≤ 255
    omega
theorem neqN_run (o : Oper) (e : Operand → Value) (x y : Operand) (ho : o.op = .binOp .neq 3 x y 3) (m : Nat) (h0 : e x = .int .i64 (m : Int)) (h1 : e y = .int .i64 (m : Int)) (W : World) : (execOp e o).run Try.prog W = .ok (.value (.bool false)) W := by
  unfold execOp
  simp only [ho, h0, h1]
  simp [go_sem]
theorem eqI_run (o : Oper) (e : Operand → Value) (x y : Operand) (t : TypeId) (ho : o.op = .binOp .eql t x y t) (m : Int) (h0 : e x = .int .i64 m) (h1 : e y = .int .i64 m) (W : World) : (execOp e o).run Try.prog W = .ok (.value (.bool true)) W := by
  unfold execOp
  simp only [ho, h0, h1]
  simp [go_sem]
theorem eqB_run (o : Oper) (e : Operand → Value) (x y : Operand) (ho : o.op = .binOp .eql 4 x y 4) (b : Bool) (h0 : e x = .bool b) (h1 : e y = .bool b) (W : World) : (execOp e o).run Try.prog W = .ok (.value (.bool true)) W := by
  unfold execOp
  simp only [ho, h0, h1]
  simp [go_sem]
/-- prefixes that are unlike stand under other keys -/
theorem ky_ne {y x : Pf} (hy : Bytes y.z) (hx : Bytes x.z) (h : ¬ (y.fam = x.fam ∧ y.len = x.len ∧ Same16 y.z x.z)) (k : Bool × List Bool) (hk : kyP x.fam x.len x.z = some k) : ¬ kyP y.fam y.len y.z = some k := fun e => by
  by_cases fx : Form x.fam x.len x.z
  · by_cases fy : Form y.fam y.len y.z
    · obtain ⟨n, hn, _⟩ := form_nat fx
      obtain ⟨m, hm, _⟩ := form_nat fy
      rw [hn] at fx hk
      rw [hm] at fy e
      obtain ⟨px, fpx, kx⟩ := ky_yes fx
      obtain ⟨py, fpy, ky⟩ := ky_yes fy
      rw [kx] at hk
      rw [ky] at e
      have h1 := Option.some.inj (hk.trans e.symm)
      obtain ⟨h2, h3⟩ := Prod.mk.inj h1
      obtain ⟨a1, a2⟩ := (btP_eq hx hy fx fy).1 h3
      exact h ⟨by rw [fpx, fpy, h2], by rw [hn, hm, a1], fun j hj => (a2 j hj).symm⟩
    · rw [ky_no fy] at e; cases e
  · rw [ky_no fx] at hk; cases hk
end Go.Proofs.Ytldgfjcdlkbngaa
