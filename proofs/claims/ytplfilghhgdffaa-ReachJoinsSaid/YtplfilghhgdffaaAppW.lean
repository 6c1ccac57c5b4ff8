/- Appends of a list behind a guard that lets them; what PutEdges and PutReach leave, told in one sentence. Each theorem states its conditions. -/
import Derived.Test.YtplfilghhgdffaaWReachCuts
import Derived.Test.YtplfilghhgdffaaWReachMore
import Derived.Test.YtplfilghhgdffaaWReachPrefixes
namespace Go.Proofs.Ytplfilghhgdffaa
open Go.RowKit
set_option linter.unusedVariables false

theorem app_E_w {ops : Array Oper} {rest : List Oper} {o : Oper} {a : Act} {w : World} {Q : Exit → Act → World → Prop} (hgw : Region.wanted o (yielded ops a.tmps) = true) (s x : Operand)
    (ho : o.op = .call { callee := .builtin .append, args := #[s, x], argTypes := #[22, 22] })
    (w0 : World) (v : Value) (n : Nat) (xs : List Value) (hs : a.eval s = v) (hown : w.ownsRow w0.heap.size 30 8 v n xs) (hb : Below w0.heap.size w0 w)
    (A : Option Addr) (m c : Nat) (C : Nat → Array Value) (hx : a.eval x = .slice A m c) (hR : RdR w A m 8 C) (hA : A = none → m = 0 ∧ c = 0) (hC : Recs 8 C) (hbd : (n + m) * 12 ≤ 140737488355328)
    (h : ∀ v' w', w'.ownsRow w0.heap.size 30 8 v' (n + m) (xs ++ cellsR C m) → Below w0.heap.size w0 w' → w.heap.size ≤ w'.heap.size → (∀ k, k < w.heap.size → v.ownBlock ≠ some k → w'.heap[k]? = w.heap[k]? ∧ v'.ownBlock ≠ some k) → wpList Try.prog ops Q rest (a.put o.dst v') w') :
    wpList Try.prog ops Q (o :: rest) a w := by
  obtain ⟨i0, hi, hz0, hz1, hz2⟩ := info_parts infoA_E
  refine wpList_step fun K hK => ?_
  rw [if_pos hgw]
  rcases A with _ | ad
  · obtain ⟨rfl, rfl⟩ := hA rfl
    have hrun := run_append_owned_none (P := Try.prog) (w := w) w0.heap.size 22 o.type 30 i0 8 Try.underlying22 hi v n xs hown
    unfold Oper.wp
    simp [execOp, ho, resolve, invoke, builtin, hs, hx, hrun, Result.andThen]
    exact hK _ _ (h v w (by simpa [cellsR] using hown) hb (Nat.le_refl _) (fun k _ hne => ⟨rfl, hne⟩))
  · obtain ⟨v', w', hrun, h2, h3, h4, h5⟩ := run_append_own_at (P := Try.prog) w w0.heap.size 22 o.type 30 i0 _ 8 12 Try.underlying22 hi hz0 hz1 hz2 rfl (by decide) v n xs hown ad m c (cellsR C m) (cellsR_len hC m) (recs_news hC (by decide) hR) (cellsR_one hC m) (by unfold maxLen; omega) hbd hb.size
    unfold Oper.wp execOp
    simp only [ho, resolve, invoke, builtin, Sem.run_bind, Sem.run_pure, Result.andThen_ok, List.map_toArray, List.map_cons, List.map_nil, hs, hx, hrun]
    refine hK _ _ (h v' w' h2 (hb.grown h3 hb.size (fun k e => (hown.lt k e).1)) h3.size (fun k hk hne => ⟨h3.block k hk (fun e => hne e.symm), fun e => ?_⟩))
    rcases h5 with h5 | h5
    · rw [h5] at e; exact hne e
    · rw [h5] at e; injection e with e; omega
theorem app_R_w {ops : Array Oper} {rest : List Oper} {o : Oper} {a : Act} {w : World} {Q : Exit → Act → World → Prop} (hgw : Region.wanted o (yielded ops a.tmps) = true) (s x : Operand)
    (ho : o.op = .call { callee := .builtin .append, args := #[s, x], argTypes := #[42, 42] })
    (w0 : World) (v : Value) (n : Nat) (xs : List Value) (hs : a.eval s = v) (hown : w.ownsRow w0.heap.size 47 20 v n xs) (hb : Below w0.heap.size w0 w)
    (A : Option Addr) (m c : Nat) (C : Nat → Array Value) (hx : a.eval x = .slice A m c) (hR : RdR w A m 20 C) (hA : A = none → m = 0 ∧ c = 0) (hC : Recs 20 C) (hbd : (n + m) * 40 ≤ 140737488355328)
    (h : ∀ v' w', w'.ownsRow w0.heap.size 47 20 v' (n + m) (xs ++ cellsR C m) → Below w0.heap.size w0 w' → w.heap.size ≤ w'.heap.size → (∀ k, k < w.heap.size → v.ownBlock ≠ some k → w'.heap[k]? = w.heap[k]? ∧ v'.ownBlock ≠ some k) → wpList Try.prog ops Q rest (a.put o.dst v') w') :
    wpList Try.prog ops Q (o :: rest) a w := by
  obtain ⟨i0, hi, hz0, hz1, hz2⟩ := info_parts infoA_R
  refine wpList_step fun K hK => ?_
  rw [if_pos hgw]
  rcases A with _ | ad
  · obtain ⟨rfl, rfl⟩ := hA rfl
    have hrun := run_append_owned_none (P := Try.prog) (w := w) w0.heap.size 42 o.type 47 i0 20 Try.underlying42 hi v n xs hown
    unfold Oper.wp
    simp [execOp, ho, resolve, invoke, builtin, hs, hx, hrun, Result.andThen]
    exact hK _ _ (h v w (by simpa [cellsR] using hown) hb (Nat.le_refl _) (fun k _ hne => ⟨rfl, hne⟩))
  · obtain ⟨v', w', hrun, h2, h3, h4, h5⟩ := run_append_own_at (P := Try.prog) w w0.heap.size 42 o.type 47 i0 _ 20 40 Try.underlying42 hi hz0 hz1 hz2 rfl (by decide) v n xs hown ad m c (cellsR C m) (cellsR_len hC m) (recs_news hC (by decide) hR) (cellsR_one hC m) (by unfold maxLen; omega) hbd hb.size
    unfold Oper.wp execOp
    simp only [ho, resolve, invoke, builtin, Sem.run_bind, Sem.run_pure, Result.andThen_ok, List.map_toArray, List.map_cons, List.map_nil, hs, hx, hrun]
    refine hK _ _ (h v' w' h2 (hb.grown h3 hb.size (fun k e => (hown.lt k e).1)) h3.size (fun k hk hne => ⟨h3.block k hk (fun e => hne e.symm), fun e => ?_⟩))
    rcases h5 with h5 | h5
    · rw [h5] at e; exact hne e
    · rw [h5] at e; injection e with e; omega
theorem cell_same {A B : World} {b o : Nat} (e : A.heap[b]? = B.heap[b]?) : A.cell? ⟨b, o, none⟩ = B.cell? ⟨b, o, none⟩ := by
  unfold World.cell?
  simp only [e]
theorem below_app {B : Nat} {w w3 w4 : World} (h3 : Below B w w3) (h4 : Below B w w4) (hs : w3.heap.size ≤ w4.heap.size) (hk : ∀ k, k < w3.heap.size → w4.heap[k]? = w3.heap[k]?) : Below w3.heap.size w3 w4 :=
  ⟨h4.os.trans h3.os.symm, h4.tape.trans h3.tape.symm, h4.output.trans h3.output.symm, hs, hk⟩
/-- behind an append to an empty slice just made -/
theorem below_made {B : Nat} {w w3 w4 : World} {o : Obj} {v' : Value} (h3 : Below B w w3) (h4 : Below B w w4) (hs : (w3.alloc o).heap.size ≤ w4.heap.size)
    (hk : ∀ k, k < (w3.alloc o).heap.size → (Value.slice (some ⟨w3.heap.size, 0, none⟩) 0 0).ownBlock ≠ some k → w4.heap[k]? = (w3.alloc o).heap[k]? ∧ v'.ownBlock ≠ some k) : Below w3.heap.size w3 w4 := by
  have hs' : w3.heap.size + 1 ≤ w4.heap.size := by simpa using hs
  refine below_app h3 h4 (by omega) fun k hlt => ?_
  have h := hk k (by simp; omega) (fun e => by simp [Value.ownBlock] at e; omega)
  exact h.1.trans (Below.heap_alloc w3 o k hlt)
/-- what PutEdges leaves, in one sentence -/
def PEx (w' : World) (L : Nat → Ed) (m : Nat) (x : Int) (v : Option Addr) (n c : Nat) : Prop :=
  x = 0 → m ≤ 23 ∧ n = 11 * m ∧ Rd w' v n (edZ L) ∧ (v = none → n = 0 ∧ c = 0) ∧ n ≤ c ∧ c ≤ maxLen ∧ ∀ k, k < m → (L k).me ≤ 16777215
theorem putEdges_ex (A : Option Addr) (m c : Nat) (L : Nat → Ed) (w : World) (h : RdR w A m 8 (edA L)) (hL : ∀ j, EdOk (L j)) (hc : m ≤ c) (hcm : c ≤ 9223372036854775807) :
    Calls Try.prog 10 #[.slice A m c] w fun e w' => ∃ v n c' x, e = .returned (.tuple #[.slice v n c', .int .i64 x]) ∧ Below w.heap.size w w' ∧ PEx w' L m x v n c' := by
  by_cases hl : 23 < m
  · refine (putEdges_long A m c w hl (by omega)).mono ?_
    rintro e w' ⟨rfl, rfl⟩
    exact ⟨none, 0, 0, 2, rfl, bself _, fun h => absurd h (by decide)⟩
  · obtain ⟨m0, hm⟩ := eends L m
    refine (putEdges_any A m c m0 L w h hL (by omega) hc hcm hm).mono ?_
    rintro e w' (⟨h0, v, rfl, ho, hb⟩ | ⟨h0, rfl, hb⟩)
    · subst h0
      obtain ⟨A', c', rfl, h1, h2, h3, h4⟩ := ho.shape
      exact ⟨A', _, c', 0, rfl, hb, fun _ => ⟨by omega, rfl, h4, h3, h1, h2, hm.2.1⟩⟩
    · exact ⟨none, 0, 0, 4, rfl, hb, fun h => absurd h (by decide)⟩
def REx (w' : World) (fam : Nat) (L : Nat → Rc) (m : Nat) (x : Int) (v : Option Addr) (n c : Nat) : Prop :=
  x = 0 → m ≤ 11 ∧ n = (flatR L m).length ∧ Rd w' v n (zL (flatR L m)) ∧ (v = none → n = 0 ∧ c = 0) ∧ n ≤ c ∧ c ≤ maxLen ∧ ∀ k, k < m → RG fam (L k)
theorem putReach_ex (famI : Int) (fam : Nat) (hfam : famI = (fam : Int)) (hf : fam = 4 ∨ fam = 6) (A : Option Addr) (m c : Nat) (L : Nat → Rc) (w : World) (h : RdR w A m 20 (rcA L)) (hL : ∀ j, RcOk (L j)) (hc : m ≤ c) (hcm : c ≤ 9223372036854775807) :
    Calls Try.prog 15 #[.int .u8 famI, .slice A m c] w fun e w' => ∃ v n c' x, e = .returned (.tuple #[.slice v n c', .int .i64 x]) ∧ Below w.heap.size w w' ∧ REx w' fam L m x v n c' := by
  subst hfam
  by_cases hl : 11 < m
  · refine (putReach_long (fam : Int) A m c w (by omega) hl (by omega)).mono ?_
    rintro e w' ⟨rfl, rfl⟩
    exact ⟨none, 0, 0, 2, rfl, bself _, fun h => absurd h (by decide)⟩
  · obtain ⟨m0, hm⟩ := rends fam L m
    refine (putReach_f fam hf A m c m0 L w h hL (by omega) hc hcm hm).mono ?_
    rintro e w' (⟨h0, v, rfl, ho, hb⟩ | ⟨h0, rfl, hb⟩)
    · subst h0
      have hrg := rg_of hm hL
      obtain ⟨A', c', rfl, h1, h2, h3, h4⟩ := (own_zL ho rfl (u8s_rg hrg)).shape
      exact ⟨A', _, c', 0, rfl, hb, fun _ => ⟨by omega, rfl, h4, h3, h1, h2, hrg⟩⟩
    · exact ⟨none, 0, 0, 3, rfl, hb, fun h => absurd h (by decide)⟩
theorem getReach_ex (famI : Int) (fam : Nat) (hfam : famI = (fam : Int)) (hf : fam = 4 ∨ fam = 6) (A : Option Addr) (n c m : Nat) (z : Nat → Int) (w : World) (h : Rd w A n z) (hm : LEnds (rNx fam z) (rOk fam z n) n m) (hn : n ≤ 255) (hc : n ≤ c) (hcm : c ≤ 9223372036854775807) :
    Calls Try.prog 18 #[.int .u8 famI, .slice A n c] w (GLPostR w (rC fam z) (rNx fam z) n m) := by
  subst hfam
  exact getReach_any fam hf A n c m z w h hm hn hc hcm
/-- one list behind another -/
def catL {α : Type} (L : Nat → α) (m : Nat) (L' : Nat → α) : Nat → α := fun j => if j < m then L j else L' (j - m)
theorem catL_lo {α : Type} (L L' : Nat → α) (m j : Nat) (h : j < m) : catL L m L' j = L j := by unfold catL; rw [if_pos h]
theorem catL_hi {α : Type} (L L' : Nat → α) (m j : Nat) : catL L m L' (m + j) = L' j := by unfold catL; rw [if_neg (by omega), Nat.add_sub_cancel_left]
theorem edA_cat (L L' : Nat → Ed) (m : Nat) : catR (edA L) m (edA L') = edA (catL L m L') := by
  funext j; unfold catR edA catL; split <;> rfl
theorem rcA_cat (L L' : Nat → Rc) (m : Nat) : catR (rcA L) m (rcA L') = rcA (catL L m L') := by
  funext j; unfold catR rcA catL; split <;> rfl
theorem edZ_cat (L L' : Nat → Ed) (m m' : Nat) : vals (edZ L) (11 * m) ++ vals (edZ L') (11 * m') = vals (edZ (catL L m L')) (11 * (m + m')) := by
  rw [show 11 * (m + m') = 11 * m + 11 * m' by omega, vals_add]
  congr 1
  · refine vals_congr fun j hj => edZ_congr L (catL L m L') m (fun i hi => (catL_lo L L' m i hi).symm) j hj
  · refine vals_congr fun j hj => ?_
    rw [show j = 11 * (j / 11) + j % 11 by omega, edZ_at L' (j / 11) (j % 11) (by omega), show 11 * m + (11 * (j / 11) + j % 11) = 11 * (m + j / 11) + j % 11 by omega, edZ_at (catL L m L') (m + j / 11) (j % 11) (by omega), catL_hi]
theorem flatR_congr (L L' : Nat → Rc) (m : Nat) (h : ∀ j, j < m → L j = L' j) : flatR L m = flatR L' m := by
  induction m with
  | zero => rfl
  | succ m ih => simp only [flatR]; rw [ih fun j hj => h j (by omega), h m (by omega)]
theorem flatR_cat (L L' : Nat → Rc) (m m' : Nat) : flatR L m ++ flatR L' m' = flatR (catL L m L') (m + m') := by
  induction m' with
  | zero => simp only [flatR, List.append_nil, Nat.add_zero]; exact flatR_congr _ _ m fun j hj => (catL_lo L L' m j hj).symm
  | succ m' ih =>
    show flatR L m ++ (flatR L' m' ++ recV (L' m')) = flatR (catL L m L') (m + m') ++ recV (catL L m L' (m + m'))
    rw [catL_hi, ← ih, List.append_assoc]
theorem catL_all {α : Type} {p : α → Prop} (L L' : Nat → α) (m m' : Nat) (h : ∀ k, k < m → p (L k)) (h' : ∀ k, k < m' → p (L' k)) : ∀ k, k < m + m' → p (catL L m L' k) := by
  intro k hk
  unfold catL
  split
  · exact h k (by assumption)
  · exact h' _ (by omega)
theorem catL_every {α : Type} {p : α → Prop} (L L' : Nat → α) (m : Nat) (h : ∀ k, p (L k)) (h' : ∀ k, p (L' k)) : ∀ k, p (catL L m L' k) := by
  intro k
  unfold catL
  split
  · exact h k
  · exact h' _
end Go.Proofs.Ytplfilghhgdffaa
