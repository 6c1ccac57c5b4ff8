/- The walk of FloodMeshes: for every input the law returns true, and nothing that was there is written. No condition. -/
import Derived.Test.YteamnibgeobcbaaJLw
import Derived.Deep.DeepCutAuto
namespace Go.Proofs.Yteamnibgeobcbaa
open Go.RowKit
set_option linter.unusedVariables false

/-- x is among the first q -/
def hasT (T : List IdT) (x q : Nat) : Bool := (T.take q).any fun y => y.1 == x
theorem hasT_succ (T : List IdT) (x q : Nat) (h : q < T.length) : hasT T x (q + 1) = (hasT T x q || (T[q].1 == x)) := by
  unfold hasT
  rw [List.take_add_one, List.getElem?_eq_getElem h]
  simp only [List.any_append, Option.toList, List.any_cons, List.any_nil, Bool.or_false]
theorem hasT_all (T : List IdT) (x : Nat) (hx : IdOk x) (h : (⟨x, hx⟩ : IdT) ∈ T) : hasT T x T.length = true := by
  unfold hasT
  rw [List.take_length]
  exact List.any_eq_true.2 ⟨_, h, by simp⟩
theorem eql_idq (o : Oper) (e : Operand → Value) (x y : Operand) (t' : TypeId) (ho : o.op = .binOp .eql 28 x y t') (htt : 28 = t') (a b : Nat) (ha : IdOk a) (hb : IdOk b) (h0 : e x = .agg (idC a)) (h1 : e y = .agg (idC b)) (q : Bool) (hq : (a == b) = q) (W : World) :
    (execOp e o).run Try.prog W = .ok (.value (.bool q)) W := by
  subst hq
  exact eql_id o e x y t' ho htt a b ha hb h0 h1 W
theorem FlAt.far_ar {w w' : World} {B g ga n k N : Nat} {F : Nat → Option Cir} {C C' : Array Value} {t : TypeId} (h : FlAt w B g ga n F k) (hN : Blk 46 w N C) (hs : Stored w w' N C' t) : FlAt w' B g ga n F k := by
  have hne : ∀ {u : TypeId} {b : Nat} {D : Array Value}, Blk u w b D → (u == 46) = false → b ≠ N := fun hb hu e => by
    subst e
    have h9 := (show w.heap[_]? = _ from hb).symm.trans (show w.heap[_]? = _ from hN)
    simp only [Option.some.injEq, Obj.cells.injEq] at h9
    rw [h9.2.1] at hu
    simp at hu
  have hnm : ∀ {b : Nat} {S : Nat → Bool}, SetAt w b S k → b ≠ N := fun hb e => by
    subst e
    obtain ⟨es, cl, h0, _⟩ := hb
    rw [show w.heap[_]? = _ from hN] at h0
    cases h0
  refine ⟨h.hg, h.ha, h.hn, h.g.far hs (hne h.g (by decide)), h.a.far hs (hne h.a (by decide)), fun i c hi e => ?_, h.far⟩
  have hc := h.cir i c hi e
  exact ⟨hc.hc, hc.hs, hc.hm, hc.ne, hc.blk.far hs (hne hc.blk (by decide)), hc.send.at (hs.2.2 _ (hnm hc.send)), hc.sum.at (hs.2.2 _ (hnm hc.sum))⟩
/-- the meshes that came -/
def RwI (w : World) (A : Option Addr) (len : Nat) (z : Nat → Int) : Prop := (∀ j, j < len → ∃ b off, A = some ⟨b, off, none⟩ ∧ b < w.heap.size ∧ w.cell? ⟨b, off + j, none⟩ = some (.int .i8 (z j))) ∧ (∀ j, -128 ≤ z j ∧ z j ≤ 127) ∧ len ≤ maxLen
theorem isRow_i8 {w : World} {a : Option Addr} {len cap : Nat} {zs : List Int} (h : IsRow .i8 w a len cap zs) : RwI w a len (fun j => zs.getD j 0) := by
  have hle := isRow_len h
  refine ⟨fun j hj => ?_, fun j => ?_, by omega⟩
  · rcases h with ⟨_, hl, _⟩ | ⟨x, rfl, hlc, hm, hz, hc, hwf⟩
    · omega
    · obtain ⟨b, off, spot⟩ := x
      have hs : spot = none := by simpa [Addr.add] using World.cell?_spot (hc 0 (by omega))
      subst hs
      have hc0 := hc j (by omega)
      have hadd : (⟨b, off, none⟩ : Addr).add j = ⟨b, off + j, none⟩ := by unfold Addr.add; split <;> simp_all
      rw [hadd] at hc0
      exact ⟨b, off, rfl, cell_lt hc0, hc0⟩
  · rcases h with ⟨_, _, _, rfl⟩ | ⟨x, rfl, hlc, hm, hz, hc, hwf⟩
    · simp
    · rcases Nat.lt_or_ge j zs.length with hj | hj
      · have := hwf zs[j] (by simp)
        simp [Lit.wf, IntKind.min, IntKind.max, IntKind.bits, IntKind.signed] at this
        simp only [List.getD, List.getElem?_eq_getElem hj, Option.getD_some]
        omega
      · simp [List.getD, List.getElem?_eq_none hj]
/-- the mesh of each circuit -/
def mz (z : Nat → Int) (len : Nat) (j : Nat) : Int := if j < len then (if -1 ≤ z j then z j else -1) else 0
theorem mz_ge (z : Nat → Int) (len j : Nat) : -1 ≤ mz z len j := by unfold mz; split <;> (try split) <;> omega
def arM (M : Nat → Int) (q : Nat) : Array Value := #[.int .i64 (if 0 < q then M 0 else 0), .int .i64 (if 1 < q then M 1 else 0), .int .i64 (if 2 < q then M 2 else 0), .int .i64 (if 3 < q then M 3 else 0), .int .i64 (if 4 < q then M 4 else 0), .int .i64 (if 5 < q then M 5 else 0), .int .i64 (if 6 < q then M 6 else 0), .int .i64 (if 7 < q then M 7 else 0)]
theorem arM_at (M : Nat → Int) (q : Nat) {d : Nat} (h : d < 8) (hq : d < q) : (arM M q)[d]? = some (.int .i64 (M d)) := by
  rcases (by omega : d = 0 ∨ d = 1 ∨ d = 2 ∨ d = 3 ∨ d = 4 ∨ d = 5 ∨ d = 6 ∨ d = 7) with rfl | rfl | rfl | rfl | rfl | rfl | rfl | rfl <;> (simp [arM]; omega)
theorem arM_put (M : Nat → Int) {d : Nat} (h : d < 8) : putMany (arM M d) d [.int .i64 (M d)] = arM M (d + 1) := by
  rcases (by omega : d = 0 ∨ d = 1 ∨ d = 2 ∨ d = 3 ∨ d = 4 ∨ d = 5 ∨ d = 6 ∨ d = 7) with rfl | rfl | rfl | rfl | rfl | rfl | rfl | rfl <;> rfl
theorem arM_same (M : Nat → Int) {d : Nat} (h : d < 8) (h0 : M d = 0) : arM M (d + 1) = arM M d := by
  rcases (by omega : d = 0 ∨ d = 1 ∨ d = 2 ∨ d = 3 ∨ d = 4 ∨ d = 5 ∨ d = 6 ∨ d = 7) with rfl | rfl | rfl | rfl | rfl | rfl | rfl | rfl <;> simp [arM, h0]
theorem zero_ar (M : Nat → Int) : (Try.prog.info? 46).map (·.zero) = some (some (.agg (arM M 0))) := by kernel_rfl
theorem info_int : (Try.prog.info? 3).map (·.size) = some 1 := by kernel_rfl
theorem one_int (b : Int) : (#[Value.int .i64 b]).all (·.oneCell') = true := by kernel_rfl
/-- the first j circuits are open, each in its mesh, with nothing to send -/
def OpM (F : Nat → Option Cir) (M : Nat → Int) (j n : Nat) : Prop := (∀ i, i < j → ∃ c, F i = some c ∧ c.mesh = M i ∧ ∀ y, c.send y = false) ∧ ∀ i, j ≤ i → i < n → F i = none
theorem OpM.start (M : Nat → Int) (n : Nat) : OpM (fun _ => none) M 0 n := ⟨fun i hi => by omega, fun i _ _ => rfl⟩
theorem OpM.step {F : Nat → Option Cir} {M : Nat → Int} {j n : Nat} (h : OpM F M j n) (hj : j < n) {c : Cir} (hm : c.mesh = M j) (hs : ∀ y, c.send y = false) : OpM (updF F j (some c)) M (j + 1) n := by
  refine ⟨fun i hi => ?_, fun i h1 h2 => by rw [updF_other F _ (by omega)]; exact h.2 i (by omega) h2⟩
  by_cases e : i = j
  · subst e; exact ⟨c, updF_same _ _ _, hm, hs⟩
  · rw [updF_other F _ e]; exact h.1 i (by omega)
theorem openedM (m : Int) (a b c : Nat) : ∀ y, (cirN m a b c (memL (fun _ => 0) 0)).send y = false := fun y => by simp [cirN, memL]
/-- the other fragment -/
def own1 (x : Nat) : Nat := if x % 2 = 0 then x + 1 else x - 1
theorem own1_ok {x : Nat} (h : IdOk x) : IdOk (own1 x) := by unfold own1 IdOk at *; split <;> omega
theorem own1_ne (x : Nat) : own1 x ≠ x := by unfold own1; split <;> omega
theorem own1_dg (x : Nat) (i : Nat) (hi : i < 7) : dg (own1 x) i = dg x i := by
  unfold own1 dg
  rcases (by omega : i = 0 ∨ i = 1 ∨ i = 2 ∨ i = 3 ∨ i = 4 ∨ i = 5 ∨ i = 6) with rfl | rfl | rfl | rfl | rfl | rfl | rfl <;> (simp only [pw]; split <;> omega)
theorem own1_7 (x : Nat) : dg (own1 x) 7 = if dg x 7 % 2 = 0 then dg x 7 + 1 else dg x 7 - 1 := by
  unfold own1 dg
  simp only [pw]
  split <;> split <;> omega
theorem own1_put (x : Nat) : putMany (idC x) 7 [.int .u8 (dg (own1 x) 7)] = idC (own1 x) := by
  have e : idC (own1 x) = #[.int .u8 (dg x 0), .int .u8 (dg x 1), .int .u8 (dg x 2), .int .u8 (dg x 3), .int .u8 (dg x 4), .int .u8 (dg x 5), .int .u8 (dg x 6), .int .u8 (dg (own1 x) 7)] := by
    unfold idC
    rw [own1_dg x 0 (by omega), own1_dg x 1 (by omega), own1_dg x 2 (by omega), own1_dg x 3 (by omega), own1_dg x 4 (by omega), own1_dg x 5 (by omega), own1_dg x 6 (by omega)]
  rw [e]
  rfl
/-- what each circuit has to send: x came over c, y is the router's own -/
def SndM (F : Nat → Option Cir) (M : Nat → Int) (c x y n : Nat) : Prop := ∀ d, d < n → ∃ q, F d = some q ∧ (q.send y = true ↔ M d ≠ -1) ∧ (q.send x = true ↔ d ≠ c ∧ M d ≠ -1 ∧ ¬ (0 < M d ∧ M d = M c))
theorem snd_new {F : Nat → Option Cir} {M : Nat → Int} {n c x y : Nat} (h : OpM F M n n) (hc : c < n) (hxy : y ≠ x) (d : Cir) (hd : F c = some d) : SndM (sprJ (updF (sprJ F x (some c) (some d.mesh) n) c (some (cAdM (cDrS d x) x))) y none none n) M c x y n := fun i hi => by
  obtain ⟨q, h1, h2, h3⟩ := h.1 i hi
  obtain ⟨q', g1, g2, _⟩ := h.1 c hc
  obtain rfl : d = q' := by rw [hd] at g1; exact Option.some.inj g1
  by_cases e : i = c
  · subst e
    obtain rfl : q = d := by rw [hd] at h1; exact (Option.some.inj h1).symm
    refine ⟨_, by unfold sprJ; rw [if_pos hi, updF_same]; rfl, ?_⟩
    unfold spread1
    rw [if_neg (by simp)]
    have hm : (cAdM (cDrS q x) x).mesh = M i := h2
    rw [hm]
    by_cases hb : M i = -1
    · simp [sparesB, hb, cDrS, cDrM, cAdM, h3]
    · have : (M i == -1) = false := by simp [hb]
      simp [sparesB, this, hb, cDrS, cDrM, cAdM, cAdS, h3]
      omega
  · refine ⟨_, by unfold sprJ; rw [if_pos hi, updF_other _ _ e]; rw [if_pos hi, h1]; rfl, ?_⟩
    have hne : (some c : Option Nat) ≠ some i := fun e2 => e (Option.some.inj e2).symm
    have hsp : ∀ (u : Nat) (fr : Option Nat) (fm : Option Int) (k : Nat) (z : Cir), (spread1 u fr fm k z).mesh = z.mesh := fun u fr fm k z => by unfold spread1; split <;> (try split) <;> rfl
    unfold spread1
    rw [if_neg (by simp), if_neg hne]
    have hm1 : ∀ b : Bool, (if b = true then cDrS (cDrM q x) x else cAdS (cDrM q x) x).mesh = M i := fun b => by cases b <;> exact h2
    rw [hm1, h2, g2]
    by_cases hb : M i = -1
    · simp [sparesB, hb, cDrS, cDrM, cAdM, h3]
    · have hb' : (M i == -1) = false := by simp [hb]
      by_cases hs : 0 < M i ∧ M i = M c
      · have h5 : decide (0 < M i) = true := by simp [hs.1]
        have h6 : (M i == M c) = true := by simp [hs.2]
        simp [sparesB, hb', h5, h6, hb, cDrS, cDrM, cAdM, cAdS, h3, hxy, e]
        omega
      · have h5 : (decide (0 < M i) && (M i == M c)) = false := by
          by_cases h7 : 0 < M i
          · have : ¬ M i = M c := fun h8 => hs ⟨h7, h8⟩
            simp [this]
          · simp [h7]
        simp only [sparesB, hb', h5, Bool.or_false, if_false, Bool.false_eq_true]
        simp [cDrS, cDrM, cAdM, cAdS, h3, hxy, e, hb]
        intro h7 h8
        exact hs ⟨h7, h8⟩
end Go.Proofs.Yteamnibgeobcbaa
