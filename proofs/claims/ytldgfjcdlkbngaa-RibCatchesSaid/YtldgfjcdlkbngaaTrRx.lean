/- What the last of each key left, and what covers an address: plain facts for TrieLongest; small operations. Each theorem states its conditions. -/
import Derived.Test.YtldgfjcdlkbngaaTrRw
import Derived.Test.YtldgfjcdlkbngaaPLaw
namespace Go.Proofs.Ytldgfjcdlkbngaa
open Go.RowKit
set_option linter.unusedVariables false
set_option linter.unusedSimpArgs false

def kyF (p : Pf) : Option (Bool × List Bool) := kyP p.fam p.len p.z
/-- under each key stands the last place of the list that has it -/
structure Lst (L : Nat → Pf) (i : Nat) (T : Ts) : Prop where
  a : ∀ k v, T.G k = some v → ∃ j : Nat, j < i ∧ v = (j : Int) ∧ kyF (L j) = some k ∧ ∀ j', j < j' → j' < i → kyF (L j') ≠ some k
  b : ∀ j, j < i → ∀ k, kyF (L j) = some k → T.G k ≠ none
theorem Lst.nil (L : Nat → Pf) : Lst L 0 ⟨.nil, .nil⟩ := ⟨(fun k v h => by
  obtain ⟨x, y⟩ := k
  cases x
  · cases h
  · cases h), fun j hj => absurd hj (by omega)⟩
theorem Lst.step {L : Nat → Pf} {i : Nat} {T T' : Ts} (h : Lst L i T) (hg : ∀ q, T'.G q = if kyF (L i) = some q then some (i : Int) else T.G q) : Lst L (i + 1) T' := by
  refine ⟨fun k v hv => ?_, fun j hj k hk => ?_⟩
  · rw [hg] at hv
    by_cases e : kyF (L i) = some k
    · rw [if_pos e] at hv
      exact ⟨i, by omega, (Option.some.inj hv).symm, e, fun j' h1 h2 => absurd h1 (by omega)⟩
    · rw [if_neg e] at hv
      obtain ⟨j, h1, h2, h3, h4⟩ := h.a k v hv
      refine ⟨j, by omega, h2, h3, fun j' g1 g2 => ?_⟩
      by_cases e2 : j' = i
      · subst e2; exact e
      · exact h4 j' g1 (by omega)
  · rw [hg]
    by_cases e : kyF (L i) = some k
    · rw [if_pos e]; simp
    · rw [if_neg e]
      refine h.b j ?_ k hk
      rcases Nat.lt_or_ge j i with h1 | h1
      · exact h1
      · exact absurd ((show j = i by omega) ▸ hk) e
theorem slice_pf (o : Oper) (e : Operand → Value) (x y : Operand) (ho : o.op = .slice 42 x none (some y) none) (A : Option Addr) (m c k : Nat) (hA : m = 0 ∨ ∃ b off, A = some ⟨b, off, none⟩) (h0 : e x = .slice A m c) (h1 : e y = .int .i64 (k : Int)) (hk : k ≤ m) (hm : m ≤ c) (W : World) :
    (execOp e o).run Try.prog W = .ok (.value (.slice A k c)) W := by
  unfold execOp
  simp only [ho, h0, h1, Option.map_none, Option.map_some]
  have e3 : ¬ ((c : Int) < (k : Int)) := by omega
  have e4 : ¬ (c < k) := by omega
  rcases A with _ | A
  · have hk0 : k = 0 := by
      rcases hA with h | ⟨b, off, h⟩
      · omega
      · cases h
    subst hk0
    simp [go_sem]
  · simp [go_sem, e3, e4]
theorem min100 (o : Oper) (e : Operand → Value) (x : Operand) (ho : o.op = .call { callee := .builtin .min, args := #[x, .const (.int .i64 100)], argTypes := #[3, 3] }) (m : Nat) (h0 : e x = .int .i64 (m : Int)) (hc : e (.const (.int .i64 100)) = .int .i64 100) (W : World) : (execOp e o).run Try.prog W = .ok (.value (.int .i64 ((min m 100 : Nat) : Int))) W :=
  min_runN o e x _ ho m 100 h0 hc W
theorem rem2_run (o : Oper) (e : Operand → Value) (x : Operand) (t u : TypeId) (ho : o.op = .binOp .rem t x (.const (.int .u8 2)) u) (a k : Int) (ha : 0 ≤ a ∧ a ≤ 255) (hk : a % 2 = k) (h0 : e x = .int .u8 a) (hc : e (.const (.int .u8 2)) = .int .u8 2) (W : World) : (execOp e o).run Try.prog W = .ok (.value (.int .u8 k)) W := by
  subst hk
  have h1 : a.tmod 2 = a % 2 := Int.tmod_eq_emod_of_nonneg ha.1
  unfold execOp
  simp only [ho, h0, hc]
  simp [go_sem, h1, IntKind.wrap, IntKind.bits, IntKind.signed]
  try omega
theorem mul2_run (o : Oper) (e : Operand → Value) (x : Operand) (t u : TypeId) (ho : o.op = .binOp .mul t x (.const (.int .u8 2)) u) (pl : Bool) (h0 : e x = .int .u8 (iB pl)) (hc : e (.const (.int .u8 2)) = .int .u8 2) (W : World) : (execOp e o).run Try.prog W = .ok (.value (.int .u8 (2 * iB pl))) W := by
  unfold execOp
  simp only [ho, h0, hc]
  cases pl <;> simp [go_sem, iB, IntKind.wrap, IntKind.bits, IntKind.signed]
theorem add4_run (o : Oper) (e : Operand → Value) (x : Operand) (t u : TypeId) (ho : o.op = .binOp .add t (.const (.int .u8 4)) x u) (pl : Bool) (h0 : e x = .int .u8 (2 * iB pl)) (hc : e (.const (.int .u8 4)) = .int .u8 4) (W : World) : (execOp e o).run Try.prog W = .ok (.value (.int .u8 (famB pl))) W := by
  unfold execOp
  simp only [ho, h0, hc]
  cases pl <;> simp [go_sem, iB, famB, IntKind.wrap, IntKind.bits, IntKind.signed]
theorem bits_pl (pl : Bool) (w : World) : Calls Try.prog 25 #[.int .u8 (famB pl)] w fun e w' => e = .returned (.int .i64 (lenB pl : Int)) ∧ Below w.heap.size w w' := by
  cases pl with
  | false =>
    show Calls _ _ #[.int .u8 4] w fun e w' => e = .returned (.int .i64 32) ∧ Below w.heap.size w w'
    go_enter Try.func25, Try.ntmps25
    go_wp2
    exact bodyPost_ret (v := .int .i64 32) (by simp [results, Try.f25, go_sem]) rfl ⟨rfl, Below.refl _ _⟩
  | true =>
    show Calls _ _ #[.int .u8 6] w fun e w' => e = .returned (.int .i64 128) ∧ Below w.heap.size w w'
    go_enter Try.func25, Try.ntmps25
    go_wp2
    exact bodyPost_ret (v := .int .i64 128) (by simp [results, Try.f25, go_sem]) rfl ⟨rfl, Below.refl _ _⟩
theorem gtrI_no (o : Oper) (e : Operand → Value) (x y : Operand) (ho : o.op = .binOp .gtr 3 x y 3) (a b : Int) (hab : ¬ b < a) (h0 : e x = .int .i64 a) (h1 : e y = .int .i64 b) (W : World) : (execOp e o).run Try.prog W = .ok (.value (.bool false)) W := by
  unfold execOp
  simp only [ho, h0, h1]
  simp [go_sem]
  omega
theorem geq0_run (o : Oper) (e : Operand → Value) (x : Operand) (ho : o.op = .binOp .geq 3 x (.const (.int .i64 0)) 3) (j : Nat) (h0 : e x = .int .i64 (j : Int)) (hc : e (.const (.int .i64 0)) = .int .i64 0) (W : World) : (execOp e o).run Try.prog W = .ok (.value (.bool true)) W := by
  unfold execOp
  simp only [ho, h0, hc]
  simp [go_sem]
theorem lssN_yes (o : Oper) (e : Operand → Value) (x y : Operand) (ho : o.op = .binOp .lss 3 x y 3) (a b : Nat) (hab : a < b) (h0 : e x = .int .i64 (a : Int)) (h1 : e y = .int .i64 (b : Int)) (W : World) : (execOp e o).run Try.prog W = .ok (.value (.bool true)) W := by
  unfold execOp
  simp only [ho, h0, h1]
  simp [go_sem]
  omega
theorem len_run (o : Oper) (e : Operand → Value) (x : Operand) (ho : o.op = .call { callee := .builtin .len, args := #[x], argTypes := #[42] }) (A : Option Addr) (n c : Nat) (h0 : e x = .slice A n c) (W : World) : (execOp e o).run Try.prog W = .ok (.value (.int .i64 (n : Int))) W := by
  unfold execOp
  simp only [ho]
  simp [go_sem, h0]
/-- what the address's own prefix is -/
def whZ (pl : Bool) (z : Nat → Int) : Nat → Int := firstZ z (lenB pl)
theorem wh_form {z : Nat → Int} (hz : Bytes z) (pl : Bool) : Form (famB pl) (lenB pl : Nat) (whZ pl z) := whole_form hz pl
theorem wh_b {z : Nat → Int} (hz : Bytes z) (pl : Bool) : Bytes (whZ pl z) := firstZ_bd hz _
theorem cut_wh (pl : Bool) (z : Nat → Int) (hz : Bytes z) (W : World) : Calls Try.prog 24 #[.agg (pvC (famB pl) (lenB pl : Nat) z), .int .i64 (lenB pl : Int)] W fun e w' => e = .returned (.tuple #[.agg (pvC (famB pl) (lenB pl : Nat) (whZ pl z)), .int .i64 0]) ∧ Below W.heap.size W w' :=
  cut_ok (famB pl) (lenB pl) (lenB pl) z W hz (Nat.le_refl _) (wh_form hz pl).1
theorem FA_pl (T : Ts) (pl : Bool) (z : Nat → Int) : T.FA (famB pl) z = faR pl (T.F pl z) := by
  unfold Ts.FA
  cases pl
  · rfl
  · rfl
theorem cov_bits {fam fam' : Int} {n n' : Nat} {z z' : Nat → Int} (hz : Bytes z) (hz' : Bytes z') (hf : Form fam n z) (hf' : Form fam' n' z') : covB fam n z fam' n' z' = true ↔ fam = fam' ∧ btP n z <+: btP n' z' := by
  unfold covB
  rw [decide_eq_true_iff, btP_cov hz hz' hf hf', Int.toNat_natCast]
  constructor
  · rintro ⟨h1, h2, h3⟩; exact ⟨h1, by omega, h3⟩
  · rintro ⟨h1, h2, h3⟩; exact ⟨h1, by omega, h3⟩
/-- what is found for an address, as the list has it -/
inductive Fnd (L : Nat → Pf) (m : Nat) (T : Ts) (pl : Bool) (z : Nat → Int) (Q : Pf × Int × Bool × Int) : Prop
  | no (h : Q = (pf0, 0, false, 0)) (hn : ∀ i, i < m → ∀ n : Nat, (L i).len = n → Form (L i).fam n (L i).z → Bytes (L i).z → covB (L i).fam n (L i).z (famB pl) (lenB pl : Nat) (whZ pl z) = false)
  | yes (x : List Bool) (j : Nat) (h : Q = (⟨famB pl, (x.length : Nat), zOf x⟩, (j : Int), true, 0)) (hj : j < m) (hc : pfC (L j) = pvC (famB pl) (x.length : Nat) (zOf x)) (hf : Form (famB pl) (x.length : Nat) (zOf x)) (hw : covB (famB pl) (x.length : Nat) (zOf x) (famB pl) (lenB pl : Nat) (whZ pl z) = true)
      (hn : ∀ i, i < m → ∀ n : Nat, (L i).len = n → Form (L i).fam n (L i).z → Bytes (L i).z → covB (L i).fam n (L i).z (famB pl) (lenB pl : Nat) (whZ pl z) = true → n ≤ x.length ∧ ((L i).fam = famB pl ∧ n = x.length ∧ Same16 (L i).z (zOf x) → i ≤ j))
theorem fnd_of {L : Nat → Pf} {m : Nat} {T : Ts} (hl : Lst L m T) (ho : TsOk T) (hL : ∀ j, Bytes (L j).z) (pl : Bool) {z : Nat → Int} (hz : Bytes z) : Fnd L m T pl z (T.FA (famB pl) z) := by
  rw [FA_pl]
  have hwb := wh_b hz pl
  have hwf := wh_form hz pl
  have key : ∀ i, i < m → ∀ n : Nat, (L i).len = n → Form (L i).fam n (L i).z → Bytes (L i).z → covB (L i).fam n (L i).z (famB pl) (lenB pl : Nat) (whZ pl z) = true → (L i).fam = famB pl ∧ btP n (L i).z <+: btP (lenB pl) (whZ pl z) ∧ Tr.get (T.h pl).bits (btP n (L i).z) ≠ none ∧ kyF (L i) = some (pl, btP n (L i).z) := by
    intro i hi n hn hf hb hc
    obtain ⟨e1, e2⟩ := (cov_bits hb hwb hf hwf).1 hc
    have hk : kyF (L i) = some (pl, btP n (L i).z) := by
      obtain ⟨p2, f2, k2⟩ := ky_yes hf
      unfold kyF
      rw [hn, k2]
      have : p2 = pl := by
        rw [e1] at f2
        cases pl <;> cases p2 <;> simp [famB] at f2 ⊢
      rw [this]
    exact ⟨e1, e2, hl.b i hi _ hk, hk⟩
  rcases Tr.lng_spec (p := btP (lenB pl) (whZ pl z)) none (ho.o pl) with ⟨h1, h2⟩ | ⟨x, v, h1, h2, h3, h4⟩
  · refine .no (by rw [show T.F pl z = none from h1]; rfl) fun i hi n hn hf hb => ?_
    cases hc : covB (L i).fam n (L i).z (famB pl) (lenB pl : Nat) (whZ pl z) with
    | false => rfl
    | true =>
      obtain ⟨_, e2, e3, _⟩ := key i hi n hn hf hb hc
      exact absurd e2 (h2 _ e3)
  · obtain ⟨j, j1, j2, j3, j4⟩ := hl.a (pl, x) v h2
    have hfj : Form (L j).fam (L j).len (L j).z := by
      by_cases hf : Form (L j).fam (L j).len (L j).z
      · exact hf
      · unfold kyF at j3; rw [ky_no hf] at j3; cases j3
    obtain ⟨n, hn, _⟩ := form_nat hfj
    rw [hn] at hfj
    obtain ⟨p2, f2, k2⟩ := ky_yes hfj
    have hkk : some (p2, btP n (L j).z) = some (pl, x) := by
      rw [← k2]
      unfold kyF at j3
      rw [hn] at j3
      exact j3
    obtain ⟨g1, g2⟩ := Prod.mk.inj (Option.some.inj hkk)
    subst g1
    have hpv := pv_of (hL j) hfj
    rw [g2, f2] at hpv
    have hfx : Form (famB p2) (x.length : Nat) (zOf x) ∧ Bytes (zOf x) := by
      refine ⟨?_, zOf_b x⟩
      have hx : ∃ z' : Nat → Int, Bytes z' ∧ (∃ fam' n', Form fam' (n' : Nat) z' ∧ btP n' z' = x) := ⟨(L j).z, hL j, _, n, hfj, g2⟩
      have hzx : zOf x = Classical.choose hx := dif_pos hx
      obtain ⟨q1, fam', n', q2, q3⟩ := Classical.choose_spec hx
      rw [hzx]
      obtain ⟨a1, a2⟩ := (btP_eq q1 (hL j) q2 hfj).1 (q3.trans g2.symm)
      have hlen : x.length = n' := by rw [← q3, btP_len]
      rw [hlen]
      rw [f2] at hfj
      refine (form_same _ _ _).2 ⟨by rw [a1]; exact hfj.1, ((form_same fam' n' _).1 q2).2⟩
    have hbx : btP x.length (zOf x) = x := by
      have h9 := (btP_eq (zOf_b x) (hL j) hfx.1 (f2 ▸ hfj)).2
      have hx9 := congrArg (fun C : Array Value => C) hpv
      have hn9 : n = x.length := by rw [← g2, btP_len]
      rw [h9 ⟨hn9.symm, fun i hi => by
        have e1 := congrArg (fun C : Array Value => C[2 + i]?) hpv
        simp only [pvC_at _ _ _ i hi] at e1
        injection e1 with e1
        injection e1 with _ e1
        exact e1.symm⟩, g2]
    refine .yes x j (by rw [show T.F p2 z = some (x, v) from h1, j2]; rfl) j1 (by unfold pfC; rw [hn, ← hpv, ← f2]) hfx.1 ((cov_bits hfx.2 hwb hfx.1 hwf).2 ⟨rfl, by rw [hbx]; exact h3⟩) fun i hi n' hn' hf' hb' hc' => ?_
    obtain ⟨e1, e2, e3, e4⟩ := key i hi n' hn' hf' hb' hc'
    have h5 := h4 _ e3 e2
    rw [btP_len] at h5
    refine ⟨h5, fun ⟨c1, c2, c3⟩ => ?_⟩
    rcases Nat.lt_or_ge j i with h6 | h6
    · exfalso
      refine j4 i h6 hi ?_
      rw [e4]
      congr 2
      have := (btP_eq hb' (zOf_b x) hf' hfx.1).2 ⟨c2, c3⟩
      rw [this, hbx]
    · exact h6
end Go.Proofs.Ytldgfjcdlkbngaa
