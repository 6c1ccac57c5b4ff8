/- Two texts put together; each theorem states its conditions. -/
import Derived.Test.YtjnbemopfhinbaaTrV
import Derived.Test.YtjnbemopfhinbaaTrK
/- Rows of prefixes beside a trie; small operations of the laws. Each theorem states its conditions. -/
namespace Go.Proofs.Ytjnbemopfhinbaa
open Go.RowKit
set_option linter.unusedVariables false
set_option linter.unusedSimpArgs false

theorem s_ne {w : World} {g : Nat} {C : Array Value} {B s : Nat} {T : Ts} (hT : TsAt w B s T) (h : Blk 32 w g C) : g ∉ s :: T.fp := fun hm => by
  rcases List.mem_cons.1 hm with h1 | h1
  · subst h1
    have h2 : w.heap[g]? = _ := h
    have h3 : w.heap[g]? = _ := hT.blk
    rw [h2] at h3
    injection h3 with h3
    injection h3 with _ h3 _
    exact absurd h3 (by decide)
  · exact ts_not h (by decide) hT h1
/-- a row of prefixes of the call's own -/
def RowF (w : World) (A : Option Addr) (n : Nat) (P : Nat → Pf) : Prop := RdR w A n 18 (fun j => pfC (P j)) ∧ ∀ b o, A = some ⟨b, o, none⟩ → ∃ cur, Blk 32 w b cur
theorem RowF.keep {w w' : World} {A : Option Addr} {n : Nat} {P : Nat → Pf} (h : RowF w A n P) (hk : ∀ b cur, Blk 32 w b cur → w'.heap[b]? = w.heap[b]?) : RowF w' A n P := by
  refine ⟨?_, fun b o e => ?_⟩
  · rcases h.1 with h0 | ⟨b, o, e, h1, h2⟩
    · exact .inl h0
    · obtain ⟨cur, hc⟩ := h.2 b o e
      have hc' : Blk 32 w' b cur := (hk b cur hc).trans hc
      refine .inr ⟨b, o, e, hc'.lt, fun j hj i u hu => ?_⟩
      have h3 := h2 j hj i u hu
      rw [hc.cell] at h3
      rw [hc'.cell]
      exact h3
  · obtain ⟨cur, hc⟩ := h.2 b o e
    exact ⟨cur, (hk b cur hc).trans hc⟩
theorem RowF.below {w w' : World} {A : Option Addr} {n : Nat} {P : Nat → Pf} (h : RowF w A n P) (hb : Below w.heap.size w w') : RowF w' A n P := h.keep fun b cur hc => hb.block b hc.lt
theorem RowF.kp {w w' : World} {A : Option Addr} {n : Nat} {P : Nat → Pf} {B s : Nat} {T : Ts} (h : RowF w A n P) (hT : TsAt w B s T) (k : Kp (s :: T.fp) w w') : RowF w' A n P := h.keep fun b cur hc => k.block b hc.lt (s_ne hT hc)
/-- prefixes that are unlike stand under other keys -/
theorem ky_ne {y x : Pf} (hy : Bytes y.z) (hx : Bytes x.z) (h : ¬ (y.fam = x.fam ∧ y.len = x.len ∧ Same16 y.z x.z)) (k : Bool × List Bool) (hk : kyP x.fam x.len x.z = some k) : ¬ kyP y.fam y.len y.z = some k := fun e => by
  by_cases fx : Form x.fam x.len x.z
  · by_cases fy : Form y.fam y.len y.z
    · obtain ⟨n, hn, _⟩ := form_nat fx
      obtain ⟨m, hm, _⟩ := form_nat fy
      rw [hn] at fx hk
      rw [hm] at fy e
      obtain ⟨px, fpx, kx⟩ := ky_yes fx
      obtain ⟨py, fpy, ky⟩ := ky_yes fy
      rw [kx] at hk
      rw [ky] at e
      have h1 := Option.some.inj (hk.trans e.symm)
      obtain ⟨h2, h3⟩ := Prod.mk.inj h1
      obtain ⟨a1, a2⟩ := (btP_eq hx hy fx fy).1 h3
      exact h ⟨by rw [fpx, fpy, h2], by rw [hn, hm, a1], fun j hj => (a2 j hj).symm⟩
    · rw [ky_no fy] at e; cases e
  · rw [ky_no fx] at hk; cases hk
end Go.Proofs.Ytjnbemopfhinbaa
/- What the last of each key left, and what covers an address: plain facts for TrieLongest; small operations. Each theorem states its conditions. -/
namespace Go.Proofs.Ytjnbemopfhinbaa
open Go.RowKit
set_option linter.unusedVariables false
set_option linter.unusedSimpArgs false

def kyF (p : Pf) : Option (Bool × List Bool) := kyP p.fam p.len p.z
/-- under each key stands the last place of the list that has it -/
structure Lst (L : Nat → Pf) (i : Nat) (T : Ts) : Prop where
  a : ∀ k v, T.G k = some v → ∃ j : Nat, j < i ∧ v = (j : Int) ∧ kyF (L j) = some k ∧ ∀ j', j < j' → j' < i → kyF (L j') ≠ some k
  b : ∀ j, j < i → ∀ k, kyF (L j) = some k → T.G k ≠ none
theorem Lst.nil (L : Nat → Pf) : Lst L 0 ⟨.nil, .nil⟩ := ⟨(fun k v h => by
  obtain ⟨x, y⟩ := k
  cases x
  · cases h
  · cases h), fun j hj => absurd hj (by omega)⟩
theorem Lst.step {L : Nat → Pf} {i : Nat} {T T' : Ts} (h : Lst L i T) (hg : ∀ q, T'.G q = if kyF (L i) = some q then some (i : Int) else T.G q) : Lst L (i + 1) T' := by
  refine ⟨fun k v hv => ?_, fun j hj k hk => ?_⟩
  · rw [hg] at hv
    by_cases e : kyF (L i) = some k
    · rw [if_pos e] at hv
      exact ⟨i, by omega, (Option.some.inj hv).symm, e, fun j' h1 h2 => absurd h1 (by omega)⟩
    · rw [if_neg e] at hv
      obtain ⟨j, h1, h2, h3, h4⟩ := h.a k v hv
      refine ⟨j, by omega, h2, h3, fun j' g1 g2 => ?_⟩
      by_cases e2 : j' = i
      · subst e2; exact e
      · exact h4 j' g1 (by omega)
  · rw [hg]
    by_cases e : kyF (L i) = some k
    · rw [if_pos e]; simp
    · rw [if_neg e]
      refine h.b j ?_ k hk
      rcases Nat.lt_or_ge j i with h1 | h1
      · exact h1
      · exact absurd ((show j = i by omega) ▸ hk) e
theorem bits_pl (pl : Bool) (w : World) : Calls Try.prog 25 #[.int .u8 (famB pl)] w fun e w' => e = .returned (.int .i64 (lenB pl : Int)) ∧ Below w.heap.size w w' := by
  cases pl with
  | false =>
    show Calls _ _ #[.int .u8 4] w fun e w' => e = .returned (.int .i64 32) ∧ Below w.heap.size w w'
    go_enter Try.func25, Try.ntmps25
    go_wp2
    exact bodyPost_ret (v := .int .i64 32) (by simp [results, Try.f25, go_sem]) rfl ⟨rfl, Below.refl _ _⟩
  | true =>
    show Calls _ _ #[.int .u8 6] w fun e w' => e = .returned (.int .i64 128) ∧ Below w.heap.size w w'
    go_enter Try.func25, Try.ntmps25
    go_wp2
    exact bodyPost_ret (v := .int .i64 128) (by simp [results, Try.f25, go_sem]) rfl ⟨rfl, Below.refl _ _⟩
/-- what the address's own prefix is -/
def whZ (pl : Bool) (z : Nat → Int) : Nat → Int := firstZ z (lenB pl)
theorem wh_form {z : Nat → Int} (hz : Bytes z) (pl : Bool) : Form (famB pl) (lenB pl : Nat) (whZ pl z) := whole_form hz pl
theorem wh_b {z : Nat → Int} (hz : Bytes z) (pl : Bool) : Bytes (whZ pl z) := firstZ_bd hz _
theorem FA_pl (T : Ts) (pl : Bool) (z : Nat → Int) : T.FA (famB pl) z = faR pl (T.F pl z) := by
  unfold Ts.FA
  cases pl
  · rfl
  · rfl
theorem cov_bits {fam fam' : Int} {n n' : Nat} {z z' : Nat → Int} (hz : Bytes z) (hz' : Bytes z') (hf : Form fam n z) (hf' : Form fam' n' z') : covB fam n z fam' n' z' = true ↔ fam = fam' ∧ btP n z <+: btP n' z' := by
  unfold covB
  rw [decide_eq_true_iff, btP_cov hz hz' hf hf', Int.toNat_natCast]
  constructor
  · rintro ⟨h1, h2, h3⟩; exact ⟨h1, by omega, h3⟩
  · rintro ⟨h1, h2, h3⟩; exact ⟨h1, by omega, h3⟩
/-- what is found for an address, as the list has it -/
inductive Fnd (L : Nat → Pf) (m : Nat) (T : Ts) (pl : Bool) (z : Nat → Int) (Q : Pf × Int × Bool × Int) : Prop
  | no (h : Q = (pf0, 0, false, 0)) (hn : ∀ i, i < m → ∀ n : Nat, (L i).len = n → Form (L i).fam n (L i).z → Bytes (L i).z → covB (L i).fam n (L i).z (famB pl) (lenB pl : Nat) (whZ pl z) = false)
  | yes (x : List Bool) (j : Nat) (h : Q = (⟨famB pl, (x.length : Nat), zOf x⟩, (j : Int), true, 0)) (hj : j < m) (hc : pfC (L j) = pvC (famB pl) (x.length : Nat) (zOf x)) (hf : Form (famB pl) (x.length : Nat) (zOf x)) (hw : covB (famB pl) (x.length : Nat) (zOf x) (famB pl) (lenB pl : Nat) (whZ pl z) = true)
      (hn : ∀ i, i < m → ∀ n : Nat, (L i).len = n → Form (L i).fam n (L i).z → Bytes (L i).z → covB (L i).fam n (L i).z (famB pl) (lenB pl : Nat) (whZ pl z) = true → n ≤ x.length ∧ ((L i).fam = famB pl ∧ n = x.length ∧ Same16 (L i).z (zOf x) → i ≤ j))
theorem fnd_of {L : Nat → Pf} {m : Nat} {T : Ts} (hl : Lst L m T) (ho : TsOk T) (hL : ∀ j, Bytes (L j).z) (pl : Bool) {z : Nat → Int} (hz : Bytes z) : Fnd L m T pl z (T.FA (famB pl) z) := by
  rw [FA_pl]
  have hwb := wh_b hz pl
  have hwf := wh_form hz pl
  have key : ∀ i, i < m → ∀ n : Nat, (L i).len = n → Form (L i).fam n (L i).z → Bytes (L i).z → covB (L i).fam n (L i).z (famB pl) (lenB pl : Nat) (whZ pl z) = true → (L i).fam = famB pl ∧ btP n (L i).z <+: btP (lenB pl) (whZ pl z) ∧ Tr.get (T.h pl).bits (btP n (L i).z) ≠ none ∧ kyF (L i) = some (pl, btP n (L i).z) := by
    intro i hi n hn hf hb hc
    obtain ⟨e1, e2⟩ := (cov_bits hb hwb hf hwf).1 hc
    have hk : kyF (L i) = some (pl, btP n (L i).z) := by
      obtain ⟨p2, f2, k2⟩ := ky_yes hf
      unfold kyF
      rw [hn, k2]
      have : p2 = pl := by
        rw [e1] at f2
        cases pl <;> cases p2 <;> simp [famB] at f2 ⊢
      rw [this]
    exact ⟨e1, e2, hl.b i hi _ hk, hk⟩
  rcases Tr.lng_spec (p := btP (lenB pl) (whZ pl z)) none (ho.o pl) with ⟨h1, h2⟩ | ⟨x, v, h1, h2, h3, h4⟩
  · refine .no (by rw [show T.F pl z = none from h1]; rfl) fun i hi n hn hf hb => ?_
    cases hc : covB (L i).fam n (L i).z (famB pl) (lenB pl : Nat) (whZ pl z) with
    | false => rfl
    | true =>
      obtain ⟨_, e2, e3, _⟩ := key i hi n hn hf hb hc
      exact absurd e2 (h2 _ e3)
  · obtain ⟨j, j1, j2, j3, j4⟩ := hl.a (pl, x) v h2
    have hfj : Form (L j).fam (L j).len (L j).z := by
      by_cases hf : Form (L j).fam (L j).len (L j).z
      · exact hf
      · unfold kyF at j3; rw [ky_no hf] at j3; cases j3
    obtain ⟨n, hn, _⟩ := form_nat hfj
    rw [hn] at hfj
    obtain ⟨p2, f2, k2⟩ := ky_yes hfj
    have hkk : some (p2, btP n (L j).z) = some (pl, x) := by
      rw [← k2]
      unfold kyF at j3
      rw [hn] at j3
      exact j3
    obtain ⟨g1, g2⟩ := Prod.mk.inj (Option.some.inj hkk)
    subst g1
    have hpv := pv_of (hL j) hfj
    rw [g2, f2] at hpv
    have hfx : Form (famB p2) (x.length : Nat) (zOf x) ∧ Bytes (zOf x) := by
      refine ⟨?_, zOf_b x⟩
      have hx : ∃ z' : Nat → Int, Bytes z' ∧ (∃ fam' n', Form fam' (n' : Nat) z' ∧ btP n' z' = x) := ⟨(L j).z, hL j, _, n, hfj, g2⟩
      have hzx : zOf x = Classical.choose hx := dif_pos hx
      obtain ⟨q1, fam', n', q2, q3⟩ := Classical.choose_spec hx
      rw [hzx]
      obtain ⟨a1, a2⟩ := (btP_eq q1 (hL j) q2 hfj).1 (q3.trans g2.symm)
      have hlen : x.length = n' := by rw [← q3, btP_len]
      rw [hlen]
      rw [f2] at hfj
      refine (form_same _ _ _).2 ⟨by rw [a1]; exact hfj.1, ((form_same fam' n' _).1 q2).2⟩
    have hbx : btP x.length (zOf x) = x := by
      have h9 := (btP_eq (zOf_b x) (hL j) hfx.1 (f2 ▸ hfj)).2
      have hx9 := congrArg (fun C : Array Value => C) hpv
      have hn9 : n = x.length := by rw [← g2, btP_len]
      rw [h9 ⟨hn9.symm, fun i hi => by
        have e1 := congrArg (fun C : Array Value => C[2 + i]?) hpv
        simp only [pvC_at _ _ _ i hi] at e1
        injection e1 with e1
        injection e1 with _ e1
        exact e1.symm⟩, g2]
    refine .yes x j (by rw [show T.F p2 z = some (x, v) from h1, j2]; rfl) j1 (by unfold pfC; rw [hn, ← hpv, ← f2]) hfx.1 ((cov_bits hfx.2 hwb hfx.1 hwf).2 ⟨rfl, by rw [hbx]; exact h3⟩) fun i hi n' hn' hf' hb' hc' => ?_
    obtain ⟨e1, e2, e3, e4⟩ := key i hi n' hn' hf' hb' hc'
    have h5 := h4 _ e3 e2
    rw [btP_len] at h5
    refine ⟨h5, fun ⟨c1, c2, c3⟩ => ?_⟩
    rcases Nat.lt_or_ge j i with h6 | h6
    · exfalso
      refine j4 i h6 hi ?_
      rw [e4]
      congr 2
      have := (btP_eq hb' (zOf_b x) hf' hfx.1).2 ⟨c2, c3⟩
      rw [this, hbx]
    · exact h6
end Go.Proofs.Ytjnbemopfhinbaa
