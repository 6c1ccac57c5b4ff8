/- Two texts put together; each theorem states its conditions. -/
import Derived.Test.YtjnbemopfhinbaaRbO
import Derived.Test.YtjnbemopfhinbaaRbAw
import Derived.Test.YtjnbemopfhinbaaPNeq
import Derived.Test.YtjnbemopfhinbaaRbSm
import Derived.Deep.DeepCutAuto
/- Two texts put together; each theorem states its conditions. -/
/- A table and the one with a route more, to the prefix of no bits: plain facts. Each theorem states its conditions. -/
namespace Go.Proofs.Ytjnbemopfhinbaa
open Go.RowKit
set_option linter.unusedVariables false
set_option linter.unusedSimpArgs false

/-- the route to the prefix of no bits -/
def xall (f : Int) : Rx := ⟨⟨⟨f, 0, Z0⟩, 4, 7, 0, fun _ => hp0⟩, none, 0⟩
/-- which keys a table has -/
theorem tab_keys {w : World} {t s n c : Nat} {A : Option Addr} {S : List Rx} {T : Ts} {X : Nat → Rx} (h : TabAt w t s n A c S T) (hp : PermX n X S) : (∀ q, q < n → ∃ k, kyF (X q).r.p = some k ∧ T.G k ≠ none) ∧ ∀ k v, T.G k = some v → ∃ i q : Nat, v = (i : Int) ∧ q < n ∧ (S.getD i rx0).r = (X q).r ∧ kyF (X q).r.p = some k := by
  refine ⟨fun q hq => ?_, fun k v hv => ?_⟩
  · obtain ⟨i, hi, e⟩ := hp.of q hq
    obtain ⟨k, h1, h2⟩ := h.all i hi
    rw [e] at h1
    exact ⟨k, h1, by rw [h2]; simp⟩
  · obtain ⟨i, h1, h2, h3⟩ := h.ix k v hv
    obtain ⟨q, hq, e⟩ := hp.to i h2
    rw [e] at h3
    exact ⟨i, q, h1, hq, e, h3⟩
end Go.Proofs.Ytjnbemopfhinbaa
/- What RibCatches asks for: Build of a copy, Find told shortly, a route appended. Each theorem states its conditions. -/
namespace Go.Proofs.Ytjnbemopfhinbaa
open Go.RowKit
set_option linter.unusedVariables false
set_option linter.unusedSimpArgs false

theorem slice_rt (o : Oper) (e : Operand → Value) (x y : Operand) (ho : o.op = .slice 60 x none (some y) none) (A : Option Addr) (m c k : Nat) (hA : m = 0 ∨ ∃ b off, A = some ⟨b, off, none⟩) (h0 : e x = .slice A m c) (h1 : e y = .int .i64 (k : Int)) (hk : k ≤ m) (hm : m ≤ c) (W : World) :
    (execOp e o).run Try.prog W = .ok (.value (.slice A k c)) W := by
  unfold execOp
  simp only [ho, h0, h1, Option.map_none, Option.map_some]
  have e3 : ¬ ((c : Int) < (k : Int)) := by omega
  have e4 : ¬ (c < k) := by omega
  rcases A with _ | A
  · have hk0 : k = 0 := by
      rcases hA with h | ⟨b, off, h⟩
      · omega
      · cases h
    subst hk0
    simp [go_sem]
  · simp [go_sem, e3, e4]
theorem PermX.congr {n : Nat} {X X' : Nat → Rx} {S : List Rx} (h : PermX n X S) (he : ∀ j, j < n → (X j).r = (X' j).r) : PermX n X' S := by
  obtain ⟨R, h1, h2, h3⟩ := h
  exact ⟨R, h1, h2, fun j hj => (h3 j hj).trans (he j hj)⟩
theorem PermX.back {n : Nat} {X : Nat → Rx} {S : List Rx} (h : PermX n X S) (hx : ∀ i j, i < j → j < n → kyF (S.getD i rx0).r.p ≠ kyF (S.getD j rx0).r.p) : ∀ i j, i < j → j < n → kyF (X i).r.p ≠ kyF (X j).r.p := by
  have hl := h.len
  obtain ⟨R, h1, h2, h3⟩ := h
  have h4 : PermX n (fun j => S.getD j rx0) R := ⟨S, h1.symm, hl, fun j _ => rfl⟩
  intro i j hij hj
  have h5 := h4.nodup hx i j hij hj
  rw [h3 i (by omega), h3 j hj] at h5
  exact h5
theorem TabAt.nodup {w : World} {t s n c : Nat} {A : Option Addr} {S : List Rx} {T : Ts} (h : TabAt w t s n A c S T) : ∀ i j, i < j → j < n → kyF (S.getD i rx0).r.p ≠ kyF (S.getD j rx0).r.p := fun i j hij hj e => by
  obtain ⟨k, h1, h2⟩ := h.all i (by omega)
  obtain ⟨k', h3, h4⟩ := h.all j hj
  rw [h1, h3] at e
  cases e
  rw [h2] at h4
  have := Int.ofNat.inj (Option.some.inj h4)
  omega
/-- a list with the root's route behind it -/
def addX (X : Nat → Rx) (m : Nat) (f : Int) (j : Nat) : Rx := if j < m then X j else xall f
theorem addX_lo (X : Nat → Rx) (f : Int) {m j : Nat} (h : j < m) : addX X m f j = X j := if_pos h
theorem addX_at (X : Nat → Rx) (m : Nat) (f : Int) : addX X m f m = xall f := if_neg (by omega)
theorem xall_own (w : World) (B : Nat) (f : Int) : HopOwn w B (xall f) := ⟨OwnR.nil _ _ _ _ _, show (0 : Nat) ≤ 8796093021952 from by omega⟩
theorem Cpy.all {w w' : World} {B m : Nat} {X : Nat → Rx} {v v' : Value} {S : List Rx} {f : Int} (h : Cpy w B m X v S) (ho : OwnR w' B 70 21 v' (m + 1) (catR (rxB S) m (fun _ => rxC (xall f)))) (hg : w.grownBy w' v.ownBlock) : Cpy w' B (m + 1) (addX X m f) v' (S ++ [xall f]) := by
  have h1 : Cpy w B m (addX X m f) v S := ⟨h.len, fun j hj => by rw [addX_lo X f hj]; exact h.same j hj, h.own, h.hop⟩
  exact h1.snoc (xall_own w B f) (by rw [addX_at]) ho hg
section
variable {ops : Array Oper} {Q : Exit → Act → World → Prop} {md : Region.Mode} {S : World → Prop}
end
end Go.Proofs.Ytjnbemopfhinbaa
/- Two texts put together; each theorem states its conditions. -/
/- Two texts put together; each theorem states its conditions. -/
/- Equality of hops and of routes. Each theorem states its conditions. -/
namespace Go.Proofs.Ytjnbemopfhinbaa
open Go.RowKit
set_option linter.unusedVariables false
set_option linter.unusedSimpArgs false

def Same6 (z z' : Nat → Int) : Prop := ∀ j, j < 6 → z j = z' j
instance (z z' : Nat → Int) : Decidable (Same6 z z') := by unfold Same6; infer_instance
def HopEq (a b : Hp) : Prop := a.c = b.c ∧ Same6 a.y b.y
instance (a b : Hp) : Decidable (HopEq a b) := by unfold HopEq; infer_instance
/-- two rows of hops are alike -/
def HopsEq (n m : Nat) (a b : Nat → Hp) : Prop := n = m ∧ ∀ j, j < n → HopEq (a j) (b j)
end Go.Proofs.Ytjnbemopfhinbaa
/- The difference of two lists of routes. Each theorem states its conditions. -/
namespace Go.Proofs.Ytjnbemopfhinbaa
open Go.RowKit
set_option linter.unusedVariables false
set_option linter.unusedSimpArgs false

def Er (e : Int) : Prop := e = 0 ∨ e = 3 ∨ e = 7
/-- two routes to one prefix are alike -/
def Alike (x y : Rt) : Prop := x.k = y.k ∧ x.m = y.m ∧ HopsEq x.n y.n x.h y.h
theorem take_more {S : List Rx} {i : Nat} (h : i < S.length) : S.take (i + 1) = S.take i ++ [S.getD i rx0] := by
  rw [List.take_add_one, List.getD_eq_getElem?_getD, List.getElem?_eq_getElem h]
  rfl
/-- what Build says of a list -/
def ErrX (n : Nat) (X : Nat → Rx) (e : Int) : Prop := (e = 3 ∧ ∃ i, i < n ∧ ¬ Form (X i).r.p.fam (X i).r.p.len (X i).r.p.z) ∨
  (e = 7 ∧ (∀ i, i < n → Form (X i).r.p.fam (X i).r.p.len (X i).r.p.z) ∧ ∃ i j, i < j ∧ j < n ∧ kyF (X i).r.p = kyF (X j).r.p) ∨
  (e = 0 ∧ (∀ i, i < n → Form (X i).r.p.fam (X i).r.p.len (X i).r.p.z) ∧ ∀ i j, i < j → j < n → kyF (X i).r.p ≠ kyF (X j).r.p)
theorem ErrX.er {n : Nat} {X : Nat → Rx} {e : Int} (h : ErrX n X e) : Er e := by
  rcases h with ⟨h, _⟩ | ⟨h, _⟩ | ⟨h, _⟩
  · exact .inr (.inl h)
  · exact .inr (.inr h)
  · exact .inl h
def BuildE (w : World) (n : Nat) (X : Nat → Rx) (e : Ending) (w' : World) : Prop := Below w.heap.size w w' ∧
  ((∃ e1 : Int, (e1 = 3 ∨ e1 = 7) ∧ ErrX n X e1 ∧ e = .returned (.tuple #[.pointer none, .int .i64 e1])) ∨
    ∃ (t s : Nat) (A : Option Addr) (c : Nat) (S : List Rx) (T : Ts), ErrX n X 0 ∧ e = .returned (.tuple #[.pointer (some ⟨t, 0, none⟩), .int .i64 0]) ∧ TabAt w' t s n A c S T ∧ PermX n X S ∧ AscX S ∧ HiT w' w.heap.size t s A n S)
theorem build_err (X : Nat → Rx) (A : Option Addr) (n c : Nat) (w : World) (hr : RdR w A n 21 (fun j => rxC (X j))) (hh : ∀ j, j < n → HopAt w (X j)) (hz : ∀ j, j < n → Bytes (X j).r.p.z) (hn : n ≤ 1000) : Calls Try.prog 31 #[.slice A n c] w (BuildE w n X) := by
  refine (build_any X A n c w hr hh hz hn).mono ?_
  rintro e w' ⟨b, h⟩
  refine ⟨b, ?_⟩
  rcases h with ⟨h1, e1⟩ | ⟨hf, S2, hp, ha, ⟨⟨i, j, hij, hj, he⟩, e1⟩ | ⟨t, s, A2, c2, T, hhi, e1, ht⟩⟩
  · exact .inl ⟨3, .inl rfl, .inl ⟨rfl, h1⟩, e1⟩
  · refine .inl ⟨7, .inr rfl, .inr (.inl ⟨rfl, hf, ?_⟩), e1⟩
    refine Classical.byContradiction fun hc => ?_
    exact hp.nodup (fun a b hab hb h9 => hc ⟨a, b, hab, hb, h9⟩) i j hij hj he
  · exact .inr ⟨t, s, A2, c2, S2, T, .inr (.inr ⟨rfl, hf, hp.back ht.nodup⟩), e1, ht, hp, ha, hhi⟩
theorem own_rx {w : World} {B : Nat} {v : Value} {G : List Rx} {y : Rx} (h : OwnR w B 70 21 v (G.length + 1) (catR (rxB G) G.length (fun _ => rxC y))) : OwnR w B 70 21 v (G ++ [y]).length (rxB (G ++ [y])) := by
  rw [List.length_append]
  exact h.congr (rx_snoc G y)
end Go.Proofs.Ytjnbemopfhinbaa
/- Routes told in one way only: what memory does not hold is nought. Each theorem states its conditions. -/
namespace Go.Proofs.Ytjnbemopfhinbaa
open Go.RowKit
set_option linter.unusedVariables false
set_option linter.unusedSimpArgs false

def canZ (k : Nat) (z : Nat → Int) (j : Nat) : Int := if j < k then z j else 0
def canH (h : Hp) : Hp := ⟨h.c, canZ 6 h.y⟩
def canR (r : Rt) : Rt := ⟨⟨r.p.fam, r.p.len, canZ 16 r.p.z⟩, r.k, r.m, r.n, fun j => if j < r.n then canH (r.h j) else hp0⟩
def canX (x : Rx) : Rx := ⟨canR x.r, x.A, x.c⟩
theorem canZ_lo {k j : Nat} (z : Nat → Int) (h : j < k) : canZ k z j = z j := if_pos h
theorem canZ_hi {k j : Nat} (z : Nat → Int) (h : ¬ j < k) : canZ k z j = 0 := if_neg h
theorem canZ_b {k : Nat} {z : Nat → Int} (h : ∀ j, 0 ≤ z j ∧ z j ≤ 255) (j : Nat) : 0 ≤ canZ k z j ∧ canZ k z j ≤ 255 := by
  by_cases h9 : j < k
  · rw [canZ_lo z h9]; exact h j
  · rw [canZ_hi z h9]; omega
theorem canZ_canZ (k : Nat) (z : Nat → Int) : canZ k (canZ k z) = canZ k z := funext fun j => by
  by_cases h9 : j < k
  · rw [canZ_lo _ h9]
  · rw [canZ_hi _ h9, canZ_hi _ h9]
theorem canH_C (h : Hp) : hopC (canH h) = hopC h := rfl
theorem canX_C (x : Rx) : rxC (canX x) = rxC x := rfl
theorem canX_hop {w : World} {x : Rx} (h : HopAt w x) : HopAt w (canX x) := ⟨h.rd.congr (fun j hj => by
  have hj : j < x.r.n := hj
  show hopC (x.r.h j) = hopC (if j < x.r.n then canH (x.r.h j) else hp0)
  rw [if_pos hj]; exact (canH_C _).symm), h.le, h.nl⟩
theorem canR_b {r : Rt} (h : RtB r) : RtB (canR r) := ⟨fun j => canZ_b h.p j, fun j i => by
  show 0 ≤ (if j < r.n then canH (r.h j) else hp0).y i ∧ (if j < r.n then canH (r.h j) else hp0).y i ≤ 255
  by_cases h9 : j < r.n
  · rw [if_pos h9]; exact canZ_b (h.h j) i
  · rw [if_neg h9]; exact ⟨Int.le_refl 0, show (0 : Int) ≤ 255 by omega⟩⟩
theorem in_can {w : World} {a : Option Addr} {len cap : Nat} {X : Nat → Rx} (h : InRx w a len cap X) : InRx w a len cap (fun j => canX (X j)) :=
  ⟨h.1.congr (fun j _ => (canX_C (X j)).symm), fun j => ⟨canR_b (h.2.1 j).1, canX_hop (h.2.1 j).2⟩, h.2.2.1, h.2.2.2.1, h.2.2.2.2⟩
/-- told in the one way -/
def Can (r : Rt) : Prop := canR r = r
theorem can_can (r : Rt) : Can (canR r) := by
  unfold Can canR
  simp only [canZ_canZ]
  congr 1
  funext j
  by_cases h9 : j < r.n
  · rw [if_pos h9, if_pos h9]; unfold canH; simp only [canZ_canZ]
  · rw [if_neg h9, if_neg h9]
/-- one key, one prefix -/
theorem key_same {p q : Pf} (hp : Bytes p.z) (hq : Bytes q.z) {k : Bool × List Bool} (h1 : kyF p = some k) (h2 : kyF q = some k) : p.fam = q.fam ∧ p.len = q.len ∧ Same16 p.z q.z := by
  have f1 : Form p.fam p.len p.z := ky_some h1
  have f2 : Form q.fam q.len q.z := ky_some h2
  obtain ⟨n1, hn1, _⟩ := form_nat f1
  obtain ⟨n2, hn2, _⟩ := form_nat f2
  rw [hn1] at f1
  rw [hn2] at f2
  obtain ⟨l1, e1, k1⟩ := ky_yes f1
  obtain ⟨l2, e2, k2⟩ := ky_yes f2
  unfold kyF at h1 h2
  rw [hn1, k1] at h1
  rw [hn2, k2] at h2
  obtain rfl := Option.some.inj h1
  obtain ⟨g1, g2⟩ := Prod.mk.inj (Option.some.inj h2)
  subst g1
  obtain ⟨g3, g4⟩ := (btP_eq hq hp f2 f1).1 g2
  subst g3
  exact ⟨by rw [e1, e2], by rw [hn1, hn2], fun j hj => (g4 j hj).symm⟩
end Go.Proofs.Ytjnbemopfhinbaa
