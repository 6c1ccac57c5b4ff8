/- Two texts put together; each theorem states its conditions. -/
import Derived.Test.YtjnbemopfhinbaaTrP
import Derived.Test.YtjnbemopfhinbaaTrRx
/- The document's list of a trie: plain facts. No condition. -/
namespace Go.Proofs.Ytjnbemopfhinbaa
open Go.RowKit
set_option linter.unusedVariables false
set_option linter.unusedSimpArgs false

abbrev Ky := Bool × List Bool
abbrev It := Ky × Int
/-- all but a key -/
def wo (k : Ky) (D : List It) : List It := D.filter (fun x => decide (x.1 ≠ k))
def it0 : It := ((false, []), 0)
/-- the longest one that is let in -/
def bst (P : Ky → Bool) : Option It → List It → Option It
  | acc, [] => acc
  | acc, x :: r => bst P (if P x.1 = true ∧ (∀ y, acc = some y → y.1.2.length < x.1.2.length) then some x else acc) r
section
variable {k : Ky} {v : Int} {D S : List It} {i : Nat} {x : It} {dn : Bool}
variable {P : Ky → Bool}
end
/-- what the longest one is -/
theorem bst_spec (P : Ky → Bool) : ∀ (D : List It) (acc : Option It), (bst P acc D = acc ∧ ∀ x, x ∈ D → P x.1 = true → ∃ a, acc = some a ∧ x.1.2.length ≤ a.1.2.length) ∨ ∃ x, x ∈ D ∧ bst P acc D = some x ∧ P x.1 = true ∧ (∀ y, y ∈ D → P y.1 = true → y.1.2.length ≤ x.1.2.length) ∧ ∀ a, acc = some a → a.1.2.length ≤ x.1.2.length
  | [], acc => .inl ⟨rfl, fun x hx => by cases hx⟩
  | x :: r, acc => by
    unfold bst
    by_cases h : P x.1 = true ∧ (∀ y, acc = some y → y.1.2.length < x.1.2.length)
    · rw [if_pos h]
      right
      rcases bst_spec P r (some x) with ⟨h1, h2⟩ | ⟨y, h1, h2, h3, h4, h5⟩
      · refine ⟨x, List.mem_cons_self .., h1, h.1, fun y hy hp => ?_, fun a ha => Nat.le_of_lt (h.2 a ha)⟩
        rcases List.mem_cons.1 hy with e | hy
        · rw [e]; exact Nat.le_refl _
        · obtain ⟨a, e, hl⟩ := h2 y hy hp
          cases e; exact hl
      · have hxy := h5 x rfl
        refine ⟨y, List.mem_cons_of_mem _ h1, h2, h3, fun z hz hp => ?_, fun a ha => Nat.le_trans (Nat.le_of_lt (h.2 a ha)) hxy⟩
        rcases List.mem_cons.1 hz with e | hz
        · rw [e]; exact hxy
        · exact h4 z hz hp
    · rw [if_neg h]
      have hx : P x.1 = true → ∃ a, acc = some a ∧ x.1.2.length ≤ a.1.2.length := fun hp => by
        cases acc with
        | none => exact absurd ⟨hp, fun y e => by cases e⟩ h
        | some a =>
          refine ⟨a, rfl, ?_⟩
          rcases Nat.lt_or_ge a.1.2.length x.1.2.length with h9 | h9
          · exact absurd ⟨hp, fun y e => by cases e; exact h9⟩ h
          · exact h9
      rcases bst_spec P r acc with ⟨h1, h2⟩ | ⟨y, h1, h2, h3, h4, h5⟩
      · left
        refine ⟨h1, fun z hz hp => ?_⟩
        rcases List.mem_cons.1 hz with e | hz
        · rw [e] at hp ⊢; exact hx hp
        · exact h2 z hz hp
      · right
        refine ⟨y, List.mem_cons_of_mem _ h1, h2, h3, fun z hz hp => ?_, h5⟩
        rcases List.mem_cons.1 hz with e | hz
        · rw [e] at hp ⊢
          obtain ⟨a, e1, e2⟩ := hx hp
          exact Nat.le_trans e2 (h5 a e1)
        · exact h4 z hz hp
end Go.Proofs.Ytjnbemopfhinbaa
/- The document's list of a trie in memory, and beside a trie. Each theorem states its conditions. -/
namespace Go.Proofs.Ytjnbemopfhinbaa
open Go.RowKit
set_option linter.unusedVariables false
set_option linter.unusedSimpArgs false

/-- a key that a prefix has -/
def KOk (k : Ky) : Prop := ∃ (n : Nat) (z : Nat → Int), Bytes z ∧ Form (famB k.1) (n : Int) z ∧ btP n z = k.2
/-- a key's prefix -/
noncomputable def kyPf (k : Ky) : Pf := ⟨famB k.1, (k.2.length : Nat), zOf k.2⟩
theorem kok_form {k : Ky} (h : KOk k) : Form (famB k.1) (k.2.length : Nat) (zOf k.2) ∧ btP k.2.length (zOf k.2) = k.2 := by
  obtain ⟨n, z, hz, hf, e⟩ := h
  have hx : ∃ z' : Nat → Int, Bytes z' ∧ (∃ fam' n', Form fam' (n' : Nat) z' ∧ btP n' z' = k.2) := ⟨z, hz, _, n, hf, e⟩
  have hzx : zOf k.2 = Classical.choose hx := dif_pos hx
  obtain ⟨q1, fam', n', q2, q3⟩ := Classical.choose_spec hx
  obtain ⟨a1, a2⟩ := (btP_eq q1 hz q2 hf).1 (q3.trans e.symm)
  have hlen : k.2.length = n' := by rw [← q3, btP_len]
  rw [hzx, hlen]
  exact ⟨(form_same _ _ _).2 ⟨by rw [a1]; exact hf.1, ((form_same fam' n' _).1 q2).2⟩, q3⟩
theorem ky_pf {fam len : Int} {z : Nat → Int} {k : Ky} (hz : Bytes z) (hk : kyP fam len z = some k) : KOk k ∧ pvC fam len z = pfC (kyPf k) := by
  by_cases hf : Form fam len z
  · obtain ⟨n, rfl, hn⟩ := form_nat hf
    obtain ⟨pl, rfl, e⟩ := ky_yes hf
    rw [e] at hk
    cases hk
    exact ⟨⟨n, z, hz, hf, rfl⟩, pv_of hz hf⟩
  · rw [ky_no hf] at hk; cases hk
theorem ky_some {fam len : Int} {z : Nat → Int} {k : Ky} (h : kyP fam len z = some k) : Form fam len z := by
  by_cases hf : Form fam len z
  · exact hf
  · rw [ky_no hf] at h; cases h
theorem kok_len {k : Ky} (h : KOk k) : k.2.length ≤ 128 := form_len (kok_form h).1
theorem famB_inj : ∀ {a b : Bool}, famB a = famB b → a = b
  | false, false, _ => rfl
  | true, true, _ => rfl
  | false, true, h => absurd h (by decide)
  | true, false, h => absurd h (by decide)
/-- the one covers the other -/
def cvQ (b a : Ky) : Bool := decide (a.1 = b.1 ∧ a.2 <+: b.2)
theorem covK {a b : Ky} (ha : KOk a) (hb : KOk b) (w : World) : Calls Try.prog 68 #[.agg (pfC (kyPf a)), .agg (pfC (kyPf b))] w fun e w' => e = .returned (.bool (cvQ b a)) ∧ Below w.heap.size w w' := by
  obtain ⟨fa, ea⟩ := kok_form ha
  obtain ⟨fb, eb⟩ := kok_form hb
  have la := kok_len ha
  obtain ⟨pa, xa⟩ := a
  obtain ⟨pb, xb⟩ := b
  simp only at fa ea fb eb la
  unfold cvQ
  show Calls _ _ #[.agg (pvC (famB pa) (xa.length : Nat) (zOf xa)), .agg (pvC (famB pb) (xb.length : Nat) (zOf xb))] w _
  simp only
  by_cases e : pa = pb
  · subst e
    by_cases hl : xa.length ≤ xb.length
    · have h := rcov_same (famB pa) xa.length (xb.length : Nat) (zOf xa) (zOf xb) w (zOf_b xa) (zOf_b xb) la (Int.ofNat_le.2 hl)
      have h2 : SameTo xa.length (zOf xa) (zOf xb) ↔ xa <+: xb := by
        rw [← covers_bits (famB pa) xa.length (zOf xa) (zOf xb) (zOf_b xa) (zOf_b xb) fa]
        have h3 := cov_bits (zOf_b xa) (zOf_b xb) fa fb
        rw [ea, eb] at h3
        unfold covB at h3
        rw [decide_eq_true_iff, Int.toNat_natCast] at h3
        constructor
        · intro h9; exact (h3.1 ⟨rfl, Int.ofNat_le.2 hl, h9⟩).2
        · intro h9; exact (h3.2 ⟨rfl, h9⟩).2.2
      have h4 : decide (SameTo xa.length (zOf xa) (zOf xb)) = decide (pa = pa ∧ xa <+: xb) := decide_eq_decide.2 (by rw [h2]; simp)
      rw [h4] at h
      exact h
    · have h := rcov_len (famB pa) (xa.length : Nat) (xb.length : Nat) (zOf xa) (zOf xb) w (Int.ofNat_lt.2 (by omega))
      rw [decide_eq_false (fun h9 : pa = pa ∧ xa <+: xb => hl h9.2.length_le)]
      exact h
  · have h := rcov_fam (famB pa) (xa.length : Nat) (famB pb) (xb.length : Nat) (zOf xa) (zOf xb) w (fun h9 => e (famB_inj h9))
    rw [decide_eq_false (fun h9 : pa = pb ∧ xa <+: xb => e h9.1)]
    exact h

/-- an item's cells -/
def itC (p : Pf) (v : Int) : Array Value := #[.int .u8 p.fam, .int .i64 p.len, .int .u8 (p.z 0), .int .u8 (p.z 1), .int .u8 (p.z 2), .int .u8 (p.z 3), .int .u8 (p.z 4), .int .u8 (p.z 5), .int .u8 (p.z 6), .int .u8 (p.z 7), .int .u8 (p.z 8), .int .u8 (p.z 9), .int .u8 (p.z 10), .int .u8 (p.z 11), .int .u8 (p.z 12), .int .u8 (p.z 13), .int .u8 (p.z 14), .int .u8 (p.z 15), .int .i64 v]
noncomputable def itK (x : It) : Array Value := itC (kyPf x.1) x.2
noncomputable def itB (D : List It) (j : Nat) : Array Value := itK (D.getD j it0)
/-- the document's trie -/
structure DocAt (w : World) (x : Nat) (D : List It) : Prop where
  ok : ∀ y, y ∈ D → KOk y.1
  ex : ∃ A c, Blk 30 w x #[.slice A D.length c] ∧ D.length ≤ c ∧ c ≤ maxLen ∧ (A = none → D.length = 0 ∧ c = 0) ∧ RdR w A D.length 19 (itB D) ∧ ∀ b o, A = some ⟨b, o, none⟩ → ∃ cur, Blk 96 w b cur
theorem DocAt.lt {w : World} {x : Nat} {D : List It} (h : DocAt w x D) : x < w.heap.size := by
  obtain ⟨A, c, h1, _⟩ := h.ex
  exact h1.lt
theorem DocAt.keep {w w' : World} {x : Nat} {D : List It} (h : DocAt w x D) (hx : w'.heap[x]? = w.heap[x]?) (hk : ∀ b cur, Blk 96 w b cur → w'.heap[b]? = w.heap[b]?) : DocAt w' x D := by
  obtain ⟨A, c, h1, h2, h3, h4, h5, h6⟩ := h.ex
  refine ⟨h.ok, A, c, hx.trans h1, h2, h3, h4, ?_, fun b o e => ?_⟩
  · rcases h5 with h0 | ⟨b, o, e, hl, hr⟩
    · exact .inl h0
    · obtain ⟨cur, hc⟩ := h6 b o e
      have hc' : Blk 96 w' b cur := (hk b cur hc).trans hc
      refine .inr ⟨b, o, e, hc'.lt, fun j hj i u hu => ?_⟩
      have h3 := hr j hj i u hu
      rw [hc.cell] at h3
      rw [hc'.cell]
      exact h3
  · obtain ⟨cur, hc⟩ := h6 b o e
    exact ⟨cur, (hk b cur hc).trans hc⟩
theorem DocAt.below {w w' : World} {x : Nat} {D : List It} (h : DocAt w x D) (hb : Below w.heap.size w w') : DocAt w' x D := h.keep (hb.block x h.lt) fun b cur hc => hb.block b hc.lt
/-- a block that no trie has -/
theorem t_ne {w : World} {g : Nat} {t : TypeId} {C : Array Value} {B s : Nat} {T : Ts} (hT : TsAt w B s T) (h : Blk t w g C) (h1 : t ≠ 106) (h2 : t ≠ 90) : g ∉ s :: T.fp := fun hm => by
  rcases List.mem_cons.1 hm with e | e
  · subst e
    have h3 : w.heap[g]? = _ := h
    have h4 : w.heap[g]? = _ := hT.blk
    rw [h3] at h4
    injection h4 with h4
    injection h4 with _ h4 _
    exact h2 h4
  · exact ts_not h h1 hT e
theorem DocAt.kp {w w' : World} {x B s : Nat} {D : List It} {T : Ts} (h : DocAt w x D) (hT : TsAt w B s T) (k : Kp (s :: T.fp) w w') : DocAt w' x D := by
  obtain ⟨A, c, h1, _⟩ := h.ex
  exact h.keep (k.block x h1.lt (t_ne hT h1 (by decide) (by decide))) fun b cur hc => k.block b hc.lt (t_ne hT hc (by decide) (by decide))
theorem TsAt.doc {w w' : World} {x B s : Nat} {D : List It} {T : Ts} (hT : TsAt w B s T) (h : DocAt w x D) (k : Kp [x] w w') : TsAt w' B s T := by
  obtain ⟨A, c, h1, _⟩ := h.ex
  have h9 := t_ne hT h1 (by decide) (by decide)
  refine hT.kp k (fun e => h9 ?_) (fun y hy e => h9 ?_)
  · rw [← List.mem_singleton.1 e]; exact List.mem_cons_self ..
  · rw [← List.mem_singleton.1 e]; exact List.mem_cons_of_mem _ hy

/-- the list of a trie, as the document has it -/
def Ts.keys (T : Ts) : List Ky := T.h4.bits.lst.map (fun x => (false, x)) ++ T.h6.bits.lst.map (fun x => (true, x))
def Ts.doc (T : Ts) : List It := T.keys.map (fun k => (k, (T.G k).getD 0))
theorem keys_mem {T : Ts} (ho : TsOk T) (k : Ky) : k ∈ T.keys ↔ T.G k ≠ none := by
  obtain ⟨pl, x⟩ := k
  unfold Ts.keys
  rw [List.mem_append, List.mem_map, List.mem_map]
  cases pl
  · constructor
    · rintro (⟨y, hy, e⟩ | ⟨y, hy, e⟩)
      · cases e; exact (Tr.lst_mem ho.o4).1 hy
      · cases e
    · intro h; exact .inl ⟨x, (Tr.lst_mem ho.o4).2 h, rfl⟩
  · constructor
    · rintro (⟨y, hy, e⟩ | ⟨y, hy, e⟩)
      · cases e
      · cases e; exact (Tr.lst_mem ho.o6).1 hy
    · intro h; exact .inr ⟨x, (Tr.lst_mem ho.o6).2 h, rfl⟩
theorem doc_mem {T : Ts} (ho : TsOk T) (k : Ky) (v : Int) : (k, v) ∈ T.doc ↔ T.G k = some v := by
  unfold Ts.doc
  rw [List.mem_map]
  constructor
  · rintro ⟨q, hq, e⟩
    have h1 := (keys_mem ho q).1 hq
    obtain ⟨e1, e2⟩ := Prod.mk.inj e
    subst e1
    cases hg : T.G q with
    | none => exact absurd hg h1
    | some y => rw [hg] at e2; rw [← e2]; rfl
  · intro h
    exact ⟨k, (keys_mem ho k).2 (by rw [h]; simp), by rw [h]; rfl⟩
/-- what is found, by the list -/
noncomputable def fnQ (pl : Bool) (z : Nat → Int) (D : List It) : Option It := bst (cvQ (pl, btP (lenB pl) (whZ pl z))) none D
theorem doc_find {T : Ts} (ho : TsOk T) (pl : Bool) (z : Nat → Int) : T.F pl z = (fnQ pl z T.doc).map (fun x => (x.1.2, x.2)) := by
  unfold fnQ
  have hm : ∀ y, y ∈ T.doc ↔ T.G y.1 = some y.2 := fun y => doc_mem ho y.1 y.2
  rcases Tr.lng_spec (p := btP (lenB pl) (whZ pl z)) none (ho.o pl) with ⟨h1, h2⟩ | ⟨x, v, h1, h2, h3, h4⟩
  · rw [show T.F pl z = none from h1]
    rcases bst_spec (cvQ (pl, btP (lenB pl) (whZ pl z))) T.doc none with ⟨g1, g2⟩ | ⟨y, g1, g2, g3, g4, g5⟩
    · rw [g1]; rfl
    · exfalso
      unfold cvQ at g3
      rw [decide_eq_true_iff] at g3
      obtain ⟨e1, e2⟩ := g3
      have := (hm y).1 g1
      refine h2 y.1.2 ?_ e2
      show Tr.get (T.h pl).bits y.1.2 ≠ none
      have e3 : T.G y.1 = Tr.get (T.h y.1.1).bits y.1.2 := rfl
      rw [e1] at e3
      simp only at e3
      rw [← e3, this]; simp
  · rw [show T.F pl z = some (x, v) from h1]
    have hx : ((pl, x), v) ∈ T.doc := (doc_mem ho (pl, x) v).2 h2
    have hpx : cvQ (pl, btP (lenB pl) (whZ pl z)) (pl, x) = true := decide_eq_true ⟨rfl, h3⟩
    rcases bst_spec (cvQ (pl, btP (lenB pl) (whZ pl z))) T.doc none with ⟨g1, g2⟩ | ⟨y, g1, g2, g3, g4, g5⟩
    · obtain ⟨a, e, _⟩ := g2 _ hx hpx; cases e
    · rw [g2]
      unfold cvQ at g3
      rw [decide_eq_true_iff] at g3
      obtain ⟨e1, e2⟩ := g3
      have hy := (hm y).1 g1
      have e3 : T.G y.1 = Tr.get (T.h y.1.1).bits y.1.2 := rfl
      rw [e1] at e3
      simp only at e3
      have l1 := g4 _ hx hpx
      have l2 := h4 y.1.2 (by rw [← e3, hy]; simp) e2
      have e4 : x = y.1.2 := Tr.pre_uniq h3 e2 (Nat.le_antisymm l1 l2)
      subst e4
      rw [hy] at e3
      rw [← e3] at h2
      show some (y.1.2, v) = some (y.1.2, y.2)
      rw [Option.some.inj h2]
end Go.Proofs.Ytjnbemopfhinbaa
