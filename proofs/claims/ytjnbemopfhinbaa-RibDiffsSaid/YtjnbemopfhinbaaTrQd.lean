/- The document's list of a trie in memory, and beside a trie. Each theorem states its conditions. -/
import Derived.Test.YtjnbemopfhinbaaTrRx
import Derived.Test.YtjnbemopfhinbaaTrQ
namespace Go.Proofs.Ytjnbemopfhinbaa
open Go.RowKit
set_option linter.unusedVariables false
set_option linter.unusedSimpArgs false

/-- a key that a prefix has -/
def KOk (k : Ky) : Prop := ∃ (n : Nat) (z : Nat → Int), Bytes z ∧ Form (famB k.1) (n : Int) z ∧ btP n z = k.2
/-- a key's prefix -/
noncomputable def kyPf (k : Ky) : Pf := ⟨famB k.1, (k.2.length : Nat), zOf k.2⟩
theorem kyPf_b (k : Ky) : Bytes (kyPf k).z := zOf_b k.2
theorem kok_form {k : Ky} (h : KOk k) : Form (famB k.1) (k.2.length : Nat) (zOf k.2) ∧ btP k.2.length (zOf k.2) = k.2 := by
  obtain ⟨n, z, hz, hf, e⟩ := h
  have hx : ∃ z' : Nat → Int, Bytes z' ∧ (∃ fam' n', Form fam' (n' : Nat) z' ∧ btP n' z' = k.2) := ⟨z, hz, _, n, hf, e⟩
  have hzx : zOf k.2 = Classical.choose hx := dif_pos hx
  obtain ⟨q1, fam', n', q2, q3⟩ := Classical.choose_spec hx
  obtain ⟨a1, a2⟩ := (btP_eq q1 hz q2 hf).1 (q3.trans e.symm)
  have hlen : k.2.length = n' := by rw [← q3, btP_len]
  rw [hzx, hlen]
  exact ⟨(form_same _ _ _).2 ⟨by rw [a1]; exact hf.1, ((form_same fam' n' _).1 q2).2⟩, q3⟩
theorem ky_pf {fam len : Int} {z : Nat → Int} {k : Ky} (hz : Bytes z) (hk : kyP fam len z = some k) : KOk k ∧ pvC fam len z = pfC (kyPf k) := by
  by_cases hf : Form fam len z
  · obtain ⟨n, rfl, hn⟩ := form_nat hf
    obtain ⟨pl, rfl, e⟩ := ky_yes hf
    rw [e] at hk
    cases hk
    exact ⟨⟨n, z, hz, hf, rfl⟩, pv_of hz hf⟩
  · rw [ky_no hf] at hk; cases hk
theorem ky_none {fam len : Int} {z : Nat → Int} (h : kyP fam len z = none) : ¬ Form fam len z := fun hf => by
  obtain ⟨n, rfl, hn⟩ := form_nat hf
  obtain ⟨pl, rfl, e⟩ := ky_yes hf
  rw [e] at h; cases h
theorem ky_some {fam len : Int} {z : Nat → Int} {k : Ky} (h : kyP fam len z = some k) : Form fam len z := by
  by_cases hf : Form fam len z
  · exact hf
  · rw [ky_no hf] at h; cases h
theorem kok_len {k : Ky} (h : KOk k) : k.2.length ≤ 128 := form_len (kok_form h).1
theorem famB_inj : ∀ {a b : Bool}, famB a = famB b → a = b
  | false, false, _ => rfl
  | true, true, _ => rfl
  | false, true, h => absurd h (by decide)
  | true, false, h => absurd h (by decide)
theorem kok_eq {a b : Ky} (ha : KOk a) (hb : KOk b) : decide ((kyPf a).fam = (kyPf b).fam ∧ (kyPf a).len = (kyPf b).len ∧ Same16 (kyPf a).z (kyPf b).z) = decide (a = b) := by
  by_cases e : a = b
  · subst e
    exact (decide_eq_true ⟨rfl, rfl, fun j hj => rfl⟩).trans (decide_eq_true rfl).symm
  · rw [decide_eq_false e]
    refine decide_eq_false fun ⟨h1, h2, h3⟩ => e ?_
    have e1 := famB_inj h1
    obtain ⟨fa, ea⟩ := kok_form ha
    obtain ⟨fb, eb⟩ := kok_form hb
    have e2 := (btP_eq (zOf_b a.2) (zOf_b b.2) fa fb).2 ⟨Int.ofNat.inj h2, h3⟩
    rw [ea, eb] at e2
    exact Prod.ext e1 e2
theorem key_ltQ {a b : Ky} (ha : KOk a) (hb : KOk b) : decide (keyP (kyPf a).fam (kyPf a).len (kyPf a).z < keyP (kyPf b).fam (kyPf b).len (kyPf b).z) = ltQ a b := by
  obtain ⟨fa, ea⟩ := kok_form ha
  obtain ⟨fb, eb⟩ := kok_form hb
  have la := kok_len ha
  have lb := kok_len hb
  obtain ⟨pa, xa⟩ := a
  obtain ⟨pb, xb⟩ := b
  show decide (keyP (famB pa) (xa.length : Nat) (zOf xa) < keyP (famB pb) (xb.length : Nat) (zOf xb)) = ltQ (pa, xa) (pb, xb)
  simp only at fa ea fb eb la lb
  unfold ltQ
  simp only
  by_cases e : pa = pb
  · subst e
    rw [if_pos rfl]
    have h := key_ltB (zOf_b xa) (zOf_b xb) fa fb
    rw [ea, eb] at h
    cases hb9 : Tr.ltB xa xb
    · exact decide_eq_false (fun h9 => by rw [h.1 h9] at hb9; cases hb9)
    · exact decide_eq_true (h.2 hb9)
  · rw [if_neg e]
    cases pb
    · cases pa
      · exact absurd rfl e
      · refine decide_eq_false fun h9 => ?_
        have := lt_fam (zOf_b xb) (zOf_b xa) (len := (xb.length : Nat)) (len' := (xa.length : Nat)) (fam := 4) (fam' := 6) ⟨Int.natCast_nonneg _, by omega⟩ ⟨Int.natCast_nonneg xa.length, by omega⟩ (by decide)
        exact absurd h9 (Int.lt_asymm this)
    · cases pa
      · exact decide_eq_true (lt_fam (zOf_b xa) (zOf_b xb) (fam := 4) (fam' := 6) ⟨Int.natCast_nonneg _, by omega⟩ ⟨Int.natCast_nonneg xb.length, by omega⟩ (by decide))
      · exact absurd rfl e
theorem lessK {a b : Ky} (ha : KOk a) (hb : KOk b) (w : World) : Calls Try.prog 47 #[.agg (pfC (kyPf a)), .agg (pfC (kyPf b))] w fun e w' => e = .returned (.bool (ltQ a b)) ∧ Below w.heap.size w w' := by
  have h := less_any (kyPf a).fam (kyPf a).len (kyPf a).z (kyPf b).fam (kyPf b).len (kyPf b).z w (kyPf_b a) (kyPf_b b) ⟨Int.natCast_nonneg _, Int.ofNat_le.2 (kok_len ha)⟩ ⟨Int.natCast_nonneg _, Int.ofNat_le.2 (kok_len hb)⟩
  rw [key_ltQ ha hb] at h
  exact h
/-- the one covers the other -/
def cvQ (b a : Ky) : Bool := decide (a.1 = b.1 ∧ a.2 <+: b.2)
theorem covK {a b : Ky} (ha : KOk a) (hb : KOk b) (w : World) : Calls Try.prog 68 #[.agg (pfC (kyPf a)), .agg (pfC (kyPf b))] w fun e w' => e = .returned (.bool (cvQ b a)) ∧ Below w.heap.size w w' := by
  obtain ⟨fa, ea⟩ := kok_form ha
  obtain ⟨fb, eb⟩ := kok_form hb
  have la := kok_len ha
  obtain ⟨pa, xa⟩ := a
  obtain ⟨pb, xb⟩ := b
  simp only at fa ea fb eb la
  unfold cvQ
  show Calls _ _ #[.agg (pvC (famB pa) (xa.length : Nat) (zOf xa)), .agg (pvC (famB pb) (xb.length : Nat) (zOf xb))] w _
  simp only
  by_cases e : pa = pb
  · subst e
    by_cases hl : xa.length ≤ xb.length
    · have h := rcov_same (famB pa) xa.length (xb.length : Nat) (zOf xa) (zOf xb) w (zOf_b xa) (zOf_b xb) la (Int.ofNat_le.2 hl)
      have h2 : SameTo xa.length (zOf xa) (zOf xb) ↔ xa <+: xb := by
        rw [← covers_bits (famB pa) xa.length (zOf xa) (zOf xb) (zOf_b xa) (zOf_b xb) fa]
        have h3 := cov_bits (zOf_b xa) (zOf_b xb) fa fb
        rw [ea, eb] at h3
        unfold covB at h3
        rw [decide_eq_true_iff, Int.toNat_natCast] at h3
        constructor
        · intro h9; exact (h3.1 ⟨rfl, Int.ofNat_le.2 hl, h9⟩).2
        · intro h9; exact (h3.2 ⟨rfl, h9⟩).2.2
      have h4 : decide (SameTo xa.length (zOf xa) (zOf xb)) = decide (pa = pa ∧ xa <+: xb) := decide_eq_decide.2 (by rw [h2]; simp)
      rw [h4] at h
      exact h
    · have h := rcov_len (famB pa) (xa.length : Nat) (xb.length : Nat) (zOf xa) (zOf xb) w (Int.ofNat_lt.2 (by omega))
      rw [decide_eq_false (fun h9 : pa = pa ∧ xa <+: xb => hl h9.2.length_le)]
      exact h
  · have h := rcov_fam (famB pa) (xa.length : Nat) (famB pb) (xb.length : Nat) (zOf xa) (zOf xb) w (fun h9 => e (famB_inj h9))
    rw [decide_eq_false (fun h9 : pa = pb ∧ xa <+: xb => e h9.1)]
    exact h

/-- an item's cells -/
def itC (p : Pf) (v : Int) : Array Value := #[.int .u8 p.fam, .int .i64 p.len, .int .u8 (p.z 0), .int .u8 (p.z 1), .int .u8 (p.z 2), .int .u8 (p.z 3), .int .u8 (p.z 4), .int .u8 (p.z 5), .int .u8 (p.z 6), .int .u8 (p.z 7), .int .u8 (p.z 8), .int .u8 (p.z 9), .int .u8 (p.z 10), .int .u8 (p.z 11), .int .u8 (p.z 12), .int .u8 (p.z 13), .int .u8 (p.z 14), .int .u8 (p.z 15), .int .i64 v]
noncomputable def itK (x : It) : Array Value := itC (kyPf x.1) x.2
noncomputable def itB (D : List It) (j : Nat) : Array Value := itK (D.getD j it0)
theorem itC_ones (p : Pf) (v : Int) : ∀ u ∈ (itC p v).toList, u.oneCell' = true := fun u hu => by
  simp only [itC, List.mem_cons, List.not_mem_nil, or_false] at hu
  rcases hu with rfl | rfl | rfl | rfl | rfl | rfl | rfl | rfl | rfl | rfl | rfl | rfl | rfl | rfl | rfl | rfl | rfl | rfl | rfl <;> rfl
theorem itB_recs (D : List It) : Recs 19 (itB D) := fun j => ⟨rfl, itC_ones _ _⟩
theorem itC_recs (p : Pf) (v : Int) : Recs 19 (fun _ => itC p v) := fun j => ⟨rfl, itC_ones _ _⟩
theorem itB_at {D : List It} {j : Nat} {x : It} (h : D[j]? = some x) : itB D j = itK x := by
  unfold itB
  rw [List.getD_eq_getElem?_getD, h]; rfl
theorem it_snoc (S : List It) (x : It) : ∀ j, j < S.length + 1 → catR (itB S) S.length (fun _ => itK x) j = itB (S ++ [x]) j := by
  intro j hj
  unfold catR itB
  by_cases h : j < S.length
  · rw [if_pos h, List.getD_eq_getElem?_getD, List.getD_eq_getElem?_getD, List.getElem?_append_left h]
  · rw [if_neg h, show j = S.length by omega]
    simp
theorem info_itE : (Try.prog.info? 96).map (fun i => (i.zero, i.size, i.bytes)) = some (some (.agg (itC ⟨0, 0, Z0⟩ 0)), 19, 40) := by kernel_rfl
theorem info_it : (Try.prog.info? 96).map (·.size) = some 19 := by kernel_rfl
theorem zero_it : (Try.prog.info? 96).map (·.zero) = some (some (.agg (itC ⟨0, 0, Z0⟩ 0))) := by kernel_rfl
theorem it_one (p : Pf) (v : Int) : (itC p v).all (·.oneCell') = true := by kernel_rfl
theorem it_over (p : Pf) (v : Int) : putMany (itC ⟨0, 0, Z0⟩ 0) 0 (itC p v).toList = itC p v := by kernel_rfl
theorem bs_it (W : World) (o : Oper) (e : Operand → Value) {x : Operand} (ho : o.op = .buildSlice 28 1 #[(0, x)]) (p : Pf) (v : Int) (h0 : e x = .agg (itC p v)) : (execOp e o).run Try.prog W = .ok (.value (.slice (some ⟨W.heap.size, 0, none⟩) 1 1)) (W.alloc (.cells (itC p v) 96)) := by
  unfold execOp
  simp only [ho]
  simp only [List.map_toArray, List.map_cons, List.map_nil, h0]
  kernel_rfl
theorem it_pre (p : Pf) (v : Int) (j : Nat) (hj : j < 18) : (itC p v)[j]? = (pfC p)[j]? := by
  rcases (by omega : j = 0 ∨ j = 1 ∨ j = 2 ∨ j = 3 ∨ j = 4 ∨ j = 5 ∨ j = 6 ∨ j = 7 ∨ j = 8 ∨ j = 9 ∨ j = 10 ∨ j = 11 ∨ j = 12 ∨ j = 13 ∨ j = 14 ∨ j = 15 ∨ j = 16 ∨ j = 17) with rfl | rfl | rfl | rfl | rfl | rfl | rfl | rfl | rfl | rfl | rfl | rfl | rfl | rfl | rfl | rfl | rfl | rfl <;> rfl
theorem it_pfr {w : World} {b off : Nat} {p : Pf} {v : Int} (h : w.rangeAt b off (itC p v).toList) : w.rangeAt b off (pfC p).toList := by
  intro j u hu
  have h18 : j < 18 := (List.getElem?_eq_some_iff.1 hu).1
  refine h j u ?_
  have e := it_pre p v j h18
  rw [← Array.getElem?_toList, ← Array.getElem?_toList] at e
  rw [e]; exact hu
theorem it_vr {w : World} {b off : Nat} {p : Pf} {v : Int} (h : w.rangeAt b off (itC p v).toList) : w.cell? ⟨b, off + 18, none⟩ = some (.int .i64 v) := h 18 _ rfl
theorem it_lr {w : World} {b off : Nat} {p : Pf} {v : Int} (h : w.rangeAt b off (itC p v).toList) : w.cell? ⟨b, off + 1, none⟩ = some (.int .i64 p.len) := h 1 _ rfl
theorem Blk.itpf {w : World} {g : Nat} {p : Pf} {v : Int} (h : Blk 96 w g (itC p v)) : w.rangeAt g 0 (pfC p).toList := it_pfr h.all

/-- the document's trie -/
structure DocAt (w : World) (x : Nat) (D : List It) : Prop where
  ok : ∀ y, y ∈ D → KOk y.1
  ex : ∃ A c, Blk 30 w x #[.slice A D.length c] ∧ D.length ≤ c ∧ c ≤ maxLen ∧ (A = none → D.length = 0 ∧ c = 0) ∧ RdR w A D.length 19 (itB D) ∧ ∀ b o, A = some ⟨b, o, none⟩ → ∃ cur, Blk 96 w b cur
theorem DocAt.lt {w : World} {x : Nat} {D : List It} (h : DocAt w x D) : x < w.heap.size := by
  obtain ⟨A, c, h1, _⟩ := h.ex
  exact h1.lt
theorem DocAt.keep {w w' : World} {x : Nat} {D : List It} (h : DocAt w x D) (hx : w'.heap[x]? = w.heap[x]?) (hk : ∀ b cur, Blk 96 w b cur → w'.heap[b]? = w.heap[b]?) : DocAt w' x D := by
  obtain ⟨A, c, h1, h2, h3, h4, h5, h6⟩ := h.ex
  refine ⟨h.ok, A, c, hx.trans h1, h2, h3, h4, ?_, fun b o e => ?_⟩
  · rcases h5 with h0 | ⟨b, o, e, hl, hr⟩
    · exact .inl h0
    · obtain ⟨cur, hc⟩ := h6 b o e
      have hc' : Blk 96 w' b cur := (hk b cur hc).trans hc
      refine .inr ⟨b, o, e, hc'.lt, fun j hj i u hu => ?_⟩
      have h3 := hr j hj i u hu
      rw [hc.cell] at h3
      rw [hc'.cell]
      exact h3
  · obtain ⟨cur, hc⟩ := h6 b o e
    exact ⟨cur, (hk b cur hc).trans hc⟩
theorem DocAt.below {w w' : World} {x : Nat} {D : List It} (h : DocAt w x D) (hb : Below w.heap.size w w') : DocAt w' x D := h.keep (hb.block x h.lt) fun b cur hc => hb.block b hc.lt
/-- a block that no trie has -/
theorem t_ne {w : World} {g : Nat} {t : TypeId} {C : Array Value} {B s : Nat} {T : Ts} (hT : TsAt w B s T) (h : Blk t w g C) (h1 : t ≠ 106) (h2 : t ≠ 90) : g ∉ s :: T.fp := fun hm => by
  rcases List.mem_cons.1 hm with e | e
  · subst e
    have h3 : w.heap[g]? = _ := h
    have h4 : w.heap[g]? = _ := hT.blk
    rw [h3] at h4
    injection h4 with h4
    injection h4 with _ h4 _
    exact h2 h4
  · exact ts_not h h1 hT e
theorem DocAt.kp {w w' : World} {x B s : Nat} {D : List It} {T : Ts} (h : DocAt w x D) (hT : TsAt w B s T) (k : Kp (s :: T.fp) w w') : DocAt w' x D := by
  obtain ⟨A, c, h1, _⟩ := h.ex
  exact h.keep (k.block x h1.lt (t_ne hT h1 (by decide) (by decide))) fun b cur hc => k.block b hc.lt (t_ne hT hc (by decide) (by decide))
theorem TsAt.doc {w w' : World} {x B s : Nat} {D : List It} {T : Ts} (hT : TsAt w B s T) (h : DocAt w x D) (k : Kp [x] w w') : TsAt w' B s T := by
  obtain ⟨A, c, h1, _⟩ := h.ex
  have h9 := t_ne hT h1 (by decide) (by decide)
  refine hT.kp k (fun e => h9 ?_) (fun y hy e => h9 ?_)
  · rw [← List.mem_singleton.1 e]; exact List.mem_cons_self ..
  · rw [← List.mem_singleton.1 e]; exact List.mem_cons_of_mem _ hy

/-- the list of a trie, as the document has it -/
def Ts.keys (T : Ts) : List Ky := T.h4.bits.lst.map (fun x => (false, x)) ++ T.h6.bits.lst.map (fun x => (true, x))
def Ts.doc (T : Ts) : List It := T.keys.map (fun k => (k, (T.G k).getD 0))
theorem keys_mem {T : Ts} (ho : TsOk T) (k : Ky) : k ∈ T.keys ↔ T.G k ≠ none := by
  obtain ⟨pl, x⟩ := k
  unfold Ts.keys
  rw [List.mem_append, List.mem_map, List.mem_map]
  cases pl
  · constructor
    · rintro (⟨y, hy, e⟩ | ⟨y, hy, e⟩)
      · cases e; exact (Tr.lst_mem ho.o4).1 hy
      · cases e
    · intro h; exact .inl ⟨x, (Tr.lst_mem ho.o4).2 h, rfl⟩
  · constructor
    · rintro (⟨y, hy, e⟩ | ⟨y, hy, e⟩)
      · cases e
      · cases e; exact (Tr.lst_mem ho.o6).1 hy
    · intro h; exact .inr ⟨x, (Tr.lst_mem ho.o6).2 h, rfl⟩
theorem doc_mem {T : Ts} (ho : TsOk T) (k : Ky) (v : Int) : (k, v) ∈ T.doc ↔ T.G k = some v := by
  unfold Ts.doc
  rw [List.mem_map]
  constructor
  · rintro ⟨q, hq, e⟩
    have h1 := (keys_mem ho q).1 hq
    obtain ⟨e1, e2⟩ := Prod.mk.inj e
    subst e1
    cases hg : T.G q with
    | none => exact absurd hg h1
    | some y => rw [hg] at e2; rw [← e2]; rfl
  · intro h
    exact ⟨k, (keys_mem ho k).2 (by rw [h]; simp), by rw [h]; rfl⟩
theorem doc_asc {T : Ts} (ho : TsOk T) : AscD T.doc := by
  unfold AscD Ts.doc
  rw [List.pairwise_map]
  unfold Ts.keys
  rw [List.pairwise_append, List.pairwise_map, List.pairwise_map]
  refine ⟨(Tr.lst_asc ho.o4).imp fun {a b} h => ?_, (Tr.lst_asc ho.o6).imp fun {a b} h => ?_, fun a ha b hb => ?_⟩
  · show ltQ (false, a) (false, b) = true
    unfold ltQ; rw [if_pos rfl]; exact h
  · show ltQ (true, a) (true, b) = true
    unfold ltQ; rw [if_pos rfl]; exact h
  · obtain ⟨x, _, rfl⟩ := List.mem_map.1 ha
    obtain ⟨y, _, rfl⟩ := List.mem_map.1 hb
    rfl
theorem doc_len (T : Ts) : T.doc.length = T.cnt := by
  unfold Ts.doc Ts.keys Ts.cnt
  rw [List.length_map, List.length_append, List.length_map, List.length_map]
theorem doc_ins {T T' : Ts} (ho : TsOk T) (ho' : TsOk T') {k : Ky} {v : Int} (hg : ∀ q, T'.G q = if some k = some q then some v else T.G q) : T'.doc = insL k v (wo k T.doc) := by
  refine asc_eq (doc_asc ho') (asc_insL (asc_wo (doc_asc ho)) (fun x hx => (mem_wo.1 hx).2)) fun x => ?_
  obtain ⟨q, u⟩ := x
  rw [doc_mem ho', mem_insL, mem_wo, doc_mem ho, hg]
  by_cases e : k = q
  · subst e
    rw [if_pos rfl]
    constructor
    · intro h; left; rw [Option.some.inj h]
    · rintro (h | ⟨_, h⟩)
      · rw [(Prod.mk.inj h).2]
      · exact absurd rfl h
  · rw [if_neg (fun h => e (Option.some.inj h))]
    constructor
    · intro h; exact .inr ⟨h, fun h9 => e h9.symm⟩
    · rintro (h | ⟨h, _⟩)
      · exact absurd (Prod.mk.inj h).1.symm e
      · exact h
theorem doc_del {T T' : Ts} (ho : TsOk T) (ho' : TsOk T') {k : Ky} (hg : ∀ q, T'.G q = if some k = some q then none else T.G q) : T'.doc = wo k T.doc := by
  refine asc_eq (doc_asc ho') (asc_wo (doc_asc ho)) fun x => ?_
  obtain ⟨q, u⟩ := x
  rw [doc_mem ho', mem_wo, doc_mem ho, hg]
  by_cases e : k = q
  · subst e
    rw [if_pos rfl]
    constructor
    · intro h; cases h
    · rintro ⟨_, h⟩; exact absurd rfl h
  · rw [if_neg (fun h => e (Option.some.inj h))]
    exact ⟨fun h => ⟨h, fun h9 => e h9.symm⟩, fun h => h.1⟩
theorem doc_lk {T : Ts} (ho : TsOk T) (k : Ky) : lk k T.doc = T.G k := by
  cases h : T.G k with
  | some v => exact (lk_mem (doc_asc ho)).2 ((doc_mem ho k v).2 h)
  | none =>
    cases h9 : lk k T.doc with
    | none => rfl
    | some v =>
      have := (doc_mem ho k v).1 ((lk_mem (doc_asc ho)).1 h9)
      rw [h] at this; cases this
theorem hl_keys {w : World} {fam : Int} {t : Ht} (h : t.At w fam) {x : List Bool} (hx : x ∈ t.bits.lst) : ∃ p, p ∈ t.hl fam ∧ PfOk fam p ∧ btP p.len.toNat p.z = x := by
  rw [← Ht.hl_bits fam] at hx
  obtain ⟨p, hp, e⟩ := List.mem_map.1 hx
  exact ⟨p, hp, hl_ok h p hp, e⟩
theorem doc_kok {w : World} {B s : Nat} {T : Ts} (h : TsAt w B s T) : ∀ y, y ∈ T.doc → KOk y.1 := fun y hy => by
  unfold Ts.doc at hy
  obtain ⟨k, hk, rfl⟩ := List.mem_map.1 hy
  have key : ∀ (pl : Bool) (x : List Bool), x ∈ (T.h pl).bits.lst → KOk (pl, x) := fun pl x hx => by
    obtain ⟨p, _, ⟨h1, h2, n, h3, h4⟩, e⟩ := hl_keys (h.a pl) hx
    rw [h3, Int.toNat_natCast] at e
    exact ⟨n, p.z, h2, h4, e⟩
  unfold Ts.keys at hk
  rcases List.mem_append.1 hk with hk | hk
  · obtain ⟨x, hx, rfl⟩ := List.mem_map.1 hk; exact key false x hx
  · obtain ⟨x, hx, rfl⟩ := List.mem_map.1 hk; exact key true x hx
theorem hl_cells {fam : Int} {pl : Bool} (hp : famB pl = fam) : ∀ {S : List Pf}, (∀ p, p ∈ S → PfOk fam p) → S.map pfC = (S.map (fun p => btP p.len.toNat p.z)).map (fun x => pfC (kyPf (pl, x)))
  | [], _ => rfl
  | p :: S, h => by
    obtain ⟨a1, a2, n, a3, a4⟩ := h p (List.mem_cons_self ..)
    rw [List.map_cons, List.map_cons, List.map_cons, ← hl_cells hp (fun q hq => h q (List.mem_cons_of_mem _ hq))]
    congr 1
    show pvC p.fam p.len p.z = pvC (famB pl) ((btP p.len.toNat p.z).length : Nat) (zOf (btP p.len.toNat p.z))
    rw [a1, a3, Int.toNat_natCast, pv_of a2 a4, hp]
theorem doc_all {w : World} {B s : Nat} {T : Ts} (h : TsAt w B s T) : T.all.map pfC = T.doc.map (fun x => pfC (kyPf x.1)) := by
  unfold Ts.all Ts.doc Ts.keys
  have h4 := hl_cells (fam := 4) (pl := false) rfl (hl_ok h.a4)
  have h6 := hl_cells (fam := 6) (pl := true) rfl (hl_ok h.a6)
  rw [Ht.hl_bits] at h4 h6
  rw [List.map_append, List.map_map, List.map_append, List.map_map, List.map_map, h4, h6]
  rfl
/-- what is found, by the list -/
noncomputable def fnQ (pl : Bool) (z : Nat → Int) (D : List It) : Option It := bst (cvQ (pl, btP (lenB pl) (whZ pl z))) none D
theorem doc_find {T : Ts} (ho : TsOk T) (pl : Bool) (z : Nat → Int) : T.F pl z = (fnQ pl z T.doc).map (fun x => (x.1.2, x.2)) := by
  unfold fnQ
  have hm : ∀ y, y ∈ T.doc ↔ T.G y.1 = some y.2 := fun y => doc_mem ho y.1 y.2
  rcases Tr.lng_spec (p := btP (lenB pl) (whZ pl z)) none (ho.o pl) with ⟨h1, h2⟩ | ⟨x, v, h1, h2, h3, h4⟩
  · rw [show T.F pl z = none from h1]
    rcases bst_spec (cvQ (pl, btP (lenB pl) (whZ pl z))) T.doc none with ⟨g1, g2⟩ | ⟨y, g1, g2, g3, g4, g5⟩
    · rw [g1]; rfl
    · exfalso
      unfold cvQ at g3
      rw [decide_eq_true_iff] at g3
      obtain ⟨e1, e2⟩ := g3
      have := (hm y).1 g1
      refine h2 y.1.2 ?_ e2
      show Tr.get (T.h pl).bits y.1.2 ≠ none
      have e3 : T.G y.1 = Tr.get (T.h y.1.1).bits y.1.2 := rfl
      rw [e1] at e3
      simp only at e3
      rw [← e3, this]; simp
  · rw [show T.F pl z = some (x, v) from h1]
    have hx : ((pl, x), v) ∈ T.doc := (doc_mem ho (pl, x) v).2 h2
    have hpx : cvQ (pl, btP (lenB pl) (whZ pl z)) (pl, x) = true := decide_eq_true ⟨rfl, h3⟩
    rcases bst_spec (cvQ (pl, btP (lenB pl) (whZ pl z))) T.doc none with ⟨g1, g2⟩ | ⟨y, g1, g2, g3, g4, g5⟩
    · obtain ⟨a, e, _⟩ := g2 _ hx hpx; cases e
    · rw [g2]
      unfold cvQ at g3
      rw [decide_eq_true_iff] at g3
      obtain ⟨e1, e2⟩ := g3
      have hy := (hm y).1 g1
      have e3 : T.G y.1 = Tr.get (T.h y.1.1).bits y.1.2 := rfl
      rw [e1] at e3
      simp only at e3
      have l1 := g4 _ hx hpx
      have l2 := h4 y.1.2 (by rw [← e3, hy]; simp) e2
      have e4 : x = y.1.2 := Tr.pre_uniq h3 e2 (Nat.le_antisymm l1 l2)
      subst e4
      rw [hy] at e3
      rw [← e3] at h2
      show some (y.1.2, v) = some (y.1.2, y.2)
      rw [Option.some.inj h2]
end Go.Proofs.Ytjnbemopfhinbaa
