/- Two tables of one list: nothing is gone, nothing is new; a list laid over another one; routes appended behind routes. Each theorem states its conditions. -/
import Derived.Test.YtjnbemopfhinbaaRbLy
import Derived.Test.YtjnbemopfhinbaaRbCa
namespace Go.Proofs.Ytjnbemopfhinbaa
open Go.RowKit
set_option linter.unusedVariables false
set_option linter.unusedSimpArgs false

theorem alike_refl (x : Rt) : Alike x x := ⟨rfl, rfl, rfl, fun j _ => ⟨rfl, fun i _ => rfl⟩⟩
theorem gone_self {w : World} {m t s t2 s2 c c2 : Nat} {A A2 : Option Addr} {S S2 : List Rx} {T T2 : Ts} {Y : Nat → Rx} (h1 : TabAt w t s m A c S T) (h2 : TabAt w t2 s2 m A2 c2 S2 T2) (p1 : PermX m Y S) (p2 : PermX m Y S2) : goneL T2 S = [] := by
  refine List.eq_nil_iff_forall_not_mem.2 fun y hy => ?_
  obtain ⟨hm, hg⟩ := mem_gone.1 hy
  obtain ⟨i, hi, ei⟩ := mem_at hm
  rw [h1.len] at hi
  obtain ⟨q, hq, eq⟩ := p1.to i hi
  obtain ⟨k, k1, k2⟩ := (tab_keys h2 p2).1 q hq
  exact k2 (hg k (by rw [← ei, eq]; exact k1))
theorem new_self {w : World} {m t s t2 s2 c c2 : Nat} {A A2 : Option Addr} {S S2 : List Rx} {T T2 : Ts} {Y : Nat → Rx} (h1 : TabAt w t s m A c S T) (h2 : TabAt w t2 s2 m A2 c2 S2 T2) (p1 : PermX m Y S) (p2 : PermX m Y S2) (hx : ∀ i j, i < j → j < m → kyF (Y i).r.p ≠ kyF (Y j).r.p) : newL S T S2 = [] := by
  refine List.eq_nil_iff_forall_not_mem.2 fun y hy => ?_
  obtain ⟨hm, hn⟩ := mem_new.1 hy
  obtain ⟨i, hi, ei⟩ := mem_at hm
  rw [h2.len] at hi
  obtain ⟨q, hq, eq⟩ := p2.to i hi
  obtain ⟨k, k1, k2⟩ := (tab_keys h1 p1).1 q hq
  have hyr : y.r = (Y q).r := by rw [← ei, eq]
  cases hv : T.G k with
  | none => exact k2 hv
  | some v =>
    obtain ⟨i', q', rfl, hq', e', ky'⟩ := (tab_keys h1 p1).2 k v hv
    have hqq : q' = q := by
      rcases Nat.lt_trichotomy q' q with h | h | h
      · exact absurd (ky'.trans k1.symm) (hx q' q h hq)
      · exact h
      · exact absurd (k1.trans ky'.symm) (hx q q' h hq')
    subst hqq
    refine hn k i' (by rw [hyr]; exact k1) hv ?_
    rw [e', hyr]; exact alike_refl _
theorem diff_nil {w : World} {B : Nat} {v : Value} {L : List Pf} (h : OwnR w B 32 18 v L.length (pfB L)) (hL : L = []) : ∃ A c, v = .slice A 0 c := by
  subst hL
  obtain ⟨A, c, e, _⟩ := h.shape (pfB_recs _) (by decide)
  exact ⟨A, c, e⟩
theorem diff_nilR {w : World} {B : Nat} {v : Value} {L : List Rx} (h : OwnR w B 70 21 v L.length (rxB L)) (hL : L = []) : ∃ A c, v = .slice A 0 c := by
  subst hL
  obtain ⟨A, c, e, _⟩ := h.shape (rxB_recs _) (by decide)
  exact ⟨A, c, e⟩
theorem rappN_run {o : Oper} {a : Act} {w : World} (s x : Operand) (ho : o.op = .call { callee := .builtin .append, args := #[s, x], argTypes := #[60, 60] })
    (base : Nat) (v : Value) (m : Nat) (C : Nat → Array Value) (hs : a.eval s = v) (h : OwnR w base 70 21 v m C) (A : Option Addr) (n c : Nat) (D : Nat → Array Value) (hx : a.eval x = .slice A n c) (hA : A = none → n = 0 ∧ c = 0) (hR : RdR w A n 21 D) (hD : Recs 21 D) (hm : m ≤ 1000) (hn : n ≤ 1000) (hb : base ≤ w.heap.size) :
    ∃ v' w', (execOp a.eval o).run Try.prog w = .ok (.value v') w' ∧ OwnR w' base 70 21 v' (m + n) (catR C m D) ∧ Below base w w' := by
  obtain ⟨i0, hi, hz0, hz1, hz2⟩ := info_parts info_rtE
  rcases A with _ | ad
  · obtain ⟨rfl, rfl⟩ := hA rfl
    have hr := run_append_owned_none (P := Try.prog) (w := w) base 60 o.type 70 i0 21 Try.underlying60 hi v m _ h
    refine ⟨v, w, ?_, h.congr fun j hj => (catR_lo _ _ _ _ hj).symm, Below.refl _ _⟩
    unfold execOp
    simp only [ho, resolve, invoke, builtin, Sem.run_bind, Sem.run_pure, Result.andThen_ok, List.map_toArray, List.map_cons, List.map_nil, hs, hx, hr]
  · obtain ⟨v', w', hr, h2, h3, h4, h5⟩ := run_append_own_at (P := Try.prog) w base 60 o.type 70 i0 _ 21 72 Try.underlying60 hi hz0 hz1 hz2 rfl (by decide) v m _ h ad n c (cellsR D n) (cellsR_len hD n) (recs_news hD (by decide) hR) (cellsR_one hD n) (by unfold maxLen; omega) (by omega) hb
    rw [cellsR_cat] at h2
    refine ⟨v', w', ?_, h2, (Below.refl _ _).grown h3 hb (fun k e => (h.lt k e).1)⟩
    unfold execOp
    simp only [ho, resolve, invoke, builtin, Sem.run_bind, Sem.run_pure, Result.andThen_ok, List.map_toArray, List.map_cons, List.map_nil, hs, hx, hr]
theorem rx_cat (K E : List Rx) : ∀ j, j < K.length + E.length → catR (rxB K) K.length (rxB E) j = rxB (K ++ E) j := by
  intro j hj
  unfold catR rxB
  by_cases h : j < K.length
  · rw [if_pos h, List.getD_eq_getElem?_getD, List.getD_eq_getElem?_getD, List.getElem?_append_left h]
  · rw [if_neg h, List.getD_eq_getElem?_getD, List.getD_eq_getElem?_getD, List.getElem?_append_right (by omega)]
section
variable {ops : Array Oper} {Q : Exit → Act → World → Prop} {rest : List Oper} {o : Oper} {a : Act} {w : World}
/-- routes are appended, in an ordered region -/
theorem wpList_rapp (s x : Operand) (hgd : o.guard = none) (ho : o.op = .call { callee := .builtin .append, args := #[s, x], argTypes := #[60, 60] }) (base : Nat) (v : Value) (m : Nat) (C : Nat → Array Value) (hs : a.eval s = v) (h : OwnR w base 70 21 v m C)
    (A : Option Addr) (n c : Nat) (D : Nat → Array Value) (hx : a.eval x = .slice A n c) (hA : A = none → n = 0 ∧ c = 0) (hR : RdR w A n 21 D) (hD : Recs 21 D) (hm : m ≤ 1000) (hn : n ≤ 1000) (hb : base ≤ w.heap.size)
    (k : ∀ v' w', OwnR w' base 70 21 v' (m + n) (catR C m D) → Below base w w' → wpList Try.prog ops Q rest (a.put o.dst v') w') : wpList Try.prog ops Q (o :: rest) a w := by
  obtain ⟨v', w', h1, h2, h3⟩ := rappN_run s x ho base v m C hs h A n c D hx hA hR hD hm hn hb
  exact wpList_v hgd v' h1 (k v' w' h2 h3)
end
/-- Build of routes that are in form, each to another prefix -/
theorem build_at {w : World} {n : Nat} {X : Nat → Rx} {A : Option Addr} {c : Nat} (hr : RdR w A n 21 (fun j => rxC (X j))) (hh : ∀ j, j < n → HopAt w (X j)) (hz : ∀ j, j < n → Bytes (X j).r.p.z) (hn : n ≤ 1000) (hf : ∀ i, i < n → Form (X i).r.p.fam (X i).r.p.len (X i).r.p.z) (hx : ∀ i j, i < j → j < n → kyF (X i).r.p ≠ kyF (X j).r.p) : Calls Try.prog 31 #[.slice A n c] w fun e w' => Below w.heap.size w w' ∧ ∃ (t s : Nat) (A : Option Addr) (c : Nat) (S : List Rx) (T : Ts), e = .returned (.tuple #[.pointer (some ⟨t, 0, none⟩), .int .i64 0]) ∧ TabAt w' t s n A c S T ∧ PermX n X S ∧ AscX S := by
  refine (build_any X A n c w hr hh hz hn).mono ?_
  rintro e w' ⟨b, h9⟩
  rcases h9 with ⟨⟨i, hi, hb⟩, _⟩ | ⟨_, S2, hp, ha, ⟨⟨i, j, hij, hj, he⟩, _⟩ | ⟨t, s, A2, c2, T, _, e1, ht⟩⟩
  · exact absurd (hf i hi) hb
  · exact absurd he (hp.nodup hx i j hij hj)
  · exact ⟨b, t, s, A2, c2, S2, T, e1, ht, hp, ha⟩
theorem build_atC {w : World} {B n : Nat} {X : Nat → Rx} {v : Value} {S : List Rx} (h : Cpy w B n X v S) (hz : ∀ j, j < n → Bytes (X j).r.p.z) (hn : n ≤ 1000) (hf : ∀ i, i < n → Form (X i).r.p.fam (X i).r.p.len (X i).r.p.z) (hx : ∀ i j, i < j → j < n → kyF (X i).r.p ≠ kyF (X j).r.p) : Calls Try.prog 31 #[v] w fun e w' => Below w.heap.size w w' ∧ ∃ (t s : Nat) (A : Option Addr) (c : Nat) (S : List Rx) (T : Ts), e = .returned (.tuple #[.pointer (some ⟨t, 0, none⟩), .int .i64 0]) ∧ TabAt w' t s n A c S T ∧ PermX n X S ∧ AscX S := by
  obtain ⟨A, c, rfl, _, _, _, hr⟩ := h.own.shape (rxB_recs _) (by decide)
  refine (build_at (n := n) (X := fun j => S.getD j rx0) hr (fun j hj => (h.hop _ (S_mem h.len hj)).at) (fun j hj => by rw [h.same j hj]; exact hz j hj) hn (fun j hj => by rw [h.same j hj]; exact hf j hj) (fun i j hij hj => by rw [h.same i (by omega), h.same j hj]; exact hx i j hij hj)).mono ?_
  rintro e w' ⟨b, t, s, A2, c2, S2, T, e1, ht, hp, ha⟩
  exact ⟨b, t, s, A2, c2, S2, T, e1, ht, hp.congr (fun j hj => h.same j hj), ha⟩
theorem pw_at {L : List Rx} (h : L.Pairwise (fun a b => kyF a.r.p ≠ kyF b.r.p)) : ∀ i j, i < j → j < L.length → kyF (L.getD i rx0).r.p ≠ kyF (L.getD j rx0).r.p := fun i j hij hj => by
  rw [List.pairwise_iff_getElem] at h
  rw [List.getD_eq_getElem?_getD, List.getD_eq_getElem?_getD, List.getElem?_eq_getElem (by omega : i < L.length), List.getElem?_eq_getElem hj]
  exact h i j (by omega) hj hij
theorem ErrX.form {n : Nat} {X : Nat → Rx} (h : ErrX n X 0) : ∀ i, i < n → Form (X i).r.p.fam (X i).r.p.len (X i).r.p.z := by
  rcases h with ⟨h, _⟩ | ⟨h, _⟩ | ⟨_, h, _⟩
  · omega
  · omega
  · exact h
theorem ErrX.nd {n : Nat} {X : Nat → Rx} (h : ErrX n X 0) : ∀ i j, i < j → j < n → kyF (X i).r.p ≠ kyF (X j).r.p := by
  rcases h with ⟨h, _⟩ | ⟨h, _⟩ | ⟨_, _, h⟩
  · omega
  · omega
  · exact h
theorem ErrX.one {n : Nat} {X : Nat → Rx} {e : Int} (h : ErrX n X e) (h0 : ErrX n X 0) : e = 0 := by
  rcases h with ⟨_, i, hi, hb⟩ | ⟨_, _, i, j, hij, hj, hk⟩ | ⟨h, _⟩
  · exact absurd (h0.form i hi) hb
  · exact absurd hk (h0.nd i j hij hj)
  · exact h
/-- two tables of the same routes have one list -/
theorem tabs_one {w w' : World} {n m t s t2 s2 c c2 : Nat} {A A2 : Option Addr} {S S2 : List Rx} {T T2 : Ts} {X Y : Nat → Rx} (h1 : TabAt w t s n A c S T) (h2 : TabAt w' t2 s2 m A2 c2 S2 T2) (p1 : PermX n X S) (p2 : PermX m Y S2) (a1 : AscX S) (a2 : AscX S2)
    (f1 : ∀ i, i < n → Form (X i).r.p.fam (X i).r.p.len (X i).r.p.z) (f2 : ∀ i, i < m → Form (Y i).r.p.fam (Y i).r.p.len (Y i).r.p.z) (b1 : ∀ i, i < n → Bytes (X i).r.p.z) (b2 : ∀ i, i < m → Bytes (Y i).r.p.z)
    (h : ∀ r, (∃ i, i < n ∧ (X i).r = r) ↔ ∃ i, i < m ∧ (Y i).r = r) : n = m ∧ ∀ j, j < n → (S.getD j rx0).r = (S2.getD j rx0).r := by
  have st : ∀ {w : World} {n t s c : Nat} {A : Option Addr} {S : List Rx} {T : Ts} {X : Nat → Rx}, TabAt w t s n A c S T → PermX n X S → AscX S → (∀ i, i < n → Form (X i).r.p.fam (X i).r.p.len (X i).r.p.z) → (∀ i, i < n → Bytes (X i).r.p.z) → (S.map (fun y => y.r)).Pairwise (fun a b => rKey a < rKey b) := fun ht hp ha hf hb =>
    asc_strict ht.len ha (fun i hi => by obtain ⟨q, hq, e⟩ := hp.to i hi; rw [e]; exact hf q hq) (fun i hi => by obtain ⟨q, hq, e⟩ := hp.to i hi; rw [e]; exact hb q hq) ht.nodup
  have me : ∀ {n : Nat} {S : List Rx} {X : Nat → Rx}, S.length = n → PermX n X S → ∀ r, (∃ y, y ∈ S ∧ y.r = r) ↔ ∃ i, i < n ∧ (X i).r = r := fun hl hp r =>
    ⟨fun ⟨y, hy, e⟩ => by obtain ⟨i, hi, ei⟩ := mem_at hy; rw [hl] at hi; obtain ⟨q, hq, eq⟩ := hp.to i hi; exact ⟨q, hq, by rw [← eq, ei, e]⟩,
     fun ⟨q, hq, e⟩ => by obtain ⟨i, hi, ei⟩ := hp.of q hq; exact ⟨_, S_mem hl hi, ei.trans e⟩⟩
  obtain ⟨g1, g2⟩ := tab_uniq (st h1 p1 a1 f1 b1) (st h2 p2 a2 f2 b2) (fun r => (me h1.len p1 r).trans ((h r).trans (me h2.len p2 r).symm))
  exact ⟨by rw [← h1.len, g1, h2.len], fun j hj => g2 j (by rw [h1.len]; exact hj)⟩
end Go.Proofs.Ytjnbemopfhinbaa
