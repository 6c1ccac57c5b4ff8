/- A list of types and values that came in as an argument can be read. No condition. -/
import Derived.Test.YtigkmcbkckfhbaaRows
import Derived.Test.YtigkmcbkckfhbaaTMem
import Derived.Deep.SlicePairs
import Derived.OpenShut
import Derived.ProofKit
import Derived.SizedLaws
namespace Go.Proofs.Ytigkmcbkckfhbaa
open Go.RowKit Go.ChangeShapes Go.WideShapes
set_option linter.unusedVariables false

theorem mem_weightsAll {H : Type} {P : Program} {e : TypeId} {ds : List (DataW H)} {d : DataW H} (hd : d ∈ ds) : ∀ n ∈ d.weights P e, n ∈ DataW.weightsAll P e ds := by
  induction ds with
  | nil => cases hd
  | cons x r ih =>
    intro n hn
    simp only [DataW.weightsAll, List.mem_append]
    rcases List.mem_cons.1 hd with rfl | h
    · exact .inl hn
    · exact .inr (ih h n hn)

theorem open_tlvs {H : Type} {enc : TypeId × Value → H} {w : World} {base : Nat} {held : Bool} {a : Option Addr} {len cap : Nat} {d : DataW H} {ps : List MemPlace}
    (h : DataW.Trod enc Try.prog w base (fun _ => true) held 29 (.slice a len cap) d ps) (hsz : ∀ n ∈ d.weights Try.prog 29, n ≤ 140737488351232) :
    ∃ L, RdT w a len L ∧ (a = none → len = 0 ∧ cap = 0) ∧ len ≤ cap ∧ cap * 32 ≤ 140737488351232 := by
  obtain ⟨fuel, hf⟩ := h
  have he := Try.underlying53
  rcases Deep.open_slice_pairs Try.underlying29 he (by kernel_rfl) rfl rfl (by kernel_rfl) (by kernel_rfl) hf with ⟨hcs, _⟩ | ⟨x, l, c, mm, n, V0, V1, D0, D1, P0, P1, hcs, _, hl, hm, hmm, hx, hcell⟩
  · simp [Value.cells] at hcs
    obtain ⟨rfl, rfl, rfl⟩ := hcs
    exact ⟨fun _ => ⟨0, none, 0, 0, fun _ => 0⟩, .inl rfl, fun _ => ⟨rfl, rfl⟩, Nat.le_refl _, by omega⟩
  · simp [Value.cells] at hcs
    obtain ⟨rfl, rfl, rfl⟩ := hcs
    rw [if_pos rfl] at hmm
    subst hmm
    simp only [Prod.mk.injEq] at hx
    obtain ⟨rfl, rfl⟩ := hx
    have hb : Try.prog.bytesOf 53 = 32 := by kernel_rfl
    have hw0 := hsz ((len + (mm - len)) * 32) (by
      simp only [DataW.weights, Try.underlying29, List.length_map, List.length_range, hb]
      exact List.mem_cons_self ..)
    have each : ∀ i, i < len → ∃ t : Int × Option Addr × Nat × Nat × (Nat → Int), w.cell? (x.add (i * 2)) = some (.int .u8 t.1) ∧ w.cell? (x.add (i * 2 + 1)) = some (.slice t.2.1 t.2.2.1 t.2.2.2.1) ∧ ItOk w ⟨t.1, t.2.1, t.2.2.1, t.2.2.2.1, t.2.2.2.2⟩ := by
      intro i hi
      obtain ⟨e0, e1, t0, t1⟩ := hcell i (by omega)
      obtain ⟨ty, ety, _, wty⟩ := DataW.trod_int Try.underlying5 t0
      have hty : V0 i = .int .u8 ty := by simpa using ety
      have hwt : ∀ k ∈ (D1 i).weights Try.prog 35, k ≤ 140737488351232 := by
        intro k hk
        refine hsz k ?_
        simp only [DataW.weights, Try.underlying29]
        refine List.mem_cons_of_mem _ (List.mem_append_left _ (mem_weightsAll (d := .agg [D0 i, D1 i]) (List.mem_map.2 ⟨i, by simpa using hi, rfl⟩) k ?_))
        simp only [DataW.weights, he]
        exact DataW.weights_mem_each (j := 1) (t := 35) (d := D1 i) rfl rfl k hk
      rcases open_ints Try.underlying35 Try.underlying5 (by kernel_rfl) t1 with ⟨hcs, _⟩ | ⟨y, l, c, zs, hcs, _, hl', hm', hz', hx', hc', hwz⟩
      · have hv : V1 i = .slice none 0 0 := by simpa using hcs
        rw [hty] at e0
        rw [hv] at e1
        exact ⟨(ty, none, 0, 0, fun _ => 0), e0, e1, wf_u8 wty, ⟨.inl rfl, fun _ => by simp⟩, fun _ => ⟨rfl, rfl⟩, by simp⟩
      · have hv : V1 i = .slice (some y) l c := by simpa using hcs
        rw [hty] at e0
        rw [hv] at e1
        rw [if_pos rfl] at hz'
        obtain ⟨hr, hn⟩ := isRow_rd (w := w) (A := some y) (len := l) (cap := c) (zs := zs) (.inr ⟨y, rfl, hl', hm', hz', hc', hwz⟩)
        have hD : D1 i = .slice (lits .u8 (zs.take l)) (lits .u8 (zs.drop l)) := by
          have := congrArg Prod.fst hx'
          simpa using this
        have hbb : Try.prog.bytesOf 5 = 1 := by kernel_rfl
        have hw1 := hwt ((l + (c - l)) * 1) (by
          rw [hD]
          simp only [DataW.weights, Try.underlying35, lits, List.length_map, List.length_take, List.length_drop, hz', hbb, Nat.min_eq_left hl']
          exact List.mem_cons_self ..)
        exact ⟨(ty, some y, l, c, fun j => zs.getD j 0), e0, e1, wf_u8 wty, hr, fun e => (by cases e), by show l ≤ _; omega⟩
    obtain ⟨f, hf'⟩ := Deep.choose_lt each
    refine ⟨fun i => ⟨(f i).1, (f i).2.1, (f i).2.2.1, (f i).2.2.2.1, (f i).2.2.2.2⟩, ?_, fun e => (by cases e), hl, by omega⟩
    rcases Nat.eq_zero_or_pos len with h0 | h0
    · exact .inl h0
    · obtain ⟨b, off, spot⟩ := x
      have hc0 := (hf' 0 h0).1
      have hs : spot = none := by simpa [Addr.add] using World.cell?_spot hc0
      subst hs
      have hadd : ∀ j, (⟨b, off, none⟩ : Addr).add j = ⟨b, off + j, none⟩ := fun j => by unfold Addr.add; split <;> simp_all
      refine .inr ⟨b, off, rfl, ?_, fun j hj => ?_⟩
      · have := cell_lt hc0
        simpa [hadd] using this
      · obtain ⟨h1, h2, h3⟩ := hf' j hj
        rw [hadd] at h1 h2
        exact ⟨h1, by rw [← Nat.add_assoc] at h2; exact h2, h3⟩
end Go.Proofs.Ytigkmcbkckfhbaa
