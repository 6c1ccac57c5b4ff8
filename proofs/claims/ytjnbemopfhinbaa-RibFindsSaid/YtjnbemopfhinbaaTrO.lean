/- Prefixes, lists of prefixes and addresses that came in as arguments. No condition. -/
import Derived.Test.YtjnbemopfhinbaaTrV
import Derived.OpenShut
import Derived.ProofKit
import Derived.SizedLaws
import Derived.Deep.Slices
namespace Go.Proofs.Ytjnbemopfhinbaa
open Go.RowKit Go.ChangeShapes Go.WideShapes
set_option linter.unusedVariables false
set_option linter.unusedSimpArgs false
set_option maxRecDepth 100000

theorem mem_weightsAll {H : Type} {P : Program} {e : TypeId} {ds : List (DataW H)} {d : DataW H} (hd : d ∈ ds) : ∀ n ∈ d.weights P e, n ∈ DataW.weightsAll P e ds := by
  induction ds with
  | nil => cases hd
  | cons x r ih =>
    intro n hn
    simp only [DataW.weightsAll, List.mem_append]
    rcases List.mem_cons.1 hd with rfl | h
    · exact .inl hn
    · exact .inr (ih h n hn)
theorem open_recsW {α : Type} {t e : TypeId} {s bs : Nat} {C : α → Array Value} {Ok : α → Prop} (ht : Try.prog.underlying t = some (.slice e)) (hs : Try.prog.cellsOf e = s) (hbs : Try.prog.bytesOf e = bs) (hs1 : 0 < s) (hC : ∀ r, (C r).size = s)
    {H : Type} {enc : TypeId × Value → H} {w : World} {base : Nat} {held : Bool} {fuel : Nat} {cs0 : List Value} {y : DataW H × List MemPlace}
    (hel : ∀ (n : Nat) (cs : List Value) (x : DataW H × List MemPlace), DataW.trod enc Try.prog w base (fun _ => true) held n e cs = some x → (∀ k ∈ x.1.weights Try.prog e, k ≤ 140737488351232) → ∃ r, cs = (C r).toList ∧ Ok r) (h0 : ∃ r, Ok r)
    (hf : DataW.trod enc Try.prog w base (fun _ => true) held fuel t cs0 = some y) (hsz : ∀ n ∈ y.1.weights Try.prog t, n ≤ 140737488351232) :
    ∃ (a : Option Addr) (len cap : Nat) (L : Nat → α), cs0 = [.slice a len cap] ∧ RdR w a len s (fun j => C (L j)) ∧ (∀ j, Ok (L j)) ∧ (a = none → len = 0 ∧ cap = 0) ∧ len ≤ cap ∧ cap * bs ≤ 140737488351232 := by
  obtain ⟨r0, hr0⟩ := h0
  rcases Deep.open_slice ht hf with ⟨hcs, _⟩ | ⟨x, len, cap, mm, n, D, Pl, hcs, _, hl, hm, hmm, rfl, hcell⟩
  · exact ⟨none, 0, 0, fun _ => r0, hcs, .inl rfl, fun _ => hr0, fun _ => ⟨rfl, rfl⟩, Nat.le_refl _, by omega⟩
  · rw [if_pos rfl] at hmm
    subst hmm
    have hw0 := hsz ((len + (mm - len)) * bs) (by
      simp only [DataW.weights, ht, List.length_map, List.length_range, hbs]
      exact List.mem_cons_self ..)
    have each : ∀ i, i < len → ∃ r : α, Ok r ∧ ∀ j u, (C r).toList[j]? = some u → w.cell? ((x.add (i * s)).add j) = some u := by
      intro i hi
      obtain ⟨cs', hc, ht'⟩ := hcell i (by omega)
      rw [hs] at hc
      obtain ⟨_, hcl, hat⟩ := World.cells?_some hc
      have hwi : ∀ k ∈ (D i).weights Try.prog e, k ≤ 140737488351232 := by
        intro k hk
        refine hsz k ?_
        simp only [DataW.weights, ht]
        exact List.mem_cons_of_mem _ (List.mem_append_left _ (mem_weightsAll (d := D i) (List.mem_map.2 ⟨i, by simpa using hi, rfl⟩) k hk))
      obtain ⟨r, rfl, hr⟩ := hel n cs' _ ht' hwi
      refine ⟨r, hr, fun j u hu => ?_⟩
      have hj : j < s := by
        rcases Nat.lt_or_ge j s with h | h
        · exact h
        · rw [List.getElem?_eq_none (by rw [Array.length_toList, hC]; exact h)] at hu; cases hu
      rw [hat j hj, hu]
    haveI : Inhabited α := ⟨r0⟩
    obtain ⟨f, hf'⟩ := Deep.choose_lt each
    refine ⟨some x, len, mm, fun i => if i < len then f i else r0, hcs, ?_, fun j => ?_, fun e => (by cases e), hl, ?_⟩
    · rcases Nat.eq_zero_or_pos len with h0 | h0
      · exact .inl h0
      · obtain ⟨b, off, spot⟩ := x
        have hc0 := (hf' 0 h0).2 0 ((C (f 0))[0]'(by rw [hC]; exact hs1)) (by rw [Array.getElem?_toList]; exact Array.getElem?_eq_getElem _)
        have hs : spot = none := by simpa [Addr.add] using World.cell?_spot hc0
        subst hs
        refine .inr ⟨b, off, rfl, by have := cell_lt hc0; simpa [add_none] using this, fun j hj k u hu => ?_⟩
        dsimp only at hu
        rw [if_pos hj] at hu
        have := (hf' j hj).2 k u hu
        rw [add_none, add_none] at this
        exact this
    · dsimp only
      split
      · rename_i h; exact (hf' j h).1
      · exact hr0
    · have : len + (mm - len) = mm := by omega
      rwa [this] at hw0

def PvOk (p : Pf) : Prop := (0 ≤ p.fam ∧ p.fam ≤ 255) ∧ (-9223372036854775808 ≤ p.len ∧ p.len ≤ 9223372036854775807) ∧ Bytes p.z
theorem ag_cells {H : Type} {enc : TypeId × Value → H} {w : World} {base : Nat} {spare : Nat → Bool} {held : Bool} {n : Nat} {cs : List Value} {x : DataW H × List MemPlace} (h : DataW.trod enc Try.prog w base spare held n 23 cs = some x) (hl : cs.length = 16) :
    ∃ z : Nat → Int, cs = (agC z).toList ∧ Bytes z := by
  have hc1 : Try.prog.cellsOf 5 = 1 := by kernel_rfl
  obtain ⟨ys, m2, _, _, _, hn2, hel2⟩ := DataW.trod_array Try.underlying23 h
  have one : ∀ i, i < 16 → ∃ a : Int, cs[i]? = some (.int .u8 a) ∧ 0 ≤ a ∧ a ≤ 255 := by
    intro i hi
    have he := hel2 i hi
    rw [hc1, Nat.mul_one, List.getElem?_eq_getElem (by omega)] at he
    obtain ⟨a, ea, _, wa⟩ := DataW.trod_int Try.underlying5 he
    refine ⟨a, ?_, wf_u8 wa⟩
    have := congrArg (·[0]?) ea
    simpa [List.getElem?_take, List.getElem?_drop] using this
  obtain ⟨z, hz⟩ : ∃ z : Nat → Int, ∀ i, i < 16 → cs[i]? = some (.int .u8 (z i)) ∧ 0 ≤ z i ∧ z i ≤ 255 := by
    refine ⟨fun i => if h : i < 16 then (one i h).choose else 0, fun i hi => ?_⟩
    simp only [dif_pos hi]
    exact (one i hi).choose_spec
  refine ⟨fun i => if i < 16 then z i else 0, ?_, fun i => ?_⟩
  · apply List.ext_getElem?
    intro i
    rcases Nat.lt_or_ge i 16 with h | h
    · rw [(hz i h).1, Array.getElem?_toList, agC_at _ i h, if_pos h]
    · rw [List.getElem?_eq_none (by omega), List.getElem?_eq_none (by rw [Array.length_toList, agC_size]; omega)]
  · show 0 ≤ (if i < 16 then z i else 0) ∧ (if i < 16 then z i else 0) ≤ 255
    split
    · rename_i h; exact (hz i h).2
    · omega
theorem pv_cells {H : Type} {enc : TypeId × Value → H} {w : World} {base : Nat} {spare : Nat → Bool} {held : Bool} {n : Nat} {cs : List Value} {x : DataW H × List MemPlace} (h : DataW.trod enc Try.prog w base spare held n 32 cs = some x) :
    ∃ p : Pf, cs = (pfC p).toList ∧ PvOk p := by
  have hc18 : Try.prog.cellsOf 32 = 18 := by kernel_rfl
  have hc16 : Try.prog.cellsOf 23 = 16 := by kernel_rfl
  have hc1 : Try.prog.cellsOf 5 = 1 := by kernel_rfl
  have hci : Try.prog.cellsOf 3 = 1 := by kernel_rfl
  obtain ⟨xs, m, _, _, hl, hn, hel⟩ := DataW.trod_struct Try.underlying32 h
  have hl : cs.length = 18 := by rw [hl, hc18]
  have hn : xs.length = 3 := hn
  have e0 : DataW.trod enc Try.prog w base spare held m 5 ((cs.drop 0).take (Try.prog.cellsOf 5)) = xs[0]? := hel 0 _ rfl
  have e1 : DataW.trod enc Try.prog w base spare held m 3 ((cs.drop 1).take (Try.prog.cellsOf 3)) = xs[1]? := hel 1 _ rfl
  have e2 : DataW.trod enc Try.prog w base spare held m 23 ((cs.drop 2).take (Try.prog.cellsOf 23)) = xs[2]? := hel 2 _ rfl
  rw [hc1] at e0
  rw [hci] at e1
  rw [hc16] at e2
  rw [List.getElem?_eq_getElem (by omega)] at e0 e1 e2
  obtain ⟨a0, f0, _, w0⟩ := DataW.trod_int Try.underlying5 e0
  obtain ⟨a1, f1, _, w1⟩ := DataW.trod_int Try.underlying3 e1
  obtain ⟨z, hz, hb⟩ := ag_cells e2 (by rw [List.length_take, List.length_drop]; omega)
  refine ⟨⟨a0, a1, z⟩, ?_, wf_u8 w0, bounds_i64 w1, hb⟩
  have c0 : cs[0]? = some (.int .u8 a0) := by
    have := congrArg (·[0]?) f0
    simpa [List.getElem?_take, List.getElem?_drop] using this
  have c1 : cs[1]? = some (.int .i64 a1) := by
    have := congrArg (·[0]?) f1
    simpa [List.getElem?_take, List.getElem?_drop] using this
  apply List.ext_getElem?
  intro i
  rcases Nat.lt_or_ge i 18 with h | h
  · rcases (by omega : i = 0 ∨ i = 1 ∨ 2 ≤ i) with rfl | rfl | h2
    · rw [c0]; rfl
    · rw [c1]; rfl
    · obtain ⟨k, rfl⟩ := Nat.exists_eq_add_of_le h2
      have h3 := congrArg (·[k]?) hz
      simp only [List.getElem?_take, List.getElem?_drop] at h3
      rw [if_pos (by omega)] at h3
      rw [h3, Array.getElem?_toList, Array.getElem?_toList, agC_at _ k (by omega)]
      exact (pvC_at a0 a1 z k (by omega)).symm
  · rw [List.getElem?_eq_none (by omega), List.getElem?_eq_none (by rw [Array.length_toList]; exact h)]
theorem open_ag {H : Type} {enc : TypeId × Value → H} {w : World} {base : Nat} {spare : Nat → Bool} {held : Bool} {r : Reach} {b0 : Nat} {v : Value} {d : DataW H} {ps : List MemPlace}
    (hv : Value.okWide Try.prog w r b0 23 v) (h : DataW.Trod enc Try.prog w base spare held 23 v d ps) : ∃ z : Nat → Int, v = .agg (agC z) ∧ Bytes z := by
  have hc16 : Try.prog.cellsOf 23 = 16 := by kernel_rfl
  simp only [Value.okWide, Try.underlying23] at hv
  obtain ⟨cs, rfl, hsz, _⟩ := hv
  rw [hc16] at hsz
  obtain ⟨fuel, hf⟩ := h
  obtain ⟨z, hp, hk⟩ := ag_cells (cs := cs.toList) hf (by simpa using hsz)
  exact ⟨z, congrArg Value.agg (Array.toList_inj.1 hp), hk⟩
end Go.Proofs.Ytjnbemopfhinbaa
