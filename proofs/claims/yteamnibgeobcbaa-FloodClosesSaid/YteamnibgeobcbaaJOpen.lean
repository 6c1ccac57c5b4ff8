/- IDs, lists of IDs and scripts that came in as arguments can be read. No condition. -/
import Derived.Test.YteamnibgeobcbaaJCall
import Derived.Test.YteamnibgeobcbaaRows
import Derived.Deep.Slices
import Derived.OpenShut
import Derived.ProofKit
import Derived.SizedLaws
namespace Go.Proofs.Yteamnibgeobcbaa
open Go.RowKit Go.ChangeShapes Go.WideShapes
set_option linter.unusedVariables false

theorem mem_weightsAll {H : Type} {P : Program} {e : TypeId} {ds : List (DataW H)} {d : DataW H} (hd : d ∈ ds) : ∀ n ∈ d.weights P e, n ∈ DataW.weightsAll P e ds := by
  induction ds with
  | nil => cases hd
  | cons x r ih =>
    intro n hn
    simp only [DataW.weightsAll, List.mem_append]
    rcases List.mem_cons.1 hd with rfl | h
    · exact .inl hn
    · exact .inr (ih h n hn)
section
variable {H : Type} {enc : TypeId × Value → H} {w : World} {base : Nat} {spare : Nat → Bool} {held : Bool} {m : Nat} {cs : List Value} {x : DataW H × List MemPlace}
theorem cell_u8 {k : Nat} {o : Option (DataW H × List MemPlace)} (h : DataW.trod enc Try.prog w base spare held m 5 ((cs.drop k).take 1) = o) (ho : o.isSome = true) : ∃ a : Int, cs[k]? = some (.int .u8 a) ∧ 0 ≤ a ∧ a ≤ 255 := by
  obtain ⟨y, rfl⟩ := Option.isSome_iff_exists.1 ho
  obtain ⟨a, ea, _, wa⟩ := DataW.trod_int Try.underlying5 h
  refine ⟨a, ?_, wf_u8 wa⟩
  have := congrArg (·[0]?) ea
  simpa [List.getElem?_take, List.getElem?_drop] using this
theorem cell_i64 {k : Nat} {o : Option (DataW H × List MemPlace)} (h : DataW.trod enc Try.prog w base spare held m 3 ((cs.drop k).take 1) = o) (ho : o.isSome = true) : ∃ a : Int, cs[k]? = some (.int .i64 a) := by
  obtain ⟨y, rfl⟩ := Option.isSome_iff_exists.1 ho
  obtain ⟨a, ea, _⟩ := DataW.trod_int Try.underlying3 h
  refine ⟨a, ?_⟩
  have := congrArg (·[0]?) ea
  simpa [List.getElem?_take, List.getElem?_drop] using this
theorem bytes_run {n e : Nat} {t : TypeId} (ht : Try.prog.underlying t = some (.array n 5)) {o : Option (DataW H × List MemPlace)} (h : DataW.trod enc Try.prog w base spare held m t ((cs.drop e).take n) = o) (ho : o.isSome = true) :
    ∃ z : Nat → Int, (∀ i, i < n → cs[e + i]? = some (.int .u8 (z i))) ∧ ∀ i, 0 ≤ z i ∧ z i ≤ 255 := by
  obtain ⟨y, rfl⟩ := Option.isSome_iff_exists.1 ho
  have hc1 : Try.prog.cellsOf 5 = 1 := cells_u8
  obtain ⟨ys, m2, _, _, _, hn2, hel2⟩ := DataW.trod_array ht h
  have one : ∀ i, i < n → ∃ a : Int, cs[e + i]? = some (.int .u8 a) ∧ 0 ≤ a ∧ a ≤ 255 := by
    intro i hi
    have he := hel2 i hi
    rw [hc1, Nat.mul_one] at he
    obtain ⟨a, ha, hb⟩ := cell_u8 he (by rw [List.getElem?_eq_getElem (by omega)]; rfl)
    refine ⟨a, ?_, hb⟩
    rwa [List.getElem?_take, if_pos hi, List.getElem?_drop] at ha
  refine ⟨fun i => if h : i < n then (one i h).choose else 0, fun i hi => ?_, fun i => ?_⟩
  · simp only [dif_pos hi]
    exact (one i hi).choose_spec.1
  · by_cases h : i < n
    · simp only [dif_pos h]
      exact (one i h).choose_spec.2
    · simp only [dif_neg h]
      exact ⟨Int.le_refl 0, by decide⟩
theorem nd_run (h : DataW.trod enc Try.prog w base spare held m 26 cs = some x) : ∃ z : Nat → Int, (∀ i, i < 7 → cs[i]? = some (.int .u8 (z i))) ∧ ∀ i, 0 ≤ z i ∧ z i ≤ 255 := by
  obtain ⟨xs, m1, _, _, hl, hn, hel⟩ := DataW.trod_struct Try.underlying26 h
  have hn : xs.length = 2 := hn
  have e0 : DataW.trod enc Try.prog w base spare held m1 24 ((cs.drop 0).take (Try.prog.cellsOf 24)) = xs[0]? := hel 0 _ rfl
  have e1 : DataW.trod enc Try.prog w base spare held m1 5 ((cs.drop 6).take (Try.prog.cellsOf 5)) = xs[1]? := hel 1 _ rfl
  rw [cells_sys] at e0
  rw [cells_u8] at e1
  obtain ⟨s, hs, bs⟩ := bytes_run Try.underlying24 e0 (by rw [List.getElem?_eq_getElem (by omega)]; rfl)
  obtain ⟨p, hp, bp⟩ := cell_u8 e1 (by rw [List.getElem?_eq_getElem (by omega)]; rfl)
  refine ⟨fun i => if i < 6 then s i else p, fun i hi => ?_, fun i => ?_⟩
  · show cs[i]? = some (.int .u8 (if i < 6 then s i else p))
    by_cases h6 : i < 6
    · rw [if_pos h6]
      have := hs i h6
      rwa [Nat.zero_add] at this
    · obtain rfl : i = 6 := by omega
      rw [if_neg h6]
      exact hp
  · show 0 ≤ (if i < 6 then s i else p) ∧ (if i < 6 then s i else p) ≤ 255
    split
    · exact bs i
    · exact bp
theorem id_run (h : DataW.trod enc Try.prog w base spare held m 28 cs = some x) : ∃ n, IdOk n ∧ cs = (idC n).toList := by
  obtain ⟨xs, m1, _, _, hl, hn, hel⟩ := DataW.trod_struct Try.underlying28 h
  rw [cells_id] at hl
  have hn : xs.length = 2 := hn
  have e0 : DataW.trod enc Try.prog w base spare held m1 26 ((cs.drop 0).take (Try.prog.cellsOf 26)) = xs[0]? := hel 0 _ rfl
  have e1 : DataW.trod enc Try.prog w base spare held m1 5 ((cs.drop 7).take (Try.prog.cellsOf 5)) = xs[1]? := hel 1 _ rfl
  rw [cells_node, List.getElem?_eq_getElem (by omega)] at e0
  rw [cells_u8] at e1
  obtain ⟨s, hs, bs⟩ := nd_run e0
  obtain ⟨p, hp, bp⟩ := cell_u8 e1 (by rw [List.getElem?_eq_getElem (by omega)]; rfl)
  obtain ⟨n, hno, hd⟩ := id_of (fun i => if i < 7 then s i else p) (fun i => by
    show 0 ≤ (if i < 7 then s i else p) ∧ (if i < 7 then s i else p) ≤ 255
    split
    · exact bs i
    · exact bp)
  refine ⟨n, hno, ?_⟩
  apply List.ext_getElem?
  intro i
  rcases Nat.lt_or_ge i 8 with h | h
  · have hcell : cs[i]? = some (.int .u8 (dg n i)) := by
      rw [hd i h]
      show cs[i]? = some (.int .u8 (if i < 7 then s i else p))
      by_cases h7 : i < 7
      · rw [if_pos h7]
        have := hs i h7
        rwa [List.drop_zero, List.getElem?_take, if_pos h7] at this
      · obtain rfl : i = 7 := by omega
        rw [if_neg h7]
        exact hp
    rw [hcell]
    rcases (by omega : i = 0 ∨ i = 1 ∨ i = 2 ∨ i = 3 ∨ i = 4 ∨ i = 5 ∨ i = 6 ∨ i = 7) with rfl | rfl | rfl | rfl | rfl | rfl | rfl | rfl <;> rfl
  · rw [List.getElem?_eq_none (by omega), List.getElem?_eq_none (by rw [Array.length_toList, idC_size]; omega)]
end
theorem open_recsW {α : Type} {t e : TypeId} {s bs : Nat} {C : α → Array Value} {Ok : α → Prop} (ht : Try.prog.underlying t = some (.slice e)) (hs : Try.prog.cellsOf e = s) (hbs : Try.prog.bytesOf e = bs) (hs1 : 0 < s) (hC : ∀ r, (C r).size = s)
    {H : Type} {enc : TypeId × Value → H} {w : World} {base : Nat} {held : Bool} {fuel : Nat} {cs0 : List Value} {y : DataW H × List MemPlace}
    (hel : ∀ (n : Nat) (cs : List Value) (x : DataW H × List MemPlace), DataW.trod enc Try.prog w base (fun _ => true) held n e cs = some x → (∀ k ∈ x.1.weights Try.prog e, k ≤ 140737488351232) → ∃ r, cs = (C r).toList ∧ Ok r) (h0 : ∃ r, Ok r)
    (hf : DataW.trod enc Try.prog w base (fun _ => true) held fuel t cs0 = some y) (hsz : ∀ n ∈ y.1.weights Try.prog t, n ≤ 140737488351232) :
    ∃ (a : Option Addr) (len cap : Nat) (L : Nat → α), cs0 = [.slice a len cap] ∧ RdR w a len s (fun j => C (L j)) ∧ (∀ j, Ok (L j)) ∧ (a = none → len = 0 ∧ cap = 0) ∧ len ≤ cap ∧ cap * bs ≤ 140737488351232 := by
  obtain ⟨r0, hr0⟩ := h0
  rcases Deep.open_slice ht hf with ⟨hcs, _⟩ | ⟨x, len, cap, mm, n, D, Pl, hcs, _, hl, hm, hmm, rfl, hcell⟩
  · exact ⟨none, 0, 0, fun _ => r0, hcs, .inl rfl, fun _ => hr0, fun _ => ⟨rfl, rfl⟩, Nat.le_refl _, by omega⟩
  · rw [if_pos rfl] at hmm
    subst hmm
    have hw0 := hsz ((len + (mm - len)) * bs) (by
      simp only [DataW.weights, ht, List.length_map, List.length_range, hbs]
      exact List.mem_cons_self ..)
    have each : ∀ i, i < len → ∃ r : α, Ok r ∧ ∀ j u, (C r).toList[j]? = some u → w.cell? ((x.add (i * s)).add j) = some u := by
      intro i hi
      obtain ⟨cs', hc, ht'⟩ := hcell i (by omega)
      rw [hs] at hc
      obtain ⟨_, hcl, hat⟩ := World.cells?_some hc
      have hwi : ∀ k ∈ (D i).weights Try.prog e, k ≤ 140737488351232 := by
        intro k hk
        refine hsz k ?_
        simp only [DataW.weights, ht]
        exact List.mem_cons_of_mem _ (List.mem_append_left _ (mem_weightsAll (d := D i) (List.mem_map.2 ⟨i, by simpa using hi, rfl⟩) k hk))
      obtain ⟨r, rfl, hr⟩ := hel n cs' _ ht' hwi
      refine ⟨r, hr, fun j u hu => ?_⟩
      have hj : j < s := by
        rcases Nat.lt_or_ge j s with h | h
        · exact h
        · rw [List.getElem?_eq_none (by rw [Array.length_toList, hC]; exact h)] at hu; cases hu
      rw [hat j hj, hu]
    haveI : Inhabited α := ⟨r0⟩
    obtain ⟨f, hf'⟩ := Deep.choose_lt each
    refine ⟨some x, len, mm, fun i => if i < len then f i else r0, hcs, ?_, fun j => ?_, fun e => (by cases e), hl, ?_⟩
    · rcases Nat.eq_zero_or_pos len with h0 | h0
      · exact .inl h0
      · obtain ⟨b, off, spot⟩ := x
        have hc0 := (hf' 0 h0).2 0 ((C (f 0))[0]'(by rw [hC]; exact hs1)) (by rw [Array.getElem?_toList]; exact Array.getElem?_eq_getElem _)
        have hs : spot = none := by simpa [Addr.add] using World.cell?_spot hc0
        subst hs
        refine .inr ⟨b, off, rfl, by have := cell_lt hc0; simpa [add_none] using this, fun j hj k u hu => ?_⟩
        dsimp only at hu
        rw [if_pos hj] at hu
        have := (hf' j hj).2 k u hu
        rw [add_none, add_none] at this
        exact this
    · dsimp only
      split
      · rename_i h; exact (hf' j h).1
      · exact hr0
    · have : len + (mm - len) = mm := by omega
      rwa [this] at hw0
theorem op_run {H : Type} {enc : TypeId × Value → H} {w : World} {base : Nat} {held : Bool} {m : Nat} {cs : List Value} {x : DataW H × List MemPlace}
    (h : DataW.trod enc Try.prog w base (fun _ => true) held m 37 cs = some x) (hsz : ∀ n ∈ x.1.weights Try.prog 37, n ≤ 140737488351232) : ∃ o : OpR, cs = (opC o).toList ∧ OpOk w o := by
  obtain ⟨xs, m1, _, hxd, hl, hn, hel⟩ := DataW.trod_struct Try.underlying37 h
  have hl : cs.length = 12 := by rw [hl]; kernel_rfl
  have hn : xs.length = 5 := hn
  have hd : x.1 = .agg (xs.map (·.1)) := by have := congrArg Prod.fst hxd; simpa using this
  have hc_i64 : Try.prog.cellsOf 3 = 1 := by kernel_rfl
  have hc_ids : Try.prog.cellsOf 35 = 1 := by kernel_rfl
  have e0 : DataW.trod enc Try.prog w base (fun _ => true) held m1 5 ((cs.drop 0).take (Try.prog.cellsOf 5)) = xs[0]? := hel 0 _ rfl
  have e1 : DataW.trod enc Try.prog w base (fun _ => true) held m1 3 ((cs.drop 1).take (Try.prog.cellsOf 3)) = xs[1]? := hel 1 _ rfl
  have e2 : DataW.trod enc Try.prog w base (fun _ => true) held m1 3 ((cs.drop 2).take (Try.prog.cellsOf 3)) = xs[2]? := hel 2 _ rfl
  have e3 : DataW.trod enc Try.prog w base (fun _ => true) held m1 28 ((cs.drop 3).take (Try.prog.cellsOf 28)) = xs[3]? := hel 3 _ rfl
  have e4 : DataW.trod enc Try.prog w base (fun _ => true) held m1 35 ((cs.drop 11).take (Try.prog.cellsOf 35)) = xs[4]? := hel 4 _ rfl
  rw [cells_u8] at e0
  rw [hc_i64] at e1 e2
  have hx3 : xs[3]? = some xs[3] := List.getElem?_eq_getElem (by omega)
  have hx4 : xs[4]? = some xs[4] := List.getElem?_eq_getElem (by omega)
  rw [cells_id, hx3] at e3
  rw [hc_ids, hx4] at e4
  obtain ⟨kd, hkd, _⟩ := cell_u8 e0 (by rw [List.getElem?_eq_getElem (by omega)]; rfl)
  obtain ⟨c, hc⟩ := cell_i64 e1 (by rw [List.getElem?_eq_getElem (by omega)]; rfl)
  obtain ⟨nn, hnn⟩ := cell_i64 e2 (by rw [List.getElem?_eq_getElem (by omega)]; rfl)
  obtain ⟨id, hid, hidc⟩ := id_run e3
  obtain ⟨A, len, cap, L, htl, r1, r2, r3, r4, r5⟩ := open_recsW (C := fun n : Nat => idC n) (Ok := IdOk) Try.underlying35 cells_id (bs := 8) (by kernel_rfl) (by decide) idC_size (fun n cs x hx _ => by obtain ⟨k, h1, h2⟩ := id_run hx; exact ⟨k, h2, h1⟩) ⟨0, by unfold IdOk; decide⟩ e4 (fun n hn' => hsz n (by
    rw [hd]
    simp only [DataW.weights, Try.underlying37]
    exact DataW.weights_mem_each (j := 4) (t := 35) (d := xs[4].1) rfl (by simp [hx4]) n hn'))
  refine ⟨⟨kd, c, nn, id, A, len, cap, L⟩, ?_, ⟨hid, r1, fun j _ => r2 j, r3, r4, r5⟩⟩
  apply List.ext_getElem?
  intro i
  rcases Nat.lt_or_ge i 12 with h | h
  · have h3 : ∀ j, j < 8 → cs[3 + j]? = (idC id).toList[j]? := by
      intro j hj
      rw [← hidc, List.getElem?_take, if_pos hj, List.getElem?_drop]
    have h11 : cs[11]? = some (.slice A len cap) := by
      have := congrArg (·[0]?) htl
      simpa [List.getElem?_take, List.getElem?_drop] using this
    rcases (by omega : i = 0 ∨ i = 1 ∨ i = 2 ∨ i = 3 ∨ i = 4 ∨ i = 5 ∨ i = 6 ∨ i = 7 ∨ i = 8 ∨ i = 9 ∨ i = 10 ∨ i = 11) with rfl | rfl | rfl | rfl | rfl | rfl | rfl | rfl | rfl | rfl | rfl | rfl
    · exact hkd
    · exact hc
    · exact hnn
    · exact h3 0 (by omega)
    · exact h3 1 (by omega)
    · exact h3 2 (by omega)
    · exact h3 3 (by omega)
    · exact h3 4 (by omega)
    · exact h3 5 (by omega)
    · exact h3 6 (by omega)
    · exact h3 7 (by omega)
    · exact h11
  · rw [List.getElem?_eq_none (by omega), List.getElem?_eq_none (by show 12 ≤ i; exact h)]
/-- a script -/
def opA (L : Nat → OpR) : Nat → Array Value := fun j => opC (L j)
def InOps (w : World) (a : Option Addr) (len cap : Nat) (L : Nat → OpR) : Prop := RdR w a len 12 (opA L) ∧ (∀ j, OpOk w (L j)) ∧ len * 56 ≤ 140737488351232
def InIds (w : World) (a : Option Addr) (len cap : Nat) (L : Nat → Nat) : Prop := RdR w a len 8 (idA L) ∧ (∀ j, IdOk (L j)) ∧ (a = none → len = 0 ∧ cap = 0) ∧ len ≤ cap ∧ cap * 8 ≤ 140737488351232
section
variable {H : Type} {enc : TypeId × Value → H} {w : World} {base : Nat} {held : Bool} {a : Option Addr} {len cap : Nat} {d : DataW H} {ps : List MemPlace}
theorem open_ops (h : DataW.Trod enc Try.prog w base (fun _ => true) held 22 (.slice a len cap) d ps) (hsz : ∀ n ∈ d.weights Try.prog 22, n ≤ 140737488351232) : ∃ L, InOps w a len cap L := by
  obtain ⟨fuel, hf⟩ := h
  obtain ⟨a', len', cap', L, he, r1, r2, r3, r4, r5⟩ := open_recsW (C := opC) (Ok := OpOk w) Try.underlying22 (s := 12) (bs := 56) (by kernel_rfl) (by kernel_rfl) (by decide) (fun _ => rfl) (fun n cs x hx hw => op_run hx hw)
    ⟨⟨0, 0, 0, 0, none, 0, 0, fun _ => 0⟩, by unfold IdOk; decide, .inl rfl, fun j hj => by simp at hj, fun _ => ⟨rfl, rfl⟩, Nat.le_refl _, by decide⟩ hf hsz
  simp [Value.cells] at he
  obtain ⟨rfl, rfl, rfl⟩ := he
  exact ⟨L, r1, r2, by omega⟩
set_option maxRecDepth 100000 in
theorem open_ids (h : DataW.Trod enc Try.prog w base (fun _ => true) held 35 (.slice a len cap) d ps) (hsz : ∀ n ∈ d.weights Try.prog 35, n ≤ 140737488351232) : ∃ L, InIds w a len cap L := by
  obtain ⟨fuel, hf⟩ := h
  obtain ⟨a', len', cap', L, he, r1, r2, r3, r4, r5⟩ := open_recsW (C := fun n : Nat => idC n) (Ok := IdOk) Try.underlying35 cells_id (bs := 8) (by kernel_rfl) (by decide) idC_size (fun n cs x hx _ => by obtain ⟨k, h1, h2⟩ := id_run hx; exact ⟨k, h2, h1⟩) ⟨0, by unfold IdOk; decide⟩ hf hsz
  simp [Value.cells] at he
  obtain ⟨rfl, rfl, rfl⟩ := he
  exact ⟨L, r1, r2, r3, r4, r5⟩
set_option maxRecDepth 100000 in
theorem open_id {r : Reach} {b0 : Nat} {v : Value} (hv : Value.okWide Try.prog w r b0 28 v) (h : DataW.Trod enc Try.prog w base (fun _ => true) held 28 v d ps) : ∃ n, v = .agg (idC n) ∧ IdOk n := by
  simp only [Value.okWide, Try.underlying28] at hv
  obtain ⟨ca, rfl, hca, _⟩ := hv
  obtain ⟨fuel, hf⟩ := h
  obtain ⟨n, hn, hc⟩ := id_run hf
  exact ⟨n, congrArg Value.agg (Array.toList_inj.1 hc), hn⟩
end
end Go.Proofs.Yteamnibgeobcbaa
