/- A list of entries that came in as an argument can be read. No condition. -/
import Derived.Test.YtigkmcbkckfhbaaDBoth
import Derived.Deep.Slices
import Derived.OpenShut
import Derived.ProofKit
import Derived.SizedLaws
namespace Go.Proofs.Ytigkmcbkckfhbaa
open Go.RowKit Go.ChangeShapes Go.WideShapes
set_option linter.unusedVariables false

theorem tol (A : Array Value) (i : Nat) : A.toList[i]? = A[i]? := by simp
section
variable {H : Type} {enc : TypeId × Value → H} {w : World} {base : Nat} {spare : Nat → Bool} {held : Bool} {m : Nat} {cs : List Value} {x : DataW H × List MemPlace}
theorem cell_u8 {k : Nat} {o : Option (DataW H × List MemPlace)} (h : DataW.trod enc Try.prog w base spare held m 5 ((cs.drop k).take 1) = o) (ho : o.isSome = true) : ∃ a : Int, cs[k]? = some (.int .u8 a) ∧ 0 ≤ a ∧ a ≤ 255 := by
  obtain ⟨y, rfl⟩ := Option.isSome_iff_exists.1 ho
  obtain ⟨a, ea, _, wa⟩ := DataW.trod_int Try.underlying5 h
  refine ⟨a, ?_, wf_u8 wa⟩
  have := congrArg (·[0]?) ea
  simpa [List.getElem?_take, List.getElem?_drop] using this
theorem bytes_run {n e : Nat} {t : TypeId} (ht : Try.prog.underlying t = some (.array n 5)) {o : Option (DataW H × List MemPlace)} (h : DataW.trod enc Try.prog w base spare held m t ((cs.drop e).take n) = o) (ho : o.isSome = true) :
    ∃ z : Nat → Int, (∀ i, i < n → cs[e + i]? = some (.int .u8 (z i))) ∧ ∀ i, 0 ≤ z i ∧ z i ≤ 255 := by
  obtain ⟨y, rfl⟩ := Option.isSome_iff_exists.1 ho
  have hc1 : Try.prog.cellsOf 5 = 1 := by kernel_rfl
  obtain ⟨ys, m2, _, _, _, hn2, hel2⟩ := DataW.trod_array ht h
  have one : ∀ i, i < n → ∃ a : Int, cs[e + i]? = some (.int .u8 a) ∧ 0 ≤ a ∧ a ≤ 255 := by
    intro i hi
    have he := hel2 i hi
    rw [hc1, Nat.mul_one] at he
    obtain ⟨a, ha, hb⟩ := cell_u8 he (by rw [List.getElem?_eq_getElem (by omega)]; rfl)
    refine ⟨a, ?_, hb⟩
    rwa [List.getElem?_take, if_pos hi, List.getElem?_drop] at ha
  refine ⟨fun i => if h : i < n then (one i h).choose else 0, fun i hi => ?_, fun i => ?_⟩
  · simp only [dif_pos hi]
    exact (one i hi).choose_spec.1
  · by_cases h : i < n
    · simp only [dif_pos h]
      exact (one i h).choose_spec.2
    · simp only [dif_neg h]
      exact ⟨Int.le_refl 0, by decide⟩
theorem entry_cells (h : DataW.trod enc Try.prog w base spare held m 96 cs = some x) : ∃ E : En, cs = (enC E).toList ∧ EnOk E := by
  have hc11 : Try.prog.cellsOf 96 = 11 := by kernel_rfl
  have hc8 : Try.prog.cellsOf 27 = 8 := by kernel_rfl
  have hc7 : Try.prog.cellsOf 25 = 7 := by kernel_rfl
  have hc6 : Try.prog.cellsOf 23 = 6 := by kernel_rfl
  have hc1 : Try.prog.cellsOf 5 = 1 := by kernel_rfl
  have hcu : Try.prog.cellsOf 28 = 1 := by kernel_rfl
  have hci : Try.prog.cellsOf 3 = 1 := by kernel_rfl
  have hcs : Try.prog.cellsOf 65 = 1 := by kernel_rfl
  obtain ⟨xs, m1, _, _, hl, hn, hel⟩ := DataW.trod_struct Try.underlying96 h
  rw [hc11] at hl
  have hn : xs.length = 4 := hn
  have e0 : DataW.trod enc Try.prog w base spare held m1 27 ((cs.drop 0).take (Try.prog.cellsOf 27)) = xs[0]? := hel 0 _ rfl
  have e1 : DataW.trod enc Try.prog w base spare held m1 28 ((cs.drop 8).take (Try.prog.cellsOf 28)) = xs[1]? := hel 1 _ rfl
  have e2 : DataW.trod enc Try.prog w base spare held m1 3 ((cs.drop 9).take (Try.prog.cellsOf 3)) = xs[2]? := hel 2 _ rfl
  have e3 : DataW.trod enc Try.prog w base spare held m1 65 ((cs.drop 10).take (Try.prog.cellsOf 65)) = xs[3]? := hel 3 _ rfl
  rw [hc8, List.getElem?_eq_getElem (by omega)] at e0
  rw [hcu, List.getElem?_eq_getElem (by omega)] at e1
  rw [hci, List.getElem?_eq_getElem (by omega)] at e2
  rw [hcs, List.getElem?_eq_getElem (by omega)] at e3
  obtain ⟨ws, m0, _, _, _, hnw, hew⟩ := DataW.trod_struct Try.underlying27 e0
  have hnw : ws.length = 2 := hnw
  have g0 : DataW.trod enc Try.prog w base spare held m0 25 ((((cs.drop 0).take 8).drop 0).take (Try.prog.cellsOf 25)) = ws[0]? := hew 0 _ rfl
  have g1 : DataW.trod enc Try.prog w base spare held m0 5 ((((cs.drop 0).take 8).drop 7).take (Try.prog.cellsOf 5)) = ws[1]? := hew 1 _ rfl
  rw [hc7, List.getElem?_eq_getElem (by omega)] at g0
  rw [hc1] at g1
  obtain ⟨ys, m2, _, _, _, hny, hey⟩ := DataW.trod_struct Try.underlying25 g0
  have hny : ys.length = 2 := hny
  have f0 : DataW.trod enc Try.prog w base spare held m2 23 ((((((cs.drop 0).take 8).drop 0).take 7).drop 0).take (Try.prog.cellsOf 23)) = ys[0]? := hey 0 _ rfl
  have f1 : DataW.trod enc Try.prog w base spare held m2 5 ((((((cs.drop 0).take 8).drop 0).take 7).drop 6).take (Try.prog.cellsOf 5)) = ys[1]? := hey 1 _ rfl
  rw [hc6] at f0
  rw [hc1] at f1
  obtain ⟨z, hz, hzb⟩ := bytes_run Try.underlying23 f0 (by rw [List.getElem?_eq_getElem (by omega)]; rfl)
  obtain ⟨p, hp, hpb⟩ := cell_u8 f1 (by rw [List.getElem?_eq_getElem (by omega)]; rfl)
  obtain ⟨g, hg, hgb⟩ := cell_u8 g1 (by rw [List.getElem?_eq_getElem (by omega)]; rfl)
  obtain ⟨q, eq, _, wq⟩ := DataW.trod_int Try.underlying28 e1
  obtain ⟨t, et, _, wt⟩ := DataW.trod_int Try.underlying3 e2
  obtain ⟨s, es, _, ws'⟩ := DataW.trod_int Try.underlying65 e3
  have hq : cs[8]? = some (.int .u32 q) := by
    have := congrArg (·[0]?) eq
    simpa [List.getElem?_take, List.getElem?_drop] using this
  have ht : cs[9]? = some (.int .i64 t) := by
    have := congrArg (·[0]?) et
    simpa [List.getElem?_take, List.getElem?_drop] using this
  have hs : cs[10]? = some (.int .u16 s) := by
    have := congrArg (·[0]?) es
    simpa [List.getElem?_take, List.getElem?_drop] using this
  have hqb := wf_u32 wq
  have hsb : 0 ≤ s ∧ s ≤ 65535 := wf_u16 ws'
  have htb : -9223372036854775808 ≤ t ∧ t ≤ 9223372036854775807 := wf_i64 wt
  have hz' : ∀ i, i < 6 → cs[i]? = some (.int .u8 (z i)) := fun i hi => by
    have := hz i hi
    rw [Nat.zero_add, List.drop_zero, List.drop_zero, List.getElem?_take, if_pos (by omega), List.getElem?_take, if_pos (by omega)] at this
    exact this
  have hp' : cs[6]? = some (.int .u8 p) := by
    rw [List.drop_zero, List.drop_zero, List.getElem?_take, if_pos (by omega), List.getElem?_take, if_pos (by omega)] at hp
    exact hp
  have hg' : cs[7]? = some (.int .u8 g) := by
    rw [List.drop_zero, List.getElem?_take, if_pos (by omega)] at hg
    exact hg
  refine ⟨⟨fun j => if j = 6 then p else if j = 7 then g else z j, q.toNat, t, s.toNat⟩, ?_, fun j => ?_, by show q.toNat ≤ _; omega, htb, by show s.toNat ≤ _; omega⟩
  · apply List.ext_getElem?
    intro i
    rcases Nat.lt_or_ge i 11 with h | h
    · rcases (by omega : i = 0 ∨ i = 1 ∨ i = 2 ∨ i = 3 ∨ i = 4 ∨ i = 5 ∨ i = 6 ∨ i = 7 ∨ i = 8 ∨ i = 9 ∨ i = 10) with rfl | rfl | rfl | rfl | rfl | rfl | rfl | rfl | rfl | rfl | rfl
      · exact hz' 0 (by omega)
      · exact hz' 1 (by omega)
      · exact hz' 2 (by omega)
      · exact hz' 3 (by omega)
      · exact hz' 4 (by omega)
      · exact hz' 5 (by omega)
      · exact hp'
      · exact hg'
      · rw [hq]
        show _ = some (Value.int .u32 ((q.toNat : Nat) : Int))
        rw [Int.toNat_of_nonneg hqb.1]
      · exact ht
      · rw [hs]
        show _ = some (Value.int .u16 ((s.toNat : Nat) : Int))
        rw [Int.toNat_of_nonneg hsb.1]
    · rw [List.getElem?_eq_none (by omega), List.getElem?_eq_none (by show 11 ≤ i; omega)]
  · show 0 ≤ (if j = 6 then p else if j = 7 then g else z j) ∧ (if j = 6 then p else if j = 7 then g else z j) ≤ 255
    split
    · exact hpb
    · split
      · exact hgb
      · exact hzb j
end

set_option maxRecDepth 100000 in
theorem open_recs {α : Type} [Inhabited α] {t e : TypeId} {s bs : Nat} {C : α → Array Value} {Ok : α → Prop} (ht : Try.prog.underlying t = some (.slice e)) (hs : Try.prog.cellsOf e = s) (hbs : Try.prog.bytesOf e = bs) (hs1 : 0 < s) (hC : ∀ r, (C r).size = s)
    {H : Type} {enc : TypeId × Value → H} {w : World} {base : Nat} {held : Bool} {a : Option Addr} {len cap : Nat} {d : DataW H} {ps : List MemPlace}
    (hel : ∀ (n : Nat) (cs : List Value) (x : DataW H × List MemPlace), DataW.trod enc Try.prog w base (fun _ => true) held n e cs = some x → ∃ r, cs = (C r).toList ∧ Ok r) (h0 : ∃ r, Ok r)
    (h : DataW.Trod enc Try.prog w base (fun _ => true) held t (.slice a len cap) d ps) (hsz : ∀ n ∈ d.weights Try.prog t, n ≤ 140737488351232) :
    ∃ L : Nat → α, RdR w a len s (fun j => C (L j)) ∧ (∀ j, Ok (L j)) ∧ (a = none → len = 0 ∧ cap = 0) ∧ len ≤ cap ∧ cap * bs ≤ 140737488351232 := by
  obtain ⟨fuel, hf⟩ := h
  obtain ⟨r0, hr0⟩ := h0
  rcases Deep.open_slice ht hf with ⟨hcs, _⟩ | ⟨x, l, c, mm, n, D, Pl, hcs, _, hl, hm, hmm, hx, hcell⟩
  · simp [Value.cells] at hcs
    obtain ⟨rfl, rfl, rfl⟩ := hcs
    exact ⟨fun _ => r0, .inl rfl, fun _ => hr0, fun _ => ⟨rfl, rfl⟩, Nat.le_refl _, by omega⟩
  · simp [Value.cells] at hcs
    obtain ⟨rfl, rfl, rfl⟩ := hcs
    rw [if_pos rfl] at hmm
    subst hmm
    simp only [Prod.mk.injEq] at hx
    obtain ⟨rfl, rfl⟩ := hx
    have hw0 := hsz ((len + (mm - len)) * bs) (by
      simp only [DataW.weights, ht, List.length_map, List.length_range, hbs]
      exact List.mem_cons_self ..)
    have each : ∀ i, i < len → ∃ r : α, Ok r ∧ ∀ j u, (C r).toList[j]? = some u → w.cell? ((x.add (i * s)).add j) = some u := by
      intro i hi
      obtain ⟨cs', hc, ht'⟩ := hcell i (by omega)
      rw [hs] at hc
      obtain ⟨_, hcl, hat⟩ := World.cells?_some hc
      obtain ⟨r, rfl, hr⟩ := hel n cs' _ ht'
      refine ⟨r, hr, fun j u hu => ?_⟩
      have hj : j < s := by
        rcases Nat.lt_or_ge j s with h | h
        · exact h
        · rw [List.getElem?_eq_none (by rw [Array.length_toList, hC]; exact h)] at hu; cases hu
      rw [hat j hj, hu]
    obtain ⟨f, hf'⟩ := Deep.choose_lt each
    refine ⟨fun i => if i < len then f i else r0, ?_, fun j => ?_, fun e => (by cases e), hl, ?_⟩
    · rcases Nat.eq_zero_or_pos len with h0 | h0
      · exact .inl h0
      · obtain ⟨b, off, spot⟩ := x
        have hc0 := (hf' 0 h0).2 0 ((C (f 0))[0]'(by rw [hC]; exact hs1)) (by rw [Array.getElem?_toList]; exact Array.getElem?_eq_getElem _)
        have hs : spot = none := by simpa [Addr.add] using World.cell?_spot hc0
        subst hs
        refine .inr ⟨b, off, rfl, by have := cell_lt hc0; simpa [add_none] using this, fun j hj k u hu => ?_⟩
        dsimp only at hu
        rw [if_pos hj] at hu
        have := (hf' j hj).2 k u hu
        rw [add_none, add_none] at this
        exact this
    · dsimp only
      split
      · rename_i h; exact (hf' j h).1
      · exact hr0
    · have : len + (mm - len) = mm := by omega
      rwa [this] at hw0
section
variable {H : Type} {enc : TypeId × Value → H} {w : World} {base : Nat} {held : Bool} {a : Option Addr} {len cap : Nat} {d : DataW H} {ps : List MemPlace}
set_option maxRecDepth 100000 in
theorem open_entries (h : DataW.Trod enc Try.prog w base (fun _ => true) held 55 (.slice a len cap) d ps) (hsz : ∀ n ∈ d.weights Try.prog 55, n ≤ 140737488351232) :
    ∃ L : Nat → En, RdR w a len 11 (enA L) ∧ (∀ j, EnOk (L j)) ∧ (a = none → len = 0 ∧ cap = 0) ∧ len ≤ cap ∧ cap * 32 ≤ 140737488351232 := by
  haveI : Inhabited En := ⟨⟨fun _ => 0, 0, 0, 0⟩⟩
  exact open_recs (α := En) (s := 11) (bs := 32) (C := enC) (Ok := EnOk) Try.underlying55 (by kernel_rfl) (by kernel_rfl) (by omega) (fun r => rfl) (fun n cs x h => entry_cells h) ⟨⟨fun _ => 0, 0, 0, 0⟩, fun _ => ⟨Int.le_refl 0, show (0 : Int) ≤ 255 by decide⟩, by decide, by decide, by decide⟩ h hsz
end
end Go.Proofs.Ytigkmcbkckfhbaa
