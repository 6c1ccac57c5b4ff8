/- Members, and a MAC, that came in as arguments can be read. No condition. -/
import Derived.Test.YtahflakanbhapaaIList
import Derived.Deep.Slices
import Derived.OpenShut
import Derived.ProofKit
import Derived.SizedLaws
namespace Go.Proofs.Ytahflakanbhapaa
open Go.RowKit Go.ChangeShapes Go.WideShapes
set_option linter.unusedVariables false

section
variable {H : Type} {enc : TypeId × Value → H} {w : World} {base : Nat} {spare : Nat → Bool} {held : Bool} {m : Nat} {cs : List Value} {x : DataW H × List MemPlace}
theorem cell_u8 {k : Nat} {o : Option (DataW H × List MemPlace)} (h : DataW.trod enc Try.prog w base spare held m 5 ((cs.drop k).take 1) = o) (ho : o.isSome = true) : ∃ a : Int, cs[k]? = some (.int .u8 a) ∧ 0 ≤ a ∧ a ≤ 255 := by
  obtain ⟨y, rfl⟩ := Option.isSome_iff_exists.1 ho
  obtain ⟨a, ea, _, wa⟩ := DataW.trod_int Try.underlying5 h
  refine ⟨a, ?_, wf_u8 wa⟩
  have := congrArg (·[0]?) ea
  simpa [List.getElem?_take, List.getElem?_drop] using this
theorem cell_bool {k : Nat} {o : Option (DataW H × List MemPlace)} (h : DataW.trod enc Try.prog w base spare held m 4 ((cs.drop k).take 1) = o) (ho : o.isSome = true) : ∃ a : Bool, cs[k]? = some (.bool a) := by
  obtain ⟨y, rfl⟩ := Option.isSome_iff_exists.1 ho
  obtain ⟨a, ea, _⟩ := DataW.trod_bool Try.underlying4 h
  refine ⟨a, ?_⟩
  have := congrArg (·[0]?) ea
  simpa [List.getElem?_take, List.getElem?_drop] using this
theorem bytes_run {n e : Nat} {t : TypeId} (ht : Try.prog.underlying t = some (.array n 5)) {o : Option (DataW H × List MemPlace)} (h : DataW.trod enc Try.prog w base spare held m t ((cs.drop e).take n) = o) (ho : o.isSome = true) :
    ∃ z : Nat → Int, (∀ i, i < n → cs[e + i]? = some (.int .u8 (z i))) ∧ ∀ i, 0 ≤ z i ∧ z i ≤ 255 := by
  obtain ⟨y, rfl⟩ := Option.isSome_iff_exists.1 ho
  have hc1 : Try.prog.cellsOf 5 = 1 := by kernel_rfl
  obtain ⟨ys, m2, _, _, _, hn2, hel2⟩ := DataW.trod_array ht h
  have one : ∀ i, i < n → ∃ a : Int, cs[e + i]? = some (.int .u8 a) ∧ 0 ≤ a ∧ a ≤ 255 := by
    intro i hi
    have he := hel2 i hi
    rw [hc1, Nat.mul_one] at he
    obtain ⟨a, ha, hb⟩ := cell_u8 he (by rw [List.getElem?_eq_getElem (by omega)]; rfl)
    refine ⟨a, ?_, hb⟩
    rwa [List.getElem?_take, if_pos hi, List.getElem?_drop] at ha
  refine ⟨fun i => if h : i < n then (one i h).choose else 0, fun i hi => ?_, fun i => ?_⟩
  · simp only [dif_pos hi]
    exact (one i hi).choose_spec.1
  · by_cases h : i < n
    · simp only [dif_pos h]
      exact (one i h).choose_spec.2
    · simp only [dif_neg h]
      exact ⟨Int.le_refl 0, by decide⟩
theorem mb_cells (h : DataW.trod enc Try.prog w base spare held m 39 cs = some x) : ∃ r : Mb, cs = (mbC r).toList ∧ MbOk r := by
  have hc14 : Try.prog.cellsOf 39 = 14 := by kernel_rfl
  have hcs : Try.prog.cellsOf 37 = 6 := by kernel_rfl
  have hcm : Try.prog.cellsOf 36 = 6 := by kernel_rfl
  have hcu : Try.prog.cellsOf 5 = 1 := by kernel_rfl
  have hcb : Try.prog.cellsOf 4 = 1 := by kernel_rfl
  obtain ⟨xs, m1, _, _, hl, hn, hel⟩ := DataW.trod_struct Try.underlying39 h
  rw [hc14] at hl
  have hn : xs.length = 4 := hn
  have e0 : DataW.trod enc Try.prog w base spare held m1 37 ((cs.drop 0).take (Try.prog.cellsOf 37)) = xs[0]? := hel 0 _ rfl
  have e1 : DataW.trod enc Try.prog w base spare held m1 36 ((cs.drop 6).take (Try.prog.cellsOf 36)) = xs[1]? := hel 1 _ rfl
  have e2 : DataW.trod enc Try.prog w base spare held m1 5 ((cs.drop 12).take (Try.prog.cellsOf 5)) = xs[2]? := hel 2 _ rfl
  have e3 : DataW.trod enc Try.prog w base spare held m1 4 ((cs.drop 13).take (Try.prog.cellsOf 4)) = xs[3]? := hel 3 _ rfl
  rw [hcs] at e0
  rw [hcm] at e1
  rw [hcu] at e2
  rw [hcb] at e3
  obtain ⟨s, hs, bs⟩ := bytes_run Try.underlying37 e0 (by rw [List.getElem?_eq_getElem (by omega)]; rfl)
  obtain ⟨k, hk, bk⟩ := bytes_run Try.underlying36 e1 (by rw [List.getElem?_eq_getElem (by omega)]; rfl)
  obtain ⟨pr, hp, bp⟩ := cell_u8 e2 (by rw [List.getElem?_eq_getElem (by omega)]; rfl)
  obtain ⟨up, hu⟩ := cell_bool e3 (by rw [List.getElem?_eq_getElem (by omega)]; rfl)
  refine ⟨⟨s, k, pr, up⟩, ?_, bs, bk, bp⟩
  apply List.ext_getElem?
  intro i
  rcases Nat.lt_or_ge i 14 with h | h
  · rcases (by omega : i < 6 ∨ (6 ≤ i ∧ i < 12) ∨ i = 12 ∨ i = 13) with h1 | ⟨h1, h2⟩ | rfl | rfl
    · have := hs i h1
      rw [Nat.zero_add] at this
      rw [this]
      rcases (by omega : i = 0 ∨ i = 1 ∨ i = 2 ∨ i = 3 ∨ i = 4 ∨ i = 5) with rfl | rfl | rfl | rfl | rfl | rfl <;> rfl
    · obtain ⟨d, rfl⟩ := Nat.exists_eq_add_of_le h1
      rw [hk d (by omega)]
      rcases (by omega : d = 0 ∨ d = 1 ∨ d = 2 ∨ d = 3 ∨ d = 4 ∨ d = 5) with rfl | rfl | rfl | rfl | rfl | rfl <;> rfl
    · exact hp
    · exact hu
  · rw [List.getElem?_eq_none (by omega), List.getElem?_eq_none (by show 14 ≤ i; exact h)]
end
theorem open_recs {α : Type} [Inhabited α] {t e : TypeId} {s bs : Nat} {C : α → Array Value} {Ok : α → Prop} (ht : Try.prog.underlying t = some (.slice e)) (hs : Try.prog.cellsOf e = s) (hbs : Try.prog.bytesOf e = bs) (hs1 : 0 < s) (hC : ∀ r, (C r).size = s)
    {H : Type} {enc : TypeId × Value → H} {w : World} {base : Nat} {held : Bool} {a : Option Addr} {len cap : Nat} {d : DataW H} {ps : List MemPlace}
    (hel : ∀ (n : Nat) (cs : List Value) (x : DataW H × List MemPlace), DataW.trod enc Try.prog w base (fun _ => true) held n e cs = some x → ∃ r, cs = (C r).toList ∧ Ok r) (h0 : ∃ r, Ok r)
    (h : DataW.Trod enc Try.prog w base (fun _ => true) held t (.slice a len cap) d ps) (hsz : ∀ n ∈ d.weights Try.prog t, n ≤ 140737488351232) :
    ∃ L : Nat → α, RdR w a len s (fun j => C (L j)) ∧ (∀ j, Ok (L j)) ∧ (a = none → len = 0 ∧ cap = 0) ∧ len ≤ cap ∧ cap * bs ≤ 140737488351232 := by
  obtain ⟨fuel, hf⟩ := h
  obtain ⟨r0, hr0⟩ := h0
  rcases Deep.open_slice ht hf with ⟨hcs, _⟩ | ⟨x, l, c, mm, n, D, Pl, hcs, _, hl, hm, hmm, hx, hcell⟩
  · simp [Value.cells] at hcs
    obtain ⟨rfl, rfl, rfl⟩ := hcs
    exact ⟨fun _ => r0, .inl rfl, fun _ => hr0, fun _ => ⟨rfl, rfl⟩, Nat.le_refl _, by omega⟩
  · simp [Value.cells] at hcs
    obtain ⟨rfl, rfl, rfl⟩ := hcs
    rw [if_pos rfl] at hmm
    subst hmm
    simp only [Prod.mk.injEq] at hx
    obtain ⟨rfl, rfl⟩ := hx
    have hw0 := hsz ((len + (mm - len)) * bs) (by
      simp only [DataW.weights, ht, List.length_map, List.length_range, hbs]
      exact List.mem_cons_self ..)
    have each : ∀ i, i < len → ∃ r : α, Ok r ∧ ∀ j u, (C r).toList[j]? = some u → w.cell? ((x.add (i * s)).add j) = some u := by
      intro i hi
      obtain ⟨cs', hc, ht'⟩ := hcell i (by omega)
      rw [hs] at hc
      obtain ⟨_, hcl, hat⟩ := World.cells?_some hc
      obtain ⟨r, rfl, hr⟩ := hel n cs' _ ht'
      refine ⟨r, hr, fun j u hu => ?_⟩
      have hj : j < s := by
        rcases Nat.lt_or_ge j s with h | h
        · exact h
        · rw [List.getElem?_eq_none (by rw [Array.length_toList, hC]; exact h)] at hu; cases hu
      rw [hat j hj, hu]
    obtain ⟨f, hf'⟩ := Deep.choose_lt each
    refine ⟨fun i => if i < len then f i else r0, ?_, fun j => ?_, fun e => (by cases e), hl, ?_⟩
    · rcases Nat.eq_zero_or_pos len with h0 | h0
      · exact .inl h0
      · obtain ⟨b, off, spot⟩ := x
        have hc0 := (hf' 0 h0).2 0 ((C (f 0))[0]'(by rw [hC]; exact hs1)) (by rw [Array.getElem?_toList]; exact Array.getElem?_eq_getElem _)
        have hs : spot = none := by simpa [Addr.add] using World.cell?_spot hc0
        subst hs
        refine .inr ⟨b, off, rfl, by have := cell_lt hc0; simpa [add_none] using this, fun j hj k u hu => ?_⟩
        dsimp only at hu
        rw [if_pos hj] at hu
        have := (hf' j hj).2 k u hu
        rw [add_none, add_none] at this
        exact this
    · dsimp only
      split
      · rename_i h; exact (hf' j h).1
      · exact hr0
    · have : len + (mm - len) = mm := by omega
      rwa [this] at hw0
/-- members that came in -/
def InMbs (w : World) (a : Option Addr) (len cap : Nat) (L : Nat → Mb) : Prop := RdR w a len 14 (mbA L) ∧ (∀ j, MbOk (L j)) ∧ (a = none → len = 0 ∧ cap = 0) ∧ len ≤ cap ∧ cap * 14 ≤ 140737488351232
theorem zero_ok : MbOk mb0 := ⟨fun _ => ⟨Int.le_refl 0, show (0 : Int) ≤ 255 by decide⟩, fun _ => ⟨Int.le_refl 0, show (0 : Int) ≤ 255 by decide⟩, Int.le_refl 0, show (0 : Int) ≤ 255 by decide⟩
theorem open_mbs {H : Type} {enc : TypeId × Value → H} {w : World} {base : Nat} {held : Bool} {a : Option Addr} {len cap : Nat} {d : DataW H} {ps : List MemPlace}
    (h : DataW.Trod enc Try.prog w base (fun _ => true) held 22 (.slice a len cap) d ps) (hsz : ∀ n ∈ d.weights Try.prog 22, n ≤ 140737488351232) :
    ∃ L : Nat → Mb, InMbs w a len cap L := by
  haveI : Inhabited Mb := ⟨mb0⟩
  exact open_recs (α := Mb) (s := 14) (bs := 14) (C := mbC) (Ok := MbOk) Try.underlying22 (by kernel_rfl) (by kernel_rfl) (by omega) (fun r => rfl) (fun n cs x h => mb_cells h) ⟨mb0, zero_ok⟩ h hsz
theorem open_mac {H : Type} {enc : TypeId × Value → H} {w : World} {base : Nat} {spare : Nat → Bool} {held : Bool} {r : Reach} {b0 : Nat} {v : Value} {d : DataW H} {ps : List MemPlace}
    (hv : Value.okWide Try.prog w r b0 36 v) (h : DataW.Trod enc Try.prog w base spare held 36 v d ps) :
    ∃ z, v = .agg (syC z) ∧ byte6 z := by
  have hc6 : Try.prog.cellsOf 36 = 6 := by kernel_rfl
  simp only [Value.okWide, Try.underlying36] at hv
  obtain ⟨ca, rfl, hsz, _⟩ := hv
  rw [hc6] at hsz
  obtain ⟨fuel, hf⟩ := h
  have hcc : (Value.agg ca).cells.toList = ca.toList := rfl
  rw [hcc] at hf
  have hf' : DataW.trod enc Try.prog w base spare held fuel 36 ((ca.toList.drop 0).take 6) = some (d, ps) := by
    rw [List.drop_zero, List.take_of_length_le (by rw [Array.length_toList]; omega)]; exact hf
  obtain ⟨z, hz, bz⟩ := bytes_run Try.underlying36 hf' rfl
  refine ⟨z, ?_, bz⟩
  congr 1
  apply Array.ext_getElem?
  intro i
  rw [← Array.getElem?_toList]
  rcases Nat.lt_or_ge i 6 with h | h
  · have := hz i h
    rw [Nat.zero_add] at this
    rw [this]
    rcases (by omega : i = 0 ∨ i = 1 ∨ i = 2 ∨ i = 3 ∨ i = 4 ∨ i = 5) with rfl | rfl | rfl | rfl | rfl | rfl <;> rfl
  · rw [List.getElem?_eq_none (by rw [Array.length_toList]; omega), Array.getElem?_eq_none (by show 6 ≤ i; exact h)]
end Go.Proofs.Ytahflakanbhapaa
