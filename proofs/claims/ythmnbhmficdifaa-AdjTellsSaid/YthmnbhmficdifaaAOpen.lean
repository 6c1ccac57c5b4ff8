/- Sides, hellos and adjacencies that came in as arguments can be read. No condition. -/
import Derived.Test.YthmnbhmficdifaaRows
import Derived.Test.YthmnbhmficdifaaAChk
import Derived.Deep.Slices
import Derived.OpenShut
import Derived.ProofKit
import Derived.SizedLaws
namespace Go.Proofs.Ythmnbhmficdifaa
open Go.RowKit Go.ChangeShapes Go.WideShapes
set_option linter.unusedVariables false

theorem mem_weightsAll {H : Type} {P : Program} {e : TypeId} {ds : List (DataW H)} {d : DataW H} (hd : d ∈ ds) : ∀ n ∈ d.weights P e, n ∈ DataW.weightsAll P e ds := by
  induction ds with
  | nil => cases hd
  | cons x r ih =>
    intro n hn
    simp only [DataW.weightsAll, List.mem_append]
    rcases List.mem_cons.1 hd with rfl | h
    · exact .inl hn
    · exact .inr (ih h n hn)
section
variable {H : Type} {enc : TypeId × Value → H} {w : World} {base : Nat} {spare : Nat → Bool} {held : Bool} {m : Nat} {cs : List Value} {x : DataW H × List MemPlace}
theorem cell_u8 {k : Nat} {o : Option (DataW H × List MemPlace)} (h : DataW.trod enc Try.prog w base spare held m 5 ((cs.drop k).take 1) = o) (ho : o.isSome = true) : ∃ a : Int, cs[k]? = some (.int .u8 a) ∧ 0 ≤ a ∧ a ≤ 255 := by
  obtain ⟨y, rfl⟩ := Option.isSome_iff_exists.1 ho
  obtain ⟨a, ea, _, wa⟩ := DataW.trod_int Try.underlying5 h
  refine ⟨a, ?_, wf_u8 wa⟩
  have := congrArg (·[0]?) ea
  simpa [List.getElem?_take, List.getElem?_drop] using this
theorem cell_i64 {k : Nat} {o : Option (DataW H × List MemPlace)} (h : DataW.trod enc Try.prog w base spare held m 3 ((cs.drop k).take 1) = o) (ho : o.isSome = true) : ∃ a : Int, cs[k]? = some (.int .i64 a) ∧ -9223372036854775808 ≤ a ∧ a ≤ 9223372036854775807 := by
  obtain ⟨y, rfl⟩ := Option.isSome_iff_exists.1 ho
  obtain ⟨a, ea, _, wa⟩ := DataW.trod_int Try.underlying3 h
  refine ⟨a, ?_, wf_i64 wa⟩
  have := congrArg (·[0]?) ea
  simpa [List.getElem?_take, List.getElem?_drop] using this
theorem cell_t64 {k : Nat} {o : Option (DataW H × List MemPlace)} (h : DataW.trod enc Try.prog w base spare held m 2 ((cs.drop k).take 1) = o) (ho : o.isSome = true) : ∃ a : Int, cs[k]? = some (.int .i64 a) ∧ -9223372036854775808 ≤ a ∧ a ≤ 9223372036854775807 := by
  obtain ⟨y, rfl⟩ := Option.isSome_iff_exists.1 ho
  obtain ⟨a, ea, _, wa⟩ := DataW.trod_int Try.underlying2 h
  refine ⟨a, ?_, wf_i64 wa⟩
  have := congrArg (·[0]?) ea
  simpa [List.getElem?_take, List.getElem?_drop] using this
theorem cell_bool {k : Nat} {o : Option (DataW H × List MemPlace)} (h : DataW.trod enc Try.prog w base spare held m 4 ((cs.drop k).take 1) = o) (ho : o.isSome = true) : ∃ a : Bool, cs[k]? = some (.bool a) := by
  obtain ⟨y, rfl⟩ := Option.isSome_iff_exists.1 ho
  obtain ⟨a, ea, _⟩ := DataW.trod_bool Try.underlying4 h
  refine ⟨a, ?_⟩
  have := congrArg (·[0]?) ea
  simpa [List.getElem?_take, List.getElem?_drop] using this
theorem bytes_run {n e : Nat} {t : TypeId} (ht : Try.prog.underlying t = some (.array n 5)) {o : Option (DataW H × List MemPlace)} (h : DataW.trod enc Try.prog w base spare held m t ((cs.drop e).take n) = o) (ho : o.isSome = true) :
    ∃ z : Nat → Int, (∀ i, i < n → cs[e + i]? = some (.int .u8 (z i))) ∧ ∀ i, 0 ≤ z i ∧ z i ≤ 255 := by
  obtain ⟨y, rfl⟩ := Option.isSome_iff_exists.1 ho
  have hc1 : Try.prog.cellsOf 5 = 1 := by kernel_rfl
  obtain ⟨ys, m2, _, _, _, hn2, hel2⟩ := DataW.trod_array ht h
  have one : ∀ i, i < n → ∃ a : Int, cs[e + i]? = some (.int .u8 a) ∧ 0 ≤ a ∧ a ≤ 255 := by
    intro i hi
    have he := hel2 i hi
    rw [hc1, Nat.mul_one] at he
    obtain ⟨a, ha, hb⟩ := cell_u8 he (by rw [List.getElem?_eq_getElem (by omega)]; rfl)
    refine ⟨a, ?_, hb⟩
    rwa [List.getElem?_take, if_pos hi, List.getElem?_drop] at ha
  refine ⟨fun i => if h : i < n then (one i h).choose else 0, fun i hi => ?_, fun i => ?_⟩
  · simp only [dif_pos hi]
    exact (one i hi).choose_spec.1
  · by_cases h : i < n
    · simp only [dif_pos h]
      exact (one i h).choose_spec.2
    · simp only [dif_neg h]
      exact ⟨Int.le_refl 0, by decide⟩
/-- a list of rows of bytes -/
theorem sls_run {k : Nat} {d : DataW H × List MemPlace} (h : DataW.trod enc Try.prog w base (fun _ => true) held m 24 ((cs.drop k).take 1) = some d) (hk : k < cs.length) (hsz : ∀ n ∈ d.1.weights Try.prog 24, n ≤ 140737488351232) :
    ∃ a len cap L, cs[k]? = some (.slice a len cap) ∧ RdS w a len L ∧ (a = none → len = 0 ∧ cap = 0) ∧ len ≤ cap ∧ cap * 24 ≤ 140737488351232 := by
  have hone : (cs.drop k).take 1 = [cs[k]] := by
    rw [List.drop_eq_getElem_cons hk, List.take_succ_cons, List.take_zero]
  have hat : cs[k]? = some cs[k] := List.getElem?_eq_getElem hk
  rw [hone] at h
  rcases Deep.open_slice1 Try.underlying24 (by kernel_rfl) h with ⟨hcs, _⟩ | ⟨x, len, cap, mm, n, V, D, P, hcs, _, hl, hm, hmm, hx, hcell⟩
  · injection hcs with hcs _
    rw [hcs] at hat
    exact ⟨none, 0, 0, fun _ => ⟨none, 0, 0, fun _ => 0⟩, hat, .inl rfl, fun _ => ⟨rfl, rfl⟩, Nat.le_refl _, by omega⟩
  · injection hcs with hcs _
    rw [hcs] at hat
    rw [if_pos rfl] at hmm
    subst hmm
    subst hx
    have hb : Try.prog.bytesOf 49 = 24 := by kernel_rfl
    have hw0 := hsz ((len + (mm - len)) * 24) (by
      simp only [DataW.weights, Try.underlying24, List.length_map, List.length_range, hb]
      exact List.mem_cons_self ..)
    have each : ∀ i, i < len → ∃ t : Option Addr × Nat × Nat × (Nat → Int), w.cell? (x.add i) = some (.slice t.1 t.2.1 t.2.2.1) ∧ SlOk w ⟨t.1, t.2.1, t.2.2.1, t.2.2.2⟩ := by
      intro i hi
      obtain ⟨e1, t1⟩ := hcell i (by omega)
      have hwt : ∀ k ∈ (D i).weights Try.prog 49, k ≤ 140737488351232 := by
        intro k hk
        refine hsz k ?_
        simp only [DataW.weights, Try.underlying24]
        exact List.mem_cons_of_mem _ (List.mem_append_left _ (mem_weightsAll (d := D i) (List.mem_map.2 ⟨i, by simpa using hi, rfl⟩) k hk))
      rcases open_ints Try.underlying49 Try.underlying5 (by kernel_rfl) t1 with ⟨hcs, _⟩ | ⟨y, l, c, zs, hcs, _, hl', hm', hz', hx', hc', hwz⟩
      · have hv : V i = .slice none 0 0 := by simpa using hcs
        rw [hv] at e1
        exact ⟨(none, 0, 0, fun _ => 0), e1, ⟨.inl rfl, fun _ => by simp⟩, fun _ => ⟨rfl, rfl⟩, by simp⟩
      · have hv : V i = .slice (some y) l c := by simpa using hcs
        rw [hv] at e1
        rw [if_pos rfl] at hz'
        obtain ⟨hr, hn⟩ := isRow_rd (w := w) (A := some y) (len := l) (cap := c) (zs := zs) (.inr ⟨y, rfl, hl', hm', hz', hc', hwz⟩)
        have hD : D i = .slice (lits .u8 (zs.take l)) (lits .u8 (zs.drop l)) := by
          have := congrArg Prod.fst hx'
          simpa using this
        have hbb : Try.prog.bytesOf 5 = 1 := by kernel_rfl
        have hw1 := hwt ((l + (c - l)) * 1) (by
          rw [hD]
          simp only [DataW.weights, Try.underlying49, lits, List.length_map, List.length_take, List.length_drop, hz', hbb, Nat.min_eq_left hl']
          exact List.mem_cons_self ..)
        exact ⟨(some y, l, c, fun j => zs.getD j 0), e1, hr, fun e => (by cases e), by show l ≤ _; omega⟩
    obtain ⟨f, hf'⟩ := Deep.choose_lt each
    refine ⟨some x, len, _, fun i => ⟨(f i).1, (f i).2.1, (f i).2.2.1, (f i).2.2.2⟩, hat, ?_, fun e => (by cases e), hl, by omega⟩
    rcases Nat.eq_zero_or_pos len with h0 | h0
    · exact .inl h0
    · obtain ⟨b, off, spot⟩ := x
      have hc0 := (hf' 0 h0).1
      have hs : spot = none := by simpa [Addr.add] using World.cell?_spot hc0
      subst hs
      have hadd : ∀ j, (⟨b, off, none⟩ : Addr).add j = ⟨b, off + j, none⟩ := fun j => by unfold Addr.add; split <;> simp_all
      refine .inr ⟨b, off, rfl, ?_, fun j hj => ?_⟩
      · have := cell_lt hc0
        simpa [hadd] using this
      · obtain ⟨h1, h3⟩ := hf' j hj
        rw [hadd] at h1
        exact ⟨h1, h3⟩
end
def inI (n : Int) : Prop := -9223372036854775808 ≤ n ∧ n ≤ 9223372036854775807
def inB (n : Int) : Prop := 0 ≤ n ∧ n ≤ 255
/-- a side as an argument -/
def InLo (w : World) (l : Lo) (L : Nat → Sl) : Prop := (byB l.s ∧ inB l.nu ∧ inI l.lv) ∧ RdS w l.A l.m L ∧ (l.A = none → l.m = 0 ∧ l.c = 0) ∧ l.m ≤ l.c ∧ l.c * 24 ≤ 140737488351232
def InHe (w : World) (l : He) (L : Nat → Sl) : Prop := (byB l.s ∧ inB l.nu ∧ inI l.lv ∧ inI l.ho ∧ inI l.st ∧ byB l.th ∧ inB l.tn) ∧ RdS w l.A l.m L ∧ (l.A = none → l.m = 0 ∧ l.c = 0) ∧ l.m ≤ l.c ∧ l.c * 24 ≤ 140737488351232
def InAj (a : Aj) : Prop := inI a.st ∧ byB a.p ∧ inB a.nu ∧ inI a.lv ∧ inI a.un
theorem open_lo {H : Type} {enc : TypeId × Value → H} {w : World} {base : Nat} {held : Bool} {r : Reach} {b0 : Nat} {v : Value} {d : DataW H} {ps : List MemPlace}
    (hv : Value.okWide Try.prog w r b0 26 v) (h : DataW.Trod enc Try.prog w base (fun _ => true) held 26 v d ps) (hsz : ∀ n ∈ d.weights Try.prog 26, n ≤ 140737488351232) :
    ∃ p L, v = .agg (loC p) ∧ InLo w p L := by
  simp only [Value.okWide, Try.underlying26] at hv
  obtain ⟨ca, rfl, hca, _⟩ := hv
  obtain ⟨fuel, hf⟩ := h
  have hcc : (Value.agg ca).cells.toList = ca.toList := rfl
  rw [hcc] at hf
  obtain ⟨cs, hcs⟩ : ∃ cs, ca.toList = cs := ⟨_, rfl⟩
  rw [hcs] at hf
  obtain ⟨xs, m1, _, hxd, hl, hn, hel⟩ := DataW.trod_struct Try.underlying26 hf
  have hn : xs.length = 4 := hn
  have hl : cs.length = 9 := by rw [hl]; kernel_rfl
  have hd : d = .agg (xs.map (·.1)) := by have := congrArg Prod.fst hxd; simpa using this
  have hc_i64 : Try.prog.cellsOf 3 = 1 := by kernel_rfl
  have hc_sls : Try.prog.cellsOf 24 = 1 := by kernel_rfl
  have hc_sys : Try.prog.cellsOf 23 = 6 := by kernel_rfl
  have hc_u8 : Try.prog.cellsOf 5 = 1 := by kernel_rfl
  have e0 : DataW.trod enc Try.prog w base (fun _ => true) held m1 23 ((cs.drop 0).take (Try.prog.cellsOf 23)) = xs[0]? := hel 0 _ rfl
  rw [hc_sys] at e0
  obtain ⟨s, hs, bs⟩ := bytes_run Try.underlying23 e0 (by rw [List.getElem?_eq_getElem (by omega)]; rfl)
  have e1 : DataW.trod enc Try.prog w base (fun _ => true) held m1 5 ((cs.drop 6).take (Try.prog.cellsOf 5)) = xs[1]? := hel 1 _ rfl
  rw [hc_u8] at e1
  obtain ⟨nu, hnu, bnu⟩ := cell_u8 e1 (by rw [List.getElem?_eq_getElem (by omega)]; rfl)
  have e2 : DataW.trod enc Try.prog w base (fun _ => true) held m1 3 ((cs.drop 7).take (Try.prog.cellsOf 3)) = xs[2]? := hel 2 _ rfl
  rw [hc_i64] at e2
  obtain ⟨lv, hlv, blv⟩ := cell_i64 e2 (by rw [List.getElem?_eq_getElem (by omega)]; rfl)
  have e3 : DataW.trod enc Try.prog w base (fun _ => true) held m1 24 ((cs.drop 8).take (Try.prog.cellsOf 24)) = xs[3]? := hel 3 _ rfl
  rw [hc_sls] at e3
  have hx3 : xs[3]? = some xs[3] := List.getElem?_eq_getElem (by omega)
  rw [hx3] at e3
  obtain ⟨a, len, cap, L, htl, ar1, ar2, ar3, ar4⟩ := sls_run e3 (by omega) (fun n hn' => hsz n (by
    rw [hd]
    simp only [DataW.weights, Try.underlying26]
    exact DataW.weights_mem_each (j := 3) (t := 24) (d := xs[3].1) rfl (by simp [hx3]) n hn'))
  refine ⟨⟨s, nu, lv, a, len, cap⟩, L, ?_, ⟨bs, bnu, blv⟩, ar1, ar2, ar3, ar4⟩
  congr 1
  apply Array.ext_getElem?
  intro i
  rw [← Array.getElem?_toList, hcs]
  rcases Nat.lt_or_ge i 9 with h | h
  · rcases (by omega : i = 0 ∨ i = 1 ∨ i = 2 ∨ i = 3 ∨ i = 4 ∨ i = 5 ∨ i = 6 ∨ i = 7 ∨ i = 8) with rfl | rfl | rfl | rfl | rfl | rfl | rfl | rfl | rfl
    · exact hs 0 (by omega)
    · exact hs 1 (by omega)
    · exact hs 2 (by omega)
    · exact hs 3 (by omega)
    · exact hs 4 (by omega)
    · exact hs 5 (by omega)
    · exact hnu
    · exact hlv
    · exact htl
  · rw [List.getElem?_eq_none (by omega), Array.getElem?_eq_none (by show 9 ≤ i; exact h)]
theorem open_he {H : Type} {enc : TypeId × Value → H} {w : World} {base : Nat} {held : Bool} {r : Reach} {b0 : Nat} {v : Value} {d : DataW H} {ps : List MemPlace}
    (hv : Value.okWide Try.prog w r b0 30 v) (h : DataW.Trod enc Try.prog w base (fun _ => true) held 30 v d ps) (hsz : ∀ n ∈ d.weights Try.prog 30, n ≤ 140737488351232) :
    ∃ p L, v = .agg (heC p) ∧ InHe w p L := by
  simp only [Value.okWide, Try.underlying30] at hv
  obtain ⟨ca, rfl, hca, _⟩ := hv
  obtain ⟨fuel, hf⟩ := h
  have hcc : (Value.agg ca).cells.toList = ca.toList := rfl
  rw [hcc] at hf
  obtain ⟨cs, hcs⟩ : ∃ cs, ca.toList = cs := ⟨_, rfl⟩
  rw [hcs] at hf
  obtain ⟨xs, m1, _, hxd, hl, hn, hel⟩ := DataW.trod_struct Try.underlying30 hf
  have hn : xs.length = 9 := hn
  have hl : cs.length = 19 := by rw [hl]; kernel_rfl
  have hd : d = .agg (xs.map (·.1)) := by have := congrArg Prod.fst hxd; simpa using this
  have hc_bool : Try.prog.cellsOf 4 = 1 := by kernel_rfl
  have hc_i64 : Try.prog.cellsOf 3 = 1 := by kernel_rfl
  have hc_sls : Try.prog.cellsOf 24 = 1 := by kernel_rfl
  have hc_sys : Try.prog.cellsOf 23 = 6 := by kernel_rfl
  have hc_u8 : Try.prog.cellsOf 5 = 1 := by kernel_rfl
  have e0 : DataW.trod enc Try.prog w base (fun _ => true) held m1 23 ((cs.drop 0).take (Try.prog.cellsOf 23)) = xs[0]? := hel 0 _ rfl
  rw [hc_sys] at e0
  obtain ⟨s, hs, bs⟩ := bytes_run Try.underlying23 e0 (by rw [List.getElem?_eq_getElem (by omega)]; rfl)
  have e1 : DataW.trod enc Try.prog w base (fun _ => true) held m1 5 ((cs.drop 6).take (Try.prog.cellsOf 5)) = xs[1]? := hel 1 _ rfl
  rw [hc_u8] at e1
  obtain ⟨nu, hnu, bnu⟩ := cell_u8 e1 (by rw [List.getElem?_eq_getElem (by omega)]; rfl)
  have e2 : DataW.trod enc Try.prog w base (fun _ => true) held m1 3 ((cs.drop 7).take (Try.prog.cellsOf 3)) = xs[2]? := hel 2 _ rfl
  rw [hc_i64] at e2
  obtain ⟨lv, hlv, blv⟩ := cell_i64 e2 (by rw [List.getElem?_eq_getElem (by omega)]; rfl)
  have e3 : DataW.trod enc Try.prog w base (fun _ => true) held m1 3 ((cs.drop 8).take (Try.prog.cellsOf 3)) = xs[3]? := hel 3 _ rfl
  rw [hc_i64] at e3
  obtain ⟨ho, hho, bho⟩ := cell_i64 e3 (by rw [List.getElem?_eq_getElem (by omega)]; rfl)
  have e4 : DataW.trod enc Try.prog w base (fun _ => true) held m1 24 ((cs.drop 9).take (Try.prog.cellsOf 24)) = xs[4]? := hel 4 _ rfl
  rw [hc_sls] at e4
  have hx4 : xs[4]? = some xs[4] := List.getElem?_eq_getElem (by omega)
  rw [hx4] at e4
  obtain ⟨a, len, cap, L, htl, ar1, ar2, ar3, ar4⟩ := sls_run e4 (by omega) (fun n hn' => hsz n (by
    rw [hd]
    simp only [DataW.weights, Try.underlying30]
    exact DataW.weights_mem_each (j := 4) (t := 24) (d := xs[4].1) rfl (by simp [hx4]) n hn'))
  have e5 : DataW.trod enc Try.prog w base (fun _ => true) held m1 3 ((cs.drop 10).take (Try.prog.cellsOf 3)) = xs[5]? := hel 5 _ rfl
  rw [hc_i64] at e5
  obtain ⟨st, hst, bst⟩ := cell_i64 e5 (by rw [List.getElem?_eq_getElem (by omega)]; rfl)
  have e6 : DataW.trod enc Try.prog w base (fun _ => true) held m1 4 ((cs.drop 11).take (Try.prog.cellsOf 4)) = xs[6]? := hel 6 _ rfl
  rw [hc_bool] at e6
  obtain ⟨nm, hnm⟩ := cell_bool e6 (by rw [List.getElem?_eq_getElem (by omega)]; rfl)
  have e7 : DataW.trod enc Try.prog w base (fun _ => true) held m1 23 ((cs.drop 12).take (Try.prog.cellsOf 23)) = xs[7]? := hel 7 _ rfl
  rw [hc_sys] at e7
  obtain ⟨th, hth, bth⟩ := bytes_run Try.underlying23 e7 (by rw [List.getElem?_eq_getElem (by omega)]; rfl)
  have e8 : DataW.trod enc Try.prog w base (fun _ => true) held m1 5 ((cs.drop 18).take (Try.prog.cellsOf 5)) = xs[8]? := hel 8 _ rfl
  rw [hc_u8] at e8
  obtain ⟨tn, htn, btn⟩ := cell_u8 e8 (by rw [List.getElem?_eq_getElem (by omega)]; rfl)
  refine ⟨⟨s, nu, lv, ho, a, len, cap, st, nm, th, tn⟩, L, ?_, ⟨bs, bnu, blv, bho, bst, bth, btn⟩, ar1, ar2, ar3, ar4⟩
  congr 1
  apply Array.ext_getElem?
  intro i
  rw [← Array.getElem?_toList, hcs]
  rcases Nat.lt_or_ge i 19 with h | h
  · rcases (by omega : i = 0 ∨ i = 1 ∨ i = 2 ∨ i = 3 ∨ i = 4 ∨ i = 5 ∨ i = 6 ∨ i = 7 ∨ i = 8 ∨ i = 9 ∨ i = 10 ∨ i = 11 ∨ i = 12 ∨ i = 13 ∨ i = 14 ∨ i = 15 ∨ i = 16 ∨ i = 17 ∨ i = 18) with rfl | rfl | rfl | rfl | rfl | rfl | rfl | rfl | rfl | rfl | rfl | rfl | rfl | rfl | rfl | rfl | rfl | rfl | rfl
    · exact hs 0 (by omega)
    · exact hs 1 (by omega)
    · exact hs 2 (by omega)
    · exact hs 3 (by omega)
    · exact hs 4 (by omega)
    · exact hs 5 (by omega)
    · exact hnu
    · exact hlv
    · exact hho
    · exact htl
    · exact hst
    · exact hnm
    · exact hth 0 (by omega)
    · exact hth 1 (by omega)
    · exact hth 2 (by omega)
    · exact hth 3 (by omega)
    · exact hth 4 (by omega)
    · exact hth 5 (by omega)
    · exact htn
  · rw [List.getElem?_eq_none (by omega), Array.getElem?_eq_none (by show 19 ≤ i; exact h)]
theorem open_aj {H : Type} {enc : TypeId × Value → H} {w : World} {base : Nat} {held : Bool} {r : Reach} {b0 : Nat} {v : Value} {d : DataW H} {ps : List MemPlace}
    (hv : Value.okWide Try.prog w r b0 28 v) (h : DataW.Trod enc Try.prog w base (fun _ => true) held 28 v d ps) (hsz : ∀ n ∈ d.weights Try.prog 28, n ≤ 140737488351232) :
    ∃ p, v = .agg (ajC p) ∧ InAj p := by
  simp only [Value.okWide, Try.underlying28] at hv
  obtain ⟨ca, rfl, hca, _⟩ := hv
  obtain ⟨fuel, hf⟩ := h
  have hcc : (Value.agg ca).cells.toList = ca.toList := rfl
  rw [hcc] at hf
  obtain ⟨cs, hcs⟩ : ∃ cs, ca.toList = cs := ⟨_, rfl⟩
  rw [hcs] at hf
  obtain ⟨xs, m1, _, hxd, hl, hn, hel⟩ := DataW.trod_struct Try.underlying28 hf
  have hn : xs.length = 5 := hn
  have hl : cs.length = 10 := by rw [hl]; kernel_rfl
  have hd : d = .agg (xs.map (·.1)) := by have := congrArg Prod.fst hxd; simpa using this
  have hc_i64 : Try.prog.cellsOf 3 = 1 := by kernel_rfl
  have hc_sys : Try.prog.cellsOf 23 = 6 := by kernel_rfl
  have hc_t64 : Try.prog.cellsOf 2 = 1 := by kernel_rfl
  have hc_u8 : Try.prog.cellsOf 5 = 1 := by kernel_rfl
  have e0 : DataW.trod enc Try.prog w base (fun _ => true) held m1 3 ((cs.drop 0).take (Try.prog.cellsOf 3)) = xs[0]? := hel 0 _ rfl
  rw [hc_i64] at e0
  obtain ⟨st, hst, bst⟩ := cell_i64 e0 (by rw [List.getElem?_eq_getElem (by omega)]; rfl)
  have e1 : DataW.trod enc Try.prog w base (fun _ => true) held m1 23 ((cs.drop 1).take (Try.prog.cellsOf 23)) = xs[1]? := hel 1 _ rfl
  rw [hc_sys] at e1
  obtain ⟨p, hp, bp⟩ := bytes_run Try.underlying23 e1 (by rw [List.getElem?_eq_getElem (by omega)]; rfl)
  have e2 : DataW.trod enc Try.prog w base (fun _ => true) held m1 5 ((cs.drop 7).take (Try.prog.cellsOf 5)) = xs[2]? := hel 2 _ rfl
  rw [hc_u8] at e2
  obtain ⟨nu, hnu, bnu⟩ := cell_u8 e2 (by rw [List.getElem?_eq_getElem (by omega)]; rfl)
  have e3 : DataW.trod enc Try.prog w base (fun _ => true) held m1 3 ((cs.drop 8).take (Try.prog.cellsOf 3)) = xs[3]? := hel 3 _ rfl
  rw [hc_i64] at e3
  obtain ⟨lv, hlv, blv⟩ := cell_i64 e3 (by rw [List.getElem?_eq_getElem (by omega)]; rfl)
  have e4 : DataW.trod enc Try.prog w base (fun _ => true) held m1 2 ((cs.drop 9).take (Try.prog.cellsOf 2)) = xs[4]? := hel 4 _ rfl
  rw [hc_t64] at e4
  obtain ⟨un, hun, bun⟩ := cell_t64 e4 (by rw [List.getElem?_eq_getElem (by omega)]; rfl)
  refine ⟨⟨st, p, nu, lv, un⟩, ?_, bst, bp, bnu, blv, bun⟩
  congr 1
  apply Array.ext_getElem?
  intro i
  rw [← Array.getElem?_toList, hcs]
  rcases Nat.lt_or_ge i 10 with h | h
  · rcases (by omega : i = 0 ∨ i = 1 ∨ i = 2 ∨ i = 3 ∨ i = 4 ∨ i = 5 ∨ i = 6 ∨ i = 7 ∨ i = 8 ∨ i = 9) with rfl | rfl | rfl | rfl | rfl | rfl | rfl | rfl | rfl | rfl
    · exact hst
    · exact hp 0 (by omega)
    · exact hp 1 (by omega)
    · exact hp 2 (by omega)
    · exact hp 3 (by omega)
    · exact hp 4 (by omega)
    · exact hp 5 (by omega)
    · exact hnu
    · exact hlv
    · exact hun
  · rw [List.getElem?_eq_none (by omega), Array.getElem?_eq_none (by show 10 ≤ i; exact h)]
end Go.Proofs.Ythmnbhmficdifaa
