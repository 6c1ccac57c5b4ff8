/- A packet that came in as an argument can be read. No condition. -/
import Derived.Test.YtigkmcbkckfhbaaDOpn
import Derived.Test.YtigkmcbkckfhbaaTOpen
import Derived.Test.YtigkmcbkckfhbaaDSt
namespace Go.Proofs.Ytigkmcbkckfhbaa
open Go.RowKit Go.ChangeShapes Go.WideShapes
set_option linter.unusedVariables false

section
variable {H : Type} {enc : TypeId × Value → H} {w : World} {base : Nat} {spare : Nat → Bool} {held : Bool} {m : Nat} {cs : List Value}
theorem cell_i64 {k : Nat} {o : Option (DataW H × List MemPlace)} (h : DataW.trod enc Try.prog w base spare held m 3 ((cs.drop k).take 1) = o) (ho : o.isSome = true) : ∃ a : Int, cs[k]? = some (.int .i64 a) ∧ -9223372036854775808 ≤ a ∧ a ≤ 9223372036854775807 := by
  obtain ⟨y, rfl⟩ := Option.isSome_iff_exists.1 ho
  obtain ⟨a, ea, _, wa⟩ := DataW.trod_int Try.underlying3 h
  refine ⟨a, ?_, wf_i64 wa⟩
  have := congrArg (·[0]?) ea
  simpa [List.getElem?_take, List.getElem?_drop] using this
theorem cell_u32 {k : Nat} {o : Option (DataW H × List MemPlace)} (h : DataW.trod enc Try.prog w base spare held m 28 ((cs.drop k).take 1) = o) (ho : o.isSome = true) : ∃ a : Int, cs[k]? = some (.int .u32 a) ∧ 0 ≤ a ∧ a ≤ 4294967295 := by
  obtain ⟨y, rfl⟩ := Option.isSome_iff_exists.1 ho
  obtain ⟨a, ea, _, wa⟩ := DataW.trod_int Try.underlying28 h
  refine ⟨a, ?_, wf_u32 wa⟩
  have := congrArg (·[0]?) ea
  simpa [List.getElem?_take, List.getElem?_drop] using this
theorem cut_at {α : Type} (cs : List α) (e n k i : Nat) (hi : k + i < n) : (((cs.drop e).take n).drop k)[i]? = cs[e + (k + i)]? := by
  rw [List.getElem?_drop, List.getElem?_take, if_pos hi, List.getElem?_drop]
theorem node_run {e : Nat} {o : Option (DataW H × List MemPlace)} (h : DataW.trod enc Try.prog w base spare held m 25 ((cs.drop e).take 7) = o) (ho : o.isSome = true) : ∃ z : Nat → Int, (∀ i, i < 7 → cs[e + i]? = some (.int .u8 (z i))) ∧ ∀ i, 0 ≤ z i ∧ z i ≤ 255 := by
  obtain ⟨y, rfl⟩ := Option.isSome_iff_exists.1 ho
  have hc6 : Try.prog.cellsOf 23 = 6 := by kernel_rfl
  have hc1 : Try.prog.cellsOf 5 = 1 := by kernel_rfl
  obtain ⟨ys, m2, _, _, _, hny, hey⟩ := DataW.trod_struct Try.underlying25 h
  have hny : ys.length = 2 := hny
  have f0 : DataW.trod enc Try.prog w base spare held m2 23 ((((cs.drop e).take 7).drop 0).take (Try.prog.cellsOf 23)) = ys[0]? := hey 0 _ rfl
  have f1 : DataW.trod enc Try.prog w base spare held m2 5 ((((cs.drop e).take 7).drop 6).take (Try.prog.cellsOf 5)) = ys[1]? := hey 1 _ rfl
  rw [hc6] at f0
  rw [hc1] at f1
  obtain ⟨z, hz, hzb⟩ := bytes_run Try.underlying23 f0 (by rw [List.getElem?_eq_getElem (by omega)]; rfl)
  obtain ⟨p, hp, hpb⟩ := cell_u8 f1 (by rw [List.getElem?_eq_getElem (by omega)]; rfl)
  refine ⟨fun i => if i = 6 then p else z i, fun i hi => ?_, fun i => ?_⟩
  · by_cases e6 : i = 6
    · subst e6
      rw [List.getElem?_take, if_pos (by omega), List.getElem?_drop] at hp
      simpa using hp
    · have := hz i (by omega)
      rw [Nat.zero_add, List.getElem?_take, if_pos (by omega), List.getElem?_drop] at this
      simpa [e6] using this
  · show 0 ≤ (if i = 6 then p else z i) ∧ (if i = 6 then p else z i) ≤ 255
    split
    · exact hpb
    · exact hzb i
theorem id_run {e : Nat} {o : Option (DataW H × List MemPlace)} (h : DataW.trod enc Try.prog w base spare held m 27 ((cs.drop e).take 8) = o) (ho : o.isSome = true) : ∃ z : Nat → Int, (∀ i, i < 8 → cs[e + i]? = some (.int .u8 (z i))) ∧ ∀ i, 0 ≤ z i ∧ z i ≤ 255 := by
  obtain ⟨y, rfl⟩ := Option.isSome_iff_exists.1 ho
  have hc7 : Try.prog.cellsOf 25 = 7 := by kernel_rfl
  have hc1 : Try.prog.cellsOf 5 = 1 := by kernel_rfl
  obtain ⟨ys, m2, _, _, _, hny, hey⟩ := DataW.trod_struct Try.underlying27 h
  have hny : ys.length = 2 := hny
  have f0 : DataW.trod enc Try.prog w base spare held m2 25 ((((cs.drop e).take 8).drop 0).take (Try.prog.cellsOf 25)) = ys[0]? := hey 0 _ rfl
  have f1 : DataW.trod enc Try.prog w base spare held m2 5 ((((cs.drop e).take 8).drop 7).take (Try.prog.cellsOf 5)) = ys[1]? := hey 1 _ rfl
  rw [hc7] at f0
  rw [hc1] at f1
  obtain ⟨z, hz, hzb⟩ := node_run f0 (by rw [List.getElem?_eq_getElem (by omega)]; rfl)
  obtain ⟨p, hp, hpb⟩ := cell_u8 f1 (by rw [List.getElem?_eq_getElem (by omega)]; rfl)
  refine ⟨fun i => if i = 7 then p else z i, fun i hi => ?_, fun i => ?_⟩
  · by_cases e6 : i = 7
    · subst e6
      rw [List.getElem?_take, if_pos (by omega), List.getElem?_drop] at hp
      simpa using hp
    · have := hz i (by omega)
      rw [Nat.zero_add, List.getElem?_take, if_pos (by omega), List.getElem?_drop] at this
      simpa [e6] using this
  · show 0 ≤ (if i = 7 then p else z i) ∧ (if i = 7 then p else z i) ≤ 255
    split
    · exact hpb
    · exact hzb i
end
/-- a packet as an argument -/
def InP (w : World) (p : Pd) (L : Nat → It) : Prop := PdOk p ∧ RdT w p.A p.m L ∧ (p.A = none → p.m = 0 ∧ p.c = 0) ∧ p.m ≤ p.c ∧ p.c * 32 ≤ 140737488351232
set_option maxRecDepth 100000 in
set_option maxHeartbeats 2000000 in
theorem open_pdu {H : Type} {enc : TypeId × Value → H} {w : World} {base : Nat} {held : Bool} {r : Reach} {b0 : Nat} {v : Value} {d : DataW H} {ps : List MemPlace}
    (hv : Value.okWide Try.prog w r b0 31 v) (h : DataW.Trod enc Try.prog w base (fun _ => true) held 31 v d ps) (hsz : ∀ n ∈ d.weights Try.prog 31, n ≤ 140737488351232) :
    ∃ p L, v = .agg (pdC p) ∧ InP w p L := by
  simp only [Value.okWide, Try.underlying31] at hv
  obtain ⟨ca, rfl, hca, _⟩ := hv
  obtain ⟨fuel, hf⟩ := h
  have hcc : (Value.agg ca).cells.toList = ca.toList := rfl
  rw [hcc] at hf
  obtain ⟨cs, hcs⟩ : ∃ cs, ca.toList = cs := ⟨_, rfl⟩
  rw [hcs] at hf
  obtain ⟨xs, m1, _, hxd, hl, hn, hel⟩ := DataW.trod_struct Try.underlying31 hf
  have hn : xs.length = 14 := hn
  have hl : cs.length = 47 := by rw [hl]; kernel_rfl
  have hd : d = .agg (xs.map (·.1)) := by have := congrArg Prod.fst hxd; simpa using this
  have hc_b : Try.prog.cellsOf 5 = 1 := by kernel_rfl
  have hc_n : Try.prog.cellsOf 25 = 7 := by kernel_rfl
  have hc_i : Try.prog.cellsOf 3 = 1 := by kernel_rfl
  have hc_d : Try.prog.cellsOf 27 = 8 := by kernel_rfl
  have hc_u : Try.prog.cellsOf 28 = 1 := by kernel_rfl
  have hc_t : Try.prog.cellsOf 29 = 1 := by kernel_rfl
  have e0 : DataW.trod enc Try.prog w base (fun _ => true) held m1 5 ((cs.drop 0).take (Try.prog.cellsOf 5)) = xs[0]? := hel 0 _ rfl
  rw [hc_b] at e0
  obtain ⟨kd, hkd, bkd⟩ := cell_u8 e0 (by rw [List.getElem?_eq_getElem (by omega)]; rfl)
  have e1 : DataW.trod enc Try.prog w base (fun _ => true) held m1 5 ((cs.drop 1).take (Try.prog.cellsOf 5)) = xs[1]? := hel 1 _ rfl
  rw [hc_b] at e1
  obtain ⟨ci, hci, bci⟩ := cell_u8 e1 (by rw [List.getElem?_eq_getElem (by omega)]; rfl)
  have e2 : DataW.trod enc Try.prog w base (fun _ => true) held m1 25 ((cs.drop 2).take (Try.prog.cellsOf 25)) = xs[2]? := hel 2 _ rfl
  rw [hc_n] at e2
  obtain ⟨so, hso, bso⟩ := node_run e2 (by rw [List.getElem?_eq_getElem (by omega)]; rfl)
  have e3 : DataW.trod enc Try.prog w base (fun _ => true) held m1 3 ((cs.drop 9).take (Try.prog.cellsOf 3)) = xs[3]? := hel 3 _ rfl
  rw [hc_i] at e3
  obtain ⟨ho, hho, bho⟩ := cell_i64 e3 (by rw [List.getElem?_eq_getElem (by omega)]; rfl)
  have e4 : DataW.trod enc Try.prog w base (fun _ => true) held m1 5 ((cs.drop 10).take (Try.prog.cellsOf 5)) = xs[4]? := hel 4 _ rfl
  rw [hc_b] at e4
  obtain ⟨nu, hnu, bnu⟩ := cell_u8 e4 (by rw [List.getElem?_eq_getElem (by omega)]; rfl)
  have e5 : DataW.trod enc Try.prog w base (fun _ => true) held m1 5 ((cs.drop 11).take (Try.prog.cellsOf 5)) = xs[5]? := hel 5 _ rfl
  rw [hc_b] at e5
  obtain ⟨pr, hpr, bpr⟩ := cell_u8 e5 (by rw [List.getElem?_eq_getElem (by omega)]; rfl)
  have e6 : DataW.trod enc Try.prog w base (fun _ => true) held m1 25 ((cs.drop 12).take (Try.prog.cellsOf 25)) = xs[6]? := hel 6 _ rfl
  rw [hc_n] at e6
  obtain ⟨la, hla, bla⟩ := node_run e6 (by rw [List.getElem?_eq_getElem (by omega)]; rfl)
  have e7 : DataW.trod enc Try.prog w base (fun _ => true) held m1 3 ((cs.drop 19).take (Try.prog.cellsOf 3)) = xs[7]? := hel 7 _ rfl
  rw [hc_i] at e7
  obtain ⟨li, hli, bli⟩ := cell_i64 e7 (by rw [List.getElem?_eq_getElem (by omega)]; rfl)
  have e8 : DataW.trod enc Try.prog w base (fun _ => true) held m1 27 ((cs.drop 20).take (Try.prog.cellsOf 27)) = xs[8]? := hel 8 _ rfl
  rw [hc_d] at e8
  obtain ⟨id, hid, bid⟩ := id_run e8 (by rw [List.getElem?_eq_getElem (by omega)]; rfl)
  have e9 : DataW.trod enc Try.prog w base (fun _ => true) held m1 28 ((cs.drop 28).take (Try.prog.cellsOf 28)) = xs[9]? := hel 9 _ rfl
  rw [hc_u] at e9
  obtain ⟨sq, hsq, bsq⟩ := cell_u32 e9 (by rw [List.getElem?_eq_getElem (by omega)]; rfl)
  have e10 : DataW.trod enc Try.prog w base (fun _ => true) held m1 5 ((cs.drop 29).take (Try.prog.cellsOf 5)) = xs[10]? := hel 10 _ rfl
  rw [hc_b] at e10
  obtain ⟨bi, hbi, bbi⟩ := cell_u8 e10 (by rw [List.getElem?_eq_getElem (by omega)]; rfl)
  have e11 : DataW.trod enc Try.prog w base (fun _ => true) held m1 27 ((cs.drop 30).take (Try.prog.cellsOf 27)) = xs[11]? := hel 11 _ rfl
  rw [hc_d] at e11
  obtain ⟨st, hst, bst⟩ := id_run e11 (by rw [List.getElem?_eq_getElem (by omega)]; rfl)
  have e12 : DataW.trod enc Try.prog w base (fun _ => true) held m1 27 ((cs.drop 38).take (Try.prog.cellsOf 27)) = xs[12]? := hel 12 _ rfl
  rw [hc_d] at e12
  obtain ⟨en, hen, ben⟩ := id_run e12 (by rw [List.getElem?_eq_getElem (by omega)]; rfl)
  have e13 : DataW.trod enc Try.prog w base (fun _ => true) held m1 29 ((cs.drop 46).take (Try.prog.cellsOf 29)) = xs[13]? := hel 13 _ rfl
  rw [hc_t] at e13
  have hx13 : xs[13]? = some xs[13] := List.getElem?_eq_getElem (by omega)
  rw [hx13] at e13
  have hsl : ∃ a len cap, cs[46]? = some (.slice a len cap) := by
    have hone : (cs.drop 46).take 1 = [cs[46]] := by
      rw [List.drop_eq_getElem_cons (by omega), List.take_succ_cons, List.take_zero]
    rcases Deep.open_slice_pairs Try.underlying29 Try.underlying53 (by kernel_rfl) rfl rfl (by kernel_rfl) (by kernel_rfl) e13 with ⟨hcs', _⟩ | ⟨x, l, c, _, _, _, _, _, _, _, _, hcs', _⟩
    · rw [hone] at hcs'
      injection hcs' with hcs' _
      exact ⟨_, _, _, by rw [List.getElem?_eq_getElem (by omega), hcs']⟩
    · rw [hone] at hcs'
      injection hcs' with hcs' _
      exact ⟨_, _, _, by rw [List.getElem?_eq_getElem (by omega), hcs']⟩
  obtain ⟨a, len, cap, htl⟩ := hsl
  have h13 : DataW.Trod enc Try.prog w base (fun _ => true) held 29 (.slice a len cap) xs[13].1 xs[13].2 := by
    refine ⟨m1, ?_⟩
    have hone : (cs.drop 46).take 1 = [.slice a len cap] := by
      rw [List.drop_eq_getElem_cons (by omega), List.take_succ_cons, List.take_zero]
      rw [List.getElem?_eq_getElem (by omega)] at htl
      injection htl with htl
      rw [htl]
    rw [hone] at e13
    exact e13
  obtain ⟨L, hL1, hL2, hL3, hL4⟩ := open_tlvs h13 (fun n hn' => hsz n (by
    rw [hd]
    simp only [DataW.weights, Try.underlying31]
    exact DataW.weights_mem_each (j := 13) (t := 29) (d := xs[13].1) rfl (by simp [hx13]) n hn'))
  refine ⟨⟨kd, ci, so, ho, nu, pr, la, li, id, sq.toNat, bi, st, en, a, len, cap⟩, L, ?_, ⟨⟨bkd, bci, bso, bho, bnu, bpr, bla⟩, bli, bid, (by show sq.toNat ≤ _; omega), bbi, bst, ben⟩, hL1, hL2, hL3, hL4⟩
  congr 1
  apply Array.ext_getElem?
  intro i
  rw [← Array.getElem?_toList, hcs]
  rcases Nat.lt_or_ge i 47 with h | h
  · rcases (by omega : i = 0 ∨ i = 1 ∨ i = 2 ∨ i = 3 ∨ i = 4 ∨ i = 5 ∨ i = 6 ∨ i = 7 ∨ i = 8 ∨ i = 9 ∨ i = 10 ∨ i = 11 ∨ i = 12 ∨ i = 13 ∨ i = 14 ∨ i = 15 ∨ i = 16 ∨ i = 17 ∨ i = 18 ∨ i = 19 ∨ i = 20 ∨ i = 21 ∨ i = 22 ∨ i = 23 ∨ i = 24 ∨ i = 25 ∨ i = 26 ∨ i = 27 ∨ i = 28 ∨ i = 29 ∨ i = 30 ∨ i = 31 ∨ i = 32 ∨ i = 33 ∨ i = 34 ∨ i = 35 ∨ i = 36 ∨ i = 37 ∨ i = 38 ∨ i = 39 ∨ i = 40 ∨ i = 41 ∨ i = 42 ∨ i = 43 ∨ i = 44 ∨ i = 45 ∨ i = 46) with rfl | rfl | rfl | rfl | rfl | rfl | rfl | rfl | rfl | rfl | rfl | rfl | rfl | rfl | rfl | rfl | rfl | rfl | rfl | rfl | rfl | rfl | rfl | rfl | rfl | rfl | rfl | rfl | rfl | rfl | rfl | rfl | rfl | rfl | rfl | rfl | rfl | rfl | rfl | rfl | rfl | rfl | rfl | rfl | rfl | rfl | rfl
    · exact hkd
    · exact hci
    · exact hso 0 (by omega)
    · exact hso 1 (by omega)
    · exact hso 2 (by omega)
    · exact hso 3 (by omega)
    · exact hso 4 (by omega)
    · exact hso 5 (by omega)
    · exact hso 6 (by omega)
    · exact hho
    · exact hnu
    · exact hpr
    · exact hla 0 (by omega)
    · exact hla 1 (by omega)
    · exact hla 2 (by omega)
    · exact hla 3 (by omega)
    · exact hla 4 (by omega)
    · exact hla 5 (by omega)
    · exact hla 6 (by omega)
    · exact hli
    · exact hid 0 (by omega)
    · exact hid 1 (by omega)
    · exact hid 2 (by omega)
    · exact hid 3 (by omega)
    · exact hid 4 (by omega)
    · exact hid 5 (by omega)
    · exact hid 6 (by omega)
    · exact hid 7 (by omega)
    · rw [hsq]
      show _ = some (Value.int .u32 ((sq.toNat : Nat) : Int))
      rw [Int.toNat_of_nonneg bsq.1]
    · exact hbi
    · exact hst 0 (by omega)
    · exact hst 1 (by omega)
    · exact hst 2 (by omega)
    · exact hst 3 (by omega)
    · exact hst 4 (by omega)
    · exact hst 5 (by omega)
    · exact hst 6 (by omega)
    · exact hst 7 (by omega)
    · exact hen 0 (by omega)
    · exact hen 1 (by omega)
    · exact hen 2 (by omega)
    · exact hen 3 (by omega)
    · exact hen 4 (by omega)
    · exact hen 5 (by omega)
    · exact hen 6 (by omega)
    · exact hen 7 (by omega)
    · exact htl
  · rw [List.getElem?_eq_none (by omega), Array.getElem?_eq_none (by rw [pdC_size]; exact h)]
end Go.Proofs.Ytigkmcbkckfhbaa
