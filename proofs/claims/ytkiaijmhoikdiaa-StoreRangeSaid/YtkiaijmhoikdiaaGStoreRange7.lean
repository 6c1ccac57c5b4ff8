/- Texts of this claim put together; each theorem states its conditions. -/
import Derived.Test.YtkiaijmhoikdiaaGStoreRange6
import Derived.Deep.Slices
import Derived.Test.YtkiaijmhoikdiaaGStoreRange3
import Derived.Deep.DeepCutAuto
import Derived.Deep.CutBlock
import Derived.Test.YtkiaijmhoikdiaaGStoreRange4
import Derived.Test.YtkiaijmhoikdiaaGStoreRange1
/- A list of packets that came in as an argument can be read. No condition. -/
namespace Go.Proofs.Ytkiaijmhoikdiaa
open Go.RowKit Go.ChangeShapes Go.WideShapes
set_option linter.unusedVariables false

theorem open_recsW {α : Type} {t e : TypeId} {s bs : Nat} {C : α → Array Value} {Ok : α → Prop} (ht : Try.prog.underlying t = some (.slice e)) (hs : Try.prog.cellsOf e = s) (hbs : Try.prog.bytesOf e = bs) (hs1 : 0 < s) (hC : ∀ r, (C r).size = s)
    {H : Type} {enc : TypeId × Value → H} {w : World} {base : Nat} {held : Bool} {fuel : Nat} {cs0 : List Value} {y : DataW H × List MemPlace}
    (hel : ∀ (n : Nat) (cs : List Value) (x : DataW H × List MemPlace), DataW.trod enc Try.prog w base (fun _ => true) held n e cs = some x → (∀ k ∈ x.1.weights Try.prog e, k ≤ 140737488351232) → ∃ r, cs = (C r).toList ∧ Ok r) (h0 : ∃ r, Ok r)
    (hf : DataW.trod enc Try.prog w base (fun _ => true) held fuel t cs0 = some y) (hsz : ∀ n ∈ y.1.weights Try.prog t, n ≤ 140737488351232) :
    ∃ (a : Option Addr) (len cap : Nat) (L : Nat → α), cs0 = [.slice a len cap] ∧ RdR w a len s (fun j => C (L j)) ∧ (∀ j, Ok (L j)) ∧ (a = none → len = 0 ∧ cap = 0) ∧ len ≤ cap ∧ cap * bs ≤ 140737488351232 := by
  obtain ⟨r0, hr0⟩ := h0
  rcases Deep.open_slice ht hf with ⟨hcs, _⟩ | ⟨x, len, cap, mm, n, D, Pl, hcs, _, hl, hm, hmm, rfl, hcell⟩
  · exact ⟨none, 0, 0, fun _ => r0, hcs, .inl rfl, fun _ => hr0, fun _ => ⟨rfl, rfl⟩, Nat.le_refl _, by omega⟩
  · rw [if_pos rfl] at hmm
    subst hmm
    have hw0 := hsz ((len + (mm - len)) * bs) (by
      simp only [DataW.weights, ht, List.length_map, List.length_range, hbs]
      exact List.mem_cons_self ..)
    have each : ∀ i, i < len → ∃ r : α, Ok r ∧ ∀ j u, (C r).toList[j]? = some u → w.cell? ((x.add (i * s)).add j) = some u := by
      intro i hi
      obtain ⟨cs', hc, ht'⟩ := hcell i (by omega)
      rw [hs] at hc
      obtain ⟨_, hcl, hat⟩ := World.cells?_some hc
      have hwi : ∀ k ∈ (D i).weights Try.prog e, k ≤ 140737488351232 := by
        intro k hk
        refine hsz k ?_
        simp only [DataW.weights, ht]
        exact List.mem_cons_of_mem _ (List.mem_append_left _ (mem_weightsAll (d := D i) (List.mem_map.2 ⟨i, by simpa using hi, rfl⟩) k hk))
      obtain ⟨r, rfl, hr⟩ := hel n cs' _ ht' hwi
      refine ⟨r, hr, fun j u hu => ?_⟩
      have hj : j < s := by
        rcases Nat.lt_or_ge j s with h | h
        · exact h
        · rw [List.getElem?_eq_none (by rw [Array.length_toList, hC]; exact h)] at hu; cases hu
      rw [hat j hj, hu]
    haveI : Inhabited α := ⟨r0⟩
    obtain ⟨f, hf'⟩ := Deep.choose_lt each
    refine ⟨some x, len, mm, fun i => if i < len then f i else r0, hcs, ?_, fun j => ?_, fun e => (by cases e), hl, ?_⟩
    · rcases Nat.eq_zero_or_pos len with h0 | h0
      · exact .inl h0
      · obtain ⟨b, off, spot⟩ := x
        have hc0 := (hf' 0 h0).2 0 ((C (f 0))[0]'(by rw [hC]; exact hs1)) (by rw [Array.getElem?_toList]; exact Array.getElem?_eq_getElem _)
        have hs : spot = none := by simpa [Addr.add] using World.cell?_spot hc0
        subst hs
        refine .inr ⟨b, off, rfl, by have := cell_lt hc0; simpa [add_none] using this, fun j hj k u hu => ?_⟩
        dsimp only at hu
        rw [if_pos hj] at hu
        have := (hf' j hj).2 k u hu
        rw [add_none, add_none] at this
        exact this
    · dsimp only
      split
      · rename_i h; exact (hf' j h).1
      · exact hr0
    · have : len + (mm - len) = mm := by omega
      rwa [this] at hw0

theorem tolS (A : Array Value) (i : Nat) : A.toList[i]? = A[i]? := by simp
set_option maxRecDepth 100000 in
set_option maxHeartbeats 2000000 in
theorem pdu_cells {H : Type} {enc : TypeId × Value → H} {w : World} {base : Nat} {held : Bool} {fuel : Nat} {cs : List Value} {d : DataW H} {ps : List MemPlace}
    (hf : DataW.trod enc Try.prog w base (fun _ => true) held fuel 42 cs = some (d, ps)) (hsz : ∀ n ∈ d.weights Try.prog 42, n ≤ 140737488351232) :
    ∃ y : Pd × (Nat → It), cs = (pdC y.1).toList ∧ InP w y.1 y.2 := by
  obtain ⟨xs, m1, _, hxd, hl, hn, hel⟩ := DataW.trod_struct Try.underlying42 hf
  have hn : xs.length = 14 := hn
  have hl : cs.length = 47 := by rw [hl]; kernel_rfl
  have hd : d = .agg (xs.map (·.1)) := by have := congrArg Prod.fst hxd; simpa using this
  have hc_b : Try.prog.cellsOf 5 = 1 := by kernel_rfl
  have hc_n : Try.prog.cellsOf 26 = 7 := by kernel_rfl
  have hc_i : Try.prog.cellsOf 3 = 1 := by kernel_rfl
  have hc_d : Try.prog.cellsOf 28 = 8 := by kernel_rfl
  have hc_u : Try.prog.cellsOf 29 = 1 := by kernel_rfl
  have hc_t : Try.prog.cellsOf 40 = 1 := by kernel_rfl
  have e0 : DataW.trod enc Try.prog w base (fun _ => true) held m1 5 ((cs.drop 0).take (Try.prog.cellsOf 5)) = xs[0]? := hel 0 _ rfl
  rw [hc_b] at e0
  obtain ⟨kd, hkd, bkd⟩ := cell_u8 e0 (by rw [List.getElem?_eq_getElem (by omega)]; rfl)
  have e1 : DataW.trod enc Try.prog w base (fun _ => true) held m1 5 ((cs.drop 1).take (Try.prog.cellsOf 5)) = xs[1]? := hel 1 _ rfl
  rw [hc_b] at e1
  obtain ⟨ci, hci, bci⟩ := cell_u8 e1 (by rw [List.getElem?_eq_getElem (by omega)]; rfl)
  have e2 : DataW.trod enc Try.prog w base (fun _ => true) held m1 26 ((cs.drop 2).take (Try.prog.cellsOf 26)) = xs[2]? := hel 2 _ rfl
  rw [hc_n] at e2
  obtain ⟨so, hso, bso⟩ := node_run e2 (by rw [List.getElem?_eq_getElem (by omega)]; rfl)
  have e3 : DataW.trod enc Try.prog w base (fun _ => true) held m1 3 ((cs.drop 9).take (Try.prog.cellsOf 3)) = xs[3]? := hel 3 _ rfl
  rw [hc_i] at e3
  obtain ⟨ho, hho, bho⟩ := cell_i64 e3 (by rw [List.getElem?_eq_getElem (by omega)]; rfl)
  have e4 : DataW.trod enc Try.prog w base (fun _ => true) held m1 5 ((cs.drop 10).take (Try.prog.cellsOf 5)) = xs[4]? := hel 4 _ rfl
  rw [hc_b] at e4
  obtain ⟨nu, hnu, bnu⟩ := cell_u8 e4 (by rw [List.getElem?_eq_getElem (by omega)]; rfl)
  have e5 : DataW.trod enc Try.prog w base (fun _ => true) held m1 5 ((cs.drop 11).take (Try.prog.cellsOf 5)) = xs[5]? := hel 5 _ rfl
  rw [hc_b] at e5
  obtain ⟨pr, hpr, bpr⟩ := cell_u8 e5 (by rw [List.getElem?_eq_getElem (by omega)]; rfl)
  have e6 : DataW.trod enc Try.prog w base (fun _ => true) held m1 26 ((cs.drop 12).take (Try.prog.cellsOf 26)) = xs[6]? := hel 6 _ rfl
  rw [hc_n] at e6
  obtain ⟨la, hla, bla⟩ := node_run e6 (by rw [List.getElem?_eq_getElem (by omega)]; rfl)
  have e7 : DataW.trod enc Try.prog w base (fun _ => true) held m1 3 ((cs.drop 19).take (Try.prog.cellsOf 3)) = xs[7]? := hel 7 _ rfl
  rw [hc_i] at e7
  obtain ⟨li, hli, bli⟩ := cell_i64 e7 (by rw [List.getElem?_eq_getElem (by omega)]; rfl)
  have e8 : DataW.trod enc Try.prog w base (fun _ => true) held m1 28 ((cs.drop 20).take (Try.prog.cellsOf 28)) = xs[8]? := hel 8 _ rfl
  rw [hc_d] at e8
  obtain ⟨id, hid, bid⟩ := id_run e8 (by rw [List.getElem?_eq_getElem (by omega)]; rfl)
  have e9 : DataW.trod enc Try.prog w base (fun _ => true) held m1 29 ((cs.drop 28).take (Try.prog.cellsOf 29)) = xs[9]? := hel 9 _ rfl
  rw [hc_u] at e9
  obtain ⟨sq, hsq, bsq⟩ := cell_u32 e9 (by rw [List.getElem?_eq_getElem (by omega)]; rfl)
  have e10 : DataW.trod enc Try.prog w base (fun _ => true) held m1 5 ((cs.drop 29).take (Try.prog.cellsOf 5)) = xs[10]? := hel 10 _ rfl
  rw [hc_b] at e10
  obtain ⟨bi, hbi, bbi⟩ := cell_u8 e10 (by rw [List.getElem?_eq_getElem (by omega)]; rfl)
  have e11 : DataW.trod enc Try.prog w base (fun _ => true) held m1 28 ((cs.drop 30).take (Try.prog.cellsOf 28)) = xs[11]? := hel 11 _ rfl
  rw [hc_d] at e11
  obtain ⟨st, hst, bst⟩ := id_run e11 (by rw [List.getElem?_eq_getElem (by omega)]; rfl)
  have e12 : DataW.trod enc Try.prog w base (fun _ => true) held m1 28 ((cs.drop 38).take (Try.prog.cellsOf 28)) = xs[12]? := hel 12 _ rfl
  rw [hc_d] at e12
  obtain ⟨en, hen, ben⟩ := id_run e12 (by rw [List.getElem?_eq_getElem (by omega)]; rfl)
  have e13 : DataW.trod enc Try.prog w base (fun _ => true) held m1 40 ((cs.drop 46).take (Try.prog.cellsOf 40)) = xs[13]? := hel 13 _ rfl
  rw [hc_t] at e13
  have hx13 : xs[13]? = some xs[13] := List.getElem?_eq_getElem (by omega)
  rw [hx13] at e13
  have hsl : ∃ a len cap, cs[46]? = some (.slice a len cap) := by
    have hone : (cs.drop 46).take 1 = [cs[46]] := by
      rw [List.drop_eq_getElem_cons (by omega), List.take_succ_cons, List.take_zero]
    rcases Deep.open_slice_pairs Try.underlying40 Try.underlying105 (by kernel_rfl) rfl rfl (by kernel_rfl) (by kernel_rfl) e13 with ⟨hcs', _⟩ | ⟨x, l, c, _, _, _, _, _, _, _, _, hcs', _⟩
    · rw [hone] at hcs'
      injection hcs' with hcs' _
      exact ⟨_, _, _, by rw [List.getElem?_eq_getElem (by omega), hcs']⟩
    · rw [hone] at hcs'
      injection hcs' with hcs' _
      exact ⟨_, _, _, by rw [List.getElem?_eq_getElem (by omega), hcs']⟩
  obtain ⟨a, len, cap, htl⟩ := hsl
  have h13 : DataW.Trod enc Try.prog w base (fun _ => true) held 40 (.slice a len cap) xs[13].1 xs[13].2 := by
    refine ⟨m1, ?_⟩
    have hone : (cs.drop 46).take 1 = [.slice a len cap] := by
      rw [List.drop_eq_getElem_cons (by omega), List.take_succ_cons, List.take_zero]
      rw [List.getElem?_eq_getElem (by omega)] at htl
      injection htl with htl
      rw [htl]
    rw [hone] at e13
    exact e13
  obtain ⟨L, hL1, hL2, hL3, hL4⟩ := open_tlvs h13 (fun n hn' => hsz n (by
    rw [hd]
    simp only [DataW.weights, Try.underlying42]
    exact DataW.weights_mem_each (j := 13) (t := 40) (d := xs[13].1) rfl (by simp [hx13]) n hn'))
  refine ⟨(⟨kd, ci, so, ho, nu, pr, la, li, id, sq.toNat, bi, st, en, a, len, cap⟩, L), ?_, ⟨⟨bkd, bci, bso, bho, bnu, bpr, bla⟩, bli, bid, (by show sq.toNat ≤ _; omega), bbi, bst, ben⟩, hL1, hL2, hL3, hL4⟩
  apply List.ext_getElem?
  intro i
  refine Eq.trans ?_ (tolS _ _).symm
  rcases Nat.lt_or_ge i 47 with h | h
  · rcases (by omega : i = 0 ∨ i = 1 ∨ i = 2 ∨ i = 3 ∨ i = 4 ∨ i = 5 ∨ i = 6 ∨ i = 7 ∨ i = 8 ∨ i = 9 ∨ i = 10 ∨ i = 11 ∨ i = 12 ∨ i = 13 ∨ i = 14 ∨ i = 15 ∨ i = 16 ∨ i = 17 ∨ i = 18 ∨ i = 19 ∨ i = 20 ∨ i = 21 ∨ i = 22 ∨ i = 23 ∨ i = 24 ∨ i = 25 ∨ i = 26 ∨ i = 27 ∨ i = 28 ∨ i = 29 ∨ i = 30 ∨ i = 31 ∨ i = 32 ∨ i = 33 ∨ i = 34 ∨ i = 35 ∨ i = 36 ∨ i = 37 ∨ i = 38 ∨ i = 39 ∨ i = 40 ∨ i = 41 ∨ i = 42 ∨ i = 43 ∨ i = 44 ∨ i = 45 ∨ i = 46) with rfl | rfl | rfl | rfl | rfl | rfl | rfl | rfl | rfl | rfl | rfl | rfl | rfl | rfl | rfl | rfl | rfl | rfl | rfl | rfl | rfl | rfl | rfl | rfl | rfl | rfl | rfl | rfl | rfl | rfl | rfl | rfl | rfl | rfl | rfl | rfl | rfl | rfl | rfl | rfl | rfl | rfl | rfl | rfl | rfl | rfl | rfl
    · exact hkd
    · exact hci
    · exact hso 0 (by omega)
    · exact hso 1 (by omega)
    · exact hso 2 (by omega)
    · exact hso 3 (by omega)
    · exact hso 4 (by omega)
    · exact hso 5 (by omega)
    · exact hso 6 (by omega)
    · exact hho
    · exact hnu
    · exact hpr
    · exact hla 0 (by omega)
    · exact hla 1 (by omega)
    · exact hla 2 (by omega)
    · exact hla 3 (by omega)
    · exact hla 4 (by omega)
    · exact hla 5 (by omega)
    · exact hla 6 (by omega)
    · exact hli
    · exact hid 0 (by omega)
    · exact hid 1 (by omega)
    · exact hid 2 (by omega)
    · exact hid 3 (by omega)
    · exact hid 4 (by omega)
    · exact hid 5 (by omega)
    · exact hid 6 (by omega)
    · exact hid 7 (by omega)
    · rw [hsq]
      show _ = some (Value.int .u32 ((sq.toNat : Nat) : Int))
      rw [Int.toNat_of_nonneg bsq.1]
    · exact hbi
    · exact hst 0 (by omega)
    · exact hst 1 (by omega)
    · exact hst 2 (by omega)
    · exact hst 3 (by omega)
    · exact hst 4 (by omega)
    · exact hst 5 (by omega)
    · exact hst 6 (by omega)
    · exact hst 7 (by omega)
    · exact hen 0 (by omega)
    · exact hen 1 (by omega)
    · exact hen 2 (by omega)
    · exact hen 3 (by omega)
    · exact hen 4 (by omega)
    · exact hen 5 (by omega)
    · exact hen 6 (by omega)
    · exact hen 7 (by omega)
    · exact htl
  · rw [List.getElem?_eq_none (by omega), Array.getElem?_eq_none (by rw [pdC_size]; exact h)]

theorem pd0_okS : PdOk pd0 := by
  have zb : ∀ j, 0 ≤ z0 j ∧ z0 j ≤ 255 := fun j => (⟨Int.le_refl 0, by decide⟩ : (0 : Int) ≤ 0 ∧ (0 : Int) ≤ 255)
  have b0 : by1 0 := ⟨Int.le_refl 0, by decide⟩
  have i0 : in64 0 := ⟨by decide, by decide⟩
  exact ⟨⟨b0, b0, zb, i0, b0, b0, zb⟩, i0, zb, Nat.zero_le _, b0, zb, zb⟩
def pdA (P : Nat → Pd × (Nat → It)) : Nat → Array Value := fun j => pdC (P j).1
/-- a list of packets as an argument -/
def InPs (w : World) (a : Option Addr) (len cap : Nat) (P : Nat → Pd × (Nat → It)) : Prop := RdR w a len 47 (pdA P) ∧ (∀ j, InP w (P j).1 (P j).2) ∧ (a = none → len = 0 ∧ cap = 0) ∧ len ≤ cap ∧ cap ≤ 140737488351232
set_option maxRecDepth 100000 in
theorem open_pdus {H : Type} {enc : TypeId × Value → H} {w : World} {base : Nat} {held : Bool} {a : Option Addr} {len cap : Nat} {d : DataW H} {ps : List MemPlace} (h : DataW.Trod enc Try.prog w base (fun _ => true) held 22 (.slice a len cap) d ps) (hsz : ∀ n ∈ d.weights Try.prog 22, n ≤ 140737488351232) : ∃ P, InPs w a len cap P := by
  obtain ⟨fuel, hf⟩ := h
  obtain ⟨a', len', cap', L, he, r1, r2, r3, r4, r5⟩ := open_recsW (C := fun y : Pd × (Nat → It) => pdC y.1) (Ok := fun y => InP w y.1 y.2) Try.underlying22 (s := 47) (bs := Try.prog.bytesOf 42) (by kernel_rfl) rfl (by decide) (fun y => pdC_size y.1) (fun n cs x hx hw => pdu_cells hx hw)
    ⟨(pd0, fun _ => ⟨0, none, 0, 0, fun _ => 0⟩), by refine ⟨pd0_okS, .inl rfl, fun _ => ⟨rfl, rfl⟩, Nat.le_refl _, by decide⟩⟩ hf hsz
  simp [Value.cells] at he
  obtain ⟨rfl, rfl, rfl⟩ := he
  have hb : 1 ≤ Try.prog.bytesOf 42 := of_decide_eq_true (by kernel_rfl)
  exact ⟨L, r1, r2, r3, r4, by have := Nat.mul_le_mul_left cap hb; omega⟩
end Go.Proofs.Ytkiaijmhoikdiaa

/- The law's closure: how one LSP stands to another. Each theorem states its conditions. -/
namespace Go.Proofs.Ytkiaijmhoikdiaa
open Go.RowKit
set_option linter.unusedVariables false
set_option linter.unusedSimpArgs false

/-- three rows of bytes -/
def p3C (g n c : Nat → Nat) : Array Value := #[.slice (some ⟨g 0, 0, none⟩) (n 0) (c 0), .slice (some ⟨g 1, 0, none⟩) (n 1) (c 1), .slice (some ⟨g 2, 0, none⟩) (n 2) (c 2)]
def V3 (w : World) (P : Nat) (g n c : Nat → Nat) (z : Nat → Nat → Int) : Prop := Blk 70 w P (p3C g n c) ∧ ∀ i, i < 3 → Own8 w (g i) (n i) (c i) (z i)
theorem V3.below {w w' : World} {P : Nat} {g n c : Nat → Nat} {z : Nat → Nat → Int} (h : V3 w P g n c z) (hb : Below w.heap.size w w') : V3 w' P g n c z :=
  ⟨h.1.below hb h.1.lt, fun i hi => (h.2 i hi).below hb (Own8.lt (h.2 i hi))⟩
theorem V3.cell {w : World} {P : Nat} {g n c : Nat → Nat} {z : Nat → Nat → Int} (h : V3 w P g n c z) {i : Nat} (hi : i < 3) : w.cell? ⟨P, i, none⟩ = some (.slice (some ⟨g i, 0, none⟩) (n i) (c i)) := by
  rw [h.1.cell]
  rcases (by omega : i = 0 ∨ i = 1 ∨ i = 2) with rfl | rfl | rfl <;> rfl
end Go.Proofs.Ytkiaijmhoikdiaa

/- What the document's Write makes of any packet of which the first four TLVs are kept, and small operations of the laws. Each theorem states its conditions. -/
namespace Go.Proofs.Ytkiaijmhoikdiaa
open Go.RowKit
set_option linter.unusedVariables false
set_option linter.unusedSimpArgs false

/-- a packet with its first four TLVs -/
def t4 (x : Pd) : Pd := ⟨x.kd, x.ci, x.so, x.ho, x.nu, x.pr, x.la, x.li, x.id, x.sq, x.bi, x.st, x.en, x.A, min x.m 4, x.c⟩
theorem pd_t4 (p : Pd) : putMany (pdC p) 46 [.slice p.A (min p.m 4) p.c] = pdC (t4 p) := by kernel_rfl
theorem t4_ok {x : Pd} (h : PdOk x) : PdOk (t4 x) := h
theorem info_tlsW : (Try.prog.info? 40).map (·.size) = some 1 := by kernel_rfl
theorem rdT_min {w : World} {A : Option Addr} {m k : Nat} {L : Nat → It} (h : RdT w A m L) (hk : k ≤ m) : RdT w A k L := by
  rcases Nat.eq_zero_or_pos k with rfl | hp
  · exact .inl rfl
  · obtain ⟨b, off, rfl, hr⟩ := h.row (by omega)
    exact .inr ⟨b, off, rfl, hr.1, fun j hj => hr.2 j (by omega)⟩
theorem min4_run (o : Oper) (e : Operand → Value) (x y : Operand) (ho : o.op = .call { callee := .builtin .min, args := #[x, y], argTypes := #[3, 3] }) (m : Nat) (h0 : e x = .int .i64 (m : Int)) (hc : e y = .int .i64 4) (W : World) : (execOp e o).run Try.prog W = .ok (.value (.int .i64 ((min m 4 : Nat) : Int))) W := by
  unfold execOp
  simp only [ho]
  by_cases h : m < 4
  · rw [Nat.min_eq_left (by omega)]
    have h2 : ¬ (4 : Int) < (m : Int) := by omega
    simp [resolve, invoke, builtin, h0, hc, go_sem, h2]
    try omega
  · rw [Nat.min_eq_right (by omega)]
    have h1 : ¬ (m : Int) < 4 := by omega
    simp [resolve, invoke, builtin, h0, hc, go_sem, h1]
    try omega
    try (intro _; omega)
theorem slice4_k (o : Oper) (e : Operand → Value) (x y : Operand) (ho : o.op = .slice 40 x none (some y) none) (A : Option Addr) (m c k : Nat) (hA : m = 0 ∨ ∃ b off, A = some ⟨b, off, none⟩) (h0 : e x = .slice A m c) (h1 : e y = .int .i64 (k : Int)) (hk : k ≤ m) (hm : m ≤ c) (W : World) :
    (execOp e o).run Try.prog W = .ok (.value (.slice A k c)) W := by
  unfold execOp
  simp only [ho, h0, h1, Option.map_none, Option.map_some]
  have e3 : ¬ ((c : Int) < (k : Int)) := by omega
  have e4 : ¬ (c < k) := by omega
  rcases A with _ | A
  · have hk0 : k = 0 := by
      rcases hA with h | ⟨b, off, h⟩
      · omega
      · cases h
    subst hk0
    simp [go_sem]
  · simp [go_sem, e3, e4]
theorem run_addW (o : Oper) (e : Operand → Value) (x y : Operand) (t u : TypeId) (ho : o.op = .binOp .add t x y u) (a b c : Int) (h0 : e x = .int .i64 a) (h1 : e y = .int .i64 b) (hc : a + b = c) (hb : -1000000 ≤ c ∧ c ≤ 1000000) (W : World) : (execOp e o).run Try.prog W = .ok (.value (.int .i64 c)) W := by
  subst hc
  unfold execOp
  simp only [ho, h0, h1]
  simp [go_sem, IntKind.wrap, IntKind.signed, IntKind.bits]
  try omega
theorem run_subW (o : Oper) (e : Operand → Value) (x y : Operand) (t u : TypeId) (ho : o.op = .binOp .sub t x y u) (a b c : Int) (h0 : e x = .int .i64 a) (h1 : e y = .int .i64 b) (hc : a - b = c) (hb : -1000000 ≤ c ∧ c ≤ 1000000) (W : World) : (execOp e o).run Try.prog W = .ok (.value (.int .i64 c)) W := by
  subst hc
  unfold execOp
  simp only [ho, h0, h1]
  simp [go_sem, IntKind.wrap, IntKind.signed, IntKind.bits]
  try omega
/-- what is known of the bytes of a packet -/
structure WOk (p : Pd) (n : Nat) (z : Nat → Int) : Prop where
  hn : 1 ≤ n ∧ n ≤ 1492
  h4 : cls (z 4) = cls p.kd
  n27 : cls (z 4) = 2 → 27 ≤ n
  good : GoodZ z n p.m
  bd : ∀ j, 0 ≤ z j ∧ z j ≤ 255
theorem wr_ok {p : Pd} {L : Nat → It} {m0 : Nat} {w : World} (hp : PdOk p) (hm : JEnds L p.m m0) (hR : RdT w p.A p.m L) (hX : wrX p L m0 = 0) : WOk p (wrN p L m0) (wrZ p L m0) := by
  have hX2 := hX
  unfold wrX at hX2
  split at hX2
  · omega
  split at hX2
  · omega
  rename_i h1 h2
  have hc5 : cls p.kd ≤ 4 := by have := cls_le p.kd; have : cls p.kd ≠ 5 := fun e => h1 (.inl e); omega
  have hf : fitP p (cls p.kd) = true := by
    cases hf : fitP p (cls p.kd)
    · exact absurd (.inr hf) h1
    · rfl
  obtain ⟨e1, e2, e3⟩ := wr_0 p L m0 h1 h2
  have hm0 : m0 = p.m := by have := hm.1; omega
  have hJ := J_rd hR (fun k hk => hm.2.1 k (by omega))
  have hzb := pdZ_bd p (cls p.kd) L (by omega) hp hJ
  have hg := good_pd p L hp hc5 hf (by omega) hzb
  have hb := hdN_bd (cls p.kd) hc5
  have h4 : pdZ p (cls p.kd) L 4 = p.kd := by rw [pd_head p _ L hc5 4 (by decide)]; rfl
  rw [e2, e3]
  refine ⟨⟨by omega, by omega⟩, by rw [h4], fun h => ?_, hg, hzb⟩
  rw [h4] at h
  have : hdN (cls p.kd) = 27 := by rw [h]; rfl
  omega
theorem zero_enW : (Try.prog.info? 32).map (·.zero) = some (some (.agg (enC en0))) := zero_en
theorem self_hd (h : Hd) : SelfEq 10000 32 (.agg (enC (hdE h))) := by
  refine self_struct 9999 _ _ [(28, 0), (29, 8), (3, 9), (30, 10)] (by kernel_rfl) (by kernel_rfl) (by kernel_rfl) (fun p hp => ?_)
  simp only [List.mem_cons, List.not_mem_nil, or_false] at hp
  rcases hp with rfl | rfl | rfl | rfl
  · exact ⟨.agg (idC (hdE h).s), fun w => by kernel_rfl, self_id 9995 (hdE h).s (fun j => dg_bd _ _)⟩
  · exact ⟨.int .u32 ((hdE h).sq : Int), fun w => by kernel_rfl, self_int 9998 _ .u32 _ Try.underlying29⟩
  · exact ⟨.int .i64 (hdE h).li, fun w => by kernel_rfl, self_int 9998 _ .i64 _ Try.underlying3⟩
  · exact ⟨.int .u16 ((hdE h).su : Int), fun w => by kernel_rfl, self_int 9998 _ .u16 _ Try.underlying30⟩
end Go.Proofs.Ytkiaijmhoikdiaa

/- The walk of StoreRange: for every input the law returns true, and nothing that was there is written. No condition. -/
namespace Go.Proofs.Ytkiaijmhoikdiaa
open Go.RowKit Go.MapKept Go.Sort
set_option linter.unusedVariables false
set_option linter.unusedSimpArgs false

theorem entW_id {w : World} {g : Nat} {h : Hd} (k : Blk 32 w g (enC (hdE h))) : w.rangeAt g 0 (iC h.id).toList := ent_id k
/-- what the law wants of all -/
def wantP (a b : Nat) (x : HdI) : Bool := !decide (x.1.id < a) && !decide (b < x.1.id)
theorem wantP_eq (a b : Nat) : wantP a b = fun x : HdI => decide (a ≤ x.1.id) && decide (x.1.id ≤ b) := by
  funext x
  unfold wantP
  by_cases h1 : x.1.id < a <;> by_cases h2 : b < x.1.id <;> simp [h1, h2] <;> omega
def RdX (w : World) (A : Option Addr) (m : Nat) (C : Nat → Array Value) : Prop := RdR w A m 11 C
theorem RdX.below {w w' : World} {A : Option Addr} {m : Nat} {C : Nat → Array Value} (h : RdX w A m C) (hb : Below w.heap.size w w') : RdX w' A m C := by
  rcases h with h | ⟨b, off, e, hr⟩
  · exact .inl h
  · exact .inr ⟨b, off, e, hr.below hb hr.1⟩
theorem want_step (T : List HdI) (p : HdI → Bool) (i : Nat) (x : HdI) (h : T[i]? = some x) : (T.take (i + 1)).filter p = if p x then (T.take i).filter p ++ [x] else (T.take i).filter p := by
  rw [List.take_add_one, h, List.filter_append]
  by_cases hp : p x = true
  · rw [if_pos hp]; simp [hp]
  · rw [if_neg hp]; simp [hp]
set_option maxHeartbeats 80000000 in
set_option maxRecDepth 100000 in
theorem walkStoreRange (A : Option Addr) (n c : Nat) (P : Nat → Pd × (Nat → It)) (nf nt : Nat) (w : World) (hp : InPs w A n c P) (hf : IdOk nf) (ht : IdOk nt) : Calls Try.prog 7 #[.slice A n c, .agg (iC nf), .agg (iC nt)] w fun e w' => e = .returned (.bool true) ∧ Below w.heap.size w w' := by
  have HP := Lib.hid hp
  have HF := Lib.hid hf
  have HT := Lib.hid ht
  have hn63 : (n : Int) ≤ 9223372036854775807 := by have := hp.2.2.2.1; have := hp.2.2.2.2; omega
  clear hp hf ht
  go_enter Try.func7, Try.ntmps7
  have HB := Lib.hid (Below.refl w.heap.size w)
  obtain ⟨N1, hN1⟩ : ∃ N, w.heap.size = N := ⟨_, rfl⟩
  have HN1 := Lib.hid hN1
  clear hN1
  go_wp2_with (refine wpList_box (op := ⟨some 4, _, _, _, _, _⟩) rfl 28 (.tmp 1) rfl (iC nf) rfl N1 HN1.out ?_; intro w1 k1 b1 s1; refine Hid.out ?_)
  refine Lib.hid ?_
  have K4 := Lib.hid k1
  clear k1
  have le_HB_N1 : w.heap.size ≤ N1 := by rw [← HN1.out]; exact HB.out.size
  have HBn := Lib.hid (HB.out.trans (b1.mono HB.out.size))
  clear HB
  have HB := HBn
  clear HBn
  clear b1 HN1
  obtain ⟨N2, hN2⟩ : ∃ N, w1.heap.size = N := ⟨_, rfl⟩
  have HN2 := Lib.hid hN2
  clear hN2
  go_wp2_with (refine wpList_box (op := ⟨some 5, _, _, _, _, _⟩) rfl 28 (.tmp 2) rfl (iC nt) rfl N2 HN2.out ?_; intro w2 k1 b1 s1; refine Hid.out ?_)
  refine Lib.hid ?_
  have K5 := Lib.hid k1
  clear k1
  have lt_N1_N2 : N1 < N2 := by rw [← HN2.out]; exact K4.out.lt
  have le_HB_N2 : w.heap.size ≤ N2 := by rw [← HN2.out]; exact HB.out.size
  have K4n := Lib.hid (K4.out.below b1 K4.out.lt)
  clear K4
  have K4 := K4n
  clear K4n
  have HBn := Lib.hid (HB.out.trans (b1.mono HB.out.size))
  clear HB
  have HB := HBn
  clear HBn
  clear b1 HN2
  go_wp2_with fail
  refine (awake_any w2).mono ?_
  rintro e w3 ⟨rfl, b1⟩
  have K4n := Lib.hid (K4.out.below b1 K4.out.lt)
  clear K4
  have K4 := K4n
  clear K4n
  have K5n := Lib.hid (K5.out.below b1 K5.out.lt)
  clear K5
  have K5 := K5n
  clear K5n
  have HBn := Lib.hid (HB.out.trans (b1.mono HB.out.size))
  clear HB
  have HB := HBn
  clear HBn
  clear b1
  go_wp2_with fail
  obtain ⟨B, hB⟩ : ∃ N, w3.heap.size = N := ⟨_, rfl⟩
  have lt_4 : N1 < B := by rw [← hB]; exact K4.out.lt
  have lt_5 : N2 < B := by rw [← hB]; exact K5.out.lt
  have le_B : w.heap.size ≤ B := by rw [← hB]; exact HB.out.size
  refine (new_any w3).mono ?_
  rintro e w4 ⟨s, b, rfl, hst, b1⟩
  rw [hB] at hst
  have K4n := Lib.hid (K4.out.below b1 K4.out.lt)
  clear K4
  have K4 := K4n
  clear K4n
  have K5n := Lib.hid (K5.out.below b1 K5.out.lt)
  clear K5
  have K5 := K5n
  clear K5n
  have HBn := Lib.hid (HB.out.trans (b1.mono HB.out.size))
  clear HB
  have HB := HBn
  clear HBn
  have HST := Lib.hid hst
  clear b1 hst hB
  go_upto_block 0 with fail
  go_cut [] (fun wc => ∃ H k r, Hid (StAt wc B s b H k r) ∧ Hid (k ≤ 25) ∧ Hid (Blk 28 wc N1 (iC nf)) ∧ Hid (Blk 28 wc N2 (iC nt)) ∧ Hid (Below w.heap.size w wc))
  case first =>
    go_wp2_with fail
    go_loopw [24] (fun t wr => ∃ (i : Nat) (H : Nat → Option Hd) (k : Nat) (r : Bool), i ≤ n ∧ i ≤ 25 ∧ t = .int .i64 i ∧ Hid (StAt wr B s b H k r) ∧ Hid (k ≤ i) ∧ Hid (Blk 28 wr N1 (iC nf)) ∧ Hid (Blk 28 wr N2 (iC nt)) ∧ Hid (Below w.heap.size w wr)) (fun t _ => n - (intOf t).toNat)
    case atStart => exact ⟨0, noH, 0, false, by omega, by omega, rfl, HST, Lib.hid (Nat.le_refl _), K4, K5, HB⟩
    case round =>
      clear K4 K5 HB HST
      obtain ⟨i, H, k, r, hi, hi25, rfl, HST, HKI, K4, K5, HB⟩ := hrel
      by_cases hlt : i < n
      · skip
        obtain ⟨bA, off, rfl, hr⟩ := HP.out.1.row (by omega)
        have hki : (i : Int) < (n : Int) := by omega
        obtain ⟨p, hpp⟩ : ∃ p, (P i).1 = p := ⟨_, rfl⟩
        obtain ⟨L, hLL⟩ : ∃ L, (P i).2 = L := ⟨_, rfl⟩
        have HIN : Hid (InP w p L) := Lib.hid (by rw [← hpp, ← hLL]; exact HP.out.2.1 i)
        have h1 : Hid (wr.rangeAt bA (off + i * 47) (pdC p).toList) := Lib.hid (by have h9 := rangeAt_below (hr.2 i hlt) HB.out hr.1; unfold pdA at h9; rw [hpp] at h9; exact h9)
        clear hr hpp hLL
        go_wp2_with (refine wpList_ld (op := ⟨some 28, _, _, _, _, _⟩) (by rfl) 42 (.tmp 27) rfl bA (off + i * 47) rfl (pdC p) _ h1.out Try.underlying42 rfl info_pdR ?_; refine Hid.out ?_)
        refine Lib.hid ?_
        clear h1
        obtain ⟨N9, hN9⟩ : ∃ N, wr.heap.size = N := ⟨_, rfl⟩
        have HN9 := Lib.hid hN9
        clear hN9
        go_wp2_with (refine wpList_new (op := ⟨some 9, _, _, _, _, _⟩) rfl 42 rfl (pdC pd0) zero_pdR N9 HN9.out ?_; intro w5 k1 b1 s1; refine Hid.out ?_)
        refine Lib.hid ?_
        have K9 := Lib.hid k1
        have HB1 := Lib.hid b1
        clear k1 b1 s1
        go_wp2_with (refine wpList_st rfl 42 (.tmp 9) (.tmp 28) rfl N9 0 rfl (.agg (pdC p)) (pdC p) rfl rfl info_pdR (pdC_one _) K9.out (Nat.le_of_ble_eq_true rfl) (C' := pdC p) (pd_over' _ _) ?_; intro w6 q1; refine Hid.out ?_)
        refine Lib.hid ?_
        have HB2 : Hid (Below wr.heap.size wr w6) := Lib.hid (HB1.out.trans (q1.2.1 _ (by rw [HN9.out]; exact Nat.le_refl _)))
        clear HB1
        have HB1 := HB2
        clear HB2
        have K9n : Hid (Blk 42 w6 N9 (pdC p)) := Lib.hid q1.1
        clear K9
        have K9 := K9n
        clear K9n q1
        by_cases h25 : i < 25
        · have h25i : (i : Int) < 25 := by omega
          have c46 : w6.cell? ⟨N9, 46, none⟩ = some (.slice p.A p.m p.c) := (K9.out.cell 46).trans rfl
          have hmp : (p.m : Int) ≤ 9223372036854775807 := by have := HIN.out.2.2.2.1; have := HIN.out.2.2.2.2; omega
          go_wp2_with (refine wpList_v (op := ⟨some 36, _, _, _, _, _⟩) rfl (.int .i64 ((min p.m 4 : Nat) : Int)) (min4_run _ _ _ _ rfl p.m rfl rfl _) ?_; refine Hid.out ?_)
          refine Lib.hid ?_
          go_wp2_with (refine wpList_v (op := ⟨some 37, _, _, _, _, _⟩) rfl (.slice p.A (min p.m 4) p.c) (slice4_k _ _ _ _ rfl p.A p.m p.c (min p.m 4) (by rcases Nat.eq_zero_or_pos p.m with h | h; exact .inl h; obtain ⟨b9, o9, e9, _⟩ := HIN.out.2.1.row h; exact .inr ⟨b9, o9, e9⟩) rfl rfl (Nat.min_le_left _ _) HIN.out.2.2.2.1 _) ?_; refine Hid.out ?_)
          refine Lib.hid ?_
          clear c46
          go_wp2_with (refine wpList_st rfl 40 (.tmp 38) (.tmp 37) rfl N9 46 rfl (.slice p.A (min p.m 4) p.c) (#[.slice p.A (min p.m 4) p.c]) rfl rfl info_tlsW one_sl K9.out (Nat.le_of_ble_eq_true rfl) (C' := pdC (t4 p)) (pd_t4 _) ?_; intro w7 q1; refine Hid.out ?_)
          refine Lib.hid ?_
          have HB2 : Hid (Below wr.heap.size wr w7) := Lib.hid (HB1.out.trans (q1.2.1 _ (by rw [HN9.out]; exact Nat.le_refl _)))
          clear HB1
          have HB1 := HB2
          clear HB2
          have K9n : Hid (Blk 42 w7 N9 (pdC (t4 p))) := Lib.hid q1.1
          clear K9
          have K9 := K9n
          clear K9n q1
          go_wp2_with (refine wpList_ld (op := ⟨some 40, _, _, _, _, _⟩) (by rfl) 42 (.tmp 9) rfl N9 0 rfl (pdC (t4 p)) _ K9.out.all Try.underlying42 rfl info_pdR ?_; refine Hid.out ?_)
          refine Lib.hid ?_
          have b1 := HB1.out
          have HSTn := Lib.hid (HST.out.below b1)
          clear HST
          have HST := HSTn
          clear HSTn
          have K4n := Lib.hid (K4.out.below b1 K4.out.lt)
          clear K4
          have K4 := K4n
          clear K4n
          have K5n := Lib.hid (K5.out.below b1 K5.out.lt)
          clear K5
          have K5 := K5n
          clear K5n
          have HBn := Lib.hid (HB.out.trans (b1.mono HB.out.size))
          clear HB
          have HB := HBn
          clear HBn
          clear b1 HB1 HN9 K9
          have HOK : Hid (PdOk (t4 p)) := Lib.hid (t4_ok HIN.out.1)
          obtain ⟨m0, hm0⟩ := jends L (t4 p).m
          have HM := Lib.hid hm0
          clear hm0
          have HRT : Hid (RdT w7 p.A (t4 p).m L) := Lib.hid (rdT_min (HIN.out.2.1.below HB.out) (Nat.min_le_left _ _))
          have HWOK : Hid (wrX (t4 p) L m0 = 0 → WOk (t4 p) (wrN (t4 p) L m0) (wrZ (t4 p) L m0)) := Lib.hid (fun h => wr_ok (w := w7) HOK.out HM.out HRT.out h)
          go_wp2_with fail
          refine (docWrite_any (t4 p) HOK.out L m0 HM.out w7 ⟨HRT.out, Nat.le_trans (Nat.min_le_left _ _) HIN.out.2.2.2.1, by have := HIN.out.2.2.2.2; show p.c ≤ _; omega⟩).mono ?_
          rintro e w8 ⟨A8, c8, rfl, hrd, hc1, hc2, b1, hown⟩
          obtain ⟨x8, hx8⟩ : ∃ v, wrX (t4 p) L m0 = v := ⟨_, rfl⟩
          obtain ⟨n8, hn8⟩ : ∃ v, wrN (t4 p) L m0 = v := ⟨_, rfl⟩
          obtain ⟨z8, hz8⟩ : ∃ v, wrZ (t4 p) L m0 = v := ⟨_, rfl⟩
          rw [hx8, hn8, hz8] at HWOK
          rw [hx8, hn8, hz8] at hown
          rw [hx8, hn8]
          have HOWN := Lib.hid hown
          have HSTn := Lib.hid (HST.out.below b1)
          clear HST
          have HST := HSTn
          clear HSTn
          have K4n := Lib.hid (K4.out.below b1 K4.out.lt)
          clear K4
          have K4 := K4n
          clear K4n
          have K5n := Lib.hid (K5.out.below b1 K5.out.lt)
          clear K5
          have K5 := K5n
          clear K5n
          have HBn := Lib.hid (HB.out.trans (b1.mono HB.out.size))
          clear HB
          have HB := HBn
          clear HBn
          clear hx8 hn8 hz8 hrd hc1 hc2 hown b1 HRT HOK
          by_cases hx0 : x8 = 0
          · subst hx0
            obtain ⟨g8, rfl, hg8, hO8⟩ := HOWN.out rfl
            have HO := Lib.hid hO8
            have HWK := Lib.hid (HWOK.out rfl)
            clear HOWN HWOK hO8 hg8
            have hk512 : k ≤ 25 := by have := HKI.out; omega
            have HK5 := Lib.hid hk512
            clear hk512
            by_cases hc2 : cls (z8 4) = 2
            · have HC2 := Lib.hid hc2
              clear hc2
              have HPUT := Lib.hid (put_good g8 n8 c8 z8 _ B s b k H r w8 HST.out (by have := HK5.out; omega) HC2.out ⟨HWK.out.n27 HC2.out, HWK.out.hn.2⟩ HO.out HWK.out.good)
              go_wp2_with fail
              refine HPUT.out.mono ?_
              rintro e w9 ⟨x9, E9, rfl, hf, hc⟩
              have hR : ∃ H9 k9 r9, k9 ≤ k + 1 ∧ StAt w9 B s b H9 k9 r9 := by
                rcases hc with ⟨_, _, _, _, h⟩ | ⟨_, _, _, _, h⟩ | ⟨_, _, _, _, _, h⟩ | ⟨_, _, _, _, _, h⟩
                · exact ⟨_, _, _, Nat.le_refl _, h⟩
                · exact ⟨_, _, _, Nat.le_succ _, h⟩
                · exact ⟨_, _, _, Nat.le_succ _, h⟩
                · exact ⟨_, _, _, Nat.le_succ _, h⟩
              obtain ⟨H9, k9, r9, hk9, hst9⟩ := hR
              have HST9 := Lib.hid hst9
              have HK9 := Lib.hid hk9
              have hFB := hf.below (B := B) HST.out.hs HST.out.hb HST.out.ltB
              clear HST
              have HST := HST9
              have K4n := Lib.hid (K4.out.below hFB lt_4)
              clear K4
              have K4 := K4n
              clear K4n
              have K5n := Lib.hid (K5.out.below hFB lt_5)
              clear K5
              have K5 := K5n
              clear K5n
              have HBn := Lib.hid (HB.out.trans (hFB.mono le_B))
              clear HB
              have HB := HBn
              clear HBn HST9 hst9 hk9 hFB hf hc HPUT HO
              go_wp2_with fail
              go_roundw
              case rel => exact ⟨i + 1, H9, k9, r9, by omega, by omega, by go_num, HST, Lib.hid (by have := HKI.out; have := HK9.out; omega), K4, K5, HB⟩
              case measure => simp only [intOf]; omega
            · have HPUT := Lib.hid (put_oth g8 n8 c8 z8 _ s w8 hc2 HWK.out.hn HO.out HWK.out.good)
              clear hc2
              go_wp2_with fail
              refine HPUT.out.mono ?_
              rintro e w9 ⟨rfl, b1⟩
              have HSTn := Lib.hid (HST.out.below b1)
              clear HST
              have HST := HSTn
              clear HSTn
              have K4n := Lib.hid (K4.out.below b1 K4.out.lt)
              clear K4
              have K4 := K4n
              clear K4n
              have K5n := Lib.hid (K5.out.below b1 K5.out.lt)
              clear K5
              have K5 := K5n
              clear K5n
              have HBn := Lib.hid (HB.out.trans (b1.mono HB.out.size))
              clear HB
              have HB := HBn
              clear HBn
              clear b1
              go_wp2_with fail
              go_roundw
              case rel => exact ⟨i + 1, H, k, r, by omega, by omega, by go_num, HST, Lib.hid (by have := HKI.out; omega), K4, K5, HB⟩
              case measure => simp only [intOf]; omega
          · have hxb : (x8 == 0) = false := by simpa using hx0
            clear hx0
            go_wp2_with fail
            go_roundw
            case rel => exact ⟨i + 1, H, k, r, by omega, by omega, by go_num, HST, Lib.hid (by have := HKI.out; omega), K4, K5, HB⟩
            case measure => simp only [intOf]; omega
        · obtain rfl : i = 25 := by omega
          have b1 := HB1.out
          have HSTn := Lib.hid (HST.out.below b1)
          clear HST
          have HST := HSTn
          clear HSTn
          have K4n := Lib.hid (K4.out.below b1 K4.out.lt)
          clear K4
          have K4 := K4n
          clear K4n
          have K5n := Lib.hid (K5.out.below b1 K5.out.lt)
          clear K5
          have K5 := K5n
          clear K5n
          have HBn := Lib.hid (HB.out.trans (b1.mono HB.out.size))
          clear HB
          have HB := HBn
          clear HBn
          clear b1 HB1 HN9 K9
          go_wp2_with fail
          go_meet
          case rel => exact ⟨H, k, r, HST, Lib.hid HKI.out, K4, K5, HB⟩
      · obtain rfl : i = n := by omega
        go_wp2_with fail
        go_meet
        case rel => exact ⟨H, k, r, HST, Lib.hid (by have := HKI.out; omega), K4, K5, HB⟩
  case rest =>
    clear K4 K5 HB HST
    obtain ⟨H, k, r, HST, HK25, K4, K5, HB⟩ := hcut
    go_wp2_with fail
    refine (first_any wc).mono ?_
    rintro e x1 ⟨rfl, b1⟩
    have K4n := Lib.hid (K4.out.below b1 K4.out.lt)
    clear K4
    have K4 := K4n
    clear K4n
    have K5n := Lib.hid (K5.out.below b1 K5.out.lt)
    clear K5
    have K5 := K5n
    clear K5n
    have HSTn := Lib.hid (HST.out.below b1)
    clear HST
    have HST := HSTn
    clear HSTn
    have HBn := Lib.hid (HB.out.trans (b1.mono HB.out.size))
    clear HB
    have HB := HBn
    clear HBn
    clear b1
    go_wp2_with fail
    refine (last_any x1).mono ?_
    rintro e x2 ⟨rfl, b1⟩
    have K4n := Lib.hid (K4.out.below b1 K4.out.lt)
    clear K4
    have K4 := K4n
    clear K4n
    have K5n := Lib.hid (K5.out.below b1 K5.out.lt)
    clear K5
    have K5 := K5n
    clear K5n
    have HSTn := Lib.hid (HST.out.below b1)
    clear HST
    have HST := HSTn
    clear HSTn
    have HBn := Lib.hid (HB.out.trans (b1.mono HB.out.size))
    clear HB
    have HB := HBn
    clear HBn
    clear b1
    go_wp2_with fail
    refine (list_any B s b k 0 mxI H r x2 HST.out (by unfold IdOk; decide) mx_ok (by have := HK25.out; omega)).mono ?_
    rintro e x3 ⟨vA, TA, rfl, hoA, hiA, hlA, b1⟩
    obtain ⟨AA, cA, rfl, hA1, hA2, hA3, hA4⟩ := hoA.shape (recs_hd TA) (by decide)
    have K4n := Lib.hid (K4.out.below b1 K4.out.lt)
    clear K4
    have K4 := K4n
    clear K4n
    have K5n := Lib.hid (K5.out.below b1 K5.out.lt)
    clear K5
    have K5 := K5n
    clear K5n
    have HSTn := Lib.hid (HST.out.below b1)
    clear HST
    have HST := HSTn
    clear HSTn
    have HBn := Lib.hid (HB.out.trans (b1.mono HB.out.size))
    clear HB
    have HB := HBn
    clear HBn
    have HRA := Lib.hid hA4
    have HIA := Lib.hid hiA
    have HLA := Lib.hid hlA
    obtain ⟨lA, hlA2⟩ : ∃ l, TA.length = l := ⟨_, rfl⟩
    rw [hlA2]
    rw [hlA2] at HRA
    have HTA := Lib.hid hlA2
    have hla25 : lA ≤ 25 := by have := HLA.out; have := HK25.out; omega
    have HCNT : Hid (lA = k) := Lib.hid (by obtain ⟨M, hM, hMH, hMA, _⟩ := HST.out.map; rw [← HTA.out]; exact map_count hM hMH (fun i h e => by cases hMi : M i with | none => rw [(hMH i).1 hMi] at e; cases e | some g9 => exact (hMA i g9 h hMi e).2.1) (fun n hn => le_mx hn) HIA.out)
    clear hoA hiA hlA b1 hA1 hA2 hA3 hA4 hlA2
    obtain ⟨BW, hBW⟩ : ∃ N, x3.heap.size = N := ⟨_, rfl⟩
    have HBW := Lib.hid hBW
    have le_BW : w.heap.size ≤ BW := by rw [← hBW]; exact HB.out.size
    clear hBW
    have hlaI : (lA : Int) ≤ 9223372036854775807 := by omega
    go_wp2_with fail
    go_loopw [13, 56] (fun v t wr => ∃ i : Nat, i ≤ lA ∧ t = .int .i64 i ∧ Hid (OwnR wr BW 32 11 v ((TA.take i).filter (wantP nf nt)).length (enB ((TA.take i).filter (wantP nf nt)))) ∧ Hid (Below BW x3 wr)) (fun _ t _ => lA - (intOf t).toNat)
    case atStart => exact ⟨0, by omega, rfl, Lib.hid (OwnR.nil _ _ _ _ _), Lib.hid (Below.refl _ _)⟩
    case round =>
      obtain ⟨i, hi, rfl, HO, HQ⟩ := hrel
      by_cases hlt : i < lA
      · skip
        obtain ⟨bA, off, rfl, hr⟩ := HRA.out.row (by omega)
        have hki : (i : Int) < (lA : Int) := by omega
        obtain ⟨x, hx⟩ : ∃ x, TA[i]? = some x := ⟨_, List.getElem?_eq_getElem (by rw [HTA.out]; exact hlt)⟩
        have HX := Lib.hid hx
        have h1 : Hid (wr.rangeAt bA (off + i * 11) (enC (hdE x.1)).toList) := Lib.hid (by have h9 := rangeAt_below (hr.2 i hlt) HQ.out (by rw [← HBW.out]; exact hr.1); rw [enB_at TA i x hx] at h9; exact h9)
        obtain ⟨h, hh⟩ : ∃ h, x.1 = h := ⟨_, rfl⟩
        rw [hh] at h1
        have HH := Lib.hid hh
        have HIDx : Hid (IdOk h.id) := Lib.hid (by rw [← hh]; exact x.2)
        clear hr hx hh
        go_wp2_with (refine wpList_ld (op := ⟨some 59, _, _, _, _, _⟩) (by rfl) 32 (.tmp 58) rfl bA (off + i * 11) rfl (enC (hdE h)) _ h1.out Try.underlying32 rfl info_enP ?_; refine Hid.out ?_)
        refine Lib.hid ?_
        clear h1
        obtain ⟨N15, hN15⟩ : ∃ N, wr.heap.size = N := ⟨_, rfl⟩
        have HN15 := Lib.hid hN15
        clear hN15
        obtain ⟨SF, hSF⟩ : ∃ S, (TA.take i).filter (wantP nf nt) = S := ⟨_, rfl⟩
        rw [hSF] at HO
        have HSTP : Hid ((TA.take (i + 1)).filter (wantP nf nt) = if wantP nf nt x then SF ++ [x] else SF) := Lib.hid (by rw [want_step TA _ i x HX.out, hSF])
        have HSL : Hid (SF.length ≤ 25) := Lib.hid (by rw [← hSF]; have h1 := List.length_filter_le (wantP nf nt) (TA.take i); have h2 := List.length_take_le i TA; omega)
        clear hSF
        go_wp2_with (refine wpList_new (op := ⟨some 15, _, _, _, _, _⟩) rfl 32 rfl (enC en0) zero_enW N15 HN15.out ?_; intro w5 k1 b1 s1; refine Hid.out ?_)
        refine Lib.hid ?_
        have K15 := Lib.hid k1
        have HB1 := Lib.hid b1
        clear k1 b1 s1
        go_wp2_with (refine wpList_st rfl 32 (.tmp 15) (.tmp 59) rfl N15 0 rfl (.agg (enC (hdE h))) (enC (hdE h)) rfl rfl info_enP (enC_all _) K15.out (Nat.le_of_ble_eq_true rfl) (C' := enC (hdE h)) (en_over _ _) ?_; intro w6 q1; refine Hid.out ?_)
        refine Lib.hid ?_
        have b1 : Below wr.heap.size wr w6 := HB1.out.trans (q1.2.1 _ (by rw [HN15.out]; exact Nat.le_refl _))
        have K15n : Hid (Blk 32 w6 N15 (enC (hdE h))) := Lib.hid q1.1
        clear K15
        have K15 := K15n
        clear K15n q1 HB1 HN15
        have HOn := Lib.hid (HO.out.below b1)
        clear HO
        have HO := HOn
        clear HOn
        have HQn := Lib.hid (HQ.out.trans (b1.mono (by have := HQ.out.size; rw [HBW.out] at this; exact this)))
        clear HQ
        have HQ := HQn
        clear HQn
        clear b1
        have K4w := Lib.hid (K4.out.below HQ.out (by rw [← HBW.out]; exact K4.out.lt))
        have K5w := Lib.hid (K5.out.below HQ.out (by rw [← HBW.out]; exact K5.out.lt))
        go_wp2_with (refine wpList_ld (op := ⟨some 61, _, _, _, _, _⟩) (by rfl) 28 (.tmp 60) rfl N15 0 rfl (iC h.id) _ (entW_id K15.out) Try.underlying28 rfl info_iC ?_; refine Hid.out ?_)
        refine Lib.hid ?_
        go_wp2_with (refine wpList_ld (op := ⟨some 62, _, _, _, _, _⟩) (by rfl) 28 (.tmp 4) rfl N1 0 rfl (iC nf) _ K4w.out.all Try.underlying28 rfl info_iC ?_; refine Hid.out ?_)
        refine Lib.hid ?_
        go_wp2_with fail
        refine (less_any h.id nf w6 HIDx.out HF.out).mono ?_
        rintro e w7 ⟨rfl, b1⟩
        have HOn := Lib.hid (HO.out.below b1)
        clear HO
        have HO := HOn
        clear HOn
        have HQn := Lib.hid (HQ.out.trans (b1.mono (by have := HQ.out.size; rw [HBW.out] at this; exact this)))
        clear HQ
        have HQ := HQn
        clear HQn
        have K15n := Lib.hid (K15.out.below b1 K15.out.lt)
        clear K15
        have K15 := K15n
        clear K15n
        have K5v := Lib.hid (K5w.out.below b1 K5w.out.lt)
        clear b1 K4w K5w
        obtain ⟨d1, hd1⟩ : ∃ d, decide (h.id < nf) = d := ⟨_, rfl⟩
        rw [hd1]
        have HD1 := Lib.hid hd1
        clear hd1
        cases d1 with
        | false =>
          go_wp2_with (refine wpList_ld (op := ⟨some 66, _, _, _, _, _⟩) (by rfl) 28 (.tmp 5) rfl N2 0 rfl (iC nt) _ K5v.out.all Try.underlying28 rfl info_iC ?_; refine Hid.out ?_)
          refine Lib.hid ?_
          go_wp2_with (refine wpList_ld (op := ⟨some 68, _, _, _, _, _⟩) (by rfl) 28 (.tmp 67) rfl N15 0 rfl (iC h.id) _ (entW_id K15.out) Try.underlying28 rfl info_iC ?_; refine Hid.out ?_)
          refine Lib.hid ?_
          go_wp2_with fail
          refine (less_any nt h.id w7 HT.out HIDx.out).mono ?_
          rintro e w8 ⟨rfl, b1⟩
          have HOn := Lib.hid (HO.out.below b1)
          clear HO
          have HO := HOn
          clear HOn
          have HQn := Lib.hid (HQ.out.trans (b1.mono (by have := HQ.out.size; rw [HBW.out] at this; exact this)))
          clear HQ
          have HQ := HQn
          clear HQn
          have K15n := Lib.hid (K15.out.below b1 K15.out.lt)
          clear K15
          have K15 := K15n
          clear K15n
          clear b1 K5v
          obtain ⟨d2, hd2⟩ : ∃ d, decide (nt < h.id) = d := ⟨_, rfl⟩
          rw [hd2]
          have HD2 := Lib.hid hd2
          clear hd2
          cases d2 with
          | true =>
            have HO9 : Hid (OwnR _ BW 32 11 _ ((TA.take (i + 1)).filter (wantP nf nt)).length (enB ((TA.take (i + 1)).filter (wantP nf nt)))) := Lib.hid (by rw [HSTP.out, if_neg (by unfold wantP; rw [HH.out]; simp [HD2.out])]; exact HO.out)
            go_wp2_with fail
            go_roundw
            case rel => exact ⟨i + 1, by omega, by go_num, HO9, HQ⟩
            case measure => simp only [intOf]; omega
          | false =>
            go_wp2_with (refine wpList_ld (op := ⟨some 73, _, _, _, _, _⟩) (by rfl) 32 (.tmp 15) rfl N15 0 rfl (enC (hdE h)) _ K15.out.all Try.underlying32 rfl info_enP ?_; refine Hid.out ?_)
            refine Lib.hid ?_
            obtain ⟨N74, hN74⟩ : ∃ N, w8.heap.size = N := ⟨_, rfl⟩
            have HN74 := Lib.hid hN74
            clear hN74
            go_wp2_with (refine wpList_bsn (op := ⟨some 74, _, _, _, _, _⟩) 1 rfl 32 (enC (hdE h)) (bs_en1 _ _ _ rfl h rfl) N74 HN74.out ?_; intro w9 k1 b1 s1; refine Hid.out ?_)
            refine Lib.hid ?_
            have HRD : Hid (RdR w9 (some ⟨N74, 0, none⟩) 1 11 (fun _ => enC (hdE h))) := Lib.hid (rdR_blk k1)
            clear k1 s1
            have HOn := Lib.hid (HO.out.below b1)
            clear HO
            have HO := HOn
            clear HOn
            have HQn := Lib.hid (HQ.out.trans (b1.mono (by have := HQ.out.size; rw [HBW.out] at this; exact this)))
            clear HQ
            have HQ := HQn
            clear HQn
            clear b1 HN74 K15
            have hml : maxLen = 9223372036854775807 := rfl
            have HML := Lib.hid hml
            clear hml
            have HBZ : Hid (BW ≤ w9.heap.size) := Lib.hid (by have := HQ.out.size; rw [HBW.out] at this; exact this)
            go_wp2_with (at_builtin; refine app_Y 57 32 11 32 _ Try.underlying57 infoA_en rfl (by decide) rfl (.tmp 72) (.tmp 74) rfl BW _ SF.length (enB SF) rfl HO.out HBZ.out ⟨N74, 0, none⟩ 1 1 (fun _ => enC (hdE h)) rfl HRD.out (fun _ => ⟨rfl, enC_ones _⟩) (by have := HSL.out; rw [HML.out]; omega) (by have := HSL.out; omega) ?_; intro v10 w10 ho9 hg9 hk9; refine Hid.out ?_)
            refine Lib.hid ?_
            have HO9 : Hid (OwnR w10 BW 32 11 v10 ((TA.take (i + 1)).filter (wantP nf nt)).length (enB ((TA.take (i + 1)).filter (wantP nf nt)))) := Lib.hid (by rw [HSTP.out, if_pos (by unfold wantP; rw [HH.out]; simp [HD1.out, HD2.out]), List.length_append]; exact OwnR.congr ho9 (fun j hj => by have := en_snoc SF x j hj; rw [HH.out] at this; exact this))
            have HQn : Hid (Below BW x3 w10) := Lib.hid (HQ.out.grown hg9 (by have := HQ.out.size; rw [HBW.out] at this; exact this) (fun k e => hk9 k e))
            clear HQ
            have HQ := HQn
            clear HQn ho9 hg9 hk9 HO HRD
            go_wp2_with fail
            go_roundw
            case rel => exact ⟨i + 1, by omega, by go_num, HO9, HQ⟩
            case measure => simp only [intOf]; omega
        | true =>
          have HO9 : Hid (OwnR _ BW 32 11 _ ((TA.take (i + 1)).filter (wantP nf nt)).length (enB ((TA.take (i + 1)).filter (wantP nf nt)))) := Lib.hid (by rw [HSTP.out, if_neg (by unfold wantP; rw [HH.out]; simp [HD1.out])]; exact HO.out)
          go_wp2_with fail
          go_roundw
          case rel => exact ⟨i + 1, by omega, by go_num, HO9, HQ⟩
          case measure => simp only [intOf]; omega
      · obtain rfl : lA = i := by omega
        have HOw : Hid (OwnR wr BW 32 11 _ (TA.filter (wantP nf nt)).length (enB (TA.filter (wantP nf nt)))) := Lib.hid (by have h9 := HO.out; rw [List.take_of_length_le (by rw [HTA.out]; exact Nat.le_refl _)] at h9; exact h9)
        clear HO
        have b1 : Below x3.heap.size x3 wr := by rw [HBW.out]; exact HQ.out
        have K4n := Lib.hid (K4.out.below b1 K4.out.lt)
        clear K4
        have K4 := K4n
        clear K4n
        have K5n := Lib.hid (K5.out.below b1 K5.out.lt)
        clear K5
        have K5 := K5n
        clear K5n
        have HSTn := Lib.hid (HST.out.below b1)
        clear HST
        have HST := HSTn
        clear HSTn
        have HBn := Lib.hid (HB.out.trans (b1.mono HB.out.size))
        clear HB
        have HB := HBn
        clear HBn b1 HQ
        obtain ⟨AW, cW, hvW, hW1, hW2, hW3, hW4⟩ := HOw.out.shape (recs_hd _) (by decide)
        obtain rfl := hvW
        have HRW : Hid (RdX wr AW (TA.filter (wantP nf nt)).length (enB (TA.filter (wantP nf nt)))) := Lib.hid hW4
        clear hW1 hW2 hW3 hW4 HOw
        go_wp2_with fail
        have HSTq := Lib.hid (HST.out.below ((Below.refl wr.heap.size wr).drew))
        clear HST
        have HRWq := Lib.hid (HRW.out.below ((Below.refl wr.heap.size wr).drew))
        clear HRW
        refine wp_region_held_drew (S := fun w' => Blk 28 w' N1 (iC nf) ∧ Blk 28 w' N2 (iC nt) ∧ Below w.heap.size w w') (by kernel_rfl) ⟨K4.out, K5.out, HB.out.drew⟩ (fun hS => ?_)
        generalize hW3 : wr.drew = W3 at hS HSTq HRWq ⊢
        clear hW3
        clear K4
        clear K5
        clear HB
        have HST := HSTq
        clear HSTq
        have HRW := HRWq
        clear HRWq
        have K4 := Lib.hid hS.1
        have K5 := Lib.hid hS.2.1
        have HB := Lib.hid hS.2.2
        refine takeY (i := 0) (some 77) (v := .pointer (some ⟨s, 0, none⟩)) rfl rfl (by kernel_rfl) (by kernel_rfl) (by kernel_rfl) (fun _ _ _ h => h) (by rfl) (fun w' hS => by clear hS; go_simp) hS ?_
        simp only [Act.put, List.setIfInBounds_toArray, List.set_cons_zero, List.set_cons_succ]
        refine takeL (i := 2) (some 79) 28 (.tmp 4) N1 0 (iC nf) _ rfl rfl (by kernel_rfl) (by kernel_rfl) (by kernel_rfl) (fun _ _ _ h => h) (by rfl) rfl rfl (fun w' hS => hS.1.all) Try.underlying28 rfl info_iC hS ?_
        simp only [Act.put, List.setIfInBounds_toArray, List.set_cons_zero, List.set_cons_succ]
        refine takeC (i := 1) (some 78) 17 #[] (.agg (iC 0)) (R := fun w' => Below W3.heap.size W3 w') rfl rfl (by kernel_rfl) (by rfl) (by go_simp) (first_any W3) (fun w' hb => ⟨hS.1.below hb hS.1.lt, hS.2.1.below hb hS.2.1.lt, hS.2.2.trans (hb.mono hS.2.2.size)⟩) (fun W4 hb1 hS2 => ?_)
        simp only [Act.put, List.setIfInBounds_toArray, List.set_cons_zero, List.set_cons_succ]
        have HSTn := Lib.hid (HST.out.below hb1)
        clear HST
        have HST := HSTn
        clear HSTn
        have HRWn := Lib.hid (HRW.out.below hb1)
        clear HRW
        have HRW := HRWn
        clear HRWn
        clear K4
        clear K5
        clear HB
        clear hS hb1
        have hS := hS2
        clear hS2
        have K4 := Lib.hid hS.1
        have K5 := Lib.hid hS.2.1
        have HB := Lib.hid hS.2.2
        refine takeCE (i := 3) (some 80) 16 #[.pointer (some ⟨s, 0, none⟩), .agg (iC 0), .agg (iC nf)] (R := fun v w' => ∃ T, OwnR w' W4.heap.size 32 11 v T.length (enB T) ∧ InRg H 0 nf T ∧ T.length ≤ k ∧ Below W4.heap.size W4 w') rfl rfl (by kernel_rfl) (by rfl) (by go_simp) ((list_any B s b k 0 nf H r W4 HST.out (by unfold IdOk; decide) HF.out (by have := HK25.out; omega)).mono (fun e w' ⟨v, T, h1, h2⟩ => ⟨v, h1, T, h2⟩)) (fun v w' h => by obtain ⟨TL, ho9, hi9, hl9, b1⟩ := h; exact ⟨hS.1.below b1 hS.1.lt, hS.2.1.below b1 hS.2.1.lt, hS.2.2.trans (b1.mono hS.2.2.size)⟩) (fun v W5 h hS2 => ?_)
        obtain ⟨TL, ho9, hi9, hl9, b1⟩ := h
        clear hS2
        simp only [Act.put, List.setIfInBounds_toArray, List.set_cons_zero, List.set_cons_succ]
        obtain ⟨AL, cL, rfl, _⟩ := ho9.shape (recs_hd _) (by decide)
        have HIL := Lib.hid hi9
        obtain ⟨lL, hlL⟩ : ∃ l, TL.length = l := ⟨_, rfl⟩
        have HTL := Lib.hid hlL
        have hbL : lL ≤ 25 := by have := HK25.out; omega
        simp only [hlL]
        clear ho9 hi9 hl9
        clear hlL
        have HSTn := Lib.hid (HST.out.below b1)
        clear HST
        have HST := HSTn
        clear HSTn
        have HRWn := Lib.hid (HRW.out.below b1)
        clear HRW
        have HRW := HRWn
        clear HRWn
        have K4n := Lib.hid (K4.out.below b1 K4.out.lt)
        clear K4
        have K4 := K4n
        clear K4n
        have K5n := Lib.hid (K5.out.below b1 K5.out.lt)
        clear K5
        have K5 := K5n
        clear K5n
        have HBn := Lib.hid (HB.out.trans (b1.mono HB.out.size))
        clear HB
        have HB := HBn
        clear HBn
        clear b1 hS
        have hS := (And.intro K4.out (And.intro K5.out HB.out))
        refine takeY (i := 4) (some 16) (v := .slice AL lL cL) rfl rfl (by kernel_rfl) (by kernel_rfl) (by kernel_rfl) (fun _ _ _ h => h) (by rfl) (fun w' hS => by clear hS; go_simp) hS ?_
        simp only [Act.put, List.setIfInBounds_toArray, List.set_cons_zero, List.set_cons_succ]
        clear hS
        refine wpAnyH_done (by kernel_rfl) ?_ _
        go_wp2_with fail
        have HSTq := Lib.hid (HST.out.below ((Below.refl W5.heap.size W5).drew))
        clear HST
        have HRWq := Lib.hid (HRW.out.below ((Below.refl W5.heap.size W5).drew))
        clear HRW
        refine wp_region_held_drew (S := fun w' => Blk 28 w' N1 (iC nf) ∧ Blk 28 w' N2 (iC nt) ∧ Below w.heap.size w w') (by kernel_rfl) ⟨K4.out, K5.out, HB.out.drew⟩ (fun hS => ?_)
        generalize hW6 : W5.drew = W6 at hS HSTq HRWq ⊢
        clear hW6
        clear K4
        clear K5
        clear HB
        have HST := HSTq
        clear HSTq
        have HRW := HRWq
        clear HRWq
        have K4 := Lib.hid hS.1
        have K5 := Lib.hid hS.2.1
        have HB := Lib.hid hS.2.2
        refine takeY (i := 0) (some 81) (v := .pointer (some ⟨s, 0, none⟩)) rfl rfl (by kernel_rfl) (by kernel_rfl) (by kernel_rfl) (fun _ _ _ h => h) (by rfl) (fun w' hS => by clear hS; go_simp) hS ?_
        simp only [Act.put, List.setIfInBounds_toArray, List.set_cons_zero, List.set_cons_succ]
        refine takeL (i := 1) (some 82) 28 (.tmp 4) N1 0 (iC nf) _ rfl rfl (by kernel_rfl) (by kernel_rfl) (by kernel_rfl) (fun _ _ _ h => h) (by rfl) rfl rfl (fun w' hS => hS.1.all) Try.underlying28 rfl info_iC hS ?_
        simp only [Act.put, List.setIfInBounds_toArray, List.set_cons_zero, List.set_cons_succ]
        refine takeC (i := 2) (some 83) 18 #[] (.agg (iC mxI)) (R := fun w' => Below W6.heap.size W6 w') rfl rfl (by kernel_rfl) (by rfl) (by go_simp) (last_any W6) (fun w' hb => ⟨hS.1.below hb hS.1.lt, hS.2.1.below hb hS.2.1.lt, hS.2.2.trans (hb.mono hS.2.2.size)⟩) (fun W7 hb1 hS2 => ?_)
        simp only [Act.put, List.setIfInBounds_toArray, List.set_cons_zero, List.set_cons_succ]
        have HSTn := Lib.hid (HST.out.below hb1)
        clear HST
        have HST := HSTn
        clear HSTn
        have HRWn := Lib.hid (HRW.out.below hb1)
        clear HRW
        have HRW := HRWn
        clear HRWn
        clear K4
        clear K5
        clear HB
        clear hS hb1
        have hS := hS2
        clear hS2
        have K4 := Lib.hid hS.1
        have K5 := Lib.hid hS.2.1
        have HB := Lib.hid hS.2.2
        refine takeCE (i := 3) (some 84) 16 #[.pointer (some ⟨s, 0, none⟩), .agg (iC nf), .agg (iC mxI)] (R := fun v w' => ∃ T, OwnR w' W7.heap.size 32 11 v T.length (enB T) ∧ InRg H nf mxI T ∧ T.length ≤ k ∧ Below W7.heap.size W7 w') rfl rfl (by kernel_rfl) (by rfl) (by go_simp) ((list_any B s b k nf mxI H r W7 HST.out HF.out mx_ok (by have := HK25.out; omega)).mono (fun e w' ⟨v, T, h1, h2⟩ => ⟨v, h1, T, h2⟩)) (fun v w' h => by obtain ⟨TG, ho9, hi9, hl9, b1⟩ := h; exact ⟨hS.1.below b1 hS.1.lt, hS.2.1.below b1 hS.2.1.lt, hS.2.2.trans (b1.mono hS.2.2.size)⟩) (fun v W8 h hS2 => ?_)
        obtain ⟨TG, ho9, hi9, hl9, b1⟩ := h
        clear hS2
        simp only [Act.put, List.setIfInBounds_toArray, List.set_cons_zero, List.set_cons_succ]
        obtain ⟨AG, cG, rfl, _⟩ := ho9.shape (recs_hd _) (by decide)
        have HIG := Lib.hid hi9
        obtain ⟨lG, hlG⟩ : ∃ l, TG.length = l := ⟨_, rfl⟩
        have HTG := Lib.hid hlG
        have hbG : lG ≤ 25 := by have := HK25.out; omega
        simp only [hlG]
        clear ho9 hi9 hl9
        clear hlG
        have HSTn := Lib.hid (HST.out.below b1)
        clear HST
        have HST := HSTn
        clear HSTn
        have HRWn := Lib.hid (HRW.out.below b1)
        clear HRW
        have HRW := HRWn
        clear HRWn
        have K4n := Lib.hid (K4.out.below b1 K4.out.lt)
        clear K4
        have K4 := K4n
        clear K4n
        have K5n := Lib.hid (K5.out.below b1 K5.out.lt)
        clear K5
        have K5 := K5n
        clear K5n
        have HBn := Lib.hid (HB.out.trans (b1.mono HB.out.size))
        clear HB
        have HB := HBn
        clear HBn
        clear b1 hS
        have hS := (And.intro K4.out (And.intro K5.out HB.out))
        refine takeY (i := 4) (some 17) (v := .slice AG lG cG) rfl rfl (by kernel_rfl) (by kernel_rfl) (by kernel_rfl) (fun _ _ _ h => h) (by rfl) (fun w' hS => by clear hS; go_simp) hS ?_
        simp only [Act.put, List.setIfInBounds_toArray, List.set_cons_zero, List.set_cons_succ]
        clear hS
        refine wpAnyH_done (by kernel_rfl) ?_ _
        go_wp2_with (refine wpList_v (op := ⟨some 89, _, _, _, _, _⟩) rfl (.int .i64 ((lL : Int) + (lG : Int))) (run_addW _ _ _ _ _ _ rfl (lL : Int) (lG : Int) _ rfl rfl rfl (by omega) _) ?_; refine Hid.out ?_)
        refine Lib.hid ?_
        go_wp2_with (refine wpList_ld (op := ⟨some 91, _, _, _, _, _⟩) (by rfl) 28 (.tmp 4) rfl N1 0 rfl (iC nf) _ K4.out.all Try.underlying28 rfl info_iC ?_; refine Hid.out ?_)
        refine Lib.hid ?_
        go_wp2_with (refine wpList_ld (op := ⟨some 92, _, _, _, _, _⟩) (by rfl) 28 (.tmp 4) rfl N1 0 rfl (iC nf) _ K4.out.all Try.underlying28 rfl info_iC ?_; refine Hid.out ?_)
        refine Lib.hid ?_
        go_wp2_with fail
        refine (list_any B s b k nf nf H r W8 HST.out HF.out HF.out (by have := HK25.out; omega)).mono ?_
        rintro e y1 ⟨v9, TE, rfl, ho9, hi9, hl9, b1⟩
        obtain ⟨AE, cE, rfl, _, _, _, hrd9⟩ := ho9.shape (recs_hd _) (by decide)
        have HIE := Lib.hid hi9
        have HRE := Lib.hid hrd9
        have K4n := Lib.hid (K4.out.below b1 K4.out.lt)
        clear K4
        have K4 := K4n
        clear K4n
        have K5n := Lib.hid (K5.out.below b1 K5.out.lt)
        clear K5
        have K5 := K5n
        clear K5n
        have HSTn := Lib.hid (HST.out.below b1)
        clear HST
        have HST := HSTn
        clear HSTn
        have HRWn := Lib.hid (HRW.out.below b1)
        clear HRW
        have HRW := HRWn
        clear HRWn
        have HBn := Lib.hid (HB.out.trans (b1.mono HB.out.size))
        clear HB
        have HB := HBn
        clear HBn
        obtain ⟨lE, hlE⟩ : ∃ l, TE.length = l := ⟨_, rfl⟩
        have HTE := Lib.hid hlE
        have hbE : lE ≤ 25 := by have := HK25.out; omega
        rw [hlE]
        clear ho9 hi9 hl9 hrd9 b1 hlE
        have hsum : (lL : Int) + (lG : Int) - (lE : Int) = (lA : Int) := by have h9 := inRg_both HIA.out HIL.out HIG.out HIE.out (le_mx HF.out); rw [HTA.out, HTL.out, HTG.out, HTE.out] at h9; omega
        have HSUM := Lib.hid hsum
        clear hsum
        go_wp2_with (refine wpList_v (op := ⟨some 95, _, _, _, _, _⟩) rfl (.int .i64 (lA : Int)) (run_subW _ _ _ _ _ _ rfl ((lL : Int) + (lG : Int)) (lE : Int) _ rfl rfl HSUM.out (by omega) _) ?_; refine Hid.out ?_)
        refine Lib.hid ?_
        go_wp2_with (refine wpList_ld (op := ⟨some 97, _, _, _, _, _⟩) (by rfl) 28 (.tmp 4) rfl N1 0 rfl (iC nf) _ K4.out.all Try.underlying28 rfl info_iC ?_; refine Hid.out ?_)
        refine Lib.hid ?_
        go_wp2_with (refine wpList_ld (op := ⟨some 98, _, _, _, _, _⟩) (by rfl) 28 (.tmp 5) rfl N2 0 rfl (iC nt) _ K5.out.all Try.underlying28 rfl info_iC ?_; refine Hid.out ?_)
        refine Lib.hid ?_
        go_wp2_with fail
        refine (list_any B s b k nf nt H r y1 HST.out HF.out HT.out (by have := HK25.out; omega)).mono ?_
        rintro e y2 ⟨v9, TR, rfl, ho9, hi9, hl9, b1⟩
        obtain ⟨AR, cR, rfl, _, _, _, hrd9⟩ := ho9.shape (recs_hd _) (by decide)
        have HIR := Lib.hid hi9
        have HRR := Lib.hid hrd9
        have K4n := Lib.hid (K4.out.below b1 K4.out.lt)
        clear K4
        have K4 := K4n
        clear K4n
        have K5n := Lib.hid (K5.out.below b1 K5.out.lt)
        clear K5
        have K5 := K5n
        clear K5n
        have HSTn := Lib.hid (HST.out.below b1)
        clear HST
        have HST := HSTn
        clear HSTn
        have HRWn := Lib.hid (HRW.out.below b1)
        clear HRW
        have HRW := HRWn
        clear HRWn
        have HBn := Lib.hid (HB.out.trans (b1.mono HB.out.size))
        clear HB
        have HB := HBn
        clear HBn
        obtain ⟨lR, hlR⟩ : ∃ l, TR.length = l := ⟨_, rfl⟩
        have HTR := Lib.hid hlR
        have hbR : lR ≤ 25 := by have := HK25.out; omega
        rw [hlR]
        clear ho9 hi9 hl9 hrd9 b1 hlR
        have HTR2 : Hid (TA.filter (wantP nf nt) = TR) := Lib.hid (by rw [wantP_eq]; exact (inRg_filter HIA.out HIR.out (Nat.zero_le _) (le_mx HT.out)).symm)
        have HRV : Hid (RdR y2 AW lR 11 (enB TR)) := Lib.hid (by have h9 := HRW.out; rw [HTR2.out, HTR.out] at h9; exact h9)
        have hlen9 : (TA.filter (wantP nf nt)).length = lR := by rw [HTR2.out, HTR.out]
        have HRR9 : Hid (RdR y2 AR lR 11 (enB TR)) := Lib.hid (by have h9 := HRR.out; rw [HTR.out] at h9; exact h9)
        simp only [hlen9]
        clear hlen9
        go_wp2_with fail
        refine (sameN_yes AR AW lR cR cW (enB TR) y2 HRR9.out HRV.out (fun j hj => self_hd _) (fun j => rfl) (by omega)).mono ?_
        rintro e y3 ⟨rfl, m9, hy3⟩
        have b1 : Below y2.heap.size y2 y3 := by rw [hy3]; exact ⟨rfl, rfl, rfl, Nat.le_refl _, fun _ _ => rfl⟩
        have K4n := Lib.hid (K4.out.below b1 K4.out.lt)
        clear K4
        have K4 := K4n
        clear K4n
        have K5n := Lib.hid (K5.out.below b1 K5.out.lt)
        clear K5
        have K5 := K5n
        clear K5n
        have HSTn := Lib.hid (HST.out.below b1)
        clear HST
        have HST := HSTn
        clear HSTn
        have HBn := Lib.hid (HB.out.trans (b1.mono HB.out.size))
        clear HB
        have HB := HBn
        clear HBn
        clear b1 hy3
        have HCN := HCNT.out
        subst HCN
        go_wp2_with fail
        refine (stLen_any HST.out).mono ?_
        rintro e y4 ⟨rfl, rfl⟩
        go_wp2_with fail
        go_ret
        exact ⟨rfl, HB.out⟩
end Go.Proofs.Ytkiaijmhoikdiaa

/- IDs as arguments. No condition. -/
namespace Go.Proofs.Ytkiaijmhoikdiaa
open Go.RowKit Go.ChangeShapes Go.WideShapes
set_option linter.unusedVariables false

set_option maxRecDepth 100000 in
theorem open_lid {H : Type} {enc : TypeId × Value → H} {w : World} {base : Nat} {held : Bool} {r : Reach} {b0 : Nat} {v : Value} {d : DataW H} {ps : List MemPlace}
    (hv : Value.okWide Try.prog w r b0 28 v) (h : DataW.Trod enc Try.prog w base (fun _ => true) held 28 v d ps) : ∃ n, v = .agg (iC n) ∧ IdOk n := by
  simp only [Value.okWide, Try.underlying28] at hv
  obtain ⟨ca, rfl, hca, _⟩ := hv
  obtain ⟨fuel, hf⟩ := h
  have hcc : (Value.agg ca).cells.toList = ca.toList := rfl
  rw [hcc] at hf
  obtain ⟨cs, hcs⟩ : ∃ cs, ca.toList = cs := ⟨_, rfl⟩
  rw [hcs] at hf
  have hl : cs.length = 8 := by
    obtain ⟨xs, m1, _, _, hl, _, _⟩ := DataW.trod_struct Try.underlying28 hf
    rw [hl]
    kernel_rfl
  have hcut : (cs.drop 0).take 8 = cs := by rw [List.drop_zero, List.take_of_length_le (by omega)]
  rw [← hcut] at hf
  obtain ⟨z, hz, hb⟩ := id_run hf rfl
  obtain ⟨n, hn, hd⟩ := id_of z hb
  refine ⟨n, ?_, hn⟩
  congr 1
  apply Array.ext_getElem?
  intro i
  rw [← Array.getElem?_toList, hcs]
  rcases Nat.lt_or_ge i 8 with h | h
  · have h1 := hz i h
    rw [Nat.zero_add] at h1
    rw [h1, ← hd i h]
    rcases (by omega : i = 0 ∨ i = 1 ∨ i = 2 ∨ i = 3 ∨ i = 4 ∨ i = 5 ∨ i = 6 ∨ i = 7) with rfl | rfl | rfl | rfl | rfl | rfl | rfl | rfl <;> rfl
  · rw [List.getElem?_eq_none (by omega), Array.getElem?_eq_none (by show 8 ≤ i; exact h)]
end Go.Proofs.Ytkiaijmhoikdiaa
