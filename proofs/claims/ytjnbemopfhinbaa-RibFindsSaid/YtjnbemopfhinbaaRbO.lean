/- Routes that came in as an argument. No condition. -/
import Derived.Test.YtjnbemopfhinbaaRbSm
import Derived.Test.YtjnbemopfhinbaaTrO
namespace Go.Proofs.Ytjnbemopfhinbaa
open Go.RowKit Go.ChangeShapes Go.WideShapes
set_option linter.unusedVariables false
set_option linter.unusedSimpArgs false
set_option maxRecDepth 100000

theorem sy_cells {H : Type} {enc : TypeId × Value → H} {w : World} {base : Nat} {spare : Nat → Bool} {held : Bool} {n : Nat} {cs : List Value} {x : DataW H × List MemPlace} (h : DataW.trod enc Try.prog w base spare held n 72 cs = some x) (hl : cs.length = 6) :
    ∃ z : Nat → Int, cs = vals z 6 ∧ ∀ i, 0 ≤ z i ∧ z i ≤ 255 := by
  have hc1 : Try.prog.cellsOf 5 = 1 := by kernel_rfl
  obtain ⟨ys, m2, _, _, _, hn2, hel2⟩ := DataW.trod_array Try.underlying72 h
  have one : ∀ i, i < 6 → ∃ a : Int, cs[i]? = some (.int .u8 a) ∧ 0 ≤ a ∧ a ≤ 255 := by
    intro i hi
    have he := hel2 i hi
    rw [hc1, Nat.mul_one, List.getElem?_eq_getElem (by omega)] at he
    obtain ⟨a, ea, _, wa⟩ := DataW.trod_int Try.underlying5 he
    refine ⟨a, ?_, wf_u8 wa⟩
    have := congrArg (·[0]?) ea
    simpa [List.getElem?_take, List.getElem?_drop] using this
  obtain ⟨z, hz⟩ : ∃ z : Nat → Int, ∀ i, i < 6 → cs[i]? = some (.int .u8 (z i)) ∧ 0 ≤ z i ∧ z i ≤ 255 := by
    refine ⟨fun i => if h : i < 6 then (one i h).choose else 0, fun i hi => ?_⟩
    simp only [dif_pos hi]
    exact (one i hi).choose_spec
  refine ⟨fun i => if i < 6 then z i else 0, ?_, fun i => ?_⟩
  · apply List.ext_getElem?
    intro i
    rcases Nat.lt_or_ge i 6 with h | h
    · rw [(hz i h).1]
      unfold vals
      rw [List.getElem?_map, List.getElem?_range h]
      simp [h]
    · rw [List.getElem?_eq_none (by omega), List.getElem?_eq_none (by unfold vals; simp; omega)]
  · show 0 ≤ (if i < 6 then z i else 0) ∧ (if i < 6 then z i else 0) ≤ 255
    split
    · rename_i h; exact (hz i h).2
    · omega
def HpOk (h : Hp) : Prop := ∀ i, 0 ≤ h.y i ∧ h.y i ≤ 255
theorem hop_cells {H : Type} {enc : TypeId × Value → H} {w : World} {base : Nat} {spare : Nat → Bool} {held : Bool} {n : Nat} {cs : List Value} {x : DataW H × List MemPlace} (h : DataW.trod enc Try.prog w base spare held n 74 cs = some x) : ∃ o : Hp, cs = (hopC o).toList ∧ HpOk o := by
  have hc7 : Try.prog.cellsOf 74 = 7 := by kernel_rfl
  have hc6 : Try.prog.cellsOf 72 = 6 := by kernel_rfl
  have hci : Try.prog.cellsOf 3 = 1 := by kernel_rfl
  obtain ⟨xs, m, _, _, hl, hn, hel⟩ := DataW.trod_struct Try.underlying74 h
  have hl : cs.length = 7 := by rw [hl, hc7]
  have hn : xs.length = 2 := hn
  have e0 : DataW.trod enc Try.prog w base spare held m 3 ((cs.drop 0).take (Try.prog.cellsOf 3)) = xs[0]? := hel 0 _ rfl
  have e1 : DataW.trod enc Try.prog w base spare held m 72 ((cs.drop 1).take (Try.prog.cellsOf 72)) = xs[1]? := hel 1 _ rfl
  rw [hci] at e0
  rw [hc6] at e1
  rw [List.getElem?_eq_getElem (by omega)] at e0 e1
  obtain ⟨a0, f0, _, w0⟩ := DataW.trod_int Try.underlying3 e0
  obtain ⟨z, hz, hb⟩ := sy_cells e1 (by rw [List.length_take, List.length_drop]; omega)
  refine ⟨⟨a0, z⟩, ?_, hb⟩
  have c0 : cs[0]? = some (.int .i64 a0) := by
    have := congrArg (·[0]?) f0
    simpa [List.getElem?_take, List.getElem?_drop] using this
  apply List.ext_getElem?
  intro i
  rcases Nat.lt_or_ge i 7 with h | h
  · rcases Nat.eq_zero_or_pos i with rfl | h1
    · rw [c0]; rfl
    · obtain ⟨k, rfl⟩ := Nat.exists_eq_add_of_le h1
      have h3 := congrArg (·[k]?) hz
      simp only [List.getElem?_take, List.getElem?_drop] at h3
      rw [if_pos (by omega)] at h3
      rw [show 0 + 1 + k = 1 + k by omega, h3]
      rcases (by omega : k = 0 ∨ k = 1 ∨ k = 2 ∨ k = 3 ∨ k = 4 ∨ k = 5) with rfl | rfl | rfl | rfl | rfl | rfl <;> rfl
  · rw [List.getElem?_eq_none (by omega), List.getElem?_eq_none (by rw [Array.length_toList]; exact h)]
def RxIn (w : World) (x : Rx) : Prop := RtB x.r ∧ HopAt w x
theorem rt_cells {H : Type} {enc : TypeId × Value → H} {w : World} {base : Nat} {held : Bool} {n : Nat} {cs : List Value} {x : DataW H × List MemPlace} (h : DataW.trod enc Try.prog w base (fun _ => true) held n 70 cs = some x) (hsz : ∀ k ∈ x.1.weights Try.prog 70, k ≤ 140737488351232) :
    ∃ o : Rx, cs = (rxC o).toList ∧ RxIn w o := by
  have hc21 : Try.prog.cellsOf 70 = 21 := by kernel_rfl
  have hc18 : Try.prog.cellsOf 32 = 18 := by kernel_rfl
  have hci : Try.prog.cellsOf 3 = 1 := by kernel_rfl
  have hcu : Try.prog.cellsOf 67 = 1 := by kernel_rfl
  have hcs : Try.prog.cellsOf 68 = 1 := by kernel_rfl
  obtain ⟨d, ps⟩ := x
  obtain ⟨xs, m, _, hxd, hl, hn, hel⟩ := DataW.trod_struct Try.underlying70 h
  have hd : d = .agg (xs.map (·.1)) := by have := congrArg Prod.fst hxd; simpa using this
  have hl : cs.length = 21 := by rw [hl, hc21]
  have hn : xs.length = 4 := hn
  have e0 : DataW.trod enc Try.prog w base (fun _ => true) held m 32 ((cs.drop 0).take (Try.prog.cellsOf 32)) = xs[0]? := hel 0 _ rfl
  have e1 : DataW.trod enc Try.prog w base (fun _ => true) held m 3 ((cs.drop 18).take (Try.prog.cellsOf 3)) = xs[1]? := hel 1 _ rfl
  have e2 : DataW.trod enc Try.prog w base (fun _ => true) held m 67 ((cs.drop 19).take (Try.prog.cellsOf 67)) = xs[2]? := hel 2 _ rfl
  have e3 : DataW.trod enc Try.prog w base (fun _ => true) held m 68 ((cs.drop 20).take (Try.prog.cellsOf 68)) = xs[3]? := hel 3 _ rfl
  rw [hc18] at e0
  rw [hci] at e1
  rw [hcu] at e2
  rw [hcs] at e3
  have hx3 : xs[3]? = some (xs[3]'(by omega)) := List.getElem?_eq_getElem (by omega)
  rw [List.getElem?_eq_getElem (by omega)] at e0 e1 e2 e3
  obtain ⟨p, hp, hk⟩ := pv_cells e0
  obtain ⟨a1, f1, _, w1⟩ := DataW.trod_int Try.underlying3 e1
  obtain ⟨a2, f2, _, w2⟩ := DataW.trod_int Try.underlying67 e2
  obtain ⟨A, len, cap, L, f3, r1, r2, r3, r4, r5⟩ := open_recsW (C := hopC) (Ok := HpOk) Try.underlying68 (s := 7) (bs := 16) (by kernel_rfl) (by kernel_rfl) (by decide) (fun y => rfl) (fun n cs x hx hw => hop_cells hx)
    ⟨hp0, fun i => show (0 : Int) ≤ 0 ∧ (0 : Int) ≤ 255 from by omega⟩ e3 (fun n hn' => hsz n (by
      rw [hd]
      simp only [DataW.weights, Try.underlying70]
      exact DataW.weights_mem_each (j := 3) (t := 68) (d := (xs[3]'(by omega)).1) rfl (by simp [hx3]) n hn'))
  refine ⟨⟨⟨p, a1, a2, len, L⟩, A, cap⟩, ?_, ⟨hk.2.2, r2⟩, ⟨r1, by show len ≤ 8796093021952; omega, r3⟩⟩
  have c1 : cs[18]? = some (.int .i64 a1) := by
    have := congrArg (·[0]?) f1
    simpa [List.getElem?_take, List.getElem?_drop] using this
  have c2 : cs[19]? = some (.int .u32 a2) := by
    have := congrArg (·[0]?) f2
    simpa [List.getElem?_take, List.getElem?_drop] using this
  have c3 : cs[20]? = some (.slice A len cap) := by
    have := congrArg (·[0]?) f3
    simpa [List.getElem?_take, List.getElem?_drop] using this
  apply List.ext_getElem?
  intro i
  rcases Nat.lt_or_ge i 21 with h | h
  · rcases (by omega : i = 18 ∨ i = 19 ∨ i = 20 ∨ i < 18) with rfl | rfl | rfl | h1
    · rw [c1]; rfl
    · rw [c2]; rfl
    · rw [c3]; rfl
    · have h3 := congrArg (·[i]?) hp
      simp only [List.getElem?_take, List.getElem?_drop] at h3
      rw [if_pos h1, Nat.zero_add] at h3
      rw [h3, Array.getElem?_toList, Array.getElem?_toList]
      exact (rx_pre ⟨⟨p, a1, a2, len, L⟩, A, cap⟩ i h1).symm
  · rw [List.getElem?_eq_none (by omega), List.getElem?_eq_none (by rw [Array.length_toList]; exact h)]
/-- a list of routes as it lies in memory -/
def InRx (w : World) (a : Option Addr) (len cap : Nat) (X : Nat → Rx) : Prop := RdR w a len 21 (fun j => rxC (X j)) ∧ (∀ j, RxIn w (X j)) ∧ (a = none → len = 0 ∧ cap = 0) ∧ len ≤ cap ∧ cap ≤ 140737488351232
theorem open_rts {H : Type} {enc : TypeId × Value → H} {w : World} {base : Nat} {held : Bool} {a : Option Addr} {len cap : Nat} {d : DataW H} {ps : List MemPlace} (h : DataW.Trod enc Try.prog w base (fun _ => true) held 60 (.slice a len cap) d ps) (hsz : ∀ n ∈ d.weights Try.prog 60, n ≤ 140737488351232) : ∃ X, InRx w a len cap X := by
  obtain ⟨fuel, hf⟩ := h
  obtain ⟨a', len', cap', L, he, r1, r2, r3, r4, r5⟩ := open_recsW (C := rxC) (Ok := RxIn w) Try.underlying60 (s := 21) (bs := Try.prog.bytesOf 70) (by kernel_rfl) rfl (by decide) (fun y => rfl) (fun n cs x hx hw => rt_cells hx hw)
    ⟨rx0, ⟨fun j => show (0 : Int) ≤ 0 ∧ (0 : Int) ≤ 255 from by omega, fun j i => show (0 : Int) ≤ 0 ∧ (0 : Int) ≤ 255 from by omega⟩, ⟨.inl rfl, by decide, fun _ => ⟨rfl, rfl⟩⟩⟩ hf hsz
  simp [Value.cells] at he
  obtain ⟨rfl, rfl, rfl⟩ := he
  have hb : 1 ≤ Try.prog.bytesOf 70 := of_decide_eq_true (by kernel_rfl)
  exact ⟨L, r1, r2, r3, r4, by have := Nat.mul_le_mul_left cap hb; omega⟩
end Go.Proofs.Ytjnbemopfhinbaa
