/- Lists of rows of bytes that a call reads or makes: what is known of them. Each theorem states its conditions. -/
import Derived.Test.YthmnbhmficdifaaASame
import Derived.Deep.QuietTactic
import Derived.Deep.RegionWith
import Derived.BigQuiet
namespace Go.Proofs.Ythmnbhmficdifaa
open Go.RowKit
set_option linter.unusedVariables false

/-- one of a list: where it lies, how many bytes, the room, the bytes -/
structure Sl where
  A : Option Addr
  n : Nat
  c : Nat
  z : Nat → Int
def SlOk (w : World) (t : Sl) : Prop := Rd w t.A t.n t.z ∧ (t.A = none → t.n = 0 ∧ t.c = 0) ∧ t.n ≤ 140737488351232
/-- m of them, from ⟨b, off⟩ on -/
def RowS (w : World) (b off m : Nat) (L : Nat → Sl) : Prop :=
  b < w.heap.size ∧ ∀ j, j < m → w.cell? ⟨b, off + j, none⟩ = some (.slice (L j).A (L j).n (L j).c) ∧ SlOk w (L j)
/-- a list that can be read -/
def RdS (w : World) (A : Option Addr) (m : Nat) (L : Nat → Sl) : Prop := m = 0 ∨ ∃ b off, A = some ⟨b, off, none⟩ ∧ RowS w b off m L
theorem SlOk.below {w w' : World} {t : Sl} (h : SlOk w t) (hb : Below w.heap.size w w') : SlOk w' t := ⟨h.1.below hb rfl, h.2⟩
theorem RowS.below {w w' : World} {b off m : Nat} {L : Nat → Sl} (h : RowS w b off m L) (hb : Below w.heap.size w w') : RowS w' b off m L := by
  refine ⟨?_, fun j hj => ?_⟩
  · have := hb.size; have := h.1; omega
  · obtain ⟨h1, h3⟩ := h.2 j hj
    exact ⟨(hb.cell (p := ⟨b, off + j, none⟩) h.1).trans h1, h3.below hb⟩
theorem RdS.below {w w' : World} {A : Option Addr} {m : Nat} {L : Nat → Sl} (h : RdS w A m L) (hb : Below w.heap.size w w') : RdS w' A m L := by
  rcases h with h | ⟨b, off, rfl, h⟩
  · exact .inl h
  · exact .inr ⟨b, off, rfl, h.below hb⟩
theorem RdS.row {w : World} {A : Option Addr} {m : Nat} {L : Nat → Sl} (h : RdS w A m L) (hm : 0 < m) : ∃ b off, A = some ⟨b, off, none⟩ ∧ RowS w b off m L := by
  rcases h with h | h
  · omega
  · exact h
theorem RdS.cut {w : World} {A : Option Addr} {m k : Nat} {L : Nat → Sl} (h : RdS w A m L) (hk : k ≤ m) : RdS w A k L := by
  rcases h with h | ⟨b, off, rfl, h⟩
  · exact .inl (by omega)
  · exact .inr ⟨b, off, rfl, h.1, fun j hj => h.2 j (by omega)⟩
theorem Rd.draws {w : World} {A : Option Addr} {n : Nat} {z : Nat → Int} (h : Rd w A n z) (k : Nat) : Rd (w.drewN k) A n z := h

/-- alike bytes -/
def sameS (a b : Sl) : Prop := a.n = b.n ∧ ∀ i, i < a.n → a.z i = b.z i
theorem sameS.symm {a b : Sl} (h : sameS a b) : sameS b a := ⟨h.1.symm, fun i hi => (h.2 i (by have := h.1; omega)).symm⟩
theorem sameS.trans {a b c : Sl} (h : sameS a b) (h' : sameS b c) : sameS a c := ⟨h.1.trans h'.1, fun i hi => (h.2 i hi).trans (h'.2 i (by have := h.1; omega))⟩

set_option maxHeartbeats 1000000 in
theorem sameAreas_yes (A B : Option Addr) (m c d : Nat) (L L' : Nat → Sl) (w : World) (ha : RdS w A m L) (hb : RdS w B m L')
    (he : ∀ j, j < m → sameS (L j) (L' j)) (hm : m ≤ 9223372036854775807) :
    Calls Try.prog 15 #[.slice A m c, .slice B m d] w fun e w' => e = .returned (.bool true) ∧ ∃ k, w' = w.drewN k := by
  rcases Nat.eq_zero_or_pos m with rfl | hn
  · clear ha hb he
    go_enter Try.func15, Try.ntmps15
    go_wp2
    refine wp_loop_rounds 1 ?_
    rw [rounds_succ]
    go_wp2
    go_ret
    exact ⟨rfl, 0, rfl⟩
  · obtain ⟨b, off, rfl, hr⟩ := ha.row hn
    obtain ⟨b', off', rfl, hr'⟩ := hb.row hn
    have HR := Lib.hid hr
    have HR' := Lib.hid hr'
    have HE := Lib.hid he
    clear ha hb hr hr' he
    go_enter Try.func15, Try.ntmps15
    go_wp2
    go_loopw [13] (fun t wr => ∃ k r : Nat, k ≤ m ∧ t = .int .i64 k ∧ Hid (wr = w.drewN r)) (fun t _ => m - (intOf t).toNat)
    case atStart => exact ⟨0, 0, by omega, rfl, Lib.hid rfl⟩
    case round =>
      obtain ⟨k, r, hk, rfl, hw⟩ := hrel
      by_cases hlt : k < m
      · have h1 : RowS wr b off m L := by rw [hw.out]; exact HR.out
        have h2 : RowS wr b' off' m L' := by rw [hw.out]; exact HR'.out
        obtain ⟨g1, g3⟩ := h1.2 k hlt
        obtain ⟨g1', g3'⟩ := h2.2 k hlt
        obtain ⟨e2, e3⟩ := HE.out k hlt
        have H := Lib.hid (fun (q : Nat) c d => same_yes (L k).A (L' k).A (L k).n c d (L k).z (L' k).z (wr.drewN q) (Rd.draws g3.1 q) (Rd.draws (by rw [e2]; exact g3'.1) q) e3 (by have := g3.2.2; omega))
        rw [← e2] at g1'
        clear h1 h2 e2 e3 g3 g3'
        go_wp2_with fail
        go_quiet (first | (go_at_call 22; exact Calls.quiet_of (H.out _ _ _)))
        go_wp2
        go_roundw
        case rel => exact ⟨k + 1, r + nq, by omega, by go_num, Lib.hid (by rw [hw.out, World.drewN_drewN])⟩
        case measure => simp [intOf]; omega
      · obtain rfl : k = m := by omega
        go_wp2
        go_ret
        exact ⟨rfl, r, hw.out⟩

/-- the cells of the first m -/
def cellsS (L : Nat → Sl) : Nat → List Value
  | 0 => []
  | m + 1 => cellsS L m ++ [.slice (L m).A (L m).n (L m).c]
theorem cellsS_len (L : Nat → Sl) (m : Nat) : (cellsS L m).length = m := by
  induction m with
  | zero => rfl
  | succ m ih => simp [cellsS, ih]
theorem cellsS_at (L : Nat → Sl) (m j : Nat) (h : j < m) : (cellsS L m)[j]? = some (.slice (L j).A (L j).n (L j).c) := by
  induction m with
  | zero => omega
  | succ m ih =>
    have hl := cellsS_len L m
    simp only [cellsS]
    by_cases e : j = m
    · subst e
      rw [List.getElem?_append_right (by omega), hl]
      simp
    · rw [List.getElem?_append_left (by omega)]
      exact ih (by omega)
/-- item k is another one -/
def updS (L : Nat → Sl) (k : Nat) (t : Sl) : Nat → Sl := fun j => if j = k then t else L j
theorem updS_same (L : Nat → Sl) (k : Nat) (t : Sl) : updS L k t k = t := by simp [updS]
theorem updS_other (L : Nat → Sl) (k j : Nat) (t : Sl) (h : j ≠ k) : updS L k t j = L j := by simp [updS, h]
theorem cellsS_congr (L L' : Nat → Sl) (m : Nat) (h : ∀ j, j < m → (L j).A = (L' j).A ∧ (L j).n = (L' j).n ∧ (L j).c = (L' j).c) : cellsS L m = cellsS L' m := by
  induction m with
  | zero => rfl
  | succ m ih =>
    obtain ⟨h2, h3, h4⟩ := h m (by omega)
    simp only [cellsS, h2, h3, h4]
    rw [ih (fun j hj => h j (by omega))]
theorem cellsS_push (L : Nat → Sl) (k : Nat) (t : Sl) : cellsS (updS L k t) (k + 1) = cellsS L k ++ [.slice t.A t.n t.c] := by
  simp only [cellsS, updS_same]
  rw [cellsS_congr (updS L k t) L k (fun j hj => by rw [updS_other _ _ _ _ (by omega)]; exact ⟨rfl, rfl, rfl⟩)]
/-- a value of the call's own: none, or its bytes lie in a block of the call's own -/
def OwnV (w : World) (base : Nat) (t : Sl) : Prop :=
  t.n ≤ 140737488351232 ∧ ((t.A = none ∧ t.n = 0 ∧ t.c = 0 ∧ ∀ j, 0 ≤ t.z j ∧ t.z j ≤ 255) ∨ ∃ g, t.A = some ⟨g, 0, none⟩ ∧ base ≤ g ∧ Own8 w g t.n t.c t.z)
/-- a list of the call's own -/
def OwnS (w : World) (base : Nat) (v : Value) (m : Nat) (L : Nat → Sl) : Prop :=
  w.ownsRow base 49 1 v m (cellsS L m) ∧ ∀ j, j < m → OwnV w base (L j)
section
variable {w w' : World} {base m : Nat} {v : Value} {L : Nat → Sl} {t : Sl}
theorem OwnV.below (h : OwnV w base t) (hb : Below w.heap.size w w') : OwnV w' base t := by
  obtain ⟨h2, h | ⟨g, h3, h4, h5⟩⟩ := h
  · exact ⟨h2, .inl h⟩
  · exact ⟨h2, .inr ⟨g, h3, h4, h5.below hb h5.lt⟩⟩
theorem OwnV.ok (h : OwnV w base t) : SlOk w t := by
  obtain ⟨h2, ⟨h, h1, h3, h4⟩ | ⟨g, h3, h4, h5⟩⟩ := h
  · exact ⟨⟨.inl h1, h4⟩, fun _ => ⟨h1, h3⟩, h2⟩
  · refine ⟨⟨.inr ⟨g, 0, h3, h5.row⟩, h5.2⟩, fun e => ?_, h2⟩
    rw [h3] at e; cases e
theorem ownsRow_below {e : TypeId} {s : Nat} {xs : List Value} (h : w.ownsRow base e s v m xs) (hb : Below w.heap.size w w') : w'.ownsRow base e s v m xs := by
  refine ⟨h.1, ?_⟩
  rcases h.2 with h | ⟨g, cap, cur, hv, hg, hc, r⟩
  · exact .inl h
  · exact .inr ⟨g, cap, cur, hv, hg, (hb.block g (Array.getElem?_eq_some_iff.1 hc).1).trans hc, r⟩
theorem OwnS.below (h : OwnS w base v m L) (hb : Below w.heap.size w w') : OwnS w' base v m L :=
  ⟨ownsRow_below h.1 hb, fun j hj => (h.2 j hj).below hb⟩
theorem OwnS.nil (w : World) (base : Nat) (L : Nat → Sl) : OwnS w base (.slice none 0 0) 0 L := ⟨World.ownsRow_nil _ _ _ _, fun j hj => by omega⟩
theorem ownV_grown {v' : Value} {xs : List Value} {n : Nat} (h : OwnV w base t) (hr : w.ownsRow base 49 1 v n xs) (hg : w.grownBy w' v.ownBlock) : OwnV w' base t := by
  obtain ⟨h2, h | ⟨g, h3, h4, h5⟩⟩ := h
  · exact ⟨h2, .inl h⟩
  refine ⟨h2, .inr ⟨g, h3, h4, h5.grown hg ?_⟩⟩
  intro e
  obtain ⟨⟨cur, hc, _⟩, _⟩ := h5
  rcases hr.2 with ⟨rfl, _⟩ | ⟨g', cap, cur', rfl, _, hc', _⟩
  · cases e
  · simp [Value.ownBlock] at e
    subst e
    rw [hc] at hc'
    simp at hc'
/-- behind an append of one more -/
theorem OwnS.push {v' : Value} {k : Nat} (h : OwnS w base v k L) (ht : OwnV w base t) (hr : w'.ownsRow base 49 1 v' (k + 1) (cellsS L k ++ [.slice t.A t.n t.c])) (hg : w.grownBy w' v.ownBlock) :
    OwnS w' base v' (k + 1) (updS L k t) := by
  refine ⟨by rw [cellsS_push]; exact hr, fun j hj => ?_⟩
  by_cases e : j = k
  · subst e
    rw [updS_same]
    exact ownV_grown (v' := v') ht h.1 hg
  · rw [updS_other _ _ _ _ e]
    exact ownV_grown (v' := v') (h.2 j (by omega)) h.1 hg
theorem OwnS.shape (h : OwnS w base v m L) : ∃ A c, v = .slice A m c ∧ m ≤ c ∧ c ≤ maxLen ∧ (A = none → m = 0 ∧ c = 0) ∧ RdS w A m L := by
  have hi : ∀ j, j < m → SlOk w (L j) := fun j hj => (h.2 j hj).ok
  rcases h.1.2 with ⟨rfl, rfl⟩ | ⟨g, cap, cur, rfl, hb, hc, h1, h2, h3, h4⟩
  · exact ⟨none, 0, rfl, Nat.le_refl _, by decide, fun _ => ⟨rfl, rfl⟩, .inl rfl⟩
  · refine ⟨some ⟨g, 0, none⟩, cap, rfl, h1, h2, fun e => (by cases e), .inr ⟨g, 0, rfl, (Array.getElem?_eq_some_iff.1 hc).1, fun j hj => ⟨?_, hi j hj⟩⟩⟩
    have hx := cellsS_at L m j hj
    rw [← h4] at hx
    rw [List.getElem?_take, if_pos (by omega)] at hx
    rw [Nat.zero_add, cell_of_row w g _ cur _ (0, 0) hc]; simpa using hx
end
theorem info_sl : (Try.prog.info? 49).map (fun i => (i.zero, i.size, i.bytes)) = some (some (.slice none 0 0), 1, 24) := by kernel_rfl
end Go.Proofs.Ythmnbhmficdifaa
