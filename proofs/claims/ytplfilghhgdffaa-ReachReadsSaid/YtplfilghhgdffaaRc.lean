/- Prefixes that are told: their cells, their bytes. putLength, needed. Each theorem states its conditions. -/
import Derived.Test.YtplfilghhgdffaaGets
import Derived.Test.YtplfilghhgdffaaPCheck
namespace Go.Proofs.Ytplfilghhgdffaa
open Go.RowKit
set_option linter.unusedVariables false

/-- a prefix that is told: its family, its length, its address, its metric, whether it was told down -/
structure Rc where
  fam : Int
  len : Int
  z : Nat → Int
  me : Nat
  dn : Bool
def RcOk (r : Rc) : Prop := Bytes r.z ∧ (0 ≤ r.fam ∧ r.fam ≤ 255) ∧ r.me ≤ 4294967295
/-- its cells -/
def rcC (r : Rc) : Array Value := #[.int .u8 r.fam, .int .i64 r.len, .int .u8 (r.z 0), .int .u8 (r.z 1), .int .u8 (r.z 2), .int .u8 (r.z 3), .int .u8 (r.z 4), .int .u8 (r.z 5), .int .u8 (r.z 6), .int .u8 (r.z 7), .int .u8 (r.z 8), .int .u8 (r.z 9), .int .u8 (r.z 10), .int .u8 (r.z 11), .int .u8 (r.z 12), .int .u8 (r.z 13), .int .u8 (r.z 14), .int .u8 (r.z 15), .int .u32 (r.me : Int), .bool r.dn]
theorem rcC_size (r : Rc) : (rcC r).size = 20 := rfl
theorem rcC_all (r : Rc) : (rcC r).all (·.oneCell') = true := by simp [rcC, Value.oneCell']
theorem rcC_one (r : Rc) : ∀ u ∈ (rcC r).toList, u.oneCell' = true := by
  have := rcC_all r
  rw [Array.all_eq_true] at this
  intro u hu
  obtain ⟨i, hi, rfl⟩ := List.mem_iff_getElem.1 hu
  exact this i (by simpa using hi)
def rcA (L : Nat → Rc) : Nat → Array Value := fun j => rcC (L j)
theorem recs_rc (L : Nat → Rc) : Recs 20 (rcA L) := fun j => ⟨rfl, rcC_one (L j)⟩
theorem rcC_pv (r : Rc) (j : Nat) (h : j < 18) : (rcC r)[j]? = (pvC r.fam r.len r.z)[j]? := by
  rcases (by omega : j = 0 ∨ j = 1 ∨ j = 2 ∨ j = 3 ∨ j = 4 ∨ j = 5 ∨ j = 6 ∨ j = 7 ∨ j = 8 ∨ j = 9 ∨ j = 10 ∨ j = 11 ∨ j = 12 ∨ j = 13 ∨ j = 14 ∨ j = 15 ∨ j = 16 ∨ j = 17) with rfl | rfl | rfl | rfl | rfl | rfl | rfl | rfl | rfl | rfl | rfl | rfl | rfl | rfl | rfl | rfl | rfl | rfl <;> rfl
theorem rcC_z (r : Rc) (j : Nat) (h : j < 16) : (rcC r)[2 + j]? = some (.int .u8 (r.z j)) := by rw [rcC_pv r (2 + j) (by omega)]; exact pvC_at r.fam r.len r.z j h

/-- block b holds it -/
def IsRc (w : World) (b : Nat) (r : Rc) : Prop := w.heap[b]? = some (.cells (rcC r) 47 (0, 0))
section
variable {w w' : World} {b B : Nat} {r : Rc}
theorem IsRc.new (w : World) (r : Rc) : IsRc (w.alloc (.cells (rcC r) 47)) w.heap.size r := heap_alloc_new w _
theorem IsRc.lt (h : IsRc w b r) : b < w.heap.size := (Array.getElem?_eq_some_iff.1 h).1
theorem IsRc.below (h : IsRc w b r) (hb : Below B w w') (hB : b < B) : IsRc w' b r := (hb.block b hB).trans h
theorem IsRc.at (h : IsRc w b r) (j : Nat) : w.cell? ⟨b, j, none⟩ = (rcC r)[j]? := cell_of_row w b j _ _ _ h
theorem IsRc.range (h : IsRc w b r) : w.rangeAt b 0 (rcC r).toList := by
  intro j v hv
  rw [Nat.zero_add, h.at]
  simpa using hv
theorem IsRc.pv (h : IsRc w b r) : w.rangeAt b 0 (pvC r.fam r.len r.z).toList := by
  intro j v hv
  have hj : j < 18 := by
    rcases Nat.lt_or_ge j 18 with h | h
    · exact h
    · rw [List.getElem?_eq_none (by rw [Array.length_toList, pvC_size]; omega)] at hv; cases hv
  rw [Nat.zero_add, h.at, rcC_pv r j hj]
  simpa using hv
theorem IsRc.fam (h : IsRc w b r) : w.cell? ⟨b, 0, none⟩ = some (.int .u8 r.fam) := h.at 0
theorem IsRc.len (h : IsRc w b r) : w.cell? ⟨b, 1, none⟩ = some (.int .i64 r.len) := h.at 1
theorem IsRc.me (h : IsRc w b r) : w.cell? ⟨b, 18, none⟩ = some (.int .u32 (r.me : Int)) := h.at 18
theorem IsRc.dn (h : IsRc w b r) : w.cell? ⟨b, 19, none⟩ = some (.bool r.dn) := h.at 19
theorem IsRc.news (h : IsRc w b r) (n : Nat) (hn : n ≤ 16) : ∀ j u, (vals r.z n)[j]? = some u → w.cell? ((⟨b, 2, none⟩ : Addr).add j) = some u := by
  intro j u hu
  obtain ⟨hj, rfl⟩ := vals_at' r.z n j u hu
  rw [add_none, h.at, rcC_z r j (by omega)]
end
theorem info_rc : (Try.prog.info? 47).map (·.size) = some 20 := by kernel_rfl
theorem hi_rc (r : Rc) : (Try.prog.info? 47).map (·.size) = some (rcC r).toList.length := by rw [info_rc]; rfl
section
variable {ops : Array Oper} {rest : List Oper} {op : Oper} {a : Act} {w : World} {Q : Exit → Act → World → Prop} {b : Nat} {r : Rc}
theorem load_rc (hgd : op.guard = none) (x : Operand) (ho : op.op = .load 47 x) (hx : a.eval x = .pointer (some ⟨b, 0, none⟩)) (hc : IsRc w b r)
    (h : wpList Try.prog ops Q rest (a.put op.dst (.agg (rcC r))) w) : wpList Try.prog ops Q (op :: rest) a w :=
  wpList_load_mid hgd 47 x ho b 0 hx (rcC r).toList _ hc.range Try.underlying47 rfl (hi_rc r) (by simpa using h)
end

/-- bytes that so many bits need -/
def nd (len : Int) : Nat := ((len + 7) / 8).toNat
theorem nd_le (len : Int) (h0 : 0 ≤ len) (h : len ≤ 128) : nd len ≤ 16 := by unfold nd; omega
theorem needed_any (len : Int) (w : World) (h0 : 0 ≤ len) (h : len ≤ 255) : Calls Try.prog 30 #[.int .i64 len] w fun e w' => e = .returned (.int .i64 (nd len : Int)) ∧ w = w' := by
  have e : Hid ((len + 7) / 8 = (nd len : Int)) := Lib.hid (by unfold nd; omega)
  go_enter Try.func30, Try.ntmps30
  go_wp2
  go_ret
  exact ⟨by rw [e.out]; rfl, rfl⟩

def flagI (dn : Bool) : Int := if dn then 128 else 0
/-- the bytes between the metric and the address -/
def lenL (r : Rc) : List Value := if r.fam = 4 then [.int .u8 (flagI r.dn + r.len)] else [.int .u8 (flagI r.dn), .int .u8 r.len]
theorem lenL_one (r : Rc) : ∀ u ∈ lenL r, u.oneCell' = true := by
  intro u hu; unfold lenL at hu
  split at hu <;> simp only [List.mem_cons, List.not_mem_nil, or_false] at hu
  · subst hu; rfl
  · rcases hu with rfl | rfl <;> rfl
def PLPost (w : World) (r : Rc) (e : Ending) (w' : World) : Prop :=
  ∃ g, e = .returned (.slice (some ⟨g, 0, none⟩) (lenL r).length (lenL r).length) ∧ w.heap.size ≤ g ∧ w'.heap[g]? = some (.cells (lenL r).toArray 5 (0, 0)) ∧ Below w.heap.size w w'
theorem or_len (len : Int) (h0 : 0 ≤ len) (h : len ≤ 127) : bits .or .u8 128 len = 128 + len ∧ bits .or .u8 0 len = len := by
  obtain ⟨n, rfl⟩ := Int.eq_ofNat_of_zero_le h0
  have hn : n < 128 := by omega
  have key : ∀ n : Nat, n < 128 → bits .or .u8 128 (n : Int) = 128 + (n : Int) ∧ bits .or .u8 0 (n : Int) = (n : Int) := by decide +kernel
  exact key n hn
theorem pl_end (w : World) (r : Rc) (C D : Array Value) (k : Nat) (hD : D = (lenL r).toArray) (hk : k = (lenL r).length) :
    PLPost w r (.returned (.slice (some ⟨w.heap.size + 1, 0, none⟩) k k)) ((w.alloc (.cells C 47)).alloc (.cells D 5)) := by
  subst hD hk
  refine ⟨_, rfl, by omega, ?_, ((bself w).alloc (Nat.le_refl _) _).alloc (by simp) _⟩
  have := heap_alloc_new (w.alloc (.cells C 47)) (.cells (lenL r).toArray 5)
  rw [World.size_alloc] at this
  exact this
theorem putLength_any (r : Rc) (w : World) (hs : Sized r.fam r.len) : Calls Try.prog 29 #[.agg (rcC r)] w (PLPost w r) := by
  have c0 : (rcC r)[0]? = some (.int .u8 r.fam) := rfl
  have c1 : (rcC r)[1]? = some (.int .i64 r.len) := rfl
  have c2 : (rcC r)[19]? = some (.bool r.dn) := rfl
  have hC : Hid ((rcC r).size = 20) := Lib.hid rfl
  have HL := Lib.hid (pl_end w r (rcC r))
  rcases hs with ⟨h4, hl0, hl⟩ | ⟨h6, hl0, hl⟩
  · obtain ⟨o1, o2⟩ := or_len r.len hl0 (by omega)
    rw [h4] at c0
    have H4 := Lib.hid h4
    clear h4
    cases hd : r.dn
    · rw [hd] at c2
      have HD := Lib.hid hd
      clear hd o1
      go_enter Try.func29, Try.ntmps29
      go_wp2
      trace_state
      go_ret
      exact HL.out _ _ (by unfold lenL; rw [if_pos H4.out, HD.out]; simp [flagI]) (by unfold lenL; rw [if_pos H4.out]; rfl)
    · rw [hd] at c2
      have HD := Lib.hid hd
      clear hd o2
      go_enter Try.func29, Try.ntmps29
      go_wp2
      go_ret
      exact HL.out _ _ (by unfold lenL; rw [if_pos H4.out, HD.out]; simp [flagI]) (by unfold lenL; rw [if_pos H4.out]; rfl)
  · rw [h6] at c0
    have H6 := Lib.hid h6
    clear h6
    cases hd : r.dn
    · rw [hd] at c2
      have HD := Lib.hid hd
      clear hd
      go_enter Try.func29, Try.ntmps29
      go_wp2
      go_ret
      exact HL.out _ _ (by unfold lenL; rw [if_neg (by rw [H6.out]; decide), HD.out]; simp [flagI]) (by unfold lenL; rw [if_neg (by rw [H6.out]; decide)]; rfl)
    · rw [hd] at c2
      have HD := Lib.hid hd
      clear hd
      go_enter Try.func29, Try.ntmps29
      go_wp2
      go_ret
      exact HL.out _ _ (by unfold lenL; rw [if_neg (by rw [H6.out]; decide), HD.out]; simp [flagI]) (by unfold lenL; rw [if_neg (by rw [H6.out]; decide)]; rfl)
end Go.Proofs.Ytplfilghhgdffaa
