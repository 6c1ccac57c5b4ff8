/- Texts of this claim put together; each theorem states its conditions. -/
import Derived.Test.YtkiaijmhoikdiaaGStoreMerges1
import Derived.Stop.BytesEq
import Derived.Laws.IdiomStrings
import Derived.Test.YtkiaijmhoikdiaaRows
import Derived.Deep.Slices
import Derived.OpenShut
import Derived.ProofKit
import Derived.SizedLaws
/- pdu's fields, size, ahead, head, isState. Each theorem states its conditions. -/
namespace Go.Proofs.Ytkiaijmhoikdiaa
open Go.RowKit
set_option linter.unusedVariables false

theorem fields_any (k : Int) (q : Nat) (hk : cls k = q) (hq : q ≤ 4) (w : World) : Calls Try.prog 103 #[.int .u8 k] w fun e w' => e = .returned (.slice (some ⟨w.heap.size, 0, none⟩) (flC q).length (flC q).length) ∧ w'.heap[w.heap.size]? = some (.cells (flA q) 165 (0, 0)) ∧ Below w.heap.size w w' := by
  subst hk
  have hk : k = 17 ∨ k = 15 ∨ k = 16 ∨ k = 18 ∨ k = 20 ∨ k = 24 ∨ k = 25 ∨ k = 26 ∨ k = 27 := by unfold cls at hq; (repeat' split at hq) <;> omega
  clear hq
  rcases hk with rfl | rfl | rfl | rfl | rfl | rfl | rfl | rfl | rfl
  · go_enter Try.func103, Try.ntmps103
    go_wp2
    go_ret
    exact ⟨rfl, heap_alloc_new w _, (bself w).alloc (Nat.le_refl _) _⟩
  · go_enter Try.func103, Try.ntmps103
    go_wp2
    go_ret
    exact ⟨rfl, heap_alloc_new w _, (bself w).alloc (Nat.le_refl _) _⟩
  · go_enter Try.func103, Try.ntmps103
    go_wp2
    go_ret
    exact ⟨rfl, heap_alloc_new w _, (bself w).alloc (Nat.le_refl _) _⟩
  · go_enter Try.func103, Try.ntmps103
    go_wp2
    go_ret
    exact ⟨rfl, heap_alloc_new w _, (bself w).alloc (Nat.le_refl _) _⟩
  · go_enter Try.func103, Try.ntmps103
    go_wp2
    go_ret
    exact ⟨rfl, heap_alloc_new w _, (bself w).alloc (Nat.le_refl _) _⟩
  · go_enter Try.func103, Try.ntmps103
    go_wp2
    go_ret
    exact ⟨rfl, heap_alloc_new w _, (bself w).alloc (Nat.le_refl _) _⟩
  · go_enter Try.func103, Try.ntmps103
    go_wp2
    go_ret
    exact ⟨rfl, heap_alloc_new w _, (bself w).alloc (Nat.le_refl _) _⟩
  · go_enter Try.func103, Try.ntmps103
    go_wp2
    go_ret
    exact ⟨rfl, heap_alloc_new w _, (bself w).alloc (Nat.le_refl _) _⟩
  · go_enter Try.func103, Try.ntmps103
    go_wp2
    go_ret
    exact ⟨rfl, heap_alloc_new w _, (bself w).alloc (Nat.le_refl _) _⟩
theorem size_any (f : Nat) (hf : f ≤ 14) (w : World) : Calls Try.prog 107 #[.int .i64 (f : Int)] w fun e w' => e = .returned (.int .i64 (fsz f : Nat)) ∧ w = w' := by
  rcases (by omega : f = 0 ∨ f = 1 ∨ f = 2 ∨ f = 3 ∨ f = 4 ∨ f = 5 ∨ f = 6 ∨ f = 7 ∨ f = 8 ∨ f = 9 ∨ f = 10 ∨ f = 11 ∨ f = 12 ∨ f = 13 ∨ f = 14) with rfl | rfl | rfl | rfl | rfl | rfl | rfl | rfl | rfl | rfl | rfl | rfl | rfl | rfl | rfl <;>
  · go_enter Try.func107, Try.ntmps107
    go_wp2
    go_ret
    exact ⟨rfl, rfl⟩
/-- the list of a kind's fields lies at g -/
def FlAt (w : World) (g q : Nat) : Prop := w.heap[g]? = some (.cells (flA q) 165 (0, 0))
theorem FlAt.cell {w : World} {g q i : Nat} (h : FlAt w g q) (hi : i < (flC q).length) : w.cell? ⟨g, i, none⟩ = some (.int .i64 ((fAt q i : Nat) : Int)) := by
  rw [cell_of_row w g i _ _ _ h]
  exact flA_at q i hi
theorem FlAt.below {w w' : World} {g q : Nat} (h : FlAt w g q) (hb : Below w.heap.size w w') : FlAt w' g q := (hb.block g (Array.getElem?_eq_some_iff.1 h).1).trans h
theorem ahead_any (g q : Nat) (hq : q ≤ 4) (w : World) (h : FlAt w g q) : Calls Try.prog 104 #[.slice (some ⟨g, 0, none⟩) (flC q).length (flC q).length] w fun e w' => e = .returned (.int .i64 (hdN q : Nat)) ∧ w = w' := by
  have HF := Lib.hid h
  have hl := fl_len q hq
  have HD : Hid (accN q (flC q).length = hdN q) := Lib.hid rfl
  obtain ⟨n, hn⟩ : ∃ n, (flC q).length = n := ⟨_, rfl⟩
  have HN := Lib.hid hn
  rw [hn] at hl HD ⊢
  clear h hn
  go_enter Try.func104, Try.ntmps104
  go_wp2_with fail
  go_loop [3, 8] (fun s t => ∃ i : Nat, i ≤ n ∧ t = .int .i64 i ∧ s = .int .i64 (accN q i : Nat)) (fun _ t => n - (intOf t).toNat)
  case atStart => exact ⟨0, Nat.zero_le _, rfl, rfl⟩
  case round =>
    obtain ⟨i, hi, rfl, rfl⟩ := hrel
    by_cases hlt : i < n
    · have ci := HF.out.cell (i := i) (by rw [HN.out]; exact hlt)
      have hb := accN_bd q i
      have hs : Hid (accN q (i + 1) = accN q i + fsz (fAt q i)) := Lib.hid rfl
      have hf := fAt_le q i hq
      have hfz := fsz_bd (fAt q i)
      obtain ⟨f, hf'⟩ : ∃ f, fAt q i = f := ⟨_, rfl⟩
      rw [hf'] at ci hs hf hfz
      clear hf'
      have HS := Lib.hid (size_any f hf)
      go_wp2_with fail
      refine (HS.out _).mono ?_
      rintro e w1 ⟨rfl, rfl⟩
      go_wp2_with fail
      go_round
      case rel => exact ⟨i + 1, by omega, by go_num, by rw [hs.out]; go_num⟩
      case measure => simp [intOf]; omega
    · obtain rfl : i = n := by omega
      rw [HD.out]
      go_wp2_with fail
      go_ret
      exact ⟨rfl, rfl⟩
theorem head_new (w : World) (k : Int) (n : Nat) : Own8 (w.alloc (.cells #[.int .u8 131, .int .u8 (n : Int), .int .u8 1, .int .u8 0, .int .u8 k, .int .u8 1, .int .u8 0, .int .u8 0] 5)) w.heap.size 8 8 (headZ k n) ↔ ∀ j, 0 ≤ headZ k n j ∧ headZ k n j ≤ 255 := by
  refine ⟨fun h => h.2, fun h => ⟨⟨_, heap_alloc_new w _, Nat.le_refl _, by decide, rfl, fun j hj => ?_⟩, h⟩⟩
  rcases (by omega : j = 0 ∨ j = 1 ∨ j = 2 ∨ j = 3 ∨ j = 4 ∨ j = 5 ∨ j = 6 ∨ j = 7) with rfl | rfl | rfl | rfl | rfl | rfl | rfl | rfl <;> rfl
theorem head_any (k : Int) (n : Nat) (hk : by1 k) (hn : n ≤ 255) (w : World) : Calls Try.prog 106 #[.int .u8 k, .int .i64 (n : Int)] w fun e w' => e = .returned (.slice (some ⟨w.heap.size, 0, none⟩) 8 8) ∧ Own8 w' w.heap.size 8 8 (headZ k n) ∧ Below w.heap.size w w' := by
  have H := Lib.hid ((head_new w k n).2 (headZ_bd k n hk hn))
  clear hk
  go_enter Try.func106, Try.ntmps106
  go_wp2_with fail
  go_ret
  exact ⟨rfl, H.out, (bself w).alloc (Nat.le_refl _) _⟩
theorem isState_any (k : Int) (w : World) : Calls Try.prog 81 #[.int .u8 k] w fun e w' => e = .returned (.bool (decide (cls k = 2))) ∧ w = w' := by
  by_cases h1 : k = 18
  · subst h1
    go_enter Try.func81, Try.ntmps81
    go_wp2
    go_ret
    exact ⟨rfl, rfl⟩
  · by_cases h2 : k = 20
    · subst h2
      go_enter Try.func81, Try.ntmps81
      go_wp2
      go_ret
      exact ⟨rfl, rfl⟩
    · have h3 : (k == 18) = false := by simpa using h1
      have h4 : (k == 20) = false := by simpa using h2
      have h5 : Hid (decide (cls k = 2) = false) := Lib.hid (by unfold cls; simp only [decide_eq_false_iff_not]; (repeat' split) <;> omega)
      clear h1 h2
      go_enter Try.func81, Try.ntmps81
      go_wp2
      go_ret
      exact ⟨ret_bool h5.out.symm, rfl⟩
end Go.Proofs.Ytkiaijmhoikdiaa

/- pdu.PutEntries writes entries as bytes. Each theorem states its conditions. -/
namespace Go.Proofs.Ytkiaijmhoikdiaa
open Go.RowKit
set_option linter.unusedVariables false

theorem wrapU (N : Nat) (h : N ≤ 4294967295) : IntKind.u64.wrap (N : Int) = (N : Int) := by simp [IntKind.wrap, IntKind.signed, IntKind.bits]; omega
theorem own_ofB {w : World} {base n : Nat} {v : Value} {z : Nat → Int} (h : OwnB w base v n z) (hn : 0 < n) : ∃ g cap, v = .slice (some ⟨g, 0, none⟩) n cap ∧ base ≤ g ∧ Own8 w g n cap z := by
  obtain ⟨g0, cap0, hv, _⟩ := h.1.form (by omega)
  exact own_of h.1 rfl (by rw [hv]; simp) h.2

end Go.Proofs.Ytkiaijmhoikdiaa

/- pdu.put writes a field of a packet. Each theorem states its conditions. -/
namespace Go.Proofs.Ytkiaijmhoikdiaa
open Go.RowKit
set_option linter.unusedVariables false

/-- a packet lies at g -/
def PdAt (w : World) (g : Nat) (p : Pd) : Prop := w.heap[g]? = some (.cells (pdC p) 125 (0, 0))
theorem PdAt.lt {w : World} {g : Nat} {p : Pd} (h : PdAt w g p) : g < w.heap.size := (Array.getElem?_eq_some_iff.1 h).1
theorem PdAt.below {w w' : World} {g B : Nat} {p : Pd} (h : PdAt w g p) (hb : Below B w w') (hB : g < B) : PdAt w' g p := (hb.block g hB).trans h
theorem PdAt.cell {w : World} {g : Nat} {p : Pd} (h : PdAt w g p) (i : Nat) : w.cell? ⟨g, i, none⟩ = (pdC p)[i]? := cell_of_row w g i _ _ _ h
theorem blk_range {w : World} {X o : Nat} {C : Array Value} {cs : List Value} {t : TypeId} (h : w.heap[X]? = some (.cells C t (0, 0))) (hs : ∀ j, j < cs.length → C[o + j]? = cs[j]?) : w.rangeAt X o cs := by
  intro j u hj
  rw [cell_of_row w X (o + j) _ _ _ h, hs j ?_]
  · exact hj
  · rcases Nat.lt_or_ge j cs.length with h1 | h1
    · exact h1
    · rw [List.getElem?_eq_none h1] at hj; cases hj
theorem PdAt.so {w : World} {g : Nat} {p : Pd} (h : PdAt w g p) : w.rangeAt g 2 (ndC p.so).toList := blk_range h fun j hj => by
  rcases (by have : j < 7 := hj; omega : j = 0 ∨ j = 1 ∨ j = 2 ∨ j = 3 ∨ j = 4 ∨ j = 5 ∨ j = 6) with rfl | rfl | rfl | rfl | rfl | rfl | rfl <;> rfl
theorem PdAt.la {w : World} {g : Nat} {p : Pd} (h : PdAt w g p) : w.rangeAt g 12 (ndC p.la).toList := blk_range h fun j hj => by
  rcases (by have : j < 7 := hj; omega : j = 0 ∨ j = 1 ∨ j = 2 ∨ j = 3 ∨ j = 4 ∨ j = 5 ∨ j = 6) with rfl | rfl | rfl | rfl | rfl | rfl | rfl <;> rfl
theorem PdAt.id {w : World} {g : Nat} {p : Pd} (h : PdAt w g p) : w.rangeAt g 20 (idC p.id).toList := blk_range h fun j hj => by
  rcases (by have : j < 8 := hj; omega : j = 0 ∨ j = 1 ∨ j = 2 ∨ j = 3 ∨ j = 4 ∨ j = 5 ∨ j = 6 ∨ j = 7) with rfl | rfl | rfl | rfl | rfl | rfl | rfl | rfl <;> rfl
theorem PdAt.st {w : World} {g : Nat} {p : Pd} (h : PdAt w g p) : w.rangeAt g 30 (idC p.st).toList := blk_range h fun j hj => by
  rcases (by have : j < 8 := hj; omega : j = 0 ∨ j = 1 ∨ j = 2 ∨ j = 3 ∨ j = 4 ∨ j = 5 ∨ j = 6 ∨ j = 7) with rfl | rfl | rfl | rfl | rfl | rfl | rfl | rfl <;> rfl
theorem PdAt.en {w : World} {g : Nat} {p : Pd} (h : PdAt w g p) : w.rangeAt g 38 (idC p.en).toList := blk_range h fun j hj => by
  rcases (by have : j < 8 := hj; omega : j = 0 ∨ j = 1 ∨ j = 2 ∨ j = 3 ∨ j = 4 ∨ j = 5 ∨ j = 6 ∨ j = 7) with rfl | rfl | rfl | rfl | rfl | rfl | rfl | rfl <;> rfl
theorem info_node : (Try.prog.info? 26).map (·.size) = some 7 := by kernel_rfl
end Go.Proofs.Ytkiaijmhoikdiaa

/- Structs in memory: what is stored into one of them. Each theorem states its conditions. -/
namespace Go.Proofs.Ytkiaijmhoikdiaa
open Go.RowKit
set_option linter.unusedVariables false

section
variable {ops : Array Oper} {Q : Exit → Act → World → Prop}
variable {md : Region.Mode} {S : World → Prop}
end
/-- a packet of either type lies at g -/
def PdT (t : TypeId) (w : World) (g : Nat) (p : Pd) : Prop := w.heap[g]? = some (.cells (pdC p) t (0, 0))
section
variable {t : TypeId} {w w' : World} {g : Nat} {p : Pd}
theorem PdT.lt (h : PdT t w g p) : g < w.heap.size := (Array.getElem?_eq_some_iff.1 h).1
theorem PdT.below {B : Nat} (h : PdT t w g p) (hb : Below B w w') (hB : g < B) : PdT t w' g p := (hb.block g hB).trans h
theorem PdT.cell (h : PdT t w g p) (i : Nat) : w.cell? ⟨g, i, none⟩ = (pdC p)[i]? := cell_of_row w g i _ _ _ h
theorem PdT.range (h : PdT t w g p) {o : Nat} {cs : List Value} (hs : ∀ j, j < cs.length → (pdC p)[o + j]? = cs[j]?) : w.rangeAt g o cs := blk_range h hs
theorem PdT.far {b : Nat} {C : Array Value} {u : TypeId} (h : PdT t w g p) (hs : Stored w w' b C u) (hk : g ≠ b) : PdT t w' g p := (hs.2.2 g hk).trans h
theorem seven {P : Nat → Prop} (h : P 0 ∧ P 1 ∧ P 2 ∧ P 3 ∧ P 4 ∧ P 5 ∧ P 6) (j : Nat) (hj : j < 7) : P j := by
  rcases (by omega : j = 0 ∨ j = 1 ∨ j = 2 ∨ j = 3 ∨ j = 4 ∨ j = 5 ∨ j = 6) with rfl | rfl | rfl | rfl | rfl | rfl | rfl <;> simp_all
theorem eight {P : Nat → Prop} (h : P 0 ∧ P 1 ∧ P 2 ∧ P 3 ∧ P 4 ∧ P 5 ∧ P 6 ∧ P 7) (j : Nat) (hj : j < 8) : P j := by
  rcases (by omega : j = 0 ∨ j = 1 ∨ j = 2 ∨ j = 3 ∨ j = 4 ∨ j = 5 ∨ j = 6 ∨ j = 7) with rfl | rfl | rfl | rfl | rfl | rfl | rfl | rfl <;> simp_all
/-- six bytes -/
def syC (z : Nat → Int) : Array Value := #[.int .u8 (z 0), .int .u8 (z 1), .int .u8 (z 2), .int .u8 (z 3), .int .u8 (z 4), .int .u8 (z 5)]
theorem PdT.so (h : PdT t w g p) : w.rangeAt g 2 (ndC p.so).toList := h.range (seven ⟨rfl, rfl, rfl, rfl, rfl, rfl, rfl⟩)
theorem PdT.la (h : PdT t w g p) : w.rangeAt g 12 (ndC p.la).toList := h.range (seven ⟨rfl, rfl, rfl, rfl, rfl, rfl, rfl⟩)
theorem PdT.id (h : PdT t w g p) : w.rangeAt g 20 (idC p.id).toList := h.range (eight ⟨rfl, rfl, rfl, rfl, rfl, rfl, rfl, rfl⟩)
theorem PdT.st (h : PdT t w g p) : w.rangeAt g 30 (idC p.st).toList := h.range (eight ⟨rfl, rfl, rfl, rfl, rfl, rfl, rfl, rfl⟩)
theorem PdT.en (h : PdT t w g p) : w.rangeAt g 38 (idC p.en).toList := h.range (eight ⟨rfl, rfl, rfl, rfl, rfl, rfl, rfl, rfl⟩)
theorem PdT.all (h : PdT t w g p) : w.rangeAt g 0 (pdC p).toList := h.range fun j hj => by rw [Nat.zero_add, Array.getElem?_toList]
end
theorem info_pdR : (Try.prog.info? 42).map (·.size) = some 47 := by kernel_rfl
theorem info_pdP : (Try.prog.info? 125).map (·.size) = some 47 := by kernel_rfl
def z0 : Nat → Int := fun _ => 0
def pd0 : Pd := ⟨0, 0, z0, 0, 0, 0, z0, 0, z0, 0, 0, z0, z0, none, 0, 0⟩
theorem alloc_P (o : Oper) (e : Operand → Value) (ho : o.op = .alloc 125) (W : World) : (execOp e o).run Try.prog W = .ok (.value (.pointer (some ⟨W.heap.size, 0, none⟩))) (W.alloc (.cells (pdC pd0) 125)) := by
  unfold execOp
  simp only [ho]
  kernel_rfl
theorem pd_all (p q : Pd) : putMany (pdC p) 0 (pdC q).toList = pdC q := by kernel_rfl
theorem pdC_kd (p : Pd) : (pdC p)[0]? = some (.int .u8 p.kd) := rfl
section
variable {ops : Array Oper} {Q : Exit → Act → World → Prop}
end
end Go.Proofs.Ytkiaijmhoikdiaa

/- pdu's fits and allFit. Each theorem states its conditions. -/
namespace Go.Proofs.Ytkiaijmhoikdiaa
open Go.RowKit
set_option linter.unusedVariables false

set_option maxRecDepth 100000 in
theorem fits_0 (p : Pd) (b : Bool) (hb : decide (1 ≤ p.ci ∧ p.ci ≤ 3) = b) (g : Nat) (w : World) (h : PdAt w g p) : Calls Try.prog 124 #[.pointer (some ⟨g, 0, none⟩), .int .i64 0] w fun e w' => e = .returned (.bool b) ∧ w = w' := by
  have c1 : w.cell? ⟨g, 1, none⟩ = some (.int .u8 p.ci) := (h.cell 1).trans rfl
  clear h
  obtain ⟨x, hx⟩ : ∃ x, p.ci = x := ⟨_, rfl⟩
  rw [hx] at c1 hb
  clear hx
  by_cases h1 : 1 ≤ x
  · by_cases h3 : x ≤ 3
    · obtain rfl : true = b := by rw [← hb]; exact (decide_eq_true ⟨h1, h3⟩).symm
      clear hb
      go_enter Try.func124, Try.ntmps124
      go_wp2
      go_ret
      exact ⟨rfl, rfl⟩
    · obtain rfl : false = b := by rw [← hb]; exact (decide_eq_false (by omega)).symm
      clear hb
      go_enter Try.func124, Try.ntmps124
      go_wp2
      go_ret
      exact ⟨rfl, rfl⟩
  · obtain rfl : false = b := by rw [← hb]; exact (decide_eq_false (by omega)).symm
    clear hb
    go_enter Try.func124, Try.ntmps124
    go_wp2
    go_ret
    exact ⟨rfl, rfl⟩
theorem isTime_any (n : Int) (b : Bool) (hb : decide (0 ≤ n ∧ n ≤ 65535) = b) (w : World) : Calls Try.prog 128 #[.int .i64 n] w fun e w' => e = .returned (.bool b) ∧ w = w' := by
  subst hb
  by_cases h : 0 ≤ n ∧ n ≤ 65535
  · rw [decide_eq_true h]
    exact (isTime_yes n w h.1 h.2).mono fun e w' h => ⟨h.1, h.2.symm⟩
  · rw [decide_eq_false h]
    exact (isTime_no n w (by omega)).mono fun e w' h => ⟨h.1, h.2.symm⟩
set_option maxRecDepth 100000 in
theorem fits_3 (p : Pd) (b : Bool) (hb : decide (0 ≤ p.ho ∧ p.ho ≤ 65535) = b) (g : Nat) (w : World) (h : PdAt w g p) : Calls Try.prog 124 #[.pointer (some ⟨g, 0, none⟩), .int .i64 3] w fun e w' => e = .returned (.bool b) ∧ w = w' := by
  have c1 : w.cell? ⟨g, 9, none⟩ = some (.int .i64 p.ho) := (h.cell 9).trans rfl
  have HT := Lib.hid (isTime_any p.ho b hb w)
  clear h hb
  go_enter Try.func124, Try.ntmps124
  go_wp2_with fail
  refine HT.out.mono ?_
  rintro e w1 ⟨rfl, rfl⟩
  go_wp2_with fail
  go_ret
  exact ⟨rfl, rfl⟩
set_option maxRecDepth 100000 in
theorem fits_8 (p : Pd) (b : Bool) (hb : decide (0 ≤ p.li ∧ p.li ≤ 65535) = b) (g : Nat) (w : World) (h : PdAt w g p) : Calls Try.prog 124 #[.pointer (some ⟨g, 0, none⟩), .int .i64 8] w fun e w' => e = .returned (.bool b) ∧ w = w' := by
  have c1 : w.cell? ⟨g, 19, none⟩ = some (.int .i64 p.li) := (h.cell 19).trans rfl
  have HT := Lib.hid (isTime_any p.li b hb w)
  clear h hb
  go_enter Try.func124, Try.ntmps124
  go_wp2_with fail
  refine HT.out.mono ?_
  rintro e w1 ⟨rfl, rfl⟩
  go_wp2_with fail
  go_ret
  exact ⟨rfl, rfl⟩
set_option maxRecDepth 100000 in
theorem fits_6 (p : Pd) (b : Bool) (hb : decide (p.pr ≤ 127) = b) (g : Nat) (w : World) (h : PdAt w g p) : Calls Try.prog 124 #[.pointer (some ⟨g, 0, none⟩), .int .i64 6] w fun e w' => e = .returned (.bool b) ∧ w = w' := by
  have c1 : w.cell? ⟨g, 11, none⟩ = some (.int .u8 p.pr) := (h.cell 11).trans rfl
  clear h
  go_enter Try.func124, Try.ntmps124
  go_wp2_with fail
  go_ret
  exact ⟨rfl, rfl⟩
set_option maxRecDepth 100000 in
theorem fits_x (f : Nat) (hf : f ≤ 14) (h0 : f ≠ 0) (h3 : f ≠ 3) (h8 : f ≠ 8) (h6 : f ≠ 6) (x : Value) (w : World) : Calls Try.prog 124 #[x, .int .i64 (f : Int)] w fun e w' => e = .returned (.bool true) ∧ w = w' := by
  rcases (by omega : f = 1 ∨ f = 2 ∨ f = 4 ∨ f = 5 ∨ f = 7 ∨ f = 9 ∨ f = 10 ∨ f = 11 ∨ f = 12 ∨ f = 13 ∨ f = 14) with rfl | rfl | rfl | rfl | rfl | rfl | rfl | rfl | rfl | rfl | rfl <;>
  · clear h0 h3 h8 h6
    go_enter Try.func124, Try.ntmps124
    go_wp2
    go_ret
    exact ⟨rfl, rfl⟩
theorem fits_any (p : Pd) (g f : Nat) (hf : f ≤ 14) (w : World) (h : PdAt w g p) : Calls Try.prog 124 #[.pointer (some ⟨g, 0, none⟩), .int .i64 (f : Int)] w fun e w' => e = .returned (.bool (fitB p f)) ∧ w = w' := by
  by_cases h0 : f = 0
  · subst h0; exact fits_0 p _ rfl g w h
  · by_cases h3 : f = 3
    · subst h3; exact fits_3 p _ rfl g w h
    · by_cases h8 : f = 8
      · subst h8; exact fits_8 p _ rfl g w h
      · by_cases h6 : f = 6
        · subst h6; exact fits_6 p _ rfl g w h
        · have e : fitB p f = true := by
            unfold fitB
            split <;> first | rfl | (exact absurd rfl ‹_›) | omega
          rw [e]
          exact fits_x f hf h0 h3 h8 h6 _ w
/-- the first field that doesn't fit, or the end -/
theorem fit_ends (p : Pd) (q n : Nat) : ∃ m, m ≤ n ∧ (∀ i, i < m → fitB p (fAt q i) = true) ∧ ((m = n ∧ fitsTo p q n = true) ∨ (m < n ∧ fitB p (fAt q m) = false ∧ fitsTo p q n = false)) := by
  induction n with
  | zero => exact ⟨0, Nat.le_refl _, fun i hi => by omega, .inl ⟨rfl, rfl⟩⟩
  | succ n ih =>
    obtain ⟨m, h1, h2, h3⟩ := ih
    rcases h3 with ⟨rfl, h3⟩ | ⟨h3, h4, h5⟩
    · cases hb : fitB p (fAt q m)
      · exact ⟨m, by omega, h2, .inr ⟨by omega, hb, by simp [fitsTo, hb]⟩⟩
      · refine ⟨m + 1, by omega, fun i hi => ?_, .inl ⟨rfl, by simp [fitsTo, hb, h3]⟩⟩
        by_cases e : i = m
        · subst e; exact hb
        · exact h2 i (by omega)
    · exact ⟨m, by omega, h2, .inr ⟨by omega, h4, by simp [fitsTo, h5]⟩⟩
theorem fitP_at {p : Pd} {q : Nat} (h : fitP p q = true) (i : Nat) (hi : i < (flC q).length) : fitB p (fAt q i) = true := by
  obtain ⟨m, h1, h2, h3⟩ := fit_ends p q (flC q).length
  rcases h3 with ⟨rfl, h3⟩ | ⟨h3, h4, h5⟩
  · exact h2 i hi
  · unfold fitP at h; rw [h5] at h; cases h
theorem allFit_any (p : Pd) (g g' q : Nat) (hq : q ≤ 4) (w : World) (h : PdAt w g p) (hl : FlAt w g' q) : Calls Try.prog 110 #[.pointer (some ⟨g, 0, none⟩), .slice (some ⟨g', 0, none⟩) (flC q).length (flC q).length] w fun e w' => e = .returned (.bool (fitP p q)) ∧ w = w' := by
  have HF := Lib.hid hl
  obtain ⟨m, hm1, hm2, hm3⟩ := fit_ends p q (flC q).length
  have HM2 := Lib.hid hm2
  have HM3 : Hid ((m = (flC q).length ∧ fitP p q = true) ∨ (m < (flC q).length ∧ fitB p (fAt q m) = false ∧ fitP p q = false)) := Lib.hid hm3
  have hlen := fl_len q hq
  obtain ⟨n, hn⟩ : ∃ n, (flC q).length = n := ⟨_, rfl⟩
  have HN := Lib.hid hn
  rw [hn] at hm1 HM3 hlen ⊢
  have HFA := Lib.hid (fun f hf => fits_any p g f hf w h)
  clear hn hm2 hm3 hl h
  go_enter Try.func110, Try.ntmps110
  go_wp2_with fail
  go_loop [9] (fun t => ∃ i : Nat, i ≤ m ∧ t = .int .i64 i) (fun t => n - (intOf t).toNat)
  case atStart => exact ⟨0, Nat.zero_le _, rfl⟩
  case round =>
    obtain ⟨i, hi, rfl⟩ := hrel
    by_cases hlt : i < n
    · have ci := HF.out.cell (i := i) (by rw [HN.out]; exact hlt)
      have hf := fAt_le q i hq
      by_cases him : i < m
      · have HS := Lib.hid (HFA.out _ hf)
        rw [HM2.out i him] at HS
        obtain ⟨f, hf'⟩ : ∃ f, fAt q i = f := ⟨_, rfl⟩
        rw [hf'] at ci HS
        clear hf' hf
        go_wp2_with fail
        refine HS.out.mono ?_
        rintro e w1 ⟨rfl, rfl⟩
        go_wp2_with fail
        go_round
        case rel => exact ⟨i + 1, by omega, by go_num⟩
        case measure => simp [intOf]; omega
      · obtain rfl : i = m := by omega
        have h3 : fitB p (fAt q i) = false ∧ fitP p q = false := by
          rcases HM3.out with h | h
          · omega
          · exact h.2
        have HS := Lib.hid (HFA.out _ hf)
        rw [h3.1] at HS
        have HQ := Lib.hid h3.2
        obtain ⟨f, hf'⟩ : ∃ f, fAt q i = f := ⟨_, rfl⟩
        rw [hf'] at ci HS
        clear hf' hf h3
        go_wp2_with fail
        refine HS.out.mono ?_
        rintro e w1 ⟨rfl, rfl⟩
        go_wp2_with fail
        go_ret
        exact ⟨by rw [HQ.out]; rfl, rfl⟩
    · obtain rfl : i = n := by omega
      have HQ : Hid (fitP p q = true) := Lib.hid (by
        rcases HM3.out with h | h
        · exact h.2
        · omega)
      go_wp2_with fail
      go_ret
      exact ⟨by rw [HQ.out]; rfl, rfl⟩
end Go.Proofs.Ytkiaijmhoikdiaa

/- pdu.sign lays an LSP's check bytes. Each theorem states its conditions. -/
namespace Go.Proofs.Ytkiaijmhoikdiaa
open Go.RowKit
set_option linter.unusedVariables false

section
variable {P : Program} {ops : Array Oper} {Q : Exit → Act → World → Prop} {md : Region.Mode} {S : World → Prop}
end
end Go.Proofs.Ytkiaijmhoikdiaa

/- A value is equal to itself: entries. Each theorem states its conditions. -/
namespace Go.Proofs.Ytkiaijmhoikdiaa
open Go.RowKit
open Go.Extern.Stop (cell)
set_option linter.unusedVariables false

end Go.Proofs.Ytkiaijmhoikdiaa

/- The document's comparison of two lists of waymark/api.Entry: the same are the same; and an append of such a list. Each theorem states its conditions. -/
namespace Go.Proofs.Ytkiaijmhoikdiaa
open Go.RowKit
set_option linter.unusedVariables false

end Go.Proofs.Ytkiaijmhoikdiaa

/- An append of one entry as a step of a drawn region; an entry is built. Each theorem states its conditions. -/
namespace Go.Proofs.Ytkiaijmhoikdiaa
open Go.RowKit
set_option linter.unusedVariables false

end Go.Proofs.Ytkiaijmhoikdiaa

/- pdu.GetEntries reads entries. Each theorem states its conditions. -/
namespace Go.Proofs.Ytkiaijmhoikdiaa
open Go.RowKit
set_option linter.unusedVariables false

theorem Row8.cut {w : World} {b off n : Nat} {z : Nat → Int} (h : Row8 w b off n z) (m : Nat) (hm : m ≤ n) : Row8 w b off m z := ⟨h.1, fun j hj => h.2.1 j (by omega), h.2.2⟩
theorem Row8.below' {w w' : World} {b off n : Nat} {z : Nat → Int} (h : Row8 w b off n z) (hb : Below w.heap.size w w') : Row8 w' b off n z := h.below hb h.1
theorem wI (N : Nat) (h : N ≤ 65535) : IntKind.i64.wrap (N : Int) = (N : Int) := by simp [IntKind.wrap, IntKind.signed, IntKind.bits]; omega
theorem wU4 (N : Nat) (h : N ≤ 4294967295) : IntKind.u32.wrap (N : Int) = (N : Int) := by simp [IntKind.wrap, IntKind.signed, IntKind.bits]; omega
theorem wU2 (N : Nat) (h : N ≤ 65535) : IntKind.u16.wrap (N : Int) = (N : Int) := by simp [IntKind.wrap, IntKind.signed, IntKind.bits]; omega
end Go.Proofs.Ytkiaijmhoikdiaa

/- pdu.get reads a field of a packet. Each theorem states its conditions. -/
namespace Go.Proofs.Ytkiaijmhoikdiaa
open Go.RowKit
set_option linter.unusedVariables false

/-- the first six of one, the rest of another -/
def mixS (s t : Nat → Int) : Nat → Int := fun j => if j < 6 then s j else t j
/-- a field is set by its bytes -/
def getF (p : Pd) (y : Nat → Int) : Nat → Pd
  | 0 => ⟨p.kd, y 0, p.so, p.ho, p.nu, p.pr, p.la, p.li, p.id, p.sq, p.bi, p.st, p.en, p.A, p.m, p.c⟩
  | 1 => ⟨p.kd, p.ci, mixS y p.so, p.ho, p.nu, p.pr, p.la, p.li, p.id, p.sq, p.bi, p.st, p.en, p.A, p.m, p.c⟩
  | 2 => ⟨p.kd, p.ci, y, p.ho, p.nu, p.pr, p.la, p.li, p.id, p.sq, p.bi, p.st, p.en, p.A, p.m, p.c⟩
  | 3 => ⟨p.kd, p.ci, p.so, (((numZ y 0 2).toNat : Nat) : Int), p.nu, p.pr, p.la, p.li, p.id, p.sq, p.bi, p.st, p.en, p.A, p.m, p.c⟩
  | 5 => ⟨p.kd, p.ci, p.so, p.ho, y 0, p.pr, p.la, p.li, p.id, p.sq, p.bi, p.st, p.en, p.A, p.m, p.c⟩
  | 6 => ⟨p.kd, p.ci, p.so, p.ho, p.nu, y 0, p.la, p.li, p.id, p.sq, p.bi, p.st, p.en, p.A, p.m, p.c⟩
  | 7 => ⟨p.kd, p.ci, p.so, p.ho, p.nu, p.pr, y, p.li, p.id, p.sq, p.bi, p.st, p.en, p.A, p.m, p.c⟩
  | 8 => ⟨p.kd, p.ci, p.so, p.ho, p.nu, p.pr, p.la, (((numZ y 0 2).toNat : Nat) : Int), p.id, p.sq, p.bi, p.st, p.en, p.A, p.m, p.c⟩
  | 9 => ⟨p.kd, p.ci, p.so, p.ho, p.nu, p.pr, p.la, p.li, y, p.sq, p.bi, p.st, p.en, p.A, p.m, p.c⟩
  | 10 => ⟨p.kd, p.ci, p.so, p.ho, p.nu, p.pr, p.la, p.li, p.id, (numZ y 0 4).toNat, p.bi, p.st, p.en, p.A, p.m, p.c⟩
  | 12 => ⟨p.kd, p.ci, p.so, p.ho, p.nu, p.pr, p.la, p.li, p.id, p.sq, y 0, p.st, p.en, p.A, p.m, p.c⟩
  | 13 => ⟨p.kd, p.ci, p.so, p.ho, p.nu, p.pr, p.la, p.li, p.id, p.sq, p.bi, y, p.en, p.A, p.m, p.c⟩
  | 14 => ⟨p.kd, p.ci, p.so, p.ho, p.nu, p.pr, p.la, p.li, p.id, p.sq, p.bi, p.st, y, p.A, p.m, p.c⟩
  | _ => p
/-- what get leaves: the packet at g is another one -/
def GetPost (w : World) (g : Nat) (p : Pd) (e : Ending) (w' : World) : Prop := e = .returned (.tuple #[]) ∧ PdT 125 w' g p ∧ Below g w w' ∧ ∀ k, k < w.heap.size → k ≠ g → w'.heap[k]? = w.heap[k]?
/-- a copy into block g -/
theorem dwpList_cp {ops : Array Oper} {Q : Exit → Act → World → Prop} {rest : List Oper} {o : Oper} {a : Act} {w : World} (hgd : o.guard = none) (d s : Operand) (dT sT : TypeId)
    (ho : o.op = .call { callee := .builtin .copy, args := #[d, s], argTypes := #[dT, sT] }) (elem : TypeId) (hu : Try.prog.underlying dT = some (.slice elem)) (hsz : (Try.prog.info? elem).map (·.size) = some 1)
    (g off dLen dCap : Nat) (ad : Addr) (sLen sCap : Nat) (hd : a.eval d = .slice (some ⟨g, off, none⟩) dLen dCap) (hs : a.eval s = .slice (some ad) sLen sCap)
    (cur : List Value) (t : TypeId) (hg : w.heap[g]? = some (.cells cur.toArray t (0, 0))) (cs : List Value) (hn : cs.length = Nat.min sLen dLen)
    (hsrc : ∀ j v, cs[j]? = some v → w.cell? (ad.add j) = some v) (hfit : off + cs.length ≤ cur.length) (h1 : ∀ v ∈ cs, v.oneCell' = true) {C' : Array Value} (hC : (splice cur off cs).toArray = C')
    (h : ∀ w', Stored w w' g C' t → wpList Try.prog ops Q rest (a.put o.dst (goInt cs.length)) w') : wpList Try.prog ops Q (o :: rest) a w := by
  subst hC
  refine wpList_plain hgd fun K hK => ?_
  have hrun := run_copy_row (P := Try.prog) w dT sT o.type elem g off dLen dCap ad sLen sCap cur.toArray t cs hu hsz hg hn hsrc (by simpa using hfit) h1
  unfold Oper.wp
  simp [execOp, ho, resolve, invoke, builtin, hd, hs, hrun, Result.andThen]
  exact hK _ _ (h _ ⟨(show _ = _ by simpa [splice] using setRow_heap w g _ _ t _ hg), fun B hB => ⟨rfl, rfl, rfl, by simp [World.setRow], fun k hk => setRow_other w g k _ (by omega)⟩, fun k hk => setRow_other w g k _ hk⟩)
set_option maxHeartbeats 2000000 in
set_option maxRecDepth 100000 in
theorem get_0 (p : Pd) (y : Nat → Int) (g b off c : Nat) (w : World) (hg : PdT 125 w g p) (hr : Row8 w b off (fsz 0) y) (hc : fsz 0 ≤ c) (hcm : c ≤ maxLen) :
    Calls Try.prog 109 #[.pointer (some ⟨g, 0, none⟩), .int .i64 0, .slice (some ⟨b, off, none⟩) (fsz 0) c] w (GetPost w g (getF p y 0)) := by
  rw [show fsz 0 = 1 from rfl] at *
  have c1 : w.cell? ⟨b, off, none⟩ = some (.int .u8 (y 0)) := hr.2.1 0 (by omega)
  have HG := Lib.hid hg
  clear hr hg
  go_enter Try.func109, Try.ntmps109
  go_wp2_with (refine wpList_st rfl 5 (.tmp 14) (.tmp 12) rfl g 1 rfl (.int .u8 (y 0)) #[.int .u8 (y 0)] rfl rfl (by kernel_rfl) (by kernel_rfl) HG.out (Nat.le_of_ble_eq_true rfl) (C' := pdC (getF p y 0)) (by kernel_rfl) ?_; intro w9 hst; refine Hid.out ?_)
  refine Lib.hid ?_
  have HE : Hid (GetPost w g (getF p y 0) (.returned (.tuple #[])) w9) := Lib.hid ⟨rfl, hst.1, hst.2.1 g (Nat.le_refl _), fun k hk hne => hst.2.2 k hne⟩
  clear hst
  go_wp2_with fail
  exact bodyPost_end (results_none rfl _ _ _) rfl HE.out
set_option maxHeartbeats 2000000 in
set_option maxRecDepth 100000 in
theorem get_5 (p : Pd) (y : Nat → Int) (g b off c : Nat) (w : World) (hg : PdT 125 w g p) (hr : Row8 w b off (fsz 5) y) (hc : fsz 5 ≤ c) (hcm : c ≤ maxLen) :
    Calls Try.prog 109 #[.pointer (some ⟨g, 0, none⟩), .int .i64 5, .slice (some ⟨b, off, none⟩) (fsz 5) c] w (GetPost w g (getF p y 5)) := by
  rw [show fsz 5 = 1 from rfl] at *
  have c1 : w.cell? ⟨b, off, none⟩ = some (.int .u8 (y 0)) := hr.2.1 0 (by omega)
  have HG := Lib.hid hg
  clear hr hg
  go_enter Try.func109, Try.ntmps109
  go_wp2_with (refine wpList_st rfl 5 (.tmp 46) (.tmp 44) rfl g 10 rfl (.int .u8 (y 0)) #[.int .u8 (y 0)] rfl rfl (by kernel_rfl) (by kernel_rfl) HG.out (Nat.le_of_ble_eq_true rfl) (C' := pdC (getF p y 5)) (by kernel_rfl) ?_; intro w9 hst; refine Hid.out ?_)
  refine Lib.hid ?_
  have HE : Hid (GetPost w g (getF p y 5) (.returned (.tuple #[])) w9) := Lib.hid ⟨rfl, hst.1, hst.2.1 g (Nat.le_refl _), fun k hk hne => hst.2.2 k hne⟩
  clear hst
  go_wp2_with fail
  exact bodyPost_end (results_none rfl _ _ _) rfl HE.out
set_option maxHeartbeats 2000000 in
set_option maxRecDepth 100000 in
theorem get_6 (p : Pd) (y : Nat → Int) (g b off c : Nat) (w : World) (hg : PdT 125 w g p) (hr : Row8 w b off (fsz 6) y) (hc : fsz 6 ≤ c) (hcm : c ≤ maxLen) :
    Calls Try.prog 109 #[.pointer (some ⟨g, 0, none⟩), .int .i64 6, .slice (some ⟨b, off, none⟩) (fsz 6) c] w (GetPost w g (getF p y 6)) := by
  rw [show fsz 6 = 1 from rfl] at *
  have c1 : w.cell? ⟨b, off, none⟩ = some (.int .u8 (y 0)) := hr.2.1 0 (by omega)
  have HG := Lib.hid hg
  clear hr hg
  go_enter Try.func109, Try.ntmps109
  go_wp2_with (refine wpList_st rfl 5 (.tmp 54) (.tmp 52) rfl g 11 rfl (.int .u8 (y 0)) #[.int .u8 (y 0)] rfl rfl (by kernel_rfl) (by kernel_rfl) HG.out (Nat.le_of_ble_eq_true rfl) (C' := pdC (getF p y 6)) (by kernel_rfl) ?_; intro w9 hst; refine Hid.out ?_)
  refine Lib.hid ?_
  have HE : Hid (GetPost w g (getF p y 6) (.returned (.tuple #[])) w9) := Lib.hid ⟨rfl, hst.1, hst.2.1 g (Nat.le_refl _), fun k hk hne => hst.2.2 k hne⟩
  clear hst
  go_wp2_with fail
  exact bodyPost_end (results_none rfl _ _ _) rfl HE.out
set_option maxHeartbeats 2000000 in
set_option maxRecDepth 100000 in
theorem get_12 (p : Pd) (y : Nat → Int) (g b off c : Nat) (w : World) (hg : PdT 125 w g p) (hr : Row8 w b off (fsz 12) y) (hc : fsz 12 ≤ c) (hcm : c ≤ maxLen) :
    Calls Try.prog 109 #[.pointer (some ⟨g, 0, none⟩), .int .i64 12, .slice (some ⟨b, off, none⟩) (fsz 12) c] w (GetPost w g (getF p y 12)) := by
  rw [show fsz 12 = 1 from rfl] at *
  have c1 : w.cell? ⟨b, off, none⟩ = some (.int .u8 (y 0)) := hr.2.1 0 (by omega)
  have HG := Lib.hid hg
  clear hr hg
  go_enter Try.func109, Try.ntmps109
  go_wp2_with (refine wpList_st rfl 5 (.tmp 92) (.tmp 90) rfl g 29 rfl (.int .u8 (y 0)) #[.int .u8 (y 0)] rfl rfl (by kernel_rfl) (by kernel_rfl) HG.out (Nat.le_of_ble_eq_true rfl) (C' := pdC (getF p y 12)) (by kernel_rfl) ?_; intro w9 hst; refine Hid.out ?_)
  refine Lib.hid ?_
  have HE : Hid (GetPost w g (getF p y 12) (.returned (.tuple #[])) w9) := Lib.hid ⟨rfl, hst.1, hst.2.1 g (Nat.le_refl _), fun k hk hne => hst.2.2 k hne⟩
  clear hst
  go_wp2_with fail
  exact bodyPost_end (results_none rfl _ _ _) rfl HE.out
set_option maxHeartbeats 2000000 in
set_option maxRecDepth 100000 in
theorem get_1 (p : Pd) (y : Nat → Int) (g b off c : Nat) (w : World) (hg : PdT 125 w g p) (hr : Row8 w b off (fsz 1) y) (hc : fsz 1 ≤ c) (hcm : c ≤ maxLen) :
    Calls Try.prog 109 #[.pointer (some ⟨g, 0, none⟩), .int .i64 1, .slice (some ⟨b, off, none⟩) (fsz 1) c] w (GetPost w g (getF p y 1)) := by
  rw [show fsz 1 = 6 from rfl] at *
  have HG := Lib.hid hg
  have HR : Hid (∀ j v, (vals y 6)[j]? = some v → w.cell? ((⟨b, off, none⟩ : Addr).add j) = some v) := Lib.hid (six_src hr (by omega))
  clear hr hg
  go_enter Try.func109, Try.ntmps109
  go_wp2_with (refine dwpList_cp rfl (.tmp 21) (.tmp 22) 43 43 rfl 5 Try.underlying43 info_u8s' g 2 6 6 ⟨b, off, none⟩ 6 c rfl rfl (pdC p).toList 125 HG.out (vals y 6) (by rw [vals_len]; rfl) HR.out (show 2 + (vals y 6).length ≤ 47 by rw [vals_len]; decide) (vals_one _ _) (C' := pdC (getF p y 1)) (by kernel_rfl) ?_; intro w9 hst; refine Hid.out ?_)
  refine Lib.hid ?_
  have HE : Hid (GetPost w g (getF p y 1) (.returned (.tuple #[])) w9) := Lib.hid ⟨rfl, hst.1, hst.2.1 g (Nat.le_refl _), fun k hk hne => hst.2.2 k hne⟩
  clear hst
  go_wp2_with fail
  exact bodyPost_end (results_none rfl _ _ _) rfl HE.out
set_option maxHeartbeats 2000000 in
set_option maxRecDepth 100000 in
theorem get_2 (p : Pd) (y : Nat → Int) (g b off c : Nat) (w : World) (hg : PdT 125 w g p) (hr : Row8 w b off (fsz 2) y) (hc : fsz 2 ≤ c) (hcm : c ≤ maxLen) :
    Calls Try.prog 109 #[.pointer (some ⟨g, 0, none⟩), .int .i64 2, .slice (some ⟨b, off, none⟩) (fsz 2) c] w (GetPost w g (getF p y 2)) := by
  rw [show fsz 2 = 7 from rfl] at *
  have HG := Lib.hid hg
  have HK := Lib.hid (getNode_any b off 7 c y w hr (by omega) hc hcm)
  clear hr hg
  go_enter Try.func109, Try.ntmps109
  go_wp2_with fail
  refine HK.out.mono ?_
  rintro e w1 ⟨rfl, hb1⟩
  have HG1 := Lib.hid (HG.out.below hb1 HG.out.lt)
  have HB1 := Lib.hid (hb1.mono (Nat.le_of_lt HG.out.lt))
  have HO1 := Lib.hid (fun k (hk : k < w.heap.size) => hb1.block k hk)
  clear hb1
  go_wp2_with (refine wpList_st rfl 26 (.tmp 30) (.tmp 28) rfl g 2 rfl (.agg (ndC y)) (ndC y) rfl rfl info_node (nd_all _) HG1.out (Nat.le_of_ble_eq_true rfl) (C' := pdC (getF p y 2)) (by kernel_rfl) ?_; intro w9 hst; refine Hid.out ?_)
  refine Lib.hid ?_
  have HE : Hid (GetPost w g (getF p y 2) (.returned (.tuple #[])) w9) := Lib.hid ⟨rfl, hst.1, HB1.out.trans (hst.2.1 g (Nat.le_refl _)), fun k hk hne => (hst.2.2 k hne).trans (HO1.out k hk)⟩
  clear hst
  go_wp2_with fail
  exact bodyPost_end (results_none rfl _ _ _) rfl HE.out
set_option maxHeartbeats 2000000 in
set_option maxRecDepth 100000 in
theorem get_7 (p : Pd) (y : Nat → Int) (g b off c : Nat) (w : World) (hg : PdT 125 w g p) (hr : Row8 w b off (fsz 7) y) (hc : fsz 7 ≤ c) (hcm : c ≤ maxLen) :
    Calls Try.prog 109 #[.pointer (some ⟨g, 0, none⟩), .int .i64 7, .slice (some ⟨b, off, none⟩) (fsz 7) c] w (GetPost w g (getF p y 7)) := by
  rw [show fsz 7 = 7 from rfl] at *
  have HG := Lib.hid hg
  have HK := Lib.hid (getNode_any b off 7 c y w hr (by omega) hc hcm)
  clear hr hg
  go_enter Try.func109, Try.ntmps109
  go_wp2_with fail
  refine HK.out.mono ?_
  rintro e w1 ⟨rfl, hb1⟩
  have HG1 := Lib.hid (HG.out.below hb1 HG.out.lt)
  have HB1 := Lib.hid (hb1.mono (Nat.le_of_lt HG.out.lt))
  have HO1 := Lib.hid (fun k (hk : k < w.heap.size) => hb1.block k hk)
  clear hb1
  go_wp2_with (refine wpList_st rfl 26 (.tmp 61) (.tmp 59) rfl g 12 rfl (.agg (ndC y)) (ndC y) rfl rfl info_node (nd_all _) HG1.out (Nat.le_of_ble_eq_true rfl) (C' := pdC (getF p y 7)) (by kernel_rfl) ?_; intro w9 hst; refine Hid.out ?_)
  refine Lib.hid ?_
  have HE : Hid (GetPost w g (getF p y 7) (.returned (.tuple #[])) w9) := Lib.hid ⟨rfl, hst.1, HB1.out.trans (hst.2.1 g (Nat.le_refl _)), fun k hk hne => (hst.2.2 k hne).trans (HO1.out k hk)⟩
  clear hst
  go_wp2_with fail
  exact bodyPost_end (results_none rfl _ _ _) rfl HE.out
set_option maxHeartbeats 2000000 in
set_option maxRecDepth 100000 in
theorem get_9 (p : Pd) (y : Nat → Int) (g b off c : Nat) (w : World) (hg : PdT 125 w g p) (hr : Row8 w b off (fsz 9) y) (hc : fsz 9 ≤ c) (hcm : c ≤ maxLen) :
    Calls Try.prog 109 #[.pointer (some ⟨g, 0, none⟩), .int .i64 9, .slice (some ⟨b, off, none⟩) (fsz 9) c] w (GetPost w g (getF p y 9)) := by
  rw [show fsz 9 = 8 from rfl] at *
  have HG := Lib.hid hg
  have HK := Lib.hid (getID_any b off c y w hr hc hcm)
  clear hr hg
  go_enter Try.func109, Try.ntmps109
  go_wp2_with fail
  refine HK.out.mono ?_
  rintro e w1 ⟨rfl, hb1⟩
  have HG1 := Lib.hid (HG.out.below hb1 HG.out.lt)
  have HB1 := Lib.hid (hb1.mono (Nat.le_of_lt HG.out.lt))
  have HO1 := Lib.hid (fun k (hk : k < w.heap.size) => hb1.block k hk)
  clear hb1
  go_wp2_with (refine wpList_st rfl 28 (.tmp 76) (.tmp 74) rfl g 20 rfl (.agg (idC y)) (idC y) rfl rfl info_id (id_all _) HG1.out (Nat.le_of_ble_eq_true rfl) (C' := pdC (getF p y 9)) (by kernel_rfl) ?_; intro w9 hst; refine Hid.out ?_)
  refine Lib.hid ?_
  have HE : Hid (GetPost w g (getF p y 9) (.returned (.tuple #[])) w9) := Lib.hid ⟨rfl, hst.1, HB1.out.trans (hst.2.1 g (Nat.le_refl _)), fun k hk hne => (hst.2.2 k hne).trans (HO1.out k hk)⟩
  clear hst
  go_wp2_with fail
  exact bodyPost_end (results_none rfl _ _ _) rfl HE.out
set_option maxHeartbeats 2000000 in
set_option maxRecDepth 100000 in
theorem get_13 (p : Pd) (y : Nat → Int) (g b off c : Nat) (w : World) (hg : PdT 125 w g p) (hr : Row8 w b off (fsz 13) y) (hc : fsz 13 ≤ c) (hcm : c ≤ maxLen) :
    Calls Try.prog 109 #[.pointer (some ⟨g, 0, none⟩), .int .i64 13, .slice (some ⟨b, off, none⟩) (fsz 13) c] w (GetPost w g (getF p y 13)) := by
  rw [show fsz 13 = 8 from rfl] at *
  have HG := Lib.hid hg
  have HK := Lib.hid (getID_any b off c y w hr hc hcm)
  clear hr hg
  go_enter Try.func109, Try.ntmps109
  go_wp2_with fail
  refine HK.out.mono ?_
  rintro e w1 ⟨rfl, hb1⟩
  have HG1 := Lib.hid (HG.out.below hb1 HG.out.lt)
  have HB1 := Lib.hid (hb1.mono (Nat.le_of_lt HG.out.lt))
  have HO1 := Lib.hid (fun k (hk : k < w.heap.size) => hb1.block k hk)
  clear hb1
  go_wp2_with (refine wpList_st rfl 28 (.tmp 99) (.tmp 97) rfl g 30 rfl (.agg (idC y)) (idC y) rfl rfl info_id (id_all _) HG1.out (Nat.le_of_ble_eq_true rfl) (C' := pdC (getF p y 13)) (by kernel_rfl) ?_; intro w9 hst; refine Hid.out ?_)
  refine Lib.hid ?_
  have HE : Hid (GetPost w g (getF p y 13) (.returned (.tuple #[])) w9) := Lib.hid ⟨rfl, hst.1, HB1.out.trans (hst.2.1 g (Nat.le_refl _)), fun k hk hne => (hst.2.2 k hne).trans (HO1.out k hk)⟩
  clear hst
  go_wp2_with fail
  exact bodyPost_end (results_none rfl _ _ _) rfl HE.out
set_option maxHeartbeats 2000000 in
set_option maxRecDepth 100000 in
theorem get_14 (p : Pd) (y : Nat → Int) (g b off c : Nat) (w : World) (hg : PdT 125 w g p) (hr : Row8 w b off (fsz 14) y) (hc : fsz 14 ≤ c) (hcm : c ≤ maxLen) :
    Calls Try.prog 109 #[.pointer (some ⟨g, 0, none⟩), .int .i64 14, .slice (some ⟨b, off, none⟩) (fsz 14) c] w (GetPost w g (getF p y 14)) := by
  rw [show fsz 14 = 8 from rfl] at *
  have HG := Lib.hid hg
  have HK := Lib.hid (getID_any b off c y w hr hc hcm)
  clear hr hg
  go_enter Try.func109, Try.ntmps109
  go_wp2_with fail
  refine HK.out.mono ?_
  rintro e w1 ⟨rfl, hb1⟩
  have HG1 := Lib.hid (HG.out.below hb1 HG.out.lt)
  have HB1 := Lib.hid (hb1.mono (Nat.le_of_lt HG.out.lt))
  have HO1 := Lib.hid (fun k (hk : k < w.heap.size) => hb1.block k hk)
  clear hb1
  go_wp2_with (refine wpList_st rfl 28 (.tmp 106) (.tmp 104) rfl g 38 rfl (.agg (idC y)) (idC y) rfl rfl info_id (id_all _) HG1.out (Nat.le_of_ble_eq_true rfl) (C' := pdC (getF p y 14)) (by kernel_rfl) ?_; intro w9 hst; refine Hid.out ?_)
  refine Lib.hid ?_
  have HE : Hid (GetPost w g (getF p y 14) (.returned (.tuple #[])) w9) := Lib.hid ⟨rfl, hst.1, HB1.out.trans (hst.2.1 g (Nat.le_refl _)), fun k hk hne => (hst.2.2 k hne).trans (HO1.out k hk)⟩
  clear hst
  go_wp2_with fail
  exact bodyPost_end (results_none rfl _ _ _) rfl HE.out
set_option maxHeartbeats 2000000 in
set_option maxRecDepth 100000 in
theorem get_3 (p : Pd) (y : Nat → Int) (g b off c : Nat) (w : World) (hg : PdT 125 w g p) (hr : Row8 w b off (fsz 3) y) (hc : fsz 3 ≤ c) (hcm : c ≤ maxLen) :
    Calls Try.prog 109 #[.pointer (some ⟨g, 0, none⟩), .int .i64 3, .slice (some ⟨b, off, none⟩) (fsz 3) c] w (GetPost w g (getF p y 3)) := by
  rw [show fsz 3 = 2 from rfl] at *
  have HG := Lib.hid hg
  have hzb := numZ_lt y 0 2 hr.2.2
  have HK := Lib.hid (getNumber_any b off 2 c y w hr (by omega) (by omega) hc hcm)
  obtain ⟨N, hN⟩ : ∃ N, (numZ y 0 2).toNat = N := ⟨_, rfl⟩
  have hNb : N ≤ 65535 := by
    have e : (256 : Int) ^ 2 = 65536 := by decide
    omega
  have HW := Lib.hid (wI N hNb)
  have hw := HW.out
  rw [hN] at HK
  have HF : Hid (putMany (pdC p) 9 #[Value.int .i64 (N : Int)].toList = pdC (getF p y 3)) := Lib.hid (by rw [← hN]; kernel_rfl)
  clear hr hg hzb hN
  go_enter Try.func109, Try.ntmps109
  go_wp2_with fail
  refine HK.out.mono ?_
  rintro e w1 ⟨rfl, rfl⟩
  go_wp2_with (refine wpList_st rfl 3 (.tmp 38) (.tmp 36) rfl g 9 rfl (.int .i64 (N : Int)) #[.int .i64 (N : Int)] rfl rfl (by kernel_rfl) (by kernel_rfl) HG.out (Nat.le_of_ble_eq_true rfl) HF.out ?_; intro w9 hst; refine Hid.out ?_)
  refine Lib.hid ?_
  have HE : Hid (GetPost w1 g (getF p y 3) (.returned (.tuple #[])) w9) := Lib.hid ⟨rfl, hst.1, hst.2.1 g (Nat.le_refl _), fun k hk hne => hst.2.2 k hne⟩
  clear hst
  go_wp2_with fail
  exact bodyPost_end (results_none rfl _ _ _) rfl HE.out
set_option maxHeartbeats 2000000 in
set_option maxRecDepth 100000 in
theorem get_8 (p : Pd) (y : Nat → Int) (g b off c : Nat) (w : World) (hg : PdT 125 w g p) (hr : Row8 w b off (fsz 8) y) (hc : fsz 8 ≤ c) (hcm : c ≤ maxLen) :
    Calls Try.prog 109 #[.pointer (some ⟨g, 0, none⟩), .int .i64 8, .slice (some ⟨b, off, none⟩) (fsz 8) c] w (GetPost w g (getF p y 8)) := by
  rw [show fsz 8 = 2 from rfl] at *
  have HG := Lib.hid hg
  have hzb := numZ_lt y 0 2 hr.2.2
  have HK := Lib.hid (getNumber_any b off 2 c y w hr (by omega) (by omega) hc hcm)
  obtain ⟨N, hN⟩ : ∃ N, (numZ y 0 2).toNat = N := ⟨_, rfl⟩
  have hNb : N ≤ 65535 := by
    have e : (256 : Int) ^ 2 = 65536 := by decide
    omega
  have HW := Lib.hid (wI N hNb)
  have hw := HW.out
  rw [hN] at HK
  have HF : Hid (putMany (pdC p) 19 #[Value.int .i64 (N : Int)].toList = pdC (getF p y 8)) := Lib.hid (by rw [← hN]; kernel_rfl)
  clear hr hg hzb hN
  go_enter Try.func109, Try.ntmps109
  go_wp2_with fail
  refine HK.out.mono ?_
  rintro e w1 ⟨rfl, rfl⟩
  go_wp2_with (refine wpList_st rfl 3 (.tmp 69) (.tmp 67) rfl g 19 rfl (.int .i64 (N : Int)) #[.int .i64 (N : Int)] rfl rfl (by kernel_rfl) (by kernel_rfl) HG.out (Nat.le_of_ble_eq_true rfl) HF.out ?_; intro w9 hst; refine Hid.out ?_)
  refine Lib.hid ?_
  have HE : Hid (GetPost w1 g (getF p y 8) (.returned (.tuple #[])) w9) := Lib.hid ⟨rfl, hst.1, hst.2.1 g (Nat.le_refl _), fun k hk hne => hst.2.2 k hne⟩
  clear hst
  go_wp2_with fail
  exact bodyPost_end (results_none rfl _ _ _) rfl HE.out
set_option maxHeartbeats 2000000 in
set_option maxRecDepth 100000 in
theorem get_10 (p : Pd) (y : Nat → Int) (g b off c : Nat) (w : World) (hg : PdT 125 w g p) (hr : Row8 w b off (fsz 10) y) (hc : fsz 10 ≤ c) (hcm : c ≤ maxLen) :
    Calls Try.prog 109 #[.pointer (some ⟨g, 0, none⟩), .int .i64 10, .slice (some ⟨b, off, none⟩) (fsz 10) c] w (GetPost w g (getF p y 10)) := by
  rw [show fsz 10 = 4 from rfl] at *
  have HG := Lib.hid hg
  have hzb := numZ_lt y 0 4 hr.2.2
  have HK := Lib.hid (getNumber_any b off 4 c y w hr (by omega) (by omega) hc hcm)
  obtain ⟨N, hN⟩ : ∃ N, (numZ y 0 4).toNat = N := ⟨_, rfl⟩
  have hNb : N ≤ 4294967295 := by
    have e : (256 : Int) ^ 4 = 4294967296 := by decide
    omega
  have HW := Lib.hid (wU4 N hNb)
  have hw := HW.out
  rw [hN] at HK
  have HF : Hid (putMany (pdC p) 28 #[Value.int .u32 (N : Int)].toList = pdC (getF p y 10)) := Lib.hid (by rw [← hN]; kernel_rfl)
  clear hr hg hzb hN
  go_enter Try.func109, Try.ntmps109
  go_wp2_with fail
  refine HK.out.mono ?_
  rintro e w1 ⟨rfl, rfl⟩
  go_wp2_with (refine wpList_st rfl 29 (.tmp 84) (.tmp 82) rfl g 28 rfl (.int .u32 (N : Int)) #[.int .u32 (N : Int)] rfl rfl (by kernel_rfl) (by kernel_rfl) HG.out (Nat.le_of_ble_eq_true rfl) HF.out ?_; intro w9 hst; refine Hid.out ?_)
  refine Lib.hid ?_
  have HE : Hid (GetPost w1 g (getF p y 10) (.returned (.tuple #[])) w9) := Lib.hid ⟨rfl, hst.1, hst.2.1 g (Nat.le_refl _), fun k hk hne => hst.2.2 k hne⟩
  clear hst
  go_wp2_with fail
  exact bodyPost_end (results_none rfl _ _ _) rfl HE.out
set_option maxHeartbeats 2000000 in
set_option maxRecDepth 100000 in
theorem get_4 (p : Pd) (y : Nat → Int) (g b off c : Nat) (w : World) (hg : PdT 125 w g p) (hr : Row8 w b off (fsz 4) y) (hc : fsz 4 ≤ c) (hcm : c ≤ maxLen) :
    Calls Try.prog 109 #[.pointer (some ⟨g, 0, none⟩), .int .i64 4, .slice (some ⟨b, off, none⟩) (fsz 4) c] w (GetPost w g (getF p y 4)) := by
  rw [show fsz 4 = 2 from rfl] at *
  have HG := Lib.hid hg
  clear hr hg
  go_enter Try.func109, Try.ntmps109
  go_wp2_with fail
  exact bodyPost_end (results_none rfl _ _ _) rfl ⟨rfl, HG.out, Below.refl _ _, fun _ _ _ => rfl⟩
set_option maxHeartbeats 2000000 in
set_option maxRecDepth 100000 in
theorem get_11 (p : Pd) (y : Nat → Int) (g b off c : Nat) (w : World) (hg : PdT 125 w g p) (hr : Row8 w b off (fsz 11) y) (hc : fsz 11 ≤ c) (hcm : c ≤ maxLen) :
    Calls Try.prog 109 #[.pointer (some ⟨g, 0, none⟩), .int .i64 11, .slice (some ⟨b, off, none⟩) (fsz 11) c] w (GetPost w g (getF p y 11)) := by
  rw [show fsz 11 = 2 from rfl] at *
  have HG := Lib.hid hg
  clear hr hg
  go_enter Try.func109, Try.ntmps109
  go_wp2_with fail
  exact bodyPost_end (results_none rfl _ _ _) rfl ⟨rfl, HG.out, Below.refl _ _, fun _ _ _ => rfl⟩
theorem get_any (p : Pd) (y : Nat → Int) (g b off c f : Nat) (hf : f ≤ 14) (w : World) (hg : PdT 125 w g p) (hr : Row8 w b off (fsz f) y) (hc : fsz f ≤ c) (hcm : c ≤ maxLen) :
    Calls Try.prog 109 #[.pointer (some ⟨g, 0, none⟩), .int .i64 (f : Int), .slice (some ⟨b, off, none⟩) (fsz f) c] w (GetPost w g (getF p y f)) := by
  rcases (by omega : f = 0 ∨ f = 1 ∨ f = 2 ∨ f = 3 ∨ f = 4 ∨ f = 5 ∨ f = 6 ∨ f = 7 ∨ f = 8 ∨ f = 9 ∨ f = 10 ∨ f = 11 ∨ f = 12 ∨ f = 13 ∨ f = 14) with rfl | rfl | rfl | rfl | rfl | rfl | rfl | rfl | rfl | rfl | rfl | rfl | rfl | rfl | rfl
  · exact get_0 p y g b off c w hg hr hc hcm
  · exact get_1 p y g b off c w hg hr hc hcm
  · exact get_2 p y g b off c w hg hr hc hcm
  · exact get_3 p y g b off c w hg hr hc hcm
  · exact get_4 p y g b off c w hg hr hc hcm
  · exact get_5 p y g b off c w hg hr hc hcm
  · exact get_6 p y g b off c w hg hr hc hcm
  · exact get_7 p y g b off c w hg hr hc hcm
  · exact get_8 p y g b off c w hg hr hc hcm
  · exact get_9 p y g b off c w hg hr hc hcm
  · exact get_10 p y g b off c w hg hr hc hcm
  · exact get_11 p y g b off c w hg hr hc hcm
  · exact get_12 p y g b off c w hg hr hc hcm
  · exact get_13 p y g b off c w hg hr hc hcm
  · exact get_14 p y g b off c w hg hr hc hcm
end Go.Proofs.Ytkiaijmhoikdiaa

/- bytes.Equal and bytes.HasPrefix. Each theorem states its conditions. -/
namespace Go.Proofs.Ytkiaijmhoikdiaa
open Go.RowKit
set_option linter.unusedVariables false

def bsL (z : Nat → Int) (n : Nat) : List UInt8 := (List.range n).map fun j => UInt8.ofNat (z j).toNat
def bsS (z : Nat → Int) (n : Nat) : ByteArray := ⟨(bsL z n).toArray⟩
theorem bsL_len (z : Nat → Int) (n : Nat) : (bsL z n).length = n := by simp [bsL]
theorem bsL_at (z : Nat → Int) (hz : ∀ j, 0 ≤ z j ∧ z j ≤ 255) (n j : Nat) (h : j < (bsL z n).length) : (((bsL z n)[j]).toNat : Int) = z j := by
  have := hz j
  simp [bsL]
  omega
theorem conv_row {w : World} {b off n : Nat} {z : Nat → Int} (h : Row8 w b off n z) (c : Nat) : (convert 43 9 (.slice (some ⟨b, off, none⟩) n c)).run Try.prog w = .ok (.string (bsS z n)) w := by
  have := run_convert_bytes_back (P := Try.prog) w 43 9 5 ⟨b, off, none⟩ c (bsL z n) Try.underlying43 Try.underlying5 Try.underlying9 (fun j hj => by
    rw [add_none, bsL_at z h.2.2 n j hj]
    exact h.2.1 j (by rwa [bsL_len] at hj))
  rw [bsL_len] at this
  exact this
theorem bsS_eq {z z' : Nat → Int} {n : Nat} (h : ∀ j, j < n → z j = z' j) : bsS z n = bsS z' n := by
  unfold bsS bsL
  congr 2
  apply List.map_congr_left
  intro j hj
  rw [h j (by simpa using hj)]
theorem bsS_inj {z z' : Nat → Int} {n : Nat} (hz : ∀ j, 0 ≤ z j ∧ z j ≤ 255) (hz' : ∀ j, 0 ≤ z' j ∧ z' j ≤ 255) (h : bsS z n = bsS z' n) : ∀ j, j < n → z j = z' j := by
  intro j hj
  have e : bsL z n = bsL z' n := by
    have := congrArg (fun s : ByteArray => s.data.toList) h
    simpa [bsS] using this
  have h1 := bsL_at z hz n j (by rw [bsL_len]; exact hj)
  have h2 := bsL_at z' hz' n j (by rw [bsL_len]; exact hj)
  rw [← h1, ← h2]
  simp only [e]
/-- the first n bytes are the same -/
def eqB (z z' : Nat → Int) (n : Nat) : Bool := bsL z n == bsL z' n
theorem eqB_list (z z' : Nat → Int) (n : Nat) : ((bsS z n).toList == (bsS z' n).toList) = eqB z z' n := by
  rw [ByteArray.toList_eq, ByteArray.toList_eq]
  rfl
theorem eqB_iff {z z' : Nat → Int} {n : Nat} (hz : ∀ j, 0 ≤ z j ∧ z j ≤ 255) (hz' : ∀ j, 0 ≤ z' j ∧ z' j ≤ 255) : eqB z z' n = true ↔ ∀ j, j < n → z j = z' j := by
  unfold eqB
  rw [beq_iff_eq]
  constructor
  · intro e
    exact bsS_inj hz hz' (by unfold bsS; rw [e])
  · intro h
    have := bsS_eq h
    unfold bsS at this
    have h2 := congrArg (fun s : ByteArray => s.data.toList) this
    simpa using h2
theorem equal_any (b off n c g off' c' : Nat) (z z' : Nat → Int) (r : Bool) (w : World) (h : Row8 w b off n z) (h' : Row8 w g off' n z') (hr : eqB z z' n = r) :
    Calls Try.prog 120 #[.slice (some ⟨b, off, none⟩) n c, .slice (some ⟨g, off', none⟩) n c'] w fun e w' => e = .returned (.bool r) ∧ w = w' := by
  have h1 := conv_row h c
  have h2 := conv_row h' c'
  rw [← eqB_list] at hr
  obtain ⟨s, hs⟩ : ∃ s, bsS z n = s := ⟨_, rfl⟩
  obtain ⟨t, ht⟩ : ∃ t, bsS z' n = t := ⟨_, rfl⟩
  rw [hs] at h1 hr
  rw [ht] at h2 hr
  have HR := Lib.hid hr
  clear h h' hs ht hr
  obtain ⟨q, hq⟩ : ∃ q, (s.toList == t.toList) = q := ⟨_, rfl⟩
  have HQ : Hid (q = r) := Lib.hid (by rw [← hq]; exact HR.out)
  clear HR
  go_enter Try.func120, Try.ntmps120
  go_wp2_with fail
  go_ret
  exact ⟨by rw [← HQ.out]; rfl, rfl⟩
theorem starts_any (b off n c g c' : Nat) (z z' : Nat → Int) (r : Bool) (w : World) (h : Row8 w b off n z) (h' : Row8 w g 0 8 z') (hr : eqB z z' 8 = r) (hn : 8 ≤ n) (hc : n ≤ c) (hcm : c ≤ 9223372036854775807) :
    Calls Try.prog 105 #[.slice (some ⟨b, off, none⟩) n c, .slice (some ⟨g, 0, none⟩) 8 c'] w fun e w' => e = .returned (.bool r) ∧ w = w' := by
  have HE := Lib.hid (equal_any b off 8 c g 0 c' z z' r w (h.cut 8 hn) h' hr)
  clear h h' hr
  go_enter Try.func105, Try.ntmps105
  go_wp2_with fail
  refine HE.out.mono ?_
  rintro e w1 ⟨rfl, rfl⟩
  go_wp2_with fail
  go_ret
  exact ⟨rfl, rfl⟩
end Go.Proofs.Ytkiaijmhoikdiaa

/- pdu.Write writes a packet. Each theorem states its conditions. -/
namespace Go.Proofs.Ytkiaijmhoikdiaa
open Go.RowKit
set_option linter.unusedVariables false

theorem pdC_0 (p : Pd) : (pdC p)[0]? = some (.int .u8 p.kd) := rfl
theorem pdC_46 (p : Pd) : (pdC p)[46]? = some (.slice p.A p.m p.c) := rfl
theorem sz_le (L : Nat → It) (m m0 : Nat) (h : JEnds L m m0) : sz L m0 ≤ 1492 := by
  rcases Nat.eq_zero_or_pos m0 with h0 | h0
  · subst h0; simp [sz]
  · have := h.2.1 (m0 - 1) (by omega)
    unfold bad at this
    rw [show m0 - 1 + 1 = m0 by omega] at this
    omega
/-- a packet that is written: where its TLVs lie -/
def PdIn (w : World) (p : Pd) (L : Nat → It) : Prop := RdT w p.A p.m L ∧ p.m ≤ p.c ∧ p.c ≤ 9223372036854775807
theorem RdT.below' {w w' : World} {A : Option Addr} {m : Nat} {L : Nat → It} (h : RdT w A m L) (hb : Below w.heap.size w w') : RdT w' A m L := h.below hb
end Go.Proofs.Ytkiaijmhoikdiaa

/- The document's example of pdu, run: waymarklaw06.awake returns true. No condition. -/
namespace Go.Proofs.Ytkiaijmhoikdiaa
open Go.RowKit
set_option linter.unusedVariables false

def lX : Nat → It := fun _ => ⟨0, none, 0, 0, fun _ => 0⟩
end Go.Proofs.Ytkiaijmhoikdiaa

/- pdu.Write, all ways told as one. Each theorem states its conditions. -/
namespace Go.Proofs.Ytkiaijmhoikdiaa
open Go.RowKit
set_option linter.unusedVariables false

/-- n bytes and a number -/
def WrP (w : World) (n : Nat) (X : Int) (z : Nat → Int) (e : Ending) (w' : World) : Prop :=
  ∃ A c, e = .returned (.tuple #[.slice A n c, .int .i64 X]) ∧ Rd w' A n z ∧ n ≤ c ∧ c ≤ maxLen ∧ Below w.heap.size w w' ∧ (X = 0 → ∃ g, A = some ⟨g, 0, none⟩ ∧ w.heap.size ≤ g ∧ Own8 w' g n c z)
/-- what Write says, how many bytes, which -/
def wrX (p : Pd) (L : Nat → It) (m0 : Nat) : Int := if cls p.kd = 5 ∨ fitP p (cls p.kd) = false then 1 else if m0 < p.m ∨ 1492 < hdN (cls p.kd) + sz L p.m then 2 else 0
def wrN (p : Pd) (L : Nat → It) (m0 : Nat) : Nat := if wrX p L m0 = 0 then hdN (cls p.kd) + sz L p.m else 0
def wrZ (p : Pd) (L : Nat → It) (m0 : Nat) : Nat → Int := if wrX p L m0 = 0 then pdZ p (cls p.kd) L else fun _ => 0
theorem cls_le (k : Int) : cls k ≤ 5 := by unfold cls; (repeat' split) <;> omega
theorem wr_none {w w' : World} {X : Int} {e : Ending} (hX : X ≠ 0) (he : e = .returned (.tuple #[.slice none 0 0, .int .i64 X])) (hb : Below w.heap.size w w') : WrP w 0 X (fun _ => 0) e w' :=
  ⟨none, 0, he, ⟨.inl rfl, fun _ => ⟨Int.le_refl 0, (by decide : (0 : Int) ≤ 255)⟩⟩, Nat.le_refl _, by decide, hb, fun h => absurd h hX⟩
theorem wr_1 (p : Pd) (L : Nat → It) (m0 : Nat) (h : cls p.kd = 5 ∨ fitP p (cls p.kd) = false) : wrX p L m0 = 1 ∧ wrN p L m0 = 0 ∧ wrZ p L m0 = fun _ => 0 := by
  have h1 : wrX p L m0 = 1 := if_pos h
  refine ⟨h1, ?_, ?_⟩
  · unfold wrN; rw [h1]; rfl
  · unfold wrZ; rw [h1]; rfl
theorem wr_2 (p : Pd) (L : Nat → It) (m0 : Nat) (h : ¬ (cls p.kd = 5 ∨ fitP p (cls p.kd) = false)) (h2 : m0 < p.m ∨ 1492 < hdN (cls p.kd) + sz L p.m) : wrX p L m0 = 2 ∧ wrN p L m0 = 0 ∧ wrZ p L m0 = fun _ => 0 := by
  have h1 : wrX p L m0 = 2 := by unfold wrX; rw [if_neg h, if_pos h2]
  refine ⟨h1, ?_, ?_⟩
  · unfold wrN; rw [h1]; rfl
  · unfold wrZ; rw [h1]; rfl
theorem wr_0 (p : Pd) (L : Nat → It) (m0 : Nat) (h : ¬ (cls p.kd = 5 ∨ fitP p (cls p.kd) = false)) (h2 : ¬ (m0 < p.m ∨ 1492 < hdN (cls p.kd) + sz L p.m)) : wrX p L m0 = 0 ∧ wrN p L m0 = hdN (cls p.kd) + sz L p.m ∧ wrZ p L m0 = pdZ p (cls p.kd) L := by
  have h1 : wrX p L m0 = 0 := by unfold wrX; rw [if_neg h, if_neg h2]
  refine ⟨h1, ?_, ?_⟩
  · unfold wrN; rw [if_pos h1]
  · unfold wrZ; rw [if_pos h1]
theorem fitsTo_congr {p p' : Pd} {q : Nat} (n : Nat) (h : ∀ i, i < n → fitB p (fAt q i) = fitB p' (fAt q i)) : fitsTo p q n = fitsTo p' q n := by
  induction n with
  | zero => rfl
  | succ n ih => simp only [fitsTo, ih fun i hi => h i (by omega), h n (by omega)]
end Go.Proofs.Ytkiaijmhoikdiaa

/- pdu.readFields reads what stands ahead of the TLVs. Each theorem states its conditions. -/
namespace Go.Proofs.Ytkiaijmhoikdiaa
open Go.RowKit
set_option linter.unusedVariables false

theorem alloc_P' (o : Oper) (e : Operand → Value) (ho : o.op = .alloc 125) (W W' : World) (n : Nat) (hn : W.heap.size = n) (hW : W.alloc (.cells (pdC pd0) 125) = W') : (execOp e o).run Try.prog W = .ok (.value (.pointer (some ⟨n, 0, none⟩))) W' := by
  subst hn hW
  exact alloc_P o e ho W
theorem results_rf {fn : Func} {q u v : Tmp} (h : fn.results = #[.cell q 125, .tmp u, .tmp v]) (tmps : Array Value) (W : World) (g : Nat) (p : Pd) (x y : Value)
    (hp : tmps.getD q undef = .pointer (some ⟨g, 0, none⟩)) (hg : PdT 125 W g p) (hx : tmps.getD u undef = x) (hy : tmps.getD v undef = y) : (results fn tmps).run Try.prog W = .ok (.tuple #[.agg (pdC p), x, y]) W := by
  have h1 := run_loadVar_row (P := Try.prog) W g 125 125 (pdC p) (0, 0) _ hg Try.underlying125 rfl info_pdP
  have hp' : (tmps[q]?).getD undef = .pointer (some ⟨g, 0, none⟩) := by simpa using hp
  have hx' : (tmps[u]?).getD undef = x := by simpa using hx
  have hy' : (tmps[v]?).getD undef = y := by simpa using hy
  simp only [results, h]
  simp [hp', hx', hy', asAddr, h1]
/-- nothing but a kind -/
def kdP (k : Int) : Pd := ⟨k, 0, z0, 0, 0, 0, z0, 0, z0, 0, 0, z0, z0, none, 0, 0⟩
/-- what the first i fields are -/
def rdF (q : Nat) (z : Nat → Int) : Nat → Pd
  | 0 => kdP (z 4)
  | i + 1 => getF (rdF q z i) (fun j => z (accN q i + j)) (fAt q i)
def rdP (q : Nat) (z : Nat → Int) : Pd := rdF q z (flC q).length
theorem accN_mono (q i k : Nat) (h : i ≤ k) : accN q i ≤ accN q k := by
  induction k with
  | zero => obtain rfl : i = 0 := by omega
            exact Nat.le_refl _
  | succ k ih =>
    by_cases e : i = k + 1
    · subst e; exact Nat.le_refl _
    · have := ih (by omega); simp only [accN]; omega
theorem accN_hd (q i : Nat) (h : i < (flC q).length) : accN q i + fsz (fAt q i) ≤ hdN q := accN_mono q (i + 1) _ h
/-- the length that is told at field i -/
def toldN (q : Nat) (z : Nat → Int) (i : Nat) : Nat := (numZ (fun j => z (accN q i + j)) 0 2).toNat
/-- the first field that tells another length, or the end -/
def LEndsF (q : Nat) (z : Nat → Int) (n m : Nat) : Prop := m ≤ (flC q).length ∧ (∀ i, i < m → fAt q i = 4 → toldN q z i = n) ∧ (m = (flC q).length ∨ (m < (flC q).length ∧ fAt q m = 4 ∧ toldN q z m ≠ n))
end Go.Proofs.Ytkiaijmhoikdiaa

/- pdu.readFields: the fields. Each theorem states its conditions. -/
namespace Go.Proofs.Ytkiaijmhoikdiaa
open Go.RowKit
set_option linter.unusedVariables false

theorem run_from (W : World) (b off n c l : Nat) (h1 : l ≤ n) (h2 : n ≤ c) (hcm : c ≤ 9223372036854775807) :
    (Instr.sliceAt 43 (.slice (some ⟨b, off, none⟩) n c) (some (.int .i64 (l : Int))) none none).run Try.prog W = .ok (.slice (if c = l then some ⟨b, off, none⟩ else some ⟨b, off + l, none⟩) (n - l) (c - l)) W := by
  have hu := run_underlying (w := W) Try.underlying43
  obtain ⟨i0, hi, hz0, hz1, hz2⟩ := info_parts info_u8
  have g2 : (0 : Int) ≤ (l : Int) ∧ (l : Int) ≤ (n : Int) := by omega
  by_cases hc : c = l
  · simp [Instr.sliceAt, Instr.slice, Instr.sliceBounds, Instr.sliceBound, hu, go_sem, g2, Addr.add, hc]
    intro h3; omega
  · simp [Instr.sliceAt, Instr.slice, Instr.sliceBounds, Instr.sliceBound, hu, go_sem, g2, Addr.add, hc]
    rw [if_pos h1]
    by_cases h0 : l = 0
    · subst h0; simp
    · simp [h0]
theorem slice_op (o : Oper) (e : Operand → Value) (x y : Operand) (ho : o.op = .slice 43 x (some y) none none) (vx vy : Value) (hx : e x = vx) (hy : e y = vy) (v : Value) {W : World} (h : (Instr.sliceAt 43 vx (some vy) none none).run Try.prog W = .ok v W) :
    (execOp e o).run Try.prog W = .ok (.value v) W := by
  unfold execOp
  simp [ho, hx, hy, h, Result.andThen]
/-- the fields were read -/
def RfOk (w : World) (b off n c q : Nat) (z : Nat → Int) (r : Bool) (e : Ending) (w' : World) : Prop :=
  e = .returned (.tuple #[.agg (pdC (rdP q z)), .slice (if c = hdN q then some ⟨b, off, none⟩ else some ⟨b, off + hdN q, none⟩) (n - hdN q) (c - hdN q), .bool r]) ∧ Below w.heap.size w w'
set_option maxHeartbeats 4000000 in
set_option maxRecDepth 100000 in
theorem rf_ok (b off n c : Nat) (z : Nat → Int) (w : World) (hr : Row8 w b off n z) (hc : n ≤ c) (hcm : c ≤ maxLen) (h : 8 ≤ n) (q : Nat) (hk : cls (z 4) = q) (hq : q ≤ 4) (hh : hdN q ≤ n) (hn2 : n ≤ 1492) (hs : eqB z (headZ (z 4) (hdN q)) 8 = true) (m : Nat) (hm : LEndsF q z n m) (hend : m = (flC q).length) (r : Bool) (hft : fitP (rdP q z) q = r) : Calls Try.prog 79 #[.slice (some ⟨b, off, none⟩) n c] w (RfOk w b off n c q z r) := by
  have hbw := hr.1
  have hzz := hr.2.2
  have HCM := Lib.hid hcm
  have hn8 : (8 : Int) ≤ (n : Int) := by omega
  have HF := Lib.hid (fields_any (z 4) q hk hq)
  have hlen := fl_len q hq
  have hhd := hdN_bd q hq
  obtain ⟨k1, hk1⟩ : ∃ k1, (flC q).length = k1 := ⟨_, rfl⟩
  obtain ⟨H, hH⟩ : ∃ H, hdN q = H := ⟨_, rfl⟩
  rw [hk1] at hlen HF
  rw [hH] at hhd
  have HN := Lib.hid hk1
  have HH := Lib.hid hH
  have HK := Lib.hid hk
  have HQ := Lib.hid hq
  have hn0 : ((k1 : Int) == 0) = false := by simp; omega
  have HM := Lib.hid hm
  have hmk := hm.1
  rw [hk1] at hmk
  rw [hH] at hh hs
  have hhI : (H : Int) ≤ (n : Int) := by omega
  have HS := Lib.hid hs
  have hd8 : decide ((n : Int) < 8) = false := decide_eq_false (by omega)
  have hdH : decide (n < H) = false := decide_eq_false (by omega)
  have HFT := Lib.hid hft
  clear hft
  rw [hk1] at hend
  clear hk hq hk1 hH hs hm
  unfold maxLen at hcm
  obtain ⟨W1, hW1⟩ : ∃ W1, w.alloc (.cells (pdC pd0) 125) = W1 := ⟨_, rfl⟩
  obtain ⟨g, hg⟩ : ∃ g, w.heap.size = g := ⟨_, rfl⟩
  have HG1 : Hid (PdT 125 W1 g pd0) := Lib.hid (by rw [← hW1, ← hg]; exact heap_alloc_new w _)
  have HB1 : Hid (Below w.heap.size w W1) := Lib.hid (by rw [← hW1]; exact (bself w).alloc (Nat.le_refl _) _)
  have HR1 := Lib.hid (hr.below HB1.out hbw)
  have HW1 := Lib.hid hW1
  have HGG := Lib.hid hg
  rw [hg] at hbw
  clear hr hW1 hg
  go_enter Try.func79, Try.ntmps79
  have c4 : W1.cell? ⟨b, off + 4, none⟩ = some (.int .u8 (z 4)) := HR1.out.2.1 4 (by omega)
  go_wp2_with (first
    | (refine wpList_v (op := ⟨some 2, _, _, _, _, _⟩) rfl _ (alloc_P' _ _ rfl w W1 g HGG.out HW1.out) ?_)
    | (refine wpList_st rfl 5 (.tmp 18) (.tmp 17) rfl g 0 rfl (.int .u8 (z 4)) #[.int .u8 (z 4)] rfl rfl (by kernel_rfl) (by kernel_rfl) HG1.out (Nat.le_of_ble_eq_true rfl) (C' := pdC (kdP (z 4))) (by kernel_rfl) ?_; intro w2 hst2; refine Hid.out ?_))
  refine Lib.hid ?_
  have HG2 : Hid (PdT 125 w2 g (kdP (z 4))) := Lib.hid hst2.1
  have HB2 : Hid (Below w.heap.size w w2) := Lib.hid (HB1.out.trans (hst2.2.1 _ (by rw [HGG.out]; exact Nat.le_refl _)))
  have HR2 := Lib.hid (HR1.out.below (hst2.2.1 g (Nat.le_refl _)) hbw)
  have c0 : w2.cell? ⟨g, 0, none⟩ = some (.int .u8 (z 4)) := (HG2.out.cell 0).trans rfl
  clear hst2 HG1 HB1 HR1 c4
  go_wp2_with fail
  refine (HF.out _).mono ?_
  rintro e w3 ⟨rfl, hf3, hb3⟩
  have HFl3 : Hid (FlAt w3 w2.heap.size q) := Lib.hid hf3
  have HG3 := Lib.hid (HG2.out.below hb3 HG2.out.lt)
  have HR3 := Lib.hid (HR2.out.below hb3 HR2.out.1)
  have HB3 := Lib.hid (HB2.out.trans (hb3.mono HB2.out.size))
  have hgg : g < w2.heap.size := HG2.out.lt
  obtain ⟨g1, hg1⟩ : ∃ g1, w2.heap.size = g1 := ⟨_, rfl⟩
  rw [hg1] at HFl3 hgg ⊢
  clear hf3 hb3 hg1 c0
  have HAH := Lib.hid (ahead_any g1 q HQ.out w3 HFl3.out)
  rw [HN.out, HH.out] at HAH
  go_wp2_with fail
  refine HAH.out.mono ?_
  rintro e w4 ⟨rfl, rfl⟩
  have c0 : w3.cell? ⟨g, 0, none⟩ = some (.int .u8 (z 4)) := (HG3.out.cell 0).trans rfl
  have HHD := Lib.hid (head_any (z 4) H (hzz 4) (by omega))
  go_wp2_with fail
  refine (HHD.out _).mono ?_
  rintro e w5 ⟨rfl, ho5, hb5⟩
  have HG5 := Lib.hid (HG3.out.below hb5 HG3.out.lt)
  have HR5 := Lib.hid (HR3.out.below hb5 HR3.out.1)
  have HFl5 := Lib.hid (HFl3.out.below hb5)
  have HB5 := Lib.hid (HB3.out.trans (hb5.mono HB3.out.size))
  have HP := Lib.hid (starts_any b off n c w3.heap.size 8 z (headZ (z 4) H) _ w5 HR5.out ho5.row HS.out (by omega) hc hcm)
  have hg15 : g1 < w5.heap.size := (Array.getElem?_eq_some_iff.1 HFl5.out).1
  clear ho5 hb5 c0
  go_wp2_with fail
  refine HP.out.mono ?_
  rintro e w6 ⟨rfl, rfl⟩
  go_wp2_with fail
  go_loopw [7, 45] (fun at_ i wr => ∃ k : Nat, k ≤ m ∧ i = .int .i64 k ∧ at_ = .int .i64 (accN q k : Nat) ∧ Hid (PdT 125 wr g (rdF q z k)) ∧ Hid (FlAt wr g1 q) ∧ Hid (Row8 wr b off n z) ∧ Hid (Below w.heap.size w wr)) (fun _ i _ => k1 - (intOf i).toNat)
  case atStart => exact ⟨0, Nat.zero_le _, rfl, rfl, HG5, HFl5, HR5, HB5⟩
  case round =>
    clear HG5 HFl5 HR5 HB5 HG3 HFl3 HR3 HB3 HG2 HR2 HB2
    obtain ⟨k, hk, rfl, rfl, HG, HFl, HR, HB⟩ := hrel
    by_cases hlt : k < k1
    · have ci := HFl.out.cell (i := k) (by rw [HN.out]; exact hlt)
      have hf := fAt_le q k HQ.out
      have hah := accN_hd q k (by rw [HN.out]; exact hlt)
      have hfz := fsz_bd (fAt q k)
      have hab := accN_bd q k
      have HA1 : Hid (accN q (k + 1) = accN q k + fsz (fAt q k)) := Lib.hid rfl
      have HT : Hid (k < m → fAt q k = 4 → (numZ (fun j => z (accN q k + j)) 0 2).toNat = n) := Lib.hid (fun h1 h2 => HM.out.2.1 k h1 h2)
      have HT2 : Hid (k = m → fAt q k = 4 ∧ (numZ (fun j => z (accN q k + j)) 0 2).toNat ≠ n) := Lib.hid (fun e => by
        rcases HM.out.2.2 with h | h
        · rw [HN.out] at h; omega
        · rw [e]; exact h.2)
      have HRD : Hid (rdF q z (k + 1) = getF (rdF q z k) (fun j => z (accN q k + j)) (fAt q k)) := Lib.hid rfl
      rw [HH.out] at hah
      obtain ⟨f, hf'⟩ : ∃ f, fAt q k = f := ⟨_, rfl⟩
      rw [hf'] at ci hf hah hfz HA1 HT HT2 HRD
      obtain ⟨an, han⟩ : ∃ an, accN q k = an := ⟨_, rfl⟩
      rw [han] at hah hab HA1 HT HT2 HRD ⊢
      clear hf' han
      have HSZ := Lib.hid (size_any f hf)
      have HRow := Lib.hid (HR.out.shift an (fsz f) (by omega))
      have HGet := Lib.hid (get_any (rdF q z k) (fun j => z (an + j)) g b (off + an) (c - an) f hf wr HG.out HRow.out (by omega) (by have := HCM.out; omega))
      have hfzf : fsz f ≤ 8 := hfz.2
      obtain ⟨fs, hfs⟩ : ∃ fs, fsz f = fs := ⟨_, rfl⟩
      have HFS := Lib.hid hfs
      rw [hfs] at hah hfz HA1 HSZ HRow HGet hfzf
      clear hfs
      have e1 : ¬ c = an := by omega
      have e2 : ¬ (c : Int) < (an : Int) := by omega
      go_wp2_with fail
      refine (HSZ.out _).mono ?_
      rintro e w7 ⟨rfl, rfl⟩
      by_cases hkm : k < m
      · have hg1l : g1 < wr.heap.size := (Array.getElem?_eq_some_iff.1 HFl.out).1
        by_cases hf4 : f = 4
        · have hnum := HT.out hkm hf4
          obtain rfl : fs = 2 := by rw [← HFS.out, hf4]; rfl
          have HGN := Lib.hid (getNumber_any b (off + an) 2 (c - an) (fun j => z (an + j)) wr HRow.out (by omega) (by omega) (by omega) (by have := HCM.out; omega))
          rw [hnum] at HGN
          have h4 : ((f : Int) == 4) = true := by simp; omega
          have hw := wrapU n (by omega)
          clear hnum hf4
          go_wp2_with fail
          simp only [Nat.add_sub_cancel_left]
          refine HGN.out.mono ?_
          rintro e w7 ⟨rfl, rfl⟩
          go_wp2_with fail
          refine HGet.out.mono ?_
          rintro e w8 ⟨rfl, hg8, hb8, ho8⟩
          have HG8 : Hid (PdT 125 w8 g (rdF q z (k + 1))) := Lib.hid (by rw [HRD.out]; exact hg8)
          have HFl8 : Hid (FlAt w8 g1 q) := Lib.hid ((ho8 g1 hg1l (by omega)).trans HFl.out)
          have HR8 := Lib.hid (HR.out.below hb8 hbw)
          have HB8 : Hid (Below w.heap.size w w8) := Lib.hid (HB.out.trans (by rw [HGG.out]; exact hb8))
          clear hg8 hb8 ho8
          go_wp2_with fail
          go_roundw
          case rel => exact ⟨k + 1, by omega, by go_num, by rw [HA1.out]; go_num, HG8, HFl8, HR8, HB8⟩
          case measure => simp only [intOf]; omega
        · have h4 : ((f : Int) == 4) = false := by simp; omega
          clear hf4
          go_wp2_with fail
          simp only [Nat.add_sub_cancel_left]
          refine HGet.out.mono ?_
          rintro e w8 ⟨rfl, hg8, hb8, ho8⟩
          have HG8 : Hid (PdT 125 w8 g (rdF q z (k + 1))) := Lib.hid (by rw [HRD.out]; exact hg8)
          have HFl8 : Hid (FlAt w8 g1 q) := Lib.hid ((ho8 g1 hg1l (by omega)).trans HFl.out)
          have HR8 := Lib.hid (HR.out.below hb8 hbw)
          have HB8 : Hid (Below w.heap.size w w8) := Lib.hid (HB.out.trans (by rw [HGG.out]; exact hb8))
          clear hg8 hb8 ho8
          go_wp2_with fail
          go_roundw
          case rel => exact ⟨k + 1, by omega, by go_num, by rw [HA1.out]; go_num, HG8, HFl8, HR8, HB8⟩
          case measure => simp only [intOf]; omega
      · exfalso; omega
    · obtain rfl : k = k1 := by omega
      have HGF : Hid (PdT 125 wr g (rdP q z)) := Lib.hid (by unfold rdP; rw [HN.out]; exact HG.out)
      have HAL := Lib.hid (allFit_any (rdP q z) g g1 q HQ.out wr.drew HGF.out HFl.out)
      rw [HN.out, HFT.out] at HAL
      have eH1 : ¬ (n : Int) < (H : Int) := by omega
      have eH2 : (H : Int) ≤ (c : Int) := by omega
      have HRUN := Lib.hid (fun W => run_from W b off n c H (by omega) hc hcm)
      have HHH2 : Hid (hdN q = H) := HH
      obtain ⟨A', hA'⟩ : ∃ A' : Option Addr, (if c = H then some ⟨b, off, none⟩ else some ⟨b, off + H, none⟩) = A' := ⟨_, rfl⟩
      rw [hA'] at HRUN
      have HA' := Lib.hid hA'
      clear hA' HG
      obtain ⟨x, hx⟩ : ∃ x, rdP q z = x := ⟨_, rfl⟩
      rw [hx] at HGF
      have HXX := Lib.hid hx
      clear hx
      go_wp2_with fail
      refine wp_region_held_drew (S := fun w' => PdT 125 w' g x) (by kernel_rfl) HGF.out (fun hS0 => ?_)
      refine takeL (i := 0) (some 75) 125 (.tmp 2) g 0 (pdC x) _ rfl rfl (by kernel_rfl) (by kernel_rfl) (by kernel_rfl) (fun _ _ _ h => h) (by rfl) rfl rfl (fun w' hS => hS.all) Try.underlying125 rfl info_pdP hS0 ?_
      simp only [Act.put, List.setIfInBounds_toArray, List.set_cons_zero, List.set_cons_succ]
      refine takeY (i := 1) (some 76) (v := .slice (some ⟨b, off, none⟩) n c) rfl rfl (by kernel_rfl) (by kernel_rfl) (by kernel_rfl) (fun _ _ _ h => h) (by rfl) (fun w' hS => by go_simp) hS0 ?_
      simp only [Act.put, List.setIfInBounds_toArray, List.set_cons_zero, List.set_cons_succ]
      refine takeY (i := 2) (some 77) (v := .int .i64 (H : Int)) rfl rfl (by kernel_rfl) (by kernel_rfl) (by kernel_rfl) (fun _ _ _ h => h) (by rfl) (fun w' hS => by go_simp) hS0 ?_
      simp only [Act.put, List.setIfInBounds_toArray, List.set_cons_zero, List.set_cons_succ]
      refine takeY (i := 3) (some 78) (v := .slice A' (n - H) (c - H)) rfl rfl (by kernel_rfl) (by kernel_rfl) (by kernel_rfl) (fun _ _ _ h => h) (by rfl) (fun w' hS => by exact slice_op _ _ (.tmp 76) (.tmp 77) rfl (.slice (some ⟨b, off, none⟩) n c) (.int .i64 (H : Int)) rfl rfl _ (HRUN.out w')) hS0 ?_
      simp only [Act.put, List.setIfInBounds_toArray, List.set_cons_zero, List.set_cons_succ]
      refine takeY (i := 4) (some 79) (v := .slice (some ⟨g1, 0, none⟩) k k) rfl rfl (by kernel_rfl) (by kernel_rfl) (by kernel_rfl) (fun _ _ _ h => h) (by rfl) (fun w' hS => by go_simp) hS0 ?_
      simp only [Act.put, List.setIfInBounds_toArray, List.set_cons_zero, List.set_cons_succ]
      refine takeC (i := 5) (some 80) 110 #[.pointer (some ⟨g, 0, none⟩), .slice (some ⟨g1, 0, none⟩) k k] (.bool r) (R := fun w' => w' = wr.drew) rfl rfl (by kernel_rfl) (by rfl) (by go_simp) (HAL.out.mono fun e w' h => ⟨h.1, h.2.symm⟩) (fun w' h => by rw [h]; exact hS0) (fun w2' h2 hS2 => ?_)
      subst h2
      simp only [Act.put, List.setIfInBounds_toArray, List.set_cons_zero, List.set_cons_succ]
      refine takeSt (i := 6) 125 (.tmp 2) (.tmp 75) g 0 (.agg (pdC x)) (pdC x) (pdC x) rfl rfl (by kernel_rfl) (by rfl) rfl rfl rfl rfl info_pdP (pdC_one _) HGF.out (Nat.le_of_ble_eq_true rfl) (pd_all _ _) (fun w9 hst => ⟨hst.1, ?_⟩)
      have hS9 : PdT 125 w9 g x := hst.1
      refine takeY (i := 7) (some 3) (v := .slice A' (n - H) (c - H)) rfl rfl (by kernel_rfl) (by kernel_rfl) (by kernel_rfl) (fun _ _ _ h => h) (by rfl) (fun w' hS => by go_simp) hS9 ?_
      simp only [Act.put, List.setIfInBounds_toArray, List.set_cons_zero, List.set_cons_succ]
      refine takeY (i := 8) (some 4) (v := .bool r) rfl rfl (by kernel_rfl) (by kernel_rfl) (by kernel_rfl) (fun _ _ _ h => h) (by rfl) (fun w' hS => by go_simp) hS9 ?_
      simp only [Act.put, List.setIfInBounds_toArray, List.set_cons_zero, List.set_cons_succ]
      refine wpAnyH_done (by kernel_rfl) ?_ _
      have HS9 := Lib.hid hS9
      have HB9 : Hid (Below w.heap.size w w9) := Lib.hid (HB.out.drew.trans (hst.2.1 _ (by rw [HGG.out]; exact Nat.le_refl _)))
      have HE : Hid (RfOk w b off n c q z r (.returned (.tuple #[.agg (pdC x), .slice A' (n - H) (c - H), .bool r])) w9) := Lib.hid ⟨by rw [HXX.out, HHH2.out, HA'.out], HB9.out⟩
      clear hst hS9 hS2 hS0
      go_wp2_with fail
      exact bodyPost_ret (results_rf (u := 3) (v := 4) rfl _ w9 g _ (.slice A' (n - H) (c - H)) (.bool r) rfl HS9.out rfl rfl) rfl HE.out

end Go.Proofs.Ytkiaijmhoikdiaa

/- pdu.readFields: another length is told. Each theorem states its conditions. -/
namespace Go.Proofs.Ytkiaijmhoikdiaa
open Go.RowKit
set_option linter.unusedVariables false

end Go.Proofs.Ytkiaijmhoikdiaa

/- pdu.Read reads a packet. Each theorem states its conditions. -/
namespace Go.Proofs.Ytkiaijmhoikdiaa
open Go.RowKit
set_option linter.unusedVariables false

/-- the bytes are of the form of a kind, as far as the TLVs -/
def FormOk (z : Nat → Int) (n : Nat) : Prop := 8 ≤ n ∧ cls (z 4) ≤ 4 ∧ hdN (cls (z 4)) ≤ n ∧ eqB z (headZ (z 4) (hdN (cls (z 4)))) 8 = true ∧ ∀ i, i < (flC (cls (z 4))).length → fAt (cls (z 4)) i = 4 → toldN (cls (z 4)) z i = n
theorem rf_good (b off n c : Nat) (z : Nat → Int) (w : World) (hr : Row8 w b off n z) (hc : n ≤ c) (hcm : c ≤ maxLen) (hn2 : n ≤ 1492) (hf : FormOk z n) (r : Bool) (hft : fitP (rdP (cls (z 4)) z) (cls (z 4)) = r) :
    Calls Try.prog 79 #[.slice (some ⟨b, off, none⟩) n c] w (RfOk w b off n c (cls (z 4)) z r) := by
  obtain ⟨h1, h2, h3, h4, h5⟩ := hf
  exact rf_ok b off n c z w hr hc hcm h1 _ rfl h2 h3 hn2 h4 (flC (cls (z 4))).length ⟨Nat.le_refl _, h5, .inl rfl⟩ rfl r hft
/-- the TLVs' bytes -/
def tlZ (q : Nat) (z : Nat → Int) : Nat → Int := fun j => z (hdN q + j)
/-- a packet with these TLVs -/
def withT (p : Pd) (A : Option Addr) (m c : Nat) : Pd := ⟨p.kd, p.ci, p.so, p.ho, p.nu, p.pr, p.la, p.li, p.id, p.sq, p.bi, p.st, p.en, A, m, c⟩
theorem OwnT.far {w w' : World} {base m b : Nat} {v : Value} {L : Nat → It} {C : Array Value} {t : TypeId} (h : OwnT w base v m L) (hs : Stored w w' b C t) (hb : b < base) : OwnT w' base v m L := by
  refine ⟨⟨h.1.1, ?_⟩, fun j hj => ?_⟩
  · rcases h.1.2 with h1 | ⟨g, cap, cur, hv, hg, hc, r⟩
    · exact .inl h1
    · exact .inr ⟨g, cap, cur, hv, hg, (hs.2.2 g (by omega)).trans hc, r⟩
  · obtain ⟨h1, h2, g, h3, h4, h5⟩ := h.2 j hj
    exact ⟨h1, h2, g, h3, h4, h5.block (hs.2.2 g (by omega))⟩
theorem results_rd {fn : Func} {q u : Tmp} (h : fn.results = #[.cell q 125, .tmp u]) (tmps : Array Value) (W : World) (g : Nat) (p : Pd) (x : Value)
    (hp : tmps.getD q undef = .pointer (some ⟨g, 0, none⟩)) (hg : PdT 125 W g p) (hx : tmps.getD u undef = x) : (results fn tmps).run Try.prog W = .ok (.tuple #[.agg (pdC p), x]) W := by
  have h1 := run_loadVar_row (P := Try.prog) W g 125 125 (pdC p) (0, 0) _ hg Try.underlying125 rfl info_pdP
  have hp' : (tmps[q]?).getD undef = .pointer (some ⟨g, 0, none⟩) := by simpa using hp
  have hx' : (tmps[u]?).getD undef = x := by simpa using hx
  simp only [results, h]
  simp [hp', hx', asAddr, h1]
theorem isSigned_any (b off n c : Nat) (z : Nat → Int) (w : World) (r : Bool) (hr : Row8 w b off n z) (hn : 27 ≤ n) (hn2 : n ≤ 1492) (hc : n ≤ c) (hcm : c ≤ maxLen) (hq : rightB (fun j => z (12 + j)) 12 (n - 12) = r) :
    Calls Try.prog 82 #[.slice (some ⟨b, off, none⟩) n c] w fun e w' => e = .returned (.bool r) ∧ w = w' := by
  have HR := Lib.hid (right_ok b (off + 12) (n - 12) (c - 12) (fun j => z (12 + j)) 12 w (hr.shift 12 (n - 12) (by omega)) (by omega) (by omega) (by omega))
  rw [show (12 : Int).toNat = 12 from rfl, hq] at HR
  have hne12 : ¬ c = 12 := by omega
  have q1 : ¬ n < 12 := by omega
  obtain ⟨n1, hn1⟩ : ∃ n1, n - 12 = n1 := ⟨_, rfl⟩
  obtain ⟨c1, hc1⟩ : ∃ c1, c - 12 = c1 := ⟨_, rfl⟩
  rw [hn1, hc1] at HR
  unfold maxLen at hcm
  clear hr hq
  go_enter Try.func82, Try.ntmps82
  go_wp2_with fail
  refine HR.out.mono ?_
  rintro e w1 ⟨rfl, rfl⟩
  go_wp2_with fail
  go_ret
  exact ⟨rfl, rfl⟩
/-- what Read leaves where it reads -/
def RdOk (w : World) (q : Nat) (z : Nat → Int) (m : Nat) (e : Ending) (w' : World) : Prop :=
  ∃ A c L, e = .returned (.tuple #[.agg (pdC (withT (rdP q z) A m c)), .int .i64 0]) ∧ OwnT w' w.heap.size (.slice A m c) m L ∧ IsItZ (tlZ q z) L m ∧ (A = none → m = 0 ∧ c = 0) ∧ m ≤ c ∧ c ≤ maxLen ∧ Below w.heap.size w w'
theorem getF_kd (p : Pd) (y : Nat → Int) (f : Nat) : (getF p y f).kd = p.kd := by unfold getF; split <;> rfl
theorem rdF_kd (q : Nat) (z : Nat → Int) (i : Nat) : (rdF q z i).kd = z 4 := by
  induction i with
  | zero => rfl
  | succ i ih => exact (getF_kd _ _ _).trans ih
theorem rdP_kd (q : Nat) (z : Nat → Int) : (rdP q z).kd = z 4 := rdF_kd q z _
set_option maxHeartbeats 4000000 in
set_option maxRecDepth 100000 in
theorem rd_state (b off n c : Nat) (z : Nat → Int) (w : World) (hr : Row8 w b off n z) (hc : n ≤ c) (hcm : c ≤ maxLen) (hn2 : n ≤ 1492) (q : Nat) (hq : cls (z 4) = q) (hf : FormOk z n) (hft : fitP (rdP q z) q = true) (m : Nat) (hm : Ends (tlZ q z) (n - hdN q) m) (hne : pos (tlZ q z) m = n - hdN q) (hq2 : q = 2) (hrb : rightB (fun j => z (12 + j)) 12 (n - 12) = true) : Calls Try.prog 65 #[.slice (some ⟨b, off, none⟩) n c] w (RdOk w q z m) := by
  have hbw := hr.1
  have hzz := hr.2.2
  have hHn : hdN q ≤ n := by rw [← hq]; exact hf.2.2.1
  have hq4 : q ≤ 4 := by rw [← hq]; exact hf.2.1
  have h17 := hdN_bd q hq4
  have HR := Lib.hid hr
  have HM := Lib.hid hm
  have HQ := Lib.hid hq
  have HCM := Lib.hid hcm
  obtain ⟨H, hH⟩ : ∃ H, hdN q = H := ⟨_, rfl⟩
  have HHH := Lib.hid hH
  obtain ⟨A', hA'⟩ : ∃ A' : Option Addr, (if c = H then some ⟨b, off, none⟩ else some ⟨b, off + H, none⟩) = A' := ⟨_, rfl⟩
  have HAA := Lib.hid hA'
  have HF : Hid (∀ W, Row8 W b off n z → Calls Try.prog 79 #[.slice (some ⟨b, off, none⟩) n c] W (fun e w' => e = .returned (.tuple #[.agg (pdC (rdP q z)), .slice A' (n - H) (c - H), .bool true]) ∧ Below W.heap.size W w')) := Lib.hid (fun W hW => by
    have := rf_good b off n c z W hW hc hcm hn2 hf true (by rw [hq]; exact hft)
    rw [hq] at this
    unfold RfOk at this
    rw [hH, hA'] at this
    exact this)
  rw [hH] at HM hHn h17
  have HK : Hid ((rdP q z).kd = z 4) := Lib.hid (rdP_kd q z)
  have HNE := Lib.hid hne
  have HRB := Lib.hid hrb
  have HQ2 := Lib.hid hq2
  clear hne hrb hq2
  clear hr hm hf hft hq hH hA'
  obtain ⟨W1, hW1⟩ : ∃ W1, w.alloc (.cells (pdC pd0) 125) = W1 := ⟨_, rfl⟩
  obtain ⟨g, hg⟩ : ∃ g, w.heap.size = g := ⟨_, rfl⟩
  have HG1 : Hid (PdT 125 W1 g pd0) := Lib.hid (by rw [← hW1, ← hg]; exact heap_alloc_new w _)
  have HB1 : Hid (Below w.heap.size w W1) := Lib.hid (by rw [← hW1]; exact (bself w).alloc (Nat.le_refl _) _)
  have HW1 := Lib.hid hW1
  have HGG := Lib.hid hg
  clear hW1 hg
  go_enter Try.func65, Try.ntmps65
  have HRF := Lib.hid (HF.out W1 (HR.out.below HB1.out hbw))
  go_wp2_with (refine wpList_v (op := ⟨some 2, _, _, _, _, _⟩) rfl _ (alloc_P' _ _ rfl w W1 g HGG.out HW1.out) ?_)
  refine HRF.out.mono ?_
  rintro e w3 ⟨rfl, hb3⟩
  have HG3 := Lib.hid (HG1.out.below hb3 HG1.out.lt)
  have HB3 := Lib.hid (HB1.out.trans (hb3.mono HB1.out.size))
  have hgl : g < w3.heap.size := HG3.out.lt
  obtain ⟨g4, hg4⟩ : ∃ g4, w3.heap.size = g4 := ⟨_, rfl⟩
  obtain ⟨W4, hW4⟩ : ∃ W4, w3.alloc (.cells (pdC pd0) 125) = W4 := ⟨_, rfl⟩
  rw [hg4] at hgl
  have HX4 : Hid (PdT 125 W4 g4 pd0) := Lib.hid (by rw [← hW4, ← hg4]; exact heap_alloc_new w3 _)
  have HG4 : Hid (PdT 125 W4 g pd0) := Lib.hid (by rw [← hW4]; exact (Below.heap_alloc _ _ _ HG3.out.lt).trans HG3.out)
  have HB4 : Hid (Below w.heap.size w W4) := Lib.hid (by rw [← hW4]; exact HB3.out.alloc HB3.out.size _)
  have HG44 := Lib.hid hg4
  have HW44 := Lib.hid hW4
  clear hb3 hg4 hW4
  go_wp2_with (first
    | (refine wpList_v (op := ⟨some 4, _, _, _, _, _⟩) rfl _ (alloc_P' _ _ rfl w3 W4 g4 HG44.out HW44.out) ?_)
    | (refine wpList_st rfl 125 (.tmp 4) (.tmp 16) rfl g4 0 rfl (.agg (pdC (rdP q z))) (pdC (rdP q z)) rfl rfl info_pdP (pdC_one _) HX4.out (Nat.le_of_ble_eq_true rfl) (pd_all _ _) ?_; intro w5 hst5; refine Hid.out ?_))
  refine Lib.hid ?_
  have HX5 : Hid (PdT 125 w5 g4 (rdP q z)) := Lib.hid hst5.1
  have HG5 : Hid (PdT 125 w5 g pd0) := Lib.hid (HG4.out.far hst5 (by omega))
  have HB5 : Hid (Below w.heap.size w w5) := Lib.hid (HB4.out.trans (hst5.2.1 _ (by rw [HGG.out]; omega)))
  clear hst5 HX4 HG4 HB4
  have hR5 : Row8 w5 b off n z := HR.out.below HB5.out hbw
  have HTl : Hid (Rd w5 A' (n - H) (tlZ q z)) := Lib.hid (by
    rw [← HAA.out]
    have e : tlZ q z = fun j => z (H + j) := by unfold tlZ; rw [HHH.out]
    rw [e]
    by_cases hcH : c = H
    · rw [if_pos hcH]
      exact ⟨.inl (by omega), fun j => hzz _⟩
    · rw [if_neg hcH]
      exact ⟨.inr ⟨b, off + H, rfl, hR5.shift H (n - H) (by omega)⟩, fun j => hzz _⟩)
  have HA0 : Hid (A' = none → n - H = 0 ∧ c - H = 0) := Lib.hid (fun e => by rw [← HAA.out] at e; split at e <;> cases e)
  have HSp := Lib.hid (split_any A' (n - H) (c - H) m (tlZ q z) w5 HTl.out HA0.out (by omega) (by omega) (by have := HCM.out; unfold maxLen at this; omega) HM.out)
  have HR5 := Lib.hid hR5
  have c0 : w5.cell? ⟨g4, 0, none⟩ = some (.int .u8 (z 4)) := (HX5.out.cell 0).trans ((pdC_kd _).trans (by rw [HK.out]))
  have hg45 : g4 < w5.heap.size := HX5.out.lt
  clear hR5
  go_wp2_with fail
  refine HSp.out.mono ?_
  rintro e w6 (⟨_, v6, L6, rfl, ho6, hi6, hb6⟩ | ⟨h, _⟩)
  rotate_left
  · exact absurd (by have := HNE.out; rw [HHH.out] at this; exact this) h
  obtain ⟨A6, c6, rfl, hmc, hmx, hA6, _⟩ := ho6.shape
  have HO6 := Lib.hid ho6
  have HI6 := Lib.hid hi6
  have HA6 := Lib.hid hA6
  have HMX := Lib.hid hmx
  have HG6 := Lib.hid (HG5.out.below hb6 HG5.out.lt)
  have HX6 := Lib.hid (HX5.out.below hb6 HX5.out.lt)
  have HB6 := Lib.hid (HB5.out.trans (hb6.mono HB5.out.size))
  have HR6 := Lib.hid (HR5.out.below hb6 HR5.out.1)
  have c0' : w6.cell? ⟨g4, 0, none⟩ = some (.int .u8 (z 4)) := (HX6.out.cell 0).trans ((pdC_kd _).trans (by rw [HK.out]))
  have HST := Lib.hid (isState_any (z 4) w6)
  clear ho6 hi6 hb6 hA6 hmx c0
  rw [show decide (cls (z 4) = 2) = true by rw [HQ.out, HQ2.out]; rfl] at HST
  have h27 : 27 ≤ n := by
    have h1 : H = 27 := by rw [← HHH.out, HQ2.out]; rfl
    omega
  have HSG := Lib.hid (isSigned_any b off n c z w6 true HR6.out h27 hn2 hc HCM.out HRB.out)
  go_wp2_with fail
  refine HST.out.mono ?_
  rintro e w7 ⟨rfl, rfl⟩
  go_wp2_with fail
  refine HSG.out.mono ?_
  rintro e w7 ⟨rfl, rfl⟩
  go_wp2_with (first
    | (refine wpList_st rfl 40 (.tmp 41) (.tmp 40) rfl g4 46 rfl (.slice A6 m c6) #[.slice A6 m c6] rfl rfl (by kernel_rfl) (by kernel_rfl) HX6.out (Nat.le_of_ble_eq_true rfl) (C' := pdC (withT (rdP q z) A6 m c6)) (by kernel_rfl) ?_; intro w8 hst8; refine Hid.out ?_))
  refine Lib.hid ?_
  have HX8 : Hid (PdT 125 w8 g4 (withT (rdP q z) A6 m c6)) := Lib.hid hst8.1
  have HG8 : Hid (PdT 125 w8 g pd0) := Lib.hid (HG6.out.far hst8 (by omega))
  have HB8 : Hid (Below w.heap.size w w8) := Lib.hid (HB6.out.trans (hst8.2.1 _ (by rw [HGG.out]; omega)))
  have HO8 := Lib.hid (HO6.out.far hst8 hg45)
  clear hst8 c0'
  go_wp2_with (first
    | (refine wpList_load_mid rfl 125 (.tmp 4) rfl g4 0 rfl (pdC (withT (rdP q z) A6 m c6)).toList _ HX8.out.all Try.underlying125 rfl info_pdP ?_)
    | (refine wpList_st rfl 125 (.tmp 2) (.tmp 42) rfl g 0 rfl (.agg (pdC (withT (rdP q z) A6 m c6))) (pdC (withT (rdP q z) A6 m c6)) rfl rfl info_pdP (pdC_one _) HG8.out (Nat.le_of_ble_eq_true rfl) (pd_all _ _) ?_; intro w9 hst9; refine Hid.out ?_))
  refine Lib.hid ?_
  have HG9 : Hid (PdT 125 w9 g (withT (rdP q z) A6 m c6)) := Lib.hid hst9.1
  have HB9 : Hid (Below w.heap.size w w9) := Lib.hid (HB8.out.trans (hst9.2.1 _ (by rw [HGG.out]; exact Nat.le_refl _)))
  have HO9 := Lib.hid (HO8.out.far hst9 (by omega))
  have HO9' : Hid (OwnT w9 w.heap.size (.slice A6 m c6) m L6) := Lib.hid ⟨ownsRow_mono HO9.out.1 HB5.out.size, fun j hj => (HO9.out.2 j hj).mono HB5.out.size⟩
  clear hst9
  go_wp2_with fail
  exact bodyPost_ret (results_rd (u := 3) rfl _ w9 g _ (.int .i64 0) rfl HG9.out rfl) rfl ⟨A6, c6, L6, rfl, HO9'.out, HI6.out, HA6.out, hmc, HMX.out, HB9.out⟩
set_option maxHeartbeats 4000000 in
set_option maxRecDepth 100000 in
theorem rd_plain (b off n c : Nat) (z : Nat → Int) (w : World) (hr : Row8 w b off n z) (hc : n ≤ c) (hcm : c ≤ maxLen) (hn2 : n ≤ 1492) (q : Nat) (hq : cls (z 4) = q) (hf : FormOk z n) (hft : fitP (rdP q z) q = true) (m : Nat) (hm : Ends (tlZ q z) (n - hdN q) m) (hne : pos (tlZ q z) m = n - hdN q) (hq2 : q ≠ 2) : Calls Try.prog 65 #[.slice (some ⟨b, off, none⟩) n c] w (RdOk w q z m) := by
  have hbw := hr.1
  have hzz := hr.2.2
  have hHn : hdN q ≤ n := by rw [← hq]; exact hf.2.2.1
  have hq4 : q ≤ 4 := by rw [← hq]; exact hf.2.1
  have h17 := hdN_bd q hq4
  have HR := Lib.hid hr
  have HM := Lib.hid hm
  have HQ := Lib.hid hq
  have HCM := Lib.hid hcm
  obtain ⟨H, hH⟩ : ∃ H, hdN q = H := ⟨_, rfl⟩
  have HHH := Lib.hid hH
  obtain ⟨A', hA'⟩ : ∃ A' : Option Addr, (if c = H then some ⟨b, off, none⟩ else some ⟨b, off + H, none⟩) = A' := ⟨_, rfl⟩
  have HAA := Lib.hid hA'
  have HF : Hid (∀ W, Row8 W b off n z → Calls Try.prog 79 #[.slice (some ⟨b, off, none⟩) n c] W (fun e w' => e = .returned (.tuple #[.agg (pdC (rdP q z)), .slice A' (n - H) (c - H), .bool true]) ∧ Below W.heap.size W w')) := Lib.hid (fun W hW => by
    have := rf_good b off n c z W hW hc hcm hn2 hf true (by rw [hq]; exact hft)
    rw [hq] at this
    unfold RfOk at this
    rw [hH, hA'] at this
    exact this)
  rw [hH] at HM hHn h17
  have HK : Hid ((rdP q z).kd = z 4) := Lib.hid (rdP_kd q z)
  have HNE := Lib.hid hne
  have HQ2 := Lib.hid hq2
  clear hne hq2
  clear hr hm hf hft hq hH hA'
  obtain ⟨W1, hW1⟩ : ∃ W1, w.alloc (.cells (pdC pd0) 125) = W1 := ⟨_, rfl⟩
  obtain ⟨g, hg⟩ : ∃ g, w.heap.size = g := ⟨_, rfl⟩
  have HG1 : Hid (PdT 125 W1 g pd0) := Lib.hid (by rw [← hW1, ← hg]; exact heap_alloc_new w _)
  have HB1 : Hid (Below w.heap.size w W1) := Lib.hid (by rw [← hW1]; exact (bself w).alloc (Nat.le_refl _) _)
  have HW1 := Lib.hid hW1
  have HGG := Lib.hid hg
  clear hW1 hg
  go_enter Try.func65, Try.ntmps65
  have HRF := Lib.hid (HF.out W1 (HR.out.below HB1.out hbw))
  go_wp2_with (refine wpList_v (op := ⟨some 2, _, _, _, _, _⟩) rfl _ (alloc_P' _ _ rfl w W1 g HGG.out HW1.out) ?_)
  refine HRF.out.mono ?_
  rintro e w3 ⟨rfl, hb3⟩
  have HG3 := Lib.hid (HG1.out.below hb3 HG1.out.lt)
  have HB3 := Lib.hid (HB1.out.trans (hb3.mono HB1.out.size))
  have hgl : g < w3.heap.size := HG3.out.lt
  obtain ⟨g4, hg4⟩ : ∃ g4, w3.heap.size = g4 := ⟨_, rfl⟩
  obtain ⟨W4, hW4⟩ : ∃ W4, w3.alloc (.cells (pdC pd0) 125) = W4 := ⟨_, rfl⟩
  rw [hg4] at hgl
  have HX4 : Hid (PdT 125 W4 g4 pd0) := Lib.hid (by rw [← hW4, ← hg4]; exact heap_alloc_new w3 _)
  have HG4 : Hid (PdT 125 W4 g pd0) := Lib.hid (by rw [← hW4]; exact (Below.heap_alloc _ _ _ HG3.out.lt).trans HG3.out)
  have HB4 : Hid (Below w.heap.size w W4) := Lib.hid (by rw [← hW4]; exact HB3.out.alloc HB3.out.size _)
  have HG44 := Lib.hid hg4
  have HW44 := Lib.hid hW4
  clear hb3 hg4 hW4
  go_wp2_with (first
    | (refine wpList_v (op := ⟨some 4, _, _, _, _, _⟩) rfl _ (alloc_P' _ _ rfl w3 W4 g4 HG44.out HW44.out) ?_)
    | (refine wpList_st rfl 125 (.tmp 4) (.tmp 16) rfl g4 0 rfl (.agg (pdC (rdP q z))) (pdC (rdP q z)) rfl rfl info_pdP (pdC_one _) HX4.out (Nat.le_of_ble_eq_true rfl) (pd_all _ _) ?_; intro w5 hst5; refine Hid.out ?_))
  refine Lib.hid ?_
  have HX5 : Hid (PdT 125 w5 g4 (rdP q z)) := Lib.hid hst5.1
  have HG5 : Hid (PdT 125 w5 g pd0) := Lib.hid (HG4.out.far hst5 (by omega))
  have HB5 : Hid (Below w.heap.size w w5) := Lib.hid (HB4.out.trans (hst5.2.1 _ (by rw [HGG.out]; omega)))
  clear hst5 HX4 HG4 HB4
  have hR5 : Row8 w5 b off n z := HR.out.below HB5.out hbw
  have HTl : Hid (Rd w5 A' (n - H) (tlZ q z)) := Lib.hid (by
    rw [← HAA.out]
    have e : tlZ q z = fun j => z (H + j) := by unfold tlZ; rw [HHH.out]
    rw [e]
    by_cases hcH : c = H
    · rw [if_pos hcH]
      exact ⟨.inl (by omega), fun j => hzz _⟩
    · rw [if_neg hcH]
      exact ⟨.inr ⟨b, off + H, rfl, hR5.shift H (n - H) (by omega)⟩, fun j => hzz _⟩)
  have HA0 : Hid (A' = none → n - H = 0 ∧ c - H = 0) := Lib.hid (fun e => by rw [← HAA.out] at e; split at e <;> cases e)
  have HSp := Lib.hid (split_any A' (n - H) (c - H) m (tlZ q z) w5 HTl.out HA0.out (by omega) (by omega) (by have := HCM.out; unfold maxLen at this; omega) HM.out)
  have HR5 := Lib.hid hR5
  have c0 : w5.cell? ⟨g4, 0, none⟩ = some (.int .u8 (z 4)) := (HX5.out.cell 0).trans ((pdC_kd _).trans (by rw [HK.out]))
  have hg45 : g4 < w5.heap.size := HX5.out.lt
  clear hR5
  go_wp2_with fail
  refine HSp.out.mono ?_
  rintro e w6 (⟨_, v6, L6, rfl, ho6, hi6, hb6⟩ | ⟨h, _⟩)
  rotate_left
  · exact absurd (by have := HNE.out; rw [HHH.out] at this; exact this) h
  obtain ⟨A6, c6, rfl, hmc, hmx, hA6, _⟩ := ho6.shape
  have HO6 := Lib.hid ho6
  have HI6 := Lib.hid hi6
  have HA6 := Lib.hid hA6
  have HMX := Lib.hid hmx
  have HG6 := Lib.hid (HG5.out.below hb6 HG5.out.lt)
  have HX6 := Lib.hid (HX5.out.below hb6 HX5.out.lt)
  have HB6 := Lib.hid (HB5.out.trans (hb6.mono HB5.out.size))
  have HR6 := Lib.hid (HR5.out.below hb6 HR5.out.1)
  have c0' : w6.cell? ⟨g4, 0, none⟩ = some (.int .u8 (z 4)) := (HX6.out.cell 0).trans ((pdC_kd _).trans (by rw [HK.out]))
  have HST := Lib.hid (isState_any (z 4) w6)
  clear ho6 hi6 hb6 hA6 hmx c0
  rw [show decide (cls (z 4) = 2) = false by rw [HQ.out]; exact decide_eq_false HQ2.out] at HST
  go_wp2_with fail
  refine HST.out.mono ?_
  rintro e w7 ⟨rfl, rfl⟩
  go_wp2_with (first
    | (refine wpList_st rfl 40 (.tmp 41) (.tmp 40) rfl g4 46 rfl (.slice A6 m c6) #[.slice A6 m c6] rfl rfl (by kernel_rfl) (by kernel_rfl) HX6.out (Nat.le_of_ble_eq_true rfl) (C' := pdC (withT (rdP q z) A6 m c6)) (by kernel_rfl) ?_; intro w8 hst8; refine Hid.out ?_))
  refine Lib.hid ?_
  have HX8 : Hid (PdT 125 w8 g4 (withT (rdP q z) A6 m c6)) := Lib.hid hst8.1
  have HG8 : Hid (PdT 125 w8 g pd0) := Lib.hid (HG6.out.far hst8 (by omega))
  have HB8 : Hid (Below w.heap.size w w8) := Lib.hid (HB6.out.trans (hst8.2.1 _ (by rw [HGG.out]; omega)))
  have HO8 := Lib.hid (HO6.out.far hst8 hg45)
  clear hst8 c0'
  go_wp2_with (first
    | (refine wpList_load_mid rfl 125 (.tmp 4) rfl g4 0 rfl (pdC (withT (rdP q z) A6 m c6)).toList _ HX8.out.all Try.underlying125 rfl info_pdP ?_)
    | (refine wpList_st rfl 125 (.tmp 2) (.tmp 42) rfl g 0 rfl (.agg (pdC (withT (rdP q z) A6 m c6))) (pdC (withT (rdP q z) A6 m c6)) rfl rfl info_pdP (pdC_one _) HG8.out (Nat.le_of_ble_eq_true rfl) (pd_all _ _) ?_; intro w9 hst9; refine Hid.out ?_))
  refine Lib.hid ?_
  have HG9 : Hid (PdT 125 w9 g (withT (rdP q z) A6 m c6)) := Lib.hid hst9.1
  have HB9 : Hid (Below w.heap.size w w9) := Lib.hid (HB8.out.trans (hst9.2.1 _ (by rw [HGG.out]; exact Nat.le_refl _)))
  have HO9 := Lib.hid (HO8.out.far hst9 (by omega))
  have HO9' : Hid (OwnT w9 w.heap.size (.slice A6 m c6) m L6) := Lib.hid ⟨ownsRow_mono HO9.out.1 HB5.out.size, fun j hj => (HO9.out.2 j hj).mono HB5.out.size⟩
  clear hst9
  go_wp2_with fail
  exact bodyPost_ret (results_rd (u := 3) rfl _ w9 g _ (.int .i64 0) rfl HG9.out rfl) rfl ⟨A6, c6, L6, rfl, HO9'.out, HI6.out, HA6.out, hmc, HMX.out, HB9.out⟩
end Go.Proofs.Ytkiaijmhoikdiaa

/- The document's Plain: a packet with the fields alone that its kind has. Each theorem states its conditions. -/
namespace Go.Proofs.Ytkiaijmhoikdiaa
open Go.RowKit
set_option linter.unusedVariables false

theorem hello_yes (k : Int) (h : k = 15 ∨ k = 16 ∨ k = 17) (w : World) : Calls Try.prog 50 #[.int .u8 k] w fun e w' => e = .returned (.bool true) ∧ w = w' := by
  rcases h with rfl | rfl | rfl <;>
  · go_enter Try.func50, Try.ntmps50
    go_wp2
    go_ret
    exact ⟨rfl, rfl⟩
theorem hello_no (k : Int) (h : ¬ (k = 15 ∨ k = 16 ∨ k = 17)) (w : World) : Calls Try.prog 50 #[.int .u8 k] w fun e w' => e = .returned (.bool false) ∧ w = w' := by
  have h1 : (k == 15) = false := by simp; omega
  have h2 : (k == 16) = false := by simp; omega
  have h3 : (k == 17) = false := by simp; omega
  clear h
  go_enter Try.func50, Try.ntmps50
  go_wp2
  go_ret
  exact ⟨rfl, rfl⟩
theorem lsp_yes (k : Int) (h : k = 18 ∨ k = 20) (w : World) : Calls Try.prog 51 #[.int .u8 k] w fun e w' => e = .returned (.bool true) ∧ w = w' := by
  rcases h with rfl | rfl <;>
  · go_enter Try.func51, Try.ntmps51
    go_wp2
    go_ret
    exact ⟨rfl, rfl⟩
theorem lsp_no (k : Int) (h : ¬ (k = 18 ∨ k = 20)) (w : World) : Calls Try.prog 51 #[.int .u8 k] w fun e w' => e = .returned (.bool false) ∧ w = w' := by
  have h1 : (k == 18) = false := by simp; omega
  have h2 : (k == 20) = false := by simp; omega
  clear h
  go_enter Try.func51, Try.ntmps51
  go_wp2
  go_ret
  exact ⟨rfl, rfl⟩
/-- Plain of the classes -/
def pl0 (x : Pd) : Pd := ⟨x.kd, x.ci, cutSys x.so, x.ho, x.nu, 0, z0, 0, z0, 0, 0, z0, z0, x.A, x.m, x.c⟩
def pl1 (x : Pd) : Pd := ⟨x.kd, x.ci, cutSys x.so, x.ho, 0, x.pr, x.la, 0, z0, 0, 0, z0, z0, x.A, x.m, x.c⟩
def pl2 (x : Pd) : Pd := ⟨x.kd, 0, z0, 0, 0, 0, z0, x.li, x.id, x.sq, x.bi, z0, z0, x.A, x.m, x.c⟩
def pl3 (x : Pd) : Pd := ⟨x.kd, 0, x.so, 0, 0, 0, z0, 0, z0, 0, 0, x.st, x.en, x.A, x.m, x.c⟩
def pl4 (x : Pd) : Pd := ⟨x.kd, 0, x.so, 0, 0, 0, z0, 0, z0, 0, 0, z0, z0, x.A, x.m, x.c⟩
end Go.Proofs.Ytkiaijmhoikdiaa

/- The document's Twin of a list. Each theorem states its conditions. -/
namespace Go.Proofs.Ytkiaijmhoikdiaa
open Go.RowKit
set_option linter.unusedVariables false

end Go.Proofs.Ytkiaijmhoikdiaa

/- Lists as bytes and back. Each theorem states its conditions. -/
namespace Go.Proofs.Ytkiaijmhoikdiaa
open Go.RowKit
set_option linter.unusedVariables false

theorem J_old (L : Nat → It) (k m : Nat) (h : k ≤ m) : ∀ j, j < sz L k → J L m j = J L k j := by
  induction m with
  | zero => obtain rfl : k = 0 := by omega
            intro j _; rfl
  | succ m ih =>
    by_cases e : k = m + 1
    · subst e; intro j _; rfl
    · intro j hj
      have := sz_mono L k m (by omega)
      simp only [J]
      unfold cat
      rw [if_pos (by omega), if_pos (by omega)]
      exact ih (by omega) j hj
theorem J_item (L : Nat → It) (k m : Nat) (h : k < m) : J L m (sz L k) = (L k).ty ∧ J L m (sz L k + 1) = (L k).n ∧ ∀ i, i < (L k).n → J L m (sz L k + 2 + i) = (L k).z i := by
  have hs : sz L (k + 1) = sz L k + (2 + (L k).n) := rfl
  refine ⟨?_, ?_, fun i hi => ?_⟩
  · rw [J_old L (k + 1) m (by omega) _ (by omega)]
    simp [J, cat, two]
  · rw [J_old L (k + 1) m (by omega) _ (by omega)]
    simp [J, cat, two]
    omega
  · rw [J_old L (k + 1) m (by omega) _ (by omega)]
    simp only [J]
    unfold cat
    rw [if_neg (by omega)]
    congr 1; omega
theorem J_pos (L : Nat → It) (m : Nat) : ∀ k, k ≤ m → pos (J L m) k = sz L k := by
  intro k hk
  induction k with
  | zero => rfl
  | succ k ih =>
    obtain ⟨_, h2, _⟩ := J_item L k m (by omega)
    simp only [pos, sz, ih (by omega), h2]
    omega
end Go.Proofs.Ytkiaijmhoikdiaa

/- Check bytes that are laid are right there; a byte that is turned is seen. Plain facts, and what two stores leave. Each theorem states its conditions. -/
namespace Go.Proofs.Ytkiaijmhoikdiaa
open Go.RowKit
set_option linter.unusedVariables false

theorem sumA_congr (z z' : Nat → Int) (s k : Nat) (h : ∀ j, j < k → j ≠ s → j ≠ s + 1 → z j = z' j) : sumA z s k = sumA z' s k := by
  induction k with
  | zero => rfl
  | succ k ih =>
    have := ih fun j hj => h j (by omega)
    by_cases hk : k = s ∨ k = s + 1
    · rw [sumA_skip _ _ _ hk, sumA_skip _ _ _ hk, this]
    · rw [sumA_take _ _ _ hk, sumA_take _ _ _ hk, this, h k (by omega) (by omega) (by omega)]
theorem sumB_congr (z z' : Nat → Int) (s n k : Nat) (h : ∀ j, j < k → j ≠ s → j ≠ s + 1 → z j = z' j) : sumB z s n k = sumB z' s n k := by
  induction k with
  | zero => rfl
  | succ k ih =>
    have := ih fun j hj => h j (by omega)
    by_cases hk : k = s ∨ k = s + 1
    · rw [sumB_skip _ _ _ _ hk, sumB_skip _ _ _ _ hk, this]
    · rw [sumB_take _ _ _ _ hk, sumB_take _ _ _ _ hk, this, h k (by omega) (by omega) (by omega)]
/-- the bytes with their check bytes laid -/
def laidZ (z : Nat → Int) (s n : Nat) : Nat → Int := upd (upd z s (chkX z s n)) (s + 1) (chkY z s n)
theorem laidZ_far (z : Nat → Int) (s n j : Nat) (h1 : j ≠ s) (h2 : j ≠ s + 1) : laidZ z s n j = z j := by
  unfold laidZ; rw [upd_other _ _ _ _ h2, upd_other _ _ _ _ h1]
theorem laidZ_s (z : Nat → Int) (s n : Nat) : laidZ z s n s = chkX z s n := by
  unfold laidZ; rw [upd_other _ _ _ _ (by omega), upd_same]
theorem laidZ_s1 (z : Nat → Int) (s n : Nat) : laidZ z s n (s + 1) = chkY z s n := by
  unfold laidZ; rw [upd_same]
theorem chkX_congr (z z' : Nat → Int) (s n : Nat) (h : ∀ j, j < n → j ≠ s → j ≠ s + 1 → z j = z' j) : chkX z s n = chkX z' s n := by
  unfold chkX; rw [sumA_congr z z' s n h, sumB_congr z z' s n n h]
theorem chkY_congr (z z' : Nat → Int) (s n : Nat) (h : ∀ j, j < n → j ≠ s → j ≠ s + 1 → z j = z' j) : chkY z s n = chkY z' s n := by
  unfold chkY; rw [sumA_congr z z' s n h, chkX_congr z z' s n h]
theorem chkX_laid (z : Nat → Int) (s n : Nat) : chkX (laidZ z s n) s n = chkX z s n := chkX_congr _ _ s n fun j _ h1 h2 => laidZ_far z s n j h1 h2
theorem chkY_laid (z : Nat → Int) (s n : Nat) : chkY (laidZ z s n) s n = chkY z s n := chkY_congr _ _ s n fun j _ h1 h2 => laidZ_far z s n j h1 h2
theorem right_laid (z : Nat → Int) (s n : Nat) : rightB (laidZ z s n) s n = true := by
  unfold rightB; rw [chkX_laid, chkY_laid, laidZ_s, laidZ_s1]; simp

section
variable {w w0 : World} {g n cap s : Nat} {z : Nat → Int}
theorem Own8.at_ (h : Own8 w g n cap z) (j : Nat) (hj : j < n) : w.cell? ⟨g, j, none⟩ = some (.int .u8 (z j)) := by
  have := h.row.2.1 j hj
  rwa [Nat.zero_add] at this
end
end Go.Proofs.Ytkiaijmhoikdiaa

/- Cells that came in as an argument. Each theorem states its conditions. -/
namespace Go.Proofs.Ytkiaijmhoikdiaa
open Go.RowKit Go.ChangeShapes Go.WideShapes
set_option linter.unusedVariables false

theorem dnumZ_congr (z z' : Nat → Int) (k : Nat) (h : ∀ j, j < k → z j = z' j) : numZ z 0 k = numZ z' 0 k := by
  induction k with
  | zero => rfl
  | succ k ih =>
    show numZ z 0 k * 256 + z (0 + k) = numZ z' 0 k * 256 + z' (0 + k)
    rw [ih fun j hj => h j (by omega), Nat.zero_add, h k (by omega)]
section
variable {H : Type} {enc : TypeId × Value → H} {w : World} {base : Nat} {spare : Nat → Bool} {held : Bool} {m : Nat} {cs : List Value} {x : DataW H × List MemPlace}
theorem cell_u8 {k : Nat} {o : Option (DataW H × List MemPlace)} (h : DataW.trod enc Try.prog w base spare held m 5 ((cs.drop k).take 1) = o) (ho : o.isSome = true) : ∃ a : Int, cs[k]? = some (.int .u8 a) ∧ 0 ≤ a ∧ a ≤ 255 := by
  obtain ⟨y, rfl⟩ := Option.isSome_iff_exists.1 ho
  obtain ⟨a, ea, _, wa⟩ := DataW.trod_int Try.underlying5 h
  refine ⟨a, ?_, wf_u8 wa⟩
  have := congrArg (·[0]?) ea
  simpa [List.getElem?_take, List.getElem?_drop] using this
theorem bytes_run {n e : Nat} {t : TypeId} (ht : Try.prog.underlying t = some (.array n 5)) {o : Option (DataW H × List MemPlace)} (h : DataW.trod enc Try.prog w base spare held m t ((cs.drop e).take n) = o) (ho : o.isSome = true) :
    ∃ z : Nat → Int, (∀ i, i < n → cs[e + i]? = some (.int .u8 (z i))) ∧ ∀ i, 0 ≤ z i ∧ z i ≤ 255 := by
  obtain ⟨y, rfl⟩ := Option.isSome_iff_exists.1 ho
  have hc1 : Try.prog.cellsOf 5 = 1 := by kernel_rfl
  obtain ⟨ys, m2, _, _, _, hn2, hel2⟩ := DataW.trod_array ht h
  have one : ∀ i, i < n → ∃ a : Int, cs[e + i]? = some (.int .u8 a) ∧ 0 ≤ a ∧ a ≤ 255 := by
    intro i hi
    have he := hel2 i hi
    rw [hc1, Nat.mul_one] at he
    obtain ⟨a, ha, hb⟩ := cell_u8 he (by rw [List.getElem?_eq_getElem (by omega)]; rfl)
    refine ⟨a, ?_, hb⟩
    rwa [List.getElem?_take, if_pos hi, List.getElem?_drop] at ha
  refine ⟨fun i => if h : i < n then (one i h).choose else 0, fun i hi => ?_, fun i => ?_⟩
  · simp only [dif_pos hi]
    exact (one i hi).choose_spec.1
  · by_cases h : i < n
    · simp only [dif_pos h]
      exact (one i h).choose_spec.2
    · simp only [dif_neg h]
      exact ⟨Int.le_refl 0, by decide⟩
end
end Go.Proofs.Ytkiaijmhoikdiaa

/- The bytes of a packet, read again. Each theorem states its conditions. -/
namespace Go.Proofs.Ytkiaijmhoikdiaa
open Go.RowKit
set_option linter.unusedVariables false

theorem accZ_old (p : Pd) (W q k k' : Nat) (h : k ≤ k') : ∀ j, j < accN q k → accZ p W q k' j = accZ p W q k j := by
  induction k' with
  | zero => obtain rfl : k = 0 := by omega
            intro j _; rfl
  | succ k' ih =>
    by_cases e : k = k' + 1
    · subst e; intro j _; rfl
    · intro j hj
      have := accN_mono q k k' (by omega)
      simp only [accZ]
      unfold cat
      rw [if_pos (by omega)]
      exact ih (by omega) j hj
theorem acc_at (p : Pd) (W q i j : Nat) (hi : i < (flC q).length) (hj : j < fsz (fAt q i)) : accZ p W q (flC q).length (accN q i + j) = fZ p W (fAt q i) j := by
  rw [accZ_old p W q (i + 1) _ (by omega) _ (by simp only [accN]; omega)]
  simp only [accZ]
  unfold cat
  rw [if_neg (by omega), Nat.add_sub_cancel_left]
theorem wZ_lo (p : Pd) (q : Nat) (L : Nat → It) (j : Nat) (h : j < hdN q) : wZ p q L j = accZ p (hdN q + sz L p.m) q (flC q).length j := by
  unfold wZ cat; rw [if_pos h]
theorem wZ_hi (p : Pd) (q : Nat) (L : Nat → It) (j : Nat) : wZ p q L (hdN q + j) = J L p.m j := by
  unfold wZ cat; rw [if_neg (by omega), Nat.add_sub_cancel_left]
theorem pdZ_far (p : Pd) (q : Nat) (L : Nat → It) (j : Nat) (h : q = 2 → j ≠ 24 ∧ j ≠ 25) : pdZ p q L j = wZ p q L j := by
  unfold pdZ
  by_cases e : q = 2
  · rw [if_pos e]
    unfold sgZ
    rw [if_neg (h e).1, if_neg (h e).2]
  · rw [if_neg e]
theorem pd_field (p : Pd) (q : Nat) (L : Nat → It) (i j : Nat) (hi : i < (flC q).length) (hj : j < fsz (fAt q i)) (h11 : fAt q i ≠ 11) : pdZ p q L (accN q i + j) = fZ p (hdN q + sz L p.m) (fAt q i) j := by
  have hh := accN_hd q i hi
  rw [pdZ_far, wZ_lo _ _ _ _ (by omega), acc_at _ _ _ _ _ hi hj]
  intro e
  subst e
  have hi' : i < 6 := hi
  rcases (by omega : i = 0 ∨ i = 1 ∨ i = 2 ∨ i = 3 ∨ i = 4 ∨ i = 5) with rfl | rfl | rfl | rfl | rfl | rfl
  · have : j < 2 := hj
    show 8 + j ≠ 24 ∧ 8 + j ≠ 25; omega
  · have : j < 2 := hj
    show 10 + j ≠ 24 ∧ 10 + j ≠ 25; omega
  · have : j < 8 := hj
    show 12 + j ≠ 24 ∧ 12 + j ≠ 25; omega
  · have : j < 4 := hj
    show 20 + j ≠ 24 ∧ 20 + j ≠ 25; omega
  · exact absurd rfl h11
  · have : j < 1 := hj
    show 26 + j ≠ 24 ∧ 26 + j ≠ 25; omega
theorem pd_head (p : Pd) (q : Nat) (L : Nat → It) (hq : q ≤ 4) (j : Nat) (hj : j < 8) : pdZ p q L j = headZ p.kd (hdN q) j := by
  have hh := hdN_bd q hq
  rw [pdZ_far _ _ _ _ (fun _ => by omega), wZ_lo _ _ _ _ (by omega), accZ_old p _ q 0 _ (Nat.zero_le _) j hj]
  rfl
theorem pd_tail (p : Pd) (q : Nat) (L : Nat → It) (hq : q ≤ 4) (j : Nat) : pdZ p q L (hdN q + j) = J L p.m j := by
  rw [pdZ_far, wZ_hi]
  intro e
  subst e
  show 27 + j ≠ 24 ∧ 27 + j ≠ 25
  omega
theorem told_pd (p : Pd) (q : Nat) (L : Nat → It) (hn : hdN q + sz L p.m ≤ 1492) (i : Nat) (hi : i < (flC q).length) (h4 : fAt q i = 4) : toldN q (pdZ p q L) i = hdN q + sz L p.m := by
  unfold toldN
  rw [dnumZ_congr _ (putZ (hdN q + sz L p.m) 2) 2 (fun j hj => by rw [pd_field p q L i j hi (by rw [h4]; exact hj) (by rw [h4]; decide), h4]; rfl), num_put, Int.toNat_natCast]
  exact Nat.mod_eq_of_lt (by omega)
theorem form_pd (p : Pd) (L : Nat → It) (hq : cls p.kd ≤ 4) (hn : hdN (cls p.kd) + sz L p.m ≤ 1492) (hk : by1 p.kd) (hzb : ∀ j, 0 ≤ pdZ p (cls p.kd) L j ∧ pdZ p (cls p.kd) L j ≤ 255) : FormOk (pdZ p (cls p.kd) L) (hdN (cls p.kd) + sz L p.m) := by
  have hh := hdN_bd _ hq
  have h4 : pdZ p (cls p.kd) L 4 = p.kd := pd_head p _ L hq 4 (by omega)
  refine ⟨by omega, by rw [h4]; exact hq, by rw [h4]; omega, ?_, ?_⟩
  · rw [h4, eqB_iff hzb (headZ_bd _ _ hk (by omega))]
    exact fun j hj => pd_head p _ L hq j hj
  · rw [h4]
    exact fun i hi he => told_pd p _ L hn i hi he
/-- the same in all cells but the TLVs -/
def PdEq (p p' : Pd) : Prop := (p.kd = p'.kd ∧ p.ci = p'.ci ∧ (∀ j, j < 7 → p.so j = p'.so j) ∧ p.ho = p'.ho ∧ p.nu = p'.nu ∧ p.pr = p'.pr ∧ (∀ j, j < 7 → p.la j = p'.la j)) ∧
  p.li = p'.li ∧ (∀ j, j < 8 → p.id j = p'.id j) ∧ p.sq = p'.sq ∧ p.bi = p'.bi ∧ (∀ j, j < 8 → p.st j = p'.st j) ∧ ∀ j, j < 8 → p.en j = p'.en j
theorem num_field (p : Pd) (q : Nat) (L : Nat → It) (i k N : Nat) (hi : i < (flC q).length) (hk : fsz (fAt q i) = k) (h11 : fAt q i ≠ 11) (hN : fZ p (hdN q + sz L p.m) (fAt q i) = putZ N k) (hf : N < 256 ^ k) : (numZ (fun j => pdZ p q L (accN q i + j)) 0 k).toNat = N := by
  rw [dnumZ_congr _ (putZ N k) k (fun j hj => by rw [pd_field p q L i j hi (by omega) h11, hN]), num_put, Int.toNat_natCast]
  exact Nat.mod_eq_of_lt hf
theorem fitB_eq {p p' : Pd} (f : Nat) (h : p.ci = p'.ci ∧ p.ho = p'.ho ∧ p.li = p'.li ∧ p.pr = p'.pr) : fitB p f = fitB p' f := by
  obtain ⟨h1, h2, h3, h4⟩ := h
  unfold fitB
  split <;> simp only [h1, h2, h3, h4]
theorem rd_eq0 (p : Pd) (L : Nat → It) (hp : PdOk p) (hk : cls p.kd = 0) (hft : fitP p 0 = true) : PdEq (rdP 0 (pdZ p 0 L)) (pl0 p) := by
  have hfit := fun i hi => fitP_at hft i hi
  have e_kd : (rdP 0 (pdZ p 0 L)).kd = p.kd := (rdP_kd _ _).trans (pd_head p 0 L (by decide) 4 (by omega))
  have e_ci : (rdP 0 (pdZ p 0 L)).ci = p.ci := pd_field p 0 L 0 0 (by decide) (by decide) (by decide)
  have e_so : ∀ j, j < 7 → (rdP 0 (pdZ p 0 L)).so j = cutSys p.so j := fun j hj => by
    show mixS (fun j => pdZ p 0 L (accN 0 1 + j)) z0 j = cutSys p.so j
    unfold mixS
    by_cases h6 : j < 6
    · rw [if_pos h6]
      exact pd_field p 0 L 1 j (by decide) h6 (by decide)
    · rw [if_neg h6]
      unfold cutSys
      rw [if_neg h6]
      rfl
  have e_ho : (rdP 0 (pdZ p 0 L)).ho = p.ho := by
    have hb := of_decide_eq_true (hfit 2 (by decide))
    have h2 : 0 ≤ p.ho ∧ p.ho ≤ 65535 := hb
    show (((numZ (fun j => pdZ p 0 L (accN 0 2 + j)) 0 2).toNat : Nat) : Int) = p.ho
    rw [num_field p 0 L 2 2 p.ho.toNat (by decide) rfl (by decide) rfl (by omega)]
    omega
  have e_nu : (rdP 0 (pdZ p 0 L)).nu = p.nu := pd_field p 0 L 4 0 (by decide) (by decide) (by decide)
  exact ⟨⟨e_kd, e_ci, e_so, e_ho, e_nu, rfl, fun _ _ => rfl⟩, rfl, fun _ _ => rfl, rfl, rfl, fun _ _ => rfl, fun _ _ => rfl⟩
theorem rd_eq1 (p : Pd) (L : Nat → It) (hp : PdOk p) (hk : cls p.kd = 1) (hft : fitP p 1 = true) : PdEq (rdP 1 (pdZ p 1 L)) (pl1 p) := by
  have hfit := fun i hi => fitP_at hft i hi
  have e_kd : (rdP 1 (pdZ p 1 L)).kd = p.kd := (rdP_kd _ _).trans (pd_head p 1 L (by decide) 4 (by omega))
  have e_ci : (rdP 1 (pdZ p 1 L)).ci = p.ci := pd_field p 1 L 0 0 (by decide) (by decide) (by decide)
  have e_so : ∀ j, j < 7 → (rdP 1 (pdZ p 1 L)).so j = cutSys p.so j := fun j hj => by
    show mixS (fun j => pdZ p 1 L (accN 1 1 + j)) z0 j = cutSys p.so j
    unfold mixS
    by_cases h6 : j < 6
    · rw [if_pos h6]
      exact pd_field p 1 L 1 j (by decide) h6 (by decide)
    · rw [if_neg h6]
      unfold cutSys
      rw [if_neg h6]
      rfl
  have e_ho : (rdP 1 (pdZ p 1 L)).ho = p.ho := by
    have hb := of_decide_eq_true (hfit 2 (by decide))
    have h2 : 0 ≤ p.ho ∧ p.ho ≤ 65535 := hb
    show (((numZ (fun j => pdZ p 1 L (accN 1 2 + j)) 0 2).toNat : Nat) : Int) = p.ho
    rw [num_field p 1 L 2 2 p.ho.toNat (by decide) rfl (by decide) rfl (by omega)]
    omega
  have e_pr : (rdP 1 (pdZ p 1 L)).pr = p.pr := pd_field p 1 L 4 0 (by decide) (by decide) (by decide)
  have e_la : ∀ j, j < 7 → (rdP 1 (pdZ p 1 L)).la j = p.la j := fun j hj => pd_field p 1 L 5 j (by decide) hj (by decide)
  exact ⟨⟨e_kd, e_ci, e_so, e_ho, rfl, e_pr, e_la⟩, rfl, fun _ _ => rfl, rfl, rfl, fun _ _ => rfl, fun _ _ => rfl⟩
theorem rd_eq2 (p : Pd) (L : Nat → It) (hp : PdOk p) (hk : cls p.kd = 2) (hft : fitP p 2 = true) : PdEq (rdP 2 (pdZ p 2 L)) (pl2 p) := by
  have hfit := fun i hi => fitP_at hft i hi
  have e_kd : (rdP 2 (pdZ p 2 L)).kd = p.kd := (rdP_kd _ _).trans (pd_head p 2 L (by decide) 4 (by omega))
  have e_li : (rdP 2 (pdZ p 2 L)).li = p.li := by
    have hb := of_decide_eq_true (hfit 1 (by decide))
    have h2 : 0 ≤ p.li ∧ p.li ≤ 65535 := hb
    show (((numZ (fun j => pdZ p 2 L (accN 2 1 + j)) 0 2).toNat : Nat) : Int) = p.li
    rw [num_field p 2 L 1 2 p.li.toNat (by decide) rfl (by decide) rfl (by omega)]
    omega
  have e_id : ∀ j, j < 8 → (rdP 2 (pdZ p 2 L)).id j = p.id j := fun j hj => pd_field p 2 L 2 j (by decide) hj (by decide)
  have e_sq : (rdP 2 (pdZ p 2 L)).sq = p.sq := by
    show (numZ (fun j => pdZ p 2 L (accN 2 3 + j)) 0 4).toNat = p.sq
    exact num_field p 2 L 3 4 p.sq (by decide) rfl (by decide) rfl (by have := hp.2.2.2.1; omega)
  have e_bi : (rdP 2 (pdZ p 2 L)).bi = p.bi := pd_field p 2 L 5 0 (by decide) (by decide) (by decide)
  exact ⟨⟨e_kd, rfl, fun _ _ => rfl, rfl, rfl, rfl, fun _ _ => rfl⟩, e_li, e_id, e_sq, e_bi, fun _ _ => rfl, fun _ _ => rfl⟩
theorem rd_eq3 (p : Pd) (L : Nat → It) (hp : PdOk p) (hk : cls p.kd = 3) (hft : fitP p 3 = true) : PdEq (rdP 3 (pdZ p 3 L)) (pl3 p) := by
  have hfit := fun i hi => fitP_at hft i hi
  have e_kd : (rdP 3 (pdZ p 3 L)).kd = p.kd := (rdP_kd _ _).trans (pd_head p 3 L (by decide) 4 (by omega))
  have e_so : ∀ j, j < 7 → (rdP 3 (pdZ p 3 L)).so j = p.so j := fun j hj => pd_field p 3 L 1 j (by decide) hj (by decide)
  have e_st : ∀ j, j < 8 → (rdP 3 (pdZ p 3 L)).st j = p.st j := fun j hj => pd_field p 3 L 2 j (by decide) hj (by decide)
  have e_en : ∀ j, j < 8 → (rdP 3 (pdZ p 3 L)).en j = p.en j := fun j hj => pd_field p 3 L 3 j (by decide) hj (by decide)
  exact ⟨⟨e_kd, rfl, e_so, rfl, rfl, rfl, fun _ _ => rfl⟩, rfl, fun _ _ => rfl, rfl, rfl, e_st, e_en⟩
theorem rd_eq4 (p : Pd) (L : Nat → It) (hp : PdOk p) (hk : cls p.kd = 4) (hft : fitP p 4 = true) : PdEq (rdP 4 (pdZ p 4 L)) (pl4 p) := by
  have hfit := fun i hi => fitP_at hft i hi
  have e_kd : (rdP 4 (pdZ p 4 L)).kd = p.kd := (rdP_kd _ _).trans (pd_head p 4 L (by decide) 4 (by omega))
  have e_so : ∀ j, j < 7 → (rdP 4 (pdZ p 4 L)).so j = p.so j := fun j hj => pd_field p 4 L 1 j (by decide) hj (by decide)
  exact ⟨⟨e_kd, rfl, e_so, rfl, rfl, rfl, fun _ _ => rfl⟩, rfl, fun _ _ => rfl, rfl, rfl, fun _ _ => rfl, fun _ _ => rfl⟩
/-- Plain, by the class -/
def plQ (q : Nat) (p : Pd) : Pd := if q = 0 then pl0 p else if q = 1 then pl1 p else if q = 2 then pl2 p else if q = 3 then pl3 p else pl4 p
theorem rd_eq (p : Pd) (L : Nat → It) (hp : PdOk p) (q : Nat) (hk : cls p.kd = q) (hq : q ≤ 4) (hft : fitP p q = true) : PdEq (rdP q (pdZ p q L)) (plQ q p) := by
  rcases (by omega : q = 0 ∨ q = 1 ∨ q = 2 ∨ q = 3 ∨ q = 4) with rfl | rfl | rfl | rfl | rfl
  · exact rd_eq0 p L hp hk hft
  · exact rd_eq1 p L hp hk hft
  · exact rd_eq2 p L hp hk hft
  · exact rd_eq3 p L hp hk hft
  · exact rd_eq4 p L hp hk hft
theorem fit_plQ (p : Pd) (q : Nat) (hq : q ≤ 4) : fitP (plQ q p) q = fitP p q := by
  refine fitsTo_congr _ fun i hi => ?_
  rcases (by omega : q = 0 ∨ q = 1 ∨ q = 2 ∨ q = 3 ∨ q = 4) with rfl | rfl | rfl | rfl | rfl
  · have hi : i < 5 := hi
    rcases (by omega : i = 0 ∨ i = 1 ∨ i = 2 ∨ i = 3 ∨ i = 4) with rfl | rfl | rfl | rfl | rfl <;> rfl
  · have hi : i < 6 := hi
    rcases (by omega : i = 0 ∨ i = 1 ∨ i = 2 ∨ i = 3 ∨ i = 4 ∨ i = 5) with rfl | rfl | rfl | rfl | rfl | rfl <;> rfl
  · have hi : i < 6 := hi
    rcases (by omega : i = 0 ∨ i = 1 ∨ i = 2 ∨ i = 3 ∨ i = 4 ∨ i = 5) with rfl | rfl | rfl | rfl | rfl | rfl <;> rfl
  · have hi : i < 4 := hi
    rcases (by omega : i = 0 ∨ i = 1 ∨ i = 2 ∨ i = 3) with rfl | rfl | rfl | rfl <;> rfl
  · have hi : i < 2 := hi
    rcases (by omega : i = 0 ∨ i = 1) with rfl | rfl <;> rfl
theorem fit_rd (p : Pd) (L : Nat → It) (hp : PdOk p) (q : Nat) (hk : cls p.kd = q) (hq : q ≤ 4) (hft : fitP p q = true) : fitP (rdP q (pdZ p q L)) q = true := by
  have h := rd_eq p L hp q hk hq hft
  rw [← hft, ← fit_plQ p q hq]
  exact fitsTo_congr _ fun i _ => fitB_eq _ ⟨h.1.2.1, h.1.2.2.2.1, h.2.1, h.1.2.2.2.2.2.1⟩
/-- the TLVs of what was written -/
theorem tl_pd (p : Pd) (q : Nat) (L : Nat → It) (hq : q ≤ 4) : tlZ q (pdZ p q L) = J L p.m := by
  funext j
  exact pd_tail p q L hq j
theorem ends_pd (p : Pd) (q : Nat) (L : Nat → It) (hq : q ≤ 4) : pos (tlZ q (pdZ p q L)) p.m = sz L p.m := by
  rw [tl_pd p q L hq]
  exact J_pos L p.m p.m (Nat.le_refl _)
theorem right_sg (z : Nat → Int) (n : Nat) (hn : 27 ≤ n) : rightB (fun j => sgZ z n (12 + j)) 12 (n - 12) = true := by
  have e : (fun j => sgZ z n (12 + j)) = laidZ (fun j => z (12 + j)) 12 (n - 12) := by
    funext j
    unfold sgZ laidZ upd
    by_cases e13 : j = 13
    · subst e13; simp
    · by_cases e12 : j = 12
      · subst e12; simp
      · rw [if_neg (by omega), if_neg (by omega), if_neg e13, if_neg e12]
  rw [e]
  exact right_laid _ _ _
theorem right_pd (p : Pd) (q : Nat) (L : Nat → It) (h2 : q = 2) : rightB (fun j => pdZ p q L (12 + j)) 12 (hdN q + sz L p.m - 12) = true := by
  have e : pdZ p q L = sgZ (wZ p q L) (hdN q + sz L p.m) := by unfold pdZ; rw [if_pos h2]
  rw [e]
  exact right_sg _ _ (by subst h2; show 27 ≤ 27 + _; omega)
end Go.Proofs.Ytkiaijmhoikdiaa

/- pdu.Read, all ways. Each theorem states its conditions. -/
namespace Go.Proofs.Ytkiaijmhoikdiaa
open Go.RowKit
set_option linter.unusedVariables false

/-- the bytes are a packet of m TLVs -/
def GoodZ (z : Nat → Int) (n m : Nat) : Prop := FormOk z n ∧ fitP (rdP (cls (z 4)) z) (cls (z 4)) = true ∧ Ends (tlZ (cls (z 4)) z) (n - hdN (cls (z 4))) m ∧ pos (tlZ (cls (z 4)) z) m = n - hdN (cls (z 4)) ∧ (cls (z 4) = 2 → rightB (fun j => z (12 + j)) 12 (n - 12) = true)
theorem read_good (A : Option Addr) (n c : Nat) (z : Nat → Int) (w : World) (hr : Rd w A n z) (hc : n ≤ c) (hcm : c ≤ maxLen) (hn2 : n ≤ 1492) (m : Nat) (hg : GoodZ z n m) :
    Calls Try.prog 65 #[.slice A n c] w (RdOk w (cls (z 4)) z m) := by
  obtain ⟨h1, h2, h3, h4, h5⟩ := hg
  obtain ⟨b, off, rfl, hr2⟩ := hr.row (by have := h1.1; omega)
  by_cases e : cls (z 4) = 2
  · exact rd_state b off n c z w hr2 hc hcm hn2 _ rfl h1 h2 m h3 h4 e (h5 e)
  · exact rd_plain b off n c z w hr2 hc hcm hn2 _ rfl h1 h2 m h3 h4 e
/-- what was written is a packet -/
theorem good_pd (p : Pd) (L : Nat → It) (hp : PdOk p) (hq : cls p.kd ≤ 4) (hft : fitP p (cls p.kd) = true) (hn : hdN (cls p.kd) + sz L p.m ≤ 1492) (hzb : ∀ j, 0 ≤ pdZ p (cls p.kd) L j ∧ pdZ p (cls p.kd) L j ≤ 255) : GoodZ (pdZ p (cls p.kd) L) (hdN (cls p.kd) + sz L p.m) p.m := by
  have h4 : pdZ p (cls p.kd) L 4 = p.kd := pd_head p _ L hq 4 (by omega)
  have hpos := ends_pd p _ L hq
  refine ⟨form_pd p L hq hn hp.1.1 hzb, ?_, ?_, ?_, ?_⟩
  · rw [h4]; exact fit_rd p L hp _ rfl hq hft
  · rw [h4]; exact ⟨by omega, .inl (by omega)⟩
  · rw [h4, hpos]; omega
  · rw [h4]; exact fun e => right_pd p _ L e
end Go.Proofs.Ytkiaijmhoikdiaa

/- What a store holds: an LSP's entry, its bytes, how long it has been a purge; the order of two. Each theorem states its conditions. -/
namespace Go.Proofs.Ytkiaijmhoikdiaa
open Go.RowKit
set_option linter.unusedVariables false

/-- the order of two numbers -/
def cmp3 (a b : Int) : Int := if a < b then -1 else if b < a then 1 else 0
/-- an order, told by a sign -/
structure Tot {α : Type} (c : α → α → Int) : Prop where
  val : ∀ a b, c a b = -1 ∨ c a b = 0 ∨ c a b = 1
  anti : ∀ a b, c b a = - c a b
  tr : ∀ a b d, 0 ≤ c a b → 0 ≤ c b d → c a d = max (c a b) (c b d)
theorem tot_cmp3 : Tot cmp3 := by
  refine ⟨fun a b => ?_, fun a b => ?_, fun a b d h1 h2 => ?_⟩
  · unfold cmp3; (repeat' split) <;> omega
  · unfold cmp3; (repeat' split) <;> omega
  · revert h1 h2; unfold cmp3; (repeat' split) <;> omega
theorem Tot.comap {α β : Type} {c : α → α → Int} (h : Tot c) (f : β → α) : Tot (fun a b => c (f a) (f b)) :=
  ⟨fun a b => h.val _ _, fun a b => h.anti _ _, fun a b d => h.tr _ _ _⟩
/-- the first of two that isn't nought -/
def or2 (a b : Int) : Int := if a = 0 then b else a
theorem Tot.or {α : Type} {c d : α → α → Int} (hc : Tot c) (hd : Tot d) : Tot (fun a b => or2 (c a b) (d a b)) := by
  refine ⟨fun a b => ?_, fun a b => ?_, fun x y z h1 h2 => ?_⟩
  · have := hc.val a b; have := hd.val a b; unfold or2; split <;> omega
  · have := hc.anti a b; have := hd.anti a b; unfold or2; (repeat' split) <;> omega
  · have := hc.val x y; have := hc.val y z; have := hc.val x z; have := hc.tr x y z
    have := hd.val x y; have := hd.val y z; have := hd.val x z; have := hd.tr x y z
    simp only [or2] at h1 h2 ⊢
    (repeat' split at h1) <;> (repeat' split at h2) <;> (repeat' split) <;> omega
def cmpL : List Int → List Int → Int
  | [], [] => 0
  | [], _ :: _ => -1
  | _ :: _, [] => 1
  | x :: xs, y :: ys => if x < y then -1 else if y < x then 1 else cmpL xs ys
theorem cmpL_val (a : List Int) : ∀ b, cmpL a b = -1 ∨ cmpL a b = 0 ∨ cmpL a b = 1 := by
  induction a with
  | nil => intro b; cases b <;> simp [cmpL]
  | cons x xs ih =>
    intro b
    cases b with
    | nil => simp [cmpL]
    | cons y ys => have := ih ys; simp only [cmpL]; (repeat' split) <;> omega
theorem tot_cmpL : Tot cmpL := by
  refine ⟨fun a b => cmpL_val a b, fun a => ?_, fun a => ?_⟩
  · induction a with
    | nil => intro b; cases b <;> simp [cmpL]
    | cons x xs ih =>
      intro b
      cases b with
      | nil => simp [cmpL]
      | cons y ys => have := ih ys; simp only [cmpL]; (repeat' split) <;> omega
  · induction a with
    | nil =>
      intro b d
      cases b with
      | nil => cases d <;> simp [cmpL]
      | cons y ys => simp [cmpL]
    | cons x xs ih =>
      intro b d
      cases b with
      | nil =>
        intro h1 h2
        cases d with
        | nil => simp only [cmpL]; omega
        | cons z zs => simp [cmpL] at h2
      | cons y ys =>
        cases d with
        | nil =>
          intro h1 h2
          have := cmpL_val xs ys
          simp only [cmpL] at h1 h2 ⊢
          (repeat' split at h1) <;> omega
        | cons z zs =>
          intro h1 h2
          have := ih ys zs
          have := cmpL_val xs ys; have := cmpL_val ys zs
          simp only [cmpL] at h1 h2 ⊢
          (repeat' split at h1) <;> (repeat' split at h2) <;> (repeat' split) <;> omega
/-- the law's two conditions -/
theorem Tot.law {α : Type} {c : α → α → Int} (h : Tot c) (a b d : α) : (c a b < 0 ∨ c b d < 0 ∨ c a d = max (c a b) (c b d)) ∧ (0 < c a b ∨ 0 < c b d ∨ c a d = min (c a b) (c b d)) := by
  have h1 := h.tr a b d
  have h2 := h.tr d b a
  have := h.anti a b; have := h.anti b d; have := h.anti a d
  omega

structure Hd where
  id : Nat
  sq : Nat
  li : Int
  su : Nat
  n : Nat
  z : Nat → Int
  pu : Int
/-- its entry -/
def hdE (h : Hd) : En := ⟨dg h.id, h.sq, h.li, h.su⟩
def hdC (h : Hd) (A : Option Addr) (c : Nat) : Array Value := #[.int .u8 (dg h.id 0), .int .u8 (dg h.id 1), .int .u8 (dg h.id 2), .int .u8 (dg h.id 3), .int .u8 (dg h.id 4), .int .u8 (dg h.id 5), .int .u8 (dg h.id 6), .int .u8 (dg h.id 7), .int .u32 (h.sq : Int), .int .i64 h.li, .int .u16 (h.su : Int), .slice A h.n c, .int .i64 h.pu]
theorem enC_all (e : En) : (enC e).all (·.oneCell') = true := by kernel_rfl
theorem info_enP : (Try.prog.info? 32).map (·.size) = some 11 := by kernel_rfl
/-- the ID that bytes tell -/
def idZ (z : Nat → Int) : Nat := (z 12).toNat * 72057594037927936 + (z 13).toNat * 281474976710656 + (z 14).toNat * 1099511627776 + (z 15).toNat * 4294967296 + (z 16).toNat * 16777216 + (z 17).toNat * 65536 + (z 18).toNat * 256 + (z 19).toNat
theorem idZ_both (z : Nat → Int) (hz : ∀ j, 0 ≤ z j ∧ z j ≤ 255) : IdOk (idZ z) ∧ ∀ i, i < 8 → dg (idZ z) i = z (12 + i) := by
  obtain ⟨f, hf⟩ : ∃ f : Nat → Nat, ∀ i, z i = (f i : Int) ∧ f i ≤ 255 := ⟨fun i => (z i).toNat, fun i => by have := hz i; show z i = ((z i).toNat : Int) ∧ (z i).toNat ≤ 255; omega⟩
  have a0 := hf 12; have a1 := hf 13; have a2 := hf 14; have a3 := hf 15; have a4 := hf 16; have a5 := hf 17; have a6 := hf 18; have a7 := hf 19
  have e : idZ z = f 12 * 72057594037927936 + f 13 * 281474976710656 + f 14 * 1099511627776 + f 15 * 4294967296 + f 16 * 16777216 + f 17 * 65536 + f 18 * 256 + f 19 := by
    unfold idZ
    rw [a0.1, a1.1, a2.1, a3.1, a4.1, a5.1, a6.1, a7.1]
    simp only [Int.toNat_natCast]
  rw [e]
  refine ⟨by unfold IdOk; omega, fun i hi => ?_⟩
  rcases (by omega : i = 0 ∨ i = 1 ∨ i = 2 ∨ i = 3 ∨ i = 4 ∨ i = 5 ∨ i = 6 ∨ i = 7) with rfl | rfl | rfl | rfl | rfl | rfl | rfl | rfl
  · rw [show 12 + 0 = 12 from rfl, a0.1]; simp only [dg, pw]; omega
  · rw [show 12 + 1 = 13 from rfl, a1.1]; simp only [dg, pw]; omega
  · rw [show 12 + 2 = 14 from rfl, a2.1]; simp only [dg, pw]; omega
  · rw [show 12 + 3 = 15 from rfl, a3.1]; simp only [dg, pw]; omega
  · rw [show 12 + 4 = 16 from rfl, a4.1]; simp only [dg, pw]; omega
  · rw [show 12 + 5 = 17 from rfl, a5.1]; simp only [dg, pw]; omega
  · rw [show 12 + 6 = 18 from rfl, a6.1]; simp only [dg, pw]; omega
  · rw [show 12 + 7 = 19 from rfl, a7.1]; simp only [dg, pw]; omega
theorem idZ_bd (z : Nat → Int) (hz : ∀ j, 0 ≤ z j ∧ z j ≤ 255) : IdOk (idZ z) := (idZ_both z hz).1
theorem dg_idZ (z : Nat → Int) (hz : ∀ j, 0 ≤ z j ∧ z j ≤ 255) (i : Nat) (hi : i < 8) : dg (idZ z) i = z (12 + i) := (idZ_both z hz).2 i hi
/-- what is held of bytes -/
def hdZ (n : Nat) (z : Nat → Int) : Hd := ⟨idZ z, (numZ (fun j => z (20 + j)) 0 4).toNat, (((numZ (fun j => z (10 + j)) 0 2).toNat : Nat) : Int), (z 24 * 256 + z 25).toNat, n, z, 0⟩
/-- bytes as a list -/
def lstZ (z : Nat → Int) (a n : Nat) : List Int := (List.range n).map fun j => z (a + j)
/-- what two entries alone tell -/
def relE (a b : En) : Int := or2 (cmp3 (a.sq : Int) (b.sq : Int)) (or2 (cmp3 (if a.li = 0 then 1 else 0) (if b.li = 0 then 1 else 0)) (cmp3 (a.su : Int) (b.su : Int)))
/-- how one stands to another -/
def relH (a b : Hd) : Int := or2 (relE (hdE a) (hdE b)) (or2 (cmpL (lstZ a.z 0 10) (lstZ b.z 0 10)) (cmpL (lstZ a.z 12 (a.n - 12)) (lstZ b.z 12 (b.n - 12))))
theorem tot_relE : Tot relE := (tot_cmp3.comap (fun a : En => (a.sq : Int))).or ((tot_cmp3.comap (fun a : En => if a.li = 0 then 1 else 0)).or (tot_cmp3.comap (fun a : En => (a.su : Int))))
theorem tot_relH : Tot relH := (tot_relE.comap hdE).or ((tot_cmpL.comap (fun a : Hd => lstZ a.z 0 10)).or (tot_cmpL.comap (fun a : Hd => lstZ a.z 12 (a.n - 12))))
/-- an LSP can be read at g -/
def HdR (w : World) (g : Nat) (h : Hd) : Prop := ∃ A c, Blk 92 w g (hdC h A c) ∧ Rd w A h.n h.z ∧ h.n ≤ c ∧ c ≤ maxLen
/-- a row of bytes in a block of bytes -/
def RwT (w : World) (b off n : Nat) (z : Nat → Int) : Prop := Row8 w b off n z ∧ ∃ cur, w.heap[b]? = some (.cells cur 5 (0, 0))
section
variable {w w' : World} {b off n : Nat} {z : Nat → Int}
theorem RwT.lt (h : RwT w b off n z) : b < w.heap.size := h.1.1
theorem RwT.block (h : RwT w b off n z) (e : w'.heap[b]? = w.heap[b]?) : RwT w' b off n z := by
  obtain ⟨⟨h1, h2, h3⟩, cur, h4⟩ := h
  have h5 : w'.heap[b]? = some (.cells cur 5 (0, 0)) := e.trans h4
  exact ⟨⟨(Array.getElem?_eq_some_iff.1 h5).1, fun j hj => (World.cell?_of_block e).trans (h2 j hj), h3⟩, cur, h5⟩
theorem RwT.below {B : Nat} (h : RwT w b off n z) (hb : Below B w w') (hB : b < B) : RwT w' b off n z := h.block (hb.block b hB)
theorem RwT.far {c : Nat} {C : Array Value} {t : TypeId} (h : RwT w b off n z) (hs : Stored w w' c C t) (hk : b ≠ c) : RwT w' b off n z := h.block (hs.2.2 b hk)
theorem RwT.of {c : Nat} (h : Own8 w b n c z) (hn : 0 < n) : RwT w b 0 n z := by
  obtain ⟨b1, o1, e, hr⟩ := (Own8.rd h).row hn
  obtain ⟨⟨cur, h1, _⟩, _⟩ := h
  cases e
  exact ⟨hr, cur, h1⟩
end
/-- an LSP lies at g, with bytes of the store's own -/
def HdAt (w : World) (B g : Nat) (h : Hd) : Prop := B ≤ g ∧ ∃ ro oa c, Blk 92 w g (hdC h (some ⟨ro, oa, none⟩) c) ∧ RwT w ro oa h.n h.z ∧ B ≤ ro ∧ h.n ≤ c ∧ c ≤ maxLen
theorem HdAt.lt {w : World} {B g : Nat} {h : Hd} (k : HdAt w B g h) : g < w.heap.size := by obtain ⟨_, _, _, _, k, _⟩ := k; exact k.lt
theorem HdAt.below {w w' : World} {B g : Nat} {h : Hd} (k : HdAt w B g h) (hb : Below w.heap.size w w') : HdAt w' B g h := by
  obtain ⟨h1, ro, oa, c, h2, h3, h4⟩ := k
  exact ⟨h1, ro, oa, c, h2.below hb h2.lt, h3.below hb h3.lt, h4⟩
theorem HdAt.r {w : World} {B g : Nat} {h : Hd} (k : HdAt w B g h) : HdR w g h := by
  obtain ⟨h1, ro, oa, c, h2, h3, h4, h5, h6⟩ := k
  exact ⟨_, c, h2, ⟨.inr ⟨ro, oa, rfl, h3.1⟩, h3.1.2.2⟩, h5, h6⟩
end Go.Proofs.Ytkiaijmhoikdiaa
