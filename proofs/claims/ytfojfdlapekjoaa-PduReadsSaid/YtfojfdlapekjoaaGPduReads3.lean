/- Texts of this claim put together; each theorem states its conditions. -/
import Derived.Test.YtfojfdlapekjoaaGPduReads2
import Derived.Stop.BytesEq
/- pdu's fields, size, ahead, head, isState. Each theorem states its conditions. -/
namespace Go.Proofs.Ytfojfdlapekjoaa
open Go.RowKit
set_option linter.unusedVariables false

theorem fields_any (k : Int) (q : Nat) (hk : cls k = q) (hq : q ≤ 4) (w : World) : Calls Try.prog 30 #[.int .u8 k] w fun e w' => e = .returned (.slice (some ⟨w.heap.size, 0, none⟩) (flC q).length (flC q).length) ∧ w'.heap[w.heap.size]? = some (.cells (flA q) 78 (0, 0)) ∧ Below w.heap.size w w' := by
  subst hk
  have hk : k = 17 ∨ k = 15 ∨ k = 16 ∨ k = 18 ∨ k = 20 ∨ k = 24 ∨ k = 25 ∨ k = 26 ∨ k = 27 := by unfold cls at hq; (repeat' split at hq) <;> omega
  clear hq
  rcases hk with rfl | rfl | rfl | rfl | rfl | rfl | rfl | rfl | rfl
  · go_enter Try.func30, Try.ntmps30
    go_wp2
    go_ret
    exact ⟨rfl, heap_alloc_new w _, (bself w).alloc (Nat.le_refl _) _⟩
  · go_enter Try.func30, Try.ntmps30
    go_wp2
    go_ret
    exact ⟨rfl, heap_alloc_new w _, (bself w).alloc (Nat.le_refl _) _⟩
  · go_enter Try.func30, Try.ntmps30
    go_wp2
    go_ret
    exact ⟨rfl, heap_alloc_new w _, (bself w).alloc (Nat.le_refl _) _⟩
  · go_enter Try.func30, Try.ntmps30
    go_wp2
    go_ret
    exact ⟨rfl, heap_alloc_new w _, (bself w).alloc (Nat.le_refl _) _⟩
  · go_enter Try.func30, Try.ntmps30
    go_wp2
    go_ret
    exact ⟨rfl, heap_alloc_new w _, (bself w).alloc (Nat.le_refl _) _⟩
  · go_enter Try.func30, Try.ntmps30
    go_wp2
    go_ret
    exact ⟨rfl, heap_alloc_new w _, (bself w).alloc (Nat.le_refl _) _⟩
  · go_enter Try.func30, Try.ntmps30
    go_wp2
    go_ret
    exact ⟨rfl, heap_alloc_new w _, (bself w).alloc (Nat.le_refl _) _⟩
  · go_enter Try.func30, Try.ntmps30
    go_wp2
    go_ret
    exact ⟨rfl, heap_alloc_new w _, (bself w).alloc (Nat.le_refl _) _⟩
  · go_enter Try.func30, Try.ntmps30
    go_wp2
    go_ret
    exact ⟨rfl, heap_alloc_new w _, (bself w).alloc (Nat.le_refl _) _⟩
theorem fields_none (k : Int) (hk : cls k = 5) (w : World) : Calls Try.prog 30 #[.int .u8 k] w fun e w' => e = .returned (.slice none 0 0) ∧ w = w' := by
  have h : ¬ (k = 17 ∨ k = 15 ∨ k = 16 ∨ k = 18 ∨ k = 20 ∨ k = 24 ∨ k = 25 ∨ k = 26 ∨ k = 27) := by unfold cls at hk; (repeat' split at hk) <;> omega
  clear hk
  have h17 : (k == 17) = false := by simp; omega
  have h15 : (k == 15) = false := by simp; omega
  have h16 : (k == 16) = false := by simp; omega
  have h18 : (k == 18) = false := by simp; omega
  have h20 : (k == 20) = false := by simp; omega
  have h24 : (k == 24) = false := by simp; omega
  have h25 : (k == 25) = false := by simp; omega
  have h26 : (k == 26) = false := by simp; omega
  have h27 : (k == 27) = false := by simp; omega
  clear h
  go_enter Try.func30, Try.ntmps30
  go_wp2
  go_ret
  exact ⟨rfl, rfl⟩
theorem size_any (f : Nat) (hf : f ≤ 14) (w : World) : Calls Try.prog 52 #[.int .i64 (f : Int)] w fun e w' => e = .returned (.int .i64 (fsz f : Nat)) ∧ w = w' := by
  rcases (by omega : f = 0 ∨ f = 1 ∨ f = 2 ∨ f = 3 ∨ f = 4 ∨ f = 5 ∨ f = 6 ∨ f = 7 ∨ f = 8 ∨ f = 9 ∨ f = 10 ∨ f = 11 ∨ f = 12 ∨ f = 13 ∨ f = 14) with rfl | rfl | rfl | rfl | rfl | rfl | rfl | rfl | rfl | rfl | rfl | rfl | rfl | rfl | rfl <;>
  · go_enter Try.func52, Try.ntmps52
    go_wp2
    go_ret
    exact ⟨rfl, rfl⟩
/-- the list of a kind's fields lies at g -/
def FlAt (w : World) (g q : Nat) : Prop := w.heap[g]? = some (.cells (flA q) 78 (0, 0))
theorem FlAt.cell {w : World} {g q i : Nat} (h : FlAt w g q) (hi : i < (flC q).length) : w.cell? ⟨g, i, none⟩ = some (.int .i64 ((fAt q i : Nat) : Int)) := by
  rw [cell_of_row w g i _ _ _ h]
  exact flA_at q i hi
theorem FlAt.below {w w' : World} {g q : Nat} (h : FlAt w g q) (hb : Below w.heap.size w w') : FlAt w' g q := (hb.block g (Array.getElem?_eq_some_iff.1 h).1).trans h
theorem ahead_any (g q : Nat) (hq : q ≤ 4) (w : World) (h : FlAt w g q) : Calls Try.prog 33 #[.slice (some ⟨g, 0, none⟩) (flC q).length (flC q).length] w fun e w' => e = .returned (.int .i64 (hdN q : Nat)) ∧ w = w' := by
  have HF := Lib.hid h
  have hl := fl_len q hq
  have HD : Hid (accN q (flC q).length = hdN q) := Lib.hid rfl
  obtain ⟨n, hn⟩ : ∃ n, (flC q).length = n := ⟨_, rfl⟩
  have HN := Lib.hid hn
  rw [hn] at hl HD ⊢
  clear h hn
  go_enter Try.func33, Try.ntmps33
  go_wp2_with fail
  go_loop [3, 8] (fun s t => ∃ i : Nat, i ≤ n ∧ t = .int .i64 i ∧ s = .int .i64 (accN q i : Nat)) (fun _ t => n - (intOf t).toNat)
  case atStart => exact ⟨0, Nat.zero_le _, rfl, rfl⟩
  case round =>
    obtain ⟨i, hi, rfl, rfl⟩ := hrel
    by_cases hlt : i < n
    · have ci := HF.out.cell (i := i) (by rw [HN.out]; exact hlt)
      have hb := accN_bd q i
      have hs : Hid (accN q (i + 1) = accN q i + fsz (fAt q i)) := Lib.hid rfl
      have hf := fAt_le q i hq
      have hfz := fsz_bd (fAt q i)
      obtain ⟨f, hf'⟩ : ∃ f, fAt q i = f := ⟨_, rfl⟩
      rw [hf'] at ci hs hf hfz
      clear hf'
      have HS := Lib.hid (size_any f hf)
      go_wp2_with fail
      refine (HS.out _).mono ?_
      rintro e w1 ⟨rfl, rfl⟩
      go_wp2_with fail
      go_round
      case rel => exact ⟨i + 1, by omega, by go_num, by rw [hs.out]; go_num⟩
      case measure => simp [intOf]; omega
    · obtain rfl : i = n := by omega
      rw [HD.out]
      go_wp2_with fail
      go_ret
      exact ⟨rfl, rfl⟩
theorem head_new (w : World) (k : Int) (n : Nat) : Own8 (w.alloc (.cells #[.int .u8 131, .int .u8 (n : Int), .int .u8 1, .int .u8 0, .int .u8 k, .int .u8 1, .int .u8 0, .int .u8 0] 5)) w.heap.size 8 8 (headZ k n) ↔ ∀ j, 0 ≤ headZ k n j ∧ headZ k n j ≤ 255 := by
  refine ⟨fun h => h.2, fun h => ⟨⟨_, heap_alloc_new w _, Nat.le_refl _, by decide, rfl, fun j hj => ?_⟩, h⟩⟩
  rcases (by omega : j = 0 ∨ j = 1 ∨ j = 2 ∨ j = 3 ∨ j = 4 ∨ j = 5 ∨ j = 6 ∨ j = 7) with rfl | rfl | rfl | rfl | rfl | rfl | rfl | rfl <;> rfl
theorem head_any (k : Int) (n : Nat) (hk : by1 k) (hn : n ≤ 255) (w : World) : Calls Try.prog 34 #[.int .u8 k, .int .i64 (n : Int)] w fun e w' => e = .returned (.slice (some ⟨w.heap.size, 0, none⟩) 8 8) ∧ Own8 w' w.heap.size 8 8 (headZ k n) ∧ Below w.heap.size w w' := by
  have H := Lib.hid ((head_new w k n).2 (headZ_bd k n hk hn))
  clear hk
  go_enter Try.func34, Try.ntmps34
  go_wp2_with fail
  go_ret
  exact ⟨rfl, H.out, (bself w).alloc (Nat.le_refl _) _⟩
theorem isState_any (k : Int) (w : World) : Calls Try.prog 36 #[.int .u8 k] w fun e w' => e = .returned (.bool (decide (cls k = 2))) ∧ w = w' := by
  by_cases h1 : k = 18
  · subst h1
    go_enter Try.func36, Try.ntmps36
    go_wp2
    go_ret
    exact ⟨rfl, rfl⟩
  · by_cases h2 : k = 20
    · subst h2
      go_enter Try.func36, Try.ntmps36
      go_wp2
      go_ret
      exact ⟨rfl, rfl⟩
    · have h3 : (k == 18) = false := by simpa using h1
      have h4 : (k == 20) = false := by simpa using h2
      have h5 : Hid (decide (cls k = 2) = false) := Lib.hid (by unfold cls; simp only [decide_eq_false_iff_not]; (repeat' split) <;> omega)
      clear h1 h2
      go_enter Try.func36, Try.ntmps36
      go_wp2
      go_ret
      exact ⟨ret_bool h5.out.symm, rfl⟩
end Go.Proofs.Ytfojfdlapekjoaa

/- pdu.put writes a field of a packet. Each theorem states its conditions. -/
namespace Go.Proofs.Ytfojfdlapekjoaa
open Go.RowKit
set_option linter.unusedVariables false

/-- a packet lies at g -/
def PdAt (w : World) (g : Nat) (p : Pd) : Prop := w.heap[g]? = some (.cells (pdC p) 33 (0, 0))
theorem PdAt.lt {w : World} {g : Nat} {p : Pd} (h : PdAt w g p) : g < w.heap.size := (Array.getElem?_eq_some_iff.1 h).1
theorem PdAt.below {w w' : World} {g B : Nat} {p : Pd} (h : PdAt w g p) (hb : Below B w w') (hB : g < B) : PdAt w' g p := (hb.block g hB).trans h
theorem PdAt.cell {w : World} {g : Nat} {p : Pd} (h : PdAt w g p) (i : Nat) : w.cell? ⟨g, i, none⟩ = (pdC p)[i]? := cell_of_row w g i _ _ _ h
theorem blk_range {w : World} {X o : Nat} {C : Array Value} {cs : List Value} {t : TypeId} (h : w.heap[X]? = some (.cells C t (0, 0))) (hs : ∀ j, j < cs.length → C[o + j]? = cs[j]?) : w.rangeAt X o cs := by
  intro j u hj
  rw [cell_of_row w X (o + j) _ _ _ h, hs j ?_]
  · exact hj
  · rcases Nat.lt_or_ge j cs.length with h1 | h1
    · exact h1
    · rw [List.getElem?_eq_none h1] at hj; cases hj
theorem PdAt.so {w : World} {g : Nat} {p : Pd} (h : PdAt w g p) : w.rangeAt g 2 (ndC p.so).toList := blk_range h fun j hj => by
  rcases (by have : j < 7 := hj; omega : j = 0 ∨ j = 1 ∨ j = 2 ∨ j = 3 ∨ j = 4 ∨ j = 5 ∨ j = 6) with rfl | rfl | rfl | rfl | rfl | rfl | rfl <;> rfl
theorem PdAt.la {w : World} {g : Nat} {p : Pd} (h : PdAt w g p) : w.rangeAt g 12 (ndC p.la).toList := blk_range h fun j hj => by
  rcases (by have : j < 7 := hj; omega : j = 0 ∨ j = 1 ∨ j = 2 ∨ j = 3 ∨ j = 4 ∨ j = 5 ∨ j = 6) with rfl | rfl | rfl | rfl | rfl | rfl | rfl <;> rfl
theorem PdAt.id {w : World} {g : Nat} {p : Pd} (h : PdAt w g p) : w.rangeAt g 20 (idC p.id).toList := blk_range h fun j hj => by
  rcases (by have : j < 8 := hj; omega : j = 0 ∨ j = 1 ∨ j = 2 ∨ j = 3 ∨ j = 4 ∨ j = 5 ∨ j = 6 ∨ j = 7) with rfl | rfl | rfl | rfl | rfl | rfl | rfl | rfl <;> rfl
theorem PdAt.st {w : World} {g : Nat} {p : Pd} (h : PdAt w g p) : w.rangeAt g 30 (idC p.st).toList := blk_range h fun j hj => by
  rcases (by have : j < 8 := hj; omega : j = 0 ∨ j = 1 ∨ j = 2 ∨ j = 3 ∨ j = 4 ∨ j = 5 ∨ j = 6 ∨ j = 7) with rfl | rfl | rfl | rfl | rfl | rfl | rfl | rfl <;> rfl
theorem PdAt.en {w : World} {g : Nat} {p : Pd} (h : PdAt w g p) : w.rangeAt g 38 (idC p.en).toList := blk_range h fun j hj => by
  rcases (by have : j < 8 := hj; omega : j = 0 ∨ j = 1 ∨ j = 2 ∨ j = 3 ∨ j = 4 ∨ j = 5 ∨ j = 6 ∨ j = 7) with rfl | rfl | rfl | rfl | rfl | rfl | rfl | rfl <;> rfl
theorem PdAt.sys {w : World} {g : Nat} {p : Pd} (h : PdAt w g p) (hz : ∀ j, 0 ≤ p.so j ∧ p.so j ≤ 255) : Row8 w g 2 6 p.so :=
  ⟨h.lt, fun j hj => by
    rw [h.cell]
    rcases (by omega : j = 0 ∨ j = 1 ∨ j = 2 ∨ j = 3 ∨ j = 4 ∨ j = 5) with rfl | rfl | rfl | rfl | rfl | rfl <;> rfl, hz⟩
/-- what put leaves -/
def PutFPost (w : World) (n : Nat) (z : Nat → Int) (e : Ending) (w' : World) : Prop := ∃ ad c, e = .returned (.slice (some ad) n c) ∧ Rd w' (some ad) n z ∧ Below w.heap.size w w'
theorem one_own (w : World) (x : Int) (hx : by1 x) : Own8 (w.alloc (.cells #[.int .u8 x] 5)) w.heap.size 1 1 (fun _ => x) :=
  ⟨⟨_, heap_alloc_new w _, Nat.le_refl _, by decide, rfl, fun j hj => (by have h0 : j = 0 := (by omega); subst h0; rfl)⟩, fun _ => hx⟩
theorem putF_own {w w' : World} {v : Value} {n : Nat} {z : Nat → Int} (h : OwnB w' w.heap.size v n z) (hb : Below w.heap.size w w') (hn : 0 < n) : PutFPost w n z (.returned v) w' := by
  obtain ⟨g, cap, rfl, hg, ho⟩ := own_ofB h hn
  exact ⟨_, _, rfl, ho.rd, hb⟩
theorem info_node : (Try.prog.info? 25).map (·.size) = some 7 := by kernel_rfl
set_option maxRecDepth 100000 in
theorem put_0 (p : Pd) (hp : PdOk p) (g W : Nat) (hW : W ≤ 65535) (w : World) (h : PdAt w g p) : Calls Try.prog 35 #[.pointer (some ⟨g, 0, none⟩), .int .i64 0, .int .i64 (W : Int)] w (PutFPost w 1 (fZ p W 0)) := by
  have c1 : w.cell? ⟨g, 1, none⟩ = some (.int .u8 p.ci) := (h.cell 1).trans rfl
  have HO := Lib.hid (one_own w p.ci hp.1.2.1)
  clear h hp
  go_enter Try.func35, Try.ntmps35
  go_wp2_with fail
  go_ret
  exact ⟨_, _, rfl, HO.out.rd, (bself w).alloc (Nat.le_refl _) _⟩
set_option maxRecDepth 100000 in
theorem put_5 (p : Pd) (hp : PdOk p) (g W : Nat) (hW : W ≤ 65535) (w : World) (h : PdAt w g p) : Calls Try.prog 35 #[.pointer (some ⟨g, 0, none⟩), .int .i64 5, .int .i64 (W : Int)] w (PutFPost w 1 (fZ p W 5)) := by
  have c1 : w.cell? ⟨g, 10, none⟩ = some (.int .u8 p.nu) := (h.cell 10).trans rfl
  have HO := Lib.hid (one_own w p.nu hp.1.2.2.2.2.1)
  clear h hp
  go_enter Try.func35, Try.ntmps35
  go_wp2_with fail
  go_ret
  exact ⟨_, _, rfl, HO.out.rd, (bself w).alloc (Nat.le_refl _) _⟩
set_option maxRecDepth 100000 in
theorem put_6 (p : Pd) (hp : PdOk p) (g W : Nat) (hW : W ≤ 65535) (w : World) (h : PdAt w g p) : Calls Try.prog 35 #[.pointer (some ⟨g, 0, none⟩), .int .i64 6, .int .i64 (W : Int)] w (PutFPost w 1 (fZ p W 6)) := by
  have c1 : w.cell? ⟨g, 11, none⟩ = some (.int .u8 p.pr) := (h.cell 11).trans rfl
  have HO := Lib.hid (one_own w p.pr hp.1.2.2.2.2.2.1)
  clear h hp
  go_enter Try.func35, Try.ntmps35
  go_wp2_with fail
  go_ret
  exact ⟨_, _, rfl, HO.out.rd, (bself w).alloc (Nat.le_refl _) _⟩
set_option maxRecDepth 100000 in
theorem put_12 (p : Pd) (hp : PdOk p) (g W : Nat) (hW : W ≤ 65535) (w : World) (h : PdAt w g p) : Calls Try.prog 35 #[.pointer (some ⟨g, 0, none⟩), .int .i64 12, .int .i64 (W : Int)] w (PutFPost w 1 (fZ p W 12)) := by
  have c1 : w.cell? ⟨g, 29, none⟩ = some (.int .u8 p.bi) := (h.cell 29).trans rfl
  have HO := Lib.hid (one_own w p.bi hp.2.2.2.2.1)
  clear h hp
  go_enter Try.func35, Try.ntmps35
  go_wp2_with fail
  go_ret
  exact ⟨_, _, rfl, HO.out.rd, (bself w).alloc (Nat.le_refl _) _⟩
set_option maxRecDepth 100000 in
theorem put_1 (p : Pd) (hp : PdOk p) (g W : Nat) (hW : W ≤ 65535) (w : World) (h : PdAt w g p) : Calls Try.prog 35 #[.pointer (some ⟨g, 0, none⟩), .int .i64 1, .int .i64 (W : Int)] w (PutFPost w 6 (fZ p W 1)) := by
  have HR := Lib.hid (h.sys hp.1.2.2.1)
  clear h hp
  go_enter Try.func35, Try.ntmps35
  go_wp2_with fail
  go_ret
  exact ⟨_, _, rfl, ⟨.inr ⟨g, 2, rfl, HR.out.1, fun j hj => by show _ = some (Value.int IntKind.u8 (cutSys p.so j)); unfold cutSys; rw [if_pos hj]; exact HR.out.2.1 j hj, cutSys_bd HR.out.2.2⟩, cutSys_bd HR.out.2.2⟩, bself w⟩
set_option maxRecDepth 100000 in
theorem put_2 (p : Pd) (hp : PdOk p) (g W : Nat) (hW : W ≤ 65535) (w : World) (h : PdAt w g p) : Calls Try.prog 35 #[.pointer (some ⟨g, 0, none⟩), .int .i64 2, .int .i64 (W : Int)] w (PutFPost w 7 (fZ p W 2)) := by
  have HZ := Lib.hid hp.1.2.2.1
  have HR := Lib.hid h.so
  have HN := Lib.hid (putNode_any p.so w HZ.out)
  clear h hp
  go_enter Try.func35, Try.ntmps35
  go_wp2_with (refine wpList_load_mid rfl 25 (.tmp 26) rfl g 2 rfl (ndC p.so).toList _ HR.out Try.underlying25 rfl info_node ?_)
  refine HN.out.mono ?_
  rintro e w1 ⟨v, rfl, ho, hb⟩
  have HO := Lib.hid ho
  have HB := Lib.hid hb
  clear ho hb
  go_wp2_with fail
  go_ret
  exact putF_own HO.out HB.out (by omega)
set_option maxRecDepth 100000 in
theorem put_7 (p : Pd) (hp : PdOk p) (g W : Nat) (hW : W ≤ 65535) (w : World) (h : PdAt w g p) : Calls Try.prog 35 #[.pointer (some ⟨g, 0, none⟩), .int .i64 7, .int .i64 (W : Int)] w (PutFPost w 7 (fZ p W 7)) := by
  have HZ := Lib.hid hp.1.2.2.2.2.2.2
  have HR := Lib.hid h.la
  have HN := Lib.hid (putNode_any p.la w HZ.out)
  clear h hp
  go_enter Try.func35, Try.ntmps35
  go_wp2_with (refine wpList_load_mid rfl 25 (.tmp 64) rfl g 12 rfl (ndC p.la).toList _ HR.out Try.underlying25 rfl info_node ?_)
  refine HN.out.mono ?_
  rintro e w1 ⟨v, rfl, ho, hb⟩
  have HO := Lib.hid ho
  have HB := Lib.hid hb
  clear ho hb
  go_wp2_with fail
  go_ret
  exact putF_own HO.out HB.out (by omega)
set_option maxRecDepth 100000 in
theorem put_9 (p : Pd) (hp : PdOk p) (g W : Nat) (hW : W ≤ 65535) (w : World) (h : PdAt w g p) : Calls Try.prog 35 #[.pointer (some ⟨g, 0, none⟩), .int .i64 9, .int .i64 (W : Int)] w (PutFPost w 8 (fZ p W 9)) := by
  have HZ := Lib.hid hp.2.2.1
  have HR := Lib.hid h.id
  have HN := Lib.hid (putID_any p.id w HZ.out)
  clear h hp
  go_enter Try.func35, Try.ntmps35
  go_wp2_with (refine wpList_load_mid rfl 27 (.tmp 81) rfl g 20 rfl (idC p.id).toList _ HR.out Try.underlying27 rfl info_id ?_)
  refine HN.out.mono ?_
  rintro e w1 ⟨v, rfl, ho, hb⟩
  have HO := Lib.hid ho
  have HB := Lib.hid hb
  clear ho hb
  go_wp2_with fail
  go_ret
  exact putF_own HO.out HB.out (by omega)
set_option maxRecDepth 100000 in
theorem put_13 (p : Pd) (hp : PdOk p) (g W : Nat) (hW : W ≤ 65535) (w : World) (h : PdAt w g p) : Calls Try.prog 35 #[.pointer (some ⟨g, 0, none⟩), .int .i64 13, .int .i64 (W : Int)] w (PutFPost w 8 (fZ p W 13)) := by
  have HZ := Lib.hid hp.2.2.2.2.2.1
  have HR := Lib.hid h.st
  have HN := Lib.hid (putID_any p.st w HZ.out)
  clear h hp
  go_enter Try.func35, Try.ntmps35
  go_wp2_with (refine wpList_load_mid rfl 27 (.tmp 105) rfl g 30 rfl (idC p.st).toList _ HR.out Try.underlying27 rfl info_id ?_)
  refine HN.out.mono ?_
  rintro e w1 ⟨v, rfl, ho, hb⟩
  have HO := Lib.hid ho
  have HB := Lib.hid hb
  clear ho hb
  go_wp2_with fail
  go_ret
  exact putF_own HO.out HB.out (by omega)
set_option maxRecDepth 100000 in
theorem put_14 (p : Pd) (hp : PdOk p) (g W : Nat) (hW : W ≤ 65535) (w : World) (h : PdAt w g p) : Calls Try.prog 35 #[.pointer (some ⟨g, 0, none⟩), .int .i64 14, .int .i64 (W : Int)] w (PutFPost w 8 (fZ p W 14)) := by
  have HZ := Lib.hid hp.2.2.2.2.2.2
  have HR := Lib.hid h.en
  have HN := Lib.hid (putID_any p.en w HZ.out)
  clear h hp
  go_enter Try.func35, Try.ntmps35
  go_wp2_with (refine wpList_load_mid rfl 27 (.tmp 112) rfl g 38 rfl (idC p.en).toList _ HR.out Try.underlying27 rfl info_id ?_)
  refine HN.out.mono ?_
  rintro e w1 ⟨v, rfl, ho, hb⟩
  have HO := Lib.hid ho
  have HB := Lib.hid hb
  clear ho hb
  go_wp2_with fail
  go_ret
  exact putF_own HO.out HB.out (by omega)
set_option maxRecDepth 100000 in
theorem put_4 (p : Pd) (hp : PdOk p) (g W : Nat) (hW : W ≤ 65535) (w : World) (h : PdAt w g p) : Calls Try.prog 35 #[.pointer (some ⟨g, 0, none⟩), .int .i64 4, .int .i64 (W : Int)] w (PutFPost w 2 (fZ p W 4)) := by
  have HN := Lib.hid (putNumber_any W 2 w (by decide) (by decide) (by omega) (qN_fit _ _ (by omega)))
  have HS := Lib.hid (size_any 4 (by decide) w)
  have hw := wrapU W (by omega)
  clear h hp
  go_enter Try.func35, Try.ntmps35
  go_wp2_with fail
  refine HS.out.mono ?_
  rintro e w1 ⟨rfl, rfl⟩
  go_wp2_with fail
  refine HN.out.mono ?_
  rintro e w1 ⟨x, rfl, hx, ho, hb⟩
  have HO := Lib.hid ho
  have HB := Lib.hid hb
  clear ho hb
  go_wp2_with fail
  go_ret
  exact ⟨_, _, rfl, HO.out.rd, HB.out⟩
set_option maxRecDepth 100000 in
theorem put_11 (p : Pd) (hp : PdOk p) (g W : Nat) (hW : W ≤ 65535) (w : World) (h : PdAt w g p) : Calls Try.prog 35 #[.pointer (some ⟨g, 0, none⟩), .int .i64 11, .int .i64 (W : Int)] w (PutFPost w 2 (fZ p W 11)) := by
  have HS := Lib.hid (show Calls Try.prog 52 #[.int .i64 11] w (fun e w' => e = .returned (.int .i64 2) ∧ w = w') from size_any 11 (by decide) w)
  have hmk : ∀ W : World, (Instr.makeSlice 35 (.int .i64 2) (.int .i64 2)).run Try.prog W = .ok (.slice (some ⟨W.heap.size, 0, none⟩) 2 2) (W.alloc (.cells (zer 2) 5)) := make8 2 (by decide)
  have HO := Lib.hid (zer_own w 2 (by decide))
  clear h hp
  go_enter Try.func35, Try.ntmps35
  go_wp2_with fail
  refine HS.out.mono ?_
  rintro e w1 ⟨rfl, rfl⟩
  go_wp2_with fail
  go_ret
  exact ⟨_, _, rfl, HO.out.rd, (bself w).alloc (Nat.le_refl _) _⟩
set_option maxRecDepth 100000 in
theorem put_3 (p : Pd) (hp : PdOk p) (g W : Nat) (hW : W ≤ 65535) (h0 : 0 ≤ p.ho) (h1 : p.ho ≤ 65535) (w : World) (h : PdAt w g p) : Calls Try.prog 35 #[.pointer (some ⟨g, 0, none⟩), .int .i64 3, .int .i64 (W : Int)] w (PutFPost w 2 (fZ p W 3)) := by
  obtain ⟨N, hN⟩ : ∃ N : Nat, p.ho = (N : Int) := ⟨p.ho.toNat, by omega⟩
  have HNN := Lib.hid hN
  have hN2 : N ≤ 65535 := by omega
  have c1 : w.cell? ⟨g, 9, none⟩ = some (.int .i64 (N : Int)) := (h.cell 9).trans (by rw [← hN]; rfl)
  have hw := wrapU N (by omega)
  have HW := Lib.hid hw
  have HN := Lib.hid (fun W : World => putNumber_any N 2 W (by decide) (by decide) (by omega) (qN_fit _ _ (by omega)))
  have HS := Lib.hid (size_any 3 (by decide))
  have HC := Lib.hid c1
  suffices hX : Calls Try.prog 35 #[.pointer (some ⟨g, 0, none⟩), .int .i64 3, .int .i64 (W : Int)] w (PutFPost w 2 (putZ N 2)) by
    have e0 : fZ p W 3 = putZ N 2 := (by show putZ p.ho.toNat 2 = _; rw [HNN.out, Int.toNat_natCast])
    rw [e0]
    exact hX
  clear h hp hN c1 h0 h1 hw
  go_enter Try.func35, Try.ntmps35
  go_wp2_with fail
  refine wp_region_held_drew (S := fun w' => w'.cell? ⟨g, 9, none⟩ = some (.int .i64 (N : Int)) ∧ Below w.heap.size w w') (by kernel_rfl) ⟨HC.out, (bself w).drew⟩ (fun hS0 => ?_)
  refine takeY (i := 0) (some 31) (v := .pointer (some ⟨g, 0, none⟩)) rfl rfl (by kernel_rfl) (by kernel_rfl) (by kernel_rfl) (fun _ _ _ h => h) (by rfl) (fun w' hS => by go_simp) hS0 ?_
  simp only [Act.put, List.setIfInBounds_toArray, List.set_cons_zero, List.set_cons_succ]
  refine takeY (i := 1) (some 32) (v := .pointer (some ⟨g, 0, none⟩)) rfl rfl (by kernel_rfl) (by kernel_rfl) (by kernel_rfl) (fun _ _ _ h => h) (by rfl) (fun w' hS => by go_simp) hS0 ?_
  simp only [Act.put, List.setIfInBounds_toArray, List.set_cons_zero, List.set_cons_succ]
  refine takeY (i := 2) (some 33) (v := .pointer (some ⟨g, 9, none⟩)) rfl rfl (by kernel_rfl) (by kernel_rfl) (by kernel_rfl) (fun _ _ _ h => h) (by rfl) (fun w' hS => by go_simp) hS0 ?_
  simp only [Act.put, List.setIfInBounds_toArray, List.set_cons_zero, List.set_cons_succ]
  refine takeY (i := 3) (some 34) (v := .int .i64 (N : Int)) rfl rfl (by kernel_rfl) (by kernel_rfl) (by kernel_rfl) (fun _ _ _ h => h) (by rfl) (fun w' hS => by have c9 := hS.1; clear hS; go_simp) hS0 ?_
  simp only [Act.put, List.setIfInBounds_toArray, List.set_cons_zero, List.set_cons_succ]
  refine takeY (i := 4) (some 35) (v := .int .u64 (N : Int)) rfl rfl (by kernel_rfl) (by kernel_rfl) (by kernel_rfl) (fun _ _ _ h => h) (by rfl) (fun w' hS => by first | (go_simp; done) | (go_simp; exact HW.out)) hS0 ?_
  simp only [Act.put, List.setIfInBounds_toArray, List.set_cons_zero, List.set_cons_succ]
  refine takeY (i := 5) (some 36) (v := .int .i64 3) rfl rfl (by kernel_rfl) (by kernel_rfl) (by kernel_rfl) (fun _ _ _ h => h) (by rfl) (fun w' hS => by go_simp) hS0 ?_
  simp only [Act.put, List.setIfInBounds_toArray, List.set_cons_zero, List.set_cons_succ]
  refine takeC (i := 6) (some 37) 52 #[.int .i64 3] (.int .i64 2) (R := fun w' => w' = w.drew) rfl rfl (by kernel_rfl) (by rfl) (by go_simp) ((HS.out _).mono fun e w' h => ⟨h.1, h.2.symm⟩) (fun w' h => by rw [h]; exact hS0) (fun w2 h2 hS2 => ?_)
  subst h2
  simp only [Act.put, List.setIfInBounds_toArray, List.set_cons_zero, List.set_cons_succ]
  refine takeCE (i := 7) (some 38) 51 #[.int .u64 (N : Int), .int .i64 2] (R := fun v w' => ∃ x, v = .slice (some ⟨x, 0, none⟩) 2 2 ∧ Own8 w' x 2 2 (putZ N 2) ∧ Below w.heap.size w w' ∧ w'.cell? ⟨g, 9, none⟩ = some (.int .i64 (N : Int))) rfl rfl (by kernel_rfl) (by rfl) (by go_simp) ((HN.out w.drew).mono fun e w' ⟨x, he, hx, ho, hb⟩ => ⟨_, he, x, rfl, ho, (bself w).drew.trans hb, (hb.cell (cell_lt HC.out)).trans HC.out⟩) (fun v w' ⟨x, _, _, hb, hc⟩ => ⟨hc, hb⟩) (fun v2 w2 h2 hS2 => ?_)
  obtain ⟨x, rfl, ho, hb, _⟩ := h2
  have HO := Lib.hid ho
  have HB := Lib.hid hb
  clear ho hb
  simp only [Act.put, List.setIfInBounds_toArray, List.set_cons_zero, List.set_cons_succ]
  refine takeY (i := 8) (some 6) (v := .slice (some ⟨x, 0, none⟩) 2 2) rfl rfl (by kernel_rfl) (by kernel_rfl) (by kernel_rfl) (fun _ _ _ h => h) (by rfl) (fun w' hS => by go_simp) hS2 ?_
  simp only [Act.put, List.setIfInBounds_toArray, List.set_cons_zero, List.set_cons_succ]
  refine wpAnyH_done (by kernel_rfl) ?_ _
  go_wp2_with fail
  go_ret
  exact ⟨_, _, rfl, HO.out.rd, HB.out⟩
set_option maxRecDepth 100000 in
theorem put_8 (p : Pd) (hp : PdOk p) (g W : Nat) (hW : W ≤ 65535) (h0 : 0 ≤ p.li) (h1 : p.li ≤ 65535) (w : World) (h : PdAt w g p) : Calls Try.prog 35 #[.pointer (some ⟨g, 0, none⟩), .int .i64 8, .int .i64 (W : Int)] w (PutFPost w 2 (fZ p W 8)) := by
  obtain ⟨N, hN⟩ : ∃ N : Nat, p.li = (N : Int) := ⟨p.li.toNat, by omega⟩
  have HNN := Lib.hid hN
  have hN2 : N ≤ 65535 := by omega
  have c1 : w.cell? ⟨g, 19, none⟩ = some (.int .i64 (N : Int)) := (h.cell 19).trans (by rw [← hN]; rfl)
  have hw := wrapU N (by omega)
  have HW := Lib.hid hw
  have HN := Lib.hid (fun W : World => putNumber_any N 2 W (by decide) (by decide) (by omega) (qN_fit _ _ (by omega)))
  have HS := Lib.hid (size_any 8 (by decide))
  have HC := Lib.hid c1
  suffices hX : Calls Try.prog 35 #[.pointer (some ⟨g, 0, none⟩), .int .i64 8, .int .i64 (W : Int)] w (PutFPost w 2 (putZ N 2)) by
    have e0 : fZ p W 8 = putZ N 2 := (by show putZ p.li.toNat 2 = _; rw [HNN.out, Int.toNat_natCast])
    rw [e0]
    exact hX
  clear h hp hN c1 h0 h1 hw
  go_enter Try.func35, Try.ntmps35
  go_wp2_with fail
  refine wp_region_held_drew (S := fun w' => w'.cell? ⟨g, 19, none⟩ = some (.int .i64 (N : Int)) ∧ Below w.heap.size w w') (by kernel_rfl) ⟨HC.out, (bself w).drew⟩ (fun hS0 => ?_)
  refine takeY (i := 0) (some 69) (v := .pointer (some ⟨g, 0, none⟩)) rfl rfl (by kernel_rfl) (by kernel_rfl) (by kernel_rfl) (fun _ _ _ h => h) (by rfl) (fun w' hS => by go_simp) hS0 ?_
  simp only [Act.put, List.setIfInBounds_toArray, List.set_cons_zero, List.set_cons_succ]
  refine takeY (i := 1) (some 70) (v := .pointer (some ⟨g, 0, none⟩)) rfl rfl (by kernel_rfl) (by kernel_rfl) (by kernel_rfl) (fun _ _ _ h => h) (by rfl) (fun w' hS => by go_simp) hS0 ?_
  simp only [Act.put, List.setIfInBounds_toArray, List.set_cons_zero, List.set_cons_succ]
  refine takeY (i := 2) (some 71) (v := .pointer (some ⟨g, 19, none⟩)) rfl rfl (by kernel_rfl) (by kernel_rfl) (by kernel_rfl) (fun _ _ _ h => h) (by rfl) (fun w' hS => by go_simp) hS0 ?_
  simp only [Act.put, List.setIfInBounds_toArray, List.set_cons_zero, List.set_cons_succ]
  refine takeY (i := 3) (some 72) (v := .int .i64 (N : Int)) rfl rfl (by kernel_rfl) (by kernel_rfl) (by kernel_rfl) (fun _ _ _ h => h) (by rfl) (fun w' hS => by have c9 := hS.1; clear hS; go_simp) hS0 ?_
  simp only [Act.put, List.setIfInBounds_toArray, List.set_cons_zero, List.set_cons_succ]
  refine takeY (i := 4) (some 73) (v := .int .u64 (N : Int)) rfl rfl (by kernel_rfl) (by kernel_rfl) (by kernel_rfl) (fun _ _ _ h => h) (by rfl) (fun w' hS => by first | (go_simp; done) | (go_simp; exact HW.out)) hS0 ?_
  simp only [Act.put, List.setIfInBounds_toArray, List.set_cons_zero, List.set_cons_succ]
  refine takeY (i := 5) (some 74) (v := .int .i64 8) rfl rfl (by kernel_rfl) (by kernel_rfl) (by kernel_rfl) (fun _ _ _ h => h) (by rfl) (fun w' hS => by go_simp) hS0 ?_
  simp only [Act.put, List.setIfInBounds_toArray, List.set_cons_zero, List.set_cons_succ]
  refine takeC (i := 6) (some 75) 52 #[.int .i64 8] (.int .i64 2) (R := fun w' => w' = w.drew) rfl rfl (by kernel_rfl) (by rfl) (by go_simp) ((HS.out _).mono fun e w' h => ⟨h.1, h.2.symm⟩) (fun w' h => by rw [h]; exact hS0) (fun w2 h2 hS2 => ?_)
  subst h2
  simp only [Act.put, List.setIfInBounds_toArray, List.set_cons_zero, List.set_cons_succ]
  refine takeCE (i := 7) (some 76) 51 #[.int .u64 (N : Int), .int .i64 2] (R := fun v w' => ∃ x, v = .slice (some ⟨x, 0, none⟩) 2 2 ∧ Own8 w' x 2 2 (putZ N 2) ∧ Below w.heap.size w w' ∧ w'.cell? ⟨g, 19, none⟩ = some (.int .i64 (N : Int))) rfl rfl (by kernel_rfl) (by rfl) (by go_simp) ((HN.out w.drew).mono fun e w' ⟨x, he, hx, ho, hb⟩ => ⟨_, he, x, rfl, ho, (bself w).drew.trans hb, (hb.cell (cell_lt HC.out)).trans HC.out⟩) (fun v w' ⟨x, _, _, hb, hc⟩ => ⟨hc, hb⟩) (fun v2 w2 h2 hS2 => ?_)
  obtain ⟨x, rfl, ho, hb, _⟩ := h2
  have HO := Lib.hid ho
  have HB := Lib.hid hb
  clear ho hb
  simp only [Act.put, List.setIfInBounds_toArray, List.set_cons_zero, List.set_cons_succ]
  refine takeY (i := 8) (some 6) (v := .slice (some ⟨x, 0, none⟩) 2 2) rfl rfl (by kernel_rfl) (by kernel_rfl) (by kernel_rfl) (fun _ _ _ h => h) (by rfl) (fun w' hS => by go_simp) hS2 ?_
  simp only [Act.put, List.setIfInBounds_toArray, List.set_cons_zero, List.set_cons_succ]
  refine wpAnyH_done (by kernel_rfl) ?_ _
  go_wp2_with fail
  go_ret
  exact ⟨_, _, rfl, HO.out.rd, HB.out⟩
set_option maxRecDepth 100000 in
theorem put_10 (p : Pd) (hp : PdOk p) (g W : Nat) (hW : W ≤ 65535) (w : World) (h : PdAt w g p) : Calls Try.prog 35 #[.pointer (some ⟨g, 0, none⟩), .int .i64 10, .int .i64 (W : Int)] w (PutFPost w 4 (fZ p W 10)) := by
  obtain ⟨N, hN⟩ : ∃ N : Nat, p.sq = N := ⟨_, rfl⟩
  have HNN := Lib.hid hN
  have hN2 : N ≤ 4294967295 := by have := hp.2.2.2.1; omega
  have c1 : w.cell? ⟨g, 28, none⟩ = some (.int .u32 (N : Int)) := (h.cell 28).trans (by rw [← hN]; rfl)
  have hw := wrapU N (by omega)
  have HW := Lib.hid hw
  have HN := Lib.hid (fun W : World => putNumber_any N 4 W (by decide) (by decide) (by omega) (qN_fit _ _ (by omega)))
  have HS := Lib.hid (size_any 10 (by decide))
  have HC := Lib.hid c1
  suffices hX : Calls Try.prog 35 #[.pointer (some ⟨g, 0, none⟩), .int .i64 10, .int .i64 (W : Int)] w (PutFPost w 4 (putZ N 4)) by
    have e0 : fZ p W 10 = putZ N 4 := (by show putZ p.sq 4 = _; rw [HNN.out])
    rw [e0]
    exact hX
  clear h hp hN c1  hw
  go_enter Try.func35, Try.ntmps35
  go_wp2_with fail
  refine wp_region_held_drew (S := fun w' => w'.cell? ⟨g, 28, none⟩ = some (.int .u32 (N : Int)) ∧ Below w.heap.size w w') (by kernel_rfl) ⟨HC.out, (bself w).drew⟩ (fun hS0 => ?_)
  refine takeY (i := 0) (some 86) (v := .pointer (some ⟨g, 0, none⟩)) rfl rfl (by kernel_rfl) (by kernel_rfl) (by kernel_rfl) (fun _ _ _ h => h) (by rfl) (fun w' hS => by go_simp) hS0 ?_
  simp only [Act.put, List.setIfInBounds_toArray, List.set_cons_zero, List.set_cons_succ]
  refine takeY (i := 1) (some 87) (v := .pointer (some ⟨g, 0, none⟩)) rfl rfl (by kernel_rfl) (by kernel_rfl) (by kernel_rfl) (fun _ _ _ h => h) (by rfl) (fun w' hS => by go_simp) hS0 ?_
  simp only [Act.put, List.setIfInBounds_toArray, List.set_cons_zero, List.set_cons_succ]
  refine takeY (i := 2) (some 88) (v := .pointer (some ⟨g, 28, none⟩)) rfl rfl (by kernel_rfl) (by kernel_rfl) (by kernel_rfl) (fun _ _ _ h => h) (by rfl) (fun w' hS => by go_simp) hS0 ?_
  simp only [Act.put, List.setIfInBounds_toArray, List.set_cons_zero, List.set_cons_succ]
  refine takeY (i := 3) (some 89) (v := .int .u32 (N : Int)) rfl rfl (by kernel_rfl) (by kernel_rfl) (by kernel_rfl) (fun _ _ _ h => h) (by rfl) (fun w' hS => by have c9 := hS.1; clear hS; go_simp) hS0 ?_
  simp only [Act.put, List.setIfInBounds_toArray, List.set_cons_zero, List.set_cons_succ]
  refine takeY (i := 4) (some 90) (v := .int .u64 (N : Int)) rfl rfl (by kernel_rfl) (by kernel_rfl) (by kernel_rfl) (fun _ _ _ h => h) (by rfl) (fun w' hS => by first | (go_simp; done) | (go_simp; exact HW.out)) hS0 ?_
  simp only [Act.put, List.setIfInBounds_toArray, List.set_cons_zero, List.set_cons_succ]
  refine takeY (i := 5) (some 91) (v := .int .i64 10) rfl rfl (by kernel_rfl) (by kernel_rfl) (by kernel_rfl) (fun _ _ _ h => h) (by rfl) (fun w' hS => by go_simp) hS0 ?_
  simp only [Act.put, List.setIfInBounds_toArray, List.set_cons_zero, List.set_cons_succ]
  refine takeC (i := 6) (some 92) 52 #[.int .i64 10] (.int .i64 4) (R := fun w' => w' = w.drew) rfl rfl (by kernel_rfl) (by rfl) (by go_simp) ((HS.out _).mono fun e w' h => ⟨h.1, h.2.symm⟩) (fun w' h => by rw [h]; exact hS0) (fun w2 h2 hS2 => ?_)
  subst h2
  simp only [Act.put, List.setIfInBounds_toArray, List.set_cons_zero, List.set_cons_succ]
  refine takeCE (i := 7) (some 93) 51 #[.int .u64 (N : Int), .int .i64 4] (R := fun v w' => ∃ x, v = .slice (some ⟨x, 0, none⟩) 4 4 ∧ Own8 w' x 4 4 (putZ N 4) ∧ Below w.heap.size w w' ∧ w'.cell? ⟨g, 28, none⟩ = some (.int .u32 (N : Int))) rfl rfl (by kernel_rfl) (by rfl) (by go_simp) ((HN.out w.drew).mono fun e w' ⟨x, he, hx, ho, hb⟩ => ⟨_, he, x, rfl, ho, (bself w).drew.trans hb, (hb.cell (cell_lt HC.out)).trans HC.out⟩) (fun v w' ⟨x, _, _, hb, hc⟩ => ⟨hc, hb⟩) (fun v2 w2 h2 hS2 => ?_)
  obtain ⟨x, rfl, ho, hb, _⟩ := h2
  have HO := Lib.hid ho
  have HB := Lib.hid hb
  clear ho hb
  simp only [Act.put, List.setIfInBounds_toArray, List.set_cons_zero, List.set_cons_succ]
  refine takeY (i := 8) (some 6) (v := .slice (some ⟨x, 0, none⟩) 4 4) rfl rfl (by kernel_rfl) (by kernel_rfl) (by kernel_rfl) (fun _ _ _ h => h) (by rfl) (fun w' hS => by go_simp) hS2 ?_
  simp only [Act.put, List.setIfInBounds_toArray, List.set_cons_zero, List.set_cons_succ]
  refine wpAnyH_done (by kernel_rfl) ?_ _
  go_wp2_with fail
  go_ret
  exact ⟨_, _, rfl, HO.out.rd, HB.out⟩
theorem putF_any (p : Pd) (hp : PdOk p) (g W f : Nat) (hW : W ≤ 65535) (hf : f ≤ 14) (hfit : fitB p f = true) (w : World) (h : PdAt w g p) : Calls Try.prog 35 #[.pointer (some ⟨g, 0, none⟩), .int .i64 (f : Int), .int .i64 (W : Int)] w (PutFPost w (fsz f) (fZ p W f)) := by
  rcases (by omega : f = 0 ∨ f = 1 ∨ f = 2 ∨ f = 3 ∨ f = 4 ∨ f = 5 ∨ f = 6 ∨ f = 7 ∨ f = 8 ∨ f = 9 ∨ f = 10 ∨ f = 11 ∨ f = 12 ∨ f = 13 ∨ f = 14) with rfl | rfl | rfl | rfl | rfl | rfl | rfl | rfl | rfl | rfl | rfl | rfl | rfl | rfl | rfl
  · exact put_0 p hp g W hW w h
  · exact put_1 p hp g W hW w h
  · exact put_2 p hp g W hW w h
  · have hh := of_decide_eq_true hfit
    exact put_3 p hp g W hW hh.1 hh.2 w h
  · exact put_4 p hp g W hW w h
  · exact put_5 p hp g W hW w h
  · exact put_6 p hp g W hW w h
  · exact put_7 p hp g W hW w h
  · have hh := of_decide_eq_true hfit
    exact put_8 p hp g W hW hh.1 hh.2 w h
  · exact put_9 p hp g W hW w h
  · exact put_10 p hp g W hW w h
  · exact put_11 p hp g W hW w h
  · exact put_12 p hp g W hW w h
  · exact put_13 p hp g W hW w h
  · exact put_14 p hp g W hW w h
end Go.Proofs.Ytfojfdlapekjoaa

/- pdu's fits and allFit. Each theorem states its conditions. -/
namespace Go.Proofs.Ytfojfdlapekjoaa
open Go.RowKit
set_option linter.unusedVariables false

set_option maxRecDepth 100000 in
theorem fits_0 (p : Pd) (b : Bool) (hb : decide (1 ≤ p.ci ∧ p.ci ≤ 3) = b) (g : Nat) (w : World) (h : PdAt w g p) : Calls Try.prog 57 #[.pointer (some ⟨g, 0, none⟩), .int .i64 0] w fun e w' => e = .returned (.bool b) ∧ w = w' := by
  have c1 : w.cell? ⟨g, 1, none⟩ = some (.int .u8 p.ci) := (h.cell 1).trans rfl
  clear h
  obtain ⟨x, hx⟩ : ∃ x, p.ci = x := ⟨_, rfl⟩
  rw [hx] at c1 hb
  clear hx
  by_cases h1 : 1 ≤ x
  · by_cases h3 : x ≤ 3
    · obtain rfl : true = b := by rw [← hb]; exact (decide_eq_true ⟨h1, h3⟩).symm
      clear hb
      go_enter Try.func57, Try.ntmps57
      go_wp2
      go_ret
      exact ⟨rfl, rfl⟩
    · obtain rfl : false = b := by rw [← hb]; exact (decide_eq_false (by omega)).symm
      clear hb
      go_enter Try.func57, Try.ntmps57
      go_wp2
      go_ret
      exact ⟨rfl, rfl⟩
  · obtain rfl : false = b := by rw [← hb]; exact (decide_eq_false (by omega)).symm
    clear hb
    go_enter Try.func57, Try.ntmps57
    go_wp2
    go_ret
    exact ⟨rfl, rfl⟩
theorem isTime_any (n : Int) (b : Bool) (hb : decide (0 ≤ n ∧ n ≤ 65535) = b) (w : World) : Calls Try.prog 50 #[.int .i64 n] w fun e w' => e = .returned (.bool b) ∧ w = w' := by
  subst hb
  by_cases h : 0 ≤ n ∧ n ≤ 65535
  · rw [decide_eq_true h]
    exact (isTime_yes n w h.1 h.2).mono fun e w' h => ⟨h.1, h.2.symm⟩
  · rw [decide_eq_false h]
    exact (isTime_no n w (by omega)).mono fun e w' h => ⟨h.1, h.2.symm⟩
set_option maxRecDepth 100000 in
theorem fits_3 (p : Pd) (b : Bool) (hb : decide (0 ≤ p.ho ∧ p.ho ≤ 65535) = b) (g : Nat) (w : World) (h : PdAt w g p) : Calls Try.prog 57 #[.pointer (some ⟨g, 0, none⟩), .int .i64 3] w fun e w' => e = .returned (.bool b) ∧ w = w' := by
  have c1 : w.cell? ⟨g, 9, none⟩ = some (.int .i64 p.ho) := (h.cell 9).trans rfl
  have HT := Lib.hid (isTime_any p.ho b hb w)
  clear h hb
  go_enter Try.func57, Try.ntmps57
  go_wp2_with fail
  refine HT.out.mono ?_
  rintro e w1 ⟨rfl, rfl⟩
  go_wp2_with fail
  go_ret
  exact ⟨rfl, rfl⟩
set_option maxRecDepth 100000 in
theorem fits_8 (p : Pd) (b : Bool) (hb : decide (0 ≤ p.li ∧ p.li ≤ 65535) = b) (g : Nat) (w : World) (h : PdAt w g p) : Calls Try.prog 57 #[.pointer (some ⟨g, 0, none⟩), .int .i64 8] w fun e w' => e = .returned (.bool b) ∧ w = w' := by
  have c1 : w.cell? ⟨g, 19, none⟩ = some (.int .i64 p.li) := (h.cell 19).trans rfl
  have HT := Lib.hid (isTime_any p.li b hb w)
  clear h hb
  go_enter Try.func57, Try.ntmps57
  go_wp2_with fail
  refine HT.out.mono ?_
  rintro e w1 ⟨rfl, rfl⟩
  go_wp2_with fail
  go_ret
  exact ⟨rfl, rfl⟩
set_option maxRecDepth 100000 in
theorem fits_6 (p : Pd) (b : Bool) (hb : decide (p.pr ≤ 127) = b) (g : Nat) (w : World) (h : PdAt w g p) : Calls Try.prog 57 #[.pointer (some ⟨g, 0, none⟩), .int .i64 6] w fun e w' => e = .returned (.bool b) ∧ w = w' := by
  have c1 : w.cell? ⟨g, 11, none⟩ = some (.int .u8 p.pr) := (h.cell 11).trans rfl
  clear h
  go_enter Try.func57, Try.ntmps57
  go_wp2_with fail
  go_ret
  exact ⟨rfl, rfl⟩
set_option maxRecDepth 100000 in
theorem fits_x (f : Nat) (hf : f ≤ 14) (h0 : f ≠ 0) (h3 : f ≠ 3) (h8 : f ≠ 8) (h6 : f ≠ 6) (x : Value) (w : World) : Calls Try.prog 57 #[x, .int .i64 (f : Int)] w fun e w' => e = .returned (.bool true) ∧ w = w' := by
  rcases (by omega : f = 1 ∨ f = 2 ∨ f = 4 ∨ f = 5 ∨ f = 7 ∨ f = 9 ∨ f = 10 ∨ f = 11 ∨ f = 12 ∨ f = 13 ∨ f = 14) with rfl | rfl | rfl | rfl | rfl | rfl | rfl | rfl | rfl | rfl | rfl <;>
  · clear h0 h3 h8 h6
    go_enter Try.func57, Try.ntmps57
    go_wp2
    go_ret
    exact ⟨rfl, rfl⟩
theorem fits_any (p : Pd) (g f : Nat) (hf : f ≤ 14) (w : World) (h : PdAt w g p) : Calls Try.prog 57 #[.pointer (some ⟨g, 0, none⟩), .int .i64 (f : Int)] w fun e w' => e = .returned (.bool (fitB p f)) ∧ w = w' := by
  by_cases h0 : f = 0
  · subst h0; exact fits_0 p _ rfl g w h
  · by_cases h3 : f = 3
    · subst h3; exact fits_3 p _ rfl g w h
    · by_cases h8 : f = 8
      · subst h8; exact fits_8 p _ rfl g w h
      · by_cases h6 : f = 6
        · subst h6; exact fits_6 p _ rfl g w h
        · have e : fitB p f = true := by
            unfold fitB
            split <;> first | rfl | (exact absurd rfl ‹_›) | omega
          rw [e]
          exact fits_x f hf h0 h3 h8 h6 _ w
/-- the first field that doesn't fit, or the end -/
theorem fit_ends (p : Pd) (q n : Nat) : ∃ m, m ≤ n ∧ (∀ i, i < m → fitB p (fAt q i) = true) ∧ ((m = n ∧ fitsTo p q n = true) ∨ (m < n ∧ fitB p (fAt q m) = false ∧ fitsTo p q n = false)) := by
  induction n with
  | zero => exact ⟨0, Nat.le_refl _, fun i hi => by omega, .inl ⟨rfl, rfl⟩⟩
  | succ n ih =>
    obtain ⟨m, h1, h2, h3⟩ := ih
    rcases h3 with ⟨rfl, h3⟩ | ⟨h3, h4, h5⟩
    · cases hb : fitB p (fAt q m)
      · exact ⟨m, by omega, h2, .inr ⟨by omega, hb, by simp [fitsTo, hb]⟩⟩
      · refine ⟨m + 1, by omega, fun i hi => ?_, .inl ⟨rfl, by simp [fitsTo, hb, h3]⟩⟩
        by_cases e : i = m
        · subst e; exact hb
        · exact h2 i (by omega)
    · exact ⟨m, by omega, h2, .inr ⟨by omega, h4, by simp [fitsTo, h5]⟩⟩
theorem fitP_at {p : Pd} {q : Nat} (h : fitP p q = true) (i : Nat) (hi : i < (flC q).length) : fitB p (fAt q i) = true := by
  obtain ⟨m, h1, h2, h3⟩ := fit_ends p q (flC q).length
  rcases h3 with ⟨rfl, h3⟩ | ⟨h3, h4, h5⟩
  · exact h2 i hi
  · unfold fitP at h; rw [h5] at h; cases h
theorem allFit_any (p : Pd) (g g' q : Nat) (hq : q ≤ 4) (w : World) (h : PdAt w g p) (hl : FlAt w g' q) : Calls Try.prog 31 #[.pointer (some ⟨g, 0, none⟩), .slice (some ⟨g', 0, none⟩) (flC q).length (flC q).length] w fun e w' => e = .returned (.bool (fitP p q)) ∧ w = w' := by
  have HF := Lib.hid hl
  obtain ⟨m, hm1, hm2, hm3⟩ := fit_ends p q (flC q).length
  have HM2 := Lib.hid hm2
  have HM3 : Hid ((m = (flC q).length ∧ fitP p q = true) ∨ (m < (flC q).length ∧ fitB p (fAt q m) = false ∧ fitP p q = false)) := Lib.hid hm3
  have hlen := fl_len q hq
  obtain ⟨n, hn⟩ : ∃ n, (flC q).length = n := ⟨_, rfl⟩
  have HN := Lib.hid hn
  rw [hn] at hm1 HM3 hlen ⊢
  have HFA := Lib.hid (fun f hf => fits_any p g f hf w h)
  clear hn hm2 hm3 hl h
  go_enter Try.func31, Try.ntmps31
  go_wp2_with fail
  go_loop [9] (fun t => ∃ i : Nat, i ≤ m ∧ t = .int .i64 i) (fun t => n - (intOf t).toNat)
  case atStart => exact ⟨0, Nat.zero_le _, rfl⟩
  case round =>
    obtain ⟨i, hi, rfl⟩ := hrel
    by_cases hlt : i < n
    · have ci := HF.out.cell (i := i) (by rw [HN.out]; exact hlt)
      have hf := fAt_le q i hq
      by_cases him : i < m
      · have HS := Lib.hid (HFA.out _ hf)
        rw [HM2.out i him] at HS
        obtain ⟨f, hf'⟩ : ∃ f, fAt q i = f := ⟨_, rfl⟩
        rw [hf'] at ci HS
        clear hf' hf
        go_wp2_with fail
        refine HS.out.mono ?_
        rintro e w1 ⟨rfl, rfl⟩
        go_wp2_with fail
        go_round
        case rel => exact ⟨i + 1, by omega, by go_num⟩
        case measure => simp [intOf]; omega
      · obtain rfl : i = m := by omega
        have h3 : fitB p (fAt q i) = false ∧ fitP p q = false := by
          rcases HM3.out with h | h
          · omega
          · exact h.2
        have HS := Lib.hid (HFA.out _ hf)
        rw [h3.1] at HS
        have HQ := Lib.hid h3.2
        obtain ⟨f, hf'⟩ : ∃ f, fAt q i = f := ⟨_, rfl⟩
        rw [hf'] at ci HS
        clear hf' hf h3
        go_wp2_with fail
        refine HS.out.mono ?_
        rintro e w1 ⟨rfl, rfl⟩
        go_wp2_with fail
        go_ret
        exact ⟨by rw [HQ.out]; rfl, rfl⟩
    · obtain rfl : i = n := by omega
      have HQ : Hid (fitP p q = true) := Lib.hid (by
        rcases HM3.out with h | h
        · exact h.2
        · omega)
      go_wp2_with fail
      go_ret
      exact ⟨by rw [HQ.out]; rfl, rfl⟩
end Go.Proofs.Ytfojfdlapekjoaa

/- pdu.sign lays an LSP's check bytes. Each theorem states its conditions. -/
namespace Go.Proofs.Ytfojfdlapekjoaa
open Go.RowKit
set_option linter.unusedVariables false

def ovr (z : Nat → Int) (off m : Nat) (y : Nat → Int) : Nat → Int := fun j => if off ≤ j ∧ j < off + m then y (j - off) else z j
theorem ovr_in (z y : Nat → Int) (off m j : Nat) (h : off ≤ j ∧ j < off + m) : ovr z off m y j = y (j - off) := if_pos h
theorem ovr_out (z y : Nat → Int) (off m j : Nat) (h : ¬ (off ≤ j ∧ j < off + m)) : ovr z off m y j = z j := if_neg h
/-- bytes are copied over some of a row of the call's own -/
theorem splice_own {w w' : World} {g n cap off m : Nat} {z y : Nat → Int} {cur : List Value} (hc : w.heap[g]? = some (.cells cur.toArray 5 (0, 0))) (h : Own8 w g n cap z) (hm : off + m ≤ n) (hy : ∀ j, 0 ≤ y j ∧ y j ≤ 255)
    (hw : w'.heap[g]? = some (.cells (splice cur off (vals y m)).toArray 5 (0, 0))) : Own8 w' g n cap (ovr z off m y) := by
  obtain ⟨⟨cur', hc', h1, h2, h3, h4⟩, h5⟩ := h
  rw [hc] at hc'
  injection hc' with hc'
  injection hc' with hc'
  subst hc'
  have hl : (vals y m).length = m := vals_len y m
  have h3' : cur.length = cap := by simpa using h3
  have h4' : ∀ j, j < n → cur[j]? = some (.int .u8 (z j)) := fun j hj => by simpa using h4 j hj
  have hs : (splice cur off (vals y m)).length = cur.length := length_splice _ _ _ (by rw [hl]; omega)
  refine ⟨⟨_, hw, h1, h2, by simpa using hs.trans h3', fun j hj => ?_⟩, fun j => ?_⟩
  · rw [List.getElem?_toArray]
    unfold splice
    by_cases hj1 : j < off
    · rw [ovr_out _ _ _ _ _ (by omega), List.getElem?_append_left (by rw [List.length_take]; omega), List.getElem?_take, if_pos hj1]
      exact h4' j hj
    · rw [List.getElem?_append_right (by rw [List.length_take]; omega), List.length_take, Nat.min_eq_left (by omega)]
      by_cases hj2 : j < off + m
      · rw [ovr_in _ _ _ _ _ ⟨by omega, hj2⟩, List.getElem?_append_left (by rw [hl]; omega)]
        exact vals_at y m (j - off) (by omega)
      · rw [ovr_out _ _ _ _ _ (by omega), List.getElem?_append_right (by rw [hl]; omega), hl, List.getElem?_drop]
        rw [show off + m + (j - off - m) = j by omega]
        exact h4' j hj
  · by_cases hj : off ≤ j ∧ j < off + m
    · rw [ovr_in _ _ _ _ _ hj]; exact hy _
    · rw [ovr_out _ _ _ _ _ hj]; exact h5 j
section
variable {P : Program} {ops : Array Oper} {Q : Exit → Act → World → Prop} {md : Region.Mode} {S : World → Prop}
/-- a copy alone may come up -/
theorem takeCp {i : Nat} {oi : Oper} (d : Option Tmp) {fuel : Nat} {listed : Array Bool} {a : Act} {w : World} (hi : ops[i]? = some oi) (hdd : oi.dst = d) (hr : Region.ready md ops listed = [i]) (hgd : oi.guard = none) (x s : Operand) (dT sT : TypeId)
    (ho : oi.op = .call { callee := .builtin .copy, args := #[x, s], argTypes := #[dT, sT] }) (elem : TypeId) (hu : P.underlying dT = some (.slice elem)) (hsz : (P.info? elem).map (·.size) = some 1)
    (dp sp : Option Addr) (dLen dCap sLen sCap : Nat) (hd : a.eval x = .slice dp dLen dCap) (hs : a.eval s = .slice sp sLen sCap)
    (g off : Nat) (cur : List Value) (t : TypeId) (hg : w.heap[g]? = some (.cells cur.toArray t (0, 0))) (cs : List Value) (hn : cs.length = Nat.min sLen dLen)
    (hpos : 0 < cs.length → dp = some ⟨g, off, none⟩ ∧ ∃ ad, sp = some ad ∧ ∀ j v, cs[j]? = some v → w.cell? (ad.add j) = some v)
    (hfit : off + cs.length ≤ cur.length) (h1 : ∀ v ∈ cs, v.oneCell' = true) (B : Nat) (w0 : World) (hb : RowKit.Below B w0 w) (hBg : B ≤ g)
    (h : ∀ w', w'.heap[g]? = some (.cells (splice cur off cs).toArray t (0, 0)) → RowKit.Below B w0 w' → S w' ∧ wpAnyH P md ops Q S fuel (listed.setIfInBounds i true) (a.put d (goInt cs.length)) w') : wpAnyH P md ops Q S (fuel + 1) listed a w := by
  subst hdd
  exact wpAnyH_ready hr (by simp) (AllReadyH.cons hi (fun K hK => step_copy_splice hgd x s dT sT ho elem hu hsz dp sp dLen dCap sLen sCap hd hs g off cur t hg cs hn hpos hfit h1 B w0 hb hBg (fun w' hc hb' => hK.out _ _ (h w' hc.out hb').1 (fun _ => (h w' hc.out hb').2))) AllReadyH.nil)
end
theorem chk_put (z : Nat → Int) (s n : Nat) (N : Nat) (h : chk z s n = (N : Int)) : putZ N 2 0 = chkX z s n ∧ putZ N 2 1 = chkY z s n := by
  have hb := chk_bd z s n
  have h0 : putZ N 2 0 = ((N / 256 % 256 : Nat) : Int) := by simp [putZ, qN]
  have h1 : putZ N 2 1 = ((N % 256 : Nat) : Int) := by simp [putZ, qN]
  rw [h0, h1]
  rw [h] at hb
  omega
theorem sg_eq (z : Nat → Int) (n N : Nat) (h : chk (fun i => z (12 + i)) 12 (n - 12) = (N : Int)) : ovr z 24 2 (putZ N 2) = sgZ z n := by
  obtain ⟨h0, h1⟩ := chk_put _ _ _ _ h
  funext j
  unfold sgZ ovr
  by_cases e : j = 24
  · subst e; simp [h0]
  · by_cases e1 : j = 25
    · subst e1; simp [h1]
    · rw [if_neg (by omega), if_neg e, if_neg e1]
set_option maxHeartbeats 2000000 in
set_option maxRecDepth 100000 in
theorem sign_any (g n cap : Nat) (z : Nat → Int) (w0 w : World) (ho : Own8 w g n cap z) (hn : 27 ≤ n) (hn2 : n ≤ 1492) (hb : Below w0.heap.size w0 w) (hg : w0.heap.size ≤ g) :
    Calls Try.prog 37 #[.slice (some ⟨g, 0, none⟩) n cap] w fun e w' => e = .returned (.tuple #[]) ∧ Own8 w' g n cap (sgZ z n) ∧ Below w0.heap.size w0 w' := by
  have hgl := ho.lt
  have hcap := ho.caps
  have hcm : cap ≤ 9223372036854775807 := hcap.2
  have hnc := hcap.1
  have HO := Lib.hid ho
  have hz := ho.2
  have HR := Lib.hid (ho.row.shift 12 (n - 12) (by omega))
  have HSum := Lib.hid (sum_ok g 12 (n - 12) (cap - 12) (fun j => z (12 + j)) 12 w (fun j => hz _) (by omega) (fun j hj => by have := HR.out.2.1 j hj; simpa using this) (by omega) (by omega))
  have hcb := chk_bd (fun j => z (12 + j)) 12 (n - 12)
  obtain ⟨N, hN⟩ : ∃ N : Nat, chk (fun j => z (12 + j)) 12 (n - 12) = (N : Int) := ⟨(chk (fun j => z (12 + j)) 12 (n - 12)).toNat, by omega⟩
  have HSum' : Hid (Calls Try.prog 59 #[.slice (some ⟨g, 12, none⟩) (n - 12) (cap - 12), .int .i64 12] w fun e w' => e = .returned (.tuple #[.int .u16 (N : Int), .int .i64 0]) ∧ w = w') := Lib.hid (by rw [← hN]; exact HSum.out)
  have HSG := Lib.hid (sg_eq z n N hN)
  have hN2 : N ≤ 65535 := by omega
  have HP := Lib.hid (fun W : World => putNumber_any N 2 W (by decide) (by decide) (by omega) (qN_fit _ _ (by omega)))
  have HS := Lib.hid (size_any 11 (by decide))
  have hw := wrapU N (by omega)
  have HW := Lib.hid hw
  have HB := Lib.hid hb
  have HGG := Lib.hid hg
  have hne12 : ¬ cap = 12 := by omega
  have hne24 : ¬ cap = 24 := by omega
  have hne24' : ¬ cap - 12 = 12 := by omega
  have q1 : ¬ n < 12 := by omega
  have q2 : ¬ cap < n := by omega
  obtain ⟨n1, hn1⟩ : ∃ n1, n - 12 = n1 := ⟨_, rfl⟩
  obtain ⟨c1, hc1⟩ : ∃ c1, cap - 12 = c1 := ⟨_, rfl⟩
  rw [hn1, hc1] at HSum'
  rw [hc1] at hne24'
  have q3 : ¬ n1 < 12 := by omega
  have q4 : ¬ c1 < n1 := by omega
  have q5 : ¬ c1 < 12 := by omega
  have q6 : n1 - 12 + 24 = n := by omega
  have q7 : 2 ≤ n1 - 12 := by omega
  have hn1l : n1 ≤ 1492 := by omega
  have hc1l : c1 ≤ 9223372036854775807 := by omega
  have HQ6 := Lib.hid q6
  have HN1 := Lib.hid hn1
  have HC1 := Lib.hid hc1
  clear ho hcap HR HSum hcb hN hw hb hg hz q6
  go_enter Try.func37, Try.ntmps37
  go_wp2_with fail
  refine HSum'.out.mono ?_
  rintro e w1 ⟨rfl, rfl⟩
  clear hn1 hc1 HN1 HC1
  go_wp2_with fail
  have q3i : ¬ (n1 : Int) < 12 := by omega
  have q5i : ¬ (c1 : Int) < 12 := by omega
  refine wp_region_held_drew (S := fun w' => True) (by kernel_rfl) trivial (fun hS0 => ?_)
  refine takeY (i := 0) (some 12) (v := .slice (some ⟨g, 12, none⟩) n1 c1) rfl rfl (by kernel_rfl) (by kernel_rfl) (by kernel_rfl) (fun _ _ _ h => h) (by rfl) (fun w' hS => by go_simp) hS0 ?_
  simp only [Act.put, List.setIfInBounds_toArray, List.set_cons_zero, List.set_cons_succ]
  refine takeY (i := 1) (some 13) (v := .slice (some ⟨g, 24, none⟩) (n1 - 12) (c1 - 12)) rfl rfl (by kernel_rfl) (by kernel_rfl) (by kernel_rfl) (fun _ _ _ h => h) (by rfl) (fun w' hS => by go_simp) hS0 ?_
  simp only [Act.put, List.setIfInBounds_toArray, List.set_cons_zero, List.set_cons_succ]
  refine takeY (i := 2) (some 14) (v := .int .u16 (N : Int)) rfl rfl (by kernel_rfl) (by kernel_rfl) (by kernel_rfl) (fun _ _ _ h => h) (by rfl) (fun w' hS => by go_simp) hS0 ?_
  simp only [Act.put, List.setIfInBounds_toArray, List.set_cons_zero, List.set_cons_succ]
  refine takeY (i := 3) (some 15) (v := .int .u64 (N : Int)) rfl rfl (by kernel_rfl) (by kernel_rfl) (by kernel_rfl) (fun _ _ _ h => h) (by rfl) (fun w' hS => by first | (go_simp; done) | (go_simp; exact HW.out)) hS0 ?_
  simp only [Act.put, List.setIfInBounds_toArray, List.set_cons_zero, List.set_cons_succ]
  refine takeC (i := 4) (some 16) 52 #[.int .i64 11] (.int .i64 2) (R := fun w' => w' = w.drew) rfl rfl (by kernel_rfl) (by rfl) (by go_simp) ((HS.out _).mono fun e w' h => ⟨h.1, h.2.symm⟩) (fun w' h => trivial) (fun w2 h2 hS2 => ?_)
  subst h2
  simp only [Act.put, List.setIfInBounds_toArray, List.set_cons_zero, List.set_cons_succ]
  refine takeCE (i := 5) (some 17) 51 #[.int .u64 (N : Int), .int .i64 2] (R := fun v w' => ∃ x, v = .slice (some ⟨x, 0, none⟩) 2 2 ∧ Own8 w' x 2 2 (putZ N 2) ∧ Below w.heap.size w w') rfl rfl (by kernel_rfl) (by rfl) (by go_simp) ((HP.out w.drew).mono fun e w' ⟨x, he, hx, ho, hb⟩ => ⟨_, he, x, rfl, ho, (bself w).drew.trans hb⟩) (fun _ _ _ => trivial) (fun v2 w2 h2 hS2 => ?_)
  obtain ⟨x, rfl, ho, hb⟩ := h2
  have hO2 := HO.out.below hb hgl
  have hB2 := HB.out.trans (hb.mono HB.out.size)
  obtain ⟨⟨cur, hc, k1, k2, k3, k4⟩, k5⟩ := id hO2
  simp only [Act.put, List.setIfInBounds_toArray, List.set_cons_zero, List.set_cons_succ]
  refine takeCp (i := 6) (some 18) rfl rfl (by kernel_rfl) rfl (.tmp 13) (.tmp 17) 35 35 rfl 5 Try.underlying35 info_u8s' (some ⟨g, 24, none⟩) (some ⟨x, 0, none⟩) (n1 - 12) (c1 - 12) 2 2 rfl rfl g 24 cur.toList 5 (by simpa using hc) (vals (putZ N 2) 2) (by rw [vals_len]; exact (Nat.min_eq_left q7).symm) (fun _ => ⟨rfl, _, rfl, rd_newsB ho.rd⟩) (by rw [vals_len, Array.length_toList]; have := HQ6.out; omega) (vals_one _ _) w0.heap.size w0 hB2 HGG.out (fun w3 hc3 hb3 => ⟨trivial, ?_⟩)
  have hO3 := splice_own (cur := cur.toList) (by simpa using hc) hO2 (by omega) (putZ_bd N 2) hc3
  rw [HSG.out] at hO3
  simp only [Act.put, List.setIfInBounds_toArray, List.set_cons_zero, List.set_cons_succ]
  refine wpAnyH_done (by kernel_rfl) ?_ _
  exact bodyPost_end (results_none rfl _ _ _) rfl ⟨rfl, hO3, hb3⟩
end Go.Proofs.Ytfojfdlapekjoaa

/- pdu.Write writes a packet. Each theorem states its conditions. -/
namespace Go.Proofs.Ytfojfdlapekjoaa
open Go.RowKit
set_option linter.unusedVariables false

theorem pdC_0 (p : Pd) : (pdC p)[0]? = some (.int .u8 p.kd) := rfl
theorem pdC_46 (p : Pd) : (pdC p)[46]? = some (.slice p.A p.m p.c) := rfl
theorem sz_le (L : Nat → It) (m m0 : Nat) (h : JEnds L m m0) : sz L m0 ≤ 1492 := by
  rcases Nat.eq_zero_or_pos m0 with h0 | h0
  · subst h0; simp [sz]
  · have := h.2.1 (m0 - 1) (by omega)
    unfold bad at this
    rw [show m0 - 1 + 1 = m0 by omega] at this
    omega
/-- a packet that is written: where its TLVs lie -/
def PdIn (w : World) (p : Pd) (L : Nat → It) : Prop := RdT w p.A p.m L ∧ p.m ≤ p.c ∧ p.c ≤ 9223372036854775807
theorem RdT.below' {w w' : World} {A : Option Addr} {m : Nat} {L : Nat → It} (h : RdT w A m L) (hb : Below w.heap.size w w') : RdT w' A m L := h.below hb
set_option maxRecDepth 100000 in
theorem write_5 (p : Pd) (hk : cls p.kd = 5) (w : World) : Calls Try.prog 12 #[.agg (pdC p)] w fun e w' => e = .returned (.tuple #[.slice none 0 0, .int .i64 1]) ∧ Below w.heap.size w w' := by
  have a0 := pdC_0 p
  have HF := Lib.hid (fields_none p.kd hk)
  have HB := Lib.hid ((bself w).alloc (Nat.le_refl _) (.cells (pdC p) 33))
  clear hk
  go_enter Try.func12, Try.ntmps12
  go_wp2_with fail
  refine (HF.out _).mono ?_
  rintro e w1 ⟨rfl, rfl⟩
  go_wp2_with fail
  go_ret2
  exact ⟨rfl, HB.out⟩
set_option maxHeartbeats 4000000 in
set_option maxRecDepth 100000 in
theorem write_nofit (p : Pd) (q : Nat) (hk : cls p.kd = q) (hq : q ≤ 4) (hp : PdOk p) (hfit : fitP p q = false) (w : World) : Calls Try.prog 12 #[.agg (pdC p)] w fun e w' => e = .returned (.tuple #[.slice none 0 0, .int .i64 1]) ∧ Below w.heap.size w w' := by
  have a0 := pdC_0 p
  have a46 := pdC_46 p
  have HF := Lib.hid (fields_any p.kd q hk hq)
  have hlen := fl_len q hq
  have HHD := Lib.hid (hdN_bd q hq)
  obtain ⟨n, hn⟩ : ∃ n, (flC q).length = n := ⟨_, rfl⟩
  have HN := Lib.hid hn
  rw [hn] at hlen HF
  have hn0 : ((n : Int) == 0) = false := by simp; omega
  have HX0 := Lib.hid (heap_alloc_new w (.cells (pdC p) 33))
  have HB0 := Lib.hid ((bself w).alloc (Nat.le_refl _) (.cells (pdC p) 33))
  have hs0 : (w.alloc (.cells (pdC p) 33)).heap.size = w.heap.size + 1 := by simp
  have HP := Lib.hid hp
  have HK := Lib.hid hk
  have HQ := Lib.hid hq
  have HFIT := Lib.hid hfit
  clear hfit
  clear hn hp hk hq
  go_enter Try.func12, Try.ntmps12
  go_wp2_with fail
  obtain ⟨W1, hW1⟩ : ∃ W1, w.alloc (.cells (pdC p) 33) = W1 := ⟨_, rfl⟩
  rw [hW1] at HX0 HB0 hs0 ⊢
  clear hW1
  refine (HF.out W1).mono ?_
  rintro e w1 ⟨rfl, hf1, hb1⟩
  have HFl : Hid (FlAt w1 W1.heap.size q) := Lib.hid hf1
  have HPd : Hid (PdAt w1 w.heap.size p) := Lib.hid ((hb1.block _ (by omega)).trans HX0.out)
  have HB1 : Hid (Below w.heap.size w w1) := Lib.hid (HB0.out.trans (hb1.mono (by omega)))
  have hs1 := hb1.size
  clear hf1 hb1 HX0
  obtain ⟨g1, hg1⟩ : ∃ g1, W1.heap.size = g1 := ⟨_, rfl⟩
  rw [hg1] at HFl hs0 hs1 ⊢
  clear hg1
  have HAF := Lib.hid (allFit_any p w.heap.size g1 q HQ.out w1 HPd.out HFl.out)
  have c46 : w1.cell? ⟨w.heap.size, 46, none⟩ = some (.slice p.A p.m p.c) := (HPd.out.cell 46).trans a46
  have c0 : w1.cell? ⟨w.heap.size, 0, none⟩ = some (.int .u8 p.kd) := (HPd.out.cell 0).trans a0
  have HC0 := Lib.hid c0
  rw [HN.out] at HAF
  rw [HFIT.out] at HAF
  clear HB0 hs0 HF a0 a46
  go_wp2_with fail
  refine HAF.out.mono ?_
  rintro e w2 ⟨rfl, rfl⟩
  go_wp2_with fail
  go_ret2
  exact ⟨rfl, HB1.out⟩
set_option maxHeartbeats 4000000 in
set_option maxRecDepth 100000 in
theorem write_join (p : Pd) (q : Nat) (hk : cls p.kd = q) (hq : q ≤ 4) (hp : PdOk p) (hfit : fitP p q = true) (L : Nat → It) (m0 : Nat) (hm : JEnds L p.m m0) (hlt : m0 < p.m) (w : World) (hin : PdIn w p L) : Calls Try.prog 12 #[.agg (pdC p)] w fun e w' => e = .returned (.tuple #[.slice none 0 0, .int .i64 2]) ∧ Below w.heap.size w w' := by
  have a0 := pdC_0 p
  have a46 := pdC_46 p
  have HF := Lib.hid (fields_any p.kd q hk hq)
  have hlen := fl_len q hq
  have HHD := Lib.hid (hdN_bd q hq)
  obtain ⟨n, hn⟩ : ∃ n, (flC q).length = n := ⟨_, rfl⟩
  have HN := Lib.hid hn
  rw [hn] at hlen HF
  have hn0 : ((n : Int) == 0) = false := by simp; omega
  have HX0 := Lib.hid (heap_alloc_new w (.cells (pdC p) 33))
  have HB0 := Lib.hid ((bself w).alloc (Nat.le_refl _) (.cells (pdC p) 33))
  have hs0 : (w.alloc (.cells (pdC p) 33)).heap.size = w.heap.size + 1 := by simp
  have HP := Lib.hid hp
  have HK := Lib.hid hk
  have HQ := Lib.hid hq
  have HFIT := Lib.hid hfit
  have HM := Lib.hid hm
  have HIN := Lib.hid hin
  clear hfit hm hin
  clear hn hp hk hq
  go_enter Try.func12, Try.ntmps12
  go_wp2_with fail
  obtain ⟨W1, hW1⟩ : ∃ W1, w.alloc (.cells (pdC p) 33) = W1 := ⟨_, rfl⟩
  rw [hW1] at HX0 HB0 hs0 ⊢
  clear hW1
  refine (HF.out W1).mono ?_
  rintro e w1 ⟨rfl, hf1, hb1⟩
  have HFl : Hid (FlAt w1 W1.heap.size q) := Lib.hid hf1
  have HPd : Hid (PdAt w1 w.heap.size p) := Lib.hid ((hb1.block _ (by omega)).trans HX0.out)
  have HB1 : Hid (Below w.heap.size w w1) := Lib.hid (HB0.out.trans (hb1.mono (by omega)))
  have hs1 := hb1.size
  clear hf1 hb1 HX0
  obtain ⟨g1, hg1⟩ : ∃ g1, W1.heap.size = g1 := ⟨_, rfl⟩
  rw [hg1] at HFl hs0 hs1 ⊢
  clear hg1
  have HAF := Lib.hid (allFit_any p w.heap.size g1 q HQ.out w1 HPd.out HFl.out)
  have c46 : w1.cell? ⟨w.heap.size, 46, none⟩ = some (.slice p.A p.m p.c) := (HPd.out.cell 46).trans a46
  have c0 : w1.cell? ⟨w.heap.size, 0, none⟩ = some (.int .u8 p.kd) := (HPd.out.cell 0).trans a0
  have HC0 := Lib.hid c0
  rw [HN.out] at HAF
  rw [HFIT.out] at HAF
  clear HB0 hs0 HF a0 a46
  go_wp2_with fail
  refine HAF.out.mono ?_
  rintro e w2 ⟨rfl, rfl⟩
  go_wp2_with fail
  have HJ := Lib.hid (join_any p.A p.m p.c m0 L w1 (HIN.out.1.below HB1.out) HIN.out.2.1 HIN.out.2.2 HM.out)
  refine HJ.out.mono ?_
  clear HJ
  rintro e w2 (⟨h, _⟩ | ⟨_, rfl, hb2⟩)
  · omega
  have HB2 := Lib.hid (HB1.out.trans (hb2.mono HB1.out.size))
  clear hb2
  go_wp2_with fail
  go_ret2
  exact ⟨rfl, HB2.out⟩
set_option maxHeartbeats 4000000 in
set_option maxRecDepth 100000 in
theorem write_long (p : Pd) (q : Nat) (hk : cls p.kd = q) (hq : q ≤ 4) (hp : PdOk p) (hfit : fitP p q = true) (L : Nat → It) (hm : JEnds L p.m p.m) (hlong : 1492 < hdN q + sz L p.m) (w : World) (hin : PdIn w p L) : Calls Try.prog 12 #[.agg (pdC p)] w fun e w' => e = .returned (.tuple #[.slice none 0 0, .int .i64 2]) ∧ Below w.heap.size w w' := by
  have a0 := pdC_0 p
  have a46 := pdC_46 p
  have HF := Lib.hid (fields_any p.kd q hk hq)
  have hlen := fl_len q hq
  have HHD := Lib.hid (hdN_bd q hq)
  obtain ⟨n, hn⟩ : ∃ n, (flC q).length = n := ⟨_, rfl⟩
  have HN := Lib.hid hn
  rw [hn] at hlen HF
  have hn0 : ((n : Int) == 0) = false := by simp; omega
  have HX0 := Lib.hid (heap_alloc_new w (.cells (pdC p) 33))
  have HB0 := Lib.hid ((bself w).alloc (Nat.le_refl _) (.cells (pdC p) 33))
  have hs0 : (w.alloc (.cells (pdC p) 33)).heap.size = w.heap.size + 1 := by simp
  have HP := Lib.hid hp
  have HK := Lib.hid hk
  have HQ := Lib.hid hq
  have HFIT := Lib.hid hfit
  have HM := Lib.hid hm
  have HIN := Lib.hid hin
  clear hfit hm hin
  clear hn hp hk hq
  go_enter Try.func12, Try.ntmps12
  go_wp2_with fail
  obtain ⟨W1, hW1⟩ : ∃ W1, w.alloc (.cells (pdC p) 33) = W1 := ⟨_, rfl⟩
  rw [hW1] at HX0 HB0 hs0 ⊢
  clear hW1
  refine (HF.out W1).mono ?_
  rintro e w1 ⟨rfl, hf1, hb1⟩
  have HFl : Hid (FlAt w1 W1.heap.size q) := Lib.hid hf1
  have HPd : Hid (PdAt w1 w.heap.size p) := Lib.hid ((hb1.block _ (by omega)).trans HX0.out)
  have HB1 : Hid (Below w.heap.size w w1) := Lib.hid (HB0.out.trans (hb1.mono (by omega)))
  have hs1 := hb1.size
  clear hf1 hb1 HX0
  obtain ⟨g1, hg1⟩ : ∃ g1, W1.heap.size = g1 := ⟨_, rfl⟩
  rw [hg1] at HFl hs0 hs1 ⊢
  clear hg1
  have HAF := Lib.hid (allFit_any p w.heap.size g1 q HQ.out w1 HPd.out HFl.out)
  have c46 : w1.cell? ⟨w.heap.size, 46, none⟩ = some (.slice p.A p.m p.c) := (HPd.out.cell 46).trans a46
  have c0 : w1.cell? ⟨w.heap.size, 0, none⟩ = some (.int .u8 p.kd) := (HPd.out.cell 0).trans a0
  have HC0 := Lib.hid c0
  rw [HN.out] at HAF
  rw [HFIT.out] at HAF
  clear HB0 hs0 HF a0 a46
  go_wp2_with fail
  refine HAF.out.mono ?_
  rintro e w2 ⟨rfl, rfl⟩
  go_wp2_with fail
  have HJ := Lib.hid (join_any p.A p.m p.c p.m L w1 (HIN.out.1.below HB1.out) HIN.out.2.1 HIN.out.2.2 HM.out)
  refine HJ.out.mono ?_
  clear HJ
  rintro e w2 (⟨_, gT, cT, rfl, hgT, hoT, hb2⟩ | ⟨h, _⟩)
  rotate_left
  · omega
  have HB2 := Lib.hid (HB1.out.trans (hb2.mono HB1.out.size))
  have HFl2 := Lib.hid (HFl.out.below hb2)
  have HPd2 := Lib.hid (HPd.out.below hb2 HPd.out.lt)
  have HT2 := Lib.hid hoT
  have HAH := Lib.hid (fun W h => ahead_any g1 q HQ.out W h)
  rw [HN.out] at HAH
  have hsz := sz_le L p.m p.m HM.out
  have HHD' := HHD.out
  obtain ⟨S, hS⟩ : ∃ S, sz L p.m = S := ⟨_, rfl⟩
  have HSS := Lib.hid hS
  obtain ⟨H, hH⟩ : ∃ H, hdN q = H := ⟨_, rfl⟩
  have HHH := Lib.hid hH
  rw [hS] at hsz HT2
  rw [hH] at HHD' HAH
  rw [hS, hH] at hlong
  rw [hS]
  clear hb2 hS hH hoT c46 HPd HFl HAF
  go_wp2_with fail
  refine (HAH.out _ HFl2.out).mono ?_
  rintro e w3 ⟨rfl, rfl⟩
  go_wp2_with fail
  go_ret2
  exact ⟨rfl, HB2.out⟩
set_option maxHeartbeats 4000000 in
set_option maxRecDepth 100000 in
theorem write_ok (p : Pd) (q : Nat) (hk : cls p.kd = q) (hq : q ≤ 4) (hp : PdOk p) (hfit : fitP p q = true) (L : Nat → It) (hm : JEnds L p.m p.m) (hlong : hdN q + sz L p.m ≤ 1492) (w : World) (hin : PdIn w p L) : Calls Try.prog 12 #[.agg (pdC p)] w fun e w' => ∃ v, e = .returned (.tuple #[v, .int .i64 0]) ∧ OwnB w' w.heap.size v (hdN q + sz L p.m) (pdZ p q L) ∧ Below w.heap.size w w' := by
  have a0 := pdC_0 p
  have a46 := pdC_46 p
  have HF := Lib.hid (fields_any p.kd q hk hq)
  have hlen := fl_len q hq
  have HHD := Lib.hid (hdN_bd q hq)
  obtain ⟨n, hn⟩ : ∃ n, (flC q).length = n := ⟨_, rfl⟩
  have HN := Lib.hid hn
  rw [hn] at hlen HF
  have hn0 : ((n : Int) == 0) = false := by simp; omega
  have HX0 := Lib.hid (heap_alloc_new w (.cells (pdC p) 33))
  have HB0 := Lib.hid ((bself w).alloc (Nat.le_refl _) (.cells (pdC p) 33))
  have hs0 : (w.alloc (.cells (pdC p) 33)).heap.size = w.heap.size + 1 := by simp
  have HP := Lib.hid hp
  have HK := Lib.hid hk
  have HQ := Lib.hid hq
  have HFIT := Lib.hid hfit
  have HM := Lib.hid hm
  have HIN := Lib.hid hin
  clear hfit hm hin
  clear hn hp hk hq
  go_enter Try.func12, Try.ntmps12
  go_wp2_with fail
  obtain ⟨W1, hW1⟩ : ∃ W1, w.alloc (.cells (pdC p) 33) = W1 := ⟨_, rfl⟩
  rw [hW1] at HX0 HB0 hs0 ⊢
  clear hW1
  refine (HF.out W1).mono ?_
  rintro e w1 ⟨rfl, hf1, hb1⟩
  have HFl : Hid (FlAt w1 W1.heap.size q) := Lib.hid hf1
  have HPd : Hid (PdAt w1 w.heap.size p) := Lib.hid ((hb1.block _ (by omega)).trans HX0.out)
  have HB1 : Hid (Below w.heap.size w w1) := Lib.hid (HB0.out.trans (hb1.mono (by omega)))
  have hs1 := hb1.size
  clear hf1 hb1 HX0
  obtain ⟨g1, hg1⟩ : ∃ g1, W1.heap.size = g1 := ⟨_, rfl⟩
  rw [hg1] at HFl hs0 hs1 ⊢
  clear hg1
  have HAF := Lib.hid (allFit_any p w.heap.size g1 q HQ.out w1 HPd.out HFl.out)
  have c46 : w1.cell? ⟨w.heap.size, 46, none⟩ = some (.slice p.A p.m p.c) := (HPd.out.cell 46).trans a46
  have c0 : w1.cell? ⟨w.heap.size, 0, none⟩ = some (.int .u8 p.kd) := (HPd.out.cell 0).trans a0
  have HC0 := Lib.hid c0
  rw [HN.out] at HAF
  rw [HFIT.out] at HAF
  clear HB0 hs0 HF a0 a46
  go_wp2_with fail
  refine HAF.out.mono ?_
  rintro e w2 ⟨rfl, rfl⟩
  go_wp2_with fail
  have HJ := Lib.hid (join_any p.A p.m p.c p.m L w1 (HIN.out.1.below HB1.out) HIN.out.2.1 HIN.out.2.2 HM.out)
  refine HJ.out.mono ?_
  clear HJ
  rintro e w2 (⟨_, gT, cT, rfl, hgT, hoT, hb2⟩ | ⟨h, _⟩)
  rotate_left
  · omega
  have HB2 := Lib.hid (HB1.out.trans (hb2.mono HB1.out.size))
  have HFl2 := Lib.hid (HFl.out.below hb2)
  have HPd2 := Lib.hid (HPd.out.below hb2 HPd.out.lt)
  have HT2 := Lib.hid hoT
  have HAH := Lib.hid (fun W h => ahead_any g1 q HQ.out W h)
  rw [HN.out] at HAH
  have hsz := sz_le L p.m p.m HM.out
  have HHD' := HHD.out
  obtain ⟨S, hS⟩ : ∃ S, sz L p.m = S := ⟨_, rfl⟩
  have HSS := Lib.hid hS
  obtain ⟨H, hH⟩ : ∃ H, hdN q = H := ⟨_, rfl⟩
  have HHH := Lib.hid hH
  rw [hS] at hsz HT2
  rw [hH] at HHD' HAH
  rw [hS, hH] at hlong
  rw [hS]
  clear hb2 hS hH hoT c46 HPd HFl HAF
  go_wp2_with fail
  refine (HAH.out _ HFl2.out).mono ?_
  rintro e w3 ⟨rfl, rfl⟩
  go_wp2_with fail
  obtain ⟨Wn, hWn⟩ : ∃ Wn, H + S = Wn := ⟨_, rfl⟩
  have e1 : (H : Int) + (S : Int) = (Wn : Int) := by omega
  have hWl : Wn ≤ 1492 := by omega
  have HWn := Lib.hid hWn
  rw [e1]
  clear e1 hWn c0
  have HHead := Lib.hid (head_any p.kd H HP.out.1.1 (by omega))
  refine wp_region_held_drew (S := fun w' => w'.cell? ⟨w.heap.size, 0, none⟩ = some (.int .u8 p.kd)) (by kernel_rfl) ((HPd2.out.cell 0).trans (pdC_0 p)) (fun hS0 => ?_)
  refine takeY (i := 0) (some 38) (v := .pointer (some ⟨w.heap.size, 0, none⟩)) rfl rfl (by kernel_rfl) (by kernel_rfl) (by kernel_rfl) (fun _ _ _ h => h) (by rfl) (fun w' hS => by go_simp) hS0 ?_
  simp only [Act.put, List.setIfInBounds_toArray, List.set_cons_zero, List.set_cons_succ]
  refine takeY (i := 1) (some 39) (v := .int .u8 p.kd) rfl rfl (by kernel_rfl) (by kernel_rfl) (by kernel_rfl) (fun _ _ _ h => h) (by rfl) (fun w' hS => by go_simp) hS0 ?_
  simp only [Act.put, List.setIfInBounds_toArray, List.set_cons_zero, List.set_cons_succ]
  refine takeY (i := 2) (some 40) (v := .slice (some ⟨g1, 0, none⟩) n n) rfl rfl (by kernel_rfl) (by kernel_rfl) (by kernel_rfl) (fun _ _ _ h => h) (by rfl) (fun w' hS => by go_simp) hS0 ?_
  simp only [Act.put, List.setIfInBounds_toArray, List.set_cons_zero, List.set_cons_succ]
  refine takeC (i := 3) (some 41) 33 #[.slice (some ⟨g1, 0, none⟩) n n] (.int .i64 (H : Int)) (R := fun w' => w' = w2.drew) rfl rfl (by kernel_rfl) (by rfl) (by go_simp) ((HAH.out w2.drew HFl2.out).mono fun e w' h => ⟨h.1, h.2.symm⟩) (fun w' h => by rw [h]; exact hS0) (fun w3 h3 hS3 => ?_)
  subst h3
  simp only [Act.put, List.setIfInBounds_toArray, List.set_cons_zero, List.set_cons_succ]
  refine takeCE (i := 4) (some 42) 34 #[.int .u8 p.kd, .int .i64 (H : Int)] (R := fun v w' => OwnB w' w2.heap.size v 8 (headZ p.kd H) ∧ Below w2.heap.size w2 w' ∧ w'.cell? ⟨w.heap.size, 0, none⟩ = some (.int .u8 p.kd)) rfl rfl (by kernel_rfl) (by rfl) (by go_simp) ((HHead.out w2.drew).mono fun e w' ⟨he, ho, hb⟩ => ⟨_, he, ho.ownB (Nat.le_refl _), (bself w2).drew.trans hb, (hb.cell HPd2.out.lt).trans hS3⟩) (fun v w' h => h.2.2) (fun v8 w3 h3 hS3 => ?_)
  obtain ⟨ho3, hb3, _⟩ := h3
  simp only [Act.put, List.setIfInBounds_toArray, List.set_cons_zero, List.set_cons_succ]
  refine takeY (i := 5) (some 8) (v := v8) rfl rfl (by kernel_rfl) (by kernel_rfl) (by kernel_rfl) (fun _ _ _ h => h) (by rfl) (fun w' hS => by go_simp) hS3 ?_
  simp only [Act.put, List.setIfInBounds_toArray, List.set_cons_zero, List.set_cons_succ]
  refine wpAnyH_done (by kernel_rfl) ?_ _
  have HO3 : Hid (OwnB w3 w2.heap.size v8 (accN q 0) (accZ p Wn q 0)) := Lib.hid (by show OwnB w3 w2.heap.size v8 8 (headZ p.kd (hdN q)); rw [HHH.out]; exact ho3)
  have HB3 := Lib.hid hb3
  clear ho3 hb3 hS3 hS0
  go_wp2_with fail
  go_loopw [8, 45] (fun v t wr => ∃ i : Nat, i ≤ n ∧ t = .int .i64 i ∧ Hid (OwnB wr w2.heap.size v (accN q i) (accZ p Wn q i)) ∧ Hid (Below w2.heap.size w2 wr)) (fun _ t _ => n - (intOf t).toNat)
  case atStart => exact ⟨0, Nat.zero_le _, rfl, HO3, HB3⟩
  case round =>
    clear HO3 HB3
    obtain ⟨i, hi, rfl, HO, HW⟩ := hrel
    by_cases hlt : i < n
    · have ci := (HFl2.out.below HW.out).cell (i := i) (by rw [HN.out]; exact hlt)
      have hf := fAt_le q i HQ.out
      have hfit := fitP_at HFIT.out i (by rw [HN.out]; exact hlt)
      have HPut := Lib.hid (putF_any p HP.out w.heap.size Wn (fAt q i) (by omega) hf hfit _ (HPd2.out.below HW.out HPd2.out.lt))
      have hfz := fsz_bd (fAt q i)
      have hab := accN_bd q i
      have HS1 : Hid (vals (accZ p Wn q i) (accN q i) ++ vals (fZ p Wn (fAt q i)) (fsz (fAt q i)) = vals (accZ p Wn q (i + 1)) (accN q (i + 1))) := Lib.hid (vals_cat _ _ _ _)
      have HS2 : Hid (accN q (i + 1) = accN q i + fsz (fAt q i)) := Lib.hid rfl
      have HS3 := Lib.hid (accZ_bd p Wn q HQ.out HP.out (i + 1))
      obtain ⟨f, hf'⟩ : ∃ f, fAt q i = f := ⟨_, rfl⟩
      rw [hf'] at ci HPut HS1 HS2 hfz
      clear hf' hf hfit
      have HO1 := Lib.hid HO.out.1
      obtain ⟨an, han⟩ : ∃ an, accN q i = an := ⟨_, rfl⟩
      rw [han] at HO1 HS1 HS2 hab
      clear HO han
      go_wp2_with fail
      refine HPut.out.mono ?_
      rintro e wA ⟨ad, cA, rfl, hrd, hbA⟩
      have HRD := Lib.hid hrd
      have HBA := Lib.hid (HW.out.trans (hbA.mono HW.out.size))
      have HOA := Lib.hid (ownsRow_below' HO1.out hbA)
      clear hrd hbA ci
      go_wp2_with (first
        | (at_builtin; refine app_s rfl (.tmp 49) (.tmp 52) rfl w2 u8 an (vals (accZ p Wn q i) an) rfl HOA.out HBA.out ad (fsz f) cA (vals (fZ p Wn f) (fsz f)) rfl (vals_len _ _) (rd_newsB HRD.out) (vals_one _ _) (by omega) ?_; intro v2 wB ho2 hb2 hs2 hk2))
      have HOB : Hid (OwnB wB w2.heap.size v2 (accN q (i + 1)) (accZ p Wn q (i + 1))) := Lib.hid ⟨by rw [HS2.out]; have := ho2; rw [HS1.out, HS2.out] at this; exact this, HS3.out⟩
      have HBB := Lib.hid hb2
      clear ho2 hb2 hs2 hk2
      go_wp2_with fail
      go_roundw
      case rel => exact ⟨i + 1, by omega, by go_num, HOB, HBB⟩
      case measure => simp only [intOf]; omega
    · obtain rfl : i = n := by omega
      have HOH : Hid (OwnB wr w2.heap.size u8 H (accZ p Wn q i)) := Lib.hid (by have := HO.out; rw [← HHH.out]; unfold hdN; rw [HN.out]; exact this)
      have HTr := Lib.hid (HT2.out.below HW.out HT2.out.lt)
      have HV : Hid (vals (accZ p Wn q i) H ++ vals (J L p.m) S = vals (wZ p q L) (H + S)) := Lib.hid (by
        rw [vals_cat]
        unfold wZ
        rw [HSS.out, HHH.out, HN.out, HWn.out])
      have HWB : Hid (∀ j, 0 ≤ wZ p q L j ∧ wZ p q L j ≤ 255) := Lib.hid (cat_bd (accZ_bd p _ q HQ.out HP.out _) HT2.out.2)
      clear HO
      go_wp2_with (first
        | (at_builtin; refine app_s rfl (.tmp 55) (.tmp 56) rfl w2 u8 H (vals (accZ p Wn q i) H) rfl HOH.out.1 HW.out ⟨gT, 0, none⟩ S cT (vals (J L p.m) S) rfl (vals_len _ _) (rd_newsB HTr.out.rd) (vals_one _ _) (by omega) ?_; intro v2 wB ho2 hb2 hs2 hk2; have c0 : wB.cell? ⟨w.heap.size, 0, none⟩ = some (.int .u8 p.kd) := (((HPd2.out.below hb2 HPd2.out.lt).cell 0).trans (pdC_0 p)); have HO2 := Lib.hid ho2; have HBB := Lib.hid hb2; have HI := Lib.hid (isState_any p.kd wB); clear ho2 hb2 hs2 hk2))
      refine HI.out.mono ?_
      rintro e w5 ⟨rfl, rfl⟩
      have HOW : Hid (OwnB wB w2.heap.size v2 Wn (wZ p q L)) := Lib.hid ⟨by have := HO2.out; rw [HV.out, HWn.out] at this; exact this, HWB.out⟩
      have HEnd : Hid (hdN q + sz L p.m = Wn) := Lib.hid (by rw [HSS.out, HHH.out, HWn.out])
      by_cases hq2 : q = 2
      · have hd : decide (cls p.kd = 2) = true := by rw [HK.out]; simpa using hq2
        have HPZ : Hid (pdZ p q L = sgZ (wZ p q L) Wn) := Lib.hid (by unfold pdZ; rw [if_pos hq2, HEnd.out])
        have h27 : 27 ≤ Wn := by
          have h1 : hdN q = 27 := by rw [hq2]; rfl
          have h2 := HHH.out
          have h3 := HWn.out
          omega
        obtain ⟨gW, cW, rfl, hgW, hoW⟩ := own_ofB HOW.out (by omega)
        have HSg := Lib.hid (sign_any gW Wn cW (wZ p q L) w2 wB hoW h27 hWl HBB.out hgW)
        have HgW := Lib.hid hgW
        rw [hd]
        clear hoW HO2 HOW hgW hq2 hd
        go_wp2_with fail
        refine HSg.out.mono ?_
        rintro e w6 ⟨rfl, ho6, hb6⟩
        have HO6 := Lib.hid ho6
        have HB6 := Lib.hid (HB2.out.trans (hb6.mono HB2.out.size))
        clear ho6 hb6 c0
        go_wp2_with fail
        go_ret2
        exact ⟨_, rfl, by rw [HEnd.out, HPZ.out]; exact HO6.out.ownB (by have := HgW.out; have := HB2.out.size; omega), HB6.out⟩
      · have hd : decide (cls p.kd = 2) = false := by rw [HK.out]; simpa using hq2
        have HPZ : Hid (pdZ p q L = wZ p q L) := Lib.hid (by unfold pdZ; rw [if_neg hq2])
        have HB6 := Lib.hid (HB2.out.trans (HBB.out.mono HB2.out.size))
        rw [hd]
        clear hq2 hd HO2
        go_wp2_with fail
        go_ret2
        exact ⟨_, rfl, by rw [HEnd.out, HPZ.out]; exact ⟨ownsRow_mono HOW.out.1 HB2.out.size, HOW.out.2⟩, HB6.out⟩
end Go.Proofs.Ytfojfdlapekjoaa

/- The document's example of pdu, run: waymarklaw06.awake returns true. No condition. -/
namespace Go.Proofs.Ytfojfdlapekjoaa
open Go.RowKit
set_option linter.unusedVariables false

theorem bdrewN {B : Nat} {a w : World} (h : Below B a w) (m : Nat) : Below B a (w.drewN m) := ⟨h.os, h.tape, h.output, h.size, h.block⟩
theorem rd_lit {w : World} {B n : Nat} {C : Array Value} {t : TypeId} {z : Nat → Int} (h : w.heap[B]? = some (.cells C t (0, 0))) (hz : ∀ j, 0 ≤ z j ∧ z j ≤ 255) (hC : C.toList = vals z n) : Rd w (some ⟨B, 0, none⟩) n z := by
  refine ⟨.inr ⟨B, 0, rfl, (Array.getElem?_eq_some_iff.1 h).1, fun j hj => ?_, hz⟩, hz⟩
  rw [Nat.zero_add, cell_of_row w B j _ _ _ h]
  have := vals_at z n j hj
  rw [← hC] at this
  simpa using this
/-- the example's packet -/
def pX : Pd := ⟨17, 3, fun j => if j = 5 then 1 else 0, 10, 1, 0, fun _ => 0, 0, fun _ => 0, 0, 0, fun _ => 0, fun _ => 0, none, 0, 0⟩
def lX : Nat → It := fun _ => ⟨0, none, 0, 0, fun _ => 0⟩
theorem pX_ok : PdOk pX := by
  refine ⟨⟨?_, ?_, fun j => ?_, ?_, ?_, ?_, fun j => ?_⟩, ?_, fun j => ?_, ?_, ?_, fun j => ?_, fun j => ?_⟩
  all_goals simp only [pX, by1, in64]
  all_goals first | omega | decide | (split <;> omega)
def litX : List Int := [131, 20, 1, 0, 17, 1, 0, 0, 3, 0, 0, 0, 0, 0, 1, 0, 10, 0, 20, 1]
def zX : Nat → Int := fun j => litX.getD j 0
theorem zX_bd : ∀ j, 0 ≤ zX j ∧ zX j ≤ 255 := by
  intro j
  by_cases h : j < 20
  · have : ∀ k : Fin 20, 0 ≤ zX k ∧ zX k ≤ 255 := by decide
    exact this ⟨j, h⟩
  · have : zX j = 0 := by unfold zX List.getD; rw [List.getElem?_eq_none (by simp [litX]; omega)]; rfl
    omega
theorem zX_eq : ∀ j, j < 20 → pdZ pX 0 lX j = zX j := by
  intro j h
  have : ∀ k : Fin 20, pdZ pX 0 lX k = zX k := by decide +kernel
  exact this ⟨j, h⟩
set_option maxHeartbeats 2000000 in
set_option maxRecDepth 100000 in
theorem awake_any (w : World) :
    Calls Try.prog 10 #[] w fun e w' => e = .returned (.bool true) ∧ Below w.heap.size w w' := by
  have HW := Lib.hid (write_ok pX 0 rfl (by decide) pX_ok rfl lX ⟨Nat.le_refl _, fun k hk => absurd hk (Nat.not_lt_zero k), .inl rfl⟩ (by decide) w ⟨.inl rfl, Nat.le_refl _, by decide⟩)
  go_enter Try.func10, Try.ntmps10
  go_wp2_with fail
  refine HW.out.mono ?_
  rintro e w1 ⟨v, rfl, ho, hb⟩
  obtain ⟨g, cap, rfl, hg, ho⟩ := own_ofB ho (by decide)
  rw [show hdN 0 + sz lX pX.m = 20 from rfl] at ho ⊢
  have hcap := ho.caps.1
  have hcap2 : cap ≤ 9223372036854775807 := ho.caps.2
  have HO := Lib.hid ho
  have HB := Lib.hid hb
  have hs := hb.size
  clear ho hb
  go_wp2_with fail
  refine (same_yes _ _ 20 _ _ (pdZ pX 0 lX) zX _ (HO.out.alloc _).rd (rd_lit (heap_alloc_new w1 _) zX_bd rfl) zX_eq (by decide)).mono ?_
  rintro e w2 ⟨rfl, m, rfl⟩
  go_wp2_with fail
  go_ret
  exact ⟨rfl, bdrewN (HB.out.alloc (by omega) _) m⟩
end Go.Proofs.Ytfojfdlapekjoaa

/- pdu.Write, all ways told as one. Each theorem states its conditions. -/
namespace Go.Proofs.Ytfojfdlapekjoaa
open Go.RowKit
set_option linter.unusedVariables false

/-- n bytes and a number -/
def WrP (w : World) (n : Nat) (X : Int) (z : Nat → Int) (e : Ending) (w' : World) : Prop :=
  ∃ A c, e = .returned (.tuple #[.slice A n c, .int .i64 X]) ∧ Rd w' A n z ∧ n ≤ c ∧ c ≤ maxLen ∧ Below w.heap.size w w' ∧ (X = 0 → ∃ g, A = some ⟨g, 0, none⟩ ∧ w.heap.size ≤ g ∧ Own8 w' g n c z)
/-- what Write says, how many bytes, which -/
def wrX (p : Pd) (L : Nat → It) (m0 : Nat) : Int := if cls p.kd = 5 ∨ fitP p (cls p.kd) = false then 1 else if m0 < p.m ∨ 1492 < hdN (cls p.kd) + sz L p.m then 2 else 0
def wrN (p : Pd) (L : Nat → It) (m0 : Nat) : Nat := if wrX p L m0 = 0 then hdN (cls p.kd) + sz L p.m else 0
def wrZ (p : Pd) (L : Nat → It) (m0 : Nat) : Nat → Int := if wrX p L m0 = 0 then pdZ p (cls p.kd) L else fun _ => 0
theorem cls_le (k : Int) : cls k ≤ 5 := by unfold cls; (repeat' split) <;> omega
theorem wr_none {w w' : World} {X : Int} {e : Ending} (hX : X ≠ 0) (he : e = .returned (.tuple #[.slice none 0 0, .int .i64 X])) (hb : Below w.heap.size w w') : WrP w 0 X (fun _ => 0) e w' :=
  ⟨none, 0, he, ⟨.inl rfl, fun _ => ⟨Int.le_refl 0, (by decide : (0 : Int) ≤ 255)⟩⟩, Nat.le_refl _, by decide, hb, fun h => absurd h hX⟩
theorem wr_1 (p : Pd) (L : Nat → It) (m0 : Nat) (h : cls p.kd = 5 ∨ fitP p (cls p.kd) = false) : wrX p L m0 = 1 ∧ wrN p L m0 = 0 ∧ wrZ p L m0 = fun _ => 0 := by
  have h1 : wrX p L m0 = 1 := if_pos h
  refine ⟨h1, ?_, ?_⟩
  · unfold wrN; rw [h1]; rfl
  · unfold wrZ; rw [h1]; rfl
theorem wr_2 (p : Pd) (L : Nat → It) (m0 : Nat) (h : ¬ (cls p.kd = 5 ∨ fitP p (cls p.kd) = false)) (h2 : m0 < p.m ∨ 1492 < hdN (cls p.kd) + sz L p.m) : wrX p L m0 = 2 ∧ wrN p L m0 = 0 ∧ wrZ p L m0 = fun _ => 0 := by
  have h1 : wrX p L m0 = 2 := by unfold wrX; rw [if_neg h, if_pos h2]
  refine ⟨h1, ?_, ?_⟩
  · unfold wrN; rw [h1]; rfl
  · unfold wrZ; rw [h1]; rfl
theorem wr_0 (p : Pd) (L : Nat → It) (m0 : Nat) (h : ¬ (cls p.kd = 5 ∨ fitP p (cls p.kd) = false)) (h2 : ¬ (m0 < p.m ∨ 1492 < hdN (cls p.kd) + sz L p.m)) : wrX p L m0 = 0 ∧ wrN p L m0 = hdN (cls p.kd) + sz L p.m ∧ wrZ p L m0 = pdZ p (cls p.kd) L := by
  have h1 : wrX p L m0 = 0 := by unfold wrX; rw [if_neg h, if_neg h2]
  refine ⟨h1, ?_, ?_⟩
  · unfold wrN; rw [if_pos h1]
  · unfold wrZ; rw [if_pos h1]
theorem wrN_le (p : Pd) (L : Nat → It) (m0 : Nat) : wrN p L m0 ≤ 1492 := by
  unfold wrN wrX
  by_cases h : cls p.kd = 5 ∨ fitP p (cls p.kd) = false
  · rw [if_pos h]; simp
  · rw [if_neg h]
    by_cases h2 : m0 < p.m ∨ 1492 < hdN (cls p.kd) + sz L p.m
    · rw [if_pos h2]; simp
    · rw [if_neg h2]; simp only [if_true]; omega
theorem wrX_bd (p : Pd) (L : Nat → It) (m0 : Nat) : 0 ≤ wrX p L m0 ∧ wrX p L m0 ≤ 2 := by
  unfold wrX; (repeat' split) <;> omega
theorem write_any (p : Pd) (hp : PdOk p) (L : Nat → It) (m0 : Nat) (hm : JEnds L p.m m0) (w : World) (hin : PdIn w p L) :
    Calls Try.prog 12 #[.agg (pdC p)] w (WrP w (wrN p L m0) (wrX p L m0) (wrZ p L m0)) := by
  have hc := cls_le p.kd
  by_cases h5 : cls p.kd = 5
  · obtain ⟨e1, e2, e3⟩ := wr_1 p L m0 (.inl h5)
    rw [e1, e2, e3]
    exact (write_5 p h5 w).mono fun e w' h => wr_none (by decide) h.1 h.2
  · have hq : cls p.kd ≤ 4 := by omega
    cases hf : fitP p (cls p.kd)
    · obtain ⟨e1, e2, e3⟩ := wr_1 p L m0 (.inr hf)
      rw [e1, e2, e3]
      exact (write_nofit p _ rfl hq hp hf w).mono fun e w' h => wr_none (by decide) h.1 h.2
    · have hn : ¬ (cls p.kd = 5 ∨ fitP p (cls p.kd) = false) := by rw [hf]; simpa using h5
      by_cases hlt : m0 < p.m
      · obtain ⟨e1, e2, e3⟩ := wr_2 p L m0 hn (.inl hlt)
        rw [e1, e2, e3]
        exact (write_join p _ rfl hq hp hf L m0 hm hlt w hin).mono fun e w' h => wr_none (by decide) h.1 h.2
      · obtain rfl : m0 = p.m := by have := hm.1; omega
        by_cases hl : 1492 < hdN (cls p.kd) + sz L p.m
        · obtain ⟨e1, e2, e3⟩ := wr_2 p L p.m hn (.inr hl)
          rw [e1, e2, e3]
          exact (write_long p _ rfl hq hp hf L hm hl w hin).mono fun e w' h => wr_none (by decide) h.1 h.2
        · obtain ⟨e1, e2, e3⟩ := wr_0 p L p.m hn (by omega)
          rw [e1, e2, e3]
          refine (write_ok p _ rfl hq hp hf L hm (by omega) w hin).mono fun e w' h => ?_
          obtain ⟨v, rfl, ho, hb⟩ := h
          have h17 := hdN_bd _ hq
          obtain ⟨g, cap, rfl, hg, hO⟩ := own_ofB ho (by omega)
          exact ⟨_, _, rfl, hO.rd, hO.caps.1, hO.caps.2, hb, fun _ => ⟨g, rfl, hg, hO⟩⟩
/-- packets that have the same in all fields of their kind -/
def PdLike (p p' : Pd) : Prop := p.kd = p'.kd ∧ p.m = p'.m ∧ ∀ i, i < (flC (cls p.kd)).length → fitB p (fAt (cls p.kd) i) = fitB p' (fAt (cls p.kd) i) ∧ ∀ W, fZ p W (fAt (cls p.kd) i) = fZ p' W (fAt (cls p.kd) i)
theorem accZ_congr {p p' : Pd} {q W : Nat} (hk : p.kd = p'.kd) (n : Nat) (h : ∀ i, i < n → fZ p W (fAt q i) = fZ p' W (fAt q i)) : accZ p W q n = accZ p' W q n := by
  induction n with
  | zero => simp only [accZ, hk]
  | succ n ih => simp only [accZ, ih fun i hi => h i (by omega), h n (by omega)]
theorem fitsTo_congr {p p' : Pd} {q : Nat} (n : Nat) (h : ∀ i, i < n → fitB p (fAt q i) = fitB p' (fAt q i)) : fitsTo p q n = fitsTo p' q n := by
  induction n with
  | zero => rfl
  | succ n ih => simp only [fitsTo, ih fun i hi => h i (by omega), h n (by omega)]
theorem pdZ_like {p p' : Pd} (h : PdLike p p') (L : Nat → It) : pdZ p (cls p.kd) L = pdZ p' (cls p'.kd) L := by
  obtain ⟨h1, h2, h3⟩ := h
  have hw : wZ p (cls p.kd) L = wZ p' (cls p.kd) L := by
    unfold wZ
    rw [h2, accZ_congr (p' := p') h1 _ fun i hi => (h3 i hi).2 _]
  unfold pdZ
  rw [← h1, hw, h2]
theorem wr_like {p p' : Pd} (h : PdLike p p') (L : Nat → It) (m0 : Nat) : wrX p L m0 = wrX p' L m0 ∧ wrN p L m0 = wrN p' L m0 ∧ wrZ p L m0 = wrZ p' L m0 := by
  have hz := pdZ_like h L
  obtain ⟨h1, h2, h3⟩ := h
  have hf : fitP p (cls p.kd) = fitP p' (cls p'.kd) := by
    rw [← h1]
    exact fitsTo_congr _ fun i hi => (h3 i hi).1
  have hX : wrX p L m0 = wrX p' L m0 := by
    unfold wrX
    rw [← hf, ← h1, h2]
  refine ⟨hX, ?_, ?_⟩
  · unfold wrN; rw [hX, ← h1, h2]
  · unfold wrZ; rw [hX, hz]
end Go.Proofs.Ytfojfdlapekjoaa

/- A value is equal to itself: entries. Each theorem states its conditions. -/
namespace Go.Proofs.Ytfojfdlapekjoaa
open Go.RowKit
open Go.Extern.Stop (cell)
set_option linter.unusedVariables false

/-- v is equal to itself -/
def SelfEq (d : Nat) (t : TypeId) (v : Value) : Prop := ∀ w, (Op.equalIn d t v v).run Try.prog w = .ok true w
theorem eqFields_self (d : Nat) (xs : Array Value) : ∀ fs : List Field, (∀ f ∈ fs, ∃ u, (∀ w, (part f.type xs f.offset).run Try.prog w = .ok u w) ∧ SelfEq d f.type u) → ∀ w, (Op.eqFields d xs xs fs).run Try.prog w = .ok true w := by
  intro fs
  induction fs with
  | nil => intro _ w; rfl
  | cons f fs ih =>
    intro h w
    obtain ⟨u, h1, h2⟩ := h f (List.mem_cons_self ..)
    have h3 := ih (fun g hg => h g (List.mem_cons_of_mem _ hg))
    unfold Op.eqFields
    by_cases hn : f.name ≠ "_"
    · rw [if_pos hn]
      simp only [Sem.run_bind, h1, Result.andThen_ok, h2 w]
      simpa using h3 w
    · rw [if_neg hn]
      exact h3 w
theorem self_struct (d : Nat) (t : TypeId) (xs : Array Value) (l : List (TypeId × Nat)) (ht : Try.prog.underlying t = some (.struct (Try.prog.fieldsOf t))) (hp : Try.prog.stoodInHeld t = false) (hl : (Try.prog.fieldsOf t).toList.map (fun f => (f.type, f.offset)) = l)
    (h : ∀ p ∈ l, ∃ u, (∀ w, (part p.1 xs p.2).run Try.prog w = .ok u w) ∧ SelfEq d p.1 u) : SelfEq (d + 1) t (.agg xs) := by
  intro w
  rw [run_equalIn_struct w d t xs xs ht hp]
  refine eqFields_self d xs _ (fun f hf => ?_) w
  exact h (f.type, f.offset) (by rw [← hl]; exact List.mem_map.2 ⟨f, hf, rfl⟩)
theorem self_int (d : Nat) (t : TypeId) (k : IntKind) (n : Int) (h : Try.prog.underlying t = some (.int k)) : SelfEq (d + 1) t (.int k n) := fun w => by rw [run_equalIn_int w d t k k n n h]; simp
theorem self_bool (d : Nat) (t : TypeId) (b : Bool) (h : Try.prog.underlying t = some .bool) : SelfEq (d + 1) t (.bool b) := fun w => by rw [run_equalIn_bool w d t b b h]; simp
theorem size_u8 : ∀ w, (sizeOf 5).run Try.prog w = .ok 1 w := by
  obtain ⟨i, hi, _, hz1, _⟩ := info_parts info_u8
  intro w
  simp [sizeOf, typeInfo, hi, hz1]
theorem vals_cells (z : Nat → Int) (n : Nat) (hz : ∀ j, 0 ≤ z j ∧ z j ≤ 255) : vals z n = (((List.range n).map fun j => UInt8.ofNat (z j).toNat).map cell) := by
  unfold vals
  rw [List.map_map]
  apply List.map_congr_left
  intro j _
  have := hz j
  simp [cell]
  omega
theorem self_bytes (d n : Nat) (t : TypeId) (z : Nat → Int) (hz : ∀ j, 0 ≤ z j ∧ z j ≤ 255) (h : Try.prog.underlying t = some (.array n 5)) : SelfEq (d + 2) t (.agg (vals z n).toArray) := by
  intro w
  rw [vals_cells z n hz]
  rw [run_equalIn_bytes w d t 5 n h Try.underlying5 size_u8 _ _ (by simp) (by simp)]
  simp

theorem self_node (d : Nat) (s : Nat → Int) (hs : ∀ j, 0 ≤ s j ∧ s j ≤ 255) : SelfEq (d + 3) 25 (.agg (vals s 7).toArray) := by
  refine self_struct (d + 2) _ _ [(23, 0), (5, 6)] (by kernel_rfl) (by kernel_rfl) (by kernel_rfl) (fun p hp => ?_)
  simp only [List.mem_cons, List.not_mem_nil, or_false] at hp
  rcases hp with rfl | rfl
  · exact ⟨.agg (vals s 6).toArray, fun w => by kernel_rfl, self_bytes d 6 _ s hs Try.underlying23⟩
  · exact ⟨.int .u8 (s 6), fun w => by kernel_rfl, self_int (d + 1) _ .u8 _ Try.underlying5⟩
theorem self_id (d : Nat) (s : Nat → Int) (hs : ∀ j, 0 ≤ s j ∧ s j ≤ 255) : SelfEq (d + 4) 27 (.agg (idC s)) := by
  refine self_struct (d + 3) _ _ [(25, 0), (5, 7)] (by kernel_rfl) (by kernel_rfl) (by kernel_rfl) (fun p hp => ?_)
  simp only [List.mem_cons, List.not_mem_nil, or_false] at hp
  rcases hp with rfl | rfl
  · exact ⟨.agg (vals s 7).toArray, fun w => by kernel_rfl, self_node d s hs⟩
  · exact ⟨.int .u8 (s 7), fun w => by kernel_rfl, self_int (d + 2) _ .u8 _ Try.underlying5⟩
theorem self_en (d : Nat) (e : En) (h : EnOk e) : SelfEq (d + 5) 96 (.agg (enC e)) := by
  refine self_struct (d + 4) _ _ [(27, 0), (28, 8), (3, 9), (65, 10)] (by kernel_rfl) (by kernel_rfl) (by kernel_rfl) (fun p hp => ?_)
  simp only [List.mem_cons, List.not_mem_nil, or_false] at hp
  rcases hp with rfl | rfl | rfl | rfl
  · exact ⟨.agg (idC e.s), fun w => by kernel_rfl, self_id d e.s h.1⟩
  · exact ⟨.int .u32 (e.sq : Int), fun w => by kernel_rfl, self_int (d + 3) _ .u32 _ Try.underlying28⟩
  · exact ⟨.int .i64 e.li, fun w => by kernel_rfl, self_int (d + 3) _ .i64 _ Try.underlying3⟩
  · exact ⟨.int .u16 (e.su : Int), fun w => by kernel_rfl, self_int (d + 3) _ .u16 _ Try.underlying65⟩
/-- != of a value with itself, as an operation -/
theorem neq_self (o : Oper) (e : Operand → Value) (x y : Operand) (t t' : TypeId) (ho : o.op = .binOp .neq t x y t') (htt : t = t') (hg : Try.prog.eqGuardType Try.prog.depth t = false) (xs : Array Value) (hs : SelfEq 10000 t (.agg xs)) (h0 : e x = .agg xs) (h1 : e y = .agg xs) (W : World) :
    (execOp e o).run Try.prog W = .ok (.value (.bool false)) W := by
  subst htt
  unfold execOp
  simp only [ho, h0, h1]
  simp [Sem.run_bind, run_eqGuard_agg _ _ _ _ _ _ _ hg, run_neq_struct, hs W]
end Go.Proofs.Ytfojfdlapekjoaa

/- The document's comparison of two lists of waymark/api.Entry: the same are the same; and an append of such a list. Each theorem states its conditions. -/
namespace Go.Proofs.Ytfojfdlapekjoaa
open Go.RowKit
set_option linter.unusedVariables false

theorem guard_N : Try.prog.eqGuardType Try.prog.depth 96 = false := by kernel_rfl
theorem hi_N (cs : Array Value) (h : cs.size = 11) : (Try.prog.info? 96).map (·.size) = some cs.toList.length := by
  rw [Array.length_toList, h]
  kernel_rfl
set_option maxHeartbeats 1000000 in
set_option maxRecDepth 100000 in
theorem sameN_yes (A B : Option Addr) (m c d : Nat) (C : Nat → Array Value) (w : World) (ha : RdR w A m 11 C) (hb : RdR w B m 11 C) (hs : ∀ j, j < m → SelfEq 10000 96 (.agg (C j))) (hz : ∀ j, (C j).size = 11) (hm : m ≤ 140737488351232) :
    Calls Try.prog 27 #[.slice A m c, .slice B m d] w fun e w' => e = .returned (.bool true) ∧ ∃ k, w' = w.drewN k := by
  rcases Nat.eq_zero_or_pos m with rfl | hn
  · clear ha hb hs
    go_enter Try.func27, Try.ntmps27
    go_wp2
    refine wp_loop_rounds 1 ?_
    rw [rounds_succ]
    go_wp2
    go_ret
    exact ⟨rfl, 0, rfl⟩
  · obtain ⟨b, off, rfl, hr⟩ := ha.row hn
    obtain ⟨b', off', rfl, hr'⟩ := hb.row hn
    have HR := Lib.hid hr
    have HR' := Lib.hid hr'
    have HS := Lib.hid hs
    have HZ := Lib.hid hz
    clear ha hb hr hr' hs hz
    go_enter Try.func27, Try.ntmps27
    go_wp2
    go_loopw [13] (fun t wr => ∃ k r : Nat, k ≤ m ∧ t = .int .i64 k ∧ Hid (wr = w.drewN r)) (fun t _ => m - (intOf t).toNat)
    case atStart => exact ⟨0, 0, by omega, rfl, Lib.hid rfl⟩
    case round =>
      obtain ⟨k, r, hk, rfl, hw⟩ := hrel
      by_cases hlt : k < m
      · have h1 : Hid (wr.drew.rangeAt b (off + k * 11) (C k).toList) := Lib.hid (by rw [hw.out]; exact HR.out.2 k hlt)
        have h2 : Hid (wr.drew.rangeAt b' (off' + k * 11) (C k).toList) := Lib.hid (by rw [hw.out]; exact HR'.out.2 k hlt)
        have hki : (k : Int) < (m : Int) := by omega
        go_wp2_with fail
        refine wp_region_held_drew (S := fun w' => w' = wr.drew) (by kernel_rfl) rfl (fun _ => ?_)
        refine takeY (i := 0) (some 16) (v := .slice (some ⟨b, off, none⟩) m c) rfl rfl (by kernel_rfl) (by kernel_rfl) (by kernel_rfl) (fun _ _ _ h => h) (by rfl) (fun w' hS => by go_simp) rfl ?_
        simp only [Act.put, List.setIfInBounds_toArray, List.set_cons_zero, List.set_cons_succ]
        refine takeY (i := 1) (some 17) (v := .int .i64 k) rfl rfl (by kernel_rfl) (by kernel_rfl) (by kernel_rfl) (fun _ _ _ h => h) (by rfl) (fun w' hS => by go_simp) rfl ?_
        simp only [Act.put, List.setIfInBounds_toArray, List.set_cons_zero, List.set_cons_succ]
        refine takeY (i := 2) (some 18) (v := .pointer (some ⟨b, off + k * 11, none⟩)) rfl rfl (by kernel_rfl) (by kernel_rfl) (by kernel_rfl) (fun _ _ _ h => h) (by rfl) (fun w' hS => by clear hS; go_simp) rfl ?_
        simp only [Act.put, List.setIfInBounds_toArray, List.set_cons_zero, List.set_cons_succ]
        refine takeL (i := 3) (some 19) 96 (.tmp 18) b (off + k * 11) (C k) _ rfl rfl (by kernel_rfl) (by kernel_rfl) (by kernel_rfl) (fun _ _ _ h => h) (by rfl) rfl rfl (fun w' hS => by rw [hS]; exact h1.out) Try.underlying96 rfl (hi_N _ (HZ.out k)) rfl ?_
        simp only [Act.put, List.setIfInBounds_toArray, List.set_cons_zero, List.set_cons_succ]
        refine takeY (i := 4) (some 20) (v := .slice (some ⟨b', off', none⟩) m d) rfl rfl (by kernel_rfl) (by kernel_rfl) (by kernel_rfl) (fun _ _ _ h => h) (by rfl) (fun w' hS => by go_simp) rfl ?_
        simp only [Act.put, List.setIfInBounds_toArray, List.set_cons_zero, List.set_cons_succ]
        refine takeY (i := 5) (some 21) (v := .int .i64 k) rfl rfl (by kernel_rfl) (by kernel_rfl) (by kernel_rfl) (fun _ _ _ h => h) (by rfl) (fun w' hS => by go_simp) rfl ?_
        simp only [Act.put, List.setIfInBounds_toArray, List.set_cons_zero, List.set_cons_succ]
        refine takeY (i := 6) (some 22) (v := .pointer (some ⟨b', off' + k * 11, none⟩)) rfl rfl (by kernel_rfl) (by kernel_rfl) (by kernel_rfl) (fun _ _ _ h => h) (by rfl) (fun w' hS => by clear hS; go_simp) rfl ?_
        simp only [Act.put, List.setIfInBounds_toArray, List.set_cons_zero, List.set_cons_succ]
        refine takeL (i := 7) (some 23) 96 (.tmp 22) b' (off' + k * 11) (C k) _ rfl rfl (by kernel_rfl) (by kernel_rfl) (by kernel_rfl) (fun _ _ _ h => h) (by rfl) rfl rfl (fun w' hS => by rw [hS]; exact h2.out) Try.underlying96 rfl (hi_N _ (HZ.out k)) rfl ?_
        simp only [Act.put, List.setIfInBounds_toArray, List.set_cons_zero, List.set_cons_succ]
        refine takeY (i := 8) (some 24) (v := .bool false) rfl rfl (by kernel_rfl) (by kernel_rfl) (by kernel_rfl) (fun _ _ _ h => h) (by rfl) (fun w' _ => neq_self _ _ (.tmp 19) (.tmp 23) _ _ rfl rfl guard_N (C k) (HS.out k hlt) rfl rfl w') rfl ?_
        simp only [Act.put, List.setIfInBounds_toArray, List.set_cons_zero, List.set_cons_succ]
        refine wpAnyH_done (by kernel_rfl) ?_ _
        have hwd : Hid (wr.drew = w.drewN (r + 1)) := Lib.hid (by rw [hw.out]; rfl)
        clear h1 h2
        go_wp2
        go_roundw
        case rel => exact ⟨k + 1, r + 1, by omega, by go_num, hwd⟩
        case measure => simp [intOf]; omega
      · obtain rfl : k = m := by omega
        go_wp2
        go_ret
        exact ⟨rfl, r, hw.out⟩
theorem infoA_N : (Try.prog.info? 96).map (fun i => (i.zero, i.size, i.bytes)) = some (some (.agg #[.int .u8 0, .int .u8 0, .int .u8 0, .int .u8 0, .int .u8 0, .int .u8 0, .int .u8 0, .int .u8 0, .int .u32 0, .int .i64 0, .int .u16 0]), 11, 32) := by kernel_rfl
/-- 'append(l, x...)' of a list that came in to a list of the call's own -/
theorem app_N {ops : Array Oper} {rest : List Oper} {o : Oper} {a : Act} {w : World} {Q : Exit → Act → World → Prop} (hgd : o.guard = none) (s x : Operand)
    (ho : o.op = .call { callee := .builtin .append, args := #[s, x], argTypes := #[55, 55] })
    (w0 : World) (v : Value) (n : Nat) (xs : List Value) (hs : a.eval s = v) (hown : w.ownsRow w0.heap.size 96 11 v n xs) (hb : Below w0.heap.size w0 w)
    (A : Option Addr) (m c : Nat) (C : Nat → Array Value) (hx : a.eval x = .slice A m c) (hR : RdR w A m 11 C) (hA : A = none → m = 0 ∧ c = 0) (hC : Recs 11 C) (hbd : (n + m) * 32 ≤ 140737488355328)
    (h : ∀ v' w', w'.ownsRow w0.heap.size 96 11 v' (n + m) (xs ++ cellsR C m) → Below w0.heap.size w0 w' → w.heap.size ≤ w'.heap.size → (∀ k, k < w.heap.size → v.ownBlock ≠ some k → w'.heap[k]? = w.heap[k]? ∧ v'.ownBlock ≠ some k) → wpList Try.prog ops Q rest (a.put o.dst v') w') :
    wpList Try.prog ops Q (o :: rest) a w := by
  obtain ⟨i0, hi, hz0, hz1, hz2⟩ := info_parts infoA_N
  rcases A with _ | ad
  · obtain ⟨rfl, rfl⟩ := hA rfl
    refine wpList_append_own_none hgd s x _ ho w0.heap.size 96 i0 11 Try.underlying55 hi v n xs hs hown hx ?_
    exact h v w (by simpa [cellsR] using hown) hb (Nat.le_refl _) (fun k _ hne => ⟨rfl, hne⟩)
  · refine wpList_append_own_at w hgd s x _ ho w0.heap.size 96 i0 _ 11 32 Try.underlying55 hi hz0 hz1 hz2 rfl (by decide) v n xs hs hown ad m c (cellsR C m) hx (cellsR_len hC m) (recs_news hC (by decide) hR) (cellsR_one hC m) (by unfold maxLen; omega) hbd hb.size ?_
    intro v' w' h2 h3 h4 h5
    refine h v' w' h2 (hb.grown h3 hb.size (fun k e => (hown.lt k e).1)) h3.size (fun k hk hne => ⟨h3.block k hk (fun e => hne e.symm), fun e => ?_⟩)
    rcases h5 with h5 | h5
    · rw [h5] at e; exact hne e
    · rw [h5] at e; injection e with e; omega
end Go.Proofs.Ytfojfdlapekjoaa

/- An append of one entry as a step of a drawn region; an entry is built. Each theorem states its conditions. -/
namespace Go.Proofs.Ytfojfdlapekjoaa
open Go.RowKit
set_option linter.unusedVariables false

theorem build_en (o : Oper) (e : Operand → Value) (x0 x1 x2 x3 : Operand) (ho : o.op = .build 96 #[(2, x2), (0, x0), (1, x1), (3, x3)]) (E : En) (h0 : e x0 = .agg (idC E.s)) (h1 : e x1 = .int .u32 (E.sq : Int)) (h2 : e x2 = .int .i64 E.li) (h3 : e x3 = .int .u16 (E.su : Int)) (W : World) :
    (execOp e o).run Try.prog W = .ok (.value (.agg (enC E))) W := by
  unfold execOp
  simp only [ho]
  simp only [List.map_toArray, List.map_cons, List.map_nil, h0, h1, h2, h3]
  kernel_rfl
theorem takeAN {ops : Array Oper} {Q : Exit → Act → World → Prop} {md : Region.Mode} {S : World → Prop} {i : Nat} {oi : Oper} (d : Option Tmp) {fuel : Nat} {listed : Array Bool} {a : Act} {w : World} (s x : Operand) (hi' : ops[i]? = some oi) (hd : oi.dst = d)
    (hr : Region.ready md ops listed = [i]) (hw : Region.wanted oi (yielded ops a.tmps) = true)
    (ho : oi.op = .call { callee := .builtin .append, args := #[s, x], argTypes := #[55, 55] })
    (w0 : World) (v : Value) (n : Nat) (xs : List Value) (hs : a.eval s = v) (hown : w.ownsRow w0.heap.size 96 11 v n xs) (hb : Below w0.heap.size w0 w)
    (ad : Addr) (c : Nat) (C : Array Value) (hx : a.eval x = .slice (some ad) 1 c) (hR : RdR w (some ad) 1 11 (fun _ => C)) (hC : Recs 11 (fun _ => C)) (hbd : (n + 1) * 32 ≤ 140737488355328)
    (h : ∀ v' w', w'.ownsRow w0.heap.size 96 11 v' (n + 1) (xs ++ C.toList) → Below w0.heap.size w0 w' → w.heap.size ≤ w'.heap.size → S w' ∧ wpAnyH Try.prog md ops Q S fuel (listed.setIfInBounds i true) (a.put d v') w') :
    wpAnyH Try.prog md ops Q S (fuel + 1) listed a w := by
  obtain ⟨i0, hi, hz0, hz1, hz2⟩ := info_parts infoA_N
  have hc1 : cellsR (fun _ => C) 1 = C.toList := by simp [cellsR]
  obtain ⟨v', w', hr', h2, h3, h4, h5⟩ := run_append_own_at (P := Try.prog) w w0.heap.size 55 oi.type 96 i0 _ 11 32 Try.underlying55 hi hz0 hz1 hz2 rfl (by decide) v n xs hown ad 1 c (cellsR (fun _ => C) 1) (cellsR_len hC 1) (recs_news hC (by decide) hR) (cellsR_one hC 1) (by unfold maxLen; omega) hbd hb.size
  rw [hc1] at h2
  obtain ⟨h7, h8⟩ := h v' w' h2 (hb.grown h3 hb.size (fun k e => (hown.lt k e).1)) h3.size
  refine takeV d hi' hd hr hw ?_ h7 h8
  unfold execOp
  simp only [ho, resolve, invoke, builtin, Sem.run_bind, Sem.run_pure, Result.andThen_ok, List.map_toArray, List.map_cons, List.map_nil, hs, hx, hr']
end Go.Proofs.Ytfojfdlapekjoaa
