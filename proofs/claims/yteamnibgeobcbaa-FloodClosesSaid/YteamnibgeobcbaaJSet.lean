/- IDs as numbers; sets of them as maps: made, added to, dropped from, cleared. Each theorem states its conditions. -/
import Derived.Test.YteamnibgeobcbaaBlk
import Derived.Test.YteamnibgeobcbaaRec
import Derived.Maps.RangeRun
import Derived.Maps.Keyed
import Derived.Maps.OwnSet
import Derived.DeepKeys4
namespace Go.Proofs.Yteamnibgeobcbaa
open Go.RowKit Go.MapKept
open Go.ChangeMaps (setBlock)
set_option linter.unusedVariables false

def pw : Nat → Nat
  | 0 => 72057594037927936
  | 1 => 281474976710656
  | 2 => 1099511627776
  | 3 => 4294967296
  | 4 => 16777216
  | 5 => 65536
  | 6 => 256
  | _ => 1
def dg (n i : Nat) : Int := ((n / pw i % 256 : Nat) : Int)
def idC (n : Nat) : Array Value := #[.int .u8 (dg n 0), .int .u8 (dg n 1), .int .u8 (dg n 2), .int .u8 (dg n 3), .int .u8 (dg n 4), .int .u8 (dg n 5), .int .u8 (dg n 6), .int .u8 (dg n 7)]
def IdOk (n : Nat) : Prop := n < 18446744073709551616
theorem dg_bd (n i : Nat) : 0 ≤ dg n i ∧ dg n i ≤ 255 := by unfold dg; omega
theorem idC_inj {m n : Nat} (hm : IdOk m) (hn : IdOk n) (h : idC m = idC n) : m = n := by
  simp only [idC, dg, pw, Array.mk.injEq, List.cons.injEq, Value.int.injEq, true_and, and_true] at h
  unfold IdOk at hm hn
  omega
theorem id_of (z : Nat → Int) (hz : ∀ i, 0 ≤ z i ∧ z i ≤ 255) : ∃ n, IdOk n ∧ ∀ i, i < 8 → dg n i = z i := by
  obtain ⟨f, hf⟩ : ∃ f : Nat → Nat, ∀ i, z i = (f i : Int) ∧ f i ≤ 255 := ⟨fun i => (z i).toNat, fun i => by have := hz i; show z i = ((z i).toNat : Int) ∧ (z i).toNat ≤ 255; omega⟩
  have a0 := hf 0; have a1 := hf 1; have a2 := hf 2; have a3 := hf 3; have a4 := hf 4; have a5 := hf 5; have a6 := hf 6; have a7 := hf 7
  refine ⟨f 0 * 72057594037927936 + f 1 * 281474976710656 + f 2 * 1099511627776 + f 3 * 4294967296 + f 4 * 16777216 + f 5 * 65536 + f 6 * 256 + f 7, ?_, fun i hi => ?_⟩
  · unfold IdOk; omega
  · rcases (by omega : i = 0 ∨ i = 1 ∨ i = 2 ∨ i = 3 ∨ i = 4 ∨ i = 5 ∨ i = 6 ∨ i = 7) with rfl | rfl | rfl | rfl | rfl | rfl | rfl | rfl <;> simp only [dg, pw] <;> omega
theorem idC_one (n : Nat) : (idC n).all (·.oneCell') = true := by kernel_rfl
theorem idC_ones (n : Nat) : ∀ u ∈ (idC n).toList, u.oneCell' = true := by
  intro u hu
  simp only [idC, List.mem_cons, List.not_mem_nil, or_false] at hu
  rcases hu with rfl | rfl | rfl | rfl | rfl | rfl | rfl | rfl <;> rfl
theorem idC_size (n : Nat) : (idC n).size = 8 := rfl
theorem info_id : (Try.prog.info? 28).map (·.size) = some 8 := by kernel_rfl
theorem zero_id : (Try.prog.info? 28).map (·.zero) = some (some (.agg (idC 0))) := by kernel_rfl

theorem laidOut : laidOutB Try.prog = true := by kernel_rfl
theorem idLaw : WideMaps.KeyLaw Try.prog 28 := deep_law_laid laidOut (m := 4) (by omega) (of_decide_eq_true (by kernel_rfl)) (by kernel_rfl) (by rw [Try.underlying28])
theorem idKeyed : Maps.Keyed Try.prog 28 := Maps.Keyed.of_law idLaw
theorem wf_dg (n i : Nat) : (Lit.int .u8 (dg n i)).wf = true := by
  have := dg_bd n i
  simp [Lit.wf, IntKind.min, IntKind.max, IntKind.bits, IntKind.signed]
  omega
theorem lits_u8 (m : Nat) (a : Int) (ha : (Lit.int .u8 a).wf = true) : Try.prog.keyLits (m + 1) 5 [.int .u8 a] = some [.int .u8 a] := by
  simp only [Program.keyLits, Try.underlying5, ha, and_self, if_true]
theorem cells_u8 : Try.prog.cellsOf 5 = 1 := by kernel_rfl
theorem cells_sys : Try.prog.cellsOf 24 = 6 := by kernel_rfl
theorem cells_node : Try.prog.cellsOf 26 = 7 := by kernel_rfl
theorem cells_id : Try.prog.cellsOf 28 = 8 := by kernel_rfl
theorem lits_sys (m : Nat) (a0 a1 a2 a3 a4 a5 : Int) (h0 : (Lit.int .u8 a0).wf = true) (h1 : (Lit.int .u8 a1).wf = true) (h2 : (Lit.int .u8 a2).wf = true) (h3 : (Lit.int .u8 a3).wf = true) (h4 : (Lit.int .u8 a4).wf = true) (h5 : (Lit.int .u8 a5).wf = true) :
    Try.prog.keyLits (m + 2) 24 [.int .u8 a0, .int .u8 a1, .int .u8 a2, .int .u8 a3, .int .u8 a4, .int .u8 a5] = some [.int .u8 a0, .int .u8 a1, .int .u8 a2, .int .u8 a3, .int .u8 a4, .int .u8 a5] := by
  unfold Program.keyLits
  simp only [Try.underlying24, cells_sys, cells_u8]
  simp [List.range_succ, lits_u8, h0, h1, h2, h3, h4, h5]
theorem lits_node (m : Nat) (a0 a1 a2 a3 a4 a5 a6 : Int) (h0 : (Lit.int .u8 a0).wf = true) (h1 : (Lit.int .u8 a1).wf = true) (h2 : (Lit.int .u8 a2).wf = true) (h3 : (Lit.int .u8 a3).wf = true) (h4 : (Lit.int .u8 a4).wf = true) (h5 : (Lit.int .u8 a5).wf = true) (h6 : (Lit.int .u8 a6).wf = true) :
    Try.prog.keyLits (m + 3) 26 [.int .u8 a0, .int .u8 a1, .int .u8 a2, .int .u8 a3, .int .u8 a4, .int .u8 a5, .int .u8 a6] = some [.int .u8 a0, .int .u8 a1, .int .u8 a2, .int .u8 a3, .int .u8 a4, .int .u8 a5, .int .u8 a6] := by
  unfold Program.keyLits
  simp only [Try.underlying26, cells_node]
  simp [cells_sys, cells_u8, lits_u8, lits_sys, h0, h1, h2, h3, h4, h5, h6]
theorem lits_id (m : Nat) (a0 a1 a2 a3 a4 a5 a6 a7 : Int) (h0 : (Lit.int .u8 a0).wf = true) (h1 : (Lit.int .u8 a1).wf = true) (h2 : (Lit.int .u8 a2).wf = true) (h3 : (Lit.int .u8 a3).wf = true) (h4 : (Lit.int .u8 a4).wf = true) (h5 : (Lit.int .u8 a5).wf = true) (h6 : (Lit.int .u8 a6).wf = true) (h7 : (Lit.int .u8 a7).wf = true) :
    Try.prog.keyLits (m + 4) 28 [.int .u8 a0, .int .u8 a1, .int .u8 a2, .int .u8 a3, .int .u8 a4, .int .u8 a5, .int .u8 a6, .int .u8 a7] = some [.int .u8 a0, .int .u8 a1, .int .u8 a2, .int .u8 a3, .int .u8 a4, .int .u8 a5, .int .u8 a6, .int .u8 a7] := by
  unfold Program.keyLits
  simp only [Try.underlying28, cells_id]
  simp [cells_node, cells_u8, lits_u8, lits_node, h0, h1, h2, h3, h4, h5, h6, h7]
theorem key_id : Try.prog.keyType 28 = true := by kernel_rfl
theorem id_key (n : Nat) : ∃ l, keyOf Try.prog 28 (.agg (idC n)) = some l := by
  obtain ⟨m, hm⟩ : ∃ m, Try.prog.types.size + 1 = m + 4 := ⟨Try.prog.types.size - 3, by have : 4 ≤ Try.prog.types.size := of_decide_eq_true (by kernel_rfl); omega⟩
  have hf : (Value.agg (idC n)).formed Try.prog 28 = true := by simp [Value.formed, Try.underlying28, cells_id, idC]
  have hl := lits_id m _ _ _ _ _ _ _ _ (wf_dg n 0) (wf_dg n 1) (wf_dg n 2) (wf_dg n 3) (wf_dg n 4) (wf_dg n 5) (wf_dg n 6) (wf_dg n 7)
  unfold keyOf
  simp only [Try.underlying28, key_id, hf, Bool.and_self, if_true, hm]
  exact ⟨_, by rw [show (Value.agg (idC n)).cells.toList = [.int .u8 (dg n 0), .int .u8 (dg n 1), .int .u8 (dg n 2), .int .u8 (dg n 3), .int .u8 (dg n 4), .int .u8 (dg n 5), .int .u8 (dg n 6), .int .u8 (dg n 7)] from rfl, hl]; rfl⟩

/-- block b is a set of IDs: those of S; at most k -/
def SetAt (w : World) (b : Nat) (S : Nat → Bool) (k : Nat) : Prop :=
  ∃ es clock, w.heap[b]? = some (.map es clock) ∧ Stamped es clock ∧ es.size ≤ k ∧ (∀ e ∈ es.toList, ∃ n, IdOk n ∧ e.key = .agg (idC n) ∧ e.val = .agg #[] ∧ S n = true) ∧ (∀ n, S n = true → IdOk n ∧ ∃ e ∈ es.toList, e.key = .agg (idC n))
/-- nothing but the map in block b has turned -/
def Turn (w w' : World) (b : Nat) : Prop := ∃ es clock es' clock', w.heap[b]? = some (.map es clock) ∧ w' = setBlock w b (.map es' clock')
section
variable {w w' : World} {b k : Nat} {S : Nat → Bool}
theorem SetAt.lt (h : SetAt w b S k) : b < w.heap.size := by obtain ⟨_, _, h, _⟩ := h; exact (Array.getElem?_eq_some_iff.1 h).1
theorem SetAt.mono (h : SetAt w b S k) {k' : Nat} (hk : k ≤ k') : SetAt w b S k' := by
  obtain ⟨es, c, h1, h2, h3, h4⟩ := h
  exact ⟨es, c, h1, h2, by omega, h4⟩
theorem SetAt.at (h : SetAt w b S k) (h1 : w'.heap[b]? = w.heap[b]?) : SetAt w' b S k := by
  obtain ⟨es, c, h0, r⟩ := h
  exact ⟨es, c, h1.trans h0, r⟩
theorem SetAt.congr (h : SetAt w b S k) {S' : Nat → Bool} (e : ∀ n, S n = S' n) : SetAt w b S' k := by rw [← (funext e : S = S')]; exact h
theorem SetAt.ok (h : SetAt w b S k) {n : Nat} (hn : S n = true) : IdOk n := by obtain ⟨_, _, _, _, _, _, r⟩ := h; exact (r n hn).1
theorem SetAt.new (w : World) : SetAt (w.alloc (.map #[] 0)) w.heap.size (fun _ => false) 0 := ⟨#[], 0, (heap_alloc w _).1, stamped_empty 0, Nat.le_refl _, by simp, by simp⟩
theorem Turn.block (h : Turn w w' b) {i : Nat} (hi : i ≠ b) : w'.heap[i]? = w.heap[i]? := by
  obtain ⟨_, _, _, _, _, rfl⟩ := h
  exact ChangeMaps.heap_setBlock_other (by assumption) _ hi
theorem Turn.size (h : Turn w w' b) : w'.heap.size = w.heap.size := by obtain ⟨_, _, _, _, _, rfl⟩ := h; simp [setBlock]
theorem Turn.below {B : Nat} (h : Turn w w' b) (hB : B ≤ b) (hs : B ≤ w.heap.size) : Below B w w' := by
  have hg : w.grownBy w' (some b) := World.mapTurned.grown h
  exact (Below.refl B w).grown hg hs (fun k e => by cases e; exact hB)
theorem keys_of {es : Array MapEntry} (h : ∀ e ∈ es.toList, ∃ n, IdOk n ∧ e.key = .agg (idC n) ∧ e.val = .agg #[] ∧ S n = true) : ∀ e ∈ es.toList, ∃ l, keyOf Try.prog 28 e.key = some l := by
  intro e he
  obtain ⟨n, _, hk, _⟩ := h e he
  rw [hk]; exact id_key n
theorem set_add (h : SetAt w b S k) {n : Nat} (hn : IdOk n) : ∃ w', (Instr.mapUpdate 62 (.map (some b)) (.agg (idC n)) (.agg #[])).run Try.prog w = .ok () w' ∧ SetAt w' b (fun y => S y || y == n) (k + 1) ∧ Turn w w' b := by
  obtain ⟨es, clock, hb, hst, hsz, h1, h2⟩ := h
  obtain ⟨l, hl⟩ := id_key n
  rcases idKeyed.find w hl es.toList (keys_of h1) with ⟨f1, f2⟩ | ⟨j, e0, f1, f2, f3⟩
  · refine ⟨setBlock w b (.map (es.push ⟨.agg (idC n), .agg #[], clock⟩) (clock + 1)), ?_, ⟨_, _, ChangeMaps.heap_setBlock_same hb _, stamped_push hst f2, by simp; omega, ?_, ?_⟩, ⟨_, _, _, _, hb, rfl⟩⟩
    · simp [Instr.mapUpdate, run_underlying Try.underlying62, MapKept.run_getObj_map hb, idKeyed.check w false hl, f1, MapKept.run_setObj_map _ hb, Result.andThen, setBlock]
    · intro e he
      simp only [Array.toList_push, List.mem_append, List.mem_singleton] at he
      rcases he with he | rfl
      · obtain ⟨m, m1, m2, m3, m4⟩ := h1 e he
        exact ⟨m, m1, m2, m3, by simp [m4]⟩
      · exact ⟨n, hn, rfl, rfl, by simp⟩
    · intro y hy
      simp only [Bool.or_eq_true, beq_iff_eq] at hy
      by_cases e : y = n
      · subst e
        exact ⟨hn, ⟨.agg (idC y), .agg #[], clock⟩, by simp, rfl⟩
      · obtain ⟨a, x, hx, hk⟩ := h2 y (hy.resolve_right e)
        exact ⟨a, x, by simp [Array.toList_push, hx], hk⟩
  · have hm0 : e0 ∈ es.toList := List.mem_of_getElem? f2
    obtain ⟨m, m1, m2, m3, m4⟩ := h1 e0 hm0
    have hmn : m = n := idC_inj m1 hn ((Value.agg.inj (f3.symm.trans m2)).symm)
    subst hmn
    have hj : es[j]? = some e0 := by simpa using f2
    have hsame : es.modify j (fun e' => { e' with key := .agg (idC m), val := .agg #[] }) = es := by
      apply Array.toList_inj.1
      rw [Array.toList_modify, ChangeMaps.modify_eq_set _ _ _ _ f2]
      have : ({ e0 with key := .agg (idC m), val := .agg #[] } : MapEntry) = e0 := by cases e0; simp at m2 m3; simp [m2, m3]
      rw [this]
      obtain ⟨hlt, he⟩ := List.getElem?_eq_some_iff.1 f2
      rw [← he, List.set_getElem_self]
    refine ⟨setBlock w b (.map es clock), ?_, ⟨es, clock, ChangeMaps.heap_setBlock_same hb _, hst, by omega, ?_, ?_⟩, ⟨_, _, _, _, hb, rfl⟩⟩
    · simp [Instr.mapUpdate, run_underlying Try.underlying62, MapKept.run_getObj_map hb, idKeyed.check w false hl, f1, hj, f3, idKeyed.stays w hl, MapKept.run_setObj_map _ hb, Result.andThen, setBlock, hsame]
    · intro e he
      obtain ⟨y, y1, y2, y3, y4⟩ := h1 e he
      exact ⟨y, y1, y2, y3, by simp [y4]⟩
    · intro y hy
      simp only [Bool.or_eq_true, beq_iff_eq] at hy
      rcases hy with hy | rfl
      · exact h2 y hy
      · exact h2 y m4
theorem set_drop (h : SetAt w b S k) {n : Nat} (hn : IdOk n) (ty : TypeId) : ∃ w', (Builtin.delete_ #[62, 28] ty #[.map (some b), .agg (idC n)]).run Try.prog w = .ok (.tuple #[]) w' ∧ SetAt w' b (fun y => S y && !(y == n)) k ∧ Turn w w' b := by
  obtain ⟨es, clock, hb, hst, hsz, h1, h2⟩ := h
  obtain ⟨l, hl⟩ := id_key n
  rcases idKeyed.find w hl es.toList (keys_of h1) with ⟨f1, f2⟩ | ⟨j, e0, f1, f2, f3⟩
  · refine ⟨setBlock w b (.map es clock), ?_, ⟨es, clock, ChangeMaps.heap_setBlock_same hb _, hst, hsz, ?_, ?_⟩, ⟨_, _, _, _, hb, rfl⟩⟩
    · simp [Builtin.delete_, run_underlying Try.underlying62, MapKept.run_getObj_map hb, idKeyed.check w _ hl, f1, MapKept.run_setObj_map _ hb, Result.andThen, setBlock]
    · intro e he
      obtain ⟨y, y1, y2, y3, y4⟩ := h1 e he
      refine ⟨y, y1, y2, y3, ?_⟩
      simp only [y4, Bool.true_and, Bool.not_eq_true', beq_eq_false_iff_ne]
      rintro rfl
      exact f2 e he y2
    · intro y hy
      simp only [Bool.and_eq_true] at hy
      exact h2 y hy.1
  · have hm0 : e0 ∈ es.toList := List.mem_of_getElem? f2
    have hjl : j < es.toList.length := (List.getElem?_eq_some_iff.1 f2).1
    have hjs : j < es.size := by simpa using hjl
    have hsub : (es.eraseIdxIfInBounds j).toList = es.toList.eraseIdx j := by
      unfold Array.eraseIdxIfInBounds
      rw [dif_pos hjs]
      simp
    have hap : es.toList.Pairwise (fun x y => x.key ≠ y.key) := ((stamped_iff es clock).1 hst).2.2
    refine ⟨setBlock w b (.map (es.eraseIdxIfInBounds j) clock), ?_, ⟨_, clock, ChangeMaps.heap_setBlock_same hb _, stamped_erase hst j, Nat.le_trans (MapFrom.size_erase es j) hsz, ?_, ?_⟩, ⟨_, _, _, _, hb, rfl⟩⟩
    · simp [Builtin.delete_, run_underlying Try.underlying62, MapKept.run_getObj_map hb, idKeyed.check w _ hl, f1, MapKept.run_setObj_map _ hb, Result.andThen, setBlock]
    · intro e he
      rw [hsub] at he
      obtain ⟨i, hne, hi⟩ := List.mem_eraseIdx_iff_getElem?.1 he
      obtain ⟨y, y1, y2, y3, y4⟩ := h1 e (List.mem_of_getElem? hi)
      refine ⟨y, y1, y2, y3, ?_⟩
      simp only [y4, Bool.true_and, Bool.not_eq_true', beq_eq_false_iff_ne]
      rintro rfl
      obtain ⟨hil, hie⟩ := List.getElem?_eq_some_iff.1 hi
      obtain ⟨hjl', hje⟩ := List.getElem?_eq_some_iff.1 f2
      rcases Nat.lt_or_gt_of_ne hne with hlt | hlt
      · exact List.pairwise_iff_getElem.1 hap i j hil hjl hlt (by rw [hie, hje, y2, f3])
      · exact List.pairwise_iff_getElem.1 hap j i hjl hil hlt (by rw [hie, hje, y2, f3])
    · intro y hy
      simp only [Bool.and_eq_true, Bool.not_eq_true', beq_eq_false_iff_ne] at hy
      obtain ⟨a, x, hx, hk⟩ := h2 y hy.1
      refine ⟨a, x, ?_, hk⟩
      rw [hsub]
      obtain ⟨i, hi⟩ := List.getElem?_of_mem hx
      refine List.mem_eraseIdx_iff_getElem?.2 ⟨i, fun e => hy.2 ?_, hi⟩
      subst e
      rw [f2] at hi
      cases hi
      rw [f3] at hk
      exact (idC_inj hn a (Value.agg.inj hk)).symm
theorem set_clear (h : SetAt w b S k) (ty : TypeId) : ∃ w', (Builtin.clear_ #[62] ty #[.map (some b)]).run Try.prog w = .ok (.tuple #[]) w' ∧ SetAt w' b (fun _ => false) k ∧ Turn w w' b := by
  obtain ⟨es, clock, hb, hst, hsz, h1, h2⟩ := h
  refine ⟨setBlock w b (.map #[] clock), ?_, ⟨#[], clock, ChangeMaps.heap_setBlock_same hb _, stamped_empty _, Nat.zero_le _, by simp, by simp⟩, ⟨_, _, _, _, hb, rfl⟩⟩
  simp [Builtin.clear_, run_underlying Try.underlying62, MapKept.run_getObj_map hb, MapKept.run_setObj_map _ hb, Result.andThen, setBlock]
end
end Go.Proofs.Yteamnibgeobcbaa
