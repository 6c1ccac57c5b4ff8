/- Texts of this claim put together; each theorem states its conditions. -/
import Derived.Shelf.SlSortCmp.WholeK
import Derived.Ground.SlsfProg
import Derived.Ground.NamesProg
import Derived.Test.YtkiaijmhoikdiaaProg
import Derived.Test.YtkiaijmhoikdiaaGStoreRange3
import Derived.Maps.RangeWalk
import Derived.Deep.DeepCutAuto
import Derived.Test.YtkiaijmhoikdiaaGStoreRange2
import Derived.Test.YtkiaijmhoikdiaaGStoreRange1
import Derived.Laws.AppendOwnNone
/-
  DERIVED: THE SHELF's CONTRACTS AT THIS DUMP, IN PLAIN WORDS (tools/lay-plain.mjs out of 'TryShelf.lean', which tools/lay-shelf.mjs wrote): THE SAME DECLARATIONS UNDER THE SAME NAMES: 'import', 'namespace', 'open', 'def', 'theorem' AND NOTHING ELSE: no command of the shelf's: FOR A HAND-IN. Each laying: the table of numbers ('.._ren') and one theorem, a field a fact of the dump's own or the kernel's comparison; each contract: ONE APPLICATION.
-/
namespace Go.Proofs
open Go.Shelf
def Try.sortE_ren : Go.Shelf.Ren := ⟨fun | 6 => 44 | 15 => 69 | 14 => 68 | 28 => 93 | 29 => 94 | 20 => 85 | 21 => 86 | 22 => 87 | 23 => 88 | 24 => 89 | 25 => 90 | 26 => 91 | 27 => 92 | 46 => 112 | 47 => 113 | 48 => 114 | 49 => 115 | 50 => 116 | 57 => 126 | n => n, fun | 22 => 57 | 24 => 32 | 25 => 90 | 3 => 3 | 39 => 103 | 0 => 0 | 53 => 29 | 55 => 115 | 4 => 4 | 46 => 149 | 45 => 148 | 50 => 72 | 5 => 5 | 9 => 9 | 66 => 172 | 70 => 176 | 76 => 185 | 77 => 50 | n => n, fun | n => n⟩
theorem Try.sortE : Go.Proofs.SlLaysF0.n6 Try.prog Try.sortE_ren := {
  mixed := by kernel_rfl
  f6 := ⟨Try.f44.name, by decide, Try.func44.trans (congrArg some (by kernel_rfl))⟩
  f14 := ⟨Try.f68.name, by decide, Try.func68.trans (congrArg some (by kernel_rfl))⟩
  f15 := Try.func69.trans (congrArg some (by kernel_rfl))
  f20 := ⟨Try.f85.name, by decide, Try.func85.trans (congrArg some (by kernel_rfl))⟩
  f21 := ⟨Try.f86.name, by decide, Try.func86.trans (congrArg some (by kernel_rfl))⟩
  f22 := ⟨Try.f87.name, by decide, Try.func87.trans (congrArg some (by kernel_rfl))⟩
  f23 := ⟨Try.f88.name, by decide, Try.func88.trans (congrArg some (by kernel_rfl))⟩
  f24 := ⟨Try.f89.name, by decide, Try.func89.trans (congrArg some (by kernel_rfl))⟩
  f25 := ⟨Try.f90.name, by decide, Try.func90.trans (congrArg some (by kernel_rfl))⟩
  f26 := ⟨Try.f91.name, by decide, Try.func91.trans (congrArg some (by kernel_rfl))⟩
  f27 := ⟨Try.f92.name, by decide, Try.func92.trans (congrArg some (by kernel_rfl))⟩
  f28 := Try.func93.trans (congrArg some (by kernel_rfl))
  f29 := Try.func94.trans (congrArg some (by kernel_rfl))
  f46 := ⟨Try.f112.name, by decide, Try.func112.trans (congrArg some (by kernel_rfl))⟩
  f47 := Try.func113.trans (congrArg some (by kernel_rfl))
  f48 := Try.func114.trans (congrArg some (by kernel_rfl))
  f49 := ⟨Try.f115.name, by decide, Try.func115.trans (congrArg some (by kernel_rfl))⟩
  f50 := ⟨Try.f116.name, by decide, Try.func116.trans (congrArg some (by kernel_rfl))⟩
  f57 := ⟨Try.f126.name, by decide, Try.func126.trans (congrArg some (by kernel_rfl))⟩
  t0 := Try.underlying0
  a0 := Try.isAgg0
  z0 := Try.sizeOf0
  v0 := Try.zeroValue0
  t3 := Try.underlying3
  a3 := Try.isAgg3
  z3 := Try.sizeOf3
  v3 := Try.zeroValue3
  t4 := Try.underlying4
  a4 := Try.isAgg4
  z4 := Try.sizeOf4
  v4 := Try.zeroValue4
  t5 := Try.underlying5
  a5 := Try.isAgg5
  z5 := Try.sizeOf5
  v5 := Try.zeroValue5
  t9 := Try.underlying9
  a9 := Try.isAgg9
  z9 := Try.sizeOf9
  v9 := Try.zeroValue9
  t22 := Try.underlying57
  a22 := Try.isAgg57
  z22 := Try.sizeOf57
  v22 := Try.zeroValue57
  t25 := Try.underlying90
  a25 := Try.isAgg90
  z25 := Try.sizeOf90
  v25 := Try.zeroValue90
  t39 := Try.underlying103
  a39 := Try.isAgg103
  z39 := Try.sizeOf103
  v39 := Try.zeroValue103
  t45 := Try.underlying148
  a45 := Try.isAgg148
  z45 := Try.sizeOf148
  v45 := Try.zeroValue148
  t46 := Try.underlying149
  a46 := Try.isAgg149
  z46 := Try.sizeOf149
  v46 := Try.zeroValue149
  t50 := Try.underlying72
  a50 := Try.isAgg72
  z50 := Try.sizeOf72
  v50 := Try.zeroValue72
  t53 := Try.underlying29
  a53 := Try.isAgg29
  z53 := Try.sizeOf29
  v53 := Try.zeroValue29
  t55 := Try.underlying115
  a55 := Try.isAgg115
  z55 := Try.sizeOf115
  v55 := Try.zeroValue115
  t66 := Try.underlying172
  a66 := Try.isAgg172
  z66 := Try.sizeOf172
  v66 := Try.zeroValue172
  t70 := Try.underlying176
  a70 := Try.isAgg176
  z70 := Try.sizeOf176
  v70 := Try.zeroValue176
  t76 := Try.underlying185
  a76 := Try.isAgg185
  z76 := Try.sizeOf185
  v76 := Try.zeroValue185
  t77 := Try.underlying50
  a77 := Try.isAgg50
  z77 := Try.sizeOf50
  v77 := Try.zeroValue50 }
end Go.Proofs

/- The library's sort at entries, as List calls it. Each theorem states its conditions. -/
namespace Go.Proofs.Ytkiaijmhoikdiaa
open Go.RowKit Go.Sort
set_option linter.unusedVariables false

theorem agg_en (w : World) : (isAgg 32).run Try.prog w = .ok true w := by kernel_rfl
theorem sz_en (w : World) : (Go.sizeOf 32).run Try.prog w = .ok 11 w := by kernel_rfl
theorem swo_hd : SWO (ltOf cfH) := by
  have e : ∀ x y, ltOf cfH x y = decide (idH x < idH y) := fun x y => cf_lt x y
  refine ⟨fun x => ?_, fun x y z h1 h2 => ?_, fun x y z h1 h2 => ?_⟩
  · rw [e]; simp
  · rw [e] at h1 h2 ⊢
    have := of_decide_eq_true h1
    have := of_decide_eq_true h2
    exact decide_eq_true (by omega)
  · rw [e] at h1 h2 ⊢
    have := of_decide_eq_false h1
    have := of_decide_eq_false h2
    exact decide_eq_false (by omega)
theorem asc_of {T : List HdI} {n : Nat} (hn : T.length = n) (h : SortedIn (ltOf cfH) 0 n T.toArray) : Asc T := by
  intro i j hij hj
  have h9 := h i j (Nat.zero_le _) hij (by omega)
  have e : ∀ x y, ltOf cfH x y = decide (idH x < idH y) := fun x y => cf_lt x y
  rw [e] at h9
  have h8 := of_decide_eq_false h9
  have g : ∀ k, k < T.length → T.toArray[k]! = T[k]?.getD default := fun k hk => by
    rw [getElem!_pos _ k (by simpa using hk), List.getElem?_eq_getElem hk]; simp
  rw [g i (by omega), g j hj] at h8
  omega
theorem sort_row (g cap : Nat) (S : List HdI) (w : World) (cur : Array Value) (hb : w.heap[g]? = some (.cells cur 32 (0, 0))) (ht : cur.toList.take (S.length * 11) = cellsR (enB S) S.length) (hn : S.length < 4611686018427387904) (u : Unit) :
    Calls Try.prog 44 #[.slice (some ⟨g, 0, none⟩) S.length cap, .func (.func 45) #[] #[]] w fun e w' => e = .returned (.tuple #[]) ∧ ∃ T n os, T.Perm S ∧ Asc T ∧ w' = grow (putRowK enc11 11 (Sort.ahead w n) g 0 T.toArray) os := by
  have eg : ∀ args w, (callFunc 45 args).run Try.prog w = .ok (.enter 45 args) w := enters_of Try.func45 (by kernel_rfl) rfl
  have hcon := AnyQ.slices_SortFunc Try.sortE 11 agg_en sz_en enc11 (fun _ => rfl) (fun x v hv => enC_ones _ v hv) cfH swo_hd 45 #[] g 0 cap S.toArray w eg (fun m os dk _ x y => lst1_any x.1 y.1 x.2 y.2 _) (holds_own hb ht) (Array.getElem?_eq_some_iff.1 hb).1 (by simpa using hn)
  have hc2 : S.toArray.size = S.length := by simp
  rw [hc2] at hcon
  change Calls Try.prog 44 #[.slice (some ⟨g, 0, none⟩) S.length cap, .func (.func 45) #[] #[]] w _ at hcon
  refine hcon.mono ?_
  rintro e w' ⟨he, d', n, os, h1, h2, h3⟩
  obtain ⟨T⟩ := d'
  have hl : T.length = S.length := by have := h1.1; simpa using this
  exact ⟨he, T, n, os, perm_all (by rw [hc2]; exact h1), asc_of hl h2, h3⟩
theorem ins_none (fv : Value) (w : World) : Calls Try.prog 85 #[.slice none 0 0, .int .i64 0, .int .i64 0, fv] w fun e w' => e = .returned (.tuple #[]) ∧ w' = w := by
  go_enter Try.func85, Try.ntmps85
  go_wp2
  refine wp_loop_rounds 1 ?_
  rw [rounds_succ]
  go_wp2
  go_end0
  exact ⟨rfl, rfl⟩
set_option maxHeartbeats 8000000 in
theorem pdq_none (lim : Int) (fv : Value) (w : World) : Calls Try.prog 68 #[.slice none 0 0, .int .i64 0, .int .i64 0, .int .i64 lim, fv] w fun e w' => e = .returned (.tuple #[]) ∧ w' = w := by
  have hi := fun W => ins_none fv W
  go_enter Try.func68, Try.ntmps68
  go_wp2
  refine wp_loop_rounds 1 ?_
  rw [rounds_succ]
  go_wp2_with (go_at_call 85; refine (hi _).mono ?_; rintro e w' ⟨rfl, rfl⟩)
  (try simp only [Exit.inBlock, Exit.then]); refine bodyPost_ret (results_none rfl _ _ _) rfl ?_
  exact ⟨rfl, rfl⟩
set_option maxHeartbeats 8000000 in
theorem sort_none (w : World) : Calls Try.prog 44 #[.slice none 0 0, .func (.func 45) #[] #[]] w fun e w' => e = .returned (.tuple #[]) ∧ w' = w := by
  have hp := fun lim fv W => pdq_none lim fv W
  go_enter Try.func44, Try.ntmps44
  go_wp2_with (first | (go_at_call 68; refine (hp _ _ _).mono ?_; rintro e w' ⟨rfl, rfl⟩) | go_in)
  go_end0
  exact ⟨rfl, rfl⟩
end Go.Proofs.Ytkiaijmhoikdiaa

/- A range over a map of IDs: the step, what is left. Each theorem states its conditions. -/
namespace Go.Proofs.Ytkiaijmhoikdiaa
open Go.RowKit Go.MapKept
open Go.ChangeMaps (setBlock)
set_option linter.unusedVariables false

/-- a range over the map in block b is under way: its iterator lies in r; who is left; how many -/
def RngAt (w : World) (b : Nat) (M : Nat → Option Nat) (k r : Nat) (left : Nat → Bool) (cnt : Nat) : Prop :=
  ∃ es clock since seen c0, w.heap[b]? = some (.map es clock) ∧ Stamped es clock ∧ es.size = k ∧
    (∀ e ∈ es.toList, ∃ n g, IdOk n ∧ e.key = .agg (iC n) ∧ e.val = ptrV (some g) ∧ M n = some g ∧ left n = !seen.contains e.born) ∧ (∀ n g, M n = some g → IdOk n ∧ ∃ e ∈ es.toList, e.key = .agg (iC n) ∧ e.val = ptrV (some g)) ∧
    w.heap[r]? = some (.mapIter (some b) since seen c0) ∧ (∀ x ∈ es.toList, x.born < since) ∧ (leftOf es seen).size = cnt ∧ since ≤ c0 ∧ since ≤ clock
def rngLeft (w : World) (b r : Nat) : Nat :=
  match w.heap[b]?, w.heap[r]? with
  | some (.map es _), some (.mapIter _ _ seen _) => (leftOf es seen).size
  | _, _ => 0
section
variable {w w' : World} {b k r cnt : Nat} {M : Nat → Option Nat} {left : Nat → Bool}
theorem RngAt.left_eq (h : RngAt w b M k r left cnt) : rngLeft w b r = cnt := by
  obtain ⟨es, clock, since, seen, c0, hb, _, _, _, _, hr, _, hc, _⟩ := h
  simp only [rngLeft, hb, hr]
  exact hc
theorem RngAt.map (h : RngAt w b M k r left cnt) : MapAt w b M k := by
  obtain ⟨es, clock, since, seen, c0, hb, h1, h2, h3, h4, _⟩ := h
  exact ⟨es, clock, hb, h1, h2, fun e he => by obtain ⟨n, g, a1, a2, a3, a4, _⟩ := h3 e he; exact ⟨n, g, a1, a2, a3, a4⟩, h4⟩
theorem RngAt.ne (h : RngAt w b M k r left cnt) : r ≠ b := by
  obtain ⟨es, clock, since, seen, c0, hb, _, _, _, _, hr, _⟩ := h
  intro e
  rw [e, hb] at hr
  cases hr
theorem RngAt.lt (h : RngAt w b M k r left cnt) : r < w.heap.size := by
  obtain ⟨es, clock, since, seen, c0, _, _, _, _, _, hr, _⟩ := h
  exact (Array.getElem?_eq_some_iff.1 hr).1
theorem RngAt.ltb (h : RngAt w b M k r left cnt) : b < w.heap.size := h.map.lt
theorem RngAt.at (h : RngAt w b M k r left cnt) (h1 : w'.heap[b]? = w.heap[b]?) (h2 : w'.heap[r]? = w.heap[r]?) : RngAt w' b M k r left cnt := by
  obtain ⟨es, clock, since, seen, c0, hb, a1, a2, a3, a4, hr, rest⟩ := h
  exact ⟨es, clock, since, seen, c0, h1.trans hb, a1, a2, a3, a4, h2.trans hr, rest⟩
theorem RngAt.below (h : RngAt w b M k r left cnt) (hb : Below w.heap.size w w') : RngAt w' b M k r left cnt := h.at (hb.block b h.ltb) (hb.block r h.lt)
theorem RngAt.far {c : Nat} {C : Array Value} {t : TypeId} (h : RngAt w b M k r left cnt) (hs : Stored w w' c C t) (h1 : b ≠ c) (h2 : r ≠ c) : RngAt w' b M k r left cnt := h.at (hs.2.2 b h1) (hs.2.2 r h2)
theorem RngAt.none (h : RngAt w b M k r left 0) {n g : Nat} (hn : M n = some g) : left n = false := by
  obtain ⟨es, clock, since, seen, c0, hb, a1, a2, a3, a4, hr, a5, a6, _⟩ := h
  obtain ⟨hi, e, he, hk, hv⟩ := a4 n g hn
  obtain ⟨m, g', m1, m2, m3, m4, m5⟩ := a3 e he
  have : m = n := idC_inj m1 hi ((Value.agg.inj (hk.symm.trans m2)).symm)
  subst this
  rw [m5, all_seen es seen a6 e he]
  rfl
/-- the start of a range -/
theorem rng_start (h : MapAt w b M k) : ∃ w', (Instr.range 77 (.map (some b))).run Try.prog w = .ok (.pointer (some ⟨w.heap.size, 0, none⟩)) w' ∧ RngAt w' b M k w.heap.size (fun n => (M n).isSome) k ∧ Below w.heap.size w w' ∧ w.heap.size + 1 ≤ w'.heap.size := by
  have hlt := h.lt
  obtain ⟨es, clock, hb, hst, hsz, h1, h2⟩ := h
  refine ⟨_, run_range_map w 77 28 87 b es clock Try.underlying77 hb, ⟨es, clock, clock, #[], clock, ((MapKept.heap_alloc w _).2 b hlt).trans hb, hst, hsz, fun e he => ?_, h2, (MapKept.heap_alloc w _).1, ((stamped_iff es clock).1 hst).1, ?_, Nat.le_refl _, Nat.le_refl _⟩, (Below.refl _ _).alloc (Nat.le_refl _) _, by simp⟩
  · obtain ⟨n, g, a1, a2, a3, a4⟩ := h1 e he
    exact ⟨n, g, a1, a2, a3, a4, by show (M n).isSome = _; rw [a4]; simp⟩
  · rw [← hsz]; simp [leftOf]
theorem rng_next (h : RngAt w b M k r left cnt) (ty : TypeId) :
    (cnt = 0 ∧ (Instr.next (.pointer (some ⟨r, 0, none⟩)) false ty).run Try.prog w = .ok (.tuple #[.bool false]) w) ∨
    ∃ n g w' cnt', M n = some g ∧ IdOk n ∧ left n = true ∧ (Instr.next (.pointer (some ⟨r, 0, none⟩)) false ty).run Try.prog w = .ok (.tuple #[.bool true, .agg (iC n), ptrV (some g)]) w' ∧
      RngAt w' b M k r (fun x => left x && !(x == n)) cnt' ∧ cnt' < cnt ∧ w.grownBy w' (some r) ∧ w'.heap.size = w.heap.size ∧ (Instr.entry (.pointer (some ⟨r, 0, none⟩))).run Try.prog w' = .ok (.tuple #[.agg (iC n), ptrV (some g)]) w' := by
  have hne := h.ne
  obtain ⟨es, clock, since, seen, c0, hb, hst, hsz, a3, a4, hr, hold, rfl, hsc, hsk⟩ := h
  rcases run_next_at (P := Try.prog) w ty r b since c0 seen es clock hr hb hold hsc with ⟨h0, hrun⟩ | ⟨e, he, w1, hal, hrun⟩
  · exact .inl ⟨h0, hrun⟩
  · obtain ⟨hem, hes⟩ := mem_left he
    obtain ⟨n, g, n1, n2, n3, n4, n5⟩ := a3 e hem
    have hr1 : w1.heap[r]? = some (.mapIter (some b) since seen c0) := by rcases hal with rfl | rfl <;> exact hr
    have hb1 : w1.heap[b]? = some (.map es clock) := by rcases hal with rfl | rfl <;> exact hb
    have hset := heap_set (o' := .mapIter (some b) since (seen.push e.born) clock) hr1
    have hb' : (setBlock w1 r (.mapIter (some b) since (seen.push e.born) clock)).heap[b]? = some (.map es clock) := (hset.2 b (fun e1 => hne e1.symm)).trans hb1
    rw [n2, n3] at hrun
    have hent := run_entry_at (P := Try.prog) _ r b since seen es clock e hset.1 hb' hem ((stamped_iff es clock).1 hst).2.1
    rw [n2, n3] at hent
    refine .inr ⟨n, g, _, _, n4, n1, by rw [n5, hes]; rfl, hrun, ⟨es, clock, since, seen.push e.born, clock, hb', hst, hsz, fun x hx => ?_, a4, hset.1, hold, rfl, hsk, hsk⟩, left_shrinks es seen e he, ?_, ?_, hent⟩
    · obtain ⟨m, g', m1, m2, m3, m4, m5⟩ := a3 x hx
      refine ⟨m, g', m1, m2, m3, m4, ?_⟩
      show (left m && !(m == n)) = _
      rw [m5, contains_push]
      have hap := ((stamped_iff es clock).1 hst)
      by_cases hmn : m = n
      · subst hmn
        have : x = e := entry_eq_of_key hap.2.2 hx hem (m2.trans n2.symm)
        subst this
        simp
      · have hxe : (x.born == e.born) = false := by
          cases hq : (x.born == e.born)
          · rfl
          · have := born_inj hap.2.1 hx hem (by simpa using hq)
            subst this
            exact absurd (idC_inj m1 n1 (Value.agg.inj (m2.symm.trans n2))) hmn
        simp [hmn, hxe]
    · rcases hal with rfl | rfl <;> exact ⟨rfl, rfl, rfl, by simp [setBlock], fun i _ hi => hset.2 i (fun e1 => hi (by rw [e1]))⟩
    · rcases hal with rfl | rfl <;> simp [setBlock]
end
section
variable {ops : Array Oper} {Q : Exit → Act → World → Prop} {rest : List Oper} {op : Oper} {a : Act} {w : World} {b k r cnt : Nat} {M : Nat → Option Nat} {left : Nat → Bool}
theorem wpList_rg (hgd : op.guard = none) (m : Operand) (ho : op.op = .range 77 m) (hm : a.eval m = .map (some b)) (h : MapAt w b M k) (N : Nat) (hN : w.heap.size = N)
    (hK : ∀ w', RngAt w' b M k N (fun n => (M n).isSome) k → Below w.heap.size w w' → N + 1 ≤ w'.heap.size → wpList Try.prog ops Q rest (a.put op.dst (.pointer (some ⟨N, 0, none⟩))) w') : wpList Try.prog ops Q (op :: rest) a w := by
  subst hN
  obtain ⟨w', hrun, h1, h2, h3⟩ := rng_start h
  refine wpList_plain hgd fun K' hK' => ?_
  unfold Oper.wp
  simp [execOp, ho, hm, hrun, Result.andThen]
  exact hK' _ _ (hK w' h1 h2 h3)
theorem wpList_nx (hgd : op.guard = none) (it : Operand) (ho : op.op = .next it false) (hit : a.eval it = .pointer (some ⟨r, 0, none⟩)) (h : RngAt w b M k r left cnt) (h0 : cnt = 0 → wpList Try.prog ops Q rest (a.put op.dst (.tuple #[.bool false])) w)
    (h1 : ∀ n g w' cnt', M n = some g → IdOk n → left n = true → RngAt w' b M k r (fun x => left x && !(x == n)) cnt' → cnt' < cnt → w.grownBy w' (some r) → w'.heap.size = w.heap.size → (Instr.entry (.pointer (some ⟨r, 0, none⟩))).run Try.prog w' = .ok (.tuple #[.agg (iC n), ptrV (some g)]) w' → wpList Try.prog ops Q rest (a.put op.dst (.tuple #[.bool true, .agg (iC n), ptrV (some g)])) w') : wpList Try.prog ops Q (op :: rest) a w := by
  refine wpList_plain hgd fun K' hK' => ?_
  unfold Oper.wp
  rcases rng_next h op.type with ⟨e0, hrun⟩ | ⟨n, g, w', cnt', a1, a2, a3, hrun, a4, a5, a6, a7, a8⟩
  · simp [execOp, ho, hit, hrun, Result.andThen]
    exact hK' _ _ (h0 e0)
  · simp [execOp, ho, hit, hrun, Result.andThen]
    exact hK' _ _ (h1 n g w' cnt' a1 a2 a3 a4 a5 a6 a7 a8)
theorem entry_run (o : Oper) (e : Operand → Value) (x : Operand) (ho : o.op = .entry x) (v : Value) (h0 : e x = .pointer (some ⟨r, 0, none⟩)) (h : (Instr.entry (.pointer (some ⟨r, 0, none⟩))).run Try.prog w = .ok v w) : (execOp e o).run Try.prog w = .ok (.value v) w := by
  unfold execOp
  simp [ho, h0, h, Result.andThen]
end
end Go.Proofs.Ytkiaijmhoikdiaa

/- Lists in the order of IDs: what a range of a store has. Plain facts. Each theorem states its conditions. -/
namespace Go.Proofs.Ytkiaijmhoikdiaa
open Go.RowKit Go.Sort Go.MapKept
set_option linter.unusedVariables false

/-- in the order of IDs, each once -/
def AscT (S : List HdI) : Prop := S.Pairwise (fun x y => x.1.id < y.1.id)
/-- what H holds from a to b, in order -/
def InRg (H : Nat → Option Hd) (a b : Nat) (T : List HdI) : Prop := AscT T ∧ ∀ x : HdI, x ∈ T ↔ (H x.1.id = some x.1 ∧ a ≤ x.1.id ∧ x.1.id ≤ b)
theorem ascT_ext : ∀ (S T : List HdI), AscT S → AscT T → (∀ x, x ∈ S ↔ x ∈ T) → S = T
  | [], [], _, _, _ => rfl
  | [], y :: T, _, _, h => absurd ((h y).2 (List.mem_cons_self ..)) (by simp)
  | x :: S, [], _, _, h => absurd ((h x).1 (List.mem_cons_self ..)) (by simp)
  | x :: S, y :: T, hs, ht, h => by
    obtain ⟨s1, s2⟩ := List.pairwise_cons.1 hs
    obtain ⟨t1, t2⟩ := List.pairwise_cons.1 ht
    have hxy : x = y := by
      rcases List.mem_cons.1 ((h x).1 (List.mem_cons_self ..)) with e | hx
      · exact e
      · rcases List.mem_cons.1 ((h y).2 (List.mem_cons_self ..)) with e | hy
        · exact e.symm
        · have a1 := t1 x hx
          have a2 := s1 y hy
          omega
    subst hxy
    congr 1
    refine ascT_ext S T s2 t2 fun z => ⟨fun hz => ?_, fun hz => ?_⟩
    · rcases List.mem_cons.1 ((h z).1 (List.mem_cons_of_mem _ hz)) with rfl | hz'
      · have := s1 z hz; omega
      · exact hz'
    · rcases List.mem_cons.1 ((h z).2 (List.mem_cons_of_mem _ hz)) with rfl | hz'
      · have := t1 z hz; omega
      · exact hz'
theorem ascT_of {T : List HdI} (hi : ∀ x ∈ T, ∀ y ∈ T, x.1.id = y.1.id → x = y) (hn : T.Nodup) (ha : Asc T) : AscT T := by
  unfold AscT
  rw [List.pairwise_iff_getElem]
  intro i j hi' hj hij
  have h1 := ha i j hij hj
  rw [List.getElem?_eq_getElem hi', List.getElem?_eq_getElem hj] at h1
  have h2 : T[i] ≠ T[j] := List.pairwise_iff_getElem.1 hn i j hi' hj hij
  have h3 : T[i].1.id ≠ T[j].1.id := fun e => h2 (hi _ (List.getElem_mem ..) _ (List.getElem_mem ..) e)
  simp only [Option.getD_some, idH] at h1
  omega
section
variable {H : Nat → Option Hd} {a b c d : Nat} {S T U V : List HdI}
/-- a range is what of a wider one lies in it -/
theorem inRg_filter (hs : InRg H a b S) (ht : InRg H c d T) (h1 : a ≤ c) (h2 : d ≤ b) : T = S.filter fun x => decide (c ≤ x.1.id) && decide (x.1.id ≤ d) := by
  refine ascT_ext _ _ ht.1 (List.Pairwise.filter _ hs.1) fun x => ?_
  rw [ht.2, List.mem_filter, hs.2]
  simp only [Bool.and_eq_true, decide_eq_true_eq]
  constructor
  · rintro ⟨e, g1, g2⟩; exact ⟨⟨e, by omega, by omega⟩, g1, g2⟩
  · rintro ⟨⟨e, _, _⟩, g1, g2⟩; exact ⟨e, g1, g2⟩
theorem filter_meet (p q r : HdI → Bool) (hr : ∀ x, r x = (p x && q x)) (ho : ∀ x, (p x || q x) = true) : ∀ S : List HdI, (S.filter p).length + (S.filter q).length = S.length + (S.filter r).length
  | [] => rfl
  | x :: S => by
    have ih := filter_meet p q r hr ho S
    have e1 := hr x
    have e2 := ho x
    simp only [List.filter_cons, List.length_cons]
    cases hp : p x <;> cases hq : q x <;> rw [hp, hq] at e1 e2 <;> simp only [Bool.and_false, Bool.and_true, Bool.or_false, Bool.or_true, Bool.false_eq_true] at e1 e2 <;> simp only [e1, if_true, if_false, List.length_cons, Bool.false_eq_true] <;> omega
/-- two ranges beside one another have one more than all: the one between -/
theorem inRg_both {m t : Nat} (hs : InRg H 0 m S) (ht : InRg H 0 t T) (hu : InRg H t m U) (hv : InRg H t t V) (hm : t ≤ m) : T.length + U.length = S.length + V.length := by
  rw [inRg_filter hs ht (Nat.le_refl _) hm, inRg_filter hs hu (Nat.zero_le _) (Nat.le_refl _), inRg_filter hs hv (Nat.zero_le _) hm]
  have e1 : ∀ (p q : HdI → Bool), (∀ x ∈ S, p x = q x) → S.filter p = S.filter q := fun p q h => List.filter_congr h
  rw [e1 (fun x => decide (0 ≤ x.1.id) && decide (x.1.id ≤ t)) (fun x => decide (x.1.id ≤ t)) (fun x _ => by simp), e1 (fun x => decide (t ≤ x.1.id) && decide (x.1.id ≤ m)) (fun x => decide (t ≤ x.1.id)) (fun x hx => by
    have := ((hs.2 x).1 hx).2.2
    simp [this]), e1 (fun x => decide (t ≤ x.1.id) && decide (x.1.id ≤ t)) (fun x => decide (x.1.id ≤ t) && decide (t ≤ x.1.id)) (fun x _ => Bool.and_comm ..)]
  exact filter_meet _ _ _ (fun x => rfl) (fun x => by
    by_cases h : x.1.id ≤ t
    · simp [h]
    · have : t ≤ x.1.id := by omega
      simp [this]) S
end
/-- the map's size is how many it holds -/
theorem map_count {w : World} {b k m : Nat} {M : Nat → Option Nat} {H : Nat → Option Hd} {T : List HdI} (h : MapAt w b M k) (hMH : ∀ i, M i = none ↔ H i = none) (hid : ∀ i h, H i = some h → h.id = i) (hm : ∀ n, IdOk n → n ≤ m) (ht : InRg H 0 m T) : T.length = k := by
  obtain ⟨es, clock, hb, hst, hsz, h1, h2⟩ := h
  have hap : es.toList.Pairwise (fun x y => x.key ≠ y.key) := ((stamped_iff es clock).1 hst).2.2
  have hn1 : (es.toList.map (fun e => e.key)).Nodup := List.pairwise_map.2 hap
  have hn2 : (T.map (fun x : HdI => Value.agg (iC x.1.id))).Nodup := by
    refine List.pairwise_map.2 (List.Pairwise.imp (fun {x y} hxy e => ?_) ht.1)
    have := idC_inj x.2 y.2 (Value.agg.inj e)
    omega
  have hp : (T.map (fun x : HdI => Value.agg (iC x.1.id))).Perm (es.toList.map (fun e => e.key)) := by
    refine (List.perm_ext_iff_of_nodup hn2 hn1).2 fun v => ⟨fun hv => ?_, fun hv => ?_⟩
    · obtain ⟨x, hx, rfl⟩ := List.mem_map.1 hv
      have hH := ((ht.2 x).1 hx).1
      cases hM : M x.1.id with
      | none => rw [(hMH _).1 hM] at hH; cases hH
      | some g =>
        obtain ⟨_, e, he, hk, _⟩ := h2 _ _ hM
        exact List.mem_map.2 ⟨e, he, hk⟩
    · obtain ⟨e, he, rfl⟩ := List.mem_map.1 hv
      obtain ⟨n, g, n1, n2, n3, n4⟩ := h1 e he
      cases hH : H n with
      | none => rw [(hMH n).2 hH] at n4; cases n4
      | some h =>
        have hi := hid n h hH
        exact List.mem_map.2 ⟨⟨h, by rw [hi]; exact n1⟩, (ht.2 _).2 ⟨by show H h.id = some h; rw [hi, hH], Nat.zero_le _, by show h.id ≤ m; rw [hi]; exact hm n n1⟩, by show Value.agg (iC h.id) = e.key; rw [hi, n2]⟩
  have := hp.length_eq
  simp only [List.length_map, Array.length_toList] at this
  omega
end Go.Proofs.Ytkiaijmhoikdiaa

/- store.Age over one LSP, and its parts: a LSP grows old; one is dropped; lists of at most one ID are sorted. Each theorem states its conditions. -/
namespace Go.Proofs.Ytkiaijmhoikdiaa
open Go.RowKit Go.MapKept
set_option linter.unusedVariables false
set_option linter.unusedSimpArgs false

theorem Stored.trans {w w1 w2 : World} {b : Nat} {C1 C2 : Array Value} {t : TypeId} (h : Stored w w1 b C1 t) (k : Stored w1 w2 b C2 t) : Stored w w2 b C2 t :=
  ⟨k.1, fun B hB => (h.2.1 B hB).trans (k.2.1 B hB), fun i hi => (k.2.2 i hi).trans (h.2.2 i hi)⟩
end Go.Proofs.Ytkiaijmhoikdiaa

/- store.Age over one LSP, and over none. Each theorem states its conditions. -/
namespace Go.Proofs.Ytkiaijmhoikdiaa
open Go.RowKit Go.MapKept
set_option linter.unusedVariables false
set_option linter.unusedSimpArgs false

def BeX (w' : World) (B : Nat) (w : World) : Prop := Below B w w' ∧ B < w'.heap.size
theorem BeX.lt {w w' : World} {B : Nat} (h : BeX w' B w) : B < w'.heap.size := h.2
theorem BeX.below {w w' w2 : World} {B : Nat} (h : BeX w' B w) (hb : Below w'.heap.size w' w2) (_ : B < w'.heap.size) : BeX w2 B w := ⟨h.1.trans (hb.mono (Nat.le_of_lt h.2)), Nat.lt_of_lt_of_le h.2 hb.size⟩
theorem BeX.far {w w' w2 : World} {B c : Nat} {C : Array Value} {t : TypeId} (h : BeX w' B w) (hs : Stored w' w2 c C t) (hk : B ≤ c) : BeX w2 B w := ⟨h.1.trans (hs.2.1 B hk), Nat.lt_of_lt_of_le h.2 (hs.2.1 B hk).size⟩
/-- maps, stores and what they hold -/
def mineS : Obj → Bool
  | .map .. => true
  | .cells _ t _ => t == 79 || t == 92
  | _ => false
/-- whatever was there and is none of these lies as it lay -/
def KpX (w' : World) (N : Nat) (w : World) : Prop := (∀ (k : Nat) (o : Obj), k < N → w.heap[k]? = some o → mineS o = false → w'.heap[k]? = some o) ∧ N < w'.heap.size
theorem KpX.lt {w w' : World} {N : Nat} (h : KpX w' N w) : N < w'.heap.size := h.2
theorem KpX.below {w w' w2 : World} {N : Nat} (h : KpX w' N w) (hb : Below w'.heap.size w' w2) (_ : N < w'.heap.size) : KpX w2 N w := ⟨fun k o hk h1 h2 => (hb.block k (Nat.lt_trans hk h.2)).trans (h.1 k o hk h1 h2), Nat.lt_of_lt_of_le h.2 hb.size⟩
theorem KpX.far {w w' w2 : World} {N c : Nat} {C : Array Value} {t : TypeId} (h : KpX w' N w) (hs : Stored w' w2 c C t) (hk : N ≤ c) : KpX w2 N w := ⟨fun k o hk' h1 h2 => (hs.2.2 k (by omega)).trans (h.1 k o hk' h1 h2), Nat.lt_of_lt_of_le h.2 (hs.2.1 0 (Nat.zero_le _)).size⟩
theorem KpX.held {w w' w2 : World} {N g : Nat} {C C0 : Array Value} {t : TypeId} (h : KpX w' N w) (hs : Stored w' w2 g C t) (hg : Blk 92 w g C0) : KpX w2 N w := ⟨fun k o hk' h1 h2 => (hs.2.2 k (fun e => by
  subst e
  rw [show w.heap[k]? = _ from hg] at h1
  cases h1
  simp [mineS] at h2)).trans (h.1 k o hk' h1 h2), Nat.lt_of_lt_of_le h.2 (hs.2.1 0 (Nat.zero_le _)).size⟩
theorem KpX.fr {w w' w2 : World} {N s b : Nat} {C0 : Array Value} {es : Array MapEntry} {cl : Nat} (h : KpX w' N w) (hf : Fr w' w2 s b) (hs : Blk 79 w s C0) (hb : w.heap[b]? = some (.map es cl)) : KpX w2 N w := ⟨fun k o hk' h1 h2 => (hf.block k (Nat.lt_trans hk' h.2) (fun e => by
  subst e
  rw [show w.heap[k]? = _ from hs] at h1
  cases h1
  simp [mineS] at h2) (fun e => by
  subst e
  rw [hb] at h1
  cases h1
  cases h2)).trans (h.1 k o hk' h1 h2), Nat.lt_of_lt_of_le h.2 hf.size⟩
def RgA (w : World) (r b : Nat) (M : Nat → Option Nat) (k : Nat) (left : Nat → Bool) (cnt : Nat) : Prop := RngAt w b M k r left cnt
section
variable {w w' : World} {b k r cnt : Nat} {M : Nat → Option Nat} {left : Nat → Bool}
theorem RgA.lt (h : RgA w r b M k left cnt) : r < w.heap.size := RngAt.lt h
theorem RgA.below (h : RgA w r b M k left cnt) (hb : Below w.heap.size w w') (_ : r < w.heap.size) : RgA w' r b M k left cnt := RngAt.below h hb
theorem RgA.far {c : Nat} {C : Array Value} {t : TypeId} (h : RgA w r b M k left cnt) (hs : Stored w w' c C t) (hk : b ≠ c ∧ r ≠ c) : RgA w' r b M k left cnt := RngAt.far h hs hk.1 hk.2
end
theorem zero_idS : (Try.prog.info? 28).map (·.zero) = some (some (.agg (iC 0))) := by kernel_rfl
theorem id_over (a b : Nat) : putMany (iC a) 0 (iC b).toList = iC b := by kernel_rfl
theorem wpList_bsn {ops : Array Oper} {Q : Exit → Act → World → Prop} {rest : List Oper} {op : Oper} {a : Act} {w : World} (n : Nat) (hgd : op.guard = none) (t : TypeId) (C : Array Value) (hx : (execOp a.eval op).run Try.prog w = .ok (.value (.slice (some ⟨w.heap.size, 0, none⟩) n n)) (w.alloc (.cells C t)))
    (N : Nat) (hN : w.heap.size = N) (h : ∀ w', Blk t w' N C → Below w.heap.size w w' → N + 1 ≤ w'.heap.size → wpList Try.prog ops Q rest (a.put op.dst (.slice (some ⟨N, 0, none⟩) n n)) w') : wpList Try.prog ops Q (op :: rest) a w := by
  subst hN
  exact wpList_v hgd _ hx (h _ (heap_alloc_new w _) ((Below.refl _ _).alloc (Nat.le_refl _) _) (by simp))
end Go.Proofs.Ytkiaijmhoikdiaa

/- store.List: what is held from one ID to another, in order. Each theorem states its conditions. -/
namespace Go.Proofs.Ytkiaijmhoikdiaa
open Go.RowKit Go.MapKept Go.Sort
set_option linter.unusedVariables false
set_option linter.unusedSimpArgs false

theorem OwnR.below {w w' : World} {base s m : Nat} {e : TypeId} {v : Value} {C : Nat → Array Value} (h : OwnR w base e s v m C) (hb : Below w.heap.size w w') : OwnR w' base e s v m C := ownsRow_below' h hb
theorem OwnR.nil (w : World) (base : Nat) (e : TypeId) (s : Nat) (C : Nat → Array Value) : OwnR w base e s (.slice none 0 0) 0 C := World.ownsRow_nil _ _ _ _
theorem OwnR.mono {w : World} {base base' s m : Nat} {e : TypeId} {v : Value} {C : Nat → Array Value} (h : OwnR w base e s v m C) (hb : base' ≤ base) : OwnR w base' e s v m C := ownsRow_mono h hb
theorem OwnR.congr {w : World} {base s m : Nat} {e : TypeId} {v : Value} {C C' : Nat → Array Value} (h : OwnR w base e s v m C) (hc : ∀ j, j < m → C j = C' j) : OwnR w base e s v m C' := by
  unfold OwnR at h ⊢
  rwa [cellsR_congr m hc] at h
theorem OwnR.ow {w w' : World} {base s m r : Nat} {e : TypeId} {v : Value} {C : Nat → Array Value} (h : OwnR w base e s v m C) (hg : w.grownBy w' (some r)) (hr : r < base) : OwnR w' base e s v m C := by
  rcases h with ⟨h1, h2 | ⟨g, cap, cur, e1, e2, e3, rest⟩⟩
  · exact ⟨h1, .inl h2⟩
  · exact ⟨h1, .inr ⟨g, cap, cur, e1, e2, (hg.block g (Array.getElem?_eq_some_iff.1 e3).1 (fun e => by cases e; omega)).trans e3, rest⟩⟩
theorem OwnR.shape {w : World} {base s m : Nat} {e : TypeId} {v : Value} {C : Nat → Array Value} (h : OwnR w base e s v m C) (hC : Recs s C) (hs : 0 < s) : ∃ A c, v = .slice A m c ∧ m ≤ c ∧ c ≤ maxLen ∧ (A = none → m = 0 ∧ c = 0) ∧ RdR w A m s C := ownR_shape hC hs h
theorem rdR_blk {w : World} {B s : Nat} {C : Array Value} {t : TypeId} (h : Blk t w B C) : RdR w (some ⟨B, 0, none⟩) 1 s (fun _ => C) := by
  refine .inr ⟨B, 0, rfl, h.lt, fun j hj i u hu => ?_⟩
  obtain rfl : j = 0 := by omega
  rw [Nat.zero_mul, Nat.zero_add, h.cell i]
  simpa using hu
theorem below_dg (W : World) (q : Nat) (os : Array Obj) : Below W.heap.size W (grow (W.drewN q) os) := ⟨rfl, rfl, rfl, by simp, fun i hi => by rw [heap_grow_old _ _ (by simpa using hi)]; rfl⟩
theorem blk_ow {t : TypeId} {w w' : World} {g r : Nat} {C : Array Value} (h : Blk t w g C) (hg : w.grownBy w' (some r)) (hr : g ≠ r) : Blk t w' g C := (hg.block g h.lt (fun e => hr (by cases e; rfl))).trans h
section
variable {ops : Array Oper} {Q : Exit → Act → World → Prop}
theorem app_Y {rest : List Oper} {o : Oper} {a : Act} {w : World} (T E : TypeId) (s bs : Nat) (z : Value) (hT : Try.prog.underlying T = some (.slice E)) (hI : (Try.prog.info? E).map (fun i => (i.zero, i.size, i.bytes)) = some (some z, s, bs)) (hzs : z.cells.size = s) (hs0 : 0 < s)
    (hgd : o.guard = none) (y x : Operand) (ho : o.op = .call { callee := .builtin .append, args := #[y, x], argTypes := #[T, T] })
    (B : Nat) (v : Value) (n : Nat) (C : Nat → Array Value) (hs : a.eval y = v) (hown : OwnR w B E s v n C) (hb : B ≤ w.heap.size)
    (ad : Addr) (m c : Nat) (D : Nat → Array Value) (hx : a.eval x = .slice (some ad) m c) (hR : RdR w (some ad) m s D) (hD : Recs s D) (h63 : n + m ≤ maxLen) (hbd : (n + m) * bs ≤ 140737488355328)
    (h : ∀ v' w', OwnR w' B E s v' (n + m) (catR C n D) → w.grownBy w' v.ownBlock → (∀ k, v.ownBlock = some k → B ≤ k) → wpList Try.prog ops Q rest (a.put o.dst v') w') :
    wpList Try.prog ops Q (o :: rest) a w := by
  obtain ⟨i0, hi, hz0, hz1, hz2⟩ := info_parts hI
  refine wpList_append_own_at w hgd y x _ ho B E i0 z s bs hT hi hz0 hz1 hz2 hzs hs0 v n _ hs hown ad m c (cellsR D m) hx (cellsR_len hD m) (recs_news hD hs0 hR) (cellsR_one hD m) h63 hbd hb ?_
  intro v' w' h2 h3 h4 h5
  rw [cellsR_cat] at h2
  exact h v' w' h2 h3 (fun k e => (hown.lt k e).1)
end
/-- what the range has gathered -/
structure Col (H : Nat → Option Hd) (a b : Nat) (left : Nat → Bool) (S : List HdI) : Prop where
  mem : ∀ x ∈ S, H x.1.id = some x.1 ∧ a ≤ x.1.id ∧ x.1.id ≤ b ∧ left x.1.id = false
  all : ∀ x : HdI, H x.1.id = some x.1 → left x.1.id = false → a ≤ x.1.id → x.1.id ≤ b → x ∈ S
  nd : S.Nodup
section
variable {H : Nat → Option Hd} {a b n : Nat} {left : Nat → Bool} {S T : List HdI}
theorem Col.start {M : Nat → Option Nat} (h : ∀ i, M i = none ↔ H i = none) : Col H a b (fun n => (M n).isSome) [] := by
  refine ⟨fun x hx => ?_, fun x hx hl _ _ => ?_, List.nodup_nil⟩
  · cases hx
  · have h1 : M x.1.id = none := by simpa using hl
    rw [(h _).1 h1] at hx
    cases hx
theorem Col.step_out (h : Col H a b left S) (ho : ¬ (a ≤ n ∧ n ≤ b)) : Col H a b (fun x => left x && !(x == n)) S := by
  refine ⟨fun x hx => ?_, fun x h1 h2 h3 h4 => ?_, h.nd⟩
  · obtain ⟨h1, h2, h3, h4⟩ := h.mem x hx
    exact ⟨h1, h2, h3, by simp [h4]⟩
  · have hxn : x.1.id ≠ n := fun e => ho ⟨by omega, by omega⟩
    have h5 : (x.1.id == n) = false := by simpa using hxn
    exact h.all x h1 (by simpa [h5] using h2) h3 h4
theorem Col.step_in (h : Col H a b left S) {x : HdI} (hx : H x.1.id = some x.1) (hl : left x.1.id = true) (h1 : a ≤ x.1.id) (h2 : x.1.id ≤ b) : Col H a b (fun y => left y && !(y == x.1.id)) (S ++ [x]) := by
  refine ⟨fun y hy => ?_, fun y g1 g2 g3 g4 => ?_, ?_⟩
  · rcases List.mem_append.1 hy with hy | hy
    · obtain ⟨g1, g2, g3, g4⟩ := h.mem y hy
      exact ⟨g1, g2, g3, by simp [g4]⟩
    · obtain rfl := List.mem_singleton.1 hy
      exact ⟨hx, h1, h2, by simp⟩
  · by_cases e : y.1.id = x.1.id
    · have : y = x := by
        rw [e, hx] at g1
        exact Subtype.ext (Option.some.inj g1).symm
      exact List.mem_append.2 (.inr (List.mem_singleton.2 this))
    · have h5 : (y.1.id == x.1.id) = false := by simpa using e
      exact List.mem_append.2 (.inl (h.all y g1 (by simpa [h5] using g2) g3 g4))
  · rw [List.nodup_append]
    refine ⟨h.nd, by simp, fun y hy z hz => ?_⟩
    obtain rfl := List.mem_singleton.1 hz
    rintro rfl
    have := (h.mem _ hy).2.2.2
    rw [hl] at this
    cases this
theorem Col.done (h : Col H a b left S) (hl : ∀ n g, H n = some g → left n = false) (hp : T.Perm S) (ha : Asc T) : InRg H a b T := by
  have hT : ∀ x ∈ T, H x.1.id = some x.1 ∧ a ≤ x.1.id ∧ x.1.id ≤ b := fun x hx => by
    obtain ⟨g1, g2, g3, _⟩ := h.mem x (hp.mem_iff.1 hx)
    exact ⟨g1, g2, g3⟩
  refine ⟨ascT_of (fun x hx y hy e => ?_) (hp.nodup_iff.2 h.nd) ha, fun x => ⟨hT x, fun ⟨g1, g2, g3⟩ => hp.mem_iff.2 (h.all x g1 (hl _ _ g1) g2 g3)⟩⟩
  have e1 := (hT x hx).1
  have e2 := (hT y hy).1
  rw [e, e2] at e1
  exact Subtype.ext (Option.some.inj e1).symm
theorem cmp_le (a b : Nat) : decide (cmp3 (a : Int) (b : Int) ≤ 0) = decide (a ≤ b) := by
  unfold cmp3
  by_cases h1 : (a : Int) < (b : Int)
  · rw [if_pos h1]; simp; omega
  · rw [if_neg h1]
    by_cases h2 : (b : Int) < (a : Int)
    · rw [if_pos h2]; simp; omega
    · rw [if_neg h2]; simp; omega
end
theorem en_snoc (S : List HdI) (x : HdI) : ∀ j, j < S.length + 1 → catR (enB S) S.length (fun _ => enC (hdE x.1)) j = enB (S ++ [x]) j := by
  intro j hj
  unfold catR enB
  by_cases h : j < S.length
  · rw [if_pos h, List.getElem?_append_left h]
  · rw [if_neg h, show j = S.length by omega, List.getElem?_append_right (Nat.le_refl _)]
    simp
theorem bs_en1 (W : World) (o : Oper) (e : Operand → Value) {x : Operand} (ho : o.op = .buildSlice 57 1 #[(0, x)]) (h : Hd) (h0 : e x = .agg (enC (hdE h))) :
    (execOp e o).run Try.prog W = .ok (.value (.slice (some ⟨W.heap.size, 0, none⟩) 1 1)) (W.alloc (.cells (enC (hdE h)) 32)) := by
  unfold execOp
  simp only [ho]
  simp only [List.map_toArray, List.map_cons, List.map_nil, h0]
  kernel_rfl
theorem infoA_en : (Try.prog.info? 32).map (fun i => (i.zero, i.size, i.bytes)) = some (some (.agg (enC ⟨fun _ => 0, 0, 0, 0⟩)), 11, 32) := by kernel_rfl
/-- what List answers -/
def ListP (H : Nat → Option Hd) (a b k : Nat) (w : World) (e : Ending) (w' : World) : Prop :=
  ∃ v T, e = .returned v ∧ OwnR w' w.heap.size 32 11 v T.length (enB T) ∧ InRg H a b T ∧ T.length ≤ k ∧ Below w.heap.size w w'
set_option maxHeartbeats 16000000 in
set_option maxRecDepth 100000 in
theorem list_any (B s b k nf nt : Nat) (H : Nat → Option Hd) (r : Bool) (w : World) (hst : StAt w B s b H k r) (hf : IdOk nf) (ht : IdOk nt) (hk : k ≤ 512) : Calls Try.prog 16 #[.pointer (some ⟨s, 0, none⟩), .agg (iC nf), .agg (iC nt)] w (ListP H nf nt k w) := by
  obtain ⟨M, hM, hMH, hMA, _⟩ := hst.map
  have HMH := Lib.hid hMH
  have HMA := Lib.hid hMA
  have KS := Lib.hid hst.blk
  have KM := Lib.hid hM
  have HF := Lib.hid hf
  have HT := Lib.hid ht
  have HK := Lib.hid hk
  have lt_s := hst.lt
  have lt_b := hst.ltb
  clear hst hM hMH hMA hf ht hk
  go_enter Try.func16, Try.ntmps16
  have HB := Lib.hid (Below.refl w.heap.size w)
  obtain ⟨N1, hN1⟩ : ∃ N, w.heap.size = N := ⟨_, rfl⟩
  have HN1 := Lib.hid hN1
  clear hN1
  go_wp2_with (refine wpList_box (op := ⟨some 4, _, _, _, _, _⟩) rfl 28 (.tmp 1) rfl (iC nf) rfl N1 HN1.out ?_; intro w1 k1 b1 s1; refine Hid.out ?_)
  refine Lib.hid ?_
  have K4 := Lib.hid k1
  clear k1
  have lt_s_N1 : s < N1 := by rw [← HN1.out]; exact KS.out.lt
  have lt_b_N1 : b < N1 := by rw [← HN1.out]; exact KM.out.lt
  have le_HB_N1 : w.heap.size ≤ N1 := by rw [← HN1.out]; exact HB.out.size
  have KSn := Lib.hid (KS.out.below b1 KS.out.lt)
  clear KS
  have KS := KSn
  clear KSn
  have KMn := Lib.hid (KM.out.below b1 KM.out.lt)
  clear KM
  have KM := KMn
  clear KMn
  have HBn := Lib.hid (HB.out.trans (b1.mono HB.out.size))
  clear HB
  have HB := HBn
  clear HBn
  clear b1 HN1
  obtain ⟨N2, hN2⟩ : ∃ N, w1.heap.size = N := ⟨_, rfl⟩
  have HN2 := Lib.hid hN2
  clear hN2
  go_wp2_with (refine wpList_box (op := ⟨some 5, _, _, _, _, _⟩) rfl 28 (.tmp 2) rfl (iC nt) rfl N2 HN2.out ?_; intro w2 k1 b1 s1; refine Hid.out ?_)
  refine Lib.hid ?_
  have K5 := Lib.hid k1
  clear k1
  have lt_s_N2 : s < N2 := by rw [← HN2.out]; exact KS.out.lt
  have lt_b_N2 : b < N2 := by rw [← HN2.out]; exact KM.out.lt
  have lt_N1_N2 : N1 < N2 := by rw [← HN2.out]; exact K4.out.lt
  have le_HB_N2 : w.heap.size ≤ N2 := by rw [← HN2.out]; exact HB.out.size
  have KSn := Lib.hid (KS.out.below b1 KS.out.lt)
  clear KS
  have KS := KSn
  clear KSn
  have KMn := Lib.hid (KM.out.below b1 KM.out.lt)
  clear KM
  have KM := KMn
  clear KMn
  have K4n := Lib.hid (K4.out.below b1 K4.out.lt)
  clear K4
  have K4 := K4n
  clear K4n
  have HBn := Lib.hid (HB.out.trans (b1.mono HB.out.size))
  clear HB
  have HB := HBn
  clear HBn
  clear b1 HN2
  have c0 : w2.cell? ⟨s, 0, none⟩ = some (.map (some b)) := (KS.out.cell 0).trans rfl
  obtain ⟨NR, hNR⟩ : ∃ N, w2.heap.size = N := ⟨_, rfl⟩
  have lt_s_NR : s < NR := by rw [← hNR]; exact KS.out.lt
  have lt_b_NR : b < NR := by rw [← hNR]; exact KM.out.lt
  have lt_4_NR : N1 < NR := by rw [← hNR]; exact K4.out.lt
  have lt_5_NR : N2 < NR := by rw [← hNR]; exact K5.out.lt
  have le_w_NR : w.heap.size ≤ NR := by rw [← hNR]; exact HB.out.size
  have HNR := Lib.hid hNR
  clear hNR
  go_wp2_with (refine wpList_rg (op := ⟨some 16, _, _, _, _, _⟩) rfl (.tmp 15) rfl rfl KM.out NR HNR.out ?_; intro w3 hR b1 s1; refine Hid.out ?_)
  refine Lib.hid ?_
  have RG : Hid (RgA w3 NR b M k (fun x => (M x).isSome) k) := Lib.hid hR
  have KSn := Lib.hid (KS.out.below b1 KS.out.lt)
  clear KS
  have KS := KSn
  clear KSn
  have KMn := Lib.hid (KM.out.below b1 KM.out.lt)
  clear KM
  have KM := KMn
  clear KMn
  have K4n := Lib.hid (K4.out.below b1 K4.out.lt)
  clear K4
  have K4 := K4n
  clear K4n
  have K5n := Lib.hid (K5.out.below b1 K5.out.lt)
  clear K5
  have K5 := K5n
  clear K5n
  have HBn := Lib.hid (HB.out.trans (b1.mono HB.out.size))
  clear HB
  have HB := HBn
  clear HBn
  obtain ⟨B0, hB0⟩ : ∃ N, NR + 1 = N := ⟨_, rfl⟩
  rw [hB0] at s1
  have lt_NR : NR < B0 := by omega
  have HS1 := Lib.hid s1
  have lt_b0 := lt_b
  clear b1 hR s1 HNR c0 hB0
  go_wp2_with fail
  go_loopw [7] (fun v wr => ∃ left cnt S, Hid (OwnR wr B0 32 11 v S.length (enB S)) ∧ Hid (RgA wr NR b M k left cnt) ∧ Hid (Blk 28 wr N1 (iC nf)) ∧ Hid (Blk 28 wr N2 (iC nt)) ∧ Hid (Below w.heap.size w wr) ∧ Hid (B0 ≤ wr.heap.size) ∧ Hid (Col H nf nt left S) ∧ Hid (S.length + cnt ≤ k)) (fun _ wr => rngLeft wr b NR)
  case atStart => exact ⟨_, k, [], Lib.hid (OwnR.nil _ _ _ _ _), RG, K4, K5, HB, HS1, Lib.hid (Col.start HMH.out), Lib.hid (by simp)⟩
  case round =>
    clear KS KM K4 K5 HB HS1 RG
    obtain ⟨left, cnt, S, HO, RG, K4, K5, HB, HS1, HC, HL⟩ := hrel
    go_wp2_with (refine wpList_nx (op := ⟨some 17, _, _, _, _, _⟩) rfl (.tmp 16) rfl rfl RG.out (fun h0 => ?_) (fun n gx w4 cnt2 hMn hid hlf hR2 hlt hgr hsz hent => ?_); (all_goals refine Hid.out ?_))
    rotate_left
    · refine Lib.hid ?_
      obtain ⟨h, hHn⟩ : ∃ h, H n = some h := by
        cases e : H n with
        | none => have := (HMH.out n).2 e; rw [hMn] at this; cases this
        | some h => exact ⟨h, rfl⟩
      have HA := Lib.hid (HMA.out n gx h hMn hHn)
      have HHn := Lib.hid hHn
      have HID := Lib.hid hid
      have HLF := Lib.hid hlf
      have HENT := Lib.hid hent
      have HLT := Lib.hid hlt
      have HRL : Hid (rngLeft wr b NR = cnt) := Lib.hid (RngAt.left_eq RG.out)
      have HBn : Hid (Below w.heap.size w w4) := Lib.hid (HB.out.grown hgr HB.out.size (fun x e => by cases e; exact le_w_NR))
      clear HB
      have HB := HBn
      clear HBn
      have HOn : Hid (OwnR w4 B0 32 11 _ S.length (enB S)) := Lib.hid (HO.out.ow hgr lt_NR)
      clear HO
      have HO := HOn
      clear HOn
      have K4n := Lib.hid (blk_ow K4.out hgr (by omega))
      clear K4
      have K4 := K4n
      clear K4n
      have K5n := Lib.hid (blk_ow K5.out hgr (by omega))
      clear K5
      have K5 := K5n
      clear K5n
      have HS1n : Hid (B0 ≤ w4.heap.size) := Lib.hid (by rw [hsz]; exact HS1.out)
      clear HS1
      have HS1 := HS1n
      clear HS1n
      have RGn : Hid (RgA w4 NR b M k (fun x => left x && !(x == n)) cnt2) := Lib.hid hR2
      clear RG
      have RG := RGn
      clear RGn
      clear hMn hid hlf hR2 hlt hgr hsz hent hHn
      go_wp2_with (refine wpList_v (op := ⟨some 19, _, _, _, _, _⟩) rfl (.tuple #[.agg (iC n), .pointer (some ⟨gx, 0, none⟩)]) (entry_run _ _ _ rfl _ rfl HENT.out) ?_; refine Hid.out ?_)
      refine Lib.hid ?_
      clear HENT
      obtain ⟨N8, hN8⟩ : ∃ N, w4.heap.size = N := ⟨_, rfl⟩
      have HN8 := Lib.hid hN8
      clear hN8
      go_wp2_with (refine wpList_new (op := ⟨some 8, _, _, _, _, _⟩) rfl 28 rfl (iC 0) zero_idS N8 HN8.out ?_; intro w5 k1 b1 s1; refine Hid.out ?_)
      refine Lib.hid ?_
      have K8 := Lib.hid k1
      have HB1 := Lib.hid b1
      clear k1 b1 s1
      go_wp2_with (refine wpList_st rfl 28 (.tmp 8) (.tmp 20) rfl N8 0 rfl (.agg (iC n)) (iC n) rfl rfl info_iC (idC_one _) K8.out (Nat.le_of_ble_eq_true rfl) (C' := iC n) (id_over _ _) ?_; intro w6 q1; refine Hid.out ?_)
      refine Lib.hid ?_
      have b2 : Below w4.heap.size w4 w6 := HB1.out.trans (q1.2.1 _ (by rw [HN8.out]; exact Nat.le_refl _))
      have HS2 : Hid (B0 ≤ w6.heap.size) := Lib.hid (Nat.le_trans HS1.out b2.size)
      clear HS1
      have HS1 := HS2
      clear HS2
      have lt_NR8 : NR < N8 := by rw [← HN8.out]; exact RG.out.lt
      have K4n := Lib.hid (K4.out.below b2 K4.out.lt)
      clear K4
      have K4 := K4n
      clear K4n
      have K5n := Lib.hid (K5.out.below b2 K5.out.lt)
      clear K5
      have K5 := K5n
      clear K5n
      have RGn := Lib.hid (RG.out.below b2 RG.out.lt)
      clear RG
      have RG := RGn
      clear RGn
      have HOn := Lib.hid (HO.out.below b2)
      clear HO
      have HO := HOn
      clear HOn
      have HBn := Lib.hid (HB.out.trans (b2.mono HB.out.size))
      clear HB
      have HB := HBn
      clear HBn
      have K8n : Hid (Blk 28 w6 N8 (iC n)) := Lib.hid q1.1
      clear K8
      have K8 := K8n
      clear K8n q1 b2 HB1 HN8
      go_wp2_with (refine wpList_ld (op := ⟨some 22, _, _, _, _, _⟩) (by rfl) 28 (.tmp 4) rfl N1 0 rfl (iC nf) _ K4.out.all Try.underlying28 rfl info_iC ?_; refine Hid.out ?_)
      refine Lib.hid ?_
      go_wp2_with (refine wpList_ld (op := ⟨some 23, _, _, _, _, _⟩) (by rfl) 28 (.tmp 8) rfl N8 0 rfl (iC n) _ K8.out.all Try.underlying28 rfl info_iC ?_; refine Hid.out ?_)
      refine Lib.hid ?_
      go_wp2_with fail
      refine (order_any nf n w6 HF.out HID.out).mono ?_
      rintro e w7 ⟨rfl, q, os', hw⟩
      have b1 : Below w6.heap.size w6 w7 := by rw [hw]; exact below_dg _ _ _
      clear hw
      have HS2 : Hid (B0 ≤ w7.heap.size) := Lib.hid (Nat.le_trans HS1.out b1.size)
      clear HS1
      have HS1 := HS2
      clear HS2
      have K4n := Lib.hid (K4.out.below b1 K4.out.lt)
      clear K4
      have K4 := K4n
      clear K4n
      have K5n := Lib.hid (K5.out.below b1 K5.out.lt)
      clear K5
      have K5 := K5n
      clear K5n
      have RGn := Lib.hid (RG.out.below b1 RG.out.lt)
      clear RG
      have RG := RGn
      clear RGn
      have K8n := Lib.hid (K8.out.below b1 K8.out.lt)
      clear K8
      have K8 := K8n
      clear K8n
      have HOn := Lib.hid (HO.out.below b1)
      clear HO
      have HO := HOn
      clear HOn
      have HBn := Lib.hid (HB.out.trans (b1.mono HB.out.size))
      clear HB
      have HB := HBn
      clear HBn
      clear b1
      obtain ⟨c1, hc1⟩ : ∃ c, cmp3 (nf : Int) (n : Int) = c := ⟨_, rfl⟩
      rw [hc1]
      have HC1 : Hid (decide (c1 ≤ 0) = decide (nf ≤ n)) := Lib.hid (by rw [← hc1]; exact cmp_le nf n)
      clear hc1
      by_cases h1 : c1 ≤ 0
      · have H1 := Lib.hid h1
        have hyes : nf ≤ n := by have := HC1.out; rw [decide_eq_true H1.out] at this; exact of_decide_eq_true this.symm
        have HY := Lib.hid hyes
        clear hyes
        go_wp2_with (refine wpList_ld (op := ⟨some 27, _, _, _, _, _⟩) (by rfl) 28 (.tmp 8) rfl N8 0 rfl (iC n) _ K8.out.all Try.underlying28 rfl info_iC ?_; refine Hid.out ?_)
        refine Lib.hid ?_
        go_wp2_with (refine wpList_ld (op := ⟨some 28, _, _, _, _, _⟩) (by rfl) 28 (.tmp 5) rfl N2 0 rfl (iC nt) _ K5.out.all Try.underlying28 rfl info_iC ?_; refine Hid.out ?_)
        refine Lib.hid ?_
        go_wp2_with fail
        refine (order_any n nt w7 HID.out HT.out).mono ?_
        rintro e w8 ⟨rfl, q, os', hw⟩
        have b1 : Below w7.heap.size w7 w8 := by rw [hw]; exact below_dg _ _ _
        clear hw
        have HS2 : Hid (B0 ≤ w8.heap.size) := Lib.hid (Nat.le_trans HS1.out b1.size)
        clear HS1
        have HS1 := HS2
        clear HS2
        have K4n := Lib.hid (K4.out.below b1 K4.out.lt)
        clear K4
        have K4 := K4n
        clear K4n
        have K5n := Lib.hid (K5.out.below b1 K5.out.lt)
        clear K5
        have K5 := K5n
        clear K5n
        have RGn := Lib.hid (RG.out.below b1 RG.out.lt)
        clear RG
        have RG := RGn
        clear RGn
        have K8n := Lib.hid (K8.out.below b1 K8.out.lt)
        clear K8
        have K8 := K8n
        clear K8n
        have HOn := Lib.hid (HO.out.below b1)
        clear HO
        have HO := HOn
        clear HOn
        have HBn := Lib.hid (HB.out.trans (b1.mono HB.out.size))
        clear HB
        have HB := HBn
        clear HBn
        clear b1
        obtain ⟨c2, hc2⟩ : ∃ c, cmp3 (n : Int) (nt : Int) = c := ⟨_, rfl⟩
        rw [hc2]
        have HC2 : Hid (decide (c2 ≤ 0) = decide (n ≤ nt)) := Lib.hid (by rw [← hc2]; exact cmp_le n nt)
        clear hc2
        by_cases h2 : c2 ≤ 0
        · have H2 := Lib.hid h2
          have hyes : n ≤ nt := by have := HC2.out; rw [decide_eq_true H2.out] at this; exact of_decide_eq_true this.symm
          have HZ := Lib.hid hyes
          clear hyes
          have HG : Hid (HdAt w8 B gx h) := Lib.hid (HA.out.1.below HB.out)
          have HEQ : Hid (h.id = n) := Lib.hid HA.out.2.1
          obtain ⟨x0, hx0⟩ : ∃ x : HdI, x.1 = h := ⟨⟨h, by rw [HEQ.out]; exact HID.out⟩, rfl⟩
          have HX0 := Lib.hid hx0
          clear hx0
          have HRE : Hid (w8.rangeAt gx 0 (enC (hdE h)).toList) := Lib.hid (by obtain ⟨_, ro, oa, c, k0, _⟩ := HG.out; exact hd_ent k0)
          go_wp2_with (refine wpList_ld (op := ⟨some 36, _, _, _, _, _⟩) (by rfl) 32 (.tmp 35) rfl gx 0 rfl (enC (hdE h)) _ HRE.out Try.underlying32 rfl info_enP ?_; refine Hid.out ?_)
          refine Lib.hid ?_
          obtain ⟨N9, hN9⟩ : ∃ N, w8.heap.size = N := ⟨_, rfl⟩
          have HN9 := Lib.hid hN9
          clear hN9
          go_wp2_with (refine wpList_bsn (op := ⟨some 37, _, _, _, _, _⟩) 1 rfl 32 (enC (hdE h)) (bs_en1 _ _ _ rfl h rfl) N9 HN9.out ?_; intro w9 k1 b1 s1; refine Hid.out ?_)
          refine Lib.hid ?_
          have HRD : Hid (RdR w9 (some ⟨N9, 0, none⟩) 1 11 (fun _ => enC (hdE h))) := Lib.hid (rdR_blk k1)
          clear k1 s1
          have HS2 : Hid (B0 ≤ w9.heap.size) := Lib.hid (Nat.le_trans HS1.out b1.size)
          clear HS1
          have HS1 := HS2
          clear HS2
          have K4n := Lib.hid (K4.out.below b1 K4.out.lt)
          clear K4
          have K4 := K4n
          clear K4n
          have K5n := Lib.hid (K5.out.below b1 K5.out.lt)
          clear K5
          have K5 := K5n
          clear K5n
          have RGn := Lib.hid (RG.out.below b1 RG.out.lt)
          clear RG
          have RG := RGn
          clear RGn
          have K8n := Lib.hid (K8.out.below b1 K8.out.lt)
          clear K8
          have K8 := K8n
          clear K8n
          have HOn := Lib.hid (HO.out.below b1)
          clear HO
          have HO := HOn
          clear HOn
          have HBn := Lib.hid (HB.out.trans (b1.mono HB.out.size))
          clear HB
          have HB := HBn
          clear HBn
          clear b1 HN9
          have hk5 : k ≤ 512 := HK.out
          have hsl : S.length + 1 ≤ 513 := by have := HL.out; omega
          have HSL := Lib.hid hsl
          clear hk5 hsl
          have hml : maxLen = 9223372036854775807 := rfl
          have HML := Lib.hid hml
          clear hml
          go_wp2_with (at_builtin; refine app_Y 57 32 11 32 _ Try.underlying57 infoA_en rfl (by decide) rfl (.tmp 32) (.tmp 37) rfl B0 _ S.length (enB S) rfl HO.out HS1.out ⟨N9, 0, none⟩ 1 1 (fun _ => enC (hdE h)) rfl HRD.out (fun _ => ⟨rfl, enC_ones _⟩) (by have := HSL.out; rw [HML.out]; omega) (by have := HSL.out; omega) ?_; intro v10 w10 ho9 hg9 hk9; refine Hid.out ?_)
          refine Lib.hid ?_
          have HOy : Hid (OwnR w10 B0 32 11 v10 (S ++ [x0]).length (enB (S ++ [x0]))) := Lib.hid (by rw [List.length_append]; exact OwnR.congr ho9 (fun j hj => by have := en_snoc S x0 j hj; rw [HX0.out] at this; exact this))
          have hfar : ∀ x, x < B0 → w10.heap[x]? = w9.heap[x]? := fun x hx => hg9.block x (Nat.lt_of_lt_of_le hx HS1.out) (fun e => by have := hk9 x e.symm; omega)
          have K4n : Hid (Blk 28 w10 N1 (iC nf)) := Lib.hid ((hfar _ (by omega)).trans K4.out)
          have K5n : Hid (Blk 28 w10 N2 (iC nt)) := Lib.hid ((hfar _ (by omega)).trans K5.out)
          have RGn : Hid (RgA w10 NR b M k (fun x => left x && !(x == n)) cnt2) := Lib.hid (RngAt.at RG.out (hfar _ (by omega)) (hfar _ lt_NR))
          have HBy : Hid (Below w.heap.size w w10) := Lib.hid (HB.out.grown hg9 HB.out.size (fun k e => by have := hk9 k e; omega))
          have HSy : Hid (B0 ≤ w10.heap.size) := Lib.hid (Nat.le_trans HS1.out hg9.size)
          clear ho9 hg9 hk9 hfar HRD HO K4 K5 RG HB HS1
          have K4 := K4n
          have K5 := K5n
          have RG := RGn
          have HB := HBy
          have HS1 := HSy
          clear K4n K5n RGn HBy HSy
          have HCz : Hid (Col H nf nt (fun x => left x && !(x == n)) (S ++ [x0])) := Lib.hid (by
            have e := HX0.out
            have e2 : x0.1.id = n := by rw [e]; exact HEQ.out
            have e3 := Col.step_in (x := x0) HC.out (by rw [e2, e]; exact HHn.out) (by rw [e2]; exact HLF.out) (by rw [e2]; exact HY.out) (by rw [e2]; exact HZ.out)
            rw [e2] at e3
            exact e3)
          go_wp2_with fail
          go_roundw
          case rel => exact ⟨_, cnt2, (S ++ [x0]), HOy, RG, K4, K5, HB, HS1, Lib.hid (HCz.out), Lib.hid (by have := HL.out; have := HLT.out; rw [List.length_append, List.length_singleton]; omega)⟩
          case measure => rw [RngAt.left_eq RG.out, HRL.out]; exact HLT.out
        · have H2 := Lib.hid h2
          have hno : ¬ n ≤ nt := fun e => by have := HC2.out; rw [decide_eq_true e] at this; exact H2.out (of_decide_eq_true this)
          have HNO := Lib.hid hno
          clear hno
          go_wp2_with fail
          go_roundw
          case rel => exact ⟨_, cnt2, S, HO, RG, K4, K5, HB, HS1, Lib.hid (Col.step_out HC.out (fun e => HNO.out e.2)), Lib.hid (by have := HL.out; have := HLT.out; omega)⟩
          case measure => rw [RngAt.left_eq RG.out, HRL.out]; exact HLT.out
      · have H1 := Lib.hid h1
        have hno : ¬ nf ≤ n := fun e => by have := HC1.out; rw [decide_eq_true e] at this; exact H1.out (of_decide_eq_true this)
        have HNO := Lib.hid hno
        clear hno
        go_wp2_with fail
        go_roundw
        case rel => exact ⟨_, cnt2, S, HO, RG, K4, K5, HB, HS1, Lib.hid (Col.step_out HC.out (fun e => HNO.out e.1)), Lib.hid (by have := HL.out; have := HLT.out; omega)⟩
        case measure => rw [RngAt.left_eq RG.out, HRL.out]; exact HLT.out
    · refine Lib.hid ?_
      subst h0
      have HNN : Hid (∀ n gg, H n = some gg → left n = false) := Lib.hid (fun n gg hn => by
        cases e : M n with
        | none => have := (HMH.out n).1 e; rw [hn] at this; cases this
        | some g9 => exact RngAt.none RG.out e)
      rcases HO.out.2 with ⟨rfl, hx⟩ | ⟨gb, cap, cur, rfl, hbase, hb, h1, h2, h3, h4⟩
      · have hS0 : S = [] := List.eq_nil_of_length_eq_zero hx
        subst hS0
        have hs := fun W => sort_none W
        go_wp2_with (first | (go_at_call 44; refine (hs _).mono ?_; rintro e w9 ⟨rfl, rfl⟩) | go_in)
        go_ret
        exact ⟨_, [], rfl, OwnR.nil _ _ _ _ _, Col.done HC.out HNN.out (List.Perm.refl _) (fun i j _ hj => by simp at hj), by simp, HB.out⟩
      · have hsr := sort_row gb cap S wr cur hb h4 (by have := HL.out; have := HK.out; omega) ()
        have HQ := Lib.hid (show B0 ≤ gb ∧ wr.heap[gb]? = some (.cells cur 32 (0, 0)) ∧ S.length ≤ cap ∧ cap ≤ maxLen ∧ cur.size = cap * 11 from ⟨hbase, hb, h1, h2, h3⟩)
        clear hbase hb h1 h2 h3 h4
        go_wp2_with (first | (go_at_call 44; refine hsr.mono ?_; rintro e w9 ⟨rfl, T, n9, os, hp, ha, hw9⟩; refine Hid.out ?_) | go_in)
        refine Lib.hid ?_
        have HP := Lib.hid hp
        have HA := Lib.hid ha
        have HW := Lib.hid hw9
        clear hp ha hw9 hsr
        go_wp2_with fail
        go_ret
        obtain ⟨o1, o2, o3, o4, o5⟩ := HQ.out
        have hlen : T.length = S.length := HP.out.length_eq
        have hown := own_sorted (n := n9) (os := os) (T := T) hlen o1 o2 o3 o4 o5
        have hgr : wr.grownBy (grow (putRowK enc11 11 (Sort.ahead wr n9) gb 0 T.toArray) os) (some gb) := grownBy_sortedK T.toArray
        try rw [HW.out]
        have e9 : ∀ x, x = S.length → OwnR (grow (putRowK enc11 11 (Sort.ahead wr n9) gb 0 T.toArray) os) w.heap.size 32 11 (.slice (some ⟨gb, 0, none⟩) x cap) T.length (enB T) := fun x hx => by rw [hx]; exact hown.mono (by omega)
        exact ⟨_, T, rfl, e9 _ rfl, Col.done HC.out HNN.out HP.out HA.out, by rw [hlen]; have := HL.out; omega, HB.out.grown hgr HB.out.size (fun k e => by cases e; omega)⟩
end Go.Proofs.Ytkiaijmhoikdiaa

/- pdu.GetEntries and the document's: no bytes, too many, not whole entries. Each theorem states its conditions. -/
namespace Go.Proofs.Ytkiaijmhoikdiaa
open Go.RowKit
set_option linter.unusedVariables false

theorem two_own (w : World) (N : Nat) (h : N ≤ 65535) : Own8 (w.alloc (.cells #[.int .u8 ((N : Int) / 256), .int .u8 ((N : Int) % 256)] 5)) w.heap.size 2 2 (putZ N 2) := by
  have e0 : putZ N 2 0 = (N : Int) / 256 := by
    show ((N / 256 ^ 1 % 256 : Nat) : Int) = _
    rw [show (256 : Nat) ^ 1 = 256 from rfl]
    omega
  have e1 : putZ N 2 1 = (N : Int) % 256 := by
    show ((N / 256 ^ 0 % 256 : Nat) : Int) = _
    rw [show (256 : Nat) ^ 0 = 1 from rfl]
    omega
  refine ⟨⟨_, heap_alloc_new w _, Nat.le_refl _, by decide, rfl, fun j hj => ?_⟩, putZ_bd _ _⟩
  rcases (by omega : j = 0 ∨ j = 1) with rfl | rfl
  · rw [e0]; rfl
  · rw [e1]; rfl
/-- a number as two bytes -/
theorem two_any (N : Nat) (w : World) (h : N ≤ 65535) :
    Calls Try.prog 53 #[.int .i64 (N : Int)] w fun e w' => ∃ g, e = .returned (.slice (some ⟨g, 0, none⟩) 2 2) ∧ w.heap.size ≤ g ∧ Own8 w' g 2 2 (putZ N 2) ∧ Below w.heap.size w w' := by
  go_enter Try.func53, Try.ntmps53
  go_wp2_with fail
  go_ret
  exact ⟨_, rfl, Nat.le_refl _, two_own w N h, (bself w).alloc (Nat.le_refl _) _⟩
theorem sys_idx' (z : Nat → Int) (i : Nat) (hi : i < 6) (w : World) : (Instr.index 24 (.agg #[.int .u8 (z 0), .int .u8 (z 1), .int .u8 (z 2), .int .u8 (z 3), .int .u8 (z 4), .int .u8 (z 5)]) (.int .i64 (i : Int))).run Try.prog w = .ok (.int .u8 (z i)) w := by
  rcases (by omega : i = 0 ∨ i = 1 ∨ i = 2 ∨ i = 3 ∨ i = 4 ∨ i = 5) with rfl | rfl | rfl | rfl | rfl | rfl <;> kernel_rfl
set_option maxHeartbeats 2000000 in
set_option maxRecDepth 100000 in
theorem refNode_any (z : Nat → Int) (w : World) (hz : ∀ j, 0 ≤ z j ∧ z j ≤ 255) :
    Calls Try.prog 54 #[.agg (ndC z)] w fun e w' => ∃ v, e = .returned v ∧ OwnB w' w.heap.size v 7 z ∧ Below w.heap.size w w' := by
  have HZ := Lib.hid hz
  have HX := Lib.hid (heap_alloc_new w (.cells (ndC z) 26))
  have HB := Lib.hid ((bself w).alloc (Nat.le_refl _) (.cells (ndC z) 26))
  have hXI := Lib.hid (fun i hi w => sys_idx' z i hi w)
  clear hz
  unfold ndC at *
  go_enter Try.func54, Try.ntmps54
  go_wp2_with fail
  go_loopw [3, 8] (fun p t wr => ∃ i : Nat, i ≤ 6 ∧ t = .int .i64 i ∧ Hid (OwnB wr w.heap.size p i z) ∧ Hid (Below w.heap.size w wr) ∧ Hid (wr.heap[w.heap.size]? = some (.cells (ndC z) 26 (0, 0))) ∧ Hid (p.ownBlock ≠ some w.heap.size))
    (fun _ t _ => 6 - (intOf t).toNat)
  case atStart => exact ⟨0, by omega, rfl, Lib.hid (OwnB.nil _ _ HZ.out), HB, HX, Lib.hid (fun e => by simp [Value.ownBlock] at e)⟩
  case round =>
    obtain ⟨i, hi, rfl, HO, HW, HN, HF⟩ := hrel
    have hTs : w.heap.size < wr.heap.size := (Array.getElem?_eq_some_iff.1 HN.out).1
    by_cases hi6 : i < 6
    · have hx := hXI.out i hi6
      have hi6' : (i : Int) < 6 := by omega
      go_wp2_with (first | (at_builtin; refine app_s rfl (.tmp 11) (.tmp 13) rfl w u3 i _ rfl (HO.out.1.alloc _) (HW.out.alloc HW.out.size _) ⟨wr.heap.size, 0, none⟩ 1 1 [.int .u8 (z i)] rfl rfl (cell_one_new wr _ _) (u8_one _) (by omega) ?_; intro v3 w3 ho3 hb3 hs3 hk3; have hk4 := Lib.hid (hk3 w.heap.size (by simp; omega) HF.out)))
      rw [vals_snoc] at ho3
      have HO3 : Hid (OwnB w3 w.heap.size v3 (i + 1) z) := Lib.hid ⟨ho3, HZ.out⟩
      have HB3 := Lib.hid hb3
      clear ho3 hb3 hs3 hk3 hx
      go_wp2_with fail
      go_roundw
      case rel => exact ⟨i + 1, by omega, by go_num, HO3, HB3, Lib.hid (hk4.out.1.trans ((Below.heap_alloc wr _ _ hTs).trans HN.out)), Lib.hid hk4.out.2⟩
      case measure => simp only [intOf]; omega
    · obtain rfl : i = 6 := by omega
      have d6 : wr.cell? ⟨w.heap.size, 6, none⟩ = some (.int .u8 (z 6)) := (cell_of_row wr _ 6 _ _ _ HN.out).trans rfl
      go_wp2_with (first
        | (at_builtin; refine app_s rfl (.tmp 16) (.tmp 19) rfl w u3 6 _ rfl (HO.out.1.alloc _) (HW.out.alloc HW.out.size _) ⟨wr.heap.size, 0, none⟩ 1 1 [.int .u8 (z 6)] rfl rfl (cell_one_new wr _ _) (u8_one _) (by omega) ?_; intro v3 w3 ho3 hb3 hs3 hk3))
      rw [vals_snoc] at ho3
      go_ret
      exact ⟨_, rfl, ⟨ho3, HZ.out⟩, hb3⟩
end Go.Proofs.Ytkiaijmhoikdiaa

/- The document's ID writes an ID. Each theorem states its conditions. -/
namespace Go.Proofs.Ytkiaijmhoikdiaa
open Go.RowKit
set_option linter.unusedVariables false
set_option maxHeartbeats 2000000 in
set_option maxRecDepth 100000 in
/-- an ID's eight bytes -/
theorem refID_any (z : Nat → Int) (w : World) (hz : ∀ j, 0 ≤ z j ∧ z j ≤ 255) :
    Calls Try.prog 49 #[.agg (idC z)] w fun e w' => ∃ v, e = .returned v ∧ OwnB w' w.heap.size v 8 z ∧ Below w.heap.size w w' := by
  have HZ := Lib.hid hz
  have HX := Lib.hid (heap_alloc_new w (.cells (idC z) 28))
  have HB := Lib.hid ((bself w).alloc (Nat.le_refl _) (.cells (idC z) 28))
  clear hz
  unfold idC at *
  go_enter Try.func49, Try.ntmps49
  go_wp2_with fail
  refine wp_region_held_drew (S := fun w' => w'.heap[w.heap.size]? = some (.cells (idC z) 28 (0, 0)) ∧ Below w.heap.size w w') (by kernel_rfl) ⟨HX.out, HB.out.drew⟩ (fun hS0 => ?_)
  refine takeY (i := 0) (some 3) (v := .pointer (some ⟨w.heap.size, 0, none⟩)) rfl rfl (by kernel_rfl) (by kernel_rfl) (by kernel_rfl) (fun _ _ _ h => h) (by rfl) (fun w' hS => by go_simp) hS0 ?_
  simp only [Act.put, List.setIfInBounds_toArray, List.set_cons_zero, List.set_cons_succ]
  refine takeL (i := 1) (some 4) 26 (.tmp 3) w.heap.size 0 (ndC z) _ rfl rfl (by kernel_rfl) (by kernel_rfl) (by kernel_rfl) (fun _ _ _ h => h) (by rfl) rfl rfl (fun w' hS => id_range hS.1) Try.underlying26 rfl hi_nd hS0 ?_
  simp only [Act.put, List.setIfInBounds_toArray, List.set_cons_zero, List.set_cons_succ]
  refine takeY (i := 3) (some 6) (v := .pointer (some ⟨w.heap.size, 7, none⟩)) rfl rfl (by kernel_rfl) (by kernel_rfl) (by kernel_rfl) (fun _ _ _ h => h) (by rfl) (fun w' hS => by go_simp) hS0 ?_
  simp only [Act.put, List.setIfInBounds_toArray, List.set_cons_zero, List.set_cons_succ]
  refine takeY (i := 4) (some 7) (v := .int .u8 (z 7)) rfl rfl (by kernel_rfl) (by kernel_rfl) (by kernel_rfl) (fun _ _ _ h => h) (by rfl) (fun w' hS => by have c6 : w'.cell? ⟨w.heap.size, 7, none⟩ = some (.int .u8 (z 7)) := (cell_of_row w' _ 7 _ _ _ hS.1).trans rfl; clear hS; go_simp) hS0 ?_
  simp only [Act.put, List.setIfInBounds_toArray, List.set_cons_zero, List.set_cons_succ]
  obtain ⟨W0, hW0⟩ : ∃ W0, (w.alloc (.cells #[.int .u8 (z 0), .int .u8 (z 1), .int .u8 (z 2), .int .u8 (z 3), .int .u8 (z 4), .int .u8 (z 5), .int .u8 (z 6), .int .u8 (z 7)] 28)).drew = W0 := ⟨_, rfl⟩
  have hsz : W0.heap.size = w.heap.size + 1 := by rw [← hW0]; simp
  rw [hW0] at hS0
  rw [hW0]
  have HS0 := Lib.hid hS0
  clear hS0 hW0 HX HB
  refine wpAnyH_ready (rs := [2, 5]) (by kernel_rfl) (by simp) (consCE (i := 2) (some 5) 54 #[.agg (ndC z)] (R := fun v w' => OwnB w' W0.heap.size v 7 z ∧ Below W0.heap.size W0 w') rfl rfl (by rfl) (by go_simp) (refNode_any z _ HZ.out) (fun v w' h => ⟨(h.2.block _ (by omega)).trans HS0.out.1, HS0.out.2.trans (h.2.mono HS0.out.2.size)⟩) (fun v1 w1 h1 hS1 => ?_) (consVW (i := 5) (some 8) (v := .slice (some ⟨W0.heap.size, 0, none⟩) 1 1) (w' := W0.alloc (.cells #[.int .u8 (z 7)] 5)) rfl rfl (by rfl) (by go_simp) ⟨(Below.heap_alloc W0 _ _ (by omega)).trans HS0.out.1, HS0.out.2.alloc HS0.out.2.size _⟩ ?_ AllReadyH.nil))
  · simp only [Act.put, List.setIfInBounds_toArray, List.set_cons_zero, List.set_cons_succ]
    have hw1 := h1.2.size
    refine takeV (i := 5) (some 8) (v := .slice (some ⟨w1.heap.size, 0, none⟩) 1 1) (w' := w1.alloc (.cells #[.int .u8 (z 7)] 5)) rfl rfl (by kernel_rfl) (by rfl) (by clear h1 hS1; go_simp) ⟨(Below.heap_alloc w1 _ _ (by omega)).trans hS1.1, hS1.2.alloc hS1.2.size _⟩ ?_
    have HO1 := Lib.hid ((ownsRow_mono h1.1.1 HS0.out.2.size).alloc (.cells #[.int .u8 (z 7)] 5))
    have HB1 := Lib.hid (hS1.2.alloc hS1.2.size (.cells #[.int .u8 (z 7)] 5))
    have HC1 := Lib.hid (cell_one_new w1 (.int .u8 (z 7)) 5)
    have HL1 : Hid (w.heap.size < (w1.alloc (.cells #[.int .u8 (z 7)] 5)).heap.size) := Lib.hid (by simp; omega)
    have HF1 : Hid (v1.ownBlock ≠ some w.heap.size) := Lib.hid (fun e => by have := (h1.1.1.lt _ e).1; omega)
    have HN1 := Lib.hid ((Below.heap_alloc w1 (.cells #[.int .u8 (z 7)] 5) _ (by omega)).trans hS1.1)
    clear h1 hS1
    simp only [Act.put, List.setIfInBounds_toArray, List.set_cons_zero, List.set_cons_succ]
    refine takeA (i := 6) (some 9) (.tmp 5) (.tmp 8) rfl rfl (by kernel_rfl) (by rfl) rfl w v1 7 (vals z 7) rfl HO1.out HB1.out ⟨w1.heap.size, 0, none⟩ 1 1 [.int .u8 (z 7)] rfl rfl HC1.out (u8_one _) (by omega) (fun v2 w2 ho2 hb2 hs2 hk2 => ⟨⟨(hk2 w.heap.size HL1.out HF1.out).1.trans HN1.out, hb2⟩, ?_⟩)
    have HO2 : Hid (OwnB w2 w.heap.size v2 8 z) := Lib.hid ⟨by rw [vals_snoc] at ho2; exact ho2, HZ.out⟩
    have HB2 := Lib.hid hb2
    have HS2 : w2.heap[w.heap.size]? = some (.cells (idC z) 28 (0, 0)) ∧ Below w.heap.size w w2 := ⟨(hk2 w.heap.size HL1.out HF1.out).1.trans HN1.out, hb2⟩
    clear ho2 hb2 hs2 hk2
    simp only [Act.put, List.setIfInBounds_toArray, List.set_cons_zero, List.set_cons_succ]
    refine takeY (i := 7) (some 2) (v := v2) rfl rfl (by kernel_rfl) (by kernel_rfl) (by kernel_rfl) (fun _ _ _ h => h) (by rfl) (fun w' hS => by go_simp) HS2 ?_
    simp only [Act.put, List.setIfInBounds_toArray, List.set_cons_zero, List.set_cons_succ]
    refine wpAnyH_done (by kernel_rfl) ?_ _
    go_wp2_with fail
    go_ret
    exact ⟨_, rfl, HO2.out, HB2.out⟩
  · simp only [Act.put, List.setIfInBounds_toArray, List.set_cons_zero, List.set_cons_succ]
    have HS1 : Hid ((W0.alloc (.cells #[.int .u8 (z 7)] 5)).heap[w.heap.size]? = some (.cells (idC z) 28 (0, 0)) ∧ Below w.heap.size w (W0.alloc (.cells #[.int .u8 (z 7)] 5))) := Lib.hid ⟨(Below.heap_alloc W0 _ _ (by omega)).trans HS0.out.1, HS0.out.2.alloc HS0.out.2.size _⟩
    have HC0 := Lib.hid (cell_one_new W0 (.int .u8 (z 7)) 5)
    have hsz2 : (W0.alloc (.cells #[.int .u8 (z 7)] 5)).heap.size = w.heap.size + 2 := by simp; omega
    have hsB : W0.heap.size < (W0.alloc (.cells #[.int .u8 (z 7)] 5)).heap.size := by omega
    obtain ⟨B, hB⟩ : ∃ B, W0.heap.size = B := ⟨_, rfl⟩
    rw [hB] at HC0 hsB ⊢
    obtain ⟨W1, hW1⟩ : ∃ W1, W0.alloc (.cells #[.int .u8 (z 7)] 5) = W1 := ⟨_, rfl⟩
    rw [hW1] at HS1 HC0 hsz2 hsB ⊢
    clear hW1
    refine takeCE (i := 2) (some 5) 54 #[.agg (ndC z)] (R := fun v w' => OwnB w' W1.heap.size v 7 z ∧ Below W1.heap.size W1 w') rfl rfl (by kernel_rfl) (by rfl) (by go_simp) (refNode_any z _ HZ.out) (fun v w' h => ⟨(h.2.block _ (by omega)).trans HS1.out.1, HS1.out.2.trans (h.2.mono HS1.out.2.size)⟩) (fun v1 w1 h1 hS1 => ?_)
    have hw1 := h1.2.size
    have HO1 := Lib.hid (ownsRow_mono h1.1.1 HS1.out.2.size)
    have HB1 := Lib.hid hS1.2
    have HC1 : Hid (∀ j u, [Value.int .u8 (z 7)][j]? = some u → w1.cell? ((⟨B, 0, none⟩ : Addr).add j) = some u) := Lib.hid (fun j u hj => by have := HC0.out j u hj; rw [add_none] at this ⊢; rw [← this]; exact h1.2.cell hsB)
    have HL1 : Hid (w.heap.size < w1.heap.size) := Lib.hid (by omega)
    have HF1 : Hid (v1.ownBlock ≠ some w.heap.size) := Lib.hid (fun e => by have := (h1.1.1.lt _ e).1; omega)
    have HN1 := Lib.hid hS1.1
    clear h1 hS1
    simp only [Act.put, List.setIfInBounds_toArray, List.set_cons_zero, List.set_cons_succ]
    refine takeA (i := 6) (some 9) (.tmp 5) (.tmp 8) rfl rfl (by kernel_rfl) (by rfl) rfl w v1 7 (vals z 7) rfl HO1.out HB1.out ⟨B, 0, none⟩ 1 1 [.int .u8 (z 7)] rfl rfl HC1.out (u8_one _) (by omega) (fun v2 w2 ho2 hb2 hs2 hk2 => ⟨⟨(hk2 w.heap.size HL1.out HF1.out).1.trans HN1.out, hb2⟩, ?_⟩)
    have HO2 : Hid (OwnB w2 w.heap.size v2 8 z) := Lib.hid ⟨by rw [vals_snoc] at ho2; exact ho2, HZ.out⟩
    have HB2 := Lib.hid hb2
    have HS2 : w2.heap[w.heap.size]? = some (.cells (idC z) 28 (0, 0)) ∧ Below w.heap.size w w2 := ⟨(hk2 w.heap.size HL1.out HF1.out).1.trans HN1.out, hb2⟩
    clear ho2 hb2 hs2 hk2
    simp only [Act.put, List.setIfInBounds_toArray, List.set_cons_zero, List.set_cons_succ]
    refine takeY (i := 7) (some 2) (v := v2) rfl rfl (by kernel_rfl) (by kernel_rfl) (by kernel_rfl) (fun _ _ _ h => h) (by rfl) (fun w' hS => by go_simp) HS2 ?_
    simp only [Act.put, List.setIfInBounds_toArray, List.set_cons_zero, List.set_cons_succ]
    refine wpAnyH_done (by kernel_rfl) ?_ _
    go_wp2_with fail
    go_ret
    exact ⟨_, rfl, HO2.out, HB2.out⟩
end Go.Proofs.Ytkiaijmhoikdiaa

/- The document's order of IDs, and its ends. Each theorem states its conditions. -/
namespace Go.Proofs.Ytkiaijmhoikdiaa
open Go.RowKit
set_option linter.unusedVariables false
set_option linter.unusedSimpArgs false

def mxI : Nat := 18446744073709551615
theorem mx_ok : IdOk mxI := by unfold IdOk mxI; decide
theorem le_mx {n : Nat} (h : IdOk n) : n ≤ mxI := by unfold IdOk at h; unfold mxI; omega
theorem buildF_id0 (o : Oper) (e : Operand → Value) (ho : o.op = .build 28 #[]) (W : World) : (execOp e o).run Try.prog W = .ok (.value (.agg (iC 0))) W := by
  unfold execOp
  simp only [ho]
  kernel_rfl
theorem iC_mx : iC mxI = #[.int .u8 255, .int .u8 255, .int .u8 255, .int .u8 255, .int .u8 255, .int .u8 255, .int .u8 255, .int .u8 255] := by kernel_rfl
/-- the same down to the k-th byte -/
def UpTo (x y k : Nat) : Prop := match k with
  | 0 => True
  | k + 1 => x / pw k = y / pw k
theorem upTo_step {x y k : Nat} (hx : IdOk x) (hy : IdOk y) (hk : k < 8) (h : UpTo x y k) (hd : dg x k = dg y k) : UpTo x y (k + 1) := by
  unfold IdOk at hx hy
  rcases (by omega : k = 0 ∨ k = 1 ∨ k = 2 ∨ k = 3 ∨ k = 4 ∨ k = 5 ∨ k = 6 ∨ k = 7) with rfl | rfl | rfl | rfl | rfl | rfl | rfl | rfl <;> simp only [UpTo, dg, pw] at h hd ⊢ <;> omega
theorem upTo_all {x y : Nat} (h : UpTo x y 8) : x = y := by
  simp only [UpTo, pw] at h
  omega
theorem upTo_lt {x y k : Nat} (hx : IdOk x) (hy : IdOk y) (hk : k < 8) (h : UpTo x y k) (hd : dg x k ≠ dg y k) : decide (dg x k < dg y k) = decide (x < y) := by
  unfold IdOk at hx hy
  have e : (dg x k < dg y k) ↔ x < y := by
    rcases (by omega : k = 0 ∨ k = 1 ∨ k = 2 ∨ k = 3 ∨ k = 4 ∨ k = 5 ∨ k = 6 ∨ k = 7) with rfl | rfl | rfl | rfl | rfl | rfl | rfl | rfl <;> simp only [UpTo, dg, pw] at h hd ⊢ <;> omega
  simp only [e]
set_option maxHeartbeats 8000000 in
set_option maxRecDepth 100000 in
theorem first_any (w : World) : Calls Try.prog 17 #[] w fun e w' => e = .returned (.agg (iC 0)) ∧ Below w.heap.size w w' := by
  go_enter Try.func17, Try.ntmps17
  have HB := Lib.hid (Below.refl w.heap.size w)
  obtain ⟨N1, hN1⟩ : ∃ N, w.heap.size = N := ⟨_, rfl⟩
  have HN1 := Lib.hid hN1
  clear hN1
  go_wp2_with (refine wpList_new (op := ⟨some 0, _, _, _, _, _⟩) rfl 28 rfl (iC 0) zero_idS N1 HN1.out ?_; intro w1 k1 b1 s1; refine Hid.out ?_)
  refine Lib.hid ?_
  have K0 := Lib.hid k1
  clear k1
  have le_HB_N1 : w.heap.size ≤ N1 := by rw [← HN1.out]; exact HB.out.size
  have HBn := Lib.hid (HB.out.trans (b1.mono HB.out.size))
  clear HB
  have HB := HBn
  clear HBn
  clear b1 HN1
  go_wp2_with (refine wpList_v (op := ⟨some 1, _, _, _, _, _⟩) rfl (.agg (iC 0)) (buildF_id0 _ _ rfl _) ?_; refine Hid.out ?_)
  refine Lib.hid ?_
  go_wp2_with (refine wpList_st rfl 28 (.tmp 0) (.tmp 1) rfl N1 0 rfl (.agg (iC 0)) (iC 0) rfl rfl info_iC (idC_one _) K0.out (Nat.le_of_ble_eq_true rfl) (C' := iC 0) (id_over _ _) ?_; intro w2 q1; refine Hid.out ?_)
  refine Lib.hid ?_
  have HBn := Lib.hid (HB.out.trans (q1.2.1 _ (by omega)))
  clear HB
  have HB := HBn
  clear HBn
  have K0n : Hid (Blk 28 w2 N1 (iC 0)) := Lib.hid q1.1
  clear K0
  have K0 := K0n
  clear K0n q1
  go_wp2_with fail
  exact bodyPost_ret (results_1 rfl _ w2 N1 (iC 0) Try.underlying28 rfl info_iC rfl K0.out) rfl ⟨rfl, HB.out⟩
set_option maxHeartbeats 8000000 in
set_option maxRecDepth 100000 in
theorem last_any (w : World) : Calls Try.prog 18 #[] w fun e w' => e = .returned (.agg (iC mxI)) ∧ Below w.heap.size w w' := by
  go_enter Try.func18, Try.ntmps18
  have HB := Lib.hid (Below.refl w.heap.size w)
  obtain ⟨N1, hN1⟩ : ∃ N, w.heap.size = N := ⟨_, rfl⟩
  have HN1 := Lib.hid hN1
  clear hN1
  go_wp2_with (refine wpList_new (op := ⟨some 0, _, _, _, _, _⟩) rfl 28 rfl (iC 0) zero_idS N1 HN1.out ?_; intro w1 k1 b1 s1; refine Hid.out ?_)
  refine Lib.hid ?_
  have K0 := Lib.hid k1
  clear k1
  have le_HB_N1 : w.heap.size ≤ N1 := by rw [← HN1.out]; exact HB.out.size
  have HBn := Lib.hid (HB.out.trans (b1.mono HB.out.size))
  clear HB
  have HB := HBn
  clear HBn
  clear b1 HN1
  go_wp2_with (refine wpList_st rfl 28 (.tmp 0) (.tmp 3) rfl N1 0 rfl (.agg (iC mxI)) (iC mxI) (by rw [iC_mx]; rfl) rfl info_iC (idC_one _) K0.out (Nat.le_of_ble_eq_true rfl) (C' := iC mxI) (id_over _ _) ?_; intro w2 q1; refine Hid.out ?_)
  refine Lib.hid ?_
  have HBn := Lib.hid (HB.out.trans (q1.2.1 _ (by omega)))
  clear HB
  have HB := HBn
  clear HBn
  have K0n : Hid (Blk 28 w2 N1 (iC mxI)) := Lib.hid q1.1
  clear K0
  have K0 := K0n
  clear K0n q1
  go_wp2_with fail
  exact bodyPost_ret (results_1 rfl _ w2 N1 (iC mxI) Try.underlying28 rfl info_iC rfl K0.out) rfl ⟨rfl, HB.out⟩
set_option maxHeartbeats 8000000 in
set_option maxRecDepth 100000 in
theorem less_any (x y : Nat) (w : World) (hx : IdOk x) (hy : IdOk y) : Calls Try.prog 25 #[.agg (iC x), .agg (iC y)] w fun e w' => e = .returned (.bool (decide (x < y))) ∧ Below w.heap.size w w' := by
  have HX := Lib.hid hx
  have HY := Lib.hid hy
  clear hx hy
  go_enter Try.func25, Try.ntmps25
  have HB := Lib.hid (Below.refl w.heap.size w)
  obtain ⟨N1, hN1⟩ : ∃ N, w.heap.size = N := ⟨_, rfl⟩
  have HN1 := Lib.hid hN1
  clear hN1
  go_wp2_with (refine wpList_box (op := ⟨some 2, _, _, _, _, _⟩) rfl 28 (.tmp 0) rfl (iC x) rfl N1 HN1.out ?_; intro w1 k1 b1 s1; refine Hid.out ?_)
  refine Lib.hid ?_
  have K2 := Lib.hid k1
  clear k1
  have le_HB_N1 : w.heap.size ≤ N1 := by rw [← HN1.out]; exact HB.out.size
  have HBn := Lib.hid (HB.out.trans (b1.mono HB.out.size))
  clear HB
  have HB := HBn
  clear HBn
  clear b1 HN1
  obtain ⟨N2, hN2⟩ : ∃ N, w1.heap.size = N := ⟨_, rfl⟩
  have HN2 := Lib.hid hN2
  clear hN2
  go_wp2_with (refine wpList_box (op := ⟨some 3, _, _, _, _, _⟩) rfl 28 (.tmp 1) rfl (iC y) rfl N2 HN2.out ?_; intro w2 k1 b1 s1; refine Hid.out ?_)
  refine Lib.hid ?_
  have K3 := Lib.hid k1
  clear k1
  have lt_N1_N2 : N1 < N2 := by rw [← HN2.out]; exact K2.out.lt
  have le_HB_N2 : w.heap.size ≤ N2 := by rw [← HN2.out]; exact HB.out.size
  have K2n := Lib.hid (K2.out.below b1 K2.out.lt)
  clear K2
  have K2 := K2n
  clear K2n
  have HBn := Lib.hid (HB.out.trans (b1.mono HB.out.size))
  clear HB
  have HB := HBn
  clear HBn
  clear b1 HN2
  go_wp2_with fail
  refine wp_region_held_drew (S := fun w' => Blk 28 w' N1 (iC x) ∧ Blk 28 w' N2 (iC y) ∧ Below w.heap.size w w') (by kernel_rfl) ⟨K2.out, K3.out, HB.out.drew⟩ (fun hS => ?_)
  generalize hW3 : w2.drew = W3 at hS  ⊢
  clear hW3
  clear K2
  clear K3
  clear HB
  have K2 := Lib.hid hS.1
  have K3 := Lib.hid hS.2.1
  have HB := Lib.hid hS.2.2
  refine takeL (i := 0) (some 8) 28 (.tmp 2) N1 0 (iC x) _ rfl rfl (by kernel_rfl) (by kernel_rfl) (by kernel_rfl) (fun _ _ _ h => h) (by rfl) rfl rfl (fun w' hS => hS.1.all) Try.underlying28 rfl info_iC hS ?_
  simp only [Act.put, List.setIfInBounds_toArray, List.set_cons_zero, List.set_cons_succ]
  refine takeL (i := 2) (some 10) 28 (.tmp 3) N2 0 (iC y) _ rfl rfl (by kernel_rfl) (by kernel_rfl) (by kernel_rfl) (fun _ _ _ h => h) (by rfl) rfl rfl (fun w' hS => hS.2.1.all) Try.underlying28 rfl info_iC hS ?_
  simp only [Act.put, List.setIfInBounds_toArray, List.set_cons_zero, List.set_cons_succ]
  refine takeCE (i := 1) (some 9) 49 #[.agg (iC x)] (R := fun v w' => OwnB w' W3.heap.size v 8 (dg x) ∧ Below W3.heap.size W3 w') rfl rfl (by kernel_rfl) (by rfl) (by go_simp) (refID_any (dg x) W3 (dg_bd x)) (fun v w' h => by obtain ⟨ho, b1⟩ := h; exact ⟨hS.1.below b1 hS.1.lt, hS.2.1.below b1 hS.2.1.lt, hS.2.2.trans (b1.mono hS.2.2.size)⟩) (fun v W4 h hS2 => ?_)
  obtain ⟨ho, b1⟩ := h
  clear hS2
  simp only [Act.put, List.setIfInBounds_toArray, List.set_cons_zero, List.set_cons_succ]
  obtain ⟨Ax, cx, rfl, _⟩ := ho.shape
  have HP : Hid (OwnB W4 W3.heap.size (.slice Ax 8 cx) 8 (dg x)) := Lib.hid ho
  clear ho
  have K2n := Lib.hid (K2.out.below b1 K2.out.lt)
  clear K2
  have K2 := K2n
  clear K2n
  have K3n := Lib.hid (K3.out.below b1 K3.out.lt)
  clear K3
  have K3 := K3n
  clear K3n
  have HBn := Lib.hid (HB.out.trans (b1.mono HB.out.size))
  clear HB
  have HB := HBn
  clear HBn
  clear b1 hS
  have hS := (And.intro K2.out (And.intro K3.out HB.out))
  refine takeCE (i := 3) (some 11) 49 #[.agg (iC y)] (R := fun v w' => OwnB w' W4.heap.size v 8 (dg y) ∧ Below W4.heap.size W4 w') rfl rfl (by kernel_rfl) (by rfl) (by go_simp) (refID_any (dg y) W4 (dg_bd y)) (fun v w' h => by obtain ⟨ho, b1⟩ := h; exact ⟨hS.1.below b1 hS.1.lt, hS.2.1.below b1 hS.2.1.lt, hS.2.2.trans (b1.mono hS.2.2.size)⟩) (fun v W5 h hS2 => ?_)
  obtain ⟨ho, b1⟩ := h
  clear hS2
  simp only [Act.put, List.setIfInBounds_toArray, List.set_cons_zero, List.set_cons_succ]
  obtain ⟨Ay, cy, rfl, _⟩ := ho.shape
  have HQz : Hid (OwnB W5 W4.heap.size (.slice Ay 8 cy) 8 (dg y)) := Lib.hid ho
  clear ho
  have HPn := Lib.hid (HP.out.below b1)
  clear HP
  have HP := HPn
  clear HPn
  have K2n := Lib.hid (K2.out.below b1 K2.out.lt)
  clear K2
  have K2 := K2n
  clear K2n
  have K3n := Lib.hid (K3.out.below b1 K3.out.lt)
  clear K3
  have K3 := K3n
  clear K3n
  have HBn := Lib.hid (HB.out.trans (b1.mono HB.out.size))
  clear HB
  have HB := HBn
  clear HBn
  clear b1 hS
  have hS := (And.intro K2.out (And.intro K3.out HB.out))
  have HQ := HQz
  clear HQz
  refine takeY (i := 4) (some 5) (v := .slice Ax 8 cx) rfl rfl (by kernel_rfl) (by kernel_rfl) (by kernel_rfl) (fun _ _ _ h => h) (by rfl) (fun w' hS => by clear hS; go_simp) hS ?_
  simp only [Act.put, List.setIfInBounds_toArray, List.set_cons_zero, List.set_cons_succ]
  refine takeY (i := 5) (some 6) (v := .slice Ay 8 cy) rfl rfl (by kernel_rfl) (by kernel_rfl) (by kernel_rfl) (fun _ _ _ h => h) (by rfl) (fun w' hS => by clear hS; go_simp) hS ?_
  simp only [Act.put, List.setIfInBounds_toArray, List.set_cons_zero, List.set_cons_succ]
  clear hS
  refine wpAnyH_done (by kernel_rfl) ?_ _
  obtain ⟨_, _, e1, _, _, _, r1⟩ := HP.out.shape
  cases e1
  obtain ⟨b1, o1, rfl, h1⟩ := r1.row (by decide)
  obtain ⟨_, _, e2, _, _, _, r2⟩ := HQ.out.shape
  cases e2
  obtain ⟨b2, o2, rfl, h2⟩ := r2.row (by decide)
  have hc1 := h1.2.1
  have hc2 := h2.2.1
  clear r1 r2 h1 h2 HP HQ K2 K3
  go_wp2_with fail
  go_loopw [14] (fun t wr => ∃ k m : Nat, k ≤ 8 ∧ t = .int .i64 k ∧ wr = W5.drewN m ∧ Hid (UpTo x y k)) (fun t _ => 8 - (intOf t).toNat)
  case atStart => exact ⟨0, 0, by omega, rfl, rfl, Lib.hid trivial⟩
  case round =>
    obtain ⟨k, m, hk, rfl, rfl, HU⟩ := hrel
    by_cases hlt : k < 8
    · have HLT := Lib.hid hlt
      have g1 := hc1 k hlt
      have g2 := hc2 k hlt
      have HB2 : Hid (∀ r, Below w.heap.size w (W5.drewN r)) := Lib.hid (fun r => ⟨HB.out.os, HB.out.tape, HB.out.output, HB.out.size, HB.out.block⟩)
      obtain ⟨a, ha⟩ : ∃ a, dg x k = a := ⟨_, rfl⟩
      obtain ⟨b, hb⟩ : ∃ a, dg y k = a := ⟨_, rfl⟩
      rw [ha] at g1
      rw [hb] at g2
      have HA := Lib.hid ha
      have HBb := Lib.hid hb
      clear ha hb hc1 hc2
      have hlt2 : (k : Int) < 8 := by omega
      by_cases hab : a = b
      · have HAB : Hid (dg x k = dg y k) := Lib.hid (by rw [HA.out, HBb.out, hab])
        subst hab
        go_wp2
        go_region
        go_wp2
        go_roundw
        case rel => exact ⟨k + 1, m + 1, by omega, by go_num, rfl, Lib.hid (upTo_step HX.out HY.out HLT.out HU.out HAB.out)⟩
        case measure => simp [intOf]; omega
      · have HAB : Hid (decide (a < b) = decide (x < y)) := Lib.hid (by rw [← HA.out, ← HBb.out]; exact upTo_lt HX.out HY.out HLT.out HU.out (by rw [HA.out, HBb.out]; exact hab))
        have hne : (a != b) = true := by simpa using hab
        go_wp2
        go_region
        go_wp2
        go_region
        go_wp2
        go_ret
        exact ⟨by first | (rw [← HAB.out]; done) | (rw [← HAB.out]; rfl) | simp [← HAB.out], HB2.out _⟩
    · obtain rfl : k = 8 := by omega
      have hxy := upTo_all HU.out
      have HE : Hid (decide (x < y) = false) := Lib.hid (by simp [hxy])
      clear hxy
      go_wp2
      go_ret
      exact ⟨by rw [HE.out]; rfl, ⟨HB.out.os, HB.out.tape, HB.out.output, HB.out.size, HB.out.block⟩⟩
end Go.Proofs.Ytkiaijmhoikdiaa

/- The document's Same of two packets: packets that are alike are the same. Each theorem states its conditions. -/
namespace Go.Proofs.Ytkiaijmhoikdiaa
open Go.RowKit
set_option linter.unusedVariables false

end Go.Proofs.Ytkiaijmhoikdiaa

/- The document's Head: how many bytes stand ahead of the TLVs. Each theorem states its conditions. -/
namespace Go.Proofs.Ytkiaijmhoikdiaa
open Go.RowKit
set_option linter.unusedVariables false

theorem refHead_of (k : Int) (n : Nat) (h : (k = 17 ∧ n = 20) ∨ (k = 15 ∧ n = 27) ∨ (k = 16 ∧ n = 27) ∨ (k = 18 ∧ n = 27) ∨ (k = 20 ∧ n = 27) ∨ (k = 24 ∧ n = 33) ∨ (k = 25 ∧ n = 33) ∨ (k = 26 ∧ n = 17) ∨ (k = 27 ∧ n = 17)) (w : World) :
    Calls Try.prog 29 #[.int .u8 k] w fun e w' => e = .returned (.int .i64 (n : Nat)) ∧ w = w' := by
  rcases h with ⟨rfl, rfl⟩ | ⟨rfl, rfl⟩ | ⟨rfl, rfl⟩ | ⟨rfl, rfl⟩ | ⟨rfl, rfl⟩ | ⟨rfl, rfl⟩ | ⟨rfl, rfl⟩ | ⟨rfl, rfl⟩ | ⟨rfl, rfl⟩ <;>
  · go_enter Try.func29, Try.ntmps29
    go_wp2
    go_ret
    exact ⟨rfl, rfl⟩
/-- of a kind that there is -/
theorem refHead_any (k : Int) (q : Nat) (hk : cls k = q) (hq : q ≤ 4) (w : World) : Calls Try.prog 29 #[.int .u8 k] w fun e w' => e = .returned (.int .i64 (hdN q : Nat)) ∧ w = w' := by
  refine refHead_of k (hdN q) ?_ w
  subst hk
  unfold cls at hq ⊢
  by_cases h0 : k = 17
  · rw [if_pos h0]; exact .inl ⟨h0, rfl⟩
  rw [if_neg h0] at hq ⊢
  by_cases h1 : k = 15 ∨ k = 16
  · rw [if_pos h1]; rcases h1 with h | h <;> simp [h, show hdN 1 = 27 from rfl]
  rw [if_neg h1] at hq ⊢
  by_cases h2 : k = 18 ∨ k = 20
  · rw [if_pos h2]; rcases h2 with h | h <;> simp [h, show hdN 2 = 27 from rfl]
  rw [if_neg h2] at hq ⊢
  by_cases h3 : k = 24 ∨ k = 25
  · rw [if_pos h3]; rcases h3 with h | h <;> simp [h, show hdN 3 = 33 from rfl]
  rw [if_neg h3] at hq ⊢
  by_cases h4 : k = 26 ∨ k = 27
  · rw [if_pos h4]; rcases h4 with h | h <;> simp [h, show hdN 4 = 17 from rfl]
  rw [if_neg h4] at hq
  exact absurd hq (by decide)
/-- of no kind -/
theorem refHead_none (k : Int) (hk : cls k = 5) (w : World) : Calls Try.prog 29 #[.int .u8 k] w fun e w' => e = .returned (.int .i64 0) ∧ w = w' := by
  have H : k ≠ 17 ∧ k ≠ 15 ∧ k ≠ 16 ∧ k ≠ 18 ∧ k ≠ 20 ∧ k ≠ 24 ∧ k ≠ 25 ∧ k ≠ 26 ∧ k ≠ 27 := by
    refine ⟨?_, ?_, ?_, ?_, ?_, ?_, ?_, ?_, ?_⟩ <;> rintro rfl <;> exact absurd hk (by decide)
  have h1 : (k == 17) = false := by simp; omega
  have h2 : (k == 15) = false := by simp; omega
  have h3 : (k == 16) = false := by simp; omega
  have h4 : (k == 18) = false := by simp; omega
  have h5 : (k == 20) = false := by simp; omega
  have h6 : (k == 24) = false := by simp; omega
  have h7 : (k == 25) = false := by simp; omega
  have h8 : (k == 26) = false := by simp; omega
  have h9 : (k == 27) = false := by simp; omega
  clear H hk
  go_enter Try.func29, Try.ntmps29
  go_wp2
  go_ret
  exact ⟨rfl, rfl⟩
end Go.Proofs.Ytkiaijmhoikdiaa

/- The document's Join and DocJoin write a list as bytes. Each theorem states its conditions. -/
namespace Go.Proofs.Ytkiaijmhoikdiaa
open Go.RowKit
set_option linter.unusedVariables false

theorem one_new (w : World) (a : Value) (t : TypeId) : ∀ j u, [a][j]? = some u → (w.alloc (.cells #[a] t)).cell? ((⟨w.heap.size, 0, none⟩ : Addr).add j) = some u := by
  intro j u hj
  match j, hj with
  | 0, hj => simp at hj; subst hj; simp [Addr.add]
theorem one_new2 (w : World) (o : Obj) (a : Value) (t : TypeId) : ∀ j u, [a][j]? = some u → ((w.alloc o).alloc (.cells #[a] t)).cell? ((⟨w.heap.size + 1, 0, none⟩ : Addr).add j) = some u := by
  have := one_new (w.alloc o) a t
  rwa [World.size_alloc] at this
theorem int_one (k : IntKind) (a : Int) : ∀ u ∈ [Value.int k a], u.oneCell' = true := by
  intro u hu; simp only [List.mem_cons, List.not_mem_nil, or_false] at hu; subst hu; rfl

theorem far_step {x n : Nat} {v v' : Value} (h : v'.ownBlock = v.ownBlock ∨ v'.ownBlock = some n) (hf : some x ≠ v.ownBlock) (hx : x < n) : some x ≠ v'.ownBlock := by
  rcases h with e | e
  · rw [e]; exact hf
  · rw [e]; intro e'; injection e' with e'; omega

def RefJoinPost (w : World) (L : Nat → It) (m : Nat) (e : Ending) (w' : World) : Prop :=
  ∃ v, e = .returned v ∧ w'.ownsRow w.heap.size 5 1 v (sz L m) (vals (J L m) (sz L m)) ∧ Below w.heap.size w w'

set_option maxHeartbeats 4000000 in
set_option maxRecDepth 100000 in
theorem refjoin_any (A : Option Addr) (m c : Nat) (L : Nat → It) (w : World) (h : RdT w A m L) (hc : m ≤ c) (hcm : c ≤ 9223372036854775807) (hm : ∀ k, k < m → ¬ bad L k) :
    Calls Try.prog 52 #[.slice A m c] w (RefJoinPost w L m) := by
  obtain ⟨i0, hi, hz0, hz1, hz2⟩ := info_parts info_u8
  have HM := Lib.hid hm
  have HR := Lib.hid h
  clear h hm
  go_enter Try.func52, Try.ntmps52
  go_wp2_with fail
  go_loopw [3, 8] (fun v i wr => ∃ k : Nat, k ≤ m ∧ i = .int .i64 k ∧ wr.ownsRow w.heap.size 5 1 v (sz L k) (vals (J L k) (sz L k)) ∧ Below w.heap.size w wr)
    (fun _ i _ => m - (intOf i).toNat)
  case atStart => exact ⟨0, by omega, rfl, World.ownsRow_nil _ _ _ _, bself w⟩
  case round =>
    obtain ⟨k, hk, rfl, hown, hb⟩ := hrel
    by_cases hkm : k < m
    · obtain ⟨b, off, rfl, hr⟩ := (HR.out.below hb).row (by omega)
      obtain ⟨c0, c1, c2⟩ := hr.2 k hkm
      have hRd : Rd w (L k).A (L k).n (L k).z := by
        obtain ⟨b', off', _, hr'⟩ := HR.out.row (by omega)
        exact (hr'.2 k hkm).2.2.2.1
      have hnone := c2.2.2.1
      have hs1 : sz L (k + 1) = sz L k + (2 + (L k).n) := rfl
      have hnb := HM.out k hkm
      unfold bad at hnb
      have q1 : ((L k).n : Int) ≤ 255 := by omega
      have q2 : sz L k + (2 + (L k).n) ≤ 1492 := by omega
      have HRd := Lib.hid hRd
      have HO := Lib.hid hown
      have hJ : vals (J L k) (sz L k) ++ [.int .u8 (L k).ty] ++ [.int .u8 ((L k).n : Int)] ++ vals (L k).z (L k).n = vals (J L (k + 1)) (sz L (k + 1)) := by
        rw [List.append_assoc _ [_] [_], show [Value.int .u8 (L k).ty] ++ [.int .u8 ((L k).n : Int)] = vals (two (L k).ty (L k).n) 2 from (vals_two _ _).symm, vals_cat, vals_cat]
        show vals _ (sz L k + 2 + (L k).n) = vals _ (sz L k + (2 + (L k).n))
        rw [Nat.add_assoc]
        rfl
      have HJ := Lib.hid hJ
      have HSE := Lib.hid hs1
      have hHN1 := Lib.hid (vals_one (L k).z (L k).n)
      have hHNL := Lib.hid (show (vals (L k).z (L k).n).length = (L k).n * 1 by rw [vals_len]; omega)
      have hbs := hb.size
      have hfar : some wr.heap.size ≠ u3.ownBlock := fun e => by have := (hown.lt _ e.symm).2; omega
      clear hr hnb hs1 hRd hown hJ c2
      generalize hty : (L k).ty = ty at *
      generalize hLA : (L k).A = LA at *
      generalize hLn : (L k).n = n at *
      generalize hLc : (L k).c = lc at *
      generalize hsk : sz L k = s at *
      have HNone := Lib.hid hnone
      have m1 : s + 1 ≤ maxLen := by unfold maxLen; omega
      have m2 : s + 1 + 1 ≤ maxLen := by unfold maxLen; omega
      have m3 : s + 1 + 1 + n ≤ maxLen := by unfold maxLen; omega
      clear hty hLA hLn hLc hsk hnone
      rcases LA with _ | ad
      · obtain ⟨rfl, rfl⟩ := HNone.out rfl
        go_wp2_with (first
          | (at_builtin; refine wpList_append_own_at _ rfl (.tmp 12) (.tmp 15) 43 rfl w.heap.size 5 i0 (.int .u8 0) 1 1 Try.underlying43 hi hz0 hz1 hz2 rfl (by decide) u3 s _ rfl ((HO.out.alloc _).alloc _) ⟨wr.heap.size + 1, 0, none⟩ 1 1 [.int .u8 ty] rfl rfl (one_new2 wr _ _ _) (int_one _ _) m1 (by omega) (by simp; omega) ?_; intro v1 w1 hown1 hgrow1 hnil1 hat1; have ct1 : w1.cell? ⟨wr.heap.size, 1, none⟩ = some (.slice none 0 0) := hgrow1.cell (by simp) hfar)
          | (at_builtin; refine wpList_append_own_at _ rfl (.tmp 17) (.tmp 22) 43 rfl w.heap.size 5 i0 (.int .u8 0) 1 1 Try.underlying43 hi hz0 hz1 hz2 rfl (by decide) v1 (s + 1) _ rfl (hown1.alloc _) ⟨w1.heap.size, 0, none⟩ 1 1 [.int .u8 ((0 : Nat) : Int)] rfl rfl (one_new w1 _ _) (int_one _ _) m2 (by omega) (by have := hgrow1.size; simp at this ⊢; omega) ?_; intro v2 w2 hown2 hgrow2 hnil2 hat2; have ct2 : w2.cell? ⟨wr.heap.size, 1, none⟩ = some (.slice none 0 0) := hgrow2.cell (by rw [World.cell?_alloc_lt _ _ _ (cell_lt ct1)]; exact ct1) (far_step hat1 hfar (by simp; omega)))
          | (at_builtin; refine wpList_append_own_none rfl (.tmp 24) (.tmp 26) 43 rfl w.heap.size 5 i0 1 Try.underlying43 hi v2 (s + 1 + 1) _ rfl hown2 rfl ?_))
        have hs1' := hgrow1.size
        have hs2' := hgrow2.size
        simp at hs1' hs2'
        have hB2 := (((((hb.alloc hbs _).alloc (by simp; omega) _).grown hgrow1 (by simp; omega) (fun x e => (HO.out.lt x e).1)).alloc (by omega) _)).grown hgrow2 (by simp; omega) (fun x e => (hown1.lt x e).1)
        have HB2 := Lib.hid hB2
        have hR : w2.ownsRow w.heap.size 5 1 v2 (sz L (k + 1)) (vals (J L (k + 1)) (sz L (k + 1))) := by
          rw [← HJ.out, HSE.out]
          simpa [vals, Nat.add_assoc] using hown2
        have HRR := Lib.hid hR
        clear hR hB2 hown2 hown1 hgrow1 hgrow2 hat1 hat2 hnil1 hnil2 ct1 ct2 c0 c1
        go_roundw
        case rel => exact ⟨k + 1, by omega, by go_num, HRR.out, HB2.out⟩
        case measure => simp only [intOf]; omega
      · have hns := HNone
        go_wp2_with (first
          | (at_builtin; refine wpList_append_own_at _ rfl (.tmp 12) (.tmp 15) 43 rfl w.heap.size 5 i0 (.int .u8 0) 1 1 Try.underlying43 hi hz0 hz1 hz2 rfl (by decide) u3 s _ rfl ((HO.out.alloc _).alloc _) ⟨wr.heap.size + 1, 0, none⟩ 1 1 [.int .u8 ty] rfl rfl (one_new2 wr _ _ _) (int_one _ _) m1 (by omega) (by simp; omega) ?_; intro v1 w1 hown1 hgrow1 hnil1 hat1; have ct1 : w1.cell? ⟨wr.heap.size, 1, none⟩ = some (.slice (some ad) n lc) := hgrow1.cell (by simp) hfar)
          | (at_builtin; refine wpList_append_own_at _ rfl (.tmp 17) (.tmp 22) 43 rfl w.heap.size 5 i0 (.int .u8 0) 1 1 Try.underlying43 hi hz0 hz1 hz2 rfl (by decide) v1 (s + 1) _ rfl (hown1.alloc _) ⟨w1.heap.size, 0, none⟩ 1 1 [.int .u8 (n : Int)] rfl rfl (one_new w1 _ _) (int_one _ _) m2 (by omega) (by have := hgrow1.size; simp at this ⊢; omega) ?_; intro v2 w2 hown2 hgrow2 hnil2 hat2; have ct2 : w2.cell? ⟨wr.heap.size, 1, none⟩ = some (.slice (some ad) n lc) := hgrow2.cell (by rw [World.cell?_alloc_lt _ _ _ (cell_lt ct1)]; exact ct1) (far_step hat1 hfar (by simp; omega)))
          | (at_builtin; refine wpList_append_own_at _ rfl (.tmp 24) (.tmp 26) 43 rfl w.heap.size 5 i0 (.int .u8 0) 1 1 Try.underlying43 hi hz0 hz1 hz2 rfl (by decide) v2 (s + 1 + 1) _ rfl hown2 ad n lc (vals (L k).z n) rfl hHNL.out (rd_news' (HRd.out.below ((((((hb.alloc hbs _).alloc (by simp; omega) _).grown hgrow1 (by simp; omega) (fun x e => (HO.out.lt x e).1)).alloc (by have := hgrow1.size; simp at this; omega) _)).grown hgrow2 (by have := hgrow1.size; simp at this ⊢; omega) (fun x e => (hown1.lt x e).1)) rfl)) hHN1.out m3 (by omega) (by have := hgrow1.size; have h2 := hgrow2.size; simp at this h2; omega) ?_; intro v3 w3 hown3 hgrow3 hnil3 hat3))
        have hs1' := hgrow1.size
        have hs2' := hgrow2.size
        simp at hs1' hs2'
        have hB2 := (((((hb.alloc hbs _).alloc (by simp; omega) _).grown hgrow1 (by simp; omega) (fun x e => (HO.out.lt x e).1)).alloc (by omega) _)).grown hgrow2 (by simp; omega) (fun x e => (hown1.lt x e).1)
        have hs3' := hgrow3.size
        have hB3 := hB2.grown hgrow3 (by omega) (fun x e => (hown2.lt x e).1)
        have HB2 := Lib.hid hB3
        have hR : w3.ownsRow w.heap.size 5 1 v3 (sz L (k + 1)) (vals (J L (k + 1)) (sz L (k + 1))) := by
          rw [← HJ.out, HSE.out, show s + (2 + n) = s + 1 + 1 + n by omega]
          exact hown3
        have HRR := Lib.hid hR
        clear hR hB2 hB3 hown2 hown1 hown3 hgrow1 hgrow2 hgrow3 hat1 hat2 hat3 hnil1 hnil2 hnil3 ct1 ct2 c0 c1
        go_roundw
        case rel => exact ⟨k + 1, by omega, by go_num, HRR.out, HB2.out⟩
        case measure => simp only [intOf]; omega
    · obtain rfl : k = m := by omega
      have ho := Lib.hid hown
      clear hown
      go_wp2
      go_ret
      exact ⟨_, rfl, ho.out, hb⟩

/-- what DocJoin leaves -/
def DocJoinPost (w : World) (L : Nat → It) (m m0 : Nat) (e : Ending) (w' : World) : Prop :=
  (m0 = m ∧ ∃ v, e = .returned (.tuple #[v, .int .i64 0]) ∧ w'.ownsRow w.heap.size 5 1 v (sz L m) (vals (J L m) (sz L m)) ∧ Below w.heap.size w w') ∨
  (m0 < m ∧ e = .returned (.tuple #[.slice none 0 0, .int .i64 2]) ∧ Below w.heap.size w w')

set_option maxHeartbeats 4000000 in
set_option maxRecDepth 100000 in
theorem docjoin_any (A : Option Addr) (m c m0 : Nat) (L : Nat → It) (w : World) (h : RdT w A m L) (hc : m ≤ c) (hcm : c ≤ 9223372036854775807) (hm : JEnds L m m0) :
    Calls Try.prog 28 #[.slice A m c] w (DocJoinPost w L m m0) := by
  obtain ⟨i0, hi, hz0, hz1, hz2⟩ := info_parts info_u8
  have HM := Lib.hid hm
  have HR := Lib.hid h
  have hm0 := hm.1
  clear h hm
  go_enter Try.func28, Try.ntmps28
  go_wp2_with fail
  go_loopw [4, 9] (fun s i wr => ∃ k : Nat, k ≤ m0 ∧ s = .int .i64 (sz L k : Nat) ∧ i = .int .i64 k ∧ Below w.heap.size w wr)
    (fun _ i _ => m - (intOf i).toNat)
  case atStart => exact ⟨0, by omega, rfl, rfl, bself w⟩
  case round =>
    obtain ⟨k, hk, rfl, rfl, hb⟩ := hrel
    by_cases hkm : k < m
    · obtain ⟨b, off, rfl, hr⟩ := (HR.out.below hb).row (by omega)
      obtain ⟨c0, c1, c2⟩ := hr.2 k hkm
      have hn := c2.2.2.2
      have hs : sz L k ≤ 1492 := by
        rcases Nat.eq_zero_or_pos k with h0 | h0
        · subst h0; simp [sz]
        · have := HM.out.2.1 (k - 1) (by omega)
          unfold bad at this
          rw [show k - 1 + 1 = k by omega] at this
          omega
      have hs1 : sz L (k + 1) = sz L k + (2 + (L k).n) := rfl
      have HB2 := Lib.hid c2
      generalize hLn : (L k).n = n at *
      generalize hLs : sz L k = s at *
      by_cases hk0 : k < m0
      · have hnb := HM.out.2.1 k hk0
        unfold bad at hnb
        rw [hs1, hLn] at hnb
        have q1 : (n : Int) ≤ 255 := by omega
        have q2 : (s : Int) + (2 + (n : Int)) ≤ 1492 := by omega
        have HS1 := Lib.hid hs1
        have HLs := Lib.hid hLs
        have HLn := Lib.hid hLn
        clear hnb hs1 hr hLn hLs c2
        go_wp2
        go_roundw
        case rel => exact ⟨k + 1, by omega, by rw [HS1.out]; go_num, by go_num, hb.alloc hb.size _⟩
        case measure => simp only [intOf]; omega
      · obtain rfl : k = m0 := by omega
        have hbad : bad L k := by
          rcases HM.out.2.2 with h | h
          · omega
          · exact h.2
        unfold bad at hbad
        rw [hs1, hLn] at hbad
        have hend : DocJoinPost w L m k (.returned (.tuple #[.slice none 0 0, .int .i64 2])) (wr.alloc (.cells #[.int .u8 (L k).ty, .slice (L k).A n (L k).c] 105)) := .inr ⟨hkm, rfl, hb.alloc hb.size _⟩
        have HE := Lib.hid hend
        have HBA := Lib.hid hbad
        clear hs1 hr hLn hLs c2 hend hbad
        by_cases h1 : 255 < n
        · have q1 : (255 : Int) < (n : Int) := by omega
          go_wp2
          go_ret2
          exact HE.out
        · have q1 : (n : Int) ≤ 255 := by omega
          have q2 : (1492 : Int) < (s : Int) + (2 + (n : Int)) := by have := HBA.out; omega
          go_wp2
          go_ret2
          exact HE.out
    · obtain rfl : k = m := by omega
      obtain rfl : m0 = k := by omega
      have H := Lib.hid (refjoin_any A m0 c L wr (HR.out.below hb) hc hcm HM.out.2.1)
      go_wp2_with fail
      refine (H.out).mono ?_
      rintro e w1 ⟨v, rfl, ho, hb1⟩
      have HO := Lib.hid (show w1.ownsRow w.heap.size 5 1 v (sz L m0) (vals (J L m0) (sz L m0)) from ⟨ho.1, ho.2.elim .inl (fun ⟨g, cap, cur, hv, hg, r⟩ => .inr ⟨g, cap, cur, hv, Nat.le_trans hb.size hg, r⟩)⟩)
      have HB := Lib.hid (hb.trans (hb1.mono hb.size))
      clear ho hb1
      go_wp2
      go_ret2
      exact .inl ⟨rfl, v, rfl, HO.out, HB.out⟩
end Go.Proofs.Ytkiaijmhoikdiaa

/- Bytes that grow by appends while other blocks stay as they are. Each theorem states its conditions. -/
namespace Go.Proofs.Ytkiaijmhoikdiaa
open Go.RowKit
set_option linter.unusedVariables false

/-- blocks that stay as they are -/
def Kp (w : World) (l : List (Nat × Obj)) : Prop := ∀ p ∈ l, w.heap[p.1]? = some p.2
/-- bytes that grow: v is a row of the call's own, apart from the blocks of l -/
def Out (w0 w : World) (v : Value) (n : Nat) (z : Nat → Int) (l : List (Nat × Obj)) : Prop :=
  OwnB w w0.heap.size v n z ∧ Below w0.heap.size w0 w ∧ Kp w l ∧ ∀ p ∈ l, v.ownBlock ≠ some p.1
theorem Kp.nil (w : World) : Kp w [] := fun p h => by cases h
theorem Kp.cons {w : World} {l : List (Nat × Obj)} {g : Nat} {o : Obj} (h : Kp w l) (hg : w.heap[g]? = some o) : Kp w ((g, o) :: l) := by
  intro p hp
  rcases List.mem_cons.1 hp with rfl | hp
  · exact hg
  · exact h p hp
theorem Kp.tail {w : World} {l : List (Nat × Obj)} {q : Nat × Obj} (h : Kp w (q :: l)) : Kp w l := fun p hp => h p (List.mem_cons_of_mem _ hp)
theorem Kp.below {w w' : World} {l : List (Nat × Obj)} (h : Kp w l) (hb : Below w.heap.size w w') : Kp w' l := fun p hp => (hb.block _ (Array.getElem?_eq_some_iff.1 (h p hp)).1).trans (h p hp)
section
variable {w0 w w' : World} {v : Value} {n : Nat} {z : Nat → Int} {l : List (Nat × Obj)}
theorem Out.kp (h : Out w0 w v n z l) : Kp w l := h.2.2.1
theorem Out.le (h : Out w0 w v n z l) : w0.heap.size ≤ w.heap.size := h.2.1.size
theorem Out.tail {q : Nat × Obj} (h : Out w0 w v n z (q :: l)) : Out w0 w v n z l := ⟨h.1, h.2.1, h.2.2.1.tail, fun p hp => h.2.2.2 p (List.mem_cons_of_mem _ hp)⟩
theorem Out.below (h : Out w0 w v n z l) (hb : Below w.heap.size w w') : Out w0 w' v n z l := ⟨h.1.below hb, h.2.1.trans (hb.mono h.le), h.2.2.1.below hb, h.2.2.2⟩
theorem Out.new (h : Out w0 w v n z l) (hb : Below w.heap.size w w') {g : Nat} {o : Obj} (hg : w.heap.size ≤ g) (ho : w'.heap[g]? = some o) : Out w0 w' v n z ((g, o) :: l) := by
  refine ⟨h.1.below hb, h.2.1.trans (hb.mono h.le), (h.2.2.1.below hb).cons ho, fun p hp => ?_⟩
  rcases List.mem_cons.1 hp with rfl | hp
  · intro e
    have := (h.1.1.lt _ e).2
    simp only at this
    omega
  · exact h.2.2.2 p hp
theorem Out.alloc (h : Out w0 w v n z l) (C : Array Value) (t : TypeId) : Out w0 (w.alloc (.cells C t)) v n z ((w.heap.size, .cells C t (0, 0)) :: l) := h.new ((bself w).alloc (Nat.le_refl _) _) (Nat.le_refl _) (heap_alloc_new w _)
end
/-- an append to bytes that grow -/
theorem out_run {o : Oper} {a : Act} {w0 w : World} {v : Value} {n : Nat} {z : Nat → Int} {l : List (Nat × Obj)} (s x : Operand)
    (ho : o.op = .call { callee := .builtin .append, args := #[s, x], argTypes := #[43, 43] })
    (hs : a.eval s = v) (h : Out w0 w v n z l) (A : Option Addr) (m c : Nat) (zx : Nat → Int) (hx : a.eval x = .slice A m c) (hR : Rd w A m zx) (hA : A = none → m = 0 ∧ c = 0) (hn : n + m ≤ 140737488355328) :
    ∃ v' w', (execOp a.eval o).run Try.prog w = .ok (.value v') w' ∧ Out w0 w' v' (n + m) (cat z n zx) l ∧ w.heap.size ≤ w'.heap.size := by
  rcases A with _ | ad
  · obtain ⟨rfl, rfl⟩ := hA rfl
    refine ⟨v, w, ?_, ⟨⟨?_, cat_bd h.1.2 hR.2⟩, h.2⟩, Nat.le_refl _⟩
    · obtain ⟨i0, hi, hz0, hz1, hz2⟩ := info_parts info_u8
      obtain ⟨g, cap, hv⟩ : ∃ A c, v = .slice A n c := by obtain ⟨A, c, h1, _⟩ := h.1.shape; exact ⟨A, c, h1⟩
      have hr := run_append_owned_none (P := Try.prog) (w := w) w0.heap.size 43 o.type 5 i0 1 Try.underlying43 hi v n _ h.1.1
      simp [execOp, ho, resolve, invoke, builtin, hs, hx, hr, Result.andThen]
    · rw [Nat.add_zero, vals_ext (z' := z) (fun j hj => by unfold cat; rw [if_pos hj])]
      exact h.1.1
  · obtain ⟨v', w', h2, h3, h4, h5, h6⟩ := app_run s x ho w0 v n _ hs h.1.1 h.2.1 ad m c (vals zx m) hx (vals_len _ _) (rd_newsB hR) (vals_one _ _) hn
    rw [vals_cat] at h3
    have hb : ∀ p ∈ l, w'.heap[p.1]? = w.heap[p.1]? ∧ v'.ownBlock ≠ some p.1 := fun p hp => h6 p.1 (Array.getElem?_eq_some_iff.1 (h.2.2.1 p hp)).1 (h.2.2.2 p hp)
    exact ⟨v', w', h2, ⟨⟨h3, cat_bd h.1.2 hR.2⟩, h4, fun p hp => (hb p hp).1.trans (h.2.2.1 p hp), fun p hp => (hb p hp).2⟩, h5⟩
section
variable {ops : Array Oper} {Q : Exit → Act → World → Prop} {md : Region.Mode} {S : World → Prop}
/-- an append alone may come up -/
theorem takeOut {i : Nat} {oi : Oper} (d : Option Tmp) {fuel : Nat} {listed : Array Bool} {a : Act} {w0 w : World} {v : Value} {n : Nat} {z : Nat → Int} {l : List (Nat × Obj)} (s x : Operand) (hi : ops[i]? = some oi) (hd : oi.dst = d)
    (hr : Region.ready md ops listed = [i]) (hw : Region.wanted oi (yielded ops a.tmps) = true)
    (ho : oi.op = .call { callee := .builtin .append, args := #[s, x], argTypes := #[43, 43] })
    (hs : a.eval s = v) (h : Out w0 w v n z l) (A : Option Addr) (m c : Nat) (zx : Nat → Int) (hx : a.eval x = .slice A m c) (hR : Rd w A m zx) (hA : A = none → m = 0 ∧ c = 0) (hn : n + m ≤ 140737488355328)
    (k : ∀ v' w', Out w0 w' v' (n + m) (cat z n zx) l → S w' ∧ wpAnyH Try.prog md ops Q S fuel (listed.setIfInBounds i true) (a.put d v') w') :
    wpAnyH Try.prog md ops Q S (fuel + 1) listed a w := by
  obtain ⟨v', w', h2, h3, _⟩ := out_run s x ho hs h A m c zx hx hR hA hn
  obtain ⟨h7, h8⟩ := k v' w' h3
  exact takeV d hi hd hr hw h2 h7 h8
/-- of several that may come up: an append -/
theorem consOut {i : Nat} {oi : Oper} (d : Option Tmp) {rs : List Nat} {fuel : Nat} {listed : Array Bool} {a : Act} {w0 w : World} {v : Value} {n : Nat} {z : Nat → Int} {l : List (Nat × Obj)} (s x : Operand) (hi : ops[i]? = some oi) (hd : oi.dst = d)
    (hw : Region.wanted oi (yielded ops a.tmps) = true)
    (ho : oi.op = .call { callee := .builtin .append, args := #[s, x], argTypes := #[43, 43] })
    (hs : a.eval s = v) (h : Out w0 w v n z l) (A : Option Addr) (m c : Nat) (zx : Nat → Int) (hx : a.eval x = .slice A m c) (hR : Rd w A m zx) (hA : A = none → m = 0 ∧ c = 0) (hn : n + m ≤ 140737488355328)
    (k : ∀ v' w', Out w0 w' v' (n + m) (cat z n zx) l → S w' ∧ wpAnyH Try.prog md ops Q S fuel (listed.setIfInBounds i true) (a.put d v') w') (hs' : AllReadyH Try.prog md ops Q S fuel listed a w rs) :
    AllReadyH Try.prog md ops Q S fuel listed a w (i :: rs) := by
  obtain ⟨v', w', h2, h3, _⟩ := out_run s x ho hs h A m c zx hx hR hA hn
  obtain ⟨h7, h8⟩ := k v' w' h3
  exact consVW d hi hd hw h2 h7 h8 hs'
/-- an append, in the order of the text -/
theorem wpList_out {rest : List Oper} {op : Oper} {a : Act} {w0 w : World} {v : Value} {n : Nat} {z : Nat → Int} {l : List (Nat × Obj)} (hgd : op.guard = none) (s x : Operand)
    (ho : op.op = .call { callee := .builtin .append, args := #[s, x], argTypes := #[43, 43] })
    (hs : a.eval s = v) (h : Out w0 w v n z l) (A : Option Addr) (m c : Nat) (zx : Nat → Int) (hx : a.eval x = .slice A m c) (hR : Rd w A m zx) (hA : A = none → m = 0 ∧ c = 0) (hn : n + m ≤ 140737488355328)
    (k : ∀ v' w', Out w0 w' v' (n + m) (cat z n zx) l → wpList Try.prog ops Q rest (a.put op.dst v') w') : wpList Try.prog ops Q (op :: rest) a w := by
  obtain ⟨v', w', h2, h3, _⟩ := out_run s x ho hs h A m c zx hx hR hA hn
  refine wpList_plain hgd fun K hK => ?_
  unfold Oper.wp
  rw [h2, Oper.upon_value]
  exact hK _ _ (k v' w' h3)
end
/-- bytes that a call made: they can be read as long as their block stays -/
theorem own_has {w : World} {base n : Nat} {v : Value} {z : Nat → Int} (h : OwnB w base v n z) : ∃ A c, ∃ l : List (Nat × Obj), v = .slice A n c ∧ n ≤ c ∧ c ≤ maxLen ∧ (A = none → n = 0 ∧ c = 0) ∧ Kp w l ∧ ∀ w', Kp w' l → Rd w' A n z := by
  rcases h.1.2 with ⟨rfl, rfl⟩ | ⟨g, cap, cur, rfl, hb, hc, h1, h2, h3, h4⟩
  · exact ⟨none, 0, [], rfl, Nat.le_refl _, by decide, fun _ => ⟨rfl, rfl⟩, Kp.nil w, fun w' _ => ⟨.inl rfl, h.2⟩⟩
  · refine ⟨some ⟨g, 0, none⟩, cap, [(g, .cells cur 5 (0, 0))], rfl, h1, h2, fun e => (by cases e), (Kp.nil w).cons hc, fun w' hk => ?_⟩
    obtain ⟨A, c, he, _, _, _, hR⟩ := h.shape
    injection he with e1 e2 e3
    subst e1
    rcases hR.1 with h0 | ⟨b, off, e, hr⟩
    · exact ⟨.inl h0, h.2⟩
    · injection e with e
      injection e with e1 e2
      subst e1 e2
      have hg := hk (g, .cells cur 5 (0, 0)) List.mem_cons_self
      exact ⟨.inr ⟨g, 0, rfl, (Array.getElem?_eq_some_iff.1 hg).1, fun j hj => by rw [← hr.2.1 j hj, cell_of_row w g _ _ _ _ hc, cell_of_row w' g _ _ _ _ hg], h.2⟩, h.2⟩
/-- the same of a row -/
theorem own8_has {w : World} {g n cap : Nat} {z : Nat → Int} (h : Own8 w g n cap z) : ∃ o : Obj, w.heap[g]? = some o ∧ ∀ w' : World, w'.heap[g]? = some o → Own8 w' g n cap z := by
  obtain ⟨⟨cur, hg, h1⟩, h2⟩ := h
  exact ⟨_, hg, fun w' hk => ⟨⟨cur, hk, h1⟩, h2⟩⟩
theorem out_first {w0 w w' : World} {g n c : Nat} {z : Nat → Int} {l : List (Nat × Obj)} (hk : Kp w l) (hb : Below w0.heap.size w0 w) (hb' : Below w.heap.size w w') (ho : Own8 w' g n c z) (hg : w.heap.size ≤ g) : Out w0 w' (.slice (some ⟨g, 0, none⟩) n c) n z l :=
  ⟨ho.ownB (Nat.le_trans hb.size hg), hb.trans (hb'.mono hb.size), hk.below hb', fun p hp e => by
    have := (Array.getElem?_eq_some_iff.1 (hk p hp)).1
    simp [Value.ownBlock] at e
    omega⟩
theorem Kp.head {w : World} {l : List (Nat × Obj)} {q : Nat × Obj} (h : Kp w (q :: l)) : w.heap[q.1]? = some q.2 := h q List.mem_cons_self
theorem rd_one {w : World} {g : Nat} {a : Int} {C : Array Value} (h : w.heap[g]? = some (.cells C 5 (0, 0))) (hC : C = #[.int .u8 a]) (ha : 0 ≤ a ∧ a ≤ 255) : Rd w (some ⟨g, 0, none⟩) 1 (fun _ => a) := by
  subst hC
  refine ⟨.inr ⟨g, 0, rfl, (Array.getElem?_eq_some_iff.1 h).1, fun j hj => ?_, fun _ => ha⟩, fun _ => ha⟩
  rw [cell_of_row w g _ _ _ _ h]
  obtain rfl : j = 0 := by omega
  rfl
theorem rd_two0 {w : World} {g : Nat} (h : w.heap[g]? = some (.cells #[.int .u8 0, .int .u8 0] 5 (0, 0))) : Rd w (some ⟨g, 0, none⟩) 2 (fun _ => 0) := by
  refine ⟨.inr ⟨g, 0, rfl, (Array.getElem?_eq_some_iff.1 h).1, fun j hj => ?_, fun _ => ⟨Int.le_refl 0, (by omega : (0 : Int) ≤ 255)⟩⟩, fun _ => ⟨Int.le_refl 0, (by omega : (0 : Int) ≤ 255)⟩⟩
  rw [cell_of_row w g _ _ _ _ h]
  rcases (by omega : j = 0 ∨ j = 1) with rfl | rfl <;> rfl
/-- a run of cells is read, in the order of the text -/
theorem wpList_ldr {ops : Array Oper} {Q : Exit → Act → World → Prop} {rest : List Oper} {op : Oper} {a : Act} {w : World} (hw : Region.wanted op (yielded ops a.tmps) = true) (ty : TypeId) (x : Operand) (ho : op.op = .load ty x) (b off : Nat) (hx : a.eval x = .pointer (some ⟨b, off, none⟩)) (cs : Array Value) (d : TypeDesc) (hc : w.rangeAt b off cs.toList) (hu : Try.prog.underlying ty = some d) (hd : d.isRow = true) (hi : (Try.prog.info? ty).map (·.size) = some cs.size)
    (h : wpList Try.prog ops Q rest (a.put op.dst (.agg cs)) w) : wpList Try.prog ops Q (op :: rest) a w :=
  wpList_gv (.agg cs) hw (by have := load_rng op a.eval ty x ho b off hx cs.toList d hc hu hd (by simpa using hi); simpa using this) h
end Go.Proofs.Ytkiaijmhoikdiaa

/- The document's Fields: may the fields of a packet stand so. Each theorem states its conditions. -/
namespace Go.Proofs.Ytkiaijmhoikdiaa
open Go.RowKit
set_option linter.unusedVariables false

set_option maxHeartbeats 2000000 in
set_option maxRecDepth 100000 in
theorem fields_17 (p : Pd) (hk : p.kd = 17) (b : Bool) (hb : decide (p.ci ≠ 0 ∧ p.ci ≤ 3 ∧ 0 ≤ p.ho ∧ p.ho ≤ 65535) = b) (w : World) : Calls Try.prog 27 #[.agg (pdC p)] w fun e w' => e = .returned (.bool b) ∧ Below w.heap.size w w' := by
  have hx : PdT 42 (w.alloc (.cells (pdC p) 42)) w.heap.size p := heap_alloc_new w _
  have c0 : (w.alloc (.cells (pdC p) 42)).cell? ⟨w.heap.size, 0, none⟩ = some (.int .u8 p.kd) := (hx.cell 0).trans rfl
  have c1 : (w.alloc (.cells (pdC p) 42)).cell? ⟨w.heap.size, 1, none⟩ = some (.int .u8 p.ci) := (hx.cell 1).trans rfl
  have c9 : (w.alloc (.cells (pdC p) 42)).cell? ⟨w.heap.size, 9, none⟩ = some (.int .i64 p.ho) := (hx.cell 9).trans rfl
  have HB := Lib.hid ((bself w).alloc (Nat.le_refl _) (.cells (pdC p) 42))
  have HE := Lib.hid (refHead_any 17 0 rfl (by decide))
  have HH := Lib.hid (hello_yes 17 (by decide))
  have HL := Lib.hid (lsp_no 17 (by decide))
  rw [hk] at c0
  clear hk hx
  obtain ⟨ci, hci⟩ : ∃ ci, p.ci = ci := ⟨_, rfl⟩
  rw [hci] at c1 hb
  clear hci
  obtain ⟨ho, hho⟩ : ∃ ho, p.ho = ho := ⟨_, rfl⟩
  rw [hho] at c9 hb
  clear hho
  by_cases t : ci = 0
  · obtain rfl : false = b := by rw [← hb]; exact (decide_eq_false (by omega)).symm
    clear hb
    have f0 : (ci == 0) = true := by simp; omega
    go_enter Try.func27, Try.ntmps27
    go_wp2_with fail
    refine (HE.out _).mono ?_
    rintro e w1 ⟨rfl, rfl⟩
    go_wp2_with fail
    refine (HH.out _).mono ?_
    rintro e w1 ⟨rfl, rfl⟩
    go_wp2_with fail
    go_ret
    exact ⟨rfl, HB.out⟩
  have t28 := t; clear t
  by_cases t : 3 < ci
  · obtain rfl : false = b := by rw [← hb]; exact (decide_eq_false (by omega)).symm
    clear hb
    have f0 : (ci == 0) = false := by simp; omega
    have f1 : decide (3 < ci) = true := by simp; omega
    go_enter Try.func27, Try.ntmps27
    go_wp2_with fail
    refine (HE.out _).mono ?_
    rintro e w1 ⟨rfl, rfl⟩
    go_wp2_with fail
    refine (HH.out _).mono ?_
    rintro e w1 ⟨rfl, rfl⟩
    go_wp2_with fail
    go_ret
    exact ⟨rfl, HB.out⟩
  have t44 := t; clear t
  by_cases t : ho < 0
  · obtain rfl : false = b := by rw [← hb]; exact (decide_eq_false (by omega)).symm
    clear hb
    have f0 : (ci == 0) = false := by simp; omega
    have f1 : decide (3 < ci) = false := by simp; omega
    have f2 : decide (ho < 0) = true := by simp; omega
    go_enter Try.func27, Try.ntmps27
    go_wp2_with fail
    refine (HE.out _).mono ?_
    rintro e w1 ⟨rfl, rfl⟩
    go_wp2_with fail
    refine (HH.out _).mono ?_
    rintro e w1 ⟨rfl, rfl⟩
    go_wp2_with fail
    go_ret
    exact ⟨rfl, HB.out⟩
  have t61 := t; clear t
  by_cases t : 65535 < ho
  · obtain rfl : false = b := by rw [← hb]; exact (decide_eq_false (by omega)).symm
    clear hb
    have f0 : (ci == 0) = false := by simp; omega
    have f1 : decide (3 < ci) = false := by simp; omega
    have f2 : decide (ho < 0) = false := by simp; omega
    have f3 : decide (65535 < ho) = true := by simp; omega
    go_enter Try.func27, Try.ntmps27
    go_wp2_with fail
    refine (HE.out _).mono ?_
    rintro e w1 ⟨rfl, rfl⟩
    go_wp2_with fail
    refine (HH.out _).mono ?_
    rintro e w1 ⟨rfl, rfl⟩
    go_wp2_with fail
    go_ret
    exact ⟨rfl, HB.out⟩
  have t79 := t; clear t
  obtain rfl : true = b := by rw [← hb]; exact (decide_eq_true (by omega)).symm
  clear hb
  have f0 : (ci == 0) = false := by simp; omega
  have f1 : decide (3 < ci) = false := by simp; omega
  have f2 : decide (ho < 0) = false := by simp; omega
  have f3 : decide (65535 < ho) = false := by simp; omega
  go_enter Try.func27, Try.ntmps27
  go_wp2_with fail
  refine (HE.out _).mono ?_
  rintro e w1 ⟨rfl, rfl⟩
  go_wp2_with fail
  refine (HH.out _).mono ?_
  rintro e w1 ⟨rfl, rfl⟩
  go_wp2_with fail
  refine (HL.out _).mono ?_
  rintro e w1 ⟨rfl, rfl⟩
  go_wp2_with fail
  go_ret
  exact ⟨rfl, HB.out⟩
set_option maxHeartbeats 2000000 in
set_option maxRecDepth 100000 in
theorem fields_15 (p : Pd) (hk : p.kd = 15) (b : Bool) (hb : decide (p.ci ≠ 0 ∧ p.ci ≤ 3 ∧ 0 ≤ p.ho ∧ p.ho ≤ 65535 ∧ p.pr ≤ 127) = b) (w : World) : Calls Try.prog 27 #[.agg (pdC p)] w fun e w' => e = .returned (.bool b) ∧ Below w.heap.size w w' := by
  have hx : PdT 42 (w.alloc (.cells (pdC p) 42)) w.heap.size p := heap_alloc_new w _
  have c0 : (w.alloc (.cells (pdC p) 42)).cell? ⟨w.heap.size, 0, none⟩ = some (.int .u8 p.kd) := (hx.cell 0).trans rfl
  have c1 : (w.alloc (.cells (pdC p) 42)).cell? ⟨w.heap.size, 1, none⟩ = some (.int .u8 p.ci) := (hx.cell 1).trans rfl
  have c9 : (w.alloc (.cells (pdC p) 42)).cell? ⟨w.heap.size, 9, none⟩ = some (.int .i64 p.ho) := (hx.cell 9).trans rfl
  have c11 : (w.alloc (.cells (pdC p) 42)).cell? ⟨w.heap.size, 11, none⟩ = some (.int .u8 p.pr) := (hx.cell 11).trans rfl
  have HB := Lib.hid ((bself w).alloc (Nat.le_refl _) (.cells (pdC p) 42))
  have HE := Lib.hid (refHead_any 15 1 rfl (by decide))
  have HH := Lib.hid (hello_yes 15 (by decide))
  have HL := Lib.hid (lsp_no 15 (by decide))
  rw [hk] at c0
  clear hk hx
  obtain ⟨ci, hci⟩ : ∃ ci, p.ci = ci := ⟨_, rfl⟩
  rw [hci] at c1 hb
  clear hci
  obtain ⟨ho, hho⟩ : ∃ ho, p.ho = ho := ⟨_, rfl⟩
  rw [hho] at c9 hb
  clear hho
  obtain ⟨pr, hpr⟩ : ∃ pr, p.pr = pr := ⟨_, rfl⟩
  rw [hpr] at c11 hb
  clear hpr
  by_cases t : ci = 0
  · obtain rfl : false = b := by rw [← hb]; exact (decide_eq_false (by omega)).symm
    clear hb
    have f0 : (ci == 0) = true := by simp; omega
    go_enter Try.func27, Try.ntmps27
    go_wp2_with fail
    refine (HE.out _).mono ?_
    rintro e w1 ⟨rfl, rfl⟩
    go_wp2_with fail
    refine (HH.out _).mono ?_
    rintro e w1 ⟨rfl, rfl⟩
    go_wp2_with fail
    go_ret
    exact ⟨rfl, HB.out⟩
  have t128 := t; clear t
  by_cases t : 3 < ci
  · obtain rfl : false = b := by rw [← hb]; exact (decide_eq_false (by omega)).symm
    clear hb
    have f0 : (ci == 0) = false := by simp; omega
    have f1 : decide (3 < ci) = true := by simp; omega
    go_enter Try.func27, Try.ntmps27
    go_wp2_with fail
    refine (HE.out _).mono ?_
    rintro e w1 ⟨rfl, rfl⟩
    go_wp2_with fail
    refine (HH.out _).mono ?_
    rintro e w1 ⟨rfl, rfl⟩
    go_wp2_with fail
    go_ret
    exact ⟨rfl, HB.out⟩
  have t144 := t; clear t
  by_cases t : ho < 0
  · obtain rfl : false = b := by rw [← hb]; exact (decide_eq_false (by omega)).symm
    clear hb
    have f0 : (ci == 0) = false := by simp; omega
    have f1 : decide (3 < ci) = false := by simp; omega
    have f2 : decide (ho < 0) = true := by simp; omega
    go_enter Try.func27, Try.ntmps27
    go_wp2_with fail
    refine (HE.out _).mono ?_
    rintro e w1 ⟨rfl, rfl⟩
    go_wp2_with fail
    refine (HH.out _).mono ?_
    rintro e w1 ⟨rfl, rfl⟩
    go_wp2_with fail
    go_ret
    exact ⟨rfl, HB.out⟩
  have t161 := t; clear t
  by_cases t : 65535 < ho
  · obtain rfl : false = b := by rw [← hb]; exact (decide_eq_false (by omega)).symm
    clear hb
    have f0 : (ci == 0) = false := by simp; omega
    have f1 : decide (3 < ci) = false := by simp; omega
    have f2 : decide (ho < 0) = false := by simp; omega
    have f3 : decide (65535 < ho) = true := by simp; omega
    go_enter Try.func27, Try.ntmps27
    go_wp2_with fail
    refine (HE.out _).mono ?_
    rintro e w1 ⟨rfl, rfl⟩
    go_wp2_with fail
    refine (HH.out _).mono ?_
    rintro e w1 ⟨rfl, rfl⟩
    go_wp2_with fail
    go_ret
    exact ⟨rfl, HB.out⟩
  have t179 := t; clear t
  by_cases t : 127 < pr
  · obtain rfl : false = b := by rw [← hb]; exact (decide_eq_false (by omega)).symm
    clear hb
    have f0 : (ci == 0) = false := by simp; omega
    have f1 : decide (3 < ci) = false := by simp; omega
    have f2 : decide (ho < 0) = false := by simp; omega
    have f3 : decide (65535 < ho) = false := by simp; omega
    have f4 : decide (127 < pr) = true := by simp; omega
    go_enter Try.func27, Try.ntmps27
    go_wp2_with fail
    refine (HE.out _).mono ?_
    rintro e w1 ⟨rfl, rfl⟩
    go_wp2_with fail
    refine (HH.out _).mono ?_
    rintro e w1 ⟨rfl, rfl⟩
    go_wp2_with fail
    go_ret
    exact ⟨rfl, HB.out⟩
  have t198 := t; clear t
  obtain rfl : true = b := by rw [← hb]; exact (decide_eq_true (by omega)).symm
  clear hb
  have f0 : (ci == 0) = false := by simp; omega
  have f1 : decide (3 < ci) = false := by simp; omega
  have f2 : decide (ho < 0) = false := by simp; omega
  have f3 : decide (65535 < ho) = false := by simp; omega
  have f4 : decide (127 < pr) = false := by simp; omega
  go_enter Try.func27, Try.ntmps27
  go_wp2_with fail
  refine (HE.out _).mono ?_
  rintro e w1 ⟨rfl, rfl⟩
  go_wp2_with fail
  refine (HH.out _).mono ?_
  rintro e w1 ⟨rfl, rfl⟩
  go_wp2_with fail
  refine (HL.out _).mono ?_
  rintro e w1 ⟨rfl, rfl⟩
  go_wp2_with fail
  go_ret
  exact ⟨rfl, HB.out⟩
set_option maxHeartbeats 2000000 in
set_option maxRecDepth 100000 in
theorem fields_16 (p : Pd) (hk : p.kd = 16) (b : Bool) (hb : decide (p.ci ≠ 0 ∧ p.ci ≤ 3 ∧ 0 ≤ p.ho ∧ p.ho ≤ 65535 ∧ p.pr ≤ 127) = b) (w : World) : Calls Try.prog 27 #[.agg (pdC p)] w fun e w' => e = .returned (.bool b) ∧ Below w.heap.size w w' := by
  have hx : PdT 42 (w.alloc (.cells (pdC p) 42)) w.heap.size p := heap_alloc_new w _
  have c0 : (w.alloc (.cells (pdC p) 42)).cell? ⟨w.heap.size, 0, none⟩ = some (.int .u8 p.kd) := (hx.cell 0).trans rfl
  have c1 : (w.alloc (.cells (pdC p) 42)).cell? ⟨w.heap.size, 1, none⟩ = some (.int .u8 p.ci) := (hx.cell 1).trans rfl
  have c9 : (w.alloc (.cells (pdC p) 42)).cell? ⟨w.heap.size, 9, none⟩ = some (.int .i64 p.ho) := (hx.cell 9).trans rfl
  have c11 : (w.alloc (.cells (pdC p) 42)).cell? ⟨w.heap.size, 11, none⟩ = some (.int .u8 p.pr) := (hx.cell 11).trans rfl
  have HB := Lib.hid ((bself w).alloc (Nat.le_refl _) (.cells (pdC p) 42))
  have HE := Lib.hid (refHead_any 16 1 rfl (by decide))
  have HH := Lib.hid (hello_yes 16 (by decide))
  have HL := Lib.hid (lsp_no 16 (by decide))
  rw [hk] at c0
  clear hk hx
  obtain ⟨ci, hci⟩ : ∃ ci, p.ci = ci := ⟨_, rfl⟩
  rw [hci] at c1 hb
  clear hci
  obtain ⟨ho, hho⟩ : ∃ ho, p.ho = ho := ⟨_, rfl⟩
  rw [hho] at c9 hb
  clear hho
  obtain ⟨pr, hpr⟩ : ∃ pr, p.pr = pr := ⟨_, rfl⟩
  rw [hpr] at c11 hb
  clear hpr
  by_cases t : ci = 0
  · obtain rfl : false = b := by rw [← hb]; exact (decide_eq_false (by omega)).symm
    clear hb
    have f0 : (ci == 0) = true := by simp; omega
    go_enter Try.func27, Try.ntmps27
    go_wp2_with fail
    refine (HE.out _).mono ?_
    rintro e w1 ⟨rfl, rfl⟩
    go_wp2_with fail
    refine (HH.out _).mono ?_
    rintro e w1 ⟨rfl, rfl⟩
    go_wp2_with fail
    go_ret
    exact ⟨rfl, HB.out⟩
  have t248 := t; clear t
  by_cases t : 3 < ci
  · obtain rfl : false = b := by rw [← hb]; exact (decide_eq_false (by omega)).symm
    clear hb
    have f0 : (ci == 0) = false := by simp; omega
    have f1 : decide (3 < ci) = true := by simp; omega
    go_enter Try.func27, Try.ntmps27
    go_wp2_with fail
    refine (HE.out _).mono ?_
    rintro e w1 ⟨rfl, rfl⟩
    go_wp2_with fail
    refine (HH.out _).mono ?_
    rintro e w1 ⟨rfl, rfl⟩
    go_wp2_with fail
    go_ret
    exact ⟨rfl, HB.out⟩
  have t264 := t; clear t
  by_cases t : ho < 0
  · obtain rfl : false = b := by rw [← hb]; exact (decide_eq_false (by omega)).symm
    clear hb
    have f0 : (ci == 0) = false := by simp; omega
    have f1 : decide (3 < ci) = false := by simp; omega
    have f2 : decide (ho < 0) = true := by simp; omega
    go_enter Try.func27, Try.ntmps27
    go_wp2_with fail
    refine (HE.out _).mono ?_
    rintro e w1 ⟨rfl, rfl⟩
    go_wp2_with fail
    refine (HH.out _).mono ?_
    rintro e w1 ⟨rfl, rfl⟩
    go_wp2_with fail
    go_ret
    exact ⟨rfl, HB.out⟩
  have t281 := t; clear t
  by_cases t : 65535 < ho
  · obtain rfl : false = b := by rw [← hb]; exact (decide_eq_false (by omega)).symm
    clear hb
    have f0 : (ci == 0) = false := by simp; omega
    have f1 : decide (3 < ci) = false := by simp; omega
    have f2 : decide (ho < 0) = false := by simp; omega
    have f3 : decide (65535 < ho) = true := by simp; omega
    go_enter Try.func27, Try.ntmps27
    go_wp2_with fail
    refine (HE.out _).mono ?_
    rintro e w1 ⟨rfl, rfl⟩
    go_wp2_with fail
    refine (HH.out _).mono ?_
    rintro e w1 ⟨rfl, rfl⟩
    go_wp2_with fail
    go_ret
    exact ⟨rfl, HB.out⟩
  have t299 := t; clear t
  by_cases t : 127 < pr
  · obtain rfl : false = b := by rw [← hb]; exact (decide_eq_false (by omega)).symm
    clear hb
    have f0 : (ci == 0) = false := by simp; omega
    have f1 : decide (3 < ci) = false := by simp; omega
    have f2 : decide (ho < 0) = false := by simp; omega
    have f3 : decide (65535 < ho) = false := by simp; omega
    have f4 : decide (127 < pr) = true := by simp; omega
    go_enter Try.func27, Try.ntmps27
    go_wp2_with fail
    refine (HE.out _).mono ?_
    rintro e w1 ⟨rfl, rfl⟩
    go_wp2_with fail
    refine (HH.out _).mono ?_
    rintro e w1 ⟨rfl, rfl⟩
    go_wp2_with fail
    go_ret
    exact ⟨rfl, HB.out⟩
  have t318 := t; clear t
  obtain rfl : true = b := by rw [← hb]; exact (decide_eq_true (by omega)).symm
  clear hb
  have f0 : (ci == 0) = false := by simp; omega
  have f1 : decide (3 < ci) = false := by simp; omega
  have f2 : decide (ho < 0) = false := by simp; omega
  have f3 : decide (65535 < ho) = false := by simp; omega
  have f4 : decide (127 < pr) = false := by simp; omega
  go_enter Try.func27, Try.ntmps27
  go_wp2_with fail
  refine (HE.out _).mono ?_
  rintro e w1 ⟨rfl, rfl⟩
  go_wp2_with fail
  refine (HH.out _).mono ?_
  rintro e w1 ⟨rfl, rfl⟩
  go_wp2_with fail
  refine (HL.out _).mono ?_
  rintro e w1 ⟨rfl, rfl⟩
  go_wp2_with fail
  go_ret
  exact ⟨rfl, HB.out⟩
set_option maxHeartbeats 2000000 in
set_option maxRecDepth 100000 in
theorem fields_18 (p : Pd) (hk : p.kd = 18) (b : Bool) (hb : decide (0 ≤ p.li ∧ p.li ≤ 65535) = b) (w : World) : Calls Try.prog 27 #[.agg (pdC p)] w fun e w' => e = .returned (.bool b) ∧ Below w.heap.size w w' := by
  have hx : PdT 42 (w.alloc (.cells (pdC p) 42)) w.heap.size p := heap_alloc_new w _
  have c0 : (w.alloc (.cells (pdC p) 42)).cell? ⟨w.heap.size, 0, none⟩ = some (.int .u8 p.kd) := (hx.cell 0).trans rfl
  have c19 : (w.alloc (.cells (pdC p) 42)).cell? ⟨w.heap.size, 19, none⟩ = some (.int .i64 p.li) := (hx.cell 19).trans rfl
  have HB := Lib.hid ((bself w).alloc (Nat.le_refl _) (.cells (pdC p) 42))
  have HE := Lib.hid (refHead_any 18 2 rfl (by decide))
  have HH := Lib.hid (hello_no 18 (by decide))
  have HL := Lib.hid (lsp_yes 18 (by decide))
  rw [hk] at c0
  clear hk hx
  obtain ⟨li, hli⟩ : ∃ li, p.li = li := ⟨_, rfl⟩
  rw [hli] at c19 hb
  clear hli
  by_cases t : li < 0
  · obtain rfl : false = b := by rw [← hb]; exact (decide_eq_false (by omega)).symm
    clear hb
    have f0 : decide (0 ≤ li) = false := by simp; omega
    go_enter Try.func27, Try.ntmps27
    go_wp2_with fail
    refine (HE.out _).mono ?_
    rintro e w1 ⟨rfl, rfl⟩
    go_wp2_with fail
    refine (HH.out _).mono ?_
    rintro e w1 ⟨rfl, rfl⟩
    go_wp2_with fail
    refine (HL.out _).mono ?_
    rintro e w1 ⟨rfl, rfl⟩
    go_wp2_with fail
    go_ret
    exact ⟨rfl, HB.out⟩
  have t367 := t; clear t
  by_cases t : 65535 < li
  · obtain rfl : false = b := by rw [← hb]; exact (decide_eq_false (by omega)).symm
    clear hb
    have f0 : decide (0 ≤ li) = true := by simp; omega
    have f1 : decide (li ≤ 65535) = false := by simp; omega
    go_enter Try.func27, Try.ntmps27
    go_wp2_with fail
    refine (HE.out _).mono ?_
    rintro e w1 ⟨rfl, rfl⟩
    go_wp2_with fail
    refine (HH.out _).mono ?_
    rintro e w1 ⟨rfl, rfl⟩
    go_wp2_with fail
    refine (HL.out _).mono ?_
    rintro e w1 ⟨rfl, rfl⟩
    go_wp2_with fail
    go_ret
    exact ⟨rfl, HB.out⟩
  have t386 := t; clear t
  obtain rfl : true = b := by rw [← hb]; exact (decide_eq_true (by omega)).symm
  clear hb
  have f0 : decide (0 ≤ li) = true := by simp; omega
  have f1 : decide (li ≤ 65535) = true := by simp; omega
  go_enter Try.func27, Try.ntmps27
  go_wp2_with fail
  refine (HE.out _).mono ?_
  rintro e w1 ⟨rfl, rfl⟩
  go_wp2_with fail
  refine (HH.out _).mono ?_
  rintro e w1 ⟨rfl, rfl⟩
  go_wp2_with fail
  refine (HL.out _).mono ?_
  rintro e w1 ⟨rfl, rfl⟩
  go_wp2_with fail
  go_ret
  exact ⟨rfl, HB.out⟩
set_option maxHeartbeats 2000000 in
set_option maxRecDepth 100000 in
theorem fields_20 (p : Pd) (hk : p.kd = 20) (b : Bool) (hb : decide (0 ≤ p.li ∧ p.li ≤ 65535) = b) (w : World) : Calls Try.prog 27 #[.agg (pdC p)] w fun e w' => e = .returned (.bool b) ∧ Below w.heap.size w w' := by
  have hx : PdT 42 (w.alloc (.cells (pdC p) 42)) w.heap.size p := heap_alloc_new w _
  have c0 : (w.alloc (.cells (pdC p) 42)).cell? ⟨w.heap.size, 0, none⟩ = some (.int .u8 p.kd) := (hx.cell 0).trans rfl
  have c19 : (w.alloc (.cells (pdC p) 42)).cell? ⟨w.heap.size, 19, none⟩ = some (.int .i64 p.li) := (hx.cell 19).trans rfl
  have HB := Lib.hid ((bself w).alloc (Nat.le_refl _) (.cells (pdC p) 42))
  have HE := Lib.hid (refHead_any 20 2 rfl (by decide))
  have HH := Lib.hid (hello_no 20 (by decide))
  have HL := Lib.hid (lsp_yes 20 (by decide))
  rw [hk] at c0
  clear hk hx
  obtain ⟨li, hli⟩ : ∃ li, p.li = li := ⟨_, rfl⟩
  rw [hli] at c19 hb
  clear hli
  by_cases t : li < 0
  · obtain rfl : false = b := by rw [← hb]; exact (decide_eq_false (by omega)).symm
    clear hb
    have f0 : decide (0 ≤ li) = false := by simp; omega
    go_enter Try.func27, Try.ntmps27
    go_wp2_with fail
    refine (HE.out _).mono ?_
    rintro e w1 ⟨rfl, rfl⟩
    go_wp2_with fail
    refine (HH.out _).mono ?_
    rintro e w1 ⟨rfl, rfl⟩
    go_wp2_with fail
    refine (HL.out _).mono ?_
    rintro e w1 ⟨rfl, rfl⟩
    go_wp2_with fail
    go_ret
    exact ⟨rfl, HB.out⟩
  have t432 := t; clear t
  by_cases t : 65535 < li
  · obtain rfl : false = b := by rw [← hb]; exact (decide_eq_false (by omega)).symm
    clear hb
    have f0 : decide (0 ≤ li) = true := by simp; omega
    have f1 : decide (li ≤ 65535) = false := by simp; omega
    go_enter Try.func27, Try.ntmps27
    go_wp2_with fail
    refine (HE.out _).mono ?_
    rintro e w1 ⟨rfl, rfl⟩
    go_wp2_with fail
    refine (HH.out _).mono ?_
    rintro e w1 ⟨rfl, rfl⟩
    go_wp2_with fail
    refine (HL.out _).mono ?_
    rintro e w1 ⟨rfl, rfl⟩
    go_wp2_with fail
    go_ret
    exact ⟨rfl, HB.out⟩
  have t451 := t; clear t
  obtain rfl : true = b := by rw [← hb]; exact (decide_eq_true (by omega)).symm
  clear hb
  have f0 : decide (0 ≤ li) = true := by simp; omega
  have f1 : decide (li ≤ 65535) = true := by simp; omega
  go_enter Try.func27, Try.ntmps27
  go_wp2_with fail
  refine (HE.out _).mono ?_
  rintro e w1 ⟨rfl, rfl⟩
  go_wp2_with fail
  refine (HH.out _).mono ?_
  rintro e w1 ⟨rfl, rfl⟩
  go_wp2_with fail
  refine (HL.out _).mono ?_
  rintro e w1 ⟨rfl, rfl⟩
  go_wp2_with fail
  go_ret
  exact ⟨rfl, HB.out⟩
set_option maxHeartbeats 2000000 in
set_option maxRecDepth 100000 in
theorem fields_24 (p : Pd) (hk : p.kd = 24) (b : Bool) (hb : decide (True) = b) (w : World) : Calls Try.prog 27 #[.agg (pdC p)] w fun e w' => e = .returned (.bool b) ∧ Below w.heap.size w w' := by
  have hx : PdT 42 (w.alloc (.cells (pdC p) 42)) w.heap.size p := heap_alloc_new w _
  have c0 : (w.alloc (.cells (pdC p) 42)).cell? ⟨w.heap.size, 0, none⟩ = some (.int .u8 p.kd) := (hx.cell 0).trans rfl
  have HB := Lib.hid ((bself w).alloc (Nat.le_refl _) (.cells (pdC p) 42))
  have HE := Lib.hid (refHead_any 24 3 rfl (by decide))
  have HH := Lib.hid (hello_no 24 (by decide))
  have HL := Lib.hid (lsp_no 24 (by decide))
  rw [hk] at c0
  clear hk hx
  obtain rfl : true = b := by rw [← hb]; exact (decide_eq_true (trivial)).symm
  clear hb
  go_enter Try.func27, Try.ntmps27
  go_wp2_with fail
  refine (HE.out _).mono ?_
  rintro e w1 ⟨rfl, rfl⟩
  go_wp2_with fail
  refine (HH.out _).mono ?_
  rintro e w1 ⟨rfl, rfl⟩
  go_wp2_with fail
  refine (HL.out _).mono ?_
  rintro e w1 ⟨rfl, rfl⟩
  go_wp2_with fail
  go_ret
  exact ⟨rfl, HB.out⟩
set_option maxHeartbeats 2000000 in
set_option maxRecDepth 100000 in
theorem fields_25 (p : Pd) (hk : p.kd = 25) (b : Bool) (hb : decide (True) = b) (w : World) : Calls Try.prog 27 #[.agg (pdC p)] w fun e w' => e = .returned (.bool b) ∧ Below w.heap.size w w' := by
  have hx : PdT 42 (w.alloc (.cells (pdC p) 42)) w.heap.size p := heap_alloc_new w _
  have c0 : (w.alloc (.cells (pdC p) 42)).cell? ⟨w.heap.size, 0, none⟩ = some (.int .u8 p.kd) := (hx.cell 0).trans rfl
  have HB := Lib.hid ((bself w).alloc (Nat.le_refl _) (.cells (pdC p) 42))
  have HE := Lib.hid (refHead_any 25 3 rfl (by decide))
  have HH := Lib.hid (hello_no 25 (by decide))
  have HL := Lib.hid (lsp_no 25 (by decide))
  rw [hk] at c0
  clear hk hx
  obtain rfl : true = b := by rw [← hb]; exact (decide_eq_true (trivial)).symm
  clear hb
  go_enter Try.func27, Try.ntmps27
  go_wp2_with fail
  refine (HE.out _).mono ?_
  rintro e w1 ⟨rfl, rfl⟩
  go_wp2_with fail
  refine (HH.out _).mono ?_
  rintro e w1 ⟨rfl, rfl⟩
  go_wp2_with fail
  refine (HL.out _).mono ?_
  rintro e w1 ⟨rfl, rfl⟩
  go_wp2_with fail
  go_ret
  exact ⟨rfl, HB.out⟩
set_option maxHeartbeats 2000000 in
set_option maxRecDepth 100000 in
theorem fields_26 (p : Pd) (hk : p.kd = 26) (b : Bool) (hb : decide (True) = b) (w : World) : Calls Try.prog 27 #[.agg (pdC p)] w fun e w' => e = .returned (.bool b) ∧ Below w.heap.size w w' := by
  have hx : PdT 42 (w.alloc (.cells (pdC p) 42)) w.heap.size p := heap_alloc_new w _
  have c0 : (w.alloc (.cells (pdC p) 42)).cell? ⟨w.heap.size, 0, none⟩ = some (.int .u8 p.kd) := (hx.cell 0).trans rfl
  have HB := Lib.hid ((bself w).alloc (Nat.le_refl _) (.cells (pdC p) 42))
  have HE := Lib.hid (refHead_any 26 4 rfl (by decide))
  have HH := Lib.hid (hello_no 26 (by decide))
  have HL := Lib.hid (lsp_no 26 (by decide))
  rw [hk] at c0
  clear hk hx
  obtain rfl : true = b := by rw [← hb]; exact (decide_eq_true (trivial)).symm
  clear hb
  go_enter Try.func27, Try.ntmps27
  go_wp2_with fail
  refine (HE.out _).mono ?_
  rintro e w1 ⟨rfl, rfl⟩
  go_wp2_with fail
  refine (HH.out _).mono ?_
  rintro e w1 ⟨rfl, rfl⟩
  go_wp2_with fail
  refine (HL.out _).mono ?_
  rintro e w1 ⟨rfl, rfl⟩
  go_wp2_with fail
  go_ret
  exact ⟨rfl, HB.out⟩
set_option maxHeartbeats 2000000 in
set_option maxRecDepth 100000 in
theorem fields_27 (p : Pd) (hk : p.kd = 27) (b : Bool) (hb : decide (True) = b) (w : World) : Calls Try.prog 27 #[.agg (pdC p)] w fun e w' => e = .returned (.bool b) ∧ Below w.heap.size w w' := by
  have hx : PdT 42 (w.alloc (.cells (pdC p) 42)) w.heap.size p := heap_alloc_new w _
  have c0 : (w.alloc (.cells (pdC p) 42)).cell? ⟨w.heap.size, 0, none⟩ = some (.int .u8 p.kd) := (hx.cell 0).trans rfl
  have HB := Lib.hid ((bself w).alloc (Nat.le_refl _) (.cells (pdC p) 42))
  have HE := Lib.hid (refHead_any 27 4 rfl (by decide))
  have HH := Lib.hid (hello_no 27 (by decide))
  have HL := Lib.hid (lsp_no 27 (by decide))
  rw [hk] at c0
  clear hk hx
  obtain rfl : true = b := by rw [← hb]; exact (decide_eq_true (trivial)).symm
  clear hb
  go_enter Try.func27, Try.ntmps27
  go_wp2_with fail
  refine (HE.out _).mono ?_
  rintro e w1 ⟨rfl, rfl⟩
  go_wp2_with fail
  refine (HH.out _).mono ?_
  rintro e w1 ⟨rfl, rfl⟩
  go_wp2_with fail
  refine (HL.out _).mono ?_
  rintro e w1 ⟨rfl, rfl⟩
  go_wp2_with fail
  go_ret
  exact ⟨rfl, HB.out⟩
end Go.Proofs.Ytkiaijmhoikdiaa

/- The document's check bytes, found by trying them all, are those that octet.Sum reckons. Each theorem states its conditions. -/
namespace Go.Proofs.Ytkiaijmhoikdiaa
open Go.RowKit
set_option linter.unusedVariables false

theorem weigh_ok (b off len cap : Nat) (z : Nat → Int) (i : Int) (w : World) (hr : Row8 w b off len z) (hn : len ≤ 1492) (hi0 : 0 ≤ i) (hi : i ≤ len - 2) :
    Calls Try.prog 71 #[.slice (some ⟨b, off, none⟩) len cap, .int .i64 i] w fun e w' => e = .returned (.tuple #[.int .i64 (sumA z i.toNat len), .int .i64 (sumB z i.toNat len len)]) ∧ w = w' := by
  obtain ⟨s, rfl⟩ := Int.eq_ofNat_of_zero_le hi0
  rw [Int.toNat_natCast]
  have hz := hr.2.2
  have hc := hr.2.1
  clear hr
  go_enter Try.func71, Try.ntmps71
  go_wp2
  go_loop [6, 7, 11] (fun p q t => ∃ c : Nat, c ≤ len ∧ t = .int .i64 c ∧ p = .int .i64 (sumA z s c) ∧ q = .int .i64 (sumB z s len c)) (fun _ _ t => len - (intOf t).toNat)
  case atStart => exact ⟨0, Nat.zero_le _, rfl, rfl, rfl⟩
  case round =>
    obtain ⟨c, hcm, rfl, rfl, rfl⟩ := hrel
    have hA := sumA_bd z s c hz
    have hB := sumB_bd z s len c hz hn hcm
    by_cases hlt : c < len
    · have hcell := hc c hlt
      have hb := hz c
      have hm := mul_bd (z c) ((len : Int) - c) 255 1492 hb.1 hb.2 (by omega) (by omega)
      by_cases h1 : c = s
      · have hs1 := Lib.hid (sumA_skip z s c (.inl h1))
        have hs2 := Lib.hid (sumB_skip z s len c (.inl h1))
        have h1' : ((c : Int) != s) = false := by simp [h1]
        have H1 := Lib.hid h1; clear h1
        go_wp2
        go_round
        case rel => exact ⟨c + 1, by omega, by go_num, by rw [hs1.out], by rw [hs2.out]⟩
        case measure => simp [intOf]; omega
      · have h1' : ((c : Int) != s) = true := by simp; omega
        by_cases h2 : c = s + 1
        · have hs1 := Lib.hid (sumA_skip z s c (.inr h2))
          have hs2 := Lib.hid (sumB_skip z s len c (.inr h2))
          have h2' : ((c : Int) != (s : Int) + 1) = false := by simp; omega
          have H2 := Lib.hid h2; clear h2
          go_wp2
          go_round
          case rel => exact ⟨c + 1, by omega, by go_num, by rw [hs1.out], by rw [hs2.out]⟩
          case measure => simp [intOf]; omega
        · have hs1 := Lib.hid (sumA_take z s c (by omega))
          have hs2 := Lib.hid (sumB_take z s len c (by omega))
          have h2' : ((c : Int) != (s : Int) + 1) = true := by simp; omega
          go_wp2
          go_round
          case rel => exact ⟨c + 1, by omega, by go_num, by rw [hs1.out], by rw [hs2.out]⟩
          case measure => simp [intOf]; omega
    · obtain rfl : c = len := by omega
      go_wp2
      go_ret2
      exact ⟨rfl, rfl⟩

/-- the second byte that goes with the first one k -/
def yOf (A k : Int) : Int := 255 - (A + k) % 255
theorem yOf_bd (A k : Int) : 1 ≤ yOf A k ∧ yOf A k ≤ 255 := by unfold yOf; omega
theorem yOf_chk (A k : Int) : cbI (-A - k) = yOf A k := by unfold cbI yOf; omega
theorem try_iff (A B k m : Int) (h1 : 1 ≤ k) (h2 : k ≤ 255) :
    (B + k * (m + 1) + yOf A k * m) % 255 = 0 ↔ k = cbI (A * m - B) := by
  have hq : ∃ q, yOf A k = 255 - A - k + 255 * q := ⟨(A + k) / 255, by unfold yOf; omega⟩
  obtain ⟨q, hq⟩ := hq
  have e : B + k * (m + 1) + yOf A k * m = B + k - A * m + 255 * ((1 + q) * m) := by
    rw [hq]
    simp only [Int.add_mul, Int.sub_mul, Int.mul_add, Int.mul_one, Int.mul_assoc, Int.one_mul]
    omega
  rw [e]
  unfold cbI
  generalize A * m = P
  generalize (1 + q) * m = Q
  omega

theorem check_ok (b off len cap : Nat) (z : Nat → Int) (i : Int) (w : World) (hr : Row8 w b off len z) (hn : len ≤ 1492) (hi0 : 0 ≤ i) (hi : i ≤ len - 2) :
    Calls Try.prog 56 #[.slice (some ⟨b, off, none⟩) len cap, .int .i64 i] w fun e w' => e = .returned (.tuple #[.int .i64 (chkX z i.toNat len), .int .i64 (chkY z i.toNat len)]) ∧ w = w' := by
  obtain ⟨s, rfl⟩ := Int.eq_ofNat_of_zero_le hi0
  rw [Int.toNat_natCast]
  have HW := Lib.hid (weigh_ok b off len cap z s w hr hn hi0 hi)
  rw [Int.toNat_natCast] at HW
  have hA := sumA_bd z s len hr.2.2
  have hB := sumB_bd z s len len hr.2.2 hn (Nat.le_refl _)
  have hX := (chk_bd z s len).2.2.2.2
  have heX : Hid (chkX z s len = cbI (sumA z s len * ((len : Int) - s - 1) - sumB z s len len)) := Lib.hid rfl
  have heY : Hid (chkY z s len = yOf (sumA z s len) (chkX z s len)) := Lib.hid (by rw [← yOf_chk]; rfl)
  generalize chkX z s len = X at *
  generalize chkY z s len = Y at *
  generalize sumA z s len = A at *
  generalize sumB z s len len = B at *
  clear hr
  go_enter Try.func56, Try.ntmps56
  go_wp2_with (refine (HW.out).mono ?_; rintro e w' ⟨rfl, rfl⟩)
  go_loop [8] (fun t => ∃ k : Int, 1 ≤ k ∧ k ≤ X ∧ t = .int .i64 k) (fun t => (256 - intOf t).toNat)
  case atStart => exact ⟨1, by omega, by omega, rfl⟩
  case round =>
    obtain ⟨k, hk1, hkX, rfl⟩ := hrel
    have ht := try_iff A B k ((len : Int) - s - 1) hk1 (by omega)
    rw [← heX.out, show (len : Int) - s - 1 + 1 = len - s by omega] at ht
    have hy := yOf_bd A k
    have m1 := mul_bd k ((len : Int) - s) 255 1492 (by omega) (by omega) (by omega) (by omega)
    have m2 := mul_bd (yOf A k) ((len : Int) - s - 1) 255 1492 (by omega) (by omega) (by omega) (by omega)
    have HT := Lib.hid ht
    clear ht
    by_cases hkx : k = X
    · subst hkx
      have t1 : ((B + k * ((len : Int) - s) + yOf A k * ((len : Int) - s - 1)) % 255 == 0) = true := by simp only [beq_iff_eq]; exact HT.out.2 rfl
      unfold yOf at t1 hy m2
      go_wp2
      go_ret2
      exact ⟨by rw [heY.out]; rfl, rfl⟩
    · have t1 : ((B + k * ((len : Int) - s) + yOf A k * ((len : Int) - s - 1)) % 255 == 0) = false := by simp only [beq_eq_false_iff_ne]; exact fun h => hkx (HT.out.1 h)
      unfold yOf at t1 hy m2
      go_wp2
      go_round
      case rel => exact ⟨k + 1, by omega, by omega, rfl⟩
      case measure => simp [intOf]; omega

end Go.Proofs.Ytkiaijmhoikdiaa
