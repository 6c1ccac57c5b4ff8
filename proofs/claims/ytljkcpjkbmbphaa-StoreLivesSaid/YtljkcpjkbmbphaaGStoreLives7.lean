/- Texts of this claim put together; each theorem states its conditions. -/
import Derived.Test.YtljkcpjkbmbphaaGStoreLives3
import Derived.Maps.RangeWalk
import Derived.Test.YtljkcpjkbmbphaaGStoreLives6
import Derived.Deep.DeepCutAuto
import Derived.Lib.ConvBytes
import Derived.Deep.CutRange
/- A range over a map of IDs: the step, what is left. Each theorem states its conditions. -/
namespace Go.Proofs.Ytljkcpjkbmbphaa
open Go.RowKit Go.MapKept
open Go.ChangeMaps (setBlock)
set_option linter.unusedVariables false

/-- a range over the map in block b is under way: its iterator lies in r; who is left; how many -/
def RngAt (w : World) (b : Nat) (M : Nat → Option Nat) (k r : Nat) (left : Nat → Bool) (cnt : Nat) : Prop :=
  ∃ es clock since seen c0, w.heap[b]? = some (.map es clock) ∧ Stamped es clock ∧ es.size = k ∧
    (∀ e ∈ es.toList, ∃ n g, IdOk n ∧ e.key = .agg (iC n) ∧ e.val = ptrV (some g) ∧ M n = some g ∧ left n = !seen.contains e.born) ∧ (∀ n g, M n = some g → IdOk n ∧ ∃ e ∈ es.toList, e.key = .agg (iC n) ∧ e.val = ptrV (some g)) ∧
    w.heap[r]? = some (.mapIter (some b) since seen c0) ∧ (∀ x ∈ es.toList, x.born < since) ∧ (leftOf es seen).size = cnt ∧ since ≤ c0 ∧ since ≤ clock
section
variable {w w' : World} {b k r cnt : Nat} {M : Nat → Option Nat} {left : Nat → Bool}
theorem RngAt.map (h : RngAt w b M k r left cnt) : MapAt w b M k := by
  obtain ⟨es, clock, since, seen, c0, hb, h1, h2, h3, h4, _⟩ := h
  exact ⟨es, clock, hb, h1, h2, fun e he => by obtain ⟨n, g, a1, a2, a3, a4, _⟩ := h3 e he; exact ⟨n, g, a1, a2, a3, a4⟩, h4⟩
theorem RngAt.ne (h : RngAt w b M k r left cnt) : r ≠ b := by
  obtain ⟨es, clock, since, seen, c0, hb, _, _, _, _, hr, _⟩ := h
  intro e
  rw [e, hb] at hr
  cases hr
theorem RngAt.lt (h : RngAt w b M k r left cnt) : r < w.heap.size := by
  obtain ⟨es, clock, since, seen, c0, _, _, _, _, _, hr, _⟩ := h
  exact (Array.getElem?_eq_some_iff.1 hr).1
theorem RngAt.ltb (h : RngAt w b M k r left cnt) : b < w.heap.size := h.map.lt
theorem RngAt.at (h : RngAt w b M k r left cnt) (h1 : w'.heap[b]? = w.heap[b]?) (h2 : w'.heap[r]? = w.heap[r]?) : RngAt w' b M k r left cnt := by
  obtain ⟨es, clock, since, seen, c0, hb, a1, a2, a3, a4, hr, rest⟩ := h
  exact ⟨es, clock, since, seen, c0, h1.trans hb, a1, a2, a3, a4, h2.trans hr, rest⟩
theorem RngAt.below (h : RngAt w b M k r left cnt) (hb : Below w.heap.size w w') : RngAt w' b M k r left cnt := h.at (hb.block b h.ltb) (hb.block r h.lt)
theorem RngAt.far {c : Nat} {C : Array Value} {t : TypeId} (h : RngAt w b M k r left cnt) (hs : Stored w w' c C t) (h1 : b ≠ c) (h2 : r ≠ c) : RngAt w' b M k r left cnt := h.at (hs.2.2 b h1) (hs.2.2 r h2)
theorem RngAt.none (h : RngAt w b M k r left 0) {n g : Nat} (hn : M n = some g) : left n = false := by
  obtain ⟨es, clock, since, seen, c0, hb, a1, a2, a3, a4, hr, a5, a6, _⟩ := h
  obtain ⟨hi, e, he, hk, hv⟩ := a4 n g hn
  obtain ⟨m, g', m1, m2, m3, m4, m5⟩ := a3 e he
  have : m = n := idC_inj m1 hi ((Value.agg.inj (hk.symm.trans m2)).symm)
  subst this
  rw [m5, all_seen es seen a6 e he]
  rfl
/-- the start of a range -/
theorem rng_start (h : MapAt w b M k) : ∃ w', (Instr.range 77 (.map (some b))).run Try.prog w = .ok (.pointer (some ⟨w.heap.size, 0, none⟩)) w' ∧ RngAt w' b M k w.heap.size (fun n => (M n).isSome) k ∧ Below w.heap.size w w' ∧ w.heap.size + 1 ≤ w'.heap.size := by
  have hlt := h.lt
  obtain ⟨es, clock, hb, hst, hsz, h1, h2⟩ := h
  refine ⟨_, run_range_map w 77 28 87 b es clock Try.underlying77 hb, ⟨es, clock, clock, #[], clock, ((MapKept.heap_alloc w _).2 b hlt).trans hb, hst, hsz, fun e he => ?_, h2, (MapKept.heap_alloc w _).1, ((stamped_iff es clock).1 hst).1, ?_, Nat.le_refl _, Nat.le_refl _⟩, (Below.refl _ _).alloc (Nat.le_refl _) _, by simp⟩
  · obtain ⟨n, g, a1, a2, a3, a4⟩ := h1 e he
    exact ⟨n, g, a1, a2, a3, a4, by show (M n).isSome = _; rw [a4]; simp⟩
  · rw [← hsz]; simp [leftOf]
theorem rng_next (h : RngAt w b M k r left cnt) (ty : TypeId) :
    (cnt = 0 ∧ (Instr.next (.pointer (some ⟨r, 0, none⟩)) false ty).run Try.prog w = .ok (.tuple #[.bool false]) w) ∨
    ∃ n g w' cnt', M n = some g ∧ IdOk n ∧ left n = true ∧ (Instr.next (.pointer (some ⟨r, 0, none⟩)) false ty).run Try.prog w = .ok (.tuple #[.bool true, .agg (iC n), ptrV (some g)]) w' ∧
      RngAt w' b M k r (fun x => left x && !(x == n)) cnt' ∧ cnt' < cnt ∧ w.grownBy w' (some r) ∧ w'.heap.size = w.heap.size ∧ (Instr.entry (.pointer (some ⟨r, 0, none⟩))).run Try.prog w' = .ok (.tuple #[.agg (iC n), ptrV (some g)]) w' := by
  have hne := h.ne
  obtain ⟨es, clock, since, seen, c0, hb, hst, hsz, a3, a4, hr, hold, rfl, hsc, hsk⟩ := h
  rcases run_next_at (P := Try.prog) w ty r b since c0 seen es clock hr hb hold hsc with ⟨h0, hrun⟩ | ⟨e, he, w1, hal, hrun⟩
  · exact .inl ⟨h0, hrun⟩
  · obtain ⟨hem, hes⟩ := mem_left he
    obtain ⟨n, g, n1, n2, n3, n4, n5⟩ := a3 e hem
    have hr1 : w1.heap[r]? = some (.mapIter (some b) since seen c0) := by rcases hal with rfl | rfl <;> exact hr
    have hb1 : w1.heap[b]? = some (.map es clock) := by rcases hal with rfl | rfl <;> exact hb
    have hset := heap_set (o' := .mapIter (some b) since (seen.push e.born) clock) hr1
    have hb' : (setBlock w1 r (.mapIter (some b) since (seen.push e.born) clock)).heap[b]? = some (.map es clock) := (hset.2 b (fun e1 => hne e1.symm)).trans hb1
    rw [n2, n3] at hrun
    have hent := run_entry_at (P := Try.prog) _ r b since seen es clock e hset.1 hb' hem ((stamped_iff es clock).1 hst).2.1
    rw [n2, n3] at hent
    refine .inr ⟨n, g, _, _, n4, n1, by rw [n5, hes]; rfl, hrun, ⟨es, clock, since, seen.push e.born, clock, hb', hst, hsz, fun x hx => ?_, a4, hset.1, hold, rfl, hsk, hsk⟩, left_shrinks es seen e he, ?_, ?_, hent⟩
    · obtain ⟨m, g', m1, m2, m3, m4, m5⟩ := a3 x hx
      refine ⟨m, g', m1, m2, m3, m4, ?_⟩
      show (left m && !(m == n)) = _
      rw [m5, contains_push]
      have hap := ((stamped_iff es clock).1 hst)
      by_cases hmn : m = n
      · subst hmn
        have : x = e := entry_eq_of_key hap.2.2 hx hem (m2.trans n2.symm)
        subst this
        simp
      · have hxe : (x.born == e.born) = false := by
          cases hq : (x.born == e.born)
          · rfl
          · have := born_inj hap.2.1 hx hem (by simpa using hq)
            subst this
            exact absurd (idC_inj m1 n1 (Value.agg.inj (m2.symm.trans n2))) hmn
        simp [hmn, hxe]
    · rcases hal with rfl | rfl <;> exact ⟨rfl, rfl, rfl, by simp [setBlock], fun i _ hi => hset.2 i (fun e1 => hi (by rw [e1]))⟩
    · rcases hal with rfl | rfl <;> simp [setBlock]
end
section
variable {ops : Array Oper} {Q : Exit → Act → World → Prop} {rest : List Oper} {op : Oper} {a : Act} {w : World} {b k r cnt : Nat} {M : Nat → Option Nat} {left : Nat → Bool}
theorem wpList_rg (hgd : op.guard = none) (m : Operand) (ho : op.op = .range 77 m) (hm : a.eval m = .map (some b)) (h : MapAt w b M k) (N : Nat) (hN : w.heap.size = N)
    (hK : ∀ w', RngAt w' b M k N (fun n => (M n).isSome) k → Below w.heap.size w w' → N + 1 ≤ w'.heap.size → wpList Try.prog ops Q rest (a.put op.dst (.pointer (some ⟨N, 0, none⟩))) w') : wpList Try.prog ops Q (op :: rest) a w := by
  subst hN
  obtain ⟨w', hrun, h1, h2, h3⟩ := rng_start h
  refine wpList_plain hgd fun K' hK' => ?_
  unfold Oper.wp
  simp [execOp, ho, hm, hrun, Result.andThen]
  exact hK' _ _ (hK w' h1 h2 h3)
theorem wpList_nx (hgd : op.guard = none) (it : Operand) (ho : op.op = .next it false) (hit : a.eval it = .pointer (some ⟨r, 0, none⟩)) (h : RngAt w b M k r left cnt) (h0 : cnt = 0 → wpList Try.prog ops Q rest (a.put op.dst (.tuple #[.bool false])) w)
    (h1 : ∀ n g w' cnt', M n = some g → IdOk n → left n = true → RngAt w' b M k r (fun x => left x && !(x == n)) cnt' → cnt' < cnt → w.grownBy w' (some r) → w'.heap.size = w.heap.size → (Instr.entry (.pointer (some ⟨r, 0, none⟩))).run Try.prog w' = .ok (.tuple #[.agg (iC n), ptrV (some g)]) w' → wpList Try.prog ops Q rest (a.put op.dst (.tuple #[.bool true, .agg (iC n), ptrV (some g)])) w') : wpList Try.prog ops Q (op :: rest) a w := by
  refine wpList_plain hgd fun K' hK' => ?_
  unfold Oper.wp
  rcases rng_next h op.type with ⟨e0, hrun⟩ | ⟨n, g, w', cnt', a1, a2, a3, hrun, a4, a5, a6, a7, a8⟩
  · simp [execOp, ho, hit, hrun, Result.andThen]
    exact hK' _ _ (h0 e0)
  · simp [execOp, ho, hit, hrun, Result.andThen]
    exact hK' _ _ (h1 n g w' cnt' a1 a2 a3 a4 a5 a6 a7 a8)
theorem entry_run (o : Oper) (e : Operand → Value) (x : Operand) (ho : o.op = .entry x) (v : Value) (h0 : e x = .pointer (some ⟨r, 0, none⟩)) (h : (Instr.entry (.pointer (some ⟨r, 0, none⟩))).run Try.prog w = .ok v w) : (execOp e o).run Try.prog w = .ok (.value v) w := by
  unfold execOp
  simp [ho, h0, h, Result.andThen]
end
end Go.Proofs.Ytljkcpjkbmbphaa

/- store.Age over one LSP, and its parts: a LSP grows old; one is dropped; lists of at most one ID are sorted. Each theorem states its conditions. -/
namespace Go.Proofs.Ytljkcpjkbmbphaa
open Go.RowKit Go.MapKept
set_option linter.unusedVariables false
set_option linter.unusedSimpArgs false

theorem max_run (o : Oper) (e : Operand → Value) (x : Operand) (ho : o.op = .call { callee := .builtin .max, args := #[x, .const (.int .i64 0)], argTypes := #[3, 3] }) (m : Int) (h0 : e x = .int .i64 m) (hc : e (.const (.int .i64 0)) = .int .i64 0) (W : World) : (execOp e o).run Try.prog W = .ok (.value (.int .i64 (max m 0))) W := by
  unfold execOp
  simp only [ho]
  by_cases h : 0 < m
  · rw [Int.max_eq_left (by omega)]
    have h1 : ¬ m < 0 := by omega
    simp [resolve, invoke, builtin, h0, hc, go_sem, h, h1]
    try omega
  · rw [Int.max_eq_right (by omega)]
    have h1 : ¬ 0 < m := by omega
    simp [resolve, invoke, builtin, h0, hc, go_sem, h1]
    try omega
/-- so many ticks later -/
def ageH (h : Hd) (t : Int) : Hd := ⟨h.id, h.sq, max (h.li - t) 0, h.su, h.n, h.z, h.pu + max (t - h.li) 0⟩
def liH (h : Hd) (l : Int) : Hd := ⟨h.id, h.sq, l, h.su, h.n, h.z, h.pu⟩
theorem hd_li (h : Hd) (A : Option Addr) (c : Nat) (l : Int) : putMany (hdC h A c) 9 [.int .i64 l] = hdC (liH h l) A c := by kernel_rfl
theorem hd_pu (h : Hd) (t : Int) (A : Option Addr) (c : Nat) : putMany (hdC (liH h (max (h.li - t) 0)) A c) 12 [.int .i64 (h.pu + max (t - h.li) 0)] = hdC (ageH h t) A c := by kernel_rfl
theorem info_i1 : (Try.prog.info? 3).map (·.size) = some 1 := by kernel_rfl
theorem one_i64 (k : Int) : (#[Value.int .i64 k] : Array Value).all (·.oneCell') = true := by kernel_rfl
theorem Stored.trans {w w1 w2 : World} {b : Nat} {C1 C2 : Array Value} {t : TypeId} (h : Stored w w1 b C1 t) (k : Stored w1 w2 b C2 t) : Stored w w2 b C2 t :=
  ⟨k.1, fun B hB => (h.2.1 B hB).trans (k.2.1 B hB), fun i hi => (k.2.2 i hi).trans (h.2.2 i hi)⟩
set_option maxHeartbeats 8000000 in
set_option maxRecDepth 100000 in
theorem hAge_any (h : Hd) (g c : Nat) (A : Option Addr) (t : Int) (w : World) (hl : 0 ≤ h.li ∧ h.li ≤ 65535) (ht : 0 ≤ t ∧ t ≤ 65535) (hp : 0 ≤ h.pu ∧ h.pu ≤ 1000000) (hk : Blk 92 w g (hdC h A c)) :
    Calls Try.prog 46 #[.pointer (some ⟨g, 0, none⟩), .int .i64 t] w fun e w' => e = .returned (.bool (decide (0 < h.li) && (max (h.li - t) 0 == 0))) ∧ Stored w w' g (hdC (ageH h t) A c) 92 := by
  have K := Lib.hid hk
  obtain ⟨li, hli⟩ : ∃ l, h.li = l := ⟨_, rfl⟩
  obtain ⟨pu, hpu⟩ : ∃ l, h.pu = l := ⟨_, rfl⟩
  rw [hli] at hl
  rw [hpu] at hp
  obtain ⟨hl1, hl2⟩ := hl
  obtain ⟨ht1, ht2⟩ := ht
  obtain ⟨hp1, hp2⟩ := hp
  have c9 : w.cell? ⟨g, 9, none⟩ = some (.int .i64 li) := by rw [← hli]; exact (hk.cell 9).trans rfl
  have HL := Lib.hid hli
  have HP := Lib.hid hpu
  rw [hli]
  clear hk hli hpu
  go_enter Try.func46, Try.ntmps46
  go_wp2_with (refine wpList_v (op := ⟨some 15, _, _, _, _, _⟩) rfl (.int .i64 (max (li - t) 0)) (max_run _ _ _ rfl (li - t) rfl rfl _) ?_; refine Hid.out ?_)
  refine Lib.hid ?_
  go_wp2_with (refine wpList_st rfl 3 (.tmp 18) (.tmp 15) rfl g 9 rfl (.int .i64 (max (li - t) 0)) #[.int .i64 (max (li - t) 0)] rfl rfl info_i1 (one_i64 _) K.out (Nat.le_of_ble_eq_true rfl) (C' := hdC (liH h (max (h.li - t) 0)) A c) (by rw [← HL.out]; exact hd_li _ _ _ _) ?_; intro w1 q1; refine Hid.out ?_)
  refine Lib.hid ?_
  have K1 := Lib.hid q1
  have k1 : Blk 92 w1 g (hdC (liH h (max (h.li - t) 0)) A c) := q1.1
  have c12 : w1.cell? ⟨g, 12, none⟩ = some (.int .i64 pu) := (k1.cell 12).trans (by rw [← HP.out]; rfl)
  clear q1 c9 k1
  go_wp2_with (refine wpList_v (op := ⟨some 26, _, _, _, _, _⟩) rfl (.int .i64 (max (t - li) 0)) (max_run _ _ _ rfl (t - li) rfl rfl _) ?_; refine Hid.out ?_)
  refine Lib.hid ?_
  obtain ⟨mx, hmx⟩ : ∃ x, max (t - li) 0 = x := ⟨_, rfl⟩
  have hmx1 : 0 ≤ mx := by omega
  have hmx2 : mx ≤ 65535 := by omega
  rw [hmx]
  have HMX := Lib.hid hmx
  clear hmx
  go_wp2_with (refine wpList_st rfl 3 (.tmp 29) (.tmp 27) rfl g 12 rfl (.int .i64 (pu + mx)) #[.int .i64 (pu + mx)] rfl rfl info_i1 (one_i64 _) K1.out.1 (Nat.le_of_ble_eq_true rfl) (C' := hdC (ageH h t) A c) (by rw [← HMX.out, ← HL.out, ← HP.out]; exact hd_pu _ _ _ _) ?_; intro w2 q1; refine Hid.out ?_)
  refine Lib.hid ?_
  have K2 := Lib.hid (K1.out.trans q1)
  have k2 : Blk 92 w2 g (hdC (ageH h t) A c) := q1.1
  obtain ⟨lv, hlv⟩ : ∃ x, max (li - t) 0 = x := ⟨_, rfl⟩
  have c9 : w2.cell? ⟨g, 9, none⟩ = some (.int .i64 lv) := (k2.cell 9).trans (by rw [← hlv, ← HL.out]; rfl)
  have HLV := Lib.hid hlv
  clear q1 c12 k2 hlv
  by_cases h0 : 0 < li
  · have hd : decide (0 < li) = true := by simpa using h0
    have Hdd := Lib.hid hd
    go_wp2_with fail
    go_ret
    exact ⟨by first | (rw [HLV.out, Hdd.out]; rfl) | (rw [HLV.out]; simp [Hdd.out]) | simp [HLV.out, Hdd.out], K2.out⟩
  · have hd : decide (0 < li) = false := by simpa using h0
    have Hdd := Lib.hid hd
    go_wp2_with fail
    go_ret
    exact ⟨by first | (rw [HLV.out, Hdd.out]; rfl) | (rw [HLV.out]; simp [Hdd.out]) | simp [HLV.out, Hdd.out], K2.out⟩

theorem del_run (o : Oper) (e : Operand → Value) (m x : Operand) (ho : o.op = .call { callee := .builtin .delete, args := #[m, x], argTypes := #[77, 28] }) {w : World} {b k n : Nat} {M : Nat → Option Nat} (h : MapAt w b M k) (hn : IdOk n) (h0 : e m = .map (some b)) (h1 : e x = .agg (iC n)) :
    ∃ w', (execOp e o).run Try.prog w = .ok (.value (.tuple #[])) w' ∧ MapAt w' b (putM M n none) (if (M n).isSome then k - 1 else k) ∧ Turn w w' b := by
  obtain ⟨w', h3, h4, h5⟩ := map_drop h hn o.type
  refine ⟨w', ?_, h4, h5⟩
  unfold execOp
  simp only [ho]
  simp [resolve, invoke, builtin, h0, h1, h3, Result.andThen]
theorem takeDl {ops : Array Oper} {Q : Exit → Act → World → Prop} {md : Region.Mode} {S : World → Prop} {i : Nat} {oi : Oper} {fuel : Nat} {listed : Array Bool} {a : Act} {w : World} (m x : Operand) (hi : ops[i]? = some oi) (hd : oi.dst = none)
    (hr : Region.ready md ops listed = [i]) (hw : Region.wanted oi (yielded ops a.tmps) = true) (ho : oi.op = .call { callee := .builtin .delete, args := #[m, x], argTypes := #[77, 28] }) {b k n : Nat} {M : Nat → Option Nat} (hM : MapAt w b M k) (hn : IdOk n) (h0 : a.eval m = .map (some b)) (h1 : a.eval x = .agg (iC n))
    (h : ∀ w', MapAt w' b (putM M n none) (if (M n).isSome then k - 1 else k) → Turn w w' b → S w' ∧ wpAnyH Try.prog md ops Q S fuel (listed.setIfInBounds i true) (a.put none (.tuple #[])) w') : wpAnyH Try.prog md ops Q S (fuel + 1) listed a w := by
  obtain ⟨w', hx', h3, h4⟩ := del_run oi a.eval m x ho hM hn h0 h1
  exact takeV none hi hd hr hw hx' (h w' h3 h4).1 (h w' h3 h4).2
theorem st_refF (b : Nat) (r : Bool) : putMany (stC b r) 1 [.bool false] = stC b false := by kernel_rfl
/-- what drop leaves of the map alone -/
def DropP (w : World) (s b n k : Nat) (M : Nat → Option Nat) (e : Ending) (w' : World) : Prop := e = .returned (.tuple #[]) ∧ Fr w w' s b ∧ Blk 79 w' s (stC b false) ∧ MapAt w' b (putM M n none) (if (M n).isSome then k - 1 else k)
set_option maxHeartbeats 8000000 in
set_option maxRecDepth 100000 in
theorem drop_map (s b k n : Nat) (r : Bool) (M : Nat → Option Nat) (w : World) (hs : Blk 79 w s (stC b r)) (hM : MapAt w b M k) (hne : s ≠ b) (hn : IdOk n) : Calls Try.prog 47 #[.pointer (some ⟨s, 0, none⟩), .agg (iC n)] w (DropP w s b n k M) := by
  have KS := Lib.hid hs
  have KM := Lib.hid hM
  have HID := Lib.hid hn
  have HNE := Lib.hid hne
  have lt_s := hs.lt
  have lt_b := hM.lt
  clear hs hM hn hne
  go_enter Try.func47, Try.ntmps47
  have HB := Lib.hid (Below.refl w.heap.size w)
  obtain ⟨N1, hN1⟩ : ∃ N, w.heap.size = N := ⟨_, rfl⟩
  have HN1 := Lib.hid hN1
  clear hN1
  go_wp2_with (refine wpList_box (op := ⟨some 3, _, _, _, _, _⟩) rfl 28 (.tmp 1) rfl (iC n) rfl N1 HN1.out ?_; intro w1 k1 b1 s1; refine Hid.out ?_)
  refine Lib.hid ?_
  have K3 := Lib.hid k1
  clear k1
  have lt_s_N1 : s < N1 := by rw [← HN1.out]; exact KS.out.lt
  have lt_b_N1 : b < N1 := by rw [← HN1.out]; exact KM.out.lt
  have le_HB_N1 : w.heap.size ≤ N1 := by rw [← HN1.out]; exact HB.out.size
  have KSn := Lib.hid (KS.out.below b1 KS.out.lt)
  clear KS
  have KS := KSn
  clear KSn
  have KMn := Lib.hid (KM.out.below b1 KM.out.lt)
  clear KM
  have KM := KMn
  clear KMn
  have HBn := Lib.hid (HB.out.trans (b1.mono HB.out.size))
  clear HB
  have HB := HBn
  clear HBn
  clear b1 HN1
  go_wp2_with fail
  have ns3 : s ≠ N1 := by omega
  have nb3 : b ≠ N1 := by omega
  have KMd : Hid (MapAt w1.drew b M k) := Lib.hid KM.out
  clear KM
  have HBd : Hid (Below w.heap.size w w1.drew) := Lib.hid HB.out.drew
  clear HB
  refine wp_region_held_drew (S := fun w' => Blk 79 w' s (stC b r) ∧ Blk 28 w' N1 (iC n)) (by kernel_rfl) ⟨KS.out, K3.out⟩ (fun hS => ?_)
  generalize hW2 : w1.drew = W2 at hS KMd HBd ⊢
  clear hW2
  clear KS
  clear K3
  have KM := KMd
  clear KMd
  have HB := HBd
  clear HBd
  have KS := Lib.hid hS.1
  have K3 := Lib.hid hS.2
  refine takeY (i := 0) (some 4) (v := .pointer (some ⟨s, 0, none⟩)) rfl rfl (by kernel_rfl) (by kernel_rfl) (by kernel_rfl) (fun _ _ _ h => h) (by rfl) (fun w' hS => by clear hS; go_simp) hS ?_
  simp only [Act.put, List.setIfInBounds_toArray, List.set_cons_zero, List.set_cons_succ]
  refine takeY (i := 1) (some 5) (v := .pointer (some ⟨s, 0, none⟩)) rfl rfl (by kernel_rfl) (by kernel_rfl) (by kernel_rfl) (fun _ _ _ h => h) (by rfl) (fun w' hS => by clear hS; go_simp) hS ?_
  simp only [Act.put, List.setIfInBounds_toArray, List.set_cons_zero, List.set_cons_succ]
  refine takeY (i := 2) (some 6) (v := .pointer (some ⟨s, 0, none⟩)) rfl rfl (by kernel_rfl) (by kernel_rfl) (by kernel_rfl) (fun _ _ _ h => h) (by rfl) (fun w' hS => by clear hS; go_simp) hS ?_
  simp only [Act.put, List.setIfInBounds_toArray, List.set_cons_zero, List.set_cons_succ]
  refine takeY (i := 3) (some 7) (v := .map (some b)) rfl rfl (by kernel_rfl) (by kernel_rfl) (by kernel_rfl) (fun _ _ _ h => h) (by rfl) (fun w' hS => by (have c9 : w'.cell? ⟨s, 0, none⟩ = some (.map (some b)) := (hS.1.cell 0).trans rfl; clear hS; go_simp)) hS ?_
  simp only [Act.put, List.setIfInBounds_toArray, List.set_cons_zero, List.set_cons_succ]
  refine takeL (i := 4) (some 8) 28 (.tmp 3) N1 0 (iC n) _ rfl rfl (by kernel_rfl) (by kernel_rfl) (by kernel_rfl) (fun _ _ _ h => h) (by rfl) rfl rfl (fun w' hS => hS.2.all) Try.underlying28 rfl info_iC hS ?_
  simp only [Act.put, List.setIfInBounds_toArray, List.set_cons_zero, List.set_cons_succ]
  refine takeDl (i := 5) (.tmp 7) (.tmp 8) rfl rfl (by kernel_rfl) (by rfl) rfl KM.out HID.out rfl rfl (fun w60 hm9 ht9 => ⟨⟨(ht9.block HNE.out).trans KS.out, (ht9.block (fun e => nb3 e.symm)).trans K3.out⟩, ?_⟩)
  simp only [Act.put, List.setIfInBounds_toArray, List.set_cons_zero, List.set_cons_succ]
  have KS9 : Hid (Blk 79 w60 s (stC b r)) := Lib.hid ((ht9.block HNE.out).trans KS.out)
  have KM9 := Lib.hid hm9
  have HF9 : Hid (Fr w w60 s b) := Lib.hid ((Fr.of_below s b HB.out).trans (Fr.turn ht9))
  clear hm9 ht9 hS
  refine wpAnyH_done (by kernel_rfl) ?_ _
  go_wp2_with (refine wpList_st rfl 4 (.tmp 11) (.const (.bool false)) rfl s 1 rfl (.bool false) #[.bool false] rfl rfl info_bl (one_b _) KS9.out (Nat.le_of_ble_eq_true rfl) (C' := stC b false) (st_refF _ _) ?_; intro w70 q1; refine Hid.out ?_)
  refine Lib.hid ?_
  have HF8 : Hid (Fr w w70 s b) := Lib.hid (HF9.out.trans ⟨(q1.2.1 0 (Nat.zero_le _)).os, (q1.2.1 0 (Nat.zero_le _)).tape, (q1.2.1 0 (Nat.zero_le _)).output, (q1.2.1 0 (Nat.zero_le _)).size, fun i _ h1 _ => q1.2.2 i h1⟩)
  have KM8 := Lib.hid (KM9.out.far q1 (fun e => HNE.out e.symm))
  have KS8 := Lib.hid q1.1
  clear q1
  go_wp2_with fail
  go_end0
  exact ⟨rfl, HF8.out, KS8.out, KM8.out⟩
set_option maxHeartbeats 8000000 in
set_option maxRecDepth 100000 in
theorem ins_small (A : Option Addr) (n c : Nat) (F : Value) (w : World) (hn : n ≤ 1) : Calls Try.prog 95 #[.slice A n c, .int .i64 0, .int .i64 (n : Int), F] w fun e w' => e = .returned (.tuple #[]) ∧ w' = w := by
  have h1 : ¬ (1 : Int) < (n : Int) := by omega
  go_enter Try.func95, Try.ntmps95
  go_wp2_with fail
  refine wp_loop_rounds 1 ?_
  rw [rounds_succ]
  go_wp2_with fail
  go_end0
  exact ⟨rfl, rfl⟩
set_option maxHeartbeats 8000000 in
set_option maxRecDepth 100000 in
theorem pdq_small (A : Option Addr) (n c : Nat) (l : Int) (F : Value) (w : World) (hn : n ≤ 1) : Calls Try.prog 70 #[.slice A n c, .int .i64 0, .int .i64 (n : Int), .int .i64 l, F] w fun e w' => e = .returned (.tuple #[]) ∧ w' = w := by
  have HI := Lib.hid (ins_small A n c F w hn)
  have h1 : (n : Int) ≤ 12 := by omega
  go_enter Try.func70, Try.ntmps70
  go_wp2_with fail
  refine wp_loop_rounds 1 ?_
  rw [rounds_succ]
  go_wp2_with fail
  refine HI.out.mono ?_
  rintro e w' ⟨rfl, rfl⟩
  go_wp2_with fail
  refine bodyPost_ret (v := .tuple #[]) (by simp [results, Try.f70, go_sem]) rfl ?_
  exact ⟨rfl, rfl⟩
set_option maxHeartbeats 8000000 in
set_option maxRecDepth 100000 in
theorem len64_0 (w : World) : Calls Try.prog 94 #[.int .u64 0] w fun e w' => ∃ l : Int, e = .returned (.int .i64 l) ∧ w' = w := by
  go_enter Try.func94, Try.ntmps94
  go_wp2_with fail
  go_ret
  exact ⟨_, rfl, rfl⟩
set_option maxHeartbeats 8000000 in
set_option maxRecDepth 100000 in
theorem len64_1 (w : World) : Calls Try.prog 94 #[.int .u64 1] w fun e w' => ∃ l : Int, e = .returned (.int .i64 l) ∧ w' = w := by
  go_enter Try.func94, Try.ntmps94
  go_wp2_with fail
  go_ret
  exact ⟨_, rfl, rfl⟩
set_option maxHeartbeats 8000000 in
set_option maxRecDepth 100000 in
theorem len_0 (w : World) : Calls Try.prog 69 #[.int .u64 0] w fun e w' => ∃ l : Int, e = .returned (.int .i64 l) ∧ w' = w := by
  have H := Lib.hid (len64_0 w)
  go_enter Try.func69, Try.ntmps69
  go_wp2_with fail
  refine H.out.mono ?_
  rintro e w' ⟨l, rfl, rfl⟩
  go_wp2_with fail
  go_ret
  exact ⟨_, rfl, rfl⟩
set_option maxHeartbeats 8000000 in
set_option maxRecDepth 100000 in
theorem len_1 (w : World) : Calls Try.prog 69 #[.int .u64 1] w fun e w' => ∃ l : Int, e = .returned (.int .i64 l) ∧ w' = w := by
  have H := Lib.hid (len64_1 w)
  go_enter Try.func69, Try.ntmps69
  go_wp2_with fail
  refine H.out.mono ?_
  rintro e w' ⟨l, rfl, rfl⟩
  go_wp2_with fail
  go_ret
  exact ⟨_, rfl, rfl⟩
set_option maxHeartbeats 8000000 in
set_option maxRecDepth 100000 in
theorem sort_0 (A : Option Addr) (c : Nat) (F : Value) (w : World) : Calls Try.prog 48 #[.slice A 0 c, F] w fun e w' => e = .returned (.tuple #[]) ∧ w' = w := by
  have H := Lib.hid (len_0 w)
  have HQ := Lib.hid (fun l => pdq_small A 0 c l F w (by decide))
  go_enter Try.func48, Try.ntmps48
  go_wp2_with fail
  refine H.out.mono ?_
  rintro e w' ⟨l, rfl, rfl⟩
  go_wp2_with fail
  refine (HQ.out l).mono ?_
  rintro e w' ⟨rfl, rfl⟩
  go_wp2_with fail
  go_end0
  exact ⟨rfl, rfl⟩
set_option maxHeartbeats 8000000 in
set_option maxRecDepth 100000 in
theorem sort_1 (A : Option Addr) (c : Nat) (F : Value) (w : World) : Calls Try.prog 48 #[.slice A 1 c, F] w fun e w' => e = .returned (.tuple #[]) ∧ w' = w := by
  have H := Lib.hid (len_1 w)
  have HQ := Lib.hid (fun l => pdq_small A 1 c l F w (by decide))
  go_enter Try.func48, Try.ntmps48
  go_wp2_with fail
  refine H.out.mono ?_
  rintro e w' ⟨l, rfl, rfl⟩
  go_wp2_with fail
  refine (HQ.out l).mono ?_
  rintro e w' ⟨rfl, rfl⟩
  go_wp2_with fail
  go_end0
  exact ⟨rfl, rfl⟩
end Go.Proofs.Ytljkcpjkbmbphaa

/- store.Age over one LSP, and over none. Each theorem states its conditions. -/
namespace Go.Proofs.Ytljkcpjkbmbphaa
open Go.RowKit Go.MapKept
set_option linter.unusedVariables false
set_option linter.unusedSimpArgs false

def BeX (w' : World) (B : Nat) (w : World) : Prop := Below B w w' ∧ B < w'.heap.size
theorem BeX.lt {w w' : World} {B : Nat} (h : BeX w' B w) : B < w'.heap.size := h.2
theorem BeX.below {w w' w2 : World} {B : Nat} (h : BeX w' B w) (hb : Below w'.heap.size w' w2) (_ : B < w'.heap.size) : BeX w2 B w := ⟨h.1.trans (hb.mono (Nat.le_of_lt h.2)), Nat.lt_of_lt_of_le h.2 hb.size⟩
theorem BeX.far {w w' w2 : World} {B c : Nat} {C : Array Value} {t : TypeId} (h : BeX w' B w) (hs : Stored w' w2 c C t) (hk : B ≤ c) : BeX w2 B w := ⟨h.1.trans (hs.2.1 B hk), Nat.lt_of_lt_of_le h.2 (hs.2.1 B hk).size⟩
/-- maps, stores and what they hold -/
def mineS : Obj → Bool
  | .map .. => true
  | .cells _ t _ => t == 79 || t == 92
  | _ => false
/-- whatever was there and is none of these lies as it lay -/
def KpX (w' : World) (N : Nat) (w : World) : Prop := (∀ (k : Nat) (o : Obj), k < N → w.heap[k]? = some o → mineS o = false → w'.heap[k]? = some o) ∧ N < w'.heap.size
theorem KpX.lt {w w' : World} {N : Nat} (h : KpX w' N w) : N < w'.heap.size := h.2
theorem KpX.below {w w' w2 : World} {N : Nat} (h : KpX w' N w) (hb : Below w'.heap.size w' w2) (_ : N < w'.heap.size) : KpX w2 N w := ⟨fun k o hk h1 h2 => (hb.block k (Nat.lt_trans hk h.2)).trans (h.1 k o hk h1 h2), Nat.lt_of_lt_of_le h.2 hb.size⟩
theorem KpX.far {w w' w2 : World} {N c : Nat} {C : Array Value} {t : TypeId} (h : KpX w' N w) (hs : Stored w' w2 c C t) (hk : N ≤ c) : KpX w2 N w := ⟨fun k o hk' h1 h2 => (hs.2.2 k (by omega)).trans (h.1 k o hk' h1 h2), Nat.lt_of_lt_of_le h.2 (hs.2.1 0 (Nat.zero_le _)).size⟩
theorem KpX.held {w w' w2 : World} {N g : Nat} {C C0 : Array Value} {t : TypeId} (h : KpX w' N w) (hs : Stored w' w2 g C t) (hg : Blk 92 w g C0) : KpX w2 N w := ⟨fun k o hk' h1 h2 => (hs.2.2 k (fun e => by
  subst e
  rw [show w.heap[k]? = _ from hg] at h1
  cases h1
  simp [mineS] at h2)).trans (h.1 k o hk' h1 h2), Nat.lt_of_lt_of_le h.2 (hs.2.1 0 (Nat.zero_le _)).size⟩
theorem KpX.fr {w w' w2 : World} {N s b : Nat} {C0 : Array Value} {es : Array MapEntry} {cl : Nat} (h : KpX w' N w) (hf : Fr w' w2 s b) (hs : Blk 79 w s C0) (hb : w.heap[b]? = some (.map es cl)) : KpX w2 N w := ⟨fun k o hk' h1 h2 => (hf.block k (Nat.lt_trans hk' h.2) (fun e => by
  subst e
  rw [show w.heap[k]? = _ from hs] at h1
  cases h1
  simp [mineS] at h2) (fun e => by
  subst e
  rw [hb] at h1
  cases h1
  cases h2)).trans (h.1 k o hk' h1 h2), Nat.lt_of_lt_of_le h.2 hf.size⟩
theorem Blk.kpx {t : TypeId} {w w' : World} {g : Nat} {C : Array Value} (h : Blk t w g C) (hk : ∀ (k : Nat) (o : Obj), w.heap[k]? = some o → mineS o = false → w'.heap[k]? = some o) (ht : (t == 79 || t == 92) = false) : Blk t w' g C := hk g _ h (by simp only [mineS]; exact ht)
def RgA (w : World) (r b : Nat) (M : Nat → Option Nat) (k : Nat) (left : Nat → Bool) (cnt : Nat) : Prop := RngAt w b M k r left cnt
section
variable {w w' : World} {b k r cnt : Nat} {M : Nat → Option Nat} {left : Nat → Bool}
theorem RgA.lt (h : RgA w r b M k left cnt) : r < w.heap.size := RngAt.lt h
theorem RgA.below (h : RgA w r b M k left cnt) (hb : Below w.heap.size w w') (_ : r < w.heap.size) : RgA w' r b M k left cnt := RngAt.below h hb
theorem RgA.far {c : Nat} {C : Array Value} {t : TypeId} (h : RgA w r b M k left cnt) (hs : Stored w w' c C t) (hk : b ≠ c ∧ r ≠ c) : RgA w' r b M k left cnt := RngAt.far h hs hk.1 hk.2
/-- behind the last: the map is empty -/
theorem rng_stop {M' : Nat → Option Nat} (h : RngAt w b M k r left cnt) (hm : MapAt w' b M' 0) (hr : w'.heap[r]? = w.heap[r]?) (ty : TypeId) : (Instr.next (.pointer (some ⟨r, 0, none⟩)) false ty).run Try.prog w' = .ok (.tuple #[.bool false]) w' := by
  obtain ⟨es, clock, since, seen, c0, hb, hst, hsz, a3, a4, h1, hold, _, hsc, hsk⟩ := h
  obtain ⟨es', clock', hb', hst', hsz', _⟩ := hm
  have e0 : es'.toList = [] := List.length_eq_zero_iff.1 (by simpa using hsz')
  rcases run_next_at (P := Try.prog) w' ty r b since c0 seen es' clock' (hr.trans h1) hb' (fun x hx => by rw [e0] at hx; cases hx) hsc with ⟨_, hrun⟩ | ⟨e, he, _⟩
  · exact hrun
  · obtain ⟨hem, _⟩ := mem_left he
    rw [e0] at hem
    cases hem
end
theorem next_run (o : Oper) (e : Operand → Value) (x : Operand) (ho : o.op = .next x false) {r : Nat} {w : World} (h0 : e x = .pointer (some ⟨r, 0, none⟩)) (h : ∀ ty, (Instr.next (.pointer (some ⟨r, 0, none⟩)) false ty).run Try.prog w = .ok (.tuple #[.bool false]) w) : (execOp e o).run Try.prog w = .ok (.value (.tuple #[.bool false])) w := by
  unfold execOp
  simp [ho, h0, h, Result.andThen]
theorem bs_id1 (W : World) (o : Oper) (e : Operand → Value) {x : Operand} (ho : o.op = .buildSlice 65 1 #[(0, x)]) (n : Nat) (h0 : e x = .agg (iC n)) :
    (execOp e o).run Try.prog W = .ok (.value (.slice (some ⟨W.heap.size, 0, none⟩) 1 1)) (W.alloc (.cells (iC n) 28)) := by
  unfold execOp
  simp only [ho]
  simp only [List.map_toArray, List.map_cons, List.map_nil, h0]
  kernel_rfl
theorem wpList_append_any {P : Program} {w : World} {ops : Array Oper} {rest : List Oper} {o : Oper} {a : Act} {Q : Exit → Act → World → Prop} (hgd : o.guard = none) (s x : Operand) (t : TypeId)
    (ho : o.op = .call { callee := .builtin .append, args := #[s, x], argTypes := #[t, t] })
    (base : Nat) (e : TypeId) (i : TypeInfo) (z : Value) (size bytes : Nat) (ht : P.underlying t = some (.slice e)) (hi : P.info? e = some i) (hz : i.zero = some z)
    (hsize : i.size = size) (hby : i.bytes = bytes) (hzs : z.cells.size = size) (hsz : 0 < size)
    (v : Value) (n : Nat) (xs : List Value) (hs : a.eval s = v) (hown : w.ownsRow base e size v n xs)
    (ao : Option Addr) (m c : Nat) (news : List Value) (hx : a.eval x = .slice ao m c) (hl : news.length = m * size) (hnone : ao = none → m = 0 ∧ c = 0) (hnews : ∀ ad, ao = some ad → ∀ j u, news[j]? = some u → w.cell? (ad.add j) = some u) (h1 : ∀ u ∈ news, u.oneCell' = true)
    (h63 : n + m ≤ maxLen) (hbytes : (n + m) * bytes ≤ 140737488355328) (hbase : base ≤ w.heap.size)
    (h : ∀ v' w', w'.ownsRow base e size v' (n + m) (xs ++ news) → w.grownBy w' v.ownBlock → wpList P ops Q rest (a.put o.dst v') w') :
    wpList P ops Q (o :: rest) a w := by
  rcases ao with _ | ad
  · obtain ⟨rfl, rfl⟩ := hnone rfl
    have hn : news = [] := List.eq_nil_of_length_eq_zero (by simpa using hl)
    subst hn
    exact wpList_append_own_none hgd s x t ho base e i size ht hi v n xs hs hown hx (h v w (by simpa using hown) (World.grownBy.refl _ _))
  · exact wpList_append_own_at _ hgd s x t ho base e i z size bytes ht hi hz hsize hby hzs hsz v n xs hs hown ad m c news hx hl (hnews ad rfl) h1 h63 hbytes hbase (fun v' w' a b _ _ => h v' w' a b)

theorem info_id3 : (Try.prog.info? 28).map (fun i => (i.zero, i.size, i.bytes)) = some (some (.agg (iC 0)), 8, 8) := by kernel_rfl
theorem zero_idS : (Try.prog.info? 28).map (·.zero) = some (some (.agg (iC 0))) := by kernel_rfl
theorem id_over (a b : Nat) : putMany (iC a) 0 (iC b).toList = iC b := by kernel_rfl
theorem id_news {w : World} {g n : Nat} (h : Blk 28 w g (iC n)) : ∀ j u, (iC n).toList[j]? = some u → w.cell? ((⟨g, 0, none⟩ : Addr).add j) = some u := by
  intro j u hj
  rw [add_none, Nat.zero_add, h.cell, ← Array.getElem?_toList]
  exact hj
theorem wpList_bsn {ops : Array Oper} {Q : Exit → Act → World → Prop} {rest : List Oper} {op : Oper} {a : Act} {w : World} (n : Nat) (hgd : op.guard = none) (t : TypeId) (C : Array Value) (hx : (execOp a.eval op).run Try.prog w = .ok (.value (.slice (some ⟨w.heap.size, 0, none⟩) n n)) (w.alloc (.cells C t)))
    (N : Nat) (hN : w.heap.size = N) (h : ∀ w', Blk t w' N C → Below w.heap.size w w' → N + 1 ≤ w'.heap.size → wpList Try.prog ops Q rest (a.put op.dst (.slice (some ⟨N, 0, none⟩) n n)) w') : wpList Try.prog ops Q (op :: rest) a w := by
  subst hN
  exact wpList_v hgd _ hx (h _ (heap_alloc_new w _) ((Below.refl _ _).alloc (Nat.le_refl _) _) (by simp))
def oneH (n : Nat) (h : Hd) : Nat → Option Hd := fun i => if i = n then some h else none
theorem st_aged {w : World} {B s b n g k : Nat} {h h' : Hd} {H : Nat → Option Hd} {M : Nat → Option Nat} {r : Bool} (hs : B ≤ s) (hb : B ≤ b) (hk : Blk 79 w s (stC b r)) (hm : MapAt w b M k) (hMH : ∀ i, M i = none ↔ H i = none) (hO : ∀ i, i ≠ n → H i = none) (hH : H n = some h) (hMN : M n = some g) (hA : HdAt w B g h')
    (hf : h'.id = n ∧ (27 ≤ h'.n ∧ h'.n ≤ 1492) ∧ (∀ j, 0 ≤ h'.z j ∧ h'.z j ≤ 255)) : StAt w B s b (oneH n h') k r := by
  have key : ∀ i g', M i = some g' → i = n := fun i g' e => by
    by_cases e3 : i = n
    · exact e3
    · have := (hMH i).2 (hO i e3)
      rw [e] at this
      cases this
  refine ⟨hs, hb, hk, M, hm, fun i => ⟨fun e1 => ?_, fun e1 => ?_⟩, fun i g' x e1 e2 => ?_, fun i j g' e1 e2 => (key i g' e1).trans (key j g' e2).symm⟩
  · have := (hMH i).1 e1
    unfold oneH
    rw [if_neg (fun e2 => by subst e2; rw [hH] at this; cases this)]
  · unfold oneH at e1
    by_cases e2 : i = n
    · rw [if_pos e2] at e1; cases e1
    · exact (hMH i).2 (hO i e2)
  · have hi := key i g' e1
    subst hi
    have hg : g' = g := by rw [hMN] at e1; injection e1 with e1; exact e1.symm
    subst hg
    have hx : x = h' := by unfold oneH at e2; rw [if_pos rfl] at e2; injection e2 with e2; exact e2.symm
    subst hx
    exact ⟨hA, hf⟩
/-- what Age leaves of one LSP -/
def AgeP (w : World) (B s b n : Nat) (h : Hd) (t : Int) (r : Bool) (e : Ending) (w' : World) : Prop :=
  ∃ A m c, e = .returned (.tuple #[.slice A m c, .int .i64 0]) ∧ m = (if decide (0 < h.li) && (max (h.li - t) 0 == 0) then 1 else 0) ∧ Below B w w' ∧ (∀ (k : Nat) (o : Obj), w.heap[k]? = some o → mineS o = false → w'.heap[k]? = some o) ∧
    ((60 ≤ (ageH h t).pu ∧ StAt w' B s b noH 0 false) ∨ ((ageH h t).pu < 60 ∧ StAt w' B s b (oneH n (ageH h t)) 1 r))
set_option maxHeartbeats 40000000 in
set_option maxRecDepth 100000 in
theorem age_one (B s b n0 : Nat) (h : Hd) (H : Nat → Option Hd) (r : Bool) (t : Int) (w : World) (hst : StAt w B s b H 1 r) (hH : H n0 = some h) (hO : ∀ i, i ≠ n0 → H i = none) (hl : 0 ≤ h.li ∧ h.li ≤ 65535) (hp : 0 ≤ h.pu ∧ h.pu ≤ 1000000) (ht : 0 ≤ t ∧ t ≤ 65535) : Calls Try.prog 22 #[.pointer (some ⟨s, 0, none⟩), .int .i64 t] w (AgeP w B s b n0 h t r) := by
  obtain ⟨M, hM, hMH, hMA, hMI⟩ := hst.map
  have KM := Lib.hid hM
  have HMH := Lib.hid hMH
  have HMA := Lib.hid hMA
  have HHH := Lib.hid hH
  have HOO := Lib.hid hO
  have HL := Lib.hid hl
  have HP := Lib.hid hp
  have HT := Lib.hid ht
  have HNE := Lib.hid hst.ne
  have KS := Lib.hid hst.blk
  have HBS := Lib.hid (And.intro hst.hs hst.hb)
  have c0 : w.cell? ⟨s, 0, none⟩ = some (.map (some b)) := (hst.blk.cell 0).trans rfl
  have lt_s := hst.lt
  have lt_b := hst.ltb
  have lt_B := hst.ltB
  have t1 : ¬ t < 0 := by omega
  have t2 : ¬ 65535 < t := by omega
  clear hst hM hMH hMA hMI hH hO hl hp ht
  go_enter Try.func22, Try.ntmps22
  obtain ⟨N1, hN1⟩ : ∃ N, w.heap.size = N := ⟨_, rfl⟩
  have HN1 := Lib.hid hN1
  go_upto_region 6 with (fail)
  go_wp2_with (refine wpList_rg (op := ⟨some 23, _, _, _, _, _⟩) rfl (.tmp 22) rfl rfl KM.out N1 HN1.out ?_; intro w1 h1 b1 s1; refine Hid.out ?_)
  refine Lib.hid ?_
  have HR := Lib.hid h1
  have HB := Lib.hid b1
  clear h1 b1 s1 c0
  go_wp2_with fail
  refine wp_loop_rounds 2 ?_
  rw [rounds_succ]
  go_wp2_with (refine wpList_nx (op := ⟨some 24, _, _, _, _, _⟩) rfl (.tmp 23) rfl rfl HR.out (fun h9 => absurd h9 (by decide)) ?_; intro n g w2 cnt' hMn hid hlf hR2 hlt hgr hsz hent; refine Hid.out ?_)
  refine Lib.hid ?_
  obtain rfl : cnt' = 0 := by omega
  have HB2 := Lib.hid (HB.out.grown hgr HB.out.size (fun k e => by cases e; omega))
  obtain rfl : n = n0 := by
    by_cases e : n = n0
    · exact e
    · have := (HMH.out n).2 (HOO.out n e)
      rw [hMn] at this
      cases this
  have HID := Lib.hid hid
  have HMN := Lib.hid hMn
  have HA := Lib.hid (HMA.out n g h hMn HHH.out)
  have HENT := Lib.hid hent
  have RG : Hid (RgA w2 N1 b M 1 (fun x => (M x).isSome && !(x == n)) 0) := Lib.hid hR2
  clear HR HB hMn hid hlf hR2 hlt hgr hsz hent
  obtain ⟨hBg, ro, oa, c, k0, hrd, hBr, hnc, hcm⟩ := HA.out.1
  have lt_r := hrd.lt
  have lt_g := k0.lt
  have K := Lib.hid (k0.below HB2.out k0.lt)
  have KS2 := Lib.hid (KS.out.below HB2.out lt_s)
  have RW := Lib.hid (hrd.below HB2.out hrd.lt)
  have HBX : Hid (BeX w2 B w) := Lib.hid ⟨HB2.out.mono lt_B, Nat.lt_of_lt_of_le (Nat.lt_of_le_of_lt HBS.out.1 lt_s) HB2.out.size⟩
  have le_Bg : B ≤ g := hBg
  have HAC := Lib.hid (And.intro hBg (And.intro hBr (And.intro hnc hcm)))
  have ne_sg : s ≠ g := fun e => by
    have h1 : w.heap[s]? = _ := KS.out
    have h2 : w.heap[g]? = _ := k0
    rw [e, h2] at h1
    injection h1 with h1
    injection h1 with _ h1 _
    exact absurd h1 (by decide)
  have ne_bg : b ≠ g := fun e => by
    obtain ⟨es, cl, h1, _⟩ := KM.out
    have h2 : w.heap[g]? = _ := k0
    rw [e, h2] at h1
    cases h1
  have ne_rg : ro ≠ g := fun e => by
    obtain ⟨cur, h1⟩ := hrd.2
    have h2 : w.heap[g]? = _ := k0
    rw [e, h2] at h1
    injection h1 with h1
    injection h1 with _ h1 _
    exact absurd h1 (by decide)
  have ne_sb := HNE.out
  have KSo := KS
  have hkg := k0
  clear KS
  have KS := KS2
  clear KS2 k0 hrd hnc hcm hBr
  have KPX : Hid (KpX w2 N1 w) := Lib.hid ⟨fun k o hk h1 _ => (HB2.out.block k (by omega)).trans h1, RG.out.lt⟩
  have KSw := Lib.hid KSo.out
  have HKg : Hid (Blk 92 w g (hdC h (some ⟨ro, oa, none⟩) c)) := Lib.hid hkg
  have HNw := Lib.hid hN1
  have le_B_N1 : B ≤ N1 := by omega
  have ne_N1 : N1 ≠ g ∧ N1 ≠ s ∧ N1 ≠ b := by omega
  clear hN1 hkg KSo
  go_wp2_with (refine wpList_v (op := ⟨some 26, _, _, _, _, _⟩) rfl (.tuple #[.agg (iC n), .pointer (some ⟨g, 0, none⟩)]) (entry_run _ _ _ rfl _ rfl HENT.out) ?_; refine Hid.out ?_)
  refine Lib.hid ?_
  clear HENT
  obtain ⟨N11, hN11⟩ : ∃ N, w2.heap.size = N := ⟨_, rfl⟩
  have HN11 := Lib.hid hN11
  have lt9 : s < N11 ∧ g < N11 ∧ b < N11 ∧ N1 < N11 ∧ ro < N11 := by rw [← hN11]; exact ⟨KS.out.lt, K.out.lt, RngAt.ltb RG.out, RG.out.lt, RW.out.lt⟩
  have le9 : B ≤ N11 := by omega
  clear hN11
  go_wp2_with (refine wpList_new (op := ⟨some 7, _, _, _, _, _⟩) rfl 28 rfl (iC 0) zero_idS N11 HN11.out ?_; intro w3 k1 b1 s1; refine Hid.out ?_)
  refine Lib.hid ?_
  have K7 := Lib.hid k1
  have KSn := Lib.hid (KS.out.below b1 KS.out.lt)
  clear KS
  have KS := KSn
  clear KSn
  have Kn := Lib.hid (K.out.below b1 K.out.lt)
  clear K
  have K := Kn
  clear Kn
  have RWn := Lib.hid (RW.out.below b1 RW.out.lt)
  clear RW
  have RW := RWn
  clear RWn
  have RGn := Lib.hid (RG.out.below b1 RG.out.lt)
  clear RG
  have RG := RGn
  clear RGn
  have HBXn := Lib.hid (HBX.out.below b1 HBX.out.lt)
  clear HBX
  have HBX := HBXn
  clear HBXn
  have KPXn := Lib.hid (KPX.out.below b1 KPX.out.lt)
  clear KPX
  have KPX := KPXn
  clear KPXn
  clear k1 b1 s1 HN11
  go_wp2_with (refine wpList_st rfl 28 (.tmp 7) (.tmp 27) rfl N11 0 rfl (.agg (iC n)) (iC n) rfl rfl info_iC (idC_one _) K7.out (Nat.le_of_ble_eq_true rfl) (C' := iC n) (id_over _ _) ?_; intro w4 q1; refine Hid.out ?_)
  refine Lib.hid ?_
  have KSn := Lib.hid (KS.out.far q1 (by omega))
  clear KS
  have KS := KSn
  clear KSn
  have Kn := Lib.hid (K.out.far q1 (by omega))
  clear K
  have K := Kn
  clear Kn
  have RWn := Lib.hid (RW.out.far q1 (by omega))
  clear RW
  have RW := RWn
  clear RWn
  have RGn := Lib.hid (RG.out.far q1 (by omega))
  clear RG
  have RG := RGn
  clear RGn
  have HBXn := Lib.hid (HBX.out.far q1 (by omega))
  clear HBX
  have HBX := HBXn
  clear HBXn
  have KPXn := Lib.hid (KPX.out.far q1 (by omega))
  clear KPX
  have KPX := KPXn
  clear KPXn
  have K7n : Hid (Blk 28 w4 N11 (iC n)) := Lib.hid q1.1
  clear K7
  have K7 := K7n
  clear K7n q1
  go_wp2_with fail
  refine (hAge_any h g c (some ⟨ro, oa, none⟩) t w4 HL.out HT.out HP.out K.out).mono ?_
  rintro e w5 ⟨rfl, q1⟩
  have lt9b : g ≠ N11 := by omega
  have KPXn := Lib.hid (KPX.out.held q1 HKg.out)
  clear KPX
  have KPX := KPXn
  clear KPXn
  have KSn := Lib.hid (KS.out.far q1 (by omega))
  clear KS
  have KS := KSn
  clear KSn
  have RWn := Lib.hid (RW.out.far q1 (by omega))
  clear RW
  have RW := RWn
  clear RWn
  have RGn := Lib.hid (RG.out.far q1 (by omega))
  clear RG
  have RG := RGn
  clear RGn
  have HBXn := Lib.hid (HBX.out.far q1 (by omega))
  clear HBX
  have HBX := HBXn
  clear HBXn
  have K7n := Lib.hid (K7.out.far q1 (by omega))
  clear K7
  have K7 := K7n
  clear K7n
  have Kn : Hid (Blk 92 w5 g (hdC (ageH h t) (some ⟨ro, oa, none⟩) c)) := Lib.hid q1.1
  clear K
  have K := Kn
  clear Kn q1
  obtain ⟨pu, hpu⟩ : ∃ p, (ageH h t).pu = p := ⟨_, rfl⟩
  have HPU := Lib.hid hpu
  clear hpu
  obtain ⟨eb, heb⟩ : ∃ q, (decide (0 < h.li) && (max (h.li - t) 0 == 0)) = q := ⟨_, rfl⟩
  rw [heb]
  have HEB := Lib.hid heb
  clear heb
  cases eb with
  | false =>
    have c12 : w5.cell? ⟨g, 12, none⟩ = some (.int .i64 pu) := (K.out.cell 12).trans (by rw [← HPU.out]; rfl)
    by_cases h60 : 60 ≤ pu
    · have h60b : (60 : Int) ≤ pu := h60
      have H60 := Lib.hid h60
      go_wp2_with (refine wpList_ld (op := ⟨some 42, _, _, _, _, _⟩) (by rfl) 28 (.tmp 7) rfl N11 0 rfl (iC n) _ K7.out.all Try.underlying28 rfl info_iC ?_; refine Hid.out ?_)
      refine Lib.hid ?_
      clear c12
      go_wp2_with fail
      refine (drop_map s b 1 n r M w5 KS.out (RngAt.map RG.out) HNE.out HID.out).mono ?_
      rintro e w7 ⟨rfl, hf, hks, hkm⟩
      rw [HMN.out] at hkm
      have KS9 := Lib.hid hks
      have KM9 : Hid (MapAt w7 b (putM M n none) 0) := Lib.hid hkm
      have HST7 : Hid (∀ ty, (Instr.next (.pointer (some ⟨N1, 0, none⟩)) false ty).run Try.prog w7 = .ok (.tuple #[.bool false]) w7) := Lib.hid (fun ty => rng_stop RG.out hkm (hf.block N1 RG.out.lt (by omega) (by omega)) ty)
      have HBXn : Hid (BeX w7 B w) := Lib.hid ⟨HBX.out.1.trans (hf.below HBS.out.1 HBS.out.2 (Nat.le_of_lt HBX.out.2)), Nat.lt_of_lt_of_le HBX.out.2 hf.size⟩
      have KPXn : Hid (KpX w7 N1 w) := Lib.hid (by obtain ⟨es, cl, h1, _⟩ := KM.out; exact KPX.out.fr hf KSw.out h1)
      clear KPX
      have KPX := KPXn
      clear HBX
      have HBX := HBXn
      clear HBXn KPXn hf hks hkm
      go_wp2_with fail
      rw [rounds_succ]
      go_wp2_with (refine wpList_v (op := ⟨some 24, _, _, _, _, _⟩) rfl (.tuple #[.bool false]) (next_run _ _ _ rfl rfl HST7.out) ?_; refine Hid.out ?_)
      refine Lib.hid ?_
      go_wp2_with fail
      refine (sort_0 none 0 _ w7).mono ?_
      rintro e w9 ⟨rfl, rfl⟩
      go_wp2_with fail
      refine bodyPost_ret (v := .tuple #[.slice none 0 0, .int .i64 0]) (by simp [results, Try.f22, go_sem]) rfl ?_
      exact ⟨none, 0, 0, rfl, by rw [HEB.out]; rfl, HBX.out.1, (fun k o h1 h2 => KPX.out.1 k o (by rw [← HNw.out]; exact (Array.getElem?_eq_some_iff.1 h1).1) h1 h2), .inl ⟨by rw [HPU.out]; exact H60.out, HBS.out.1, HBS.out.2, KS9.out, _, KM9.out, fun i => ⟨fun _ => rfl, fun _ => KM9.out.none_all i⟩, (fun i g9 x e1 e2 => by cases e2), fun i j g9 e1 _ => by rw [KM9.out.none_all i] at e1; cases e1⟩⟩
    · have h60b : ¬ (60 : Int) ≤ pu := h60
      have H60 := Lib.hid h60
      go_wp2_with fail
      rw [rounds_succ]
      go_wp2_with (refine wpList_nx (op := ⟨some 24, _, _, _, _, _⟩) rfl (.tmp 23) rfl rfl RG.out (fun _ => ?_) (fun n g w' cnt' _ _ _ _ hlt _ _ _ => absurd hlt (Nat.not_lt_zero _)); refine Hid.out ?_)
      refine Lib.hid ?_
      go_wp2_with fail
      refine (sort_0 none 0 _ w5).mono ?_
      rintro e w9 ⟨rfl, rfl⟩
      go_wp2_with fail
      refine bodyPost_ret (v := .tuple #[.slice none 0 0, .int .i64 0]) (by simp [results, Try.f22, go_sem]) rfl ?_
      exact ⟨none, 0, 0, rfl, by rw [HEB.out]; rfl, HBX.out.1, (fun k o h1 h2 => KPX.out.1 k o (by rw [← HNw.out]; exact (Array.getElem?_eq_some_iff.1 h1).1) h1 h2), .inr ⟨by rw [HPU.out]; have := H60.out; omega, st_aged HBS.out.1 HBS.out.2 KS.out (RngAt.map RG.out) HMH.out HOO.out HHH.out HMN.out ⟨HAC.out.1, ro, oa, c, K.out, RW.out, HAC.out.2.1, HAC.out.2.2.1, HAC.out.2.2.2⟩ HA.out.2⟩⟩
  | true =>
    go_wp2_with (refine wpList_ld (op := ⟨some 33, _, _, _, _, _⟩) (by rfl) 28 (.tmp 7) rfl N11 0 rfl (iC n) _ K7.out.all Try.underlying28 rfl info_iC ?_; refine Hid.out ?_)
    refine Lib.hid ?_
    obtain ⟨N31, hN31⟩ : ∃ N, w5.heap.size = N := ⟨_, rfl⟩
    have HN31 := Lib.hid hN31
    clear hN31
    go_wp2_with (refine wpList_bsn (op := ⟨some 34, _, _, _, _, _⟩) 1 rfl 28 (iC n) (bs_id1 _ _ _ rfl n rfl) N31 HN31.out ?_; intro w31 k1 b1 s1; refine Hid.out ?_)
    refine Lib.hid ?_
    have K34 := Lib.hid k1
    clear k1
    have lt_s_N31 : s < N31 := by rw [← HN31.out]; exact KS.out.lt
    have lt_g_N31 : g < N31 := by rw [← HN31.out]; exact K.out.lt
    have lt_ro_N31 : ro < N31 := by rw [← HN31.out]; exact RW.out.lt
    have lt_N1_N31 : N1 < N31 := by rw [← HN31.out]; exact RG.out.lt
    have lt_B_N31 : B < N31 := by rw [← HN31.out]; exact HBX.out.lt
    have lt_N11_N31 : N11 < N31 := by rw [← HN31.out]; exact K7.out.lt
    have lt_N1_N31 : N1 < N31 := by rw [← HN31.out]; exact KPX.out.lt
    have KSn := Lib.hid (KS.out.below b1 KS.out.lt)
    clear KS
    have KS := KSn
    clear KSn
    have Kn := Lib.hid (K.out.below b1 K.out.lt)
    clear K
    have K := Kn
    clear Kn
    have RWn := Lib.hid (RW.out.below b1 RW.out.lt)
    clear RW
    have RW := RWn
    clear RWn
    have RGn := Lib.hid (RG.out.below b1 RG.out.lt)
    clear RG
    have RG := RGn
    clear RGn
    have HBXn := Lib.hid (HBX.out.below b1 HBX.out.lt)
    clear HBX
    have HBX := HBXn
    clear HBXn
    have K7n := Lib.hid (K7.out.below b1 K7.out.lt)
    clear K7
    have K7 := K7n
    clear K7n
    have KPXn := Lib.hid (KPX.out.below b1 KPX.out.lt)
    clear KPX
    have KPX := KPXn
    clear KPXn
    clear b1 HN31
    obtain ⟨i0, hi, hz0, hz1, hz2⟩ := info_parts info_id3
    go_wp2_with (at_builtin; refine wpList_append_any rfl (.tmp 32) (.tmp 34) 65 rfl w31.heap.size 28 i0 _ 8 8 Try.underlying65 hi hz0 hz1 hz2 rfl (by decide) (.slice none 0 0) 0 [] rfl (World.ownsRow_nil _ _ _ _) (some ⟨N31, 0, none⟩) 1 1 (iC n).toList rfl rfl (fun e => by cases e) (fun ad e => by cases e; exact id_news K34.out) (idC_ones n) (by decide) (by decide) (Nat.le_refl _) ?_; intro v35 w6 ho hgr; refine Hid.out ?_)
    refine Lib.hid ?_
    have hv : ∃ A6 c6, v35 = .slice A6 1 c6 := by rcases ho.2 with ⟨_, h2⟩ | ⟨g9, cap, cur, h2, _⟩; (have h3 : (0 + 1 : Nat) = 0 := h2; omega); exact ⟨_, _, h2⟩
    obtain ⟨A6, c6, rfl⟩ := hv
    have b1 : Below w31.heap.size w31 w6 := (Below.refl _ _).grown hgr (Nat.le_refl _) (fun x e => by cases e)
    have KSn := Lib.hid (KS.out.below b1 KS.out.lt)
    clear KS
    have KS := KSn
    clear KSn
    have Kn := Lib.hid (K.out.below b1 K.out.lt)
    clear K
    have K := Kn
    clear Kn
    have RWn := Lib.hid (RW.out.below b1 RW.out.lt)
    clear RW
    have RW := RWn
    clear RWn
    have RGn := Lib.hid (RG.out.below b1 RG.out.lt)
    clear RG
    have RG := RGn
    clear RGn
    have HBXn := Lib.hid (HBX.out.below b1 HBX.out.lt)
    clear HBX
    have HBX := HBXn
    clear HBXn
    have K7n := Lib.hid (K7.out.below b1 K7.out.lt)
    clear K7
    have K7 := K7n
    clear K7n
    have KPXn := Lib.hid (KPX.out.below b1 KPX.out.lt)
    clear KPX
    have KPX := KPXn
    clear KPXn
    have K34n := Lib.hid (K34.out.below b1 K34.out.lt)
    clear K34
    have K34 := K34n
    clear K34n
    clear b1 ho hgr hi hz0 hz1 hz2
    have c12 : w6.cell? ⟨g, 12, none⟩ = some (.int .i64 pu) := (K.out.cell 12).trans (by rw [← HPU.out]; rfl)
    by_cases h60 : 60 ≤ pu
    · have h60b : (60 : Int) ≤ pu := h60
      have H60 := Lib.hid h60
      go_wp2_with (refine wpList_ld (op := ⟨some 42, _, _, _, _, _⟩) (by rfl) 28 (.tmp 7) rfl N11 0 rfl (iC n) _ K7.out.all Try.underlying28 rfl info_iC ?_; refine Hid.out ?_)
      refine Lib.hid ?_
      clear c12
      go_wp2_with fail
      refine (drop_map s b 1 n r M w6 KS.out (RngAt.map RG.out) HNE.out HID.out).mono ?_
      rintro e w7 ⟨rfl, hf, hks, hkm⟩
      rw [HMN.out] at hkm
      have KS9 := Lib.hid hks
      have KM9 : Hid (MapAt w7 b (putM M n none) 0) := Lib.hid hkm
      have HST7 : Hid (∀ ty, (Instr.next (.pointer (some ⟨N1, 0, none⟩)) false ty).run Try.prog w7 = .ok (.tuple #[.bool false]) w7) := Lib.hid (fun ty => rng_stop RG.out hkm (hf.block N1 RG.out.lt (by omega) (by omega)) ty)
      have HBXn : Hid (BeX w7 B w) := Lib.hid ⟨HBX.out.1.trans (hf.below HBS.out.1 HBS.out.2 (Nat.le_of_lt HBX.out.2)), Nat.lt_of_lt_of_le HBX.out.2 hf.size⟩
      have KPXn : Hid (KpX w7 N1 w) := Lib.hid (by obtain ⟨es, cl, h1, _⟩ := KM.out; exact KPX.out.fr hf KSw.out h1)
      clear KPX
      have KPX := KPXn
      clear HBX
      have HBX := HBXn
      clear HBXn KPXn hf hks hkm
      go_wp2_with fail
      rw [rounds_succ]
      go_wp2_with (refine wpList_v (op := ⟨some 24, _, _, _, _, _⟩) rfl (.tuple #[.bool false]) (next_run _ _ _ rfl rfl HST7.out) ?_; refine Hid.out ?_)
      refine Lib.hid ?_
      go_wp2_with fail
      refine (sort_1 A6 c6 _ w7).mono ?_
      rintro e w9 ⟨rfl, rfl⟩
      go_wp2_with fail
      refine bodyPost_ret (v := .tuple #[.slice A6 1 c6, .int .i64 0]) (by simp [results, Try.f22, go_sem]) rfl ?_
      exact ⟨A6, 1, c6, rfl, by rw [HEB.out]; rfl, HBX.out.1, (fun k o h1 h2 => KPX.out.1 k o (by rw [← HNw.out]; exact (Array.getElem?_eq_some_iff.1 h1).1) h1 h2), .inl ⟨by rw [HPU.out]; exact H60.out, HBS.out.1, HBS.out.2, KS9.out, _, KM9.out, fun i => ⟨fun _ => rfl, fun _ => KM9.out.none_all i⟩, (fun i g9 x e1 e2 => by cases e2), fun i j g9 e1 _ => by rw [KM9.out.none_all i] at e1; cases e1⟩⟩
    · have h60b : ¬ (60 : Int) ≤ pu := h60
      have H60 := Lib.hid h60
      go_wp2_with fail
      rw [rounds_succ]
      go_wp2_with (refine wpList_nx (op := ⟨some 24, _, _, _, _, _⟩) rfl (.tmp 23) rfl rfl RG.out (fun _ => ?_) (fun n g w' cnt' _ _ _ _ hlt _ _ _ => absurd hlt (Nat.not_lt_zero _)); refine Hid.out ?_)
      refine Lib.hid ?_
      go_wp2_with fail
      refine (sort_1 A6 c6 _ w6).mono ?_
      rintro e w9 ⟨rfl, rfl⟩
      go_wp2_with fail
      refine bodyPost_ret (v := .tuple #[.slice A6 1 c6, .int .i64 0]) (by simp [results, Try.f22, go_sem]) rfl ?_
      exact ⟨A6, 1, c6, rfl, by rw [HEB.out]; rfl, HBX.out.1, (fun k o h1 h2 => KPX.out.1 k o (by rw [← HNw.out]; exact (Array.getElem?_eq_some_iff.1 h1).1) h1 h2), .inr ⟨by rw [HPU.out]; have := H60.out; omega, st_aged HBS.out.1 HBS.out.2 KS.out (RngAt.map RG.out) HMH.out HOO.out HHH.out HMN.out ⟨HAC.out.1, ro, oa, c, K.out, RW.out, HAC.out.2.1, HAC.out.2.2.1, HAC.out.2.2.2⟩ HA.out.2⟩⟩
end Go.Proofs.Ytljkcpjkbmbphaa

/- The law's packet with a text. Each theorem states its conditions. -/
namespace Go.Proofs.Ytljkcpjkbmbphaa
open Go.RowKit
set_option linter.unusedVariables false
set_option linter.unusedSimpArgs false

/-- one byte, an x -/
def RX (w : World) (g : Nat) : Prop := Row8 w g 0 1 (fun _ => 120)
theorem RX.lt {w : World} {g : Nat} (h : RX w g) : g < w.heap.size := h.1
theorem RX.below {w w' : World} {g : Nat} (h : RX w g) (hb : Below w.heap.size w w') : RX w' g := Row8.below h hb h.1
theorem RX.far {w w' : World} {g c : Nat} {C : Array Value} {t : TypeId} (h : RX w g) (hs : Stored w w' c C t) (hk : g ≠ c) : RX w' g := by
  refine ⟨?_, fun j hj => ?_, h.2.2⟩
  · exact Nat.lt_of_lt_of_le h.1 (hs.2.1 0 (Nat.zero_le _)).size
  · have h1 := h.2.1 j hj
    unfold World.cell? at h1 ⊢
    rw [show w'.heap[g]? = w.heap[g]? from hs.2.2 g hk]
    exact h1
theorem x_run (o : Oper) (e : Operand → Value) (x : Operand) (ho : o.op = .convert 9 43 x) (h0 : e x = .string ⟨#[120]⟩) (W : World) :
    (execOp e o).run Try.prog W = .ok (.value (.slice (some ⟨W.heap.size, 0, none⟩) 1 (grownCap W 1 0 5))) (Lib.bytesWorld W 5 ⟨#[120]⟩) := by
  have h := Lib.run_convert_string_bytes (P := Try.prog) W 9 43 5 ⟨#[120]⟩ (u := .string) Try.underlying9 Try.underlying43 Try.underlying5
  have hs : ByteArray.size ⟨#[120]⟩ = 1 := rfl
  rw [hs] at h
  unfold execOp
  simp only [ho, h0]
  simp [h, Result.andThen]
theorem x_world (W : World) : RX (Lib.bytesWorld W 5 ⟨#[120]⟩) W.heap.size ∧ Below W.heap.size W (Lib.bytesWorld W 5 ⟨#[120]⟩) := by
  refine ⟨⟨by rw [Lib.bytesWorld_size]; omega, fun j hj => ?_, fun j => ⟨by show (0 : Int) ≤ 120; decide, by show (120 : Int) ≤ 255; decide⟩⟩, rfl, rfl, rfl, by rw [Lib.bytesWorld_size]; omega, fun k hk => Lib.bytesWorld_at_old W _ _ k hk⟩
  obtain rfl : j = 0 := by omega
  exact (Lib.bytesWorld_cell W 5 ⟨#[120]⟩ 0 (by decide)).trans rfl
/-- the text's value -/
def itX (g c : Nat) : It := ⟨137, some ⟨g, 0, none⟩, 1, c, fun _ => 120⟩
def itXC (t : It) : Array Value := #[.int .u8 t.ty, .slice t.A t.n t.c]
theorem build_itX (o : Oper) (e : Operand → Value) (x : Operand) (ho : o.op = .build 105 #[(0, .const (.int .u8 137)), (1, x)]) (hc : ∀ v, e (.const v) = v) (g c : Nat) (h1 : e x = .slice (some ⟨g, 0, none⟩) 1 c) (W : World) : (execOp e o).run Try.prog W = .ok (.value (.agg (itXC (itX g c)))) W := by
  unfold execOp
  simp only [ho]
  simp only [List.map_toArray, List.map_cons, List.map_nil, hc, h1]
  kernel_rfl
theorem bs_itX (W : World) (o : Oper) (e : Operand → Value) {x0 : Operand} (ho : o.op = .buildSlice 40 1 #[(0, x0)]) (t : It) (h0 : e x0 = .agg (itXC t)) :
    (execOp e o).run Try.prog W = .ok (.value (.slice (some ⟨W.heap.size, 0, none⟩) 1 1)) (W.alloc (.cells (itXC t) 105)) := by
  unfold execOp
  simp only [ho]
  simp only [List.map_toArray, List.map_cons, List.map_nil, h0]
  kernel_rfl
theorem itX_rd {w : World} {g x c : Nat} (hg : Blk 105 w g (itXC (itX x c))) (hx : RX w x) : RdT w (some ⟨g, 0, none⟩) 1 (fun _ => itX x c) := by
  refine .inr ⟨g, 0, rfl, hg.lt, fun j hj => ?_⟩
  obtain rfl : j = 0 := by omega
  exact ⟨(hg.cell 0).trans rfl, (hg.cell 1).trans rfl, ⟨by show (0 : Int) ≤ 137; decide, by show (137 : Int) ≤ 255; decide⟩, ⟨.inr ⟨x, 0, rfl, hx⟩, hx.2.2⟩, fun e => (by cases e), by show (1 : Nat) ≤ 140737488351232; decide⟩
/-- what the packet's bytes tell -/
structure PkX (i sq : Nat) (li : Int) (z : Nat → Int) : Prop where
  h4 : cls (z 4) = 2
  good : GoodZ z 30 1
  bd : ∀ j, 0 ≤ z j ∧ z j ≤ 255
  id : idZ z = i
  sq : (hdZ 30 z).sq = sq
  li : (hdZ 30 z).li = li
def pkxP (i sq : Nat) (li : Int) (A : Option Addr) : Pd := ⟨18, 0, z0, 0, 0, 0, z0, li, dg i, sq, 1, z0, z0, A, 1, 1⟩
theorem pd_tlX (p : Pd) (A : Option Addr) : putMany (pdC p) 46 [.slice A 1 1] = pdC ⟨p.kd, p.ci, p.so, p.ho, p.nu, p.pr, p.la, p.li, p.id, p.sq, p.bi, p.st, p.en, A, 1, 1⟩ := by kernel_rfl
theorem pkx_tells (i sq : Nat) (li : Int) (hi : IdOk i) (hs : sq ≤ 4294967295) (hl : 0 ≤ li ∧ li ≤ 65535) (A : Option Addr) (L : Nat → It) (hn : (L 0).n = 1) (w : World) (hR : RdT w A 1 L) : PkX i sq li (pdZ (pkxP i sq li A) 2 L) := by
  have hok : PdOk (pkxP i sq li A) := pk_ok i sq li hs hl
  have hf : fitP (pkxP i sq li A) 2 = true := pk_fit i sq li hl
  have hsz : sz L 1 = 3 := by simp only [sz, hn]
  have hbad : ∀ k, k < 1 → ¬ bad L k := fun k hk => by
    obtain rfl : k = 0 := by omega
    unfold bad
    rw [hn, hsz]
    decide
  have hbd : ∀ j, 0 ≤ pdZ (pkxP i sq li A) 2 L j ∧ pdZ (pkxP i sq li A) 2 L j ≤ 255 := pdZ_bd (pkxP i sq li A) 2 L (by decide) hok (J_rd hR hbad)
  have hg : GoodZ (pdZ (pkxP i sq li A) 2 L) (hdN 2 + sz L 1) 1 := good_pd (pkxP i sq li A) L hok (by show cls 18 ≤ 4; decide) hf (by show hdN 2 + sz L 1 ≤ 1492; rw [hsz]; decide) hbd
  rw [hsz] at hg
  have hq := rd_eq (pkxP i sq li A) L hok 2 rfl (by decide) hf
  obtain ⟨_, hli, hid, hsq, _⟩ := hq
  refine ⟨?_, hg, hbd, ?_, ?_, ?_⟩
  · rw [show pdZ (pkxP i sq li A) 2 L 4 = (pkxP i sq li A).kd from pd_head (pkxP i sq li A) 2 L (by decide) 4 (by decide)]; rfl
  · have h8 : ∀ j, j < 8 → pdZ (pkxP i sq li A) 2 L (12 + j) = dg i j := fun j hj => pd_field (pkxP i sq li A) 2 L 2 j (by decide) hj (by decide)
    have hb := idZ_both _ hbd
    have h9 : ∀ j, j < 8 → dg (idZ (pdZ (pkxP i sq li A) 2 L)) j = dg i j := fun j hj => (hb.2 j hj).trans (h8 j hj)
    refine idC_inj hb.1 hi ?_
    unfold iC
    rw [h9 0 (by decide), h9 1 (by decide), h9 2 (by decide), h9 3 (by decide), h9 4 (by decide), h9 5 (by decide), h9 6 (by decide), h9 7 (by decide)]
  · exact hsq
  · exact hli
/-- what packet leaves, with a text -/
def PkXP (w : World) (i sq : Nat) (li : Int) (e : Ending) (w' : World) : Prop := ∃ g c z, e = .returned (.slice (some ⟨g, 0, none⟩) 30 c) ∧ w.heap.size ≤ g ∧ Own8 w' g 30 c z ∧ Below w.heap.size w w' ∧ PkX i sq li z
theorem info_tlsX : (Try.prog.info? 40).map (·.size) = some 1 := by kernel_rfl
theorem one_slX {A : Option Addr} {n c : Nat} : (#[Value.slice A n c] : Array Value).all (·.oneCell') = true := by kernel_rfl
set_option maxHeartbeats 8000000 in
set_option maxRecDepth 100000 in
theorem packetX_any (i sq : Nat) (li : Int) (hi : IdOk i) (hs : sq ≤ 4294967295) (hl : 0 ≤ li ∧ li ≤ 65535) (w : World) : Calls Try.prog 21 #[.agg (iC i), .int .u32 (sq : Int), .int .i64 li, .string ⟨#[120]⟩] w (PkXP w i sq li) := by
  have HI := Lib.hid hi
  have HS := Lib.hid hs
  have HL := Lib.hid hl
  clear hi hs hl
  go_enter Try.func21, Try.ntmps21
  have HB := Lib.hid (Below.refl w.heap.size w)
  obtain ⟨N1, hN1⟩ : ∃ N, w.heap.size = N := ⟨_, rfl⟩
  have HN1 := Lib.hid hN1
  clear hN1
  go_wp2_with (refine wpList_box (op := ⟨some 4, _, _, _, _, _⟩) rfl 28 (.tmp 0) rfl (iC i) rfl N1 HN1.out ?_; intro w1 k1 b1 s1; refine Hid.out ?_)
  refine Lib.hid ?_
  have K4 := Lib.hid k1
  clear k1
  have le_HB_N1 : w.heap.size ≤ N1 := by rw [← HN1.out]; exact HB.out.size
  have HBn := Lib.hid (HB.out.trans (b1.mono HB.out.size))
  clear HB
  have HB := HBn
  clear HBn
  clear b1 HN1
  go_wp2_with (refine wpList_ld (op := ⟨some 10, _, _, _, _, _⟩) (by rfl) 28 (.tmp 4) rfl N1 0 rfl (iC i) _ K4.out.all Try.underlying28 rfl info_iC ?_; refine Hid.out ?_)
  refine Lib.hid ?_
  go_wp2_with (refine wpList_v (op := ⟨some 13, _, _, _, _, _⟩) rfl (.agg (pdC (pkP i sq li))) (build_pk _ _ _ _ _ rfl (fun _ => rfl) i sq li rfl rfl rfl _) ?_; refine Hid.out ?_)
  refine Lib.hid ?_
  obtain ⟨N2, hN2⟩ : ∃ N, w1.heap.size = N := ⟨_, rfl⟩
  have HN2 := Lib.hid hN2
  clear hN2
  go_wp2_with (refine wpList_new (op := ⟨some 9, _, _, _, _, _⟩) rfl 42 rfl (pdC pd0) zero_pdR N2 HN2.out ?_; intro w2 k1 b1 s1; refine Hid.out ?_)
  refine Lib.hid ?_
  have K9 := Lib.hid k1
  clear k1
  have lt_N1_N2 : N1 < N2 := by rw [← HN2.out]; exact K4.out.lt
  have le_HB_N2 : w.heap.size ≤ N2 := by rw [← HN2.out]; exact HB.out.size
  have K4n := Lib.hid (K4.out.below b1 K4.out.lt)
  clear K4
  have K4 := K4n
  clear K4n
  have HBn := Lib.hid (HB.out.trans (b1.mono HB.out.size))
  clear HB
  have HB := HBn
  clear HBn
  clear b1 HN2
  go_wp2_with (refine wpList_st rfl 42 (.tmp 9) (.tmp 13) rfl N2 0 rfl (.agg (pdC (pkP i sq li))) (pdC (pkP i sq li)) rfl rfl info_pdR (pdC_one _) K9.out (Nat.le_of_ble_eq_true rfl) (C' := pdC (pkP i sq li)) (pd_over' _ _) ?_; intro w20 q1; refine Hid.out ?_)
  refine Lib.hid ?_
  have K4n := Lib.hid (K4.out.far q1 (by omega))
  clear K4
  have K4 := K4n
  clear K4n
  have HBn := Lib.hid (HB.out.trans (q1.2.1 _ (by omega)))
  clear HB
  have HB := HBn
  clear HBn
  have K9n : Hid (Blk 42 w20 N2 (pdC (pkP i sq li))) := Lib.hid q1.1
  clear K9
  have K9 := K9n
  clear K9n q1
  obtain ⟨NX, hNX⟩ : ∃ N, w20.heap.size = N := ⟨_, rfl⟩
  obtain ⟨cx, hcx⟩ : ∃ c, grownCap w20 1 0 5 = c := ⟨_, rfl⟩
  obtain ⟨w21, hw21⟩ : ∃ x, Lib.bytesWorld w20 5 ⟨#[120]⟩ = x := ⟨_, rfl⟩
  have HXR : Hid (∀ (o : Oper) (e : Operand → Value) (x : Operand) (ho : o.op = .convert 9 43 x) (h0 : e x = .string ⟨#[120]⟩), (execOp e o).run Try.prog w20 = .ok (.value (.slice (some ⟨NX, 0, none⟩) 1 cx)) w21) := Lib.hid (fun o e x ho h0 => by rw [← hNX, ← hcx, ← hw21]; exact x_run o e x ho h0 _)
  have hx := x_world w20
  rw [hw21, hNX] at hx
  rw [← hNX] at hx
  have lt9X : N1 < NX ∧ N2 < NX := by rw [← hNX]; exact ⟨K4.out.lt, K9.out.lt⟩
  have HXV : Hid (RX w21 NX) := Lib.hid (by rw [← hNX]; exact hx.1)
  have b1 := hx.2
  clear hx hcx hw21
  go_upto_region 3 with (fail)
  go_wp2_with (refine wpList_v (op := ⟨some 17, _, _, _, _, _⟩) rfl (.slice (some ⟨NX, 0, none⟩) 1 cx) (HXR.out _ _ _ rfl rfl) ?_; refine Hid.out ?_)
  refine Lib.hid ?_
  have K4n := Lib.hid (K4.out.below b1 K4.out.lt)
  clear K4
  have K4 := K4n
  clear K4n
  have K9n := Lib.hid (K9.out.below b1 K9.out.lt)
  clear K9
  have K9 := K9n
  clear K9n
  have HBn := Lib.hid (HB.out.trans (b1.mono HB.out.size))
  clear HB
  have HB := HBn
  clear HBn
  clear b1 hNX HXR
  go_wp2_with (refine wpList_v (op := ⟨some 18, _, _, _, _, _⟩) rfl (.agg (itXC (itX NX cx))) (build_itX _ _ _ rfl (fun _ => rfl) NX cx rfl _) ?_; refine Hid.out ?_)
  refine Lib.hid ?_
  obtain ⟨NT, hNT⟩ : ∃ N, w21.heap.size = N := ⟨_, rfl⟩
  have HNT := Lib.hid hNT
  clear hNT
  have ltX_T : NX < NT := by rw [← HNT.out]; exact HXV.out.lt
  go_wp2_with (refine wpList_bsn (op := ⟨some 19, _, _, _, _, _⟩) 1 rfl 105 (itXC (itX NX cx)) (bs_itX _ _ _ rfl (itX NX cx) rfl) NT HNT.out ?_; intro w22 k1 b1 s1; refine Hid.out ?_)
  refine Lib.hid ?_
  have KT := Lib.hid k1
  clear k1
  have lt_N1_NT : N1 < NT := by rw [← HNT.out]; exact K4.out.lt
  have lt_N2_NT : N2 < NT := by rw [← HNT.out]; exact K9.out.lt
  have le_HB_NT : w.heap.size ≤ NT := by rw [← HNT.out]; exact HB.out.size
  have K4n := Lib.hid (K4.out.below b1 K4.out.lt)
  clear K4
  have K4 := K4n
  clear K4n
  have K9n := Lib.hid (K9.out.below b1 K9.out.lt)
  clear K9
  have K9 := K9n
  clear K9n
  have HXVn := Lib.hid (HXV.out.below b1)
  clear HXV
  have HXV := HXVn
  clear HXVn
  have HBn := Lib.hid (HB.out.trans (b1.mono HB.out.size))
  clear HB
  have HB := HBn
  clear HBn
  clear b1 HNT
  clear s1
  go_wp2_with (refine wpList_st rfl 40 (.tmp 20) (.tmp 19) rfl N2 46 rfl (.slice (some ⟨NT, 0, none⟩) 1 1) (#[.slice (some ⟨NT, 0, none⟩) 1 1]) rfl rfl info_tlsX one_slX K9.out (Nat.le_of_ble_eq_true rfl) (C' := pdC (pkxP i sq li (some ⟨NT, 0, none⟩))) (pd_tlX _ _) ?_; intro w23 q1; refine Hid.out ?_)
  refine Lib.hid ?_
  have K4n := Lib.hid (K4.out.far q1 (by omega))
  clear K4
  have K4 := K4n
  clear K4n
  have KTn := Lib.hid (KT.out.far q1 (by omega))
  clear KT
  have KT := KTn
  clear KTn
  have HXVn := Lib.hid (HXV.out.far q1 (by omega))
  clear HXV
  have HXV := HXVn
  clear HXVn
  have HBn := Lib.hid (HB.out.trans (q1.2.1 _ (by omega)))
  clear HB
  have HB := HBn
  clear HBn
  have K9n : Hid (Blk 42 w23 N2 (pdC (pkxP i sq li (some ⟨NT, 0, none⟩)))) := Lib.hid q1.1
  clear K9
  have K9 := K9n
  clear K9n q1
  go_wp2_with (refine wpList_ld (op := ⟨some 21, _, _, _, _, _⟩) (by rfl) 42 (.tmp 9) rfl N2 0 rfl (pdC (pkxP i sq li (some ⟨NT, 0, none⟩))) _ K9.out.all Try.underlying42 rfl info_pdR ?_; refine Hid.out ?_)
  refine Lib.hid ?_
  have HRT : Hid (RdT w23 (some ⟨NT, 0, none⟩) 1 (fun _ => itX NX cx)) := Lib.hid (itX_rd KT.out HXV.out)
  go_wp2_with fail
  refine (refWrite_any (pkxP i sq li (some ⟨NT, 0, none⟩)) 2 rfl (by decide) (pk_ok i sq li HS.out HL.out) (pk_fit i sq li HL.out) (fun _ => itX NX cx) (fun k hk => by obtain rfl : k = 0 := Nat.lt_one_iff.1 hk; unfold bad; simp [sz, itX]) (by show hdN 2 + 3 ≤ 1492; decide) w23 ⟨HRT.out, Nat.le_refl _, by show (1 : Nat) ≤ 9223372036854775807; decide⟩).mono ?_
  rintro e w30 ⟨g, c, rfl, hg, hO, b1⟩
  have HG := Lib.hid (Nat.le_trans HB.out.size hg)
  have HO := Lib.hid hO
  have HB2 := Lib.hid (HB.out.trans (b1.mono HB.out.size))
  have HT := Lib.hid (pkx_tells i sq li HI.out HS.out HL.out (some ⟨NT, 0, none⟩) (fun _ => itX NX cx) rfl w23 HRT.out)
  clear hg hO b1
  go_wp2_with fail
  go_ret
  exact ⟨g, c, _, rfl, HG.out, HO.out, HB2.out, HT.out⟩
end Go.Proofs.Ytljkcpjkbmbphaa

/- The walk of StoreLives: for every input the law returns true, and nothing that was there is written. No condition. -/
namespace Go.Proofs.Ytljkcpjkbmbphaa
open Go.RowKit
set_option linter.unusedVariables false
set_option linter.unusedSimpArgs false

theorem build_id3 (o : Oper) (e : Operand → Value) (ho : o.op = .build 28 #[(1, .const (.int .u8 3))]) (hc : ∀ v, e (.const v) = v) (W : World) : (execOp e o).run Try.prog W = .ok (.value (.agg (iC 3))) W := by
  unfold execOp
  simp only [ho]
  simp only [List.map_toArray, List.map_cons, List.map_nil, hc]
  kernel_rfl
theorem run_rem3000 (o : Oper) (e : Operand → Value) (x y : Operand) (t u : TypeId) (ho : o.op = .binOp .rem t x y u) (n r : Nat) (hr : n % 3000 = r) (h0 : e x = .int .u16 (n : Int)) (h1 : e y = .int .u16 3000) (W : World) (hn : n ≤ 65535) : (execOp e o).run Try.prog W = .ok (.value (.int .u16 (r : Int))) W := by
  subst hr
  unfold execOp
  simp only [ho, h0, h1]
  have e1 : Int.tmod (n : Int) 3000 = ((n % 3000 : Nat) : Int) := by rw [Int.tmod_eq_emod_of_nonneg (by omega)]; rfl
  simp [go_sem, e1, IntKind.wrap_u16]
  try omega
theorem run_cv16 (o : Oper) (e : Operand → Value) (x : Operand) (ho : o.op = .convert 30 3 x) (n : Nat) (h0 : e x = .int .u16 (n : Int)) (hn : n ≤ 65535) (W : World) : (execOp e o).run Try.prog W = .ok (.value (.int .i64 (n : Int))) W := by
  unfold execOp
  simp only [ho, h0]
  simp [go_sem, IntKind.wrap, IntKind.signed, IntKind.bits]
  try omega
theorem run_addI (o : Oper) (e : Operand → Value) (x y : Operand) (t u : TypeId) (ho : o.op = .binOp .add t x y u) (a b c : Int) (h0 : e x = .int .i64 a) (h1 : e y = .int .i64 b) (hc : a + b = c) (hb : -1000000 ≤ c ∧ c ≤ 1000000) (W : World) : (execOp e o).run Try.prog W = .ok (.value (.int .i64 c)) W := by
  subst hc
  unfold execOp
  simp only [ho, h0, h1]
  simp [go_sem, IntKind.wrap, IntKind.signed, IntKind.bits]
  try omega
theorem run_subI (o : Oper) (e : Operand → Value) (x y : Operand) (t u : TypeId) (ho : o.op = .binOp .sub t x y u) (a b c : Int) (h0 : e x = .int .i64 a) (h1 : e y = .int .i64 b) (hc : a - b = c) (hb : -1000000 ≤ c ∧ c ≤ 1000000) (W : World) : (execOp e o).run Try.prog W = .ok (.value (.int .i64 c)) W := by
  subst hc
  unfold execOp
  simp only [ho, h0, h1]
  simp [go_sem, IntKind.wrap, IntKind.signed, IntKind.bits]
  try omega
theorem putH_one {t : Hd} {n : Nat} (h : t.id = n) : putH noH t = oneH n t := by
  funext i
  unfold putH oneH
  rw [h]
  rfl
theorem oneH_at (n : Nat) (h : Hd) : oneH n h n = some h := by unfold oneH; rw [if_pos rfl]
theorem oneH_not (n : Nat) (h : Hd) : ∀ i, i ≠ n → oneH n h i = none := fun i hi => by unfold oneH; rw [if_neg hi]
theorem dead_eq (li : Int) (N q t : Nat) (h : li = max ((N : Int) - (q : Int)) 0) : (if decide (0 < li) && (max (li - (t : Int)) 0 == 0) then 1 else 0 : Nat) = if q < N ∧ N ≤ q + t then 1 else 0 := by
  by_cases hc : q < N ∧ N ≤ q + t
  · rw [if_pos hc, if_pos]
    simp only [Bool.and_eq_true, decide_eq_true_eq, beq_iff_eq]
    omega
  · rw [if_neg hc, if_neg]
    simp only [Bool.and_eq_true, decide_eq_true_eq, beq_iff_eq]
    omega
set_option maxHeartbeats 40000000 in
set_option maxRecDepth 100000 in
theorem walkStoreLives (a0 : Int) (A : Option Addr) (len cap : Nat) (zs : List Int) (w : World) (w0 : (Lit.int .u16 a0).wf = true) (w1 : IsRow .u8 w A len cap zs) :
    Calls Try.prog 5 #[.int .u16 a0, .slice A len cap] w fun e w' => e = .returned (.bool true) ∧ Below w.heap.size w w' := by
  obtain ⟨hR, hA⟩ := isRow_rd w1
  obtain ⟨hlc, hcm⟩ := isRow_len w1
  have hlm : len ≤ 9223372036854775807 := Nat.le_trans hlc hcm
  obtain ⟨z, hz⟩ : ∃ z : Nat → Int, (fun j => zs.getD j 0) = z := ⟨_, rfl⟩
  rw [hz] at hR
  have HR := Lib.hid hR
  have ha := wf_u16 w0
  obtain ⟨an, rfl⟩ : ∃ n : Nat, a0 = (n : Int) := ⟨a0.toNat, by omega⟩
  obtain ⟨rn, hrn⟩ : ∃ r, an % 3000 = r := ⟨_, rfl⟩
  have hrb : rn < 3000 := by rw [← hrn]; exact Nat.mod_lt _ (by decide)
  obtain ⟨N, hN⟩ : ∃ n, 1 + rn = n := ⟨_, rfl⟩
  obtain ⟨M, hM⟩ : ∃ n, N + 60 = n := ⟨_, rfl⟩
  have HRN := Lib.hid hrn
  have hanb : an ≤ 65535 := by omega
  have HNN := Lib.hid (And.intro hN (And.intro hrb hanb))
  have HMM := Lib.hid hM
  have HNB := Lib.hid (show 1 ≤ N ∧ N ≤ 3000 by omega)
  clear hR hA hlc hcm hz w0 w1 ha hrn hrb hN hM hanb
  go_enter Try.func5, Try.ntmps5
  have HB := Lib.hid (Below.refl w.heap.size w)
  go_wp2_with fail
  refine (awake_any w).mono ?_
  rintro e w1 ⟨rfl, b1⟩
  have HBn := Lib.hid (HB.out.trans (b1.mono HB.out.size))
  clear HB
  have HB := HBn
  clear HBn
  clear b1
  go_wp2_with (refine wpList_v (op := ⟨some 22, _, _, _, _, _⟩) rfl (.int .u16 (rn : Int)) (run_rem3000 _ _ _ _ _ _ rfl an rn HRN.out rfl rfl _ HNN.out.2.2) ?_; refine Hid.out ?_)
  refine Lib.hid ?_
  go_wp2_with (refine wpList_v (op := ⟨some 23, _, _, _, _, _⟩) rfl (.int .i64 (rn : Int)) (run_cv16 _ _ _ rfl rn rfl (by have := HNN.out; omega) _) ?_; refine Hid.out ?_)
  refine Lib.hid ?_
  go_wp2_with (refine wpList_v (op := ⟨some 24, _, _, _, _, _⟩) rfl (.int .i64 (N : Int)) (run_addI _ _ _ _ _ _ rfl 1 (rn : Int) (N : Int) rfl rfl (by have := HNN.out; omega) (by have := HNB.out; omega) _) ?_; refine Hid.out ?_)
  refine Lib.hid ?_
  go_wp2_with fail
  have HBo := Lib.hid HB.out
  refine (new_any w1).mono ?_
  rintro e w2 ⟨s, b, rfl, hst, b1⟩
  have HBn := Lib.hid (HB.out.trans (b1.mono HB.out.size))
  clear HB
  have HB := HBn
  clear HBn
  have LEB := Lib.hid (show w.heap.size ≤ w1.heap.size from HBo.out.size)
  have HST := Lib.hid hst
  have HBs := Lib.hid HB.out
  clear hst b1
  go_wp2_with (refine wpList_v (op := ⟨some 26, _, _, _, _, _⟩) rfl (.agg (iC 3)) (build_id3 _ _ rfl (fun _ => rfl) _) ?_; refine Hid.out ?_)
  refine Lib.hid ?_
  obtain ⟨N3, hN3⟩ : ∃ N, w2.heap.size = N := ⟨_, rfl⟩
  have HN3 := Lib.hid hN3
  clear hN3
  go_wp2_with (refine wpList_new (op := ⟨some 7, _, _, _, _, _⟩) rfl 28 rfl (iC 0) zero_idS N3 HN3.out ?_; intro w3 k1 b1 s1; refine Hid.out ?_)
  refine Lib.hid ?_
  have LE9 : Hid (s < N3 ∧ b < N3) := Lib.hid (by rw [← HN3.out]; exact ⟨HST.out.lt, HST.out.ltb⟩)
  have K7 := Lib.hid k1
  have hNK7 := Lib.hid (Nat.le_of_eq HN3.out)
  have hbx := Lib.hid b1
  clear k1
  have le_HB_N3 : w.heap.size ≤ N3 := by rw [← HN3.out]; exact HB.out.size
  have HBn := Lib.hid (HB.out.trans (b1.mono HB.out.size))
  clear HB
  have HB := HBn
  clear HBn
  clear b1 HN3
  go_wp2_with (refine wpList_st rfl 28 (.tmp 7) (.tmp 26) rfl N3 0 rfl (.agg (iC 3)) (iC 3) rfl rfl info_iC (iC_one' _) K7.out (Nat.le_of_ble_eq_true rfl) (C' := iC 3) (id_over _ _) ?_; intro w10 q1; refine Hid.out ?_)
  refine Lib.hid ?_
  have hby := Lib.hid (hbx.out.trans (q1.2.1 _ hNK7.out))
  have HBn := Lib.hid (HB.out.trans (q1.2.1 _ (by omega)))
  clear HB
  have HB := HBn
  clear HBn
  have K7n : Hid (Blk 28 w10 N3 (iC 3)) := Lib.hid q1.1
  clear K7
  have K7 := K7n
  clear K7n q1
  have HSTn : Hid (StAt w10 w1.heap.size s b noH 0 false) := Lib.hid (HST.out.below hby.out)
  clear HST
  have HST := HSTn
  clear HSTn
  clear hby hbx hNK7
  go_wp2_with (refine wpList_ld (op := ⟨some 29, _, _, _, _, _⟩) (by rfl) 28 (.tmp 7) rfl N3 0 rfl (iC 3) _ K7.out.all Try.underlying28 rfl info_iC ?_; refine Hid.out ?_)
  refine Lib.hid ?_
  go_wp2_with fail
  refine (packetX_any 3 7 (N : Int) (by unfold IdOk; decide) (by decide) (by have := HNB.out; omega) w10).mono ?_
  rintro e w11 ⟨g1, c1, z1, rfl, hg1, hO, b1, hz1⟩
  have K7n := Lib.hid (K7.out.below b1 K7.out.lt)
  clear K7
  have K7 := K7n
  clear K7n
  have HSTn := Lib.hid (HST.out.below b1)
  clear HST
  have HST := HSTn
  clear HSTn
  have HBn := Lib.hid (HB.out.trans (b1.mono HB.out.size))
  clear HB
  have HB := HBn
  clear HBn
  have HO := Lib.hid hO
  have HZ1 := Lib.hid hz1
  clear hO hz1 b1 hg1
  go_wp2_with fail
  refine (put_good g1 30 c1 z1 1 w1.heap.size s b 0 noH false w11 HST.out (by decide) HZ1.out.h4 (by decide) HO.out HZ1.out.good).mono ?_
  rintro e q1 ⟨x1, E1, rfl, hf, hc⟩
  have hR : x1 = 1 ∧ E1 = 0 ∧ StAt q1 w1.heap.size s b (putH noH (hdZ 30 z1)) 1 false := by
    rcases hc with ⟨_, _, h1, h2, h3⟩ | ⟨_, h, _⟩ | ⟨h, e, _⟩ | ⟨h, e, _⟩
    · exact ⟨h1, h2, h3⟩
    · omega
    · cases e
    · cases e
  obtain ⟨rfl, rfl, hst⟩ := hR
  have le9 := LE9.out
  have K7n := Lib.hid ((hf.block N3 K7.out.lt (by omega) (by omega)).trans K7.out)
  clear K7
  have K7 : Hid (Blk 28 q1 N3 (iC 3)) := K7n
  clear K7n
  have le_B : w.heap.size ≤ w1.heap.size := LEB.out
  have HBn := Lib.hid (HB.out.trans ((hf.below HST.out.hs HST.out.hb HST.out.ltB).mono le_B))
  clear HB
  have HB := HBn
  clear HBn
  have HST1 : Hid (StAt q1 w1.heap.size s b (oneH 3 (hdZ 30 z1)) 1 false) := Lib.hid (by have h := hst; rw [putH_one HZ1.out.id] at h; exact h)
  obtain ⟨h0, hh0⟩ : ∃ h, hdZ 30 z1 = h := ⟨_, rfl⟩
  have HF : Hid (h0.sq = 7 ∧ h0.li = max ((N : Int) - ((0 : Nat) : Int)) 0 ∧ h0.pu = max (((0 : Nat) : Int) - (N : Int)) 0) := Lib.hid (by rw [← hh0]; exact ⟨HZ1.out.sq, by rw [HZ1.out.li]; have := HNB.out; omega, by show (0 : Int) = _; omega⟩)
  rw [hh0] at HST1
  clear HST hst hf hc HO HZ1 hh0 HBo HBs
  have HST := HST1
  clear HST1
  go_wp2_with fail
  go_loopw [10, 11] (fun a i wr => ∃ (q k : Nat) (h : Hd), k ≤ 3200 ∧ a = .int .i64 q ∧ i = .int .i64 k ∧ q < N + 60 ∧ Hid (StAt wr w1.heap.size s b (oneH 3 h) 1 false) ∧ Hid (h.sq = 7 ∧ h.li = max ((N : Int) - (q : Int)) 0 ∧ h.pu = max ((q : Int) - (N : Int)) 0) ∧ Hid (Blk 28 wr N3 (iC 3)) ∧ Hid (Below w.heap.size w wr)) (fun _ i _ => 3200 - (intOf i).toNat)
  case atStart => exact ⟨0, 0, h0, by omega, rfl, rfl, by omega, HST, HF, K7, HB⟩
  case round =>
    clear HST HF K7 HB
    obtain ⟨q, k, h, hk, rfl, rfl, hq, HST, HF, K7, HB⟩ := hrel
    by_cases hlt : k < 3200
    · have hki : (k : Int) < 3200 := by omega
      go_upto_if 48 with (fail)
      go_cut [12] from 41 to 118 (fun s wx => ∃ t : Nat, s = .int .i64 t ∧ t ≤ 255 ∧ wr = wx)
      case first =>
        by_cases hl : k < len
        · have hli : (k : Int) < (len : Int) := by omega
          obtain ⟨b8, off8, rfl, hr8⟩ := (HR.out.below HB.out rfl).row (by omega)
          obtain ⟨v8, hv8⟩ : ∃ v : Nat, z k = (v : Int) := ⟨(z k).toNat, by have := hr8.2.2 k; omega⟩
          have hb8 : v8 ≤ 255 := by have := hr8.2.2 k; omega
          have c8 := hr8.2.1 k hl
          rw [hv8] at c8
          have hw8 := wI v8 (by omega)
          have HV8 := Lib.hid hb8
          clear hr8 hv8 hb8
          go_wp2_with fail
          go_meet
          case rel => exact ⟨v8, rfl, HV8.out, rfl⟩
        · have hli : ¬ (k : Int) < (len : Int) := by omega
          go_wp2_with fail
          go_meet
          case rel => exact ⟨1, rfl, by omega, rfl⟩
      case rest =>
      obtain ⟨t, rfl, ht, hwx⟩ := hcut
      subst hwx
      obtain ⟨p, hp⟩ : ∃ p, q + t = p := ⟨_, rfl⟩
      have HP := Lib.hid hp
      have HQ := Lib.hid (And.intro hq ht)
      clear hp
      go_wp2_with (refine wpList_v (op := ⟨some 57, _, _, _, _, _⟩) rfl (.int .i64 (p : Int)) (run_addI _ _ _ _ _ _ rfl (q : Int) (t : Int) (p : Int) rfl rfl (by have := HP.out; omega) (by have := HP.out; have := HQ.out; have := HNB.out; omega) _) ?_; refine Hid.out ?_)
      refine Lib.hid ?_
      go_wp2_with fail
      refine (age_one w1.heap.size s b 3 h (oneH 3 h) false (t : Int) wr HST.out (oneH_at 3 h) (oneH_not 3 h) (by have := HF.out; have := HNB.out; omega) (by have := HF.out; have := HQ.out; have := HNB.out; omega) (by omega)).mono ?_
      rintro e w5 ⟨Ad, md, cd, rfl, hmd, hb5, hkp, hcase⟩
      rw [dead_eq h.li N q t HF.out.2.1] at hmd
      have K7n := Lib.hid (K7.out.kpx hkp (by decide))
      clear K7
      have K7 : Hid (Blk 28 w5 N3 (iC 3)) := K7n
      clear K7n
      have HBn := Lib.hid (HB.out.trans (hb5.mono le_B))
      clear HB
      have HB := HBn
      clear HBn hkp hb5 HST
      have HA : Hid ((ageH h t).sq = 7 ∧ (ageH h t).li = max ((N : Int) - (p : Int)) 0 ∧ (ageH h t).pu = max ((p : Int) - (N : Int)) 0) := Lib.hid ⟨HF.out.1, by show max (h.li - (t : Int)) 0 = _; have := HF.out; have := HP.out; omega, by show h.pu + max ((t : Int) - h.li) 0 = _; have := HF.out; have := HP.out; omega⟩
      obtain ⟨h9, hh9⟩ : ∃ x, ageH h t = x := ⟨_, rfl⟩
      rw [hh9] at HA hcase
      clear hh9
      have HMD := Lib.hid hmd
      clear hmd
      have hcase2 : (M ≤ p ∧ StAt w5 w1.heap.size s b noH 0 false) ∨ (p < M ∧ StAt w5 w1.heap.size s b (oneH 3 h9) 1 false) := by
        have := HA.out; have := HMM.out
        rcases hcase with ⟨h1, h2⟩ | ⟨h1, h2⟩
        · exact .inl ⟨by omega, h2⟩
        · exact .inr ⟨by omega, h2⟩
      clear hcase
      have key : (md = 0 ∧ q < N ∧ p < N) ∨ (md = 1 ∧ q < N ∧ N ≤ p) ∨ (md = 0 ∧ N ≤ q ∧ N ≤ p) := by
        have h1 := HMD.out; have := HP.out; split at h1 <;> omega
      clear HMD
      rcases hcase2 with ⟨hMp, hst⟩ | ⟨hMp, hst⟩
      · skip
        have HST := Lib.hid hst
        clear hst
        go_wp2_with (refine wpList_ld (op := ⟨some 66, _, _, _, _, _⟩) (by rfl) 28 (.tmp 7) rfl N3 0 rfl (iC 3) _ K7.out.all Try.underlying28 rfl info_iC ?_; refine Hid.out ?_)
        refine Lib.hid ?_
        go_wp2_with fail
        refine (stGet_any w1.heap.size s b 0 3 noH false w5 HST.out (by unfold IdOk; decide) (fun x hx => by cases hx)).mono ?_
        rintro e w6 ⟨b1, hc⟩
        have hR : e = .returned (.tuple #[.slice none 0 0, .agg (enC en0), .int .i64 6]) := by
          rcases hc with ⟨_, h2⟩ | ⟨x, g, c, h1, _⟩
          · exact h2
          · cases h1
        subst hR
        have K7n := Lib.hid (K7.out.below b1 K7.out.lt)
        clear K7
        have K7 := K7n
        clear K7n
        have HSTn := Lib.hid (HST.out.below b1)
        clear HST
        have HST := HSTn
        clear HSTn
        have HBn := Lib.hid (HB.out.trans (b1.mono HB.out.size))
        clear HB
        have HB := HBn
        clear HBn
        clear b1 hc
        obtain ⟨N51, hN51⟩ : ∃ N, w6.heap.size = N := ⟨_, rfl⟩
        have HN51 := Lib.hid hN51
        clear hN51
        go_wp2_with (refine wpList_new (op := ⟨some 17, _, _, _, _, _⟩) rfl 32 rfl (enC ⟨fun _ => 0, 0, 0, 0⟩) zero_en N51 HN51.out ?_; intro w51 k1 b1 s1; refine Hid.out ?_)
        refine Lib.hid ?_
        have K17 := Lib.hid k1
        have hNK17 := Lib.hid (Nat.le_of_eq HN51.out)
        have hbx := Lib.hid b1
        clear k1
        have lt_N3_N51 : N3 < N51 := by rw [← HN51.out]; exact K7.out.lt
        have le_HB_N51 : w.heap.size ≤ N51 := by rw [← HN51.out]; exact HB.out.size
        have K7n := Lib.hid (K7.out.below b1 K7.out.lt)
        clear K7
        have K7 := K7n
        clear K7n
        have HBn := Lib.hid (HB.out.trans (b1.mono HB.out.size))
        clear HB
        have HB := HBn
        clear HBn
        clear b1 HN51
        go_wp2_with (refine wpList_st rfl 32 (.tmp 17) (.tmp 69) rfl N51 0 rfl (.agg (enC (en0))) (enC (en0)) rfl rfl info_enP (enC_all _) K17.out (Nat.le_of_ble_eq_true rfl) (C' := enC (en0)) (en_over _ _) ?_; intro w60 q1; refine Hid.out ?_)
        refine Lib.hid ?_
        have hby := Lib.hid (hbx.out.trans (q1.2.1 _ hNK17.out))
        have K7n := Lib.hid (K7.out.far q1 (by omega))
        clear K7
        have K7 := K7n
        clear K7n
        have HBn := Lib.hid (HB.out.trans (q1.2.1 _ (by omega)))
        clear HB
        have HB := HBn
        clear HBn
        have K17n : Hid (Blk 32 w60 N51 (enC (en0))) := Lib.hid q1.1
        clear K17
        have K17 := K17n
        clear K17n q1
        have HSTn : Hid (StAt w60 w1.heap.size s b (noH) 0 false) := Lib.hid (HST.out.below hby.out)
        clear HST
        have HST := HSTn
        clear HSTn
        clear hby hbx hNK17
        rcases key with ⟨rfl, hk1, hk2⟩ | ⟨rfl, hk1, hk2⟩ | ⟨rfl, hk1, hk2⟩
        · skip
          have d1 : (q : Int) < (N : Int) := by omega
          have d2 : ¬ (N : Int) ≤ (p : Int) := by omega
          have d3 : (M : Int) ≤ (p : Int) := by omega
          exfalso; have := HMM.out; omega
        · skip
          have d1 : (q : Int) < (N : Int) := by omega
          have d2 : (N : Int) ≤ (p : Int) := by omega
          have d3 : (M : Int) ≤ (p : Int) := by omega
          clear hk1 hk2
          go_upto_region 22 with (fail)
          go_wp2_with (refine wpList_v (op := ⟨some 94, _, _, _, _, _⟩) rfl (.int .i64 (M : Int)) (run_addI _ _ _ _ _ _ rfl (N : Int) 60 (M : Int) rfl rfl (by have := HMM.out; omega) (by have := HMM.out; have := HNB.out; omega) _) ?_; refine Hid.out ?_)
          refine Lib.hid ?_
          go_wp2_with fail
          refine (stLen_any HST.out).mono ?_
          rintro e w9 ⟨rfl, rfl⟩
          go_wp2_with fail
          go_ret
          exact ⟨rfl, HB.out⟩
        · skip
          have d1 : ¬ (q : Int) < (N : Int) := by omega
          have d2 : (N : Int) ≤ (p : Int) := by omega
          have d3 : (M : Int) ≤ (p : Int) := by omega
          clear hk1 hk2
          go_upto_region 22 with (fail)
          go_wp2_with (refine wpList_v (op := ⟨some 94, _, _, _, _, _⟩) rfl (.int .i64 (M : Int)) (run_addI _ _ _ _ _ _ rfl (N : Int) 60 (M : Int) rfl rfl (by have := HMM.out; omega) (by have := HMM.out; have := HNB.out; omega) _) ?_; refine Hid.out ?_)
          refine Lib.hid ?_
          go_wp2_with fail
          refine (stLen_any HST.out).mono ?_
          rintro e w9 ⟨rfl, rfl⟩
          go_wp2_with fail
          go_ret
          exact ⟨rfl, HB.out⟩
      · skip
        have HST := Lib.hid hst
        clear hst
        go_wp2_with (refine wpList_ld (op := ⟨some 66, _, _, _, _, _⟩) (by rfl) 28 (.tmp 7) rfl N3 0 rfl (iC 3) _ K7.out.all Try.underlying28 rfl info_iC ?_; refine Hid.out ?_)
        refine Lib.hid ?_
        go_wp2_with fail
        refine (stGet_any w1.heap.size s b 1 3 (oneH 3 h9) false w5 HST.out (by unfold IdOk; decide) (fun x hx => by rw [oneH_at] at hx; cases hx; have := HA.out; have := HNB.out; omega)).mono ?_
        rintro e w6 ⟨b1, hc⟩
        have hR : ∃ g c, e = .returned (.tuple #[.slice (some ⟨g, 0, none⟩) h9.n c, .agg (enC (hdE h9)), .int .i64 0]) := by
          rcases hc with ⟨h1, _⟩ | ⟨x, g, c, h1, h2, _⟩
          · rw [oneH_at] at h1; cases h1
          · rw [oneH_at] at h1; cases h1; exact ⟨g, c, h2⟩
        obtain ⟨g6, c6, rfl⟩ := hR
        have K7n := Lib.hid (K7.out.below b1 K7.out.lt)
        clear K7
        have K7 := K7n
        clear K7n
        have HSTn := Lib.hid (HST.out.below b1)
        clear HST
        have HST := HSTn
        clear HSTn
        have HBn := Lib.hid (HB.out.trans (b1.mono HB.out.size))
        clear HB
        have HB := HBn
        clear HBn
        clear b1 hc
        obtain ⟨N71, hN71⟩ : ∃ N, w6.heap.size = N := ⟨_, rfl⟩
        have HN71 := Lib.hid hN71
        clear hN71
        go_wp2_with (refine wpList_new (op := ⟨some 17, _, _, _, _, _⟩) rfl 32 rfl (enC ⟨fun _ => 0, 0, 0, 0⟩) zero_en N71 HN71.out ?_; intro w71 k1 b1 s1; refine Hid.out ?_)
        refine Lib.hid ?_
        have K17 := Lib.hid k1
        have hNK17 := Lib.hid (Nat.le_of_eq HN71.out)
        have hbx := Lib.hid b1
        clear k1
        have lt_N3_N71 : N3 < N71 := by rw [← HN71.out]; exact K7.out.lt
        have le_HB_N71 : w.heap.size ≤ N71 := by rw [← HN71.out]; exact HB.out.size
        have K7n := Lib.hid (K7.out.below b1 K7.out.lt)
        clear K7
        have K7 := K7n
        clear K7n
        have HBn := Lib.hid (HB.out.trans (b1.mono HB.out.size))
        clear HB
        have HB := HBn
        clear HBn
        clear b1 HN71
        go_wp2_with (refine wpList_st rfl 32 (.tmp 17) (.tmp 69) rfl N71 0 rfl (.agg (enC (hdE h9))) (enC (hdE h9)) rfl rfl info_enP (enC_all _) K17.out (Nat.le_of_ble_eq_true rfl) (C' := enC (hdE h9)) (en_over _ _) ?_; intro w61 q1; refine Hid.out ?_)
        refine Lib.hid ?_
        have hby := Lib.hid (hbx.out.trans (q1.2.1 _ hNK17.out))
        have K7n := Lib.hid (K7.out.far q1 (by omega))
        clear K7
        have K7 := K7n
        clear K7n
        have HBn := Lib.hid (HB.out.trans (q1.2.1 _ (by omega)))
        clear HB
        have HB := HBn
        clear HBn
        have K17n : Hid (Blk 32 w61 N71 (enC (hdE h9))) := Lib.hid q1.1
        clear K17
        have K17 := K17n
        clear K17n q1
        have HSTn : Hid (StAt w61 w1.heap.size s b (oneH 3 h9) 1 false) := Lib.hid (HST.out.below hby.out)
        clear HST
        have HST := HSTn
        clear HSTn
        clear hby hbx hNK17
        rcases key with ⟨rfl, hk1, hk2⟩ | ⟨rfl, hk1, hk2⟩ | ⟨rfl, hk1, hk2⟩
        · skip
          have d1 : (q : Int) < (N : Int) := by omega
          have d2 : ¬ (N : Int) ≤ (p : Int) := by omega
          have d3 : ¬ (M : Int) ≤ (p : Int) := by omega
          obtain ⟨d, hd⟩ : ∃ d, (N : Int) - (p : Int) = d := ⟨_, rfl⟩
          obtain ⟨lf, hlf⟩ : ∃ l, max d 0 = l := ⟨_, rfl⟩
          have cL : w61.cell? ⟨N71, 9, none⟩ = some (.int .i64 lf) := (K17.out.cell 9).trans (by show some (Value.int .i64 h9.li) = _; rw [HA.out.2.1, hd, hlf])
          have cS : w61.cell? ⟨N71, 8, none⟩ = some (.int .u32 7) := (K17.out.cell 8).trans (by show some (Value.int .u32 ((h9.sq : Nat) : Int)) = _; rw [HA.out.1]; rfl)
          have HD := Lib.hid (And.intro hd hlf)
          clear hd hlf
          clear hk1 hk2
          go_upto_region 22 with (fail)
          go_wp2_with (refine wpList_v (op := ⟨some 94, _, _, _, _, _⟩) rfl (.int .i64 (M : Int)) (run_addI _ _ _ _ _ _ rfl (N : Int) 60 (M : Int) rfl rfl (by have := HMM.out; omega) (by have := HMM.out; have := HNB.out; omega) _) ?_; refine Hid.out ?_)
          refine Lib.hid ?_
          go_upto_region 24 with (fail)
          go_wp2_with (refine wpList_gv (op := ⟨some 110, _, _, _, _, _⟩) (.int .i64 d) (by rfl) (run_subI _ _ _ _ _ _ rfl (N : Int) (p : Int) d rfl rfl HD.out.1 (by have := HD.out; have := HNB.out; have := HQ.out; have := HP.out; omega) _) ?_; refine Hid.out ?_)
          refine Lib.hid ?_
          go_wp2_with (refine wpList_gv (op := ⟨some 111, _, _, _, _, _⟩) (.int .i64 lf) (by rfl) ((max_run _ _ _ rfl d rfl rfl _).trans (by rw [HD.out.2])) ?_; refine Hid.out ?_)
          refine Lib.hid ?_
          go_wp2_with fail
          go_roundw
          case rel => exact ⟨p, k + 1, h9, by omega, rfl, by go_num, by have := HMM.out; omega, HST, HA, K7, HB⟩
          case measure => simp only [intOf]; omega
        · skip
          have d1 : (q : Int) < (N : Int) := by omega
          have d2 : (N : Int) ≤ (p : Int) := by omega
          have d3 : ¬ (M : Int) ≤ (p : Int) := by omega
          obtain ⟨d, hd⟩ : ∃ d, (N : Int) - (p : Int) = d := ⟨_, rfl⟩
          obtain ⟨lf, hlf⟩ : ∃ l, max d 0 = l := ⟨_, rfl⟩
          have cL : w61.cell? ⟨N71, 9, none⟩ = some (.int .i64 lf) := (K17.out.cell 9).trans (by show some (Value.int .i64 h9.li) = _; rw [HA.out.2.1, hd, hlf])
          have cS : w61.cell? ⟨N71, 8, none⟩ = some (.int .u32 7) := (K17.out.cell 8).trans (by show some (Value.int .u32 ((h9.sq : Nat) : Int)) = _; rw [HA.out.1]; rfl)
          have HD := Lib.hid (And.intro hd hlf)
          clear hd hlf
          clear hk1 hk2
          go_upto_region 22 with (fail)
          go_wp2_with (refine wpList_v (op := ⟨some 94, _, _, _, _, _⟩) rfl (.int .i64 (M : Int)) (run_addI _ _ _ _ _ _ rfl (N : Int) 60 (M : Int) rfl rfl (by have := HMM.out; omega) (by have := HMM.out; have := HNB.out; omega) _) ?_; refine Hid.out ?_)
          refine Lib.hid ?_
          go_upto_region 24 with (fail)
          go_wp2_with (refine wpList_gv (op := ⟨some 110, _, _, _, _, _⟩) (.int .i64 d) (by rfl) (run_subI _ _ _ _ _ _ rfl (N : Int) (p : Int) d rfl rfl HD.out.1 (by have := HD.out; have := HNB.out; have := HQ.out; have := HP.out; omega) _) ?_; refine Hid.out ?_)
          refine Lib.hid ?_
          go_wp2_with (refine wpList_gv (op := ⟨some 111, _, _, _, _, _⟩) (.int .i64 lf) (by rfl) ((max_run _ _ _ rfl d rfl rfl _).trans (by rw [HD.out.2])) ?_; refine Hid.out ?_)
          refine Lib.hid ?_
          go_wp2_with fail
          go_roundw
          case rel => exact ⟨p, k + 1, h9, by omega, rfl, by go_num, by have := HMM.out; omega, HST, HA, K7, HB⟩
          case measure => simp only [intOf]; omega
        · skip
          have d1 : ¬ (q : Int) < (N : Int) := by omega
          have d2 : (N : Int) ≤ (p : Int) := by omega
          have d3 : ¬ (M : Int) ≤ (p : Int) := by omega
          obtain ⟨d, hd⟩ : ∃ d, (N : Int) - (p : Int) = d := ⟨_, rfl⟩
          obtain ⟨lf, hlf⟩ : ∃ l, max d 0 = l := ⟨_, rfl⟩
          have cL : w61.cell? ⟨N71, 9, none⟩ = some (.int .i64 lf) := (K17.out.cell 9).trans (by show some (Value.int .i64 h9.li) = _; rw [HA.out.2.1, hd, hlf])
          have cS : w61.cell? ⟨N71, 8, none⟩ = some (.int .u32 7) := (K17.out.cell 8).trans (by show some (Value.int .u32 ((h9.sq : Nat) : Int)) = _; rw [HA.out.1]; rfl)
          have HD := Lib.hid (And.intro hd hlf)
          clear hd hlf
          clear hk1 hk2
          go_upto_region 22 with (fail)
          go_wp2_with (refine wpList_v (op := ⟨some 94, _, _, _, _, _⟩) rfl (.int .i64 (M : Int)) (run_addI _ _ _ _ _ _ rfl (N : Int) 60 (M : Int) rfl rfl (by have := HMM.out; omega) (by have := HMM.out; have := HNB.out; omega) _) ?_; refine Hid.out ?_)
          refine Lib.hid ?_
          go_upto_region 24 with (fail)
          go_wp2_with (refine wpList_gv (op := ⟨some 110, _, _, _, _, _⟩) (.int .i64 d) (by rfl) (run_subI _ _ _ _ _ _ rfl (N : Int) (p : Int) d rfl rfl HD.out.1 (by have := HD.out; have := HNB.out; have := HQ.out; have := HP.out; omega) _) ?_; refine Hid.out ?_)
          refine Lib.hid ?_
          go_wp2_with (refine wpList_gv (op := ⟨some 111, _, _, _, _, _⟩) (.int .i64 lf) (by rfl) ((max_run _ _ _ rfl d rfl rfl _).trans (by rw [HD.out.2])) ?_; refine Hid.out ?_)
          refine Lib.hid ?_
          go_wp2_with fail
          go_roundw
          case rel => exact ⟨p, k + 1, h9, by omega, rfl, by go_num, by have := HMM.out; omega, HST, HA, K7, HB⟩
          case measure => simp only [intOf]; omega
    · have hki : ¬ (k : Int) < 3200 := by omega
      go_wp2_with fail
      go_ret
      exact ⟨rfl, HB.out⟩
end Go.Proofs.Ytljkcpjkbmbphaa
