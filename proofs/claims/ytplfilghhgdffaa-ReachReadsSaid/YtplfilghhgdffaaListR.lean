/- reach.getList at waymark/api.Reach: the deferred closure, the loop. Each theorem states its conditions. -/
import Derived.Test.YtplfilghhgdffaaListS
namespace Go.Proofs.Ytplfilghhgdffaa
open Go.RowKit
set_option linter.unusedVariables false

/-- the deferred closure, where nothing panics -/
theorem catch_idleR (p q : Addr) (w : World) :
    CallsD Try.prog 50 #[.pointer (some p), .pointer (some q)] .returning w fun e u' w' => e = .returned (.tuple #[]) ∧ u' = .returning ∧ w' = w := by
  refine callsD_of_wpS Try.func50 rfl fun c₀ cs hu => ?_
  apply wpS_seq
  apply wpS_region
  simp [wpOpsS, go_sem, recoverD, hu, Try.ntmps50, Exit.thenS]
  refine wpS_of_wp ?_
  go_wp2
  cases c₀
  simp_all [bodyPostS, results, Try.results50]

set_option maxHeartbeats 1000000 in
set_option maxRecDepth 100000 in
/-- the same, where the reader gave up -/
theorem catch_faultR (b b' : Nat) (v : Value) (x : Int) (tv tx : TypeId) (older : List PanicEntry) (w : World) (hp : w.heap[b]? = some (.cells #[v] tv (0, 0))) (hq : w.heap[b']? = some (.cells #[.int .i64 x] tx (0, 0))) (hne : b ≠ b') :
    CallsD Try.prog 50 #[.pointer (some ⟨b, 0, none⟩), .pointer (some ⟨b', 0, none⟩)] (.panicking (flt :: older)) w fun e u' w' =>
      e = .returned (.tuple #[]) ∧ u' = .panicking ({ flt with recovered := true } :: older) ∧ w' = ((w.setCell ⟨b, 0, none⟩ (.slice none 0 0)).setCell ⟨b', 0, none⟩ (.int .i64 3)).alloc (.cells #[] 84) := by
  have hb1 : b < w.heap.size := (Array.getElem?_eq_some_iff.1 hp).1
  have hb2 : b' < w.heap.size := (Array.getElem?_eq_some_iff.1 hq).1
  have cp := blk_cell hp
  have fp := blk_free hp 0
  have cq := blk_cell hq
  have fq := blk_free hq 0
  clear hp hq
  refine callsD_of_wpS Try.func50 rfl fun c₀ cs hu => ?_
  apply wpS_seq
  apply wpS_region
  simp [wpOpsS, go_sem, recoverD, hu, flt, Try.ntmps50, Exit.thenS]
  apply wpS_seq
  apply wpS_seq
  apply wpS_region
  simp [wpOpsS, go_sem, Exit.thenS]
  have e : (#[Value.pointer (some ⟨b, 0, none⟩), Value.pointer (some ⟨b', 0, none⟩)] ++ ((((Array.replicate 14 undef).setIfInBounds 3 (Value.iface 84 (Value.agg #[]))).setIfInBounds 0 (Value.iface 84 (Value.agg #[]))).setIfInBounds 4 (Value.iface 84 (Value.agg #[]))).setIfInBounds 5 (Value.bool false)) = #[Value.pointer (some ⟨b, 0, none⟩), Value.pointer (some ⟨b', 0, none⟩), (Value.iface 84 (Value.agg #[])), undef, undef, (Value.iface 84 (Value.agg #[])), (Value.iface 84 (Value.agg #[])), .bool false, undef, undef, undef, undef, undef, undef, undef, undef] := rfl
  rw [e]
  clear e
  refine wpS_cond (t := false) (by simp [Act.eval]) ?_
  simp only [Bool.false_eq_true, if_false]
  refine wpS_of_wp (wp_skip ?_)
  simp only [Exit.thenS]
  have hta := is_fault (.agg #[]) w
  refine wpS_of_wp ?_
  go_wp2
  cases c₀
  simp_all [bodyPostS, results, Try.results50]

theorem info_listR : (Try.prog.info? 47).map (fun i => (i.zero, i.size, i.bytes)) = some (some (.agg #[.int .u8 0, .int .i64 0, .int .u8 0, .int .u8 0, .int .u8 0, .int .u8 0, .int .u8 0, .int .u8 0, .int .u8 0, .int .u8 0, .int .u8 0, .int .u8 0, .int .u8 0, .int .u8 0, .int .u8 0, .int .u8 0, .int .u8 0, .int .u8 0, .int .u32 0, .bool false]), 20, 40) := by kernel_rfl

theorem load_listR (W : World) (g : Nat) (v : Value) (h : W.cell? ⟨g, 0, none⟩ = some v) : (loadVar 42 ⟨g, 0, none⟩).run Try.prog W = .ok v W := by simp [go_sem, h]
/-- what getList leaves -/
def GLPostR (w : World) (C : Nat → Array Value) (nx : Nat → Nat) (n m : Nat) (e : Ending) (w' : World) : Prop :=
  (pos nx m = n ∧ ∃ v, e = .returned (.tuple #[v, .int .i64 0]) ∧ w'.ownsRow w.heap.size 47 20 v m (cellsR (fun i => C (pos nx i)) m) ∧ Below w.heap.size w w') ∨
  (pos nx m < n ∧ e = .returned (.tuple #[.slice none 0 0, .int .i64 3]) ∧ Below w.heap.size w w')

set_option maxHeartbeats 1000000 in
set_option maxRecDepth 100000 in
theorem list_longR (A : Option Addr) (n c : Nat) (f : FuncId) (w : World) (hn : 255 < n) (hl : n ≤ 9223372036854775807) :
    Calls Try.prog 33 #[.slice A n c, .func (.func f) #[] #[]] w fun e w' => e = .returned (.tuple #[.slice none 0 0, .int .i64 2]) ∧ Below w.heap.size w w' := by
  have q1 : (255 : Int) < (n : Int) := by omega
  have hmf : ∀ (fn : Fn) (first cap : Array Value) (w : World), (Instr.makeFunc fn first cap).run Try.prog w = .ok (.func fn first cap) w := fun _ _ _ _ => rfl
  go_enter_defers Try.func33, Try.ntmps33
  go_wp2_with fail
  refine leaves_cons (f := 50) (args := #[.pointer (some ⟨w.heap.size, 0, none⟩), .pointer (some ⟨w.heap.size + 1, 0, none⟩)]) (by simp) (by simp [go_sem]) ?_
  refine (catch_idleR ⟨w.heap.size, 0, none⟩ ⟨w.heap.size + 1, 0, none⟩ _).mono ?_
  rintro e u' w'' ⟨rfl, rfl, rfl⟩
  refine ⟨_, results_le (tl := 42) rfl load_listR _ _ w.heap.size (w.heap.size + 1) (.slice none 0 0) 2 rfl rfl ?_ ?_, rfl, ?_⟩
  · simp [go_sem]
  · simp [go_sem]
  · exact ((bself w).alloc (Nat.le_refl _) _).alloc (by simp) _

theorem list_nilR (A : Option Addr) (c : Nat) (f : FuncId) (w : World) :
    Calls Try.prog 33 #[.slice A 0 c, .func (.func f) #[] #[]] w fun e w' => e = .returned (.tuple #[.slice none 0 0, .int .i64 0]) ∧ Below w.heap.size w w' := by
  have hmf : ∀ (fn : Fn) (first cap : Array Value) (w : World), (Instr.makeFunc fn first cap).run Try.prog w = .ok (.func fn first cap) w := fun _ _ _ _ => rfl
  go_enter_defers Try.func33, Try.ntmps33
  go_wp2_with fail
  refine wp_loop_rounds 1 ?_
  rw [rounds_succ]
  go_wp2_with fail
  refine leaves_cons (f := 50) (args := #[.pointer (some ⟨w.heap.size, 0, none⟩), .pointer (some ⟨w.heap.size + 1, 0, none⟩)]) (by simp) (by simp [go_sem]) ?_
  refine (catch_idleR ⟨w.heap.size, 0, none⟩ ⟨w.heap.size + 1, 0, none⟩ _).mono ?_
  rintro e u' w'' ⟨rfl, rfl, rfl⟩
  refine ⟨_, results_le (tl := 42) rfl load_listR _ _ w.heap.size (w.heap.size + 1) (.slice none 0 0) 0 rfl rfl ?_ ?_, rfl, ?_⟩
  · simp [go_sem]
  · simp [go_sem]
  · exact (((bself w).alloc (Nat.le_refl _) _).alloc (by simp) _).alloc (by simp; omega) _

/-- what holds when k things have been read -/
def GLIR (w wr : World) (C : Nat → Array Value) (nx : Nat → Nat) (b off n c : Nat) (z : Nat → Int) (k p : Nat) (v : Value) : Prop :=
  wr.heap[w.heap.size]? = some (.cells #[v] 42 (0, 0)) ∧ wr.heap[w.heap.size + 1]? = some (.cells #[.int .i64 0] 32 (0, 0)) ∧ RS wr (w.heap.size + 2) b off n c p ∧
  wr.ownsRow (w.heap.size + 3) 47 20 v k (cellsR (fun i => C (pos nx i)) k) ∧ Row8 wr b off n z ∧ Below w.heap.size w wr ∧ w.heap.size + 3 ≤ wr.heap.size

theorem gli_startR (w : World) (C : Nat → Array Value) (nx : Nat → Nat) (b off n c : Nat) (z : Nat → Int) (hr : Row8 w b off n z) :
    GLIR w (((w.alloc (Obj.cells #[Value.slice none 0 0] 42)).alloc (Obj.cells #[Value.int IntKind.i64 0] 32)).alloc (Obj.cells #[Value.slice (some ⟨b, off, none⟩) n c] 88)) C nx b off n c z 0 0 (.slice none 0 0) := by
  have hb := (((bself w).alloc (Nat.le_refl _) (Obj.cells #[Value.slice none 0 0] 42)).alloc (by simp) (Obj.cells #[Value.int IntKind.i64 0] 32)).alloc (by simp; omega) (Obj.cells #[Value.slice (some ⟨b, off, none⟩) n c] 88)
  refine ⟨?_, ?_, ⟨⟨b, off, none⟩, ?_, fun _ => rfl⟩, World.ownsRow_nil _ _ _ _, hr.below hb hr.1, hb, by simp⟩
  · exact (Below.heap_alloc _ _ _ (by simp; omega)).trans ((Below.heap_alloc _ _ _ (by simp)).trans (heap_alloc_new w _))
  · refine (Below.heap_alloc _ _ _ (by simp)).trans ?_
    have := heap_alloc_new (w.alloc (Obj.cells #[Value.slice none 0 0] 42)) (Obj.cells #[Value.int IntKind.i64 0] 32)
    rw [World.size_alloc] at this
    exact this
  · have := heap_alloc_new ((w.alloc (Obj.cells #[Value.slice none 0 0] 42)).alloc (Obj.cells #[Value.int IntKind.i64 0] 32)) (Obj.cells #[Value.slice (some ⟨b, off, none⟩) n c] 88)
    simp only [World.size_alloc] at this
    exact this

section
variable {w W W' : World} {C : Nat → Array Value} {nx : Nat → Nat} {b off n c k p p' : Nat} {z : Nat → Int} {v : Value}
theorem GLIR.read (h : GLIR w W C nx b off n c z k p v) (hb : b < w.heap.size) (hg : W.drew.grownBy W' (some (w.heap.size + 2))) (hR : RS W' (w.heap.size + 2) b off n c p') : GLIR w W' C nx b off n c z k p' v := by
  obtain ⟨g1, g2, g3, g4, g5, g6, g7⟩ := h
  have hsz : W.heap.size ≤ W'.heap.size := hg.size
  have hblk : ∀ i, i < W.heap.size → i ≠ w.heap.size + 2 → W'.heap[i]? = W.heap[i]? := fun i hi hne => hg.block i hi (fun e => hne (by injection e))
  refine ⟨(hblk _ (by omega) (by omega)).trans g1, (hblk _ (by omega) (by omega)).trans g2, hR, ?_, ?_, ?_, by omega⟩
  · refine ⟨g4.1, ?_⟩
    rcases g4.2 with h | ⟨g, cap, cur, hv, hgl, hc, r⟩
    · exact .inl h
    · exact .inr ⟨g, cap, cur, hv, hgl, (hblk g (Array.getElem?_eq_some_iff.1 hc).1 (by omega)).trans hc, r⟩
  · exact Row8.grown (W := W.drew) g5 hg (fun e => by injection e; omega)
  · exact (g6.drew).grown hg (by show w.heap.size ≤ W.heap.size; omega) (fun i e => by injection e; omega)
theorem GLIR.alloc (h : GLIR w W C nx b off n c z k p v) (hb : b < w.heap.size) (o : Obj) : GLIR w (W.alloc o) C nx b off n c z k p v := by
  obtain ⟨g1, g2, g3, g4, g5, g6, g7⟩ := h
  exact ⟨(Below.heap_alloc _ _ _ (by omega)).trans g1, (Below.heap_alloc _ _ _ (by omega)).trans g2, g3.block (Below.heap_alloc _ _ _ (by omega)), g4.alloc _, g5.below ((bself W).alloc (Nat.le_refl _) _) g5.1, g6.alloc (by omega) _, by simp; omega⟩
theorem GLIR.quit (h : GLIR w W C nx b off n c z k p v) (hb : b < w.heap.size) (hg : W.drew.grownBy W' (some (w.heap.size + 2))) :
    W'.heap[w.heap.size]? = some (.cells #[v] 42 (0, 0)) ∧ W'.heap[w.heap.size + 1]? = some (.cells #[.int .i64 0] 32 (0, 0)) ∧
    Below w.heap.size w (((W'.setCell ⟨w.heap.size, 0, none⟩ (.slice none 0 0)).setCell ⟨w.heap.size + 1, 0, none⟩ (.int .i64 3)).alloc (.cells #[] 84)) := by
  obtain ⟨g1, g2, g3, g4, g5, g6, g7⟩ := h
  have hsz : W.heap.size ≤ W'.heap.size := hg.size
  have hblk : ∀ i, i < W.heap.size → i ≠ w.heap.size + 2 → W'.heap[i]? = W.heap[i]? := fun i hi hne => hg.block i hi (fun e => hne (by injection e))
  refine ⟨(hblk _ (by omega) (by omega)).trans g1, (hblk _ (by omega) (by omega)).trans g2, ?_⟩
  exact ((((g6.drew).grown hg (by show w.heap.size ≤ W.heap.size; omega) (fun i e => by injection e; omega)).setCell (p := ⟨w.heap.size, 0, none⟩) (Nat.le_refl _) _).setCell (p := ⟨w.heap.size + 1, 0, none⟩) (by show _ ≤ _ + 1; omega) _).alloc (by simp; omega) _
theorem GLIR.app {v' : Value} (h : GLIR w W C nx b off n c z k p v) (hg : W.grownBy W' v.ownBlock) (hb : b < w.heap.size) (ho : W'.ownsRow (w.heap.size + 3) 47 20 v' (k + 1) (cellsR (fun i => C (pos nx i)) (k + 1))) :
    W'.cell? ⟨w.heap.size, 0, none⟩ = some v ∧ W'.frozen? ⟨w.heap.size, 0, none⟩ = false ∧ GLIR w (W'.setCell ⟨w.heap.size, 0, none⟩ v') C nx b off n c z (k + 1) p v' := by
  obtain ⟨g1, g2, g3, g4, g5, g6, g7⟩ := h
  have hlo : ∀ i, v.ownBlock = some i → w.heap.size + 3 ≤ i := fun i e => (g4.lt i e).1
  have hblk : ∀ i, i < w.heap.size + 3 → W'.heap[i]? = W.heap[i]? := fun i hi => hg.block i (by omega) (fun e => by have := hlo i e.symm; omega)
  have hsz := hg.size
  have c1 := (hblk w.heap.size (by omega)).trans g1
  have hfar : ∀ i, i ≠ w.heap.size → (W'.setCell ⟨w.heap.size, 0, none⟩ v').heap[i]? = W'.heap[i]? := fun i hi => Below.heap_setCell W' ⟨w.heap.size, 0, none⟩ v' i hi
  refine ⟨blk_cell c1, blk_free c1 0, ?_, (hfar _ (by omega)).trans ((hblk _ (by omega)).trans g2), g3.block ((hfar _ (by omega)).trans (hblk _ (by omega))), ?_, ?_, ?_, by simp; omega⟩
  · simp [World.setCell, Array.getElem?_modify, c1]
  · refine ⟨ho.1, ?_⟩
    rcases ho.2 with h | ⟨g, cap, cur, hv, hgl, hc, r⟩
    · exact .inl h
    · exact .inr ⟨g, cap, cur, hv, hgl, (hfar g (by omega)).trans hc, r⟩
  · have h1 : Below w.heap.size w W' := g6.grown hg (by omega) (fun i e => by have := hlo i e; omega)
    exact g5.below (((Below.refl w.heap.size W).grown hg (by omega) (fun i e => by have := hlo i e; omega)).setCell (p := ⟨w.heap.size, 0, none⟩) (Nat.le_refl _) _) hb
  · exact (g6.grown hg (by omega) (fun i e => by have := hlo i e; omega)).setCell (p := ⟨w.heap.size, 0, none⟩) (Nat.le_refl _) _
end

set_option maxHeartbeats 4000000 in
set_option maxRecDepth 100000 in
theorem list_anyR (f : FuncId) (C : Nat → Array Value) (nx : Nat → Nat) (ok : Nat → Prop) (b off n c m : Nat) (z : Nat → Int) (w : World) (hf : Reads f C nx ok b off n c z) (hcf : ∀ (args : Array Value) (w : World), (callFunc f args).run Try.prog w = .ok (.enter f args) w) (hC : Recs 20 C) (hs : Steps1 nx ok n) (hm : LEnds nx ok n m)
    (hr : Row8 w b off n z) (h0 : 0 < n) (hn : n ≤ 255) (hc : n ≤ c) (hcm : c ≤ 9223372036854775807) :
    Calls Try.prog 33 #[.slice (some ⟨b, off, none⟩) n c, .func (.func f) #[] #[]] w (GLPostR w C nx n m) := by
  have hmf : ∀ (fn : Fn) (first cap : Array Value) (w : World), (Instr.makeFunc fn first cap).run Try.prog w = .ok (.func fn first cap) w := fun _ _ _ _ => rfl
  have HF := Lib.hid hf
  have HC := Lib.hid hC
  have HS := Lib.hid hs
  have HM := Lib.hid hm
  have HI := Lib.hid (gli_startR w C nx b off n c z hr)
  have hb0 := hr.1
  clear hf hC hs hm hr
  have q0 : (n : Int) ≤ 255 := by omega
  go_enter_defers Try.func33, Try.ntmps33
  go_wp2_with fail
  go_loopg [] n (fun gk wr => ∃ (k : Nat) (v : Value), gk = n - pos nx k ∧ k ≤ m ∧ Hid (GLIR w wr C nx b off n c z k (pos nx k) v))
  case atStart => exact ⟨0, _, rfl, Nat.zero_le _, HI⟩
  case round =>
    obtain ⟨k, v, hgk, hk, HG⟩ := hrel
    obtain ⟨g1, g2, g3, g4, g5, g6, g7⟩ := HG.out
    have cG := blk_cell g1
    have fG := blk_free g1 0
    have cE := blk_cell g2
    have fE := blk_free g2 0
    obtain ⟨a, hR, ha⟩ := g3
    have cR := blk_cell hR
    by_cases hp : pos nx k = n
    · rw [hp, Nat.sub_self] at cR
      have hkm := Lib.hid (gl_good HS.out HM.out hp hk)
      obtain ⟨VA, vc, rfl, _⟩ := ownR_shape (fun j => HC.out (pos nx j)) (by decide) g4
      clear hgk hR ha g1 g2 g4 g5 g6
      go_wp2_with fail
      have hb5 := HG.out.2.2.2.2.2.1
      have ho5 := HG.out.2.2.2.1
      have hk5 := hkm.out
      have f1 : ((wr.setCell ⟨w.heap.size, 0, none⟩ (.slice VA k vc)).setCell ⟨w.heap.size + 1, 0, none⟩ (.int .i64 0)).cell? ⟨w.heap.size, 0, none⟩ = some (.slice VA k vc) := (cell_far2 _ _ _ _ (by omega)).trans (World.cell?_setCell_same' wr _ _ (by rw [cG]; rfl))
      have f2 : ((wr.setCell ⟨w.heap.size, 0, none⟩ (.slice VA k vc)).setCell ⟨w.heap.size + 1, 0, none⟩ (.int .i64 0)).cell? ⟨w.heap.size + 1, 0, none⟩ = some (.int .i64 0) := World.cell?_setCell_same' _ _ _ (by rw [cell_far2 _ _ _ _ (by omega), cE]; rfl)
      have f3 : Below w.heap.size w ((wr.setCell ⟨w.heap.size, 0, none⟩ (.slice VA k vc)).setCell ⟨w.heap.size + 1, 0, none⟩ (.int .i64 0)) := (hb5.setCell (p := ⟨w.heap.size, 0, none⟩) (Nat.le_refl _) _).setCell (p := ⟨w.heap.size + 1, 0, none⟩) (by show _ ≤ _ + 1; omega) _
      have f4 := own_far2 (own_far2 ho5 w.heap.size 0 (.slice VA k vc) (by omega)) (w.heap.size + 1) 0 (.int .i64 0) (by omega)
      refine leaves_cons (f := 50) (args := #[.pointer (some ⟨w.heap.size, 0, none⟩), .pointer (some ⟨w.heap.size + 1, 0, none⟩)]) (by simp) (by simp [go_sem]) ?_
      refine (catch_idleR ⟨w.heap.size, 0, none⟩ ⟨w.heap.size + 1, 0, none⟩ _).mono ?_
      rintro e u' w'' ⟨rfl, rfl, rfl⟩
      refine ⟨_, results_le (tl := 42) rfl load_listR _ _ w.heap.size (w.heap.size + 1) (.slice VA k vc) 0 rfl rfl f1 f2, ?_⟩
      refine .inl ⟨by rw [← hk5]; exact hp, _, rfl, ?_, f3⟩
      rw [← hk5]
      exact ownsRow_mono f4 (by omega)
    · have hpn : pos nx k < n := by
        by_cases e : k = m
        · subst e; rcases HM.out.2 with h | h
          · exact absurd h hp
          · exact h.1
        · exact (HM.out.1 k (by omega)).1
      obtain ⟨q, hq⟩ : ∃ q, n - pos nx k = q := ⟨_, rfl⟩
      obtain ⟨qc, hqc⟩ : ∃ q, c - pos nx k = q := ⟨_, rfl⟩
      rw [hq, hqc] at cR
      have q1 : (0 : Int) < (q : Int) := by omega
      have HK := Lib.hid hgk
      have HQ := Lib.hid hq
      have HQC := Lib.hid hqc
      clear hgk hq hqc hR ha g1 g2 g4 g5 g6
      go_wp2_with fail
      refine wp_region_held_drew (S := fun w' => True) (by kernel_rfl) trivial (fun _ => ?_)
      refine takeY (i := 1) (some 21) (v := (.func (.func f) #[] #[])) rfl rfl (by kernel_rfl) (by kernel_rfl) (by kernel_rfl) (fun c a w h => panic_put (P := Try.prog) (fn := Try.f33) (p := 4) (u := 5) rfl (by decide) (by decide) h) (by rfl) (fun w' hS => by go_simp) trivial ?_
      simp only [Act.put, List.setIfInBounds_toArray, List.set_cons_zero, List.set_cons_succ]
      refine takeY (i := 2) (some 22) (v := (.pointer (some ⟨w.heap.size + 1 + 1, 0, none⟩))) rfl rfl (by kernel_rfl) (by kernel_rfl) (by kernel_rfl) (fun c a w h => panic_put (P := Try.prog) (fn := Try.f33) (p := 4) (u := 5) rfl (by decide) (by decide) h) (by rfl) (fun w' hS => by go_simp) trivial ?_
      simp only [Act.put, List.setIfInBounds_toArray, List.set_cons_zero, List.set_cons_succ]
      refine wpAnyH_ready (rs := [0, 3]) (by kernel_rfl) (by simp) (consV (i := 0) (some 20) (v := v) rfl rfl (by rfl) (by go_simp) trivial ?_ (consE (i := 3) (some 23) f #[.pointer (some ⟨w.heap.size + 1 + 1, 0, none⟩)] rfl rfl (by rfl) (by go_simp) (HF.out (w.heap.size + 2) (pos nx k) wr.drew HG.out.2.2.1 HG.out.2.2.2.2.1 (by omega) hpn) (fun _ _ _ => trivial) (fun w' h => by rcases h with ⟨_, h, _⟩ | ⟨_, h, _⟩ <;> cases h) (fun v1 w4 h4 _ => ?_) (fun ch w4 h4 => ?_) AllReadyH.nil))
      · simp only [Act.put, List.setIfInBounds_toArray, List.set_cons_zero, List.set_cons_succ]
        refine takeE (i := 3) (some 23) f #[.pointer (some ⟨w.heap.size + 1 + 1, 0, none⟩)] rfl rfl (by kernel_rfl) (by rfl) (by go_simp) (HF.out (w.heap.size + 2) (pos nx k) wr.drew HG.out.2.2.1 HG.out.2.2.2.2.1 (by omega) hpn) (fun _ _ _ => trivial) (fun w' h => by rcases h with ⟨_, h, _⟩ | ⟨_, h, _⟩ <;> cases h) (fun v1 w4 h4 _ => ?_) (fun ch w4 h4 => ?_)
        · simp only [Act.put, List.setIfInBounds_toArray, List.set_cons_zero, List.set_cons_succ]
          rcases h4 with ⟨hok, he, hs4, hg4⟩ | ⟨_, he, _⟩
          rotate_left
          · cases he
          injection he with he
          subst he
          have HG4 := Lib.hid (HG.out.read hb0 hg4 hs4)
          have HOK := Lib.hid hok
          clear hs4 hg4 hok cG fG cE fE cR
          have hC8 := (HC.out (pos nx k)).1
          refine takeV (i := 4) (some 24) (v := .slice (some ⟨w4.heap.size, 0, none⟩) 1 1) (w' := w4.alloc (.cells (C (pos nx k)) 47)) rfl rfl (by kernel_rfl) (by rfl) (by go_simp; rw [fold_set _ _ 20 hC8 (by simp)]) trivial ?_
          simp only [Act.put, List.setIfInBounds_toArray, List.set_cons_zero, List.set_cons_succ]
          have HA := Lib.hid (HG4.out.alloc hb0 (.cells (C (pos nx k)) 47))
          have hkm : k < m := by
            have hh := HM.out.2
            have hne : k ≠ m := fun e => by
              subst e
              rcases hh with h | h
              · exact hp h
              · exact h.2 HOK.out
            omega
          have hst := Lib.hid (HS.out _ hpn HOK.out)
          have hkk := Lib.hid (lends_le HS.out HM.out k hk)
          obtain ⟨i0, hi, hz0, hz1, hz2⟩ := info_parts info_listR
          refine wpAnyH_ready (rs := [5]) (by kernel_rfl) (by simp) (AllReadyH.cons rfl (fun K hK => ?_) AllReadyH.nil)
          refine step_append_lies _ rfl (.tmp 20) (.tmp 24) 42 rfl (w.heap.size + 3) 47 i0 _ 20 40 Try.underlying42 hi hz0 hz1 hz2 rfl (by decide) v k (cellsR (fun i => C (pos nx i)) k) rfl HA.out.2.2.2.1 ⟨w4.heap.size, 0, none⟩ 1 1 (C (pos nx k)).toList rfl (by simpa using hC8) (blk_news (heap_alloc_new w4 _)) (HC.out _).2 (by decide) (by have := hkk.out; unfold maxLen; omega) (by have := hkk.out; omega) (by have := HA.out.2.2.2.2.2.2; omega) _ rfl ?_
          intro g cap w5 ho5 hg5 hat hlt
          have hA5 := HA.out.app hg5 hb0 ho5
          have cG5 := hA5.1
          have fG5 := hA5.2.1
          have HA5 := Lib.hid hA5.2.2
          clear hA5 ho5 hg5 hat hlt hi hz0 hz1 hz2 hC8
          refine hK.out _ _ trivial (fun _ => ?_)
          change wpAnyH _ _ _ _ _ _ _ (Act.put _ (some 25) _) _
          simp only [Act.put, List.setIfInBounds_toArray, List.set_cons_zero, List.set_cons_succ]
          refine takeW (i := 6) (w' := w5.setCell ⟨w.heap.size, 0, none⟩ (.slice (some ⟨g, 0, none⟩) (k + 1) cap)) rfl rfl (by kernel_rfl) (by rfl) (by go_simp) trivial ?_
          simp only [Act.put]
          refine wpAnyH_done (by kernel_rfl) ?_ _
          go_wp2_with fail
          go_roundg (n - pos nx (k + 1))
          case measure => have := hst.out; have := HK.out; show n - nx (pos nx k) < gk; omega
          case rel => exact ⟨k + 1, _, rfl, by omega, HA5⟩
        · rcases h4 with ⟨_, he, _⟩ | ⟨hok, he, hg4⟩
          · cases he
          injection he with he
          subst he
          have HG4 := Lib.hid (HG.out.quit hb0 hg4)
          exact panicD (P := Try.prog) (fn := Try.f33) rfl (by simp [go_sem]) ((catch_faultR w.heap.size (w.heap.size + 1) v 0 _ _ [] w4 HG4.out.1 HG4.out.2.1 (by omega)).mono (by
            rintro e u' w5 ⟨rfl, rfl, rfl⟩
            refine ⟨_, rfl, rfl, _, results_le (tl := 42) rfl load_listR _ _ w.heap.size (w.heap.size + 1) (.slice none 0 0) 3 rfl rfl ?_ ?_, .inr ⟨gl_bad HS.out HM.out hpn hok hk, rfl, HG4.out.2.2⟩⟩
            · rw [World.cell?_alloc_lt _ _ _ (by have := (Array.getElem?_eq_some_iff.1 HG4.out.1).1; simpa using this)]
              exact (cell_far2 _ _ _ _ (by omega)).trans (World.cell?_setCell_same' w4 _ _ (by rw [blk_cell HG4.out.1]; rfl))
            · rw [World.cell?_alloc_lt _ _ _ (by have := (Array.getElem?_eq_some_iff.1 HG4.out.2.1).1; simpa using this)]
              exact World.cell?_setCell_same' _ _ _ (by rw [cell_far2 _ _ _ _ (by omega), blk_cell HG4.out.2.1]; rfl)))
      · simp only [Act.put, List.setIfInBounds_toArray, List.set_cons_zero, List.set_cons_succ]
        rcases h4 with ⟨hok, he, hs4, hg4⟩ | ⟨_, he, _⟩
        rotate_left
        · cases he
        injection he with he
        subst he
        have HG4 := Lib.hid (HG.out.read hb0 hg4 hs4)
        have cG4 := blk_cell HG4.out.1
        have hC8 := (HC.out (pos nx k)).1
        refine wpAnyH_ready (rs := [0, 4]) (by kernel_rfl) (by simp) (consV (i := 0) (some 20) (v := v) rfl rfl (by rfl) (by go_simp) trivial ?_ (consW (i := 4) (some 24) (v := .slice (some ⟨w4.heap.size, 0, none⟩) 1 1) (w' := w4.alloc (.cells (C (pos nx k)) 47)) rfl rfl (by rfl) (by go_simp; rw [fold_set _ _ 20 hC8 (by simp)]) trivial ?_ AllReadyH.nil))
        · simp only [Act.put, List.setIfInBounds_toArray, List.set_cons_zero, List.set_cons_succ]
          clear cG4
          have HOK := Lib.hid hok
          clear hs4 hg4 hok cG fG cE fE cR
          have hC8 := (HC.out (pos nx k)).1
          refine takeV (i := 4) (some 24) (v := .slice (some ⟨w4.heap.size, 0, none⟩) 1 1) (w' := w4.alloc (.cells (C (pos nx k)) 47)) rfl rfl (by kernel_rfl) (by rfl) (by go_simp; rw [fold_set _ _ 20 hC8 (by simp)]) trivial ?_
          simp only [Act.put, List.setIfInBounds_toArray, List.set_cons_zero, List.set_cons_succ]
          have HA := Lib.hid (HG4.out.alloc hb0 (.cells (C (pos nx k)) 47))
          have hkm : k < m := by
            have hh := HM.out.2
            have hne : k ≠ m := fun e => by
              subst e
              rcases hh with h | h
              · exact hp h
              · exact h.2 HOK.out
            omega
          have hst := Lib.hid (HS.out _ hpn HOK.out)
          have hkk := Lib.hid (lends_le HS.out HM.out k hk)
          obtain ⟨i0, hi, hz0, hz1, hz2⟩ := info_parts info_listR
          refine wpAnyH_ready (rs := [5]) (by kernel_rfl) (by simp) (AllReadyH.cons rfl (fun K hK => ?_) AllReadyH.nil)
          refine step_append_lies _ rfl (.tmp 20) (.tmp 24) 42 rfl (w.heap.size + 3) 47 i0 _ 20 40 Try.underlying42 hi hz0 hz1 hz2 rfl (by decide) v k (cellsR (fun i => C (pos nx i)) k) rfl HA.out.2.2.2.1 ⟨w4.heap.size, 0, none⟩ 1 1 (C (pos nx k)).toList rfl (by simpa using hC8) (blk_news (heap_alloc_new w4 _)) (HC.out _).2 (by decide) (by have := hkk.out; unfold maxLen; omega) (by have := hkk.out; omega) (by have := HA.out.2.2.2.2.2.2; omega) _ rfl ?_
          intro g cap w5 ho5 hg5 hat hlt
          have hA5 := HA.out.app hg5 hb0 ho5
          have cG5 := hA5.1
          have fG5 := hA5.2.1
          have HA5 := Lib.hid hA5.2.2
          clear hA5 ho5 hg5 hat hlt hi hz0 hz1 hz2 hC8
          refine hK.out _ _ trivial (fun _ => ?_)
          change wpAnyH _ _ _ _ _ _ _ (Act.put _ (some 25) _) _
          simp only [Act.put, List.setIfInBounds_toArray, List.set_cons_zero, List.set_cons_succ]
          refine takeW (i := 6) (w' := w5.setCell ⟨w.heap.size, 0, none⟩ (.slice (some ⟨g, 0, none⟩) (k + 1) cap)) rfl rfl (by kernel_rfl) (by rfl) (by go_simp) trivial ?_
          simp only [Act.put]
          refine wpAnyH_done (by kernel_rfl) ?_ _
          go_wp2_with fail
          go_roundg (n - pos nx (k + 1))
          case measure => have := hst.out; have := HK.out; show n - nx (pos nx k) < gk; omega
          case rel => exact ⟨k + 1, _, rfl, by omega, HA5⟩
        · simp only [Act.put, List.setIfInBounds_toArray, List.set_cons_zero, List.set_cons_succ]
          have cA := blk_cell (HG4.out.alloc hb0 (.cells (C (pos nx k)) 47)).1
          refine takeV (i := 0) (some 20) (v := v) (w' := w4.alloc (.cells (C (pos nx k)) 47)) rfl rfl (by kernel_rfl) (by rfl) (by go_simp) trivial ?_
          simp only [Act.put, List.setIfInBounds_toArray, List.set_cons_zero, List.set_cons_succ]
          have HOK := Lib.hid hok
          clear hs4 hg4 hok cG fG cE fE cR cG4 cA
          have HA := Lib.hid (HG4.out.alloc hb0 (.cells (C (pos nx k)) 47))
          have hkm : k < m := by
            have hh := HM.out.2
            have hne : k ≠ m := fun e => by
              subst e
              rcases hh with h | h
              · exact hp h
              · exact h.2 HOK.out
            omega
          have hst := Lib.hid (HS.out _ hpn HOK.out)
          have hkk := Lib.hid (lends_le HS.out HM.out k hk)
          obtain ⟨i0, hi, hz0, hz1, hz2⟩ := info_parts info_listR
          refine wpAnyH_ready (rs := [5]) (by kernel_rfl) (by simp) (AllReadyH.cons rfl (fun K hK => ?_) AllReadyH.nil)
          refine step_append_lies _ rfl (.tmp 20) (.tmp 24) 42 rfl (w.heap.size + 3) 47 i0 _ 20 40 Try.underlying42 hi hz0 hz1 hz2 rfl (by decide) v k (cellsR (fun i => C (pos nx i)) k) rfl HA.out.2.2.2.1 ⟨w4.heap.size, 0, none⟩ 1 1 (C (pos nx k)).toList rfl (by simpa using hC8) (blk_news (heap_alloc_new w4 _)) (HC.out _).2 (by decide) (by have := hkk.out; unfold maxLen; omega) (by have := hkk.out; omega) (by have := HA.out.2.2.2.2.2.2; omega) _ rfl ?_
          intro g cap w5 ho5 hg5 hat hlt
          have hA5 := HA.out.app hg5 hb0 ho5
          have cG5 := hA5.1
          have fG5 := hA5.2.1
          have HA5 := Lib.hid hA5.2.2
          clear hA5 ho5 hg5 hat hlt hi hz0 hz1 hz2 hC8
          refine hK.out _ _ trivial (fun _ => ?_)
          change wpAnyH _ _ _ _ _ _ _ (Act.put _ (some 25) _) _
          simp only [Act.put, List.setIfInBounds_toArray, List.set_cons_zero, List.set_cons_succ]
          refine takeW (i := 6) (w' := w5.setCell ⟨w.heap.size, 0, none⟩ (.slice (some ⟨g, 0, none⟩) (k + 1) cap)) rfl rfl (by kernel_rfl) (by rfl) (by go_simp) trivial ?_
          simp only [Act.put]
          refine wpAnyH_done (by kernel_rfl) ?_ _
          go_wp2_with fail
          go_roundg (n - pos nx (k + 1))
          case measure => have := hst.out; have := HK.out; show n - nx (pos nx k) < gk; omega
          case rel => exact ⟨k + 1, _, rfl, by omega, HA5⟩
      · rcases h4 with ⟨_, he, _⟩ | ⟨hok, he, hg4⟩
        · cases he
        injection he with he
        subst he
        have HG4 := Lib.hid (HG.out.quit hb0 hg4)
        exact panicD (P := Try.prog) (fn := Try.f33) rfl (by simp [go_sem]) ((catch_faultR w.heap.size (w.heap.size + 1) v 0 _ _ [] w4 HG4.out.1 HG4.out.2.1 (by omega)).mono (by
          rintro e u' w5 ⟨rfl, rfl, rfl⟩
          refine ⟨_, rfl, rfl, _, results_le (tl := 42) rfl load_listR _ _ w.heap.size (w.heap.size + 1) (.slice none 0 0) 3 rfl rfl ?_ ?_, .inr ⟨gl_bad HS.out HM.out hpn hok hk, rfl, HG4.out.2.2⟩⟩
          · rw [World.cell?_alloc_lt _ _ _ (by have := (Array.getElem?_eq_some_iff.1 HG4.out.1).1; simpa using this)]
            exact (cell_far2 _ _ _ _ (by omega)).trans (World.cell?_setCell_same' w4 _ _ (by rw [blk_cell HG4.out.1]; rfl))
          · rw [World.cell?_alloc_lt _ _ _ (by have := (Array.getElem?_eq_some_iff.1 HG4.out.2.1).1; simpa using this)]
            exact World.cell?_setCell_same' _ _ _ (by rw [cell_far2 _ _ _ _ (by omega), blk_cell HG4.out.2.1]; rfl)))
end Go.Proofs.Ytplfilghhgdffaa
