/- The walk of FloodTells: for every input the law returns true, and nothing that was there is written. No condition. -/
import Derived.Test.YteamnibgeobcbaaJLw
import Derived.Deep.DeepCutAuto
namespace Go.Proofs.Yteamnibgeobcbaa
open Go.RowKit
set_option linter.unusedVariables false

def toC (t : Nat → Bool) : Array Value := #[.bool (t 0), .bool (t 1), .bool (t 2), .bool (t 3), .bool (t 4), .bool (t 5), .bool (t 6), .bool (t 7)]
theorem toC_at (t : Nat → Bool) {d : Nat} (h : d < 8) : (toC t)[d]? = some (.bool (t d)) := by
  rcases (by omega : d = 0 ∨ d = 1 ∨ d = 2 ∨ d = 3 ∨ d = 4 ∨ d = 5 ∨ d = 6 ∨ d = 7) with rfl | rfl | rfl | rfl | rfl | rfl | rfl | rfl <;> rfl
def setT (t : Nat → Bool) (d : Nat) : Nat → Bool := fun i => if i = d then true else t i
theorem toC_put (t : Nat → Bool) {d : Nat} (h : d < 8) : putMany (toC t) d [.bool true] = toC (setT t d) := by
  rcases (by omega : d = 0 ∨ d = 1 ∨ d = 2 ∨ d = 3 ∨ d = 4 ∨ d = 5 ∨ d = 6 ∨ d = 7) with rfl | rfl | rfl | rfl | rfl | rfl | rfl | rfl <;> rfl
theorem zero_to : (Try.prog.info? 41).map (·.zero) = some (some (.agg (toC fun _ => false))) := by kernel_rfl
theorem info_bool : (Try.prog.info? 4).map (·.size) = some 1 := by kernel_rfl
theorem one_bool (b : Bool) : (#[Value.bool b]).all (·.oneCell') = true := by kernel_rfl
/-- on every circuit but c of which it isn't told yet, x is to send -/
def Left (F : Nat → Option Cir) (n : Nat) (c : Int) (x : Nat) (t : Nat → Bool) : Prop := ∀ d, d < n → (d : Int) ≠ c → t d = false → ∃ q, F d = some q ∧ q.send x = true
theorem Left.keeps {q : Option Nat} {F G : Nat → Option Cir} {n : Nat} {c : Int} {x : Nat} {t : Nat → Bool} (h : Left F n c x t) (hk : Keeps q F G n) (hq : q ≠ some x) : Left G n c x t := fun d hd hc ht => by
  obtain ⟨p, h1, h2⟩ := h d hd hc ht
  obtain ⟨p', k1, _, k3⟩ := hk d hd p h1
  exact ⟨p', k1, k3 x hq h2⟩
theorem Left.told {F : Nat → Option Cir} {n : Nat} {c : Int} {x : Nat} {t : Nat → Bool} (h : Left F n c x t) (i : Nat) (d' : Cir) : Left (updF F i (some d')) n c x (setT t i) := fun d hd hc ht => by
  by_cases e : d = i
  · subst e; simp [setT] at ht
  · obtain ⟨p, h1, h2⟩ := h d hd hc (by simpa [setT, e] using ht)
    exact ⟨p, by rw [updF_other _ _ e]; exact h1, h2⟩
theorem spares_zero (m : Option Int) : sparesB 0 m = false := by cases m <;> simp [sparesB]
theorem left_own {F : Nat → Option Cir} {n : Nat} (h : AllOpen F n) (x : Nat) : Left (sprJ F x none none n) n (-1) x (fun _ => false) := fun d hd _ _ => by
  obtain ⟨c, h1, h2⟩ := h d hd
  refine ⟨spread1 x none none d c, by unfold sprJ; rw [if_pos hd, h1]; rfl, ?_⟩
  unfold spread1
  rw [if_neg (by simp), h2, spares_zero]
  simp [cAdS, cDrM]
theorem left_new {F : Nat → Option Cir} {n : Nat} (h : AllOpen F n) (x i : Nat) (m : Option Int) (d' : Option Cir) : Left (updF (sprJ F x (some i) m n) i d') n (i : Int) x (fun _ => false) := fun d hd hc _ => by
  obtain ⟨c, h1, h2⟩ := h d hd
  have hne : d ≠ i := fun e => hc (by rw [e])
  refine ⟨spread1 x (some i) m d c, by rw [updF_other _ _ hne]; unfold sprJ; rw [if_pos hd, h1]; rfl, ?_⟩
  unfold spread1
  rw [if_neg (fun e => hne (Option.some.inj e).symm), h2, spares_zero]
  simp [cAdS, cDrM]
theorem all_own {F : Nat → Option Cir} {n : Nat} (h : AllOpen F n) (x : Nat) : AllOpen (sprJ F x none none n) n := (spr_keeps F x none none n).all h
theorem all_new {F : Nat → Option Cir} {n : Nat} (h : AllOpen F n) (x i : Nat) (m : Option Int) (d : Cir) (hd : d.mesh = 0) : AllOpen (updF (sprJ F x (some i) m n) i (some d)) n := fun j hj => by
  by_cases e : j = i
  · subst e; exact ⟨d, updF_same _ _ _, hd⟩
  · rw [updF_other _ _ e]; exact (spr_keeps F x (some i) m n).all h j hj
theorem all_upd {F : Nat → Option Cir} {n : Nat} (h : AllOpen F n) (i : Nat) (d : Cir) (hd : d.mesh = 0) : AllOpen (updF F i (some d)) n := fun j hj => by
  by_cases e : j = i
  · subst e; exact ⟨d, updF_same _ _ _, hd⟩
  · rw [updF_other _ _ e]; exact h j hj
theorem pick_c1 (a : Int) (n : Nat) (h1 : 1 ≤ n) (h8 : n ≤ 8) : ∃ c : Int, wrap64 (wrap64 ((IntKind.u64.wrap a).tmod ((n : Int) + 1)) - 1) = c ∧ -1 ≤ c ∧ c < n := by
  have hu : 0 ≤ IntKind.u64.wrap a := by simp [IntKind.wrap, IntKind.bits, IntKind.signed]; omega
  obtain ⟨z, hz⟩ : ∃ z, IntKind.u64.wrap a = z := ⟨_, rfl⟩
  rw [hz] at hu ⊢
  rw [Int.tmod_eq_emod_of_nonneg hu]
  have h2 := Int.emod_nonneg z (show (n : Int) + 1 ≠ 0 by omega)
  have h3 := Int.emod_lt_of_pos z (show (0 : Int) < n + 1 by omega)
  refine ⟨z % ((n : Int) + 1) - 1, ?_, by omega, by omega⟩
  unfold wrap64
  omega
/-- x is among the first q -/
def hasT (T : List IdT) (x q : Nat) : Bool := (T.take q).any fun y => y.1 == x
theorem hasT_succ (T : List IdT) (x q : Nat) (h : q < T.length) : hasT T x (q + 1) = (hasT T x q || (T[q].1 == x)) := by
  unfold hasT
  rw [List.take_add_one, List.getElem?_eq_getElem h]
  simp only [List.any_append, Option.toList, List.any_cons, List.any_nil, Bool.or_false]
theorem hasT_all (T : List IdT) (x : Nat) (hx : IdOk x) (h : (⟨x, hx⟩ : IdT) ∈ T) : hasT T x T.length = true := by
  unfold hasT
  rw [List.take_length]
  exact List.any_eq_true.2 ⟨_, h, by simp⟩
theorem eql_idq (o : Oper) (e : Operand → Value) (x y : Operand) (t' : TypeId) (ho : o.op = .binOp .eql 28 x y t') (htt : 28 = t') (a b : Nat) (ha : IdOk a) (hb : IdOk b) (h0 : e x = .agg (idC a)) (h1 : e y = .agg (idC b)) (q : Bool) (hq : (a == b) = q) (W : World) :
    (execOp e o).run Try.prog W = .ok (.value (.bool q)) W := by
  subst hq
  exact eql_id o e x y t' ho htt a b ha hb h0 h1 W
theorem wpList_gn {ops : Array Oper} {Q : Exit → Act → World → Prop} {rest : List Oper} {op : Oper} {a : Act} {w : World} (hw : Region.wanted op (yielded ops a.tmps) = false) (h : wpList Try.prog ops Q rest (a.put op.dst undef) w) : wpList Try.prog ops Q (op :: rest) a w := by
  refine wpList_step fun K hK => ?_
  rw [if_neg (by rw [hw]; simp)]
  exact hK _ _ h
theorem wpList_mv {ops : Array Oper} {Q : Exit → Act → World → Prop} {rest : List Oper} {op : Oper} {a : Act} {w : World} (hg : op.guard = none) (x : Operand) (ho : op.op = .move x) (v : Value) (hv : a.eval x = v) (h : wpList Try.prog ops Q rest (a.put op.dst v) w) : wpList Try.prog ops Q (op :: rest) a w := by
  subst hv
  exact wpList_v hg _ (by unfold execOp; simp only [ho]; rfl) h
theorem FlAt.far_to {w w' : World} {B g ga n k N : Nat} {F : Nat → Option Cir} {C C' : Array Value} {t : TypeId} (h : FlAt w B g ga n F k) (hN : Blk 41 w N C) (hs : Stored w w' N C' t) : FlAt w' B g ga n F k := by
  have hne : ∀ {u : TypeId} {b : Nat} {D : Array Value}, Blk u w b D → (u == 41) = false → b ≠ N := fun hb hu e => by
    subst e
    have h9 := (show w.heap[_]? = _ from hb).symm.trans (show w.heap[_]? = _ from hN)
    simp only [Option.some.injEq, Obj.cells.injEq] at h9
    rw [h9.2.1] at hu
    simp at hu
  have hnm : ∀ {b : Nat} {S : Nat → Bool}, SetAt w b S k → b ≠ N := fun hb e => by
    subst e
    obtain ⟨es, cl, h0, _⟩ := hb
    rw [show w.heap[_]? = _ from hN] at h0
    cases h0
  refine ⟨h.hg, h.ha, h.hn, h.g.far hs (hne h.g (by decide)), h.a.far hs (hne h.a (by decide)), fun i c hi e => ?_, h.far⟩
  have hc := h.cir i c hi e
  exact ⟨hc.hc, hc.hs, hc.hm, hc.ne, hc.blk.far hs (hne hc.blk (by decide)), hc.send.at (hs.2.2 _ (hnm hc.send)), hc.sum.at (hs.2.2 _ (hnm hc.sum))⟩
set_option maxHeartbeats 400000000 in
set_option maxRecDepth 100000 in
theorem walkFloodTells (a0 : Int) (A : Option Addr) (len cap : Nat) (L : Nat → OpR) (a2 : Int) (x : Nat) (A4 : Option Addr) (len4 cap4 : Nat) (L4 : Nat → OpR) (w : World) (h0 : (Lit.int .u8 a0).wf = true) (hI : InOps w A len cap L) (h2 : (Lit.int .i64 a2).wf = true) (hx : IdOk x) (hI4 : InOps w A4 len4 cap4 L4) :
    Calls Try.prog 3 #[.int .u8 a0, .slice A len cap, .int .i64 a2, .agg (idC x), .slice A4 len4 cap4] w fun e w' => e = .returned (.bool true) ∧ Below w.heap.size w w' := by
  have HI := Lib.hid hI
  have HI4 := Lib.hid hI4
  clear hI hI4
  have HX := Lib.hid hx
  clear hx
  go_enter Try.func3, Try.ntmps3
  obtain ⟨NI, hNI⟩ : ∃ N, w.heap.size = N := ⟨_, rfl⟩
  have HNI := Lib.hid hNI
  clear hNI
  go_wp2_with (refine wpList_box (op := ⟨some 8, _, _, _, _, _⟩) rfl 28 (.tmp 3) rfl (idC x) rfl NI HNI.out ?_; intro w1 k1 b1 s1; refine Hid.out ?_)
  refine Lib.hid ?_
  have HKI := Lib.hid k1
  have HB := Lib.hid b1
  have hNI1 : w.heap.size ≤ NI := by rw [HNI.out]; exact Nat.le_refl _
  clear k1 b1 s1 HNI
  go_wp2_with fail
  refine (awake_any w1).mono ?_
  rintro e wa ⟨rfl, hb⟩
  have HBn := Lib.hid (HB.out.trans (hb.mono HB.out.size))
  have HKIn := Lib.hid (HKI.out.below hb HKI.out.lt)
  clear HB hb HKI
  have HB := HBn
  clear HBn
  have HKI := HKIn
  clear HKIn
  obtain ⟨n, hn, hn1, hn8⟩ := count_n a0 h0
  go_wp2_with fail
  rw [hn]
  have HNN := Lib.hid hn
  clear hn
  refine (new_any wa n hn1 hn8).mono ?_
  rintro e wb ⟨g, ga, rfl, hf, hb⟩
  have HF := Lib.hid (hf.base (B' := w.heap.size) HB.out.size)
  have HBn := Lib.hid (HB.out.trans (hb.mono HB.out.size))
  have HKIn := Lib.hid (HKI.out.below hb HKI.out.lt)
  clear HB hb hf HKI
  have HB := HBn
  clear HBn
  have HKI := HKIn
  clear HKIn
  go_wp2_with fail
  go_loopw [40] (fun s wr => ∃ (j : Nat) (F : Nat → Option Cir), j ≤ n ∧ s = .int .i64 (j : Int) ∧ Hid (FlAt wr w.heap.size g ga n F 0) ∧ Hid (Opened F j n) ∧ Hid (Below w.heap.size w wr) ∧ Hid (Blk 28 wr NI (idC x))) (fun s _ => n - (intOf s).toNat)
  case atStart => exact ⟨0, _, by omega, rfl, HF, Lib.hid (Opened.start n), HB, HKI⟩
  case round =>
    clear HF HB HKI
    obtain ⟨j, F, hj, rfl, HF, HO, HB, HKI⟩ := hrel
    by_cases hlt : j < n
    · skip
      have hji : (j : Int) < (n : Int) := by omega
      have hov : (j : Int) + 1 ≤ 9223372036854775807 := by omega
      go_wp2_with fail
      refine (open_at wr HF.out j hlt (HO.out.2 j (Nat.le_refl _) hlt) 0 (by decide) none 0 0 (fun _ => 0) (.inl rfl) (fun j hj => by omega) (by decide) (by decide)).mono ?_
      rintro e w9 ⟨a, b, c, rfl, hf, hb, ht⟩
      have HFn := Lib.hid hf
      have HBn := Lib.hid (HB.out.trans hb)
      have HOn := Lib.hid (HO.out.step hlt (c := cirN 0 a b c (memL (fun _ => 0) 0)) rfl (opened_mem a b c))
      have HKIn := Lib.hid (HKI.out.kept ht (by decide))
      clear HF HB HO hf hb ht HKI
      go_wp2_with fail
      go_roundw
      case rel => exact ⟨j + 1, _, by omega, by simp, HFn, HOn, HBn, HKIn⟩
      case measure => simp [intOf]; omega
    · obtain rfl : j = n := by omega
      have HA := Lib.hid HO.out.all
      clear HO
      go_wp2_with fail
      go_loopw [50] (fun s wr => ∃ (i : Nat) (F : Nat → Option Cir) (k : Nat), i ≤ len ∧ s = .int .i64 (i : Int) ∧ Hid (FlAt wr w.heap.size g ga j F k) ∧ Hid (AllOpen F j) ∧ Hid (Below w.heap.size w wr) ∧ k ≤ 512 * i ∧ k ≤ 512 * 40 ∧ Hid (Blk 28 wr NI (idC x))) (fun s _ => len - (intOf s).toNat)
      case atStart => exact ⟨0, _, 0, by omega, rfl, HF, HA, HB, by omega, by omega, HKI⟩
      case round =>
        clear HF HB HA HKI
        obtain ⟨i, F, k, hi, rfl, HF, HA, HB, hk1, hk2, HKI⟩ := hrel
        by_cases hlt : i < len
        · skip
          have hji : (i : Int) < (len : Int) := by omega
          have hov : (i : Int) + 1 ≤ 9223372036854775807 := by have := HI.out.2.2; omega
          obtain ⟨bo, oo, rfl, hr⟩ := HI.out.1.row (by omega)
          obtain ⟨o, ho⟩ : ∃ o, L i = o := ⟨_, rfl⟩
          have hrg : Hid (wr.rangeAt bo (oo + i * 12) (opC o).toList) := Lib.hid (by have h9 := rangeAt_below (hr.2 i hlt) HB.out hr.1; unfold opA at h9; rw [ho] at h9; exact h9)
          have HOK : Hid (OpOk w o) := Lib.hid (by rw [← ho]; exact HI.out.2.1 i)
          clear hr
          have HOO := Lib.hid ho
          clear ho
          go_wp2_with (refine wpList_ld (op := ⟨some 54, _, _, _, _, _⟩) (by rfl) 37 (.tmp 53) rfl bo (oo + i * 12) rfl (opC o) _ hrg.out Try.underlying37 rfl info_op ?_; refine Hid.out ?_)
          refine Lib.hid ?_
          clear hrg
          obtain ⟨N1, hN1⟩ : ∃ N, wr.heap.size = N := ⟨_, rfl⟩
          have HN1 := Lib.hid hN1
          clear hN1
          go_wp2_with (refine wpList_new (op := ⟨some 16, _, _, _, _, _⟩) rfl 37 rfl (opC op0) zero_op N1 HN1.out ?_; intro w1 k1 b1 s1; refine Hid.out ?_)
          refine Lib.hid ?_
          have HFn := Lib.hid (HF.out.below b1)
          have HBn := Lib.hid (HB.out.trans (b1.mono HB.out.size))
          have HK := Lib.hid k1
          have HKIn := Lib.hid (HKI.out.below b1 HKI.out.lt)
          have ltHKI : NI < N1 := by rw [← HN1.out]; exact HKI.out.lt
          have hle1 : w.heap.size ≤ N1 := by rw [← HN1.out]; exact HB.out.size
          have HGL := Lib.hid (show ∀ i, i < wr.heap.size → i ≠ N1 from fun i hi => by rw [← HN1.out]; omega)
          have HFW := HF
          clear HF HB k1 b1 s1 HKI
          have HF := HFn
          have HB := HBn
          clear HFn HBn
          have HKI := HKIn
          clear HKIn
          go_wp2_with (refine wpList_st rfl 37 (.tmp 16) (.tmp 54) rfl N1 0 rfl (.agg (opC o)) (opC o) rfl rfl info_op (opC_one o) HK.out (Nat.le_of_ble_eq_true rfl) (C' := opC o) (by kernel_rfl) ?_; intro w2 q1; refine Hid.out ?_)
          refine Lib.hid ?_
          have HFn := Lib.hid (HF.out.far_op HK.out q1)
          have HBn := Lib.hid (HB.out.trans (q1.2.1 _ hle1))
          have HKIn := Lib.hid (HKI.out.far q1 (by omega))
          have HKn : Hid (Blk 37 w2 N1 (opC o)) := Lib.hid q1.1
          clear HF HB HK HFW HGL q1 HN1 HKI
          have HF := HFn
          have HB := HBn
          have HK := HKn
          clear HFn HBn HKn
          have HKI := HKIn
          clear HKIn
          have c0 : w2.cell? ⟨N1, 0, none⟩ = some (.int .u8 o.kd) := (HK.out.cell 0).trans rfl
          by_cases h60 : i < 40
          · skip
            have h60i : (i : Int) < 40 := by omega
            by_cases hk2i : 2 ≤ o.kd
            · skip
              by_cases hk6i : o.kd ≤ 6
              · skip
                go_wp2_with (refine wpList_ld (op := ⟨some 68, _, _, _, _, _⟩) (by rfl) 37 (.tmp 16) rfl N1 0 rfl (opC o) _ HK.out.all Try.underlying37 rfl info_op ?_; refine Hid.out ?_)
                refine Lib.hid ?_
                go_wp2_with fail
                refine (call2_any w2 HF.out HA.out o (HOK.out.below' HB.out) (by omega)).mono ?_
                rintro e w9 ⟨rfl, F2, p1, p2, p3, p4⟩
                have HFn := Lib.hid p1
                have HBn := Lib.hid (HB.out.trans p3)
                have HAn := Lib.hid (p2.all HA.out)
                have HKIn := Lib.hid (HKI.out.kept p4 (by decide))
                clear HF HB HA p1 p2 p3 p4 HKI
                have HF := HFn
                have HB := HBn
                have HA := HAn
                clear HFn HBn HAn
                have HKI := HKIn
                clear HKIn
                go_wp2_with fail
                go_roundw
                case rel => exact ⟨i + 1, F2, (k + 512), by omega, by simp, HF, HA, HB, by omega, by omega, HKI⟩
                case measure => simp [intOf]; omega
              · have hk6n : ¬ o.kd ≤ 6 := hk6i
                go_wp2_with fail
                go_roundw
                case rel => exact ⟨i + 1, F, k, by omega, by simp, HF, HA, HB, by omega, by omega, HKI⟩
                case measure => simp [intOf]; omega
            · have hk2n : ¬ 2 ≤ o.kd := hk2i
              go_wp2_with fail
              go_roundw
              case rel => exact ⟨i + 1, F, k, by omega, by simp, HF, HA, HB, by omega, by omega, HKI⟩
              case measure => simp [intOf]; omega
          · have h60n : ¬ (i : Int) < 40 := by omega
            go_wp2_with fail
            go_roundw
            case rel => exact ⟨i + 1, F, k, by omega, by simp, HF, HA, HB, by omega, by omega, HKI⟩
            case measure => simp [intOf]; omega
        · obtain rfl : i = len := by omega
          go_wp2_with (refine wpList_ld (op := ⟨some 81, _, _, _, _, _⟩) (by rfl) 28 (.tmp 8) rfl NI 0 rfl (idC x) _ HKI.out.all Try.underlying28 rfl info_id ?_; refine Hid.out ?_)
          refine Lib.hid ?_
          go_wp2_with fail
          obtain ⟨c, hc, hc0, hcn⟩ := pick_c1 a2 j hn1 hn8
          rw [hc]
          have HC := Lib.hid hc
          clear hc
          have htook : Calls Try.prog 11 #[.pointer (some ⟨g, 0, none⟩), .int .i64 c, .agg (idC x), .int .i64 1] wr fun e w' => e = .returned (.int .i64 0) ∧ ∃ F', FlAt w' w.heap.size g ga j F' (k + 10) ∧ AllOpen F' j ∧ Left F' j c x (fun _ => false) ∧ Below w.heap.size wr w' ∧ KeptT wr w' := by
            by_cases hm1 : c = -1
            · subst hm1
              exact (took_own wr HF.out x HX.out).mono fun e w' ⟨he, hf, hb, ht⟩ => ⟨he, _, hf.mono (by omega), all_own HA.out x, left_own HA.out x, hb, ht⟩
            · obtain ⟨q, rfl⟩ : ∃ q : Nat, c = q := ⟨c.toNat, by omega⟩
              have hq : q < j := by omega
              obtain ⟨d, hd, hm⟩ := HA.out q hq
              exact (took_new wr HF.out q hq d hd x HX.out).mono fun e w' ⟨he, hf, hb, ht⟩ => ⟨he, _, hf.mono (by omega), all_new HA.out x q (some d.mesh) (cAdM (cDrS d x) x) hm, left_new HA.out x q (some d.mesh) _, hb, ht⟩
          refine htook.mono ?_
          clear htook
          rintro e w2 ⟨rfl, F2, p1, p2, p3, p4, p5⟩
          have HFn := Lib.hid p1
          have HAn := Lib.hid p2
          have HL := Lib.hid p3
          have HBn := Lib.hid (HB.out.trans p4)
          have HKIn := Lib.hid (HKI.out.kept p5 (by decide))
          clear HF HA HB HKI p1 p2 p3 p4 p5
          have HF := HFn
          have HA := HAn
          have HB := HBn
          have HKI := HKIn
          clear HFn HAn HBn HKIn
          obtain ⟨NT, hNT⟩ : ∃ N, w2.heap.size = N := ⟨_, rfl⟩
          have HNT := Lib.hid hNT
          clear hNT
          go_wp2_with (refine wpList_new (op := ⟨some 17, _, _, _, _, _⟩) rfl 41 rfl (toC fun _ => false) zero_to NT HNT.out ?_; intro w3 k1 b1 s1; refine Hid.out ?_)
          refine Lib.hid ?_
          have HKT := Lib.hid k1
          have HFn := Lib.hid (HF.out.below b1)
          have HBn := Lib.hid (HB.out.trans (b1.mono HB.out.size))
          have HKIn := Lib.hid (HKI.out.below b1 HKI.out.lt)
          have hNT1 : w.heap.size ≤ NT := by rw [← HNT.out]; exact HB.out.size
          have hNIT : NI < NT := by rw [← HNT.out]; exact HKI.out.lt
          clear HF HB HKI k1 b1 s1 HNT
          have HF := HFn
          have HB := HBn
          have HKI := HKIn
          clear HFn HBn HKIn
          go_wp2_with fail
          go_loopw [86] (fun s wr => ∃ (i : Nat) (F : Nat → Option Cir) (k : Nat) (t : Nat → Bool), i ≤ len4 ∧ s = .int .i64 (i : Int) ∧ Hid (FlAt wr w.heap.size g ga j F k) ∧ Hid (AllOpen F j) ∧ Hid (Below w.heap.size w wr) ∧ k ≤ 30000 + 512 * i ∧ k ≤ 30000 + 512 * 40 ∧ Hid (Blk 28 wr NI (idC x)) ∧ Hid (Blk 41 wr NT (toC t)) ∧ Hid (Left F j c x t)) (fun s _ => len4 - (intOf s).toNat)
          case atStart => exact ⟨0, _, _, _, by omega, rfl, HF, HA, HB, by omega, by omega, HKI, HKT, HL⟩
          case round =>
            clear HF HB HA HKI HKT HL hk1 hk2 hi k
            obtain ⟨i, F, k, t, hi, rfl, HF, HA, HB, hk1, hk2, HKI, HKT, HL⟩ := hrel
            by_cases hlt : i < len4
            · skip
              have hji : (i : Int) < (len4 : Int) := by omega
              have hov : (i : Int) + 1 ≤ 9223372036854775807 := by have := HI4.out.2.2; omega
              obtain ⟨bo, oo, rfl, hr⟩ := HI4.out.1.row (by omega)
              obtain ⟨o, ho⟩ : ∃ o, L4 i = o := ⟨_, rfl⟩
              have hrg : Hid (wr.rangeAt bo (oo + i * 12) (opC o).toList) := Lib.hid (by have h9 := rangeAt_below (hr.2 i hlt) HB.out hr.1; unfold opA at h9; rw [ho] at h9; exact h9)
              have HOK : Hid (OpOk w o) := Lib.hid (by rw [← ho]; exact HI4.out.2.1 i)
              clear hr
              have HOO := Lib.hid ho
              clear ho
              go_wp2_with (refine wpList_ld (op := ⟨some 90, _, _, _, _, _⟩) (by rfl) 37 (.tmp 89) rfl bo (oo + i * 12) rfl (opC o) _ hrg.out Try.underlying37 rfl info_op ?_; refine Hid.out ?_)
              refine Lib.hid ?_
              clear hrg
              obtain ⟨N1, hN1⟩ : ∃ N, wr.heap.size = N := ⟨_, rfl⟩
              have HN1 := Lib.hid hN1
              clear hN1
              go_wp2_with (refine wpList_new (op := ⟨some 19, _, _, _, _, _⟩) rfl 37 rfl (opC op0) zero_op N1 HN1.out ?_; intro w1 k1 b1 s1; refine Hid.out ?_)
              refine Lib.hid ?_
              have HFn := Lib.hid (HF.out.below b1)
              have HBn := Lib.hid (HB.out.trans (b1.mono HB.out.size))
              have HK := Lib.hid k1
              have HKIn := Lib.hid (HKI.out.below b1 HKI.out.lt)
              have ltHKI : NI < N1 := by rw [← HN1.out]; exact HKI.out.lt
              have HKTn := Lib.hid (HKT.out.below b1 HKT.out.lt)
              have ltHKT : NT < N1 := by rw [← HN1.out]; exact HKT.out.lt
              have hle1 : w.heap.size ≤ N1 := by rw [← HN1.out]; exact HB.out.size
              have HGL := Lib.hid (show ∀ i, i < wr.heap.size → i ≠ N1 from fun i hi => by rw [← HN1.out]; omega)
              have HFW := HF
              clear HF HB k1 b1 s1 HKI HKT
              have HF := HFn
              have HB := HBn
              clear HFn HBn
              have HKI := HKIn
              clear HKIn
              have HKT := HKTn
              clear HKTn
              go_wp2_with (refine wpList_st rfl 37 (.tmp 19) (.tmp 90) rfl N1 0 rfl (.agg (opC o)) (opC o) rfl rfl info_op (opC_one o) HK.out (Nat.le_of_ble_eq_true rfl) (C' := opC o) (by kernel_rfl) ?_; intro w2 q1; refine Hid.out ?_)
              refine Lib.hid ?_
              have HFn := Lib.hid (HF.out.far_op HK.out q1)
              have HBn := Lib.hid (HB.out.trans (q1.2.1 _ hle1))
              have HKIn := Lib.hid (HKI.out.far q1 (by omega))
              have HKTn := Lib.hid (HKT.out.far q1 (by omega))
              have HKn : Hid (Blk 37 w2 N1 (opC o)) := Lib.hid q1.1
              clear HF HB HK HFW HGL q1 HN1 HKI HKT
              have HF := HFn
              have HB := HBn
              have HK := HKn
              clear HFn HBn HKn
              have HKI := HKIn
              clear HKIn
              have HKT := HKTn
              clear HKTn
              have c0 : w2.cell? ⟨N1, 0, none⟩ = some (.int .u8 o.kd) := (HK.out.cell 0).trans rfl
              have c1 : w2.cell? ⟨N1, 1, none⟩ = some (.int .i64 o.c) := (HK.out.cell 1).trans rfl
              by_cases h60 : i < 40
              · have h60i : ¬ (40 : Int) ≤ (i : Int) := by omega
                by_cases hc1 : 0 ≤ o.c
                · have hc1i : ¬ o.c < 0 := by omega
                  by_cases hc2 : o.c < j
                  · have hc2i : ¬ (j : Int) ≤ o.c := by omega
                    obtain ⟨d, hd⟩ : ∃ d : Nat, o.c = d := ⟨o.c.toNat, by omega⟩
                    rw [hd] at c1
                    have hdj : d < j := by omega
                    have hd1 : ¬ (d : Int) < 0 := by omega
                    have hd2 : ¬ (j : Int) ≤ (d : Int) := by omega
                    have hd8 : (d : Int) < 8 := by omega
                    have HD := Lib.hid hd
                    clear hd hc1i hc2i hc1 hc2
                    go_wp2_with (refine wpList_ld (op := ⟨some 105, _, _, _, _, _⟩) (by rfl) 28 (.tmp 104) rfl N1 3 rfl (idC o.id) _ HK.out.opid Try.underlying28 rfl info_id ?_; refine Hid.out ?_)
                    refine Lib.hid ?_
                    go_wp2_with (refine wpList_ld (op := ⟨some 106, _, _, _, _, _⟩) (by rfl) 28 (.tmp 8) rfl NI 0 rfl (idC x) _ HKI.out.all Try.underlying28 rfl info_id ?_; refine Hid.out ?_)
                    refine Lib.hid ?_
                    obtain ⟨q9, hq9⟩ : ∃ q : Bool, (o.id == x) = q := ⟨_, rfl⟩
                    have HQ9 := Lib.hid hq9
                    clear hq9
                    go_wp2_with (refine wpList_gv (op := ⟨some 107, _, _, _, _, _⟩) (.bool q9) (by rfl) (eql_idq _ _ (.tmp 105) (.tmp 106) _ rfl rfl o.id x HOK.out.id HX.out rfl rfl q9 HQ9.out _) ?_; refine Hid.out ?_)
                    refine Lib.hid ?_
                    cases q9 with
                    | true =>
                      by_cases h1 : o.kd = 1
                      · skip
                        have HKD := Lib.hid h1
                        rw [h1] at c0
                        clear h1
                        go_upto_region 31 with (fail)
                        go_wp2_with (refine wpList_ld (op := ⟨some 150, _, _, _, _, _⟩) (by rfl) 28 (.tmp 8) rfl NI 0 rfl (idC x) _ HKI.out.all Try.underlying28 rfl info_id ?_; refine Hid.out ?_)
                        refine Lib.hid ?_
                        go_wp2_with fail
                        obtain ⟨q, hq, hqm⟩ := HA.out d hdj
                        refine (heard_same w2 HF.out d hdj q hq x HX.out).mono ?_
                        rintro e w9 ⟨rfl, p1, p3, p4⟩
                        have HFn := Lib.hid p1
                        have HBn := Lib.hid (HB.out.trans p3)
                        have HAn := Lib.hid (all_upd HA.out d (cDrS q x) hqm)
                        have HLn := Lib.hid (HL.out.told d (cDrS q x))
                        have HKn := Lib.hid (HK.out.kept p4 (by decide))
                        have HKIn := Lib.hid (HKI.out.kept p4 (by decide))
                        have HKTn := Lib.hid (HKT.out.kept p4 (by decide))
                        clear HF HB HA HL HK p1 p3 p4 HKI HKT c0 c1 hq
                        have HF := HFn
                        have HB := HBn
                        have HA := HAn
                        have HL := HLn
                        have HKI := HKIn
                        have HKT := HKTn
                        have HK := HKn
                        clear HFn HBn HAn HLn HKIn HKTn HKn
                        have c1 : w9.cell? ⟨N1, 1, none⟩ = some (.int .i64 (d : Int)) := by rw [← HD.out]; exact (HK.out.cell 1).trans rfl
                        go_wp2_with (refine wpList_st rfl 4 (.tmp 155) (.const (.bool true)) rfl NT d rfl (.bool true) #[.bool true] rfl rfl info_bool (one_bool true) HKT.out (by show d + 1 ≤ 8; omega) (C' := toC (setT t d)) (toC_put t (by omega)) ?_; intro w5 q1; refine Hid.out ?_)
                        refine Lib.hid ?_
                        have HFn := Lib.hid (HF.out.far_to HKT.out q1)
                        have HBn := Lib.hid (HB.out.trans (q1.2.1 _ hNT1))
                        have HKIn := Lib.hid (HKI.out.far q1 (by omega))
                        have HKTn : Hid (Blk 41 w5 NT (toC (setT t d))) := Lib.hid q1.1
                        clear HF HB HKI HKT q1
                        have HF := HFn
                        have HB := HBn
                        have HKI := HKIn
                        have HKT := HKTn
                        clear HFn HBn HKIn HKTn
                        go_wp2_with fail
                        go_roundw
                        case rel => exact ⟨i + 1, _, k, (setT t d), by omega, by simp, HF, HA, HB, by omega, by omega, HKI, HKT, HL⟩
                        case measure => simp [intOf]; omega
                      · skip
                        by_cases h2 : o.kd = 2
                        · skip
                          have HKD := Lib.hid h2
                          rw [h2] at c0
                          clear h2
                          go_wp2_with fail
                          go_roundw
                          case rel => exact ⟨i + 1, F, k, t, by omega, by simp, HF, HA, HB, by omega, by omega, HKI, HKT, HL⟩
                          case measure => simp [intOf]; omega
                        · skip
                          by_cases h3 : o.kd = 3
                          · skip
                            have HKD := Lib.hid h3
                            rw [h3] at c0
                            clear h3
                            go_wp2_with fail
                            go_roundw
                            case rel => exact ⟨i + 1, F, k, t, by omega, by simp, HF, HA, HB, by omega, by omega, HKI, HKT, HL⟩
                            case measure => simp [intOf]; omega
                          · skip
                            by_cases h4 : o.kd = 4
                            · skip
                              have HKD := Lib.hid h4
                              rw [h4] at c0
                              clear h4
                              go_upto_region 29 with (fail)
                              go_wp2_with (refine wpList_ld (op := ⟨some 142, _, _, _, _, _⟩) (by rfl) 37 (.tmp 19) rfl N1 0 rfl (opC o) _ HK.out.all Try.underlying37 rfl info_op ?_; refine Hid.out ?_)
                              refine Lib.hid ?_
                              go_wp2_with fail
                              refine (call2_any w2 HF.out HA.out o (HOK.out.below' HB.out) (by omega)).mono ?_
                              rintro e w9 ⟨rfl, F2, p1, p2, p3, p4⟩
                              have HLn := Lib.hid (HL.out.keeps p2 (by unfold opQ; rw [if_neg (by rw [HKD.out]; decide)]; simp))
                              have HKn := Lib.hid (HK.out.kept p4 (by decide))
                              have HFn := Lib.hid p1
                              have HBn := Lib.hid (HB.out.trans p3)
                              have HAn := Lib.hid (p2.all HA.out)
                              have HKIn := Lib.hid (HKI.out.kept p4 (by decide))
                              have HKTn := Lib.hid (HKT.out.kept p4 (by decide))
                              clear HF HB HA HL HK p1 p2 p3 p4 HKI HKT c0 c1
                              have HF := HFn
                              have HB := HBn
                              have HA := HAn
                              have HL := HLn
                              have HKI := HKIn
                              have HKT := HKTn
                              have HK := HKn
                              clear HFn HBn HAn HLn HKIn HKTn HKn
                              have c0 : w9.cell? ⟨N1, 0, none⟩ = some (.int .u8 o.kd) := (HK.out.cell 0).trans rfl
                              rw [HKD.out] at c0
                              go_wp2_with fail
                              go_roundw
                              case rel => exact ⟨i + 1, F2, (k + 512), t, by omega, by simp, HF, HA, HB, by omega, by omega, HKI, HKT, HL⟩
                              case measure => simp [intOf]; omega
                            · skip
                              by_cases h5 : o.kd = 5
                              · skip
                                have HKD := Lib.hid h5
                                rw [h5] at c0
                                clear h5
                                go_upto_region 29 with (fail)
                                go_wp2_with (refine wpList_ld (op := ⟨some 142, _, _, _, _, _⟩) (by rfl) 37 (.tmp 19) rfl N1 0 rfl (opC o) _ HK.out.all Try.underlying37 rfl info_op ?_; refine Hid.out ?_)
                                refine Lib.hid ?_
                                go_wp2_with fail
                                refine (call2_any w2 HF.out HA.out o (HOK.out.below' HB.out) (by omega)).mono ?_
                                rintro e w9 ⟨rfl, F2, p1, p2, p3, p4⟩
                                have HLn := Lib.hid (HL.out.keeps p2 (by unfold opQ; rw [if_neg (by rw [HKD.out]; decide)]; simp))
                                have HKn := Lib.hid (HK.out.kept p4 (by decide))
                                have HFn := Lib.hid p1
                                have HBn := Lib.hid (HB.out.trans p3)
                                have HAn := Lib.hid (p2.all HA.out)
                                have HKIn := Lib.hid (HKI.out.kept p4 (by decide))
                                have HKTn := Lib.hid (HKT.out.kept p4 (by decide))
                                clear HF HB HA HL HK p1 p2 p3 p4 HKI HKT c0 c1
                                have HF := HFn
                                have HB := HBn
                                have HA := HAn
                                have HL := HLn
                                have HKI := HKIn
                                have HKT := HKTn
                                have HK := HKn
                                clear HFn HBn HAn HLn HKIn HKTn HKn
                                have c0 : w9.cell? ⟨N1, 0, none⟩ = some (.int .u8 o.kd) := (HK.out.cell 0).trans rfl
                                rw [HKD.out] at c0
                                go_wp2_with fail
                                go_roundw
                                case rel => exact ⟨i + 1, F2, (k + 512), t, by omega, by simp, HF, HA, HB, by omega, by omega, HKI, HKT, HL⟩
                                case measure => simp [intOf]; omega
                              · skip
                                by_cases h6 : o.kd = 6
                                · skip
                                  have HKD := Lib.hid h6
                                  rw [h6] at c0
                                  clear h6
                                  go_wp2_with fail
                                  go_roundw
                                  case rel => exact ⟨i + 1, F, k, t, by omega, by simp, HF, HA, HB, by omega, by omega, HKI, HKT, HL⟩
                                  case measure => simp [intOf]; omega
                                · skip
                                  have b1 : (o.kd == 1) = false := by simp [h1]
                                  have b2 : (o.kd == 2) = false := by simp [h2]
                                  have b3 : (o.kd == 3) = false := by simp [h3]
                                  have b4 : (o.kd == 4) = false := by simp [h4]
                                  have b5 : (o.kd == 5) = false := by simp [h5]
                                  have b6 : (o.kd == 6) = false := by simp [h6]
                                  go_wp2_with fail
                                  go_roundw
                                  case rel => exact ⟨i + 1, F, k, t, by omega, by simp, HF, HA, HB, by omega, by omega, HKI, HKT, HL⟩
                                  case measure => simp [intOf]; omega
                    | false =>
                      by_cases h1 : o.kd = 1
                      · skip
                        have HKD := Lib.hid h1
                        rw [h1] at c0
                        clear h1
                        go_upto_region 31 with (fail)
                        go_wp2_with (refine wpList_ld (op := ⟨some 150, _, _, _, _, _⟩) (by rfl) 28 (.tmp 8) rfl NI 0 rfl (idC x) _ HKI.out.all Try.underlying28 rfl info_id ?_; refine Hid.out ?_)
                        refine Lib.hid ?_
                        go_wp2_with fail
                        obtain ⟨q, hq, hqm⟩ := HA.out d hdj
                        refine (heard_same w2 HF.out d hdj q hq x HX.out).mono ?_
                        rintro e w9 ⟨rfl, p1, p3, p4⟩
                        have HFn := Lib.hid p1
                        have HBn := Lib.hid (HB.out.trans p3)
                        have HAn := Lib.hid (all_upd HA.out d (cDrS q x) hqm)
                        have HLn := Lib.hid (HL.out.told d (cDrS q x))
                        have HKn := Lib.hid (HK.out.kept p4 (by decide))
                        have HKIn := Lib.hid (HKI.out.kept p4 (by decide))
                        have HKTn := Lib.hid (HKT.out.kept p4 (by decide))
                        clear HF HB HA HL HK p1 p3 p4 HKI HKT c0 c1 hq
                        have HF := HFn
                        have HB := HBn
                        have HA := HAn
                        have HL := HLn
                        have HKI := HKIn
                        have HKT := HKTn
                        have HK := HKn
                        clear HFn HBn HAn HLn HKIn HKTn HKn
                        have c1 : w9.cell? ⟨N1, 1, none⟩ = some (.int .i64 (d : Int)) := by rw [← HD.out]; exact (HK.out.cell 1).trans rfl
                        go_wp2_with (refine wpList_st rfl 4 (.tmp 155) (.const (.bool true)) rfl NT d rfl (.bool true) #[.bool true] rfl rfl info_bool (one_bool true) HKT.out (by show d + 1 ≤ 8; omega) (C' := toC (setT t d)) (toC_put t (by omega)) ?_; intro w5 q1; refine Hid.out ?_)
                        refine Lib.hid ?_
                        have HFn := Lib.hid (HF.out.far_to HKT.out q1)
                        have HBn := Lib.hid (HB.out.trans (q1.2.1 _ hNT1))
                        have HKIn := Lib.hid (HKI.out.far q1 (by omega))
                        have HKTn : Hid (Blk 41 w5 NT (toC (setT t d))) := Lib.hid q1.1
                        clear HF HB HKI HKT q1
                        have HF := HFn
                        have HB := HBn
                        have HKI := HKIn
                        have HKT := HKTn
                        clear HFn HBn HKIn HKTn
                        go_wp2_with fail
                        go_roundw
                        case rel => exact ⟨i + 1, _, k, (setT t d), by omega, by simp, HF, HA, HB, by omega, by omega, HKI, HKT, HL⟩
                        case measure => simp [intOf]; omega
                      · skip
                        by_cases h2 : o.kd = 2
                        · skip
                          have HKD := Lib.hid h2
                          rw [h2] at c0
                          clear h2
                          go_upto_region 29 with (fail)
                          go_wp2_with (refine wpList_ld (op := ⟨some 142, _, _, _, _, _⟩) (by rfl) 37 (.tmp 19) rfl N1 0 rfl (opC o) _ HK.out.all Try.underlying37 rfl info_op ?_; refine Hid.out ?_)
                          refine Lib.hid ?_
                          go_wp2_with fail
                          refine (call2_any w2 HF.out HA.out o (HOK.out.below' HB.out) (by omega)).mono ?_
                          rintro e w9 ⟨rfl, F2, p1, p2, p3, p4⟩
                          have HLn := Lib.hid (HL.out.keeps p2 (by unfold opQ; rw [if_pos (by rw [HKD.out]; decide)]; intro e; have h9 := HQ9.out; rw [Option.some.inj e] at h9; simp at h9))
                          have HKn := Lib.hid (HK.out.kept p4 (by decide))
                          have HFn := Lib.hid p1
                          have HBn := Lib.hid (HB.out.trans p3)
                          have HAn := Lib.hid (p2.all HA.out)
                          have HKIn := Lib.hid (HKI.out.kept p4 (by decide))
                          have HKTn := Lib.hid (HKT.out.kept p4 (by decide))
                          clear HF HB HA HL HK p1 p2 p3 p4 HKI HKT c0 c1
                          have HF := HFn
                          have HB := HBn
                          have HA := HAn
                          have HL := HLn
                          have HKI := HKIn
                          have HKT := HKTn
                          have HK := HKn
                          clear HFn HBn HAn HLn HKIn HKTn HKn
                          have c0 : w9.cell? ⟨N1, 0, none⟩ = some (.int .u8 o.kd) := (HK.out.cell 0).trans rfl
                          rw [HKD.out] at c0
                          go_wp2_with fail
                          go_roundw
                          case rel => exact ⟨i + 1, F2, (k + 512), t, by omega, by simp, HF, HA, HB, by omega, by omega, HKI, HKT, HL⟩
                          case measure => simp [intOf]; omega
                        · skip
                          by_cases h3 : o.kd = 3
                          · skip
                            have HKD := Lib.hid h3
                            rw [h3] at c0
                            clear h3
                            go_upto_region 29 with (fail)
                            go_wp2_with (refine wpList_ld (op := ⟨some 142, _, _, _, _, _⟩) (by rfl) 37 (.tmp 19) rfl N1 0 rfl (opC o) _ HK.out.all Try.underlying37 rfl info_op ?_; refine Hid.out ?_)
                            refine Lib.hid ?_
                            go_wp2_with fail
                            refine (call2_any w2 HF.out HA.out o (HOK.out.below' HB.out) (by omega)).mono ?_
                            rintro e w9 ⟨rfl, F2, p1, p2, p3, p4⟩
                            have HLn := Lib.hid (HL.out.keeps p2 (by unfold opQ; rw [if_pos (by rw [HKD.out]; decide)]; intro e; have h9 := HQ9.out; rw [Option.some.inj e] at h9; simp at h9))
                            have HKn := Lib.hid (HK.out.kept p4 (by decide))
                            have HFn := Lib.hid p1
                            have HBn := Lib.hid (HB.out.trans p3)
                            have HAn := Lib.hid (p2.all HA.out)
                            have HKIn := Lib.hid (HKI.out.kept p4 (by decide))
                            have HKTn := Lib.hid (HKT.out.kept p4 (by decide))
                            clear HF HB HA HL HK p1 p2 p3 p4 HKI HKT c0 c1
                            have HF := HFn
                            have HB := HBn
                            have HA := HAn
                            have HL := HLn
                            have HKI := HKIn
                            have HKT := HKTn
                            have HK := HKn
                            clear HFn HBn HAn HLn HKIn HKTn HKn
                            have c0 : w9.cell? ⟨N1, 0, none⟩ = some (.int .u8 o.kd) := (HK.out.cell 0).trans rfl
                            rw [HKD.out] at c0
                            go_wp2_with fail
                            go_roundw
                            case rel => exact ⟨i + 1, F2, (k + 512), t, by omega, by simp, HF, HA, HB, by omega, by omega, HKI, HKT, HL⟩
                            case measure => simp [intOf]; omega
                          · skip
                            by_cases h4 : o.kd = 4
                            · skip
                              have HKD := Lib.hid h4
                              rw [h4] at c0
                              clear h4
                              go_upto_region 29 with (fail)
                              go_wp2_with (refine wpList_ld (op := ⟨some 142, _, _, _, _, _⟩) (by rfl) 37 (.tmp 19) rfl N1 0 rfl (opC o) _ HK.out.all Try.underlying37 rfl info_op ?_; refine Hid.out ?_)
                              refine Lib.hid ?_
                              go_wp2_with fail
                              refine (call2_any w2 HF.out HA.out o (HOK.out.below' HB.out) (by omega)).mono ?_
                              rintro e w9 ⟨rfl, F2, p1, p2, p3, p4⟩
                              have HLn := Lib.hid (HL.out.keeps p2 (by unfold opQ; rw [if_neg (by rw [HKD.out]; decide)]; simp))
                              have HKn := Lib.hid (HK.out.kept p4 (by decide))
                              have HFn := Lib.hid p1
                              have HBn := Lib.hid (HB.out.trans p3)
                              have HAn := Lib.hid (p2.all HA.out)
                              have HKIn := Lib.hid (HKI.out.kept p4 (by decide))
                              have HKTn := Lib.hid (HKT.out.kept p4 (by decide))
                              clear HF HB HA HL HK p1 p2 p3 p4 HKI HKT c0 c1
                              have HF := HFn
                              have HB := HBn
                              have HA := HAn
                              have HL := HLn
                              have HKI := HKIn
                              have HKT := HKTn
                              have HK := HKn
                              clear HFn HBn HAn HLn HKIn HKTn HKn
                              have c0 : w9.cell? ⟨N1, 0, none⟩ = some (.int .u8 o.kd) := (HK.out.cell 0).trans rfl
                              rw [HKD.out] at c0
                              go_wp2_with fail
                              go_roundw
                              case rel => exact ⟨i + 1, F2, (k + 512), t, by omega, by simp, HF, HA, HB, by omega, by omega, HKI, HKT, HL⟩
                              case measure => simp [intOf]; omega
                            · skip
                              by_cases h5 : o.kd = 5
                              · skip
                                have HKD := Lib.hid h5
                                rw [h5] at c0
                                clear h5
                                go_upto_region 29 with (fail)
                                go_wp2_with (refine wpList_ld (op := ⟨some 142, _, _, _, _, _⟩) (by rfl) 37 (.tmp 19) rfl N1 0 rfl (opC o) _ HK.out.all Try.underlying37 rfl info_op ?_; refine Hid.out ?_)
                                refine Lib.hid ?_
                                go_wp2_with fail
                                refine (call2_any w2 HF.out HA.out o (HOK.out.below' HB.out) (by omega)).mono ?_
                                rintro e w9 ⟨rfl, F2, p1, p2, p3, p4⟩
                                have HLn := Lib.hid (HL.out.keeps p2 (by unfold opQ; rw [if_neg (by rw [HKD.out]; decide)]; simp))
                                have HKn := Lib.hid (HK.out.kept p4 (by decide))
                                have HFn := Lib.hid p1
                                have HBn := Lib.hid (HB.out.trans p3)
                                have HAn := Lib.hid (p2.all HA.out)
                                have HKIn := Lib.hid (HKI.out.kept p4 (by decide))
                                have HKTn := Lib.hid (HKT.out.kept p4 (by decide))
                                clear HF HB HA HL HK p1 p2 p3 p4 HKI HKT c0 c1
                                have HF := HFn
                                have HB := HBn
                                have HA := HAn
                                have HL := HLn
                                have HKI := HKIn
                                have HKT := HKTn
                                have HK := HKn
                                clear HFn HBn HAn HLn HKIn HKTn HKn
                                have c0 : w9.cell? ⟨N1, 0, none⟩ = some (.int .u8 o.kd) := (HK.out.cell 0).trans rfl
                                rw [HKD.out] at c0
                                go_wp2_with fail
                                go_roundw
                                case rel => exact ⟨i + 1, F2, (k + 512), t, by omega, by simp, HF, HA, HB, by omega, by omega, HKI, HKT, HL⟩
                                case measure => simp [intOf]; omega
                              · skip
                                by_cases h6 : o.kd = 6
                                · skip
                                  have HKD := Lib.hid h6
                                  rw [h6] at c0
                                  clear h6
                                  go_wp2_with fail
                                  go_roundw
                                  case rel => exact ⟨i + 1, F, k, t, by omega, by simp, HF, HA, HB, by omega, by omega, HKI, HKT, HL⟩
                                  case measure => simp [intOf]; omega
                                · skip
                                  have b1 : (o.kd == 1) = false := by simp [h1]
                                  have b2 : (o.kd == 2) = false := by simp [h2]
                                  have b3 : (o.kd == 3) = false := by simp [h3]
                                  have b4 : (o.kd == 4) = false := by simp [h4]
                                  have b5 : (o.kd == 5) = false := by simp [h5]
                                  have b6 : (o.kd == 6) = false := by simp [h6]
                                  go_wp2_with fail
                                  go_roundw
                                  case rel => exact ⟨i + 1, F, k, t, by omega, by simp, HF, HA, HB, by omega, by omega, HKI, HKT, HL⟩
                                  case measure => simp [intOf]; omega
                  · have hc2i : (j : Int) ≤ o.c := by omega
                    go_wp2_with fail
                    go_roundw
                    case rel => exact ⟨i + 1, F, k, t, by omega, by simp, HF, HA, HB, by omega, by omega, HKI, HKT, HL⟩
                    case measure => simp [intOf]; omega
                · have hc1i : o.c < 0 := by omega
                  go_wp2_with fail
                  go_roundw
                  case rel => exact ⟨i + 1, F, k, t, by omega, by simp, HF, HA, HB, by omega, by omega, HKI, HKT, HL⟩
                  case measure => simp [intOf]; omega
              · have h60i : (40 : Int) ≤ (i : Int) := by omega
                go_wp2_with fail
                go_roundw
                case rel => exact ⟨i + 1, F, k, t, by omega, by simp, HF, HA, HB, by omega, by omega, HKI, HKT, HL⟩
                case measure => simp [intOf]; omega
            · obtain rfl : i = len4 := by omega
              have hkk : k * 8 ≤ 140737488355328 := by omega
              go_wp2_with fail
              go_loopw [158] (fun s wr => ∃ q : Nat, q ≤ j ∧ s = .int .i64 (q : Int) ∧ Hid (FlAt wr w.heap.size g ga j F k) ∧ Hid (Below w.heap.size w wr) ∧ Hid (Blk 28 wr NI (idC x)) ∧ Hid (Blk 41 wr NT (toC t))) (fun s _ => j - (intOf s).toNat)
              case atStart => exact ⟨0, by omega, rfl, HF, HB, HKI, HKT⟩
              case round =>
                clear HF HB HKI HKT
                obtain ⟨q, hq, rfl, HF, HB, HKI, HKT⟩ := hrel
                by_cases hlt : q < j
                · skip
                  have hqi : (q : Int) < (j : Int) := by omega
                  have hqo : (q : Int) + 1 ≤ 9223372036854775807 := by omega
                  obtain ⟨dq, hdq, _⟩ := HA.out q hlt
                  have HDQ := Lib.hid hdq
                  clear hdq
                  go_wp2_with fail
                  refine (sends_at wr HF.out q hlt dq HDQ.out hkk).mono ?_
                  rintro e w5 ⟨v, T, rfl, hl, hf, hb, ht⟩
                  have HTT := Lib.hid (show (∀ y : IdT, y ∈ T ↔ dq.send y.1 = true) ∧ T.length ≤ k from ⟨hl.2.2.1, hl.2.2.2⟩)
                  obtain ⟨AT, ct, rfl, _, _, _, hrt⟩ := hl.1.slice (recs_idt _)
                  have HRT := Lib.hid hrt
                  have HFn := Lib.hid hf
                  have HBn := Lib.hid (HB.out.trans hb)
                  have HKIn := Lib.hid (HKI.out.kept ht (by decide))
                  have HKTn := Lib.hid (HKT.out.kept ht (by decide))
                  clear HF HB HKI HKT hf hb ht hl hrt
                  have HF := HFn
                  have HB := HBn
                  have HKI := HKIn
                  have HKT := HKTn
                  clear HFn HBn HKIn HKTn
                  obtain ⟨nT, hnT⟩ : ∃ m, T.length = m := ⟨_, rfl⟩
                  have HNT2 := Lib.hid hnT
                  rw [hnT] at HRT ⊢
                  have hnk : nT ≤ k := by rw [← hnT]; exact HTT.out.2
                  clear hnT
                  go_wp2_with fail
                  go_loopw [169, 23] (fun s u wr => ∃ p : Nat, p ≤ nT ∧ s = .int .i64 (p : Int) ∧ u = .bool (hasT T x p) ∧ Hid (FlAt wr w.heap.size g ga j F k) ∧ Hid (Below w.heap.size w wr) ∧ Hid (Blk 28 wr NI (idC x)) ∧ Hid (Blk 41 wr NT (toC t)) ∧ Hid (RdR wr AT nT 8 (idtA T))) (fun s _ _ => nT - (intOf s).toNat)
                  case atStart => exact ⟨0, by omega, rfl, by simp [hasT], HF, HB, HKI, HKT, HRT⟩
                  case round =>
                    clear HF HB HKI HKT HRT
                    obtain ⟨p, hp, rfl, rfl, HF, HB, HKI, HKT, HRT⟩ := hrel
                    by_cases hpl : p < nT
                    · skip
                      have hpi : (p : Int) < (nT : Int) := by omega
                      have hpo : (p : Int) + 1 ≤ 9223372036854775807 := by omega
                      have hpT : p < T.length := by rw [HNT2.out]; exact hpl
                      obtain ⟨y, hy⟩ : ∃ y : IdT, T[p] = y := ⟨_, rfl⟩
                      have HY := Lib.hid hy
                      obtain ⟨bt, ot, rfl, hrr⟩ := HRT.out.row (by omega)
                      have hrg : Hid (wr.rangeAt bt (ot + p * 8) (idC y.1).toList) := Lib.hid (by have h9 := hrr.2 p hpl; rw [idtA_at T p y (by rw [List.getElem?_eq_getElem hpT, hy])] at h9; exact h9)
                      clear hrr hy
                      obtain ⟨z, hz⟩ : ∃ z : Nat, y.1 = z := ⟨_, rfl⟩
                      rw [hz] at hrg
                      have HZ := Lib.hid hz
                      clear hz
                      go_wp2_with (refine wpList_ld (op := ⟨some 172, _, _, _, _, _⟩) (by rfl) 28 (.tmp 171) rfl bt (ot + p * 8) rfl (idC z) _ hrg.out Try.underlying28 rfl info_id ?_; refine Hid.out ?_)
                      refine Lib.hid ?_
                      clear hrg
                      obtain ⟨N2, hN2⟩ : ∃ N, wr.heap.size = N := ⟨_, rfl⟩
                      have HN2 := Lib.hid hN2
                      clear hN2
                      go_wp2_with (refine wpList_new (op := ⟨some 25, _, _, _, _, _⟩) rfl 28 rfl (idC 0) zero_id N2 HN2.out ?_; intro w6 k1 b1 s1; refine Hid.out ?_)
                      refine Lib.hid ?_
                      go_wp2_with (refine wpList_st rfl 28 (.tmp 25) (.tmp 172) rfl N2 0 rfl (.agg (idC z)) (idC z) rfl rfl info_id (idC_one z) k1 (Nat.le_of_ble_eq_true rfl) (C' := idC z) (by kernel_rfl) ?_; intro w7 q1; refine Hid.out ?_)
                      refine Lib.hid ?_
                      have hb2 : Below wr.heap.size wr w7 := b1.trans (q1.2.1 _ (by rw [HN2.out]; exact Nat.le_refl _))
                      have HK2 : Hid (Blk 28 w7 N2 (idC z)) := Lib.hid q1.1
                      have HFn := Lib.hid (HF.out.below hb2)
                      have HBn := Lib.hid (HB.out.trans (hb2.mono HB.out.size))
                      have HKIn := Lib.hid (HKI.out.below hb2 HKI.out.lt)
                      have HKTn := Lib.hid (HKT.out.below hb2 HKT.out.lt)
                      have HRTn := Lib.hid (HRT.out.below hb2 rfl)
                      clear HF HB HKI HKT HRT k1 b1 s1 q1 hb2 HN2
                      have HF := HFn
                      have HB := HBn
                      have HKI := HKIn
                      have HKT := HKTn
                      have HRT := HRTn
                      clear HFn HBn HKIn HKTn HRTn
                      obtain ⟨q0, hq0⟩ : ∃ q0, hasT T x p = q0 := ⟨_, rfl⟩
                      rw [hq0]
                      have HQ0 := Lib.hid hq0
                      clear hq0
                      obtain ⟨q9, hq9⟩ : ∃ q : Bool, (z == x) = q := ⟨_, rfl⟩
                      have HQ9 := Lib.hid hq9
                      clear hq9
                      have hsuc : Hid (hasT T x (p + 1) = (q0 || q9)) := Lib.hid (by rw [hasT_succ T x p hpT, HQ0.out, HY.out, HZ.out, HQ9.out])
                      cases q0 with
                      | true =>
                        go_wp2_with fail
                        go_roundw
                        case rel => exact ⟨p + 1, by omega, by simp, by rw [hsuc.out]; rfl, HF, HB, HKI, HKT, HRT⟩
                        case measure => simp [intOf]; omega
                      | false =>
                        go_wp2_with (refine wpList_ld (op := ⟨some 175, _, _, _, _, _⟩) (by rfl) 28 (.tmp 25) rfl N2 0 rfl (idC z) _ HK2.out.all Try.underlying28 rfl info_id ?_; refine Hid.out ?_)
                        refine Lib.hid ?_
                        go_wp2_with (refine wpList_ld (op := ⟨some 176, _, _, _, _, _⟩) (by rfl) 28 (.tmp 8) rfl NI 0 rfl (idC x) _ HKI.out.all Try.underlying28 rfl info_id ?_; refine Hid.out ?_)
                        refine Lib.hid ?_
                        have hzo : IdOk z := by rw [← HZ.out]; exact y.2
                        go_wp2_with (refine wpList_gv (op := ⟨some 177, _, _, _, _, _⟩) (.bool q9) (by rfl) (eql_idq _ _ (.tmp 175) (.tmp 176) _ rfl rfl z x hzo HX.out rfl rfl q9 HQ9.out _) ?_; refine Hid.out ?_)
                        refine Lib.hid ?_
                        go_wp2_with fail
                        go_roundw
                        case rel => exact ⟨p + 1, by omega, by simp, by rw [hsuc.out]; rfl, HF, HB, HKI, HKT, HRT⟩
                        case measure => simp [intOf]; omega
                    · obtain rfl : p = nT := by omega
                      have hq8 : q < 8 := by omega
                      have hq8i : (q : Int) < 8 := by omega
                      have hq0i : ¬ (q : Int) < 0 := by omega
                      have ct2 : wr.cell? ⟨NT, q, none⟩ = some (.bool (t q)) := (HKT.out.cell q).trans (toC_at t hq8)
                      by_cases hqc : (q : Int) = c
                      · skip
                        subst hqc
                        go_wp2_with fail
                        go_roundw
                        case rel => exact ⟨q + 1, by omega, by simp, HF, HB, HKI, HKT⟩
                        case measure => simp [intOf]; omega
                      · have hqn : ((q : Int) != c) = true := by simp [hqc]
                        cases htq : t q with
                        | true =>
                          rw [htq] at ct2
                          go_wp2_with fail
                          go_roundw
                          case rel => exact ⟨q + 1, by omega, by simp, HF, HB, HKI, HKT⟩
                          case measure => simp [intOf]; omega
                        | false =>
                          have hth : hasT T x p = true := by
                            obtain ⟨d2, h1, h2⟩ := HL.out q hlt hqc htq
                            rw [HDQ.out] at h1
                            cases h1
                            rw [← HNT2.out]
                            exact hasT_all T x HX.out ((HTT.out.1 _).2 h2)
                          rw [htq] at ct2
                          rw [hth]
                          have HTH := Lib.hid hth
                          clear hth
                          go_wp2_with fail
                          go_roundw
                          case rel => exact ⟨q + 1, by omega, by simp, HF, HB, HKI, HKT⟩
                          case measure => simp [intOf]; omega
                · obtain rfl : q = j := by omega
                  go_wp2_with fail
                  go_ret
                  exact ⟨rfl, HB.out⟩
end Go.Proofs.Yteamnibgeobcbaa
