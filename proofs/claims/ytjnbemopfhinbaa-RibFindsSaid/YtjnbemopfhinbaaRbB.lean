/- A table is built. Each theorem states its conditions. -/
import Derived.Test.YtjnbemopfhinbaaRbT
import Derived.Test.YtjnbemopfhinbaaRbSrt
import Derived.Test.YtjnbemopfhinbaaTrAp
namespace Go.Proofs.Ytjnbemopfhinbaa
open Go.RowKit
set_option linter.unusedVariables false
set_option linter.unusedSimpArgs false

theorem bld_tb (o : Oper) (e : Operand → Value) {x y : Operand} (ho : o.op = .build 116 #[(0, x), (1, y)]) (A : Option Addr) (n c s : Nat) (h0 : e x = .slice A n c) (h1 : e y = .pointer (some ⟨s, 0, none⟩)) (W : World) : (execOp e o).run Try.prog W = .ok (.value (.agg #[.slice A n c, .pointer (some ⟨s, 0, none⟩)])) W := by
  unfold execOp
  simp only [ho]
  simp only [List.map_toArray, List.map_cons, List.map_nil, h0, h1]
  kernel_rfl
theorem HopAt.lowS {w w' : World} {x : Rx} {s : Nat} (h : HopAt w x) (hl : ∀ b o, x.A = some ⟨b, o, none⟩ → 0 < x.r.n → b < s) (hb : Below s w w') : HopAt w' x := ⟨h.rd.belowS hl hb, h.le, h.nl⟩
theorem HopOwn.lo {w : World} {B : Nat} {x : Rx} (h : HopOwn w B x) : ∀ b o, x.A = some ⟨b, o, none⟩ → 0 < x.r.n → b < w.heap.size := fun b o e hn => by
  obtain ⟨b2, o2, e2, hr⟩ := h.at.rd.row hn
  rw [e] at e2
  cases e2
  exact hr.1
theorem own_lo {w : World} {B n c : Nat} {A : Option Addr} {C : Nat → Array Value} (h : OwnR w B 70 21 (.slice A n c) n C) (hC : Recs 21 C) : ∀ b o, A = some ⟨b, o, none⟩ → 0 < n → b < w.heap.size := fun b o e hn => by
  obtain ⟨A', c', e1, _, _, _, h5⟩ := h.shape hC (by decide)
  cases e1
  obtain ⟨b2, o2, e2, hr⟩ := h5.row hn
  rw [e] at e2
  cases e2
  exact hr.1
theorem form_ok {fam len : Int} {z : Nat → Int} (h : Form fam len z) : checkI fam len z = 0 := if_pos h
theorem form_bad {fam len : Int} {z : Nat → Int} (h : ¬ Form fam len z) : checkI fam len z = 3 := if_neg h
/-- the routes are those, in some order -/
def PermX (n : Nat) (X : Nat → Rx) (S : List Rx) : Prop := ∃ R : List Rx, S.Perm R ∧ R.length = n ∧ ∀ j, j < n → (R.getD j rx0).r = (X j).r
theorem own_typ {w : World} {B n c : Nat} {A : Option Addr} {C : Nat → Array Value} (h : OwnR w B 70 21 (.slice A n c) n C) : ∀ k, Value.ownBlock (.slice A n c) = some k → ∃ cur, w.heap[k]? = some (.cells cur 70 (0, 0)) := fun k e => by
  rcases h with ⟨_, ⟨p2, _⟩ | ⟨g2, cap2, cur2, p2, p3, p4, _⟩⟩
  · rw [p2] at e; cases e
  · rw [p2] at e
    have e7 : some g2 = some k := e
    cases e7
    exact ⟨cur2, p4⟩
theorem blk_gr {w w' : World} {row : Option Nat} {t : TypeId} {g : Nat} {C : Array Value} (h : Blk t w g C) (hg : w.grownBy w' row) (ho : ∀ k, row = some k → ∃ cur, w.heap[k]? = some (.cells cur 70 (0, 0))) (ht : t ≠ 70) : Blk t w' g C := by
  refine (hg.block g h.lt (fun e => ?_)).trans h
  obtain ⟨cur, h1⟩ := ho g e.symm
  have h2 : w.heap[g]? = _ := h
  rw [h1] at h2
  injection h2 with h2
  injection h2 with _ h2 _
  exact ht h2.symm
theorem ts_gr {w w' : World} {row : Option Nat} {B s : Nat} {T : Ts} (h : TsAt w B s T) (hg : w.grownBy w' row) (ho : ∀ k, row = some k → ∃ cur, w.heap[k]? = some (.cells cur 70 (0, 0))) : TsAt w' B s T := by
  cases row with
  | none => exact h.kp (S := []) ⟨hg.os, hg.tape, hg.output, hg.size, fun i hi _ => hg.block i hi (fun e => by cases e)⟩ (by simp) (fun _ _ => by simp)
  | some k =>
    obtain ⟨cur, h1⟩ := ho k rfl
    have h9 := t_ne h (g := k) (t := 70) (C := cur) h1 (by decide) (by decide)
    refine h.kp (S := [k]) ⟨hg.os, hg.tape, hg.output, hg.size, fun i hi hne => hg.block i hi (fun e => hne (by rw [Option.some.inj e]; exact List.mem_singleton_self _))⟩ (fun e => h9 ?_) (fun y hy e => h9 ?_)
    · rw [← List.mem_singleton.1 e]; exact List.mem_cons_self ..
    · rw [← List.mem_singleton.1 e]; exact List.mem_cons_of_mem _ hy
/-- a route's hops: a block of hops above B; each has a number of its circuit -/
def HopW (w : World) (B : Nat) (y : Rx) : Prop := 0 < y.r.n → ∃ g cur, y.A = some ⟨g, 0, none⟩ ∧ B ≤ g ∧ Blk 74 w g cur ∧ y.r.n * 7 ≤ cur.size ∧ ∀ j, j < y.r.n → ∃ z : Int, cur[j * 7]? = some (.int .i64 z)
theorem HopW.mono {w : World} {B B' : Nat} {y : Rx} (h : HopW w B y) (hb : B' ≤ B) : HopW w B' y := fun hn => by
  obtain ⟨g, cur, h1, h2, h3⟩ := h hn
  exact ⟨g, cur, h1, Nat.le_trans hb h2, h3⟩
theorem HopW.keep {w w' : World} {B : Nat} {y : Rx} (h : HopW w B y) (hk : ∀ b o, y.A = some ⟨b, o, none⟩ → 0 < y.r.n → w'.heap[b]? = w.heap[b]?) : HopW w' B y := fun hn => by
  obtain ⟨g, cur, h1, h2, h3, h4⟩ := h hn
  exact ⟨g, cur, h1, h2, (hk g 0 h1 hn).trans h3, h4⟩
theorem HopW.below {w w' : World} {B : Nat} {y : Rx} (h : HopW w B y) (hb : Below w.heap.size w w') : HopW w' B y := fun hn => by
  obtain ⟨g, cur, h1, h2, h3, h4⟩ := h hn
  exact ⟨g, cur, h1, h2, h3.below hb h3.lt, h4⟩
theorem HopW.lowS {w w' : World} {B s : Nat} {y : Rx} (h : HopW w B y) (hl : ∀ b o, y.A = some ⟨b, o, none⟩ → 0 < y.r.n → b < s) (hb : Below s w w') : HopW w' B y := h.keep fun b o e hn => hb.block b (hl b o e hn)
theorem HopOwn.w {w : World} {B : Nat} {y : Rx} (h : HopOwn w B y) : HopW w B y := fun hn => by
  rcases h.1.2 with ⟨o1, o2⟩ | ⟨g, cap, cur, o2, o3, o4, o5, o6, o7, o8⟩
  · omega
  · have e1 : y.A = some ⟨g, 0, none⟩ := by injection o2
    refine ⟨g, cur, e1, o3, o4, ?_, fun j hj => ?_⟩
    · rw [o7]; exact Nat.mul_le_mul_right 7 o5
    · rcases h.at.rd with h9 | ⟨b, off, e, hr⟩
      · omega
      · rw [e1] at e
        cases e
        have h9 := hr.2 j hj 0 (.int .i64 (y.r.h j).c) rfl
        refine ⟨(y.r.h j).c, ?_⟩
        have h8 : w.cell? ⟨g, 0 + j * 7 + 0, none⟩ = cur[j * 7]? := by
          rw [Nat.zero_add, Nat.add_zero]
          simp [World.cell?, o4]
        rw [← h8]; exact h9
theorem own_hi {w : World} {B n c : Nat} {A : Option Addr} {C : Nat → Array Value} (h : OwnR w B 70 21 (.slice A n c) n C) (hC : Recs 21 C) : ∀ b o, A = some ⟨b, o, none⟩ → 0 < n → B ≤ b := fun b o e hn => by
  refine (h.lt b ?_).1
  rw [e]
  first | rfl | (simp [Value.ownBlock]; try omega)
/-- a table lies above -/
structure HiT (w : World) (B t s : Nat) (A : Option Addr) (n : Nat) (S : List Rx) : Prop where
  t : B ≤ t
  s : B ≤ s
  row : ∀ b o, A = some ⟨b, o, none⟩ → 0 < n → B ≤ b
  hop : ∀ y, y ∈ S → HopW w B y
/-- what Build leaves -/
def BuildP (w : World) (n : Nat) (X : Nat → Rx) (e : Ending) (w' : World) : Prop := Below w.heap.size w w' ∧
  (((∃ i, i < n ∧ ¬ Form (X i).r.p.fam (X i).r.p.len (X i).r.p.z) ∧ e = .returned (.tuple #[.pointer none, .int .i64 3])) ∨
  ((∀ i, i < n → Form (X i).r.p.fam (X i).r.p.len (X i).r.p.z) ∧ ∃ S : List Rx, PermX n X S ∧ AscX S ∧
    (((∃ i j, i < j ∧ j < n ∧ kyF (S.getD i rx0).r.p = kyF (S.getD j rx0).r.p) ∧ e = .returned (.tuple #[.pointer none, .int .i64 7])) ∨
    ∃ (t s : Nat) (A : Option Addr) (c : Nat) (T : Ts), HiT w' w.heap.size t s A n S ∧ e = .returned (.tuple #[.pointer (some ⟨t, 0, none⟩), .int .i64 0]) ∧ TabAt w' t s n A c S T)))
/-- the first i places are told -/
def Idx (S : List Rx) (i : Nat) (T : Ts) : Prop := (∀ k v, T.G k = some v → ∃ j : Nat, v = (j : Int) ∧ j < i ∧ kyF (S.getD j rx0).r.p = some k) ∧ ∀ j, j < i → ∃ k, kyF (S.getD j rx0).r.p = some k ∧ T.G k = some (j : Int)
theorem Idx.nil (S : List Rx) : Idx S 0 ⟨.nil, .nil⟩ := ⟨(fun k v h => by
  have h9 : Ts.G ⟨.nil, .nil⟩ k = none := by
    obtain ⟨pl, x⟩ := k
    cases pl <;> rfl
  rw [h9] at h
  cases h), fun j h => by omega⟩
theorem Idx.step {S : List Rx} {i : Nat} {T T' : Ts} {k0 : Ky} (h : Idx S i T) (hk : kyF (S.getD i rx0).r.p = some k0) (hn : T.G k0 = none) (hg : ∀ q, T'.G q = if kyF (S.getD i rx0).r.p = some q then some (i : Int) else T.G q) : Idx S (i + 1) T' := by
  refine ⟨fun k v hv => ?_, fun j hj => ?_⟩
  · rw [hg] at hv
    split at hv
    · rename_i e
      exact ⟨i, (Option.some.inj hv).symm, by omega, e⟩
    · obtain ⟨j, h1, h2, h3⟩ := h.1 k v hv
      exact ⟨j, h1, by omega, h3⟩
  · rcases Nat.lt_or_ge j i with h9 | h9
    · obtain ⟨k, h1, h2⟩ := h.2 j h9
      refine ⟨k, h1, ?_⟩
      rw [hg, if_neg (fun e => ?_), h2]
      rw [hk] at e
      rw [← Option.some.inj e, hn] at h2
      cases h2
    · have e : j = i := by omega
      subst e
      exact ⟨k0, hk, by rw [hg, if_pos hk]⟩
theorem perm_ok {n : Nat} {X : Nat → Rx} {R S : List Rx} (hp : S.Perm R) (hl : R.length = n) (hs : ∀ j, j < n → (R.getD j rx0).r = (X j).r) {P : Rt → Prop} (hX : ∀ j, j < n → P (X j).r) : ∀ y, y ∈ S → P y.r := fun y hy => by
  have h1 := hp.mem_iff.1 hy
  obtain ⟨j, hj, e⟩ := List.getElem_of_mem h1
  have h2 := hs j (by omega)
  rw [List.getD_eq_getElem?_getD, List.getElem?_eq_getElem hj, Option.getD_some, e] at h2
  rw [h2]
  exact hX j (by omega)
set_option maxHeartbeats 16000000 in
set_option maxRecDepth 100000 in
theorem build_any (X : Nat → Rx) (A : Option Addr) (n c : Nat) (w : World) (hr : RdR w A n 21 (fun j => rxC (X j))) (hh : ∀ j, j < n → HopAt w (X j)) (hz : ∀ j, j < n → Bytes (X j).r.p.z) (hn : n ≤ 1000) : Calls Try.prog 31 #[.slice A n c] w (BuildP w n X) := by
  have HR := Lib.hid hr
  have HH := Lib.hid hh
  have HZ := Lib.hid hz
  have HN := Lib.hid hn
  have hnI : (n : Int) ≤ 9223372036854775807 := by omega
  clear hr hh hz hn
  go_enter Try.func31, Try.ntmps31
  go_wp2_with fail
  go_loopw [14] (fun t wr => ∃ j : Nat, j ≤ n ∧ t = .int .i64 j ∧ Hid (∀ i, i < j → Form (X i).r.p.fam (X i).r.p.len (X i).r.p.z) ∧ Hid (Below w.heap.size w wr)) (fun t _ => n - (intOf t).toNat)
  case atStart => exact ⟨0, by omega, rfl, Lib.hid (fun i h => by omega), Lib.hid (Below.refl _ _)⟩
  case round =>
    obtain ⟨j, hj, rfl, HF, HQ⟩ := hrel
    by_cases hlt : j < n
    · have hki : (j : Int) < (n : Int) := by omega
      have HLT := Lib.hid hlt
      obtain ⟨bA, off, rfl, hr⟩ := HR.out.row (by omega)
      have h1 : Hid (wr.rangeAt bA (off + j * 21) (rxC (X j)).toList) := Lib.hid (rx_read hr HQ.out hr.1 hlt)
      clear hr
      go_wp2_with (refine wpList_ld (op := ⟨some 17, _, _, _, _, _⟩) (by rfl) 70 (.tmp 16) rfl bA (off + j * 21) rfl (rxC (X j)) _ h1.out Try.underlying70 rfl info_rt ?_; refine Hid.out ?_)
      refine Lib.hid ?_
      clear h1
      obtain ⟨N5, hN5⟩ : ∃ N, wr.heap.size = N := ⟨_, rfl⟩
      have HN5 := Lib.hid hN5
      clear hN5
      go_wp2_with (refine wpList_new (op := ⟨some 5, _, _, _, _, _⟩) rfl 70 rfl (rxC rx0) zero_rt N5 HN5.out ?_; intro w5 k1 b1 s9; refine Hid.out ?_)
      refine Lib.hid ?_
      have K5 := Lib.hid k1
      have HB1 := Lib.hid b1
      clear k1 b1 s9
      go_wp2_with (refine wpList_st rfl 70 (.tmp 5) (.tmp 17) rfl N5 0 rfl (.agg (rxC (X j))) (rxC (X j)) rfl rfl info_rt (rx_one _) K5.out (Nat.le_of_ble_eq_true rfl) (C' := rxC (X j)) (rx_over _ _) ?_; intro w6 q1; refine Hid.out ?_)
      refine Lib.hid ?_
      have b1 : Below wr.heap.size wr w6 := HB1.out.trans (q1.2.1 _ (by rw [HN5.out]; exact Nat.le_refl _))
      have K5n : Hid (Blk 70 w6 N5 (rxC (X j))) := Lib.hid q1.1
      clear K5
      have K5 := K5n
      clear K5n q1 HB1 HN5
      have HQn := Lib.hid (HQ.out.trans (b1.mono HQ.out.size))
      clear HQ
      have HQ := HQn
      clear HQn
      clear b1
      go_wp2_with (refine wpList_ld (op := ⟨some 19, _, _, _, _, _⟩) (by rfl) 32 (.tmp 18) rfl N5 0 rfl (pfC (X j).r.p) _ K5.out.rxpf Try.underlying32 rfl (hi_pv _ _ _) ?_; refine Hid.out ?_)
      refine Lib.hid ?_
      clear K5
      go_wp2_with fail
      refine (check_any (X j).r.p.fam (X j).r.p.len (X j).r.p.z w6 (HZ.out j HLT.out)).mono ?_
      rintro e w7 ⟨rfl, b1⟩
      have HQn := Lib.hid (HQ.out.trans (b1.mono HQ.out.size))
      clear HQ
      have HQ := HQn
      clear HQn
      clear b1
      by_cases hf : Form (X j).r.p.fam (X j).r.p.len (X j).r.p.z
      · rw [form_ok hf]
        have HFn : Hid (∀ i, i < j + 1 → Form (X i).r.p.fam (X i).r.p.len (X i).r.p.z) := Lib.hid (fun i hi => by rcases Nat.lt_or_ge i j with h | h; exact HF.out i h; exact (show i = j by omega) ▸ hf)
        clear HF hf
        go_wp2_with fail
        go_roundw
        case rel => exact ⟨j + 1, by have := HLT.out; omega, by go_num, HFn, HQ⟩
        case measure => have := HLT.out; simp only [intOf]; omega
      · rw [form_bad hf]
        have HNF := Lib.hid hf
        clear hf
        go_wp2_with fail
        refine bodyPost_ret (v := .tuple #[.pointer none, .int .i64 3]) (by simp [results, Try.f31, go_sem]) rfl ?_
        exact ⟨HQ.out, .inl ⟨⟨j, HLT.out, HNF.out⟩, rfl⟩⟩
    · obtain rfl : n = j := by omega
      clear hlt hj
      go_wp2_with fail
      have HWR : Hid (w.heap.size ≤ wr.heap.size) := Lib.hid HQ.out.size
      refine (copyAll_any X A n c wr (HR.out.below HQ.out rfl) (fun j hj => (HH.out j hj).below HQ.out) HN.out).mono ?_
      rintro e w10 ⟨v10, R, rfl, hc, b1⟩
      have HQn := Lib.hid (HQ.out.trans (b1.mono HQ.out.size))
      clear HQ
      have HQ := HQn
      clear HQn
      have HC := Lib.hid hc
      clear b1 hc
      obtain ⟨A2, c2, e2, _, hc2, _, _⟩ := HC.out.own.shape (rxB_recs _) (by decide)
      subst e2
      clear hc2
      go_wp2_with fail
      have HW10 : Hid (w.heap.size ≤ w10.heap.size) := Lib.hid HQ.out.size
      refine (new_any w10).mono ?_
      rintro e w11 ⟨rfl, ht, hb⟩
      obtain ⟨s, hs⟩ : ∃ s, w10.heap.size = s := ⟨_, rfl⟩
      have HS := Lib.hid hs
      have HWS : Hid (w.heap.size ≤ s) := Lib.hid (by rw [← hs]; exact HW10.out)
      have HC11 := Lib.hid (HC.out.below hb)
      have HQn := Lib.hid (HQ.out.trans (hb.mono HQ.out.size))
      clear HQ
      have HQ := HQn
      clear HQn
      have HLO : Hid (∀ y, y ∈ R → ∀ b o, y.A = some ⟨b, o, none⟩ → 0 < y.r.n → b < s) := Lib.hid (fun y hy => by rw [← HS.out]; exact (HC.out.hop y hy).lo)
      have HLA : Hid (∀ b o, A2 = some ⟨b, o, none⟩ → 0 < n → b < s) := Lib.hid (by rw [← HS.out]; exact own_lo HC.out.own (rxB_recs _))
      have HHI : Hid (∀ b o, A2 = some ⟨b, o, none⟩ → 0 < n → w.heap.size ≤ b) := Lib.hid (fun b o e hn => Nat.le_trans HWR.out (own_hi HC.out.own (rxB_recs _) b o e hn))
      rw [hs] at ht ⊢
      have HT := Lib.hid ht
      clear ht hb hs HC
      go_wp2_with (refine wpList_v (op := ⟨some 28, _, _, _, _, _⟩) rfl (.agg #[.slice A2 n c2, .pointer (some ⟨s, 0, none⟩)]) (bld_tb _ _ rfl A2 n c2 s rfl rfl _) ?_; refine Hid.out ?_)
      refine Lib.hid ?_
      obtain ⟨tb, ht⟩ : ∃ t, w11.heap.size = t := ⟨_, rfl⟩
      have HTN := Lib.hid ht
      have HWT : Hid (w.heap.size ≤ tb) := Lib.hid (by rw [← ht]; exact HQ.out.size)
      clear ht
      go_wp2_with (refine wpList_box (op := ⟨some 29, _, _, _, _, _⟩) rfl 116 (.tmp 28) rfl (#[.slice A2 n c2, .pointer (some ⟨s, 0, none⟩)]) rfl tb HTN.out ?_; intro w12 k1 b1 s1; refine Hid.out ?_)
      refine Lib.hid ?_
      have KT := Lib.hid k1
      have HC12 := Lib.hid (HC11.out.below b1)
      have HTn := Lib.hid (HT.out.below b1 HT.out.lt)
      clear HT
      have HT := HTn
      clear HTn
      have HQn := Lib.hid (HQ.out.trans (b1.mono HQ.out.size))
      clear HQ
      have HQ := HQn
      clear HQn
      clear k1 b1 s1 HTN HC11
      have c0 : w12.cell? ⟨tb, 0, none⟩ = some (.slice A2 n c2) := (KT.out.cell 0).trans rfl
      go_wp2_with fail
      clear c0
      have HOK : Hid (∀ y, y ∈ R → RxOk y) := Lib.hid (fun y hy => perm_ok (P := fun r => Bytes r.p.z ∧ Form r.p.fam r.p.len r.p.z) (List.Perm.refl R) HC12.out.len HC12.out.same (fun j hj => ⟨HZ.out j hj, HF.out j hj⟩) y hy)
      refine (sortB R A2 n c2 _ w12 HC12.out.len HN.out HOK.out HC12.out.own ()).mono ?_
      rintro e w13 ⟨rfl, S, hp, ha, ho, hg⟩
      have HCL := Lib.hid (And.intro HC12.out.len HC12.out.same)
      have HPM := Lib.hid hp
      have HAS := Lib.hid ha
      have HO := Lib.hid ho
      have HHO : Hid (∀ y, y ∈ S → HopAt w13 y) := Lib.hid (fun y hy => HopOwn.at (B := wr.heap.size) ⟨((HC12.out.hop y (hp.mem_iff.1 hy)).1).typR HC12.out.own (by decide) hg, (HC12.out.hop y (hp.mem_iff.1 hy)).2⟩)
      have HHW : Hid (∀ y, y ∈ S → HopW w13 w.heap.size y) := Lib.hid (fun y hy => (HopOwn.w (B := wr.heap.size) ⟨((HC12.out.hop y (hp.mem_iff.1 hy)).1).typR HC12.out.own (by decide) hg, (HC12.out.hop y (hp.mem_iff.1 hy)).2⟩).mono HWR.out)
      have hown : ∀ k, Value.ownBlock (.slice A2 n c2) = some k → ∃ cur, w12.heap[k]? = some (.cells cur 70 (0, 0)) := own_typ HC12.out.own
      have KTn : Hid (Blk 116 w13 tb (#[.slice A2 n c2, .pointer (some ⟨s, 0, none⟩)])) := Lib.hid (blk_gr KT.out hg hown (by decide))
      have HTn : Hid (TsAt w13 s s ⟨.nil, .nil⟩) := Lib.hid (ts_gr HT.out hg hown)
      have HQn := Lib.hid (HQ.out.grown hg HQ.out.size (fun k e => (HC12.out.own.lt k e).1 |> fun h => Nat.le_trans HWR.out h))
      clear HQ
      have HQ := HQn
      clear HQn
      clear KT HT hg hown ho ha hp HC12
      have KT := KTn
      have HT := HTn
      clear KTn HTn
      have HLS : Hid (∀ y, y ∈ S → ∀ b o, y.A = some ⟨b, o, none⟩ → 0 < y.r.n → b < s) := Lib.hid (fun y hy => HLO.out y (HPM.out.mem_iff.1 hy))
      have c0 : w13.cell? ⟨tb, 0, none⟩ = some (.slice A2 n c2) := (KT.out.cell 0).trans rfl
      go_wp2_with fail
      clear c0
      have HOS : Hid (∀ y, y ∈ S → RxOk y) := Lib.hid (fun y hy => HOK.out y (HPM.out.mem_iff.1 hy))
      have HSL : Hid (S.length = n) := Lib.hid (HPM.out.length_eq.trans HCL.out.1)
      obtain ⟨A9, c9, e9, _, _, _, hrs⟩ := HO.out.shape (rxB_recs _) (by decide)
      cases e9
      have HRS := Lib.hid hrs
      clear hrs HLO HO HOK
      go_loopw [40] (fun v wr => ∃ (j : Nat) (T : Ts), j ≤ n ∧ v = .int .i64 j ∧ Hid (TsAt wr s s T) ∧ Hid (Blk 116 wr tb (#[.slice A2 n c2, .pointer (some ⟨s, 0, none⟩)])) ∧ Hid (T.sz ≤ 2 * j) ∧ Hid (Idx S j T) ∧ Hid (Below s w13 wr) ∧ Hid (Below w.heap.size w wr)) (fun v _ => n - (intOf v).toNat)
      case atStart => exact ⟨0, ⟨.nil, .nil⟩, by omega, rfl, HT, KT, Lib.hid (by decide), Lib.hid (Idx.nil S), Lib.hid (Below.refl _ _), HQ⟩
      case round =>
        obtain ⟨j, T, hj, rfl, ht, hk, hsz, hix, hbs, hq⟩ := hrel
        clear HT KT HQ
        have HT := ht
        have KT := hk
        have HSZ := hsz
        have HIX := hix
        have HBs := hbs
        have HQ := hq
        clear ht hk hsz hix hbs hq
        by_cases hlt : j < n
        · have hki : (j : Int) < (n : Int) := by omega
          have HLT := Lib.hid hlt
          have hj0 : (0 : Int) ≤ (j : Int) := by omega
          obtain ⟨bA, off, rfl, hr⟩ := HRS.out.row (by omega)
          have h1 : Hid (wr.rangeAt bA (off + j * 21) (rxC (S.getD j rx0)).toList) := Lib.hid (rangeAt_below (hr.2 j hlt) HBs.out (HLA.out bA off rfl (by omega)))
          clear hr
          obtain ⟨y, hy⟩ : ∃ y, S.getD j rx0 = y := ⟨_, rfl⟩
          have HY := Lib.hid hy
          have HYO : Hid (RxOk y) := Lib.hid (by rw [← hy]; exact HOS.out _ (S_mem HSL.out hlt))
          rw [hy] at h1
          clear hy hlt hj
          go_wp2_with (refine wpList_ld (op := ⟨some 44, _, _, _, _, _⟩) (by rfl) 70 (.tmp 43) rfl bA (off + j * 21) rfl (rxC y) _ h1.out Try.underlying70 rfl info_rt ?_; refine Hid.out ?_)
          refine Lib.hid ?_
          clear h1
          obtain ⟨N9, hN9⟩ : ∃ N, wr.heap.size = N := ⟨_, rfl⟩
          have HN9 := Lib.hid hN9
          clear hN9
          go_wp2_with (refine wpList_new (op := ⟨some 9, _, _, _, _, _⟩) rfl 70 rfl (rxC rx0) zero_rt N9 HN9.out ?_; intro w15 k1 b1 s9; refine Hid.out ?_)
          refine Lib.hid ?_
          have K9 := Lib.hid k1
          have HB1 := Lib.hid b1
          clear k1 b1 s9
          go_wp2_with (refine wpList_st rfl 70 (.tmp 9) (.tmp 44) rfl N9 0 rfl (.agg (rxC y)) (rxC y) rfl rfl info_rt (rx_one _) K9.out (Nat.le_of_ble_eq_true rfl) (C' := rxC y) (rx_over _ _) ?_; intro w16 q1; refine Hid.out ?_)
          refine Lib.hid ?_
          have b1 : Below wr.heap.size wr w16 := HB1.out.trans (q1.2.1 _ (by rw [HN9.out]; exact Nat.le_refl _))
          have K9n : Hid (Blk 70 w16 N9 (rxC y)) := Lib.hid q1.1
          clear K9
          have K9 := K9n
          clear K9n q1 HB1 HN9
          have HBsn := Lib.hid (HBs.out.trans (b1.mono (Nat.le_of_lt HT.out.lt)))
          clear HBs
          have HBs := HBsn
          clear HBsn
          have HQn := Lib.hid (HQ.out.trans (b1.mono HQ.out.size))
          clear HQ
          have HQ := HQn
          clear HQn
          have KTn := Lib.hid (KT.out.below b1 KT.out.lt)
          clear KT
          have KT := KTn
          clear KTn
          have HTn := Lib.hid (HT.out.below b1 HT.out.lt)
          clear HT
          have HT := HTn
          clear HTn
          clear b1
          go_wp2_with (refine wpList_ld (op := ⟨some 48, _, _, _, _, _⟩) (by rfl) 32 (.tmp 47) rfl N9 0 rfl (pfC y.r.p) _ K9.out.rxpf Try.underlying32 rfl (hi_pv _ _ _) ?_; refine Hid.out ?_)
          refine Lib.hid ?_
          go_wp2_with fail
          refine (of_any tb s n (some ⟨bA, off, none⟩) c2 S T y.r.p HYO.out.1 w16 KT.out HT.out (HRS.out.belowS HLA.out HBs.out) HN.out (fun k v hg => by obtain ⟨i, h1, h2, _⟩ := HIX.out.1 k v hg; exact ⟨i, h1, by have := HLT.out; omega⟩)).mono ?_
          rintro e w17 ⟨b1, h⟩
          have HBsn := Lib.hid (HBs.out.trans (b1.mono (Nat.le_of_lt HT.out.lt)))
          clear HBs
          have HBs := HBsn
          clear HBsn
          have HQn := Lib.hid (HQ.out.trans (b1.mono HQ.out.size))
          clear HQ
          have HQ := HQn
          clear HQn
          have KTn := Lib.hid (KT.out.below b1 KT.out.lt)
          clear KT
          have KT := KTn
          clear KTn
          have K9n := Lib.hid (K9.out.below b1 K9.out.lt)
          clear K9
          have K9 := K9n
          clear K9n
          have HTn := Lib.hid (HT.out.below b1 HT.out.lt)
          clear HT
          have HT := HTn
          clear HTn
          clear b1
          rcases h with ⟨rfl, hno⟩ | ⟨q, i, hq, hi, hgi, rfl⟩
          · have HNO := Lib.hid hno
            clear hno
            obtain ⟨N10, hN10⟩ : ∃ N, w17.heap.size = N := ⟨_, rfl⟩
            have HN10 := Lib.hid hN10
            clear hN10
            go_wp2_with (refine wpList_new (op := ⟨some 10, _, _, _, _, _⟩) rfl 70 rfl (rxC rx0) zero_rt N10 HN10.out ?_; intro w18 k1 b1 s9; refine Hid.out ?_)
            refine Lib.hid ?_
            have K10 := Lib.hid k1
            have HB1 := Lib.hid b1
            clear k1 b1 s9
            go_wp2_with (refine wpList_st rfl 70 (.tmp 10) (.tmp 50) rfl N10 0 rfl (.agg (rxC rx0)) (rxC rx0) rfl rfl info_rt (rx_one _) K10.out (Nat.le_of_ble_eq_true rfl) (C' := rxC rx0) (rx_over _ _) ?_; intro w19 q1; refine Hid.out ?_)
            refine Lib.hid ?_
            have b1 : Below w17.heap.size w17 w19 := HB1.out.trans (q1.2.1 _ (by rw [HN10.out]; exact Nat.le_refl _))
            have K10n : Hid (Blk 70 w19 N10 (rxC rx0)) := Lib.hid q1.1
            clear K10
            have K10 := K10n
            clear K10n q1 HB1 HN10
            have HBsn := Lib.hid (HBs.out.trans (b1.mono (Nat.le_of_lt HT.out.lt)))
            clear HBs
            have HBs := HBsn
            clear HBsn
            have HQn := Lib.hid (HQ.out.trans (b1.mono HQ.out.size))
            clear HQ
            have HQ := HQn
            clear HQn
            have KTn := Lib.hid (KT.out.below b1 KT.out.lt)
            clear KT
            have KT := KTn
            clear KTn
            have K9n := Lib.hid (K9.out.below b1 K9.out.lt)
            clear K9
            have K9 := K9n
            clear K9n
            have HTn := Lib.hid (HT.out.below b1 HT.out.lt)
            clear HT
            have HT := HTn
            clear HTn
            clear b1 K10
            go_wp2_with fail
            have HBsd := Lib.hid HBs.out.drew
            clear HBs
            have HQd := Lib.hid HQ.out.drew
            clear HQ
            have HTd := Lib.hid HT.out.drew
            clear HT
            refine wp_region_held_drew (S := fun w' => Blk 70 w' N9 (rxC y) ∧ Blk 116 w' tb (#[.slice (some ⟨bA, off, none⟩) n c2, .pointer (some ⟨s, 0, none⟩)])) (by kernel_rfl) ⟨K9.out, KT.out⟩ (fun hS => ?_)
            generalize hW61 : w19.drew = W61 at hS HBsd HQd HTd ⊢
            clear hW61
            clear K9
            clear KT
            have HBs := HBsd
            clear HBsd
            have HQ := HQd
            clear HQd
            have HT := HTd
            clear HTd
            have K9 := Lib.hid hS.1
            have KT := Lib.hid hS.2
            refine takeY (i := 0) (some 53) (v := .pointer (some ⟨tb, 0, none⟩)) rfl rfl (by kernel_rfl) (by kernel_rfl) (by kernel_rfl) (fun _ _ _ h => h) (by rfl) (fun w' hS => by clear hS; go_simp) hS ?_
            simp only [Act.put, List.setIfInBounds_toArray, List.set_cons_zero, List.set_cons_succ]
            refine takeY (i := 1) (some 54) (v := .pointer (some ⟨tb, 0, none⟩)) rfl rfl (by kernel_rfl) (by kernel_rfl) (by kernel_rfl) (fun _ _ _ h => h) (by rfl) (fun w' hS => by clear hS; go_simp) hS ?_
            simp only [Act.put, List.setIfInBounds_toArray, List.set_cons_zero, List.set_cons_succ]
            refine takeY (i := 2) (some 55) (v := .pointer (some ⟨tb, 1, none⟩)) rfl rfl (by kernel_rfl) (by kernel_rfl) (by kernel_rfl) (fun _ _ _ h => h) (by rfl) (fun w' hS => by clear hS; go_simp) hS ?_
            simp only [Act.put, List.setIfInBounds_toArray, List.set_cons_zero, List.set_cons_succ]
            refine takeY (i := 3) (some 56) (v := .pointer (some ⟨s, 0, none⟩)) rfl rfl (by kernel_rfl) (by kernel_rfl) (by kernel_rfl) (fun _ _ _ h => h) (by rfl) (fun w' hS => by (have c9 : w'.cell? ⟨tb, 1, none⟩ = some (.pointer (some ⟨s, 0, none⟩)) := (hS.2.cell 1).trans rfl; clear hS; go_simp)) hS ?_
            simp only [Act.put, List.setIfInBounds_toArray, List.set_cons_zero, List.set_cons_succ]
            refine takeY (i := 4) (some 57) (v := .pointer (some ⟨N9, 0, none⟩)) rfl rfl (by kernel_rfl) (by kernel_rfl) (by kernel_rfl) (fun _ _ _ h => h) (by rfl) (fun w' hS => by clear hS; go_simp) hS ?_
            simp only [Act.put, List.setIfInBounds_toArray, List.set_cons_zero, List.set_cons_succ]
            refine takeL (i := 5) (some 58) 32 (.tmp 57) N9 0 (pfC y.r.p) _ rfl rfl (by kernel_rfl) (by kernel_rfl) (by kernel_rfl) (fun _ _ _ h => h) (by rfl) rfl rfl (fun w' hS => hS.1.rxpf) Try.underlying32 rfl (hi_pv _ _ _) hS ?_
            simp only [Act.put, List.setIfInBounds_toArray, List.set_cons_zero, List.set_cons_succ]
            refine takeY (i := 6) (some 59) (v := .int .i64 (j : Int)) rfl rfl (by kernel_rfl) (by kernel_rfl) (by kernel_rfl) (fun _ _ _ h => h) (by rfl) (fun w' hS => by clear hS; go_simp) hS ?_
            simp only [Act.put, List.setIfInBounds_toArray, List.set_cons_zero, List.set_cons_succ]
            have HT0 := HT
            refine takeCE (i := 7) (some 60) 14 #[.pointer (some ⟨s, 0, none⟩), .agg (pfC y.r.p), .int .i64 (j : Int)] (R := fun v w' => ∃ T1 : Ts, v = v ∧ TsN s s T T1 (kyP y.r.p.fam y.r.p.len y.r.p.z) (some (j : Int)) W61 w') rfl rfl (by kernel_rfl) (by rfl) (by go_simp) ((ins_T s s T y.r.p.fam y.r.p.len (j : Int) y.r.p.z HYO.out.1 W61 HT.out (Nat.le_of_lt HT.out.lt) (by have := HSZ.out; have := HLT.out; have := HN.out; omega)).mono (by rintro e w9 ⟨T1, rfl, h9⟩; exact ⟨_, rfl, T1, rfl, h9⟩)) (fun v w' h => by obtain ⟨T1, _, n1⟩ := h; exact ⟨K9.out.kp n1.kp (t_ne HT0.out K9.out (by decide) (by decide)), KT.out.kp n1.kp (t_ne HT0.out KT.out (by decide) (by decide))⟩) (fun v W62 h hS2 => ?_)
            obtain ⟨T1, _, n1⟩ := h
            clear hS2
            simp only [Act.put, List.setIfInBounds_toArray, List.set_cons_zero, List.set_cons_succ]
            have HNN := Lib.hid n1
            have HBsn := Lib.hid (HBs.out.trans (n1.below HT0.out (Nat.le_of_lt HT0.out.lt)))
            clear HBs
            have HBs := HBsn
            clear HBsn
            have HQn := Lib.hid (HQ.out.trans ((n1.below HT0.out (Nat.le_of_lt HT0.out.lt)).mono HWS.out))
            clear HQ
            have HQ := HQn
            clear HQn
            have HTn := Lib.hid (n1.at_)
            clear HT
            have HT := HTn
            clear HTn
            have K9n := Lib.hid (K9.out.kp n1.kp (t_ne HT0.out K9.out (by decide) (by decide)))
            clear K9
            have K9 := K9n
            clear K9n
            have KTn := Lib.hid (KT.out.kp n1.kp (t_ne HT0.out KT.out (by decide) (by decide)))
            clear KT
            have KT := KTn
            clear KTn
            clear hS
            have hS := (And.intro K9.out KT.out)
            clear hS
            refine wpAnyH_done (by kernel_rfl) ?_ _
            have HIXn : Hid (Idx S (j + 1) T1) := Lib.hid (by
              obtain ⟨k0, hk0⟩ : ∃ k, kyF (S.getD j rx0).r.p = some k := by
                rw [HY.out]
                obtain ⟨m, hm, _⟩ := form_nat HYO.out.2
                have hf := HYO.out.2
                rw [hm] at hf
                obtain ⟨pl, _, e⟩ := ky_yes hf
                exact ⟨_, by unfold kyF; rw [hm]; exact e⟩
              exact HIX.out.step hk0 (HNO.out k0 (by rw [← HY.out]; exact hk0)) (fun q => by rw [HNN.out.g, HY.out]; rfl))
            have HSZn : Hid (T1.sz ≤ 2 * (j + 1)) := Lib.hid (by have := HNN.out.sz; have := HSZ.out; omega)
            go_wp2
            go_roundw
            case rel => exact ⟨j + 1, T1, by have := HLT.out; omega, by go_num, HT, KT, HSZn, HIXn, HBs, HQ⟩
            case measure => have := HLT.out; simp only [intOf]; omega
          · have HDU : Hid (∃ i j, i < j ∧ j < n ∧ kyF (S.getD i rx0).r.p = kyF (S.getD j rx0).r.p) := Lib.hid (by
                obtain ⟨i2, h1, h2, h3⟩ := HIX.out.1 q _ hgi
                exact ⟨i2, j, h2, HLT.out, by rw [HY.out, h3, hq]⟩)
            clear hq hi hgi
            obtain ⟨N10, hN10⟩ : ∃ N, w17.heap.size = N := ⟨_, rfl⟩
            have HN10 := Lib.hid hN10
            clear hN10
            go_wp2_with (refine wpList_new (op := ⟨some 10, _, _, _, _, _⟩) rfl 70 rfl (rxC rx0) zero_rt N10 HN10.out ?_; intro w18 k1 b1 s9; refine Hid.out ?_)
            refine Lib.hid ?_
            have K10 := Lib.hid k1
            have HB1 := Lib.hid b1
            clear k1 b1 s9
            go_wp2_with (refine wpList_st rfl 70 (.tmp 10) (.tmp 50) rfl N10 0 rfl (.agg (rxC (S.getD i rx0))) (rxC (S.getD i rx0)) rfl rfl info_rt (rx_one _) K10.out (Nat.le_of_ble_eq_true rfl) (C' := rxC (S.getD i rx0)) (rx_over _ _) ?_; intro w19 q1; refine Hid.out ?_)
            refine Lib.hid ?_
            have b1 : Below w17.heap.size w17 w19 := HB1.out.trans (q1.2.1 _ (by rw [HN10.out]; exact Nat.le_refl _))
            have K10n : Hid (Blk 70 w19 N10 (rxC (S.getD i rx0))) := Lib.hid q1.1
            clear K10
            have K10 := K10n
            clear K10n q1 HB1 HN10
            have HBsn := Lib.hid (HBs.out.trans (b1.mono (Nat.le_of_lt HT.out.lt)))
            clear HBs
            have HBs := HBsn
            clear HBsn
            have HQn := Lib.hid (HQ.out.trans (b1.mono HQ.out.size))
            clear HQ
            have HQ := HQn
            clear HQn
            have KTn := Lib.hid (KT.out.below b1 KT.out.lt)
            clear KT
            have KT := KTn
            clear KTn
            have HTn := Lib.hid (HT.out.below b1 HT.out.lt)
            clear HT
            have HT := HTn
            clear HTn
            clear b1
            go_wp2_with fail
            refine bodyPost_ret (v := .tuple #[.pointer none, .int .i64 7]) (by simp [results, Try.f31, go_sem]) rfl ?_
            exact ⟨HQ.out, .inr ⟨HF.out, S, ⟨R, HPM.out, HCL.out.1, HCL.out.2⟩, HAS.out, .inl ⟨HDU.out, rfl⟩⟩⟩
        · obtain rfl : n = j := by omega
          go_wp2_with fail
          refine bodyPost_ret (v := .tuple #[.pointer (some ⟨tb, 0, none⟩), .int .i64 0]) (by simp [results, Try.f31, go_sem]) rfl ?_
          refine ⟨HQ.out, .inr ⟨HF.out, S, ⟨R, HPM.out, HCL.out.1, HCL.out.2⟩, HAS.out, .inr ⟨tb, s, A2, c2, T, ⟨HWT.out, HWS.out, HHI.out, fun y hy => (HHW.out y hy).lowS (HLS.out y hy) HBs.out⟩, rfl, ?_⟩⟩⟩
          exact ⟨KT.out, HSL.out, HN.out, HRS.out.belowS HLA.out HBs.out, fun y hy => (HHO.out y hy).lowS (HLS.out y hy) HBs.out, HT.out, HIX.out.1, HIX.out.2⟩
end Go.Proofs.Ytjnbemopfhinbaa
