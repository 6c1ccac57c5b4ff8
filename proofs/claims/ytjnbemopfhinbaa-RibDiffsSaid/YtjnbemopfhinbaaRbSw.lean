/- Two texts put together; each theorem states its conditions. -/
import Derived.Test.YtjnbemopfhinbaaTrV
import Derived.Test.YtjnbemopfhinbaaRbB
import Derived.Test.YtjnbemopfhinbaaRbSm
import Derived.Test.YtjnbemopfhinbaaRbDd
import Derived.Test.YtjnbemopfhinbaaRbLd
/- Two texts put together; each theorem states its conditions. -/
/- Two texts put together; each theorem states its conditions. -/
/- SamePrefixes: two lists with the same prefixes are alike. Each theorem states its conditions. -/
namespace Go.Proofs.Ytjnbemopfhinbaa
open Go.RowKit
set_option linter.unusedVariables false
set_option linter.unusedSimpArgs false

theorem rdR_at {w w' : World} {b off m s B : Nat} {C : Nat → Array Value} (h : RowR w b off m s C) (hb : Below B w w') (hB : b < B) (j : Nat) (hj : j < m) : w'.rangeAt b (off + j * s) (C j).toList := rangeAt_below (h.2 j hj) hb hB
set_option maxHeartbeats 16000000 in
set_option maxRecDepth 100000 in
theorem sameP (a a' : Option Addr) (n c c' : Nat) (P P' : Nat → Pf) (hP : ∀ j, Bytes (P j).z) (he : ∀ j, j < n → pfC (P j) = pfC (P' j)) (hn : n ≤ 1000000) (w : World) (h1 : RdR w a n 18 (fun j => pfC (P j))) (h2 : RdR w a' n 18 (fun j => pfC (P' j))) :
    Calls Try.prog 21 #[.slice a n c, .slice a' n c'] w fun e w' => e = .returned (.bool true) ∧ Below w.heap.size w w' := by
  have HP := Lib.hid hP
  have HNN := Lib.hid hn
  clear hn
  have HE := Lib.hid he
  have H1 := Lib.hid h1
  have H2 := Lib.hid h2
  clear hP he h1 h2
  go_enter Try.func21, Try.ntmps21
  go_wp2_with fail
  go_loopw [13] (fun t wr => ∃ i : Nat, i ≤ n ∧ t = .int .i64 i ∧ Hid (Below w.heap.size w wr)) (fun t _ => n - (intOf t).toNat)
  case atStart => exact ⟨0, by omega, rfl, Lib.hid (Below.refl _ _)⟩
  case round =>
    obtain ⟨i, hi, rfl, hb⟩ := hrel
    by_cases hin : i < n
    · have hii : (i : Int) < (n : Int) := by omega
      obtain ⟨b1, o1, rfl, r1⟩ := H1.out.row (by omega)
      obtain ⟨b2, o2, rfl, r2⟩ := H2.out.row (by omega)
      have R1 := Lib.hid r1
      have R2 := Lib.hid r2
      have HCI := Lib.hid (HE.out i hin)
      have hi0 : (0 : Int) ≤ (i : Int) := by omega
      have HIN := Lib.hid hin
      clear H1 H2 r1 r2 hin hi
      go_wp2_with fail
      refine wp_region_held_drew (S := fun w' => Below w.heap.size w w') (by kernel_rfl) hb.out.drew (fun hS => ?_)
      generalize hW5 : wr.drew = W5 at hS ⊢
      clear hW5 hb
      refine takeY (i := 0) (some 16) (v := .slice (some ⟨b1, o1, none⟩) n c) rfl rfl (by kernel_rfl) (by kernel_rfl) (by kernel_rfl) (fun _ _ _ h => h) (by rfl) (fun w' hS => by clear hS; go_simp) hS ?_
      simp only [Act.put, List.setIfInBounds_toArray, List.set_cons_zero, List.set_cons_succ]
      refine takeY (i := 1) (some 17) (v := .int .i64 i) rfl rfl (by kernel_rfl) (by kernel_rfl) (by kernel_rfl) (fun _ _ _ h => h) (by rfl) (fun w' hS => by clear hS; go_simp) hS ?_
      simp only [Act.put, List.setIfInBounds_toArray, List.set_cons_zero, List.set_cons_succ]
      refine takeY (i := 2) (some 18) (v := .pointer (some ⟨b1, o1 + i * 18, none⟩)) rfl rfl (by kernel_rfl) (by kernel_rfl) (by kernel_rfl) (fun _ _ _ h => h) (by rfl) (fun w' hS => by clear hS; go_simp) hS ?_
      simp only [Act.put, List.setIfInBounds_toArray, List.set_cons_zero, List.set_cons_succ]
      refine takeL (i := 3) (some 19) 32 (.tmp 18) b1 (o1 + i * 18) (pfC (P i)) _ rfl rfl (by kernel_rfl) (by kernel_rfl) (by kernel_rfl) (fun _ _ _ h => h) (by rfl) rfl rfl (fun w' hS => rdR_at R1.out hS R1.out.1 i HIN.out) Try.underlying32 rfl (hi_pv _ _ _) hS ?_
      simp only [Act.put, List.setIfInBounds_toArray, List.set_cons_zero, List.set_cons_succ]
      refine takeY (i := 4) (some 20) (v := (.slice (some ⟨b2, o2, none⟩) n c')) rfl rfl (by kernel_rfl) (by kernel_rfl) (by kernel_rfl) (fun _ _ _ h => h) (by rfl) (fun w' hS => by clear hS; go_simp) hS ?_
      simp only [Act.put, List.setIfInBounds_toArray, List.set_cons_zero, List.set_cons_succ]
      refine takeY (i := 5) (some 21) (v := .int .i64 i) rfl rfl (by kernel_rfl) (by kernel_rfl) (by kernel_rfl) (fun _ _ _ h => h) (by rfl) (fun w' hS => by clear hS; go_simp) hS ?_
      simp only [Act.put, List.setIfInBounds_toArray, List.set_cons_zero, List.set_cons_succ]
      refine takeY (i := 6) (some 22) (v := .pointer (some ⟨b2, o2 + i * 18, none⟩)) rfl rfl (by kernel_rfl) (by kernel_rfl) (by kernel_rfl) (fun _ _ _ h => h) (by rfl) (fun w' hS => by clear hS; go_simp) hS ?_
      simp only [Act.put, List.setIfInBounds_toArray, List.set_cons_zero, List.set_cons_succ]
      refine takeL (i := 7) (some 23) 32 (.tmp 22) b2 (o2 + i * 18) (pfC (P' i)) _ rfl rfl (by kernel_rfl) (by kernel_rfl) (by kernel_rfl) (fun _ _ _ h => h) (by rfl) rfl rfl (fun w' hS => rdR_at R2.out hS R2.out.1 i HIN.out) Try.underlying32 rfl (hi_pv _ _ _) hS ?_
      simp only [Act.put, List.setIfInBounds_toArray, List.set_cons_zero, List.set_cons_succ]
      rw [← HCI.out]
      refine takeY (i := 8) (some 24) (v := .bool false) rfl rfl (by kernel_rfl) (by kernel_rfl) (by kernel_rfl) (fun _ _ _ h => h) (by rfl) (fun w' hS => by clear hS; refine (neq_pv _ _ _ _ rfl (P i).fam (P i).len (P i).z (P i).fam (P i).len (P i).z (HP.out i) (HP.out i) rfl rfl _).trans ?_; simp [Same16]) hS ?_
      simp only [Act.put, List.setIfInBounds_toArray, List.set_cons_zero, List.set_cons_succ]
      have HB := Lib.hid hS
      clear hS
      refine wpAnyH_done (by kernel_rfl) ?_ _
      have hnb : (i : Int) < 1000000 := by have := HNN.out; have := HIN.out; omega
      go_wp2
      go_roundw
      case rel => exact ⟨i + 1, by have := HIN.out; omega, by go_num, HB⟩
      case measure => have := HIN.out; simp only [intOf]; omega
    · have hii : ¬ (i : Int) < (n : Int) := by omega
      clear hin hi
      go_wp2
      refine bodyPost_ret (v := .bool true) (by simp [results, Try.f21, go_sem]) rfl ?_
      exact ⟨rfl, hb.out⟩
end Go.Proofs.Ytjnbemopfhinbaa
/- What a caller writes over: the circuits of hops, each in its block. Each theorem states its conditions. -/
namespace Go.Proofs.Ytjnbemopfhinbaa
open Go.RowKit
set_option linter.unusedVariables false
set_option linter.unusedSimpArgs false

theorem put1_size (cur : Array Value) (o : Nat) (v : Value) : (putMany cur o [v]).size = cur.size := by
  show (cur.setIfInBounds o v).size = cur.size
  rw [Array.size_setIfInBounds]
theorem put1_get (cur : Array Value) (o k : Nat) (v : Value) (hk : k < cur.size) : (putMany cur o [v])[k]? = if o = k then some v else cur[k]? := by
  show (cur.setIfInBounds o v)[k]? = _
  rw [Array.getElem?_setIfInBounds]
  by_cases h : o = k
  · subst h
    rw [if_pos rfl, if_pos hk, if_pos rfl]
  · rw [if_neg h, if_neg h]
theorem cell_blk {t : TypeId} {w : World} {g off : Nat} {cur : Array Value} {v : Value} (h : Blk t w g cur) (hv : cur[off]? = some v) : w.cell? ⟨g, off, none⟩ = some v := by
  have h9 : w.heap[g]? = some (.cells cur t (0, 0)) := h
  simp [World.cell?, h9, hv]
/-- a number in the place of a hop's circuit -/
theorem HopW.put {w w' : World} {B g j : Nat} {y : Rx} {cur : Array Value} {z : Int} (h : HopW w B y) (hb : Blk 74 w g cur) (q : Stored w w' g (putMany cur (j * 7) [.int .i64 z]) 74) : HopW w' B y := fun hn => by
  obtain ⟨g2, cur2, h1, h2, h3, h4, h5⟩ := h hn
  by_cases hg : g2 = g
  · subst hg
    have e : cur2 = cur := by
      have a1 : w.heap[g2]? = some (.cells cur2 74 (0, 0)) := h3
      have a2 : w.heap[g2]? = some (.cells cur 74 (0, 0)) := hb
      rw [a1] at a2
      injection a2 with a2
      injection a2
    subst e
    refine ⟨g2, _, h1, h2, q.1, by rw [put1_size]; exact h4, fun k hk => ?_⟩
    rw [put1_get _ _ _ _ (by omega)]
    split
    · exact ⟨z, rfl⟩
    · exact h5 k hk
  · exact ⟨g2, cur2, h1, h2, (q.2.2 g2 hg).trans h3, h4, h5⟩
theorem load_int (o : Oper) (e : Operand → Value) (x : Operand) (ho : o.op = .load 3 x) (b off : Nat) (hx : e x = .pointer (some ⟨b, off, none⟩)) (v : Value) (W : World) (hc : W.cell? ⟨b, off, none⟩ = some v) : (execOp e o).run Try.prog W = .ok (.value v) W := by
  unfold execOp
  simp only [ho, hx]
  simp [go_sem, hc]
theorem load_lh (o : Oper) (e : Operand → Value) (x : Operand) (ho : o.op = .load 68 x) (b off : Nat) (hx : e x = .pointer (some ⟨b, off, none⟩)) (v : Value) (W : World) (hc : W.cell? ⟨b, off, none⟩ = some v) : (execOp e o).run Try.prog W = .ok (.value v) W := by
  unfold execOp
  simp only [ho, hx]
  simp [go_sem, hc]
theorem load_u32 (o : Oper) (e : Operand → Value) (x : Operand) (ho : o.op = .load 67 x) (b off : Nat) (hx : e x = .pointer (some ⟨b, off, none⟩)) (v : Value) (W : World) (hc : W.cell? ⟨b, off, none⟩ = some v) : (execOp e o).run Try.prog W = .ok (.value v) W := by
  unfold execOp
  simp only [ho, hx]
  simp [go_sem, hc]
theorem xor1_run (o : Oper) (e : Operand → Value) {x : Operand} {k : Int} (ho : o.op = .binOp .xor 3 x (.const (.int .i64 k)) 3) (z : Int) (hx : e x = .int .i64 z) (hc : e (.const (.int .i64 k)) = .int .i64 k) (W : World) : (execOp e o).run Try.prog W = .ok (.value (.int .i64 (bits .xor .i64 z k))) W := by
  unfold execOp
  simp only [ho, hx, hc]
  simp [go_sem]
theorem hp_one (z : Int) : (#[Value.int .i64 z] : Array Value).all (·.oneCell') = true := by kernel_rfl
theorem info_in : (Try.prog.info? 3).map (·.size) = some 1 := by kernel_rfl
end Go.Proofs.Ytjnbemopfhinbaa
/- What the program's Diff and the document's come to is one thing. Each theorem states its conditions. -/
namespace Go.Proofs.Ytjnbemopfhinbaa
open Go.RowKit
set_option linter.unusedVariables false
set_option linter.unusedSimpArgs false

theorem Alike.symm {x y : Rt} (h : Alike x y) : Alike y x := ⟨h.1.symm, h.2.1.symm, h.2.2.1.symm, fun j hj => ⟨(h.2.2.2 j (by rw [h.2.2.1]; exact hj)).1.symm, fun i hi => ((h.2.2.2 j (by rw [h.2.2.1]; exact hj)).2 i hi).symm⟩⟩
theorem ErrX.uniq {n : Nat} {X : Nat → Rx} {e f : Int} (h : ErrX n X e) (k : ErrX n X f) : e = f := by
  rcases h with ⟨rfl, i, hi, hb⟩ | ⟨rfl, hf, i, j, hij, hj, he⟩ | ⟨rfl, hf, hd⟩
  · rcases k with ⟨rfl, _⟩ | ⟨rfl, hf2, _⟩ | ⟨rfl, hf2, _⟩
    · rfl
    · exact absurd (hf2 i hi) hb
    · exact absurd (hf2 i hi) hb
  · rcases k with ⟨rfl, i2, hi2, hb2⟩ | ⟨rfl, _⟩ | ⟨rfl, _, hd2⟩
    · exact absurd (hf i2 hi2) hb2
    · rfl
    · exact absurd he (hd2 i j hij hj)
  · rcases k with ⟨rfl, i2, hi2, hb2⟩ | ⟨rfl, _, i, j, hij, hj, he⟩ | ⟨rfl, _⟩
    · exact absurd (hf i2 hi2) hb2
    · exact absurd he (hd i j hij hj)
    · rfl
/-- two lists of the same routes, of which the same ones are taken -/
theorem filt_same {p q : Rx → Bool} : ∀ {L M : List Rx}, L.map (fun y => y.r) = M.map (fun y => y.r) → (∀ y z, y ∈ L → z ∈ M → y.r = z.r → p y = q z) → (L.filter p).map (fun y => y.r) = (M.filter q).map (fun y => y.r)
  | [], [], _, _ => rfl
  | [], _ :: _, h, _ => by cases h
  | _ :: _, [], h, _ => by cases h
  | y :: L, z :: M, h, hp => by
    rw [List.map_cons, List.map_cons] at h
    injection h with h1 h2
    have ih := filt_same h2 (fun a b ha hb => hp a b (List.mem_cons_of_mem _ ha) (List.mem_cons_of_mem _ hb))
    have e := hp y z (List.mem_cons_self ..) (List.mem_cons_self ..) h1
    cases hq : q z with
    | true => rw [List.filter_cons_of_pos (e.trans hq), List.filter_cons_of_pos hq, List.map_cons, List.map_cons, h1, ih]
    | false => rw [List.filter_cons_of_neg (by rw [e, hq]; decide), List.filter_cons_of_neg (by rw [hq]; decide), ih]
/-- the same routes, place by place -/
theorem map_at {L M : List Rx} (h : L.map (fun y => y.r) = M.map (fun y => y.r)) : L.length = M.length ∧ ∀ j, j < L.length → (L.getD j rx0).r = (M.getD j rx0).r := by
  have hl : L.length = M.length := by
    have := congrArg List.length h
    rw [List.length_map, List.length_map] at this
    exact this
  refine ⟨hl, fun j hj => ?_⟩
  have e : (L.map (fun y => y.r))[j]? = (M.map (fun y => y.r))[j]? := by rw [h]
  rw [List.getElem?_map, List.getElem?_map, List.getElem?_eq_getElem hj, List.getElem?_eq_getElem (by omega : j < M.length)] at e
  rw [List.getD_eq_getElem?_getD, List.getD_eq_getElem?_getD, List.getElem?_eq_getElem hj, List.getElem?_eq_getElem (by omega : j < M.length)]
  exact Option.some.inj e
/-- the table's list and the document's order are the same routes -/
theorem ord_same {w : World} {n t s c : Nat} {A : Option Addr} {S : List Rx} {T : Ts} {X : Nat → Rx} (h : TabAt w t s n A c S T) (p : PermX n X S) (a : AscX S) (hx : ErrX n X 0) (hc : ∀ i, Can (X i).r) (hb : ∀ i, RtB (X i).r) : S.map (fun y => y.r) = (ordL X n).map (fun y => y.r) := by
  have h1 := asc_strict h.len a (fun i hi => by obtain ⟨q, hq, e⟩ := p.to i hi; rw [e]; exact hx.form q hq) (fun i hi => by obtain ⟨q, hq, e⟩ := p.to i hi; rw [e]; exact (hb q).p) h.nodup
  have h2 : ((ordL X n).map (fun y => y.r)).Pairwise (fun a b => rKey a < rKey b) := by
    rw [List.pairwise_map]
    refine ordL_asc (fun a b hab hbn e => ?_)
    refine hx.nd a b hab hbn ?_
    have l : ∀ i, i < n → 0 ≤ (X i).r.p.len ∧ (X i).r.p.len ≤ 128 := fun i hi => by
      have := (hx.form i hi).1
      unfold Sized at this
      omega
    exact congrArg kyF (can_pf (hc a) (hc b) ((keyP_eq (hb a).p (hb b).p (l a (by omega)) (l b hbn)).1 e))
  have h3 : ∀ r, (∃ y, y ∈ S ∧ y.r = r) ↔ ∃ y, y ∈ ordL X n ∧ y.r = r := fun r => by
    constructor
    · rintro ⟨y, hy, e⟩
      obtain ⟨i, hi, ei⟩ := mem_at hy
      rw [h.len] at hi
      obtain ⟨q, hq, eq⟩ := p.to i hi
      exact ⟨X q, ordL_mem.2 ⟨q, hq, rfl⟩, by rw [← eq, ei, e]⟩
    · rintro ⟨y, hy, e⟩
      obtain ⟨q, hq, eq⟩ := ordL_mem.1 hy
      obtain ⟨i, hi, ei⟩ := p.of q hq
      exact ⟨_, S_mem h.len hi, by rw [ei, eq, e]⟩
  obtain ⟨hl, he⟩ := tab_uniq h1 h2 h3
  refine List.ext_getElem (by rw [List.length_map, List.length_map, hl]) (fun j h4 h5 => ?_)
  rw [List.length_map] at h4 h5
  rw [List.getElem_map, List.getElem_map]
  have := he j h4
  rw [List.getD_eq_getElem?_getD, List.getD_eq_getElem?_getD, List.getElem?_eq_getElem h4, List.getElem?_eq_getElem h5] at this
  exact this
theorem dec_iff {P Q : Prop} {p : Decidable P} {q : Decidable Q} (h : P ↔ Q) : @decide P p = @decide Q q := by
  by_cases hP : P
  · rw [@decide_eq_true _ p hP, @decide_eq_true _ q (h.1 hP)]
  · rw [@decide_eq_false _ p hP, @decide_eq_false _ q (fun h9 => hP (h.2 h9))]
theorem gone_same {w w' : World} {n m t s t2 s2 c c2 : Nat} {A A2 : Option Addr} {S S2 : List Rx} {T T2 : Ts} {X Y : Nat → Rx} (h1 : TabAt w t s n A c S T) (h2 : TabAt w' t2 s2 m A2 c2 S2 T2) (p1 : PermX n X S) (p2 : PermX m Y S2) (a1 : AscX S) (hx : ErrX n X 0) (cX : ∀ i, Can (X i).r) (cY : ∀ i, Can (Y i).r) (bX : ∀ i, RtB (X i).r) (bY : ∀ i, RtB (Y i).r) :
    (goneL T2 S).map (fun y => y.r) = (nopL m Y (ordL X n)).map (fun y => y.r) := by
  refine filt_same (ord_same h1 p1 a1 hx cX bX) (fun y z hy hz e => dec_iff ?_)
  obtain ⟨q, hq, eq⟩ := ordL_mem.1 hz
  have hyr : y.r = (X q).r := by rw [e, eq]
  constructor
  · intro hg i hi hs
    have e2 := can_pf (cY i) (by rw [← eq]; exact cX q) hs
    obtain ⟨k, k1, k2⟩ := (tab_keys h2 p2).1 i hi
    exact k2 (hg k (by rw [e, ← e2]; exact k1))
  · intro hn k hk
    cases hv : T2.G k with
    | none => rfl
    | some v =>
      obtain ⟨i, q2, _, hq2, _, k2⟩ := (tab_keys h2 p2).2 k v hv
      exact absurd (key_same (bY q2).p (by rw [← e, hyr]; exact (bX q).p) k2 (by rw [← e]; exact hk)) (hn q2 hq2)
theorem new_same {w w' : World} {n m t s t2 s2 c c2 : Nat} {A A2 : Option Addr} {S S2 : List Rx} {T T2 : Ts} {X Y : Nat → Rx} (h1 : TabAt w t s n A c S T) (h2 : TabAt w' t2 s2 m A2 c2 S2 T2) (p1 : PermX n X S) (p2 : PermX m Y S2) (a2 : AscX S2) (hx : ErrX n X 0) (hy0 : ErrX m Y 0) (cX : ∀ i, Can (X i).r) (cY : ∀ i, Can (Y i).r) (bX : ∀ i, RtB (X i).r) (bY : ∀ i, RtB (Y i).r) :
    (newL S T S2).map (fun y => y.r) = (othL n X (ordL Y m)).map (fun y => y.r) := by
  refine filt_same (ord_same h2 p2 a2 hy0 cY bY) (fun y z hy hz e => dec_iff ?_)
  obtain ⟨q, hq, eq⟩ := ordL_mem.1 hz
  have hyr : y.r = (Y q).r := by rw [e, eq]
  constructor
  · intro hn i hi hs hal
    have e2 := can_pf (cX i) (by rw [← eq]; exact cY q) hs
    obtain ⟨k, k1, k2⟩ := (tab_keys h1 p1).1 i hi
    cases hv : T.G k with
    | none => exact k2 hv
    | some v =>
      obtain ⟨i', q', rfl, hq', e', ky'⟩ := (tab_keys h1 p1).2 k v hv
      have hqi : q' = i := by
        rcases Nat.lt_trichotomy q' i with h | h | h
        · exact absurd (ky'.trans k1.symm) (hx.nd q' i h hi)
        · exact h
        · exact absurd (k1.trans ky'.symm) (hx.nd i q' h hq')
      subst hqi
      refine hn k i' (by rw [e, ← e2]; exact k1) hv ?_
      rw [e', e]; exact hal.symm
  · intro ho k i hk hg hal
    obtain ⟨i', q', hv, hq', e', ky'⟩ := (tab_keys h1 p1).2 k _ hg
    have hii : i = i' := Int.ofNat.inj hv
    subst hii
    refine ho q' hq' (key_same (bX q').p (by rw [← e, hyr]; exact (bY q).p) ky' (by rw [← e]; exact hk)) ?_
    rw [← e, ← e']
    exact hal.symm
/-- both Diffs, told as one -/
structure DifO (w4 w5 w6 : World) (n m : Nat) (e5 e6 : Ending) (q : Int) (Ag Ag' Ae Ae' : Option Addr) (cg cg' ce ce' : Nat) (G G' : List Pf) (E E' : List Rx) : Prop where
  e5 : e5 = .returned (.tuple #[.slice Ag G.length cg, .slice Ae E.length ce, .int .i64 q])
  e6 : e6 = .returned (.tuple #[.slice Ag' G.length cg', .slice Ae' E.length ce', .int .i64 q])
  lg : G.length ≤ n
  le : E.length ≤ m
  rg : RdR w5 Ag G.length 18 (fun j => pfC (G.getD j pf0))
  rg2 : RdR w6 Ag' G.length 18 (fun j => pfC (G'.getD j pf0))
  sg : ∀ j, j < G.length → pfC (G.getD j pf0) = pfC (G'.getD j pf0)
  bg : ∀ j, Bytes (G.getD j pf0).z
  oe : OwnR w5 w4.heap.size 70 21 (.slice Ae E.length ce) E.length (rxB E)
  re2 : RdR w6 Ae' E.length 21 (fun j => rxC (E'.getD j rx0))
  se : ∀ j, j < E.length → (E.getD j rx0).r = (E'.getD j rx0).r
  be : ∀ j, j < E.length → RtB (E.getD j rx0).r
  he : ∀ j, j < E.length → HopAt w5 (E.getD j rx0)
  he2 : ∀ j, j < E.length → HopAt w6 (E'.getD j rx0)
  we : ∀ y, y ∈ E → HopW w5 w4.heap.size y
theorem getD_b {L : List Pf} (h : ∀ p, p ∈ L → Bytes p.z) : ∀ j, Bytes (L.getD j pf0).z := fun j => by
  by_cases h9 : j < L.length
  · rw [List.getD_eq_getElem?_getD, List.getElem?_eq_getElem h9]; exact h _ (List.getElem_mem h9)
  · rw [List.getD_eq_getElem?_getD, List.getElem?_eq_none (by omega)]
    exact fun j => show (0 : Int) ≤ 0 ∧ (0 : Int) ≤ 255 from by omega
theorem pfL_at {L : List Rx} {j : Nat} (h : j < L.length) : (pfL L).getD j pf0 = (L.getD j rx0).r.p := by
  unfold pfL
  rw [List.getD_eq_getElem?_getD, List.getD_eq_getElem?_getD, List.getElem?_map, List.getElem?_eq_getElem h]
  rfl
theorem difs_out {w4 w5 w6 : World} {n m : Nat} {X Y : Nat → Rx} {e5 e6 : Ending} (h1 : DiffQ w4 n m X Y e5 w5) (h2 : DDiffQ w5 n m X Y e6 w6) (cX : ∀ i, Can (X i).r) (cY : ∀ i, Can (Y i).r) (bX : ∀ i, RtB (X i).r) (bY : ∀ i, RtB (Y i).r) (hY : ∀ j, j < m → HopAt w6 (Y j)) :
    ∃ q Ag Ag' Ae Ae' cg cg' ce ce' G G' E E', DifO w4 w5 w6 n m e5 e6 q Ag Ag' Ae Ae' cg cg' ce ce' G G' E E' := by
  obtain ⟨b1, h1⟩ := h1
  obtain ⟨b2, h2⟩ := h2
  rcases h1 with ⟨e1, e2, x1, x2, hne, rfl⟩ | ⟨S, S2, T, T2, v1, v2, t, s, t2, s2, c, c2, A, A2, x1, x2, rfl, ht, ht2, hp, ha, hp2, ha2, ho1, ho2, hw⟩
  · rcases h2 with ⟨f1, f2, y1, y2, _, rfl⟩ | ⟨y1, y2, _⟩
    · obtain rfl := x1.uniq y1
      obtain rfl := x2.uniq y2
      exact ⟨lstI e1 e2, none, none, none, none, 0, 0, 0, 0, [], [], [], [], rfl, rfl, Nat.zero_le _, Nat.zero_le _, .inl rfl, .inl rfl, (fun j hj => absurd hj (Nat.not_lt_zero _)), getD_b (fun p hp => by cases hp), OwnR.nil _ _ _ _ _, .inl rfl, (fun j hj => absurd hj (Nat.not_lt_zero _)), (fun j hj => absurd hj (Nat.not_lt_zero _)), (fun j hj => absurd hj (Nat.not_lt_zero _)), (fun j hj => absurd hj (Nat.not_lt_zero _)), (fun y hy => by cases hy)⟩
    · exact absurd ⟨x1.uniq y1, x2.uniq y2⟩ hne
  · rcases h2 with ⟨f1, f2, y1, y2, hne, _⟩ | ⟨y1, y2, u1, u2, rfl, k1, k2⟩
    · exact absurd ⟨y1.uniq x1, y2.uniq x2⟩ hne
    · have sg := gone_same ht ht2 hp hp2 ha x1 cX cY bX bY
      have se := new_same ht ht2 hp hp2 ha2 x1 x2 cX cY bX bY
      have mS2 : ∀ y, y ∈ S2 → ∃ q, q < m ∧ y.r = (Y q).r := fun y hy => by
        obtain ⟨i, hi, ei⟩ := mem_at hy
        rw [ht2.len] at hi
        obtain ⟨q, hq, e⟩ := hp2.to i hi
        exact ⟨q, hq, by rw [← ei, e]⟩
      have mE : ∀ j, j < (newL S T S2).length → (newL S T S2).getD j rx0 ∈ S2 := fun j hj => (mem_new.1 (S_mem rfl hj)).1
      obtain ⟨l1, g1⟩ := map_at sg
      obtain ⟨l2, g2⟩ := map_at se
      have lg : (goneL T2 S).length ≤ n := by
        have := goneL_len T2 S S.length
        rw [List.take_of_length_le (Nat.le_refl _), ht.len] at this
        exact this
      have le : (newL S T S2).length ≤ m := by
        have := newL_len S T S2 S2.length
        rw [List.take_of_length_le (Nat.le_refl _), ht2.len] at this
        exact this
      obtain ⟨Ag, cg, rfl, _, _, _, rg⟩ := ho1.shape (pfB_recs _) (by decide)
      obtain ⟨Ae, ce, rfl, _, _, _, re⟩ := ho2.shape (rxB_recs _) (by decide)
      obtain ⟨Ag', cg', rfl, _, _, _, rg2⟩ := k1.shape (pfB_recs _) (by decide)
      obtain ⟨Ae', ce', rfl, _, _, _, re2⟩ := k2.shape (rxB_recs _) (by decide)
      refine ⟨0, Ag, Ag', Ae, Ae', cg, cg', ce, ce', pfL (goneL T2 S), pfL (nopL m Y (ordL X n)), newL S T S2, othL n X (ordL Y m), rfl, ?_, ?_, le, rg, ?_, ?_, ?_, ho2, ?_, g2, ?_, ?_, ?_, ?_⟩
      · rw [pfL_len, pfL_len, l1, l2]
      · rw [pfL_len]; exact lg
      · rw [pfL_len, l1]; rw [pfL_len] at rg2; exact rg2
      · intro j hj
        rw [pfL_len] at hj
        rw [pfL_at hj, pfL_at (by rw [← l1]; exact hj), g1 j hj]
      · refine getD_b (fun p hp9 => ?_)
        obtain ⟨y, hy, rfl⟩ := List.mem_map.1 hp9
        obtain ⟨i, hi, ei⟩ := mem_at (mem_gone.1 hy).1
        rw [ht.len] at hi
        obtain ⟨q, hq, e⟩ := hp.to i hi
        rw [← ei, e]; exact (bX q).p
      · rw [l2]; exact re2
      · intro j hj
        obtain ⟨q, hq, e⟩ := mS2 _ (mE j hj)
        rw [e]; exact bY q
      · exact fun j hj => ht2.hop _ (mE j hj)
      · intro j hj
        have hm : (othL n X (ordL Y m)).getD j rx0 ∈ ordL Y m := (List.mem_filter.1 (S_mem (S := othL n X (ordL Y m)) rfl (by rw [← l2]; exact hj))).1
        obtain ⟨q, hq, e⟩ := ordL_mem.1 hm
        rw [← e]; exact hY q hq
      · exact fun y hy => hw y (mem_new.1 hy).1
end Go.Proofs.Ytjnbemopfhinbaa
/- What the laws of tables ask: answers told by their shape. Each theorem states its conditions. -/
namespace Go.Proofs.Ytjnbemopfhinbaa
open Go.RowKit
set_option linter.unusedVariables false
set_option linter.unusedSimpArgs false

theorem diffQ_e {w w' : World} {n m : Nat} {X Y : Nat → Rx} {e : Ending} (h : DiffQ w n m X Y e w') : ∃ v1 v2 q, e = .returned (.tuple #[v1, v2, .int .i64 q]) := by
  rcases h.2 with ⟨e1, e2, _, _, _, rfl⟩ | ⟨S, S2, T, T2, v1, v2, t, s, t2, s2, c, c2, A, A2, _, _, rfl, _⟩
  · exact ⟨_, _, _, rfl⟩
  · exact ⟨_, _, _, rfl⟩
theorem ddiffQ_e {w w' : World} {n m : Nat} {X Y : Nat → Rx} {e : Ending} (h : DDiffQ w n m X Y e w') : ∃ v1 v2 q, e = .returned (.tuple #[v1, v2, .int .i64 q]) := by
  rcases h.2 with ⟨e1, e2, _, _, _, rfl⟩ | ⟨_, _, v1, v2, rfl, _⟩
  · exact ⟨_, _, _, rfl⟩
  · exact ⟨_, _, _, rfl⟩
theorem ownR_rdr {w : World} {B m c : Nat} {A : Option Addr} {E : List Rx} (h : OwnR w B 70 21 (.slice A m c) m (rxB E)) : RdR w A m 21 (fun j => rxC (E.getD j rx0)) := by
  obtain ⟨A', c', e, _, _, _, hr⟩ := h.shape (rxB_recs _) (by decide)
  cases e
  exact hr
theorem ownR_rd {w w' : World} {B m c : Nat} {A : Option Addr} {E : List Rx} (h : OwnR w B 70 21 (.slice A m c) m (rxB E)) (hb : Below w.heap.size w w') : RdR w' A m 21 (fun j => rxC (E.getD j rx0)) := (ownR_rdr h).below hb rfl
theorem diff_cpy {w : World} {B1 B2 n m : Nat} {X Y : Nat → Rx} {v1 v2 : Value} {S1 S2 : List Rx} (h1 : Cpy w B1 n X v1 S1) (h2 : Cpy w B2 m Y v2 S2) (hx : ∀ j, j < n → RtB (X j).r) (hy : ∀ j, j < m → RtB (Y j).r) (hn : n ≤ 1000) (hm : m ≤ 1000) : Calls Try.prog 39 #[v1, v2] w (DiffQ w n m X Y) := by
  obtain ⟨A, c, rfl, _, _, _, hr⟩ := h1.own.shape (rxB_recs _) (by decide)
  obtain ⟨A2, c2, rfl, _, _, _, hr2⟩ := h2.own.shape (rxB_recs _) (by decide)
  refine (diff_any (fun j => S1.getD j rx0) (fun j => S2.getD j rx0) A A2 n m c c2 w hr (fun j hj => (h1.hop _ (S_mem h1.len hj)).at) (fun j hj => by rw [h1.same j hj]; exact hx j hj) hn hr2 (fun j hj => (h2.hop _ (S_mem h2.len hj)).at) (fun j hj => by rw [h2.same j hj]; exact hy j hj) hm).mono ?_
  rintro e w' ⟨b, h⟩
  have er : ∀ (k : Nat) (X Y : Nat → Rx) (er : Int), (∀ j, j < k → (X j).r = (Y j).r) → ErrX k X er → ErrX k Y er := fun k X Y er hs h => by
    rcases h with ⟨a, i, hi, b⟩ | ⟨a, b, i, j, hij, hj, d⟩ | ⟨a, b, d⟩
    · exact .inl ⟨a, i, hi, by rw [← hs i hi]; exact b⟩
    · exact .inr (.inl ⟨a, fun i hi => by rw [← hs i hi]; exact b i hi, i, j, hij, hj, by rw [← hs i (by omega), ← hs j hj]; exact d⟩)
    · exact .inr (.inr ⟨a, fun i hi => by rw [← hs i hi]; exact b i hi, fun i j hij hj => by rw [← hs i (by omega), ← hs j hj]; exact d i j hij hj⟩)
  refine ⟨b, ?_⟩
  rcases h with ⟨e1, e2, he1, he2, hne, e9⟩ | ⟨S, S2', T, T2, v1, v2, t, s, t2, s2, c, c2, A, A2, he1, he2, e9, ht, ht2, hp, ha, hp2, ha2, ho1, ho2, hhi⟩
  · exact .inl ⟨e1, e2, er n _ X e1 h1.same he1, er m _ Y e2 h2.same he2, hne, e9⟩
  · exact .inr ⟨S, S2', T, T2, v1, v2, t, s, t2, s2, c, c2, A, A2, er n _ X 0 h1.same he1, er m _ Y 0 h2.same he2, e9, ht, ht2, hp.congr h1.same, ha, hp2.congr h2.same, ha2, ho1, ho2, hhi⟩
end Go.Proofs.Ytjnbemopfhinbaa
