/- Texts of this claim put together; each theorem states its conditions. -/
import Derived.Test.YtccoicjmmeoggaaDoorGMacSealsCard2
import Derived.Test.YtccoicjmmeoggaaDoorGMacSealsCard6
import Derived.LoopN
import Derived.Deep.DeepCutAuto
import Derived.Test.YtccoicjmmeoggaaDoorGMacSealsCard4
import Derived.Test.YtccoicjmmeoggaaDoorGMacSealsCard3
import Derived.Test.YtccoicjmmeoggaaDoorGMacSealsCard1
import Derived.Laws.MakeOwn
/- mac.isSignature, the search for a signature among TLVs, checkSecret, least. Each theorem states its conditions. -/
namespace Go.Proofs.YtccoicjmmeoggaaDoor
open Go.RowKit
set_option linter.unusedVariables false

/-- the cells of one of a list -/
def itC (t : It) : Array Value := #[.int .u8 t.ty, .slice t.A t.n t.c]
theorem itC_one (t : It) : (itC t).all (·.oneCell') = true := by kernel_rfl
theorem info_it : (Tryd.prog.info? 49).map (·.size) = some 2 := by kernel_rfl
theorem rowT_rng {w : World} {b off m : Nat} {L : Nat → It} (h : RowT w b off m L) (j : Nat) (hj : j < m) : w.rangeAt b (off + j * 2) (itC (L j)).toList := by
  obtain ⟨c0, c1, _⟩ := h.2 j hj
  intro i u hu
  match i, hu with
  | 0, hu => injection hu with hu; rw [← hu]; exact c0
  | 1, hu => injection hu with hu; rw [← hu]; exact c1
  | i + 2, hu => cases hu
set_option maxHeartbeats 4000000 in
set_option maxRecDepth 100000 in
theorem isSig_any (t : It) (w : World) :
    Calls Tryd.prog 40 #[.agg (itC t)] w fun e w' => e = .returned (.bool (t.ty == 10)) ∧ Below w.heap.size w w' := by
  go_enter Tryd.func40, Tryd.ntmps40
  have HB := Lib.hid (Below.refl w.heap.size w)
  obtain ⟨N1, hN1⟩ : ∃ N, w.heap.size = N := ⟨_, rfl⟩
  have HN1 := Lib.hid hN1
  clear hN1
  go_wp2_with (refine wpList_box (op := ⟨some 1, _, _, _, _, _⟩) rfl 49 (.tmp 0) rfl (itC t) rfl N1 HN1.out ?_; intro w1 k1 b1 s1; refine Hid.out ?_)
  refine Lib.hid ?_
  have K1 := Lib.hid k1
  clear k1
  have HBn := Lib.hid (HB.out.trans (b1.mono HB.out.size))
  clear HB
  have HB := HBn
  clear HBn
  clear b1 HN1
  have c1 : w1.cell? ⟨N1, 0, none⟩ = some (.int .u8 t.ty) := (K1.out.cell 0).trans rfl
  go_wp2_with fail
  go_ret
  exact ⟨by simp, HB.out⟩
/-- there is one among the first n; none is -/
def NoSig (L : Nat → It) (n : Nat) : Prop := ∀ j, j < n → (L j).ty ≠ 10
def AtSig (L : Nat → It) (n k : Nat) : Prop := k < n ∧ (L k).ty = 10 ∧ NoSig L k
theorem noSig_next {L : Nat → It} {k : Nat} (h : NoSig L k) (hq : ((L k).ty == 10) = false) : NoSig L (k + 1) := by
  intro j hj
  by_cases e : j = k
  · subst e; simpa using hq
  · exact h j (by omega)
def IdxS (L : Nat → It) (n : Nat) (w : World) (e : Ending) (w' : World) : Prop := ∃ r : Int, e = .returned (.int .i64 r) ∧ ((∃ k : Nat, r = (k : Int) ∧ AtSig L n k) ∨ (r = -1 ∧ NoSig L n)) ∧ Below w.heap.size w w'
def ConS (L : Nat → It) (n : Nat) (w : World) (e : Ending) (w' : World) : Prop := ∃ q : Bool, e = .returned (.bool q) ∧ ((q = true ∧ ∃ k, AtSig L n k) ∨ (q = false ∧ NoSig L n)) ∧ Below w.heap.size w w'
set_option maxHeartbeats 4000000 in
set_option maxRecDepth 100000 in
theorem idxS_any (A : Option Addr) (n c : Nat) (L : Nat → It) (w : World) (hR : RdT w A n L) (hn : n ≤ 140737488351232) :
    Calls Tryd.prog 65 #[.slice A n c, .func (.func 40) #[] #[]] w (IdxS L n w) := by
  rcases Nat.eq_zero_or_pos n with rfl | hpos
  · clear hR
    go_enter Tryd.func65, Tryd.ntmps65
    go_wp2
    refine wp_loop_rounds 1 ?_
    rw [rounds_succ]
    go_wp2
    go_ret
    exact ⟨-1, rfl, .inr ⟨rfl, fun j hj => by omega⟩, Below.refl _ _⟩
  · obtain ⟨b, off, rfl, hr⟩ := hR.row hpos
    have HR := Lib.hid hr
    clear hR hr
    go_enter Tryd.func65, Tryd.ntmps65
    have HB := Lib.hid (Below.refl w.heap.size w)
    go_wp2_with fail
    go_loopw [8] (fun t wr => ∃ k : Nat, k ≤ n ∧ t = .int .i64 k ∧ Hid (NoSig L k) ∧ Hid (Below w.heap.size w wr)) (fun t _ => n - (intOf t).toNat)
    case atStart => exact ⟨0, by omega, rfl, Lib.hid (fun j hj => absurd hj (Nat.not_lt_zero _)), HB⟩
    case round =>
      obtain ⟨k, hk, rfl, HA, HW⟩ := hrel
      by_cases hlt : k < n
      · have hki : (k : Int) < (n : Int) := by omega
        have h1 : Hid (wr.rangeAt b (off + k * 2) (itC (L k)).toList) := Lib.hid (rangeAt_below (rowT_rng HR.out k hlt) HW.out HR.out.1)
        go_wp2_with (refine wpList_ld (op := ⟨some 15, _, _, _, _, _⟩) (by rfl) 49 (.tmp 14) rfl b (off + k * 2) rfl (itC (L k)) _ h1.out Tryd.underlying49 rfl info_it ?_; refine Hid.out ?_)
        refine Lib.hid ?_
        clear h1
        go_wp2_with fail
        refine (isSig_any (L k) wr).mono ?_
        rintro e w2 ⟨rfl, b1⟩
        have HW2 := Lib.hid (HW.out.trans (b1.mono HW.out.size))
        clear b1
        cases hq : (L k).ty == 10 with
        | true =>
          go_wp2_with fail
          go_ret
          exact ⟨k, rfl, .inl ⟨k, rfl, hlt, by simpa using hq, HA.out⟩, HW2.out⟩
        | false =>
          go_wp2_with fail
          go_roundw
          case rel => exact ⟨k + 1, by omega, by go_num, Lib.hid (noSig_next HA.out hq), HW2⟩
          case measure => simp only [intOf]; omega
      · obtain rfl : k = n := by omega
        go_wp2_with fail
        go_ret
        exact ⟨-1, rfl, .inr ⟨rfl, HA.out⟩, HW.out⟩
set_option maxHeartbeats 4000000 in
set_option maxRecDepth 100000 in
theorem conS_any (A : Option Addr) (n c : Nat) (L : Nat → It) (w : World) (hR : RdT w A n L) (hn : n ≤ 140737488351232) :
    Calls Tryd.prog 39 #[.slice A n c, .func (.func 40) #[] #[]] w (ConS L n w) := by
  go_enter Tryd.func39, Tryd.ntmps39
  go_wp2_with fail
  refine (idxS_any A n c L w hR hn).mono ?_
  rintro e w2 ⟨r, rfl, hr, hb⟩
  have HR := Lib.hid hr
  have HB := Lib.hid hb
  clear hR hr hb
  go_wp2_with fail
  go_ret
  refine ⟨decide (0 ≤ r), by simp, ?_, HB.out⟩
  rcases HR.out with ⟨k, rfl, h1⟩ | ⟨rfl, h1⟩
  · exact .inl ⟨decide_eq_true (by omega), k, h1⟩
  · exact .inr ⟨rfl, h1⟩
/-- what keeps a secret of n bytes from signing -/
def secE (n : Nat) : Int := if 64 < n then 2 else if n = 0 then 3 else 0
theorem secE_bd (n : Nat) : 0 ≤ secE n ∧ secE n ≤ 3 := by unfold secE; (repeat' split) <;> omega
set_option maxHeartbeats 4000000 in
set_option maxRecDepth 100000 in
theorem secret_any (A : Option Addr) (n c : Nat) (w : World) :
    Calls Tryd.prog 38 #[.slice A n c] w fun e w' => e = .returned (.int .i64 (secE n)) ∧ w' = w := by
  by_cases h1 : 64 < n
  · have h1' : (64 : Int) < (n : Int) := by omega
    have hE : Hid (secE n = 2) := Lib.hid (by unfold secE; rw [if_pos h1])
    clear h1
    go_enter Tryd.func38, Tryd.ntmps38
    go_wp2_with fail
    go_ret
    exact ⟨by rw [hE.out]; rfl, rfl⟩
  · have h1' : ¬ (64 : Int) < (n : Int) := by omega
    rcases Nat.eq_zero_or_pos n with rfl | h2
    · go_enter Tryd.func38, Tryd.ntmps38
      go_wp2_with fail
      go_ret
      exact ⟨rfl, rfl⟩
    · have hE : Hid (secE n = 0) := Lib.hid (by unfold secE; rw [if_neg h1, if_neg (by omega)])
      have h2' : ((n : Int) == 0) = false := by simp; omega
      clear h1 h2
      go_enter Tryd.func38, Tryd.ntmps38
      go_wp2_with fail
      go_ret
      exact ⟨by rw [hE.out]; rfl, rfl⟩
/-- the lesser of two errors, if there are two -/
def lea (a b : Int) : Int := if a = 0 then b else if b = 0 then a else if a ≤ b then a else b
theorem lea_bd {a b : Int} (ha : 0 ≤ a ∧ a ≤ 20) (hb : 0 ≤ b ∧ b ≤ 20) : 0 ≤ lea a b ∧ lea a b ≤ 20 := by unfold lea; (repeat' split) <;> omega
set_option maxHeartbeats 4000000 in
set_option maxRecDepth 100000 in
theorem least_any (a b : Int) (w : World) (ha : 0 ≤ a ∧ a ≤ 20) (hb : 0 ≤ b ∧ b ≤ 20) :
    Calls Tryd.prog 37 #[.int .i64 a, .int .i64 b] w fun e w' => e = .returned (.int .i64 (lea a b)) ∧ w' = w := by
  obtain ⟨m, rfl⟩ : ∃ m : Nat, a = (m : Int) := ⟨a.toNat, by omega⟩
  obtain ⟨n, rfl⟩ : ∃ n : Nat, b = (n : Int) := ⟨b.toNat, by omega⟩
  by_cases h1 : m = 0
  · subst h1
    have hE : Hid (lea ((0 : Nat) : Int) (n : Int) = (n : Int)) := Lib.hid (by unfold lea; exact if_pos (by omega))
    clear ha hb
    go_enter Tryd.func37, Tryd.ntmps37
    go_wp2_with fail
    all_goals (go_ret; refine ⟨?_, rfl⟩; have h9 := (show lea 0 (n : Int) = (n : Int) from hE.out); refine congrArg (fun q => Ending.returned (.int .i64 q)) ?_; first | omega | (split at h9 <;> first | omega | (simp; omega) | (split <;> omega)) | (simp; omega))
  · have h1' : ((m : Int) == 0) = false := by simp; omega
    by_cases h2 : n = 0
    · subst h2
      have hE : Hid (lea (m : Int) ((0 : Nat) : Int) = (m : Int)) := Lib.hid (by unfold lea; rw [if_neg (by omega)]; exact if_pos (by omega))
      clear ha hb h1
      go_enter Tryd.func37, Tryd.ntmps37
      go_wp2_with fail
      all_goals (go_ret; refine ⟨?_, rfl⟩; have h9 := hE.out; refine congrArg (fun q => Ending.returned (.int .i64 q)) ?_; first | omega | (split at h9 <;> first | omega | (simp; omega) | (split <;> omega)) | (simp; omega))
    · have h2' : ((n : Int) == 0) = false := by simp; omega
      have hE : Hid (lea (m : Int) (n : Int) = if (m : Int) ≤ n then (m : Int) else n) := Lib.hid (by unfold lea; rw [if_neg (by omega), if_neg (by omega)])
      clear ha hb h1 h2
      go_enter Tryd.func37, Tryd.ntmps37
      go_wp2_with fail
      all_goals (go_ret; refine ⟨?_, rfl⟩; have h9 := hE.out; refine congrArg (fun q => Ending.returned (.int .i64 q)) ?_; first | omega | (split at h9 <;> first | omega | (simp; omega) | (split <;> omega)) | (simp; omega))
end Go.Proofs.YtccoicjmmeoggaaDoor

/- One list of TLVs behind another. Each theorem states its conditions. -/
namespace Go.Proofs.YtccoicjmmeoggaaDoor
open Go.RowKit
set_option linter.unusedVariables false

/-- append of a slice that may be nil -/
theorem wpList_append_any {P : Program} {w : World} {ops : Array Oper} {rest : List Oper} {o : Oper} {a : Act} {Q : Exit → Act → World → Prop} (hgd : o.guard = none) (s x : Operand) (t : TypeId)
    (ho : o.op = .call { callee := .builtin .append, args := #[s, x], argTypes := #[t, t] })
    (base : Nat) (e : TypeId) (i : TypeInfo) (z : Value) (size bytes : Nat) (ht : P.underlying t = some (.slice e)) (hi : P.info? e = some i) (hz : i.zero = some z)
    (hsize : i.size = size) (hby : i.bytes = bytes) (hzs : z.cells.size = size) (hsz : 0 < size)
    (v : Value) (n : Nat) (xs : List Value) (hs : a.eval s = v) (hown : w.ownsRow base e size v n xs)
    (ao : Option Addr) (m c : Nat) (news : List Value) (hx : a.eval x = .slice ao m c) (hl : news.length = m * size) (hnone : ao = none → m = 0 ∧ c = 0) (hnews : ∀ ad, ao = some ad → ∀ j u, news[j]? = some u → w.cell? (ad.add j) = some u) (h1 : ∀ u ∈ news, u.oneCell' = true)
    (h63 : n + m ≤ maxLen) (hbytes : (n + m) * bytes ≤ 140737488355328) (hbase : base ≤ w.heap.size)
    (h : ∀ v' w', w'.ownsRow base e size v' (n + m) (xs ++ news) → w.grownBy w' v.ownBlock → wpList P ops Q rest (a.put o.dst v') w') :
    wpList P ops Q (o :: rest) a w := by
  rcases ao with _ | ad
  · obtain ⟨rfl, rfl⟩ := hnone rfl
    have hn : news = [] := List.eq_nil_of_length_eq_zero (by simpa using hl)
    subst hn
    exact wpList_append_own_none hgd s x t ho base e i size ht hi v n xs hs hown hx (h v w (by simpa using hown) (World.grownBy.refl _ _))
  · exact wpList_append_own_at _ hgd s x t ho base e i z size bytes ht hi hz hsize hby hzs hsz v n xs hs hown ad m c news hx hl (hnews ad rfl) h1 h63 hbytes hbase (fun v' w' a b _ _ => h v' w' a b)
/-- m items, and others behind them -/
def catT (L : Nat → It) (m : Nat) (M : Nat → It) : Nat → It := fun j => if j < m then L j else M (j - m)
theorem catT_lo (L : Nat → It) (m j : Nat) (M : Nat → It) (h : j < m) : catT L m M j = L j := by simp [catT, h]
theorem catT_hi (L : Nat → It) (m j : Nat) (M : Nat → It) : catT L m M (m + j) = M j := by
  unfold catT; rw [if_neg (by omega)]; congr 1; omega
theorem cellsT_cat (L M : Nat → It) (m k : Nat) : cellsT L m ++ cellsT M k = cellsT (catT L m M) (m + k) := by
  induction k with
  | zero =>
    simp only [cellsT, List.append_nil, Nat.add_zero]
    exact cellsT_congr _ _ _ (fun j hj => by rw [catT_lo _ _ _ _ hj]; exact ⟨rfl, rfl, rfl, rfl⟩)
  | succ k ih =>
    rw [← Nat.add_assoc]
    simp only [cellsT, ← List.append_assoc, ih, catT_hi]
/-- the cells of a list that can be read -/
theorem rdT_news {w : World} {A : Option Addr} {m : Nat} {L : Nat → It} (h : RdT w A m L) : ∀ ad, A = some ad → ∀ j u, (cellsT L m)[j]? = some u → w.cell? (ad.add j) = some u := by
  intro ad hA j u hu
  have hl := cellsT_len L m
  have hj : j < m * 2 := by
    rcases Nat.lt_or_ge j (m * 2) with h | h
    · exact h
    · rw [List.getElem?_eq_none (by omega)] at hu; cases hu
  obtain ⟨b, off, e, hr⟩ := h.row (by omega)
  rw [hA] at e
  injection e with e
  subst e
  have hadd : (⟨b, off, none⟩ : Addr).add j = ⟨b, off + j, none⟩ := by unfold Addr.add; split <;> simp_all
  rw [hadd]
  obtain ⟨g0, g1, _⟩ := hr.2 (j / 2) (by omega)
  obtain ⟨x0, x1⟩ := cellsT_at L m (j / 2) (by omega)
  rcases (by omega : j = j / 2 * 2 ∨ j = j / 2 * 2 + 1) with e | e
  · rw [← e] at g0 x0
    rw [hu] at x0
    rw [g0, x0]
  · rw [← e] at x1
    rw [show off + j = off + j / 2 * 2 + 1 by omega, g1]
    rw [hu] at x1
    rw [x1]
theorem ownsRow_le' {w : World} {base base' size n : Nat} {e : TypeId} {v : Value} {xs : List Value} (h : w.ownsRow base e size v n xs) (hb : base' ≤ base) : w.ownsRow base' e size v n xs :=
  ⟨h.1, h.2.elim Or.inl (fun ⟨g, cap, cur, hv, hg, r⟩ => Or.inr ⟨g, cap, cur, hv, Nat.le_trans hb hg, r⟩)⟩
theorem OwnT.le {w : World} {base base' m : Nat} {v : Value} {L : Nat → It} (h : OwnT w base v m L) (hb : base' ≤ base) : OwnT w base' v m L :=
  ⟨ownsRow_le' h.1 hb, fun j hj => (h.2 j hj).mono hb⟩
end Go.Proofs.YtccoicjmmeoggaaDoor

/- slices.Grow and slices.Concat, of bytes and of TLVs. Each theorem states its conditions. -/
namespace Go.Proofs.YtccoicjmmeoggaaDoor
open Go.RowKit
set_option linter.unusedVariables false

set_option maxRecDepth 100000 in
/-- 'append(nil, make([]T, k)...)' -/
theorem wpList_nz {ops : Array Oper} {rest : List Oper} {op : Oper} {a : Act} {w : World} {Q : Exit → Act → World → Prop} (hgd : op.guard = none) (s x : Operand) (t e : TypeId)
    (ho : op.op = .call { callee := .builtin .append, args := #[s, x], argTypes := #[t, 3] })
    (i : TypeInfo) (z : Value) (size : Nat) (ht : Tryd.prog.underlying t = some (.slice e)) (hi : Tryd.prog.info? e = some i) (hz : i.zero = some z) (hzs : z.cells.size = size) (hsi : i.size = size) (hsz : 0 < size)
    (k : Nat) (h0 : 0 < k) (h48 : k * i.bytes ≤ 281474976710656) (hm : k ≤ maxLen) (hs : a.eval s = .slice none 0 0) (hx : a.eval x = .int .i64 (k : Int)) (N : Nat) (hN : w.heap.size = N)
    (h : ∀ cap w' cur, w'.heap[N]? = some (.cells cur e (0, 0)) → cur.size = cap * size → k ≤ cap → cap ≤ maxLen → Below w.heap.size w w' → wpList Tryd.prog ops Q rest (a.put op.dst (.slice (some ⟨N, 0, none⟩) k cap)) w') :
    wpList Tryd.prog ops Q (op :: rest) a w := by
  subst hN
  have htn := Tryd.underlying3
  have hr := Lib.run_append_nil_zeros (P := Tryd.prog) w t 3 op.type e i z .i64 .i64 ht htn hi hz k h0 (by omega) (by unfold maxLen at hm; omega) h48
  have hge := grownCap_ge w k 0 e
  refine wpList_plain hgd fun K hK => ?_
  unfold Oper.wp execOp
  simp only [ho, resolve, invoke, builtin, Sem.run_bind, Sem.run_pure, Result.andThen_ok, List.map_toArray, List.map_cons, List.map_nil, hs, hx, hr, Oper.upon_value]
  refine hK _ _ (h _ _ _ (heap_alloc_new w.drew _) ?_ hge (grownCap_le_maxLen w k 0 e hm) ((Below.refl _ _).drew.alloc (Nat.le_refl _) _))
  rw [Array.size_append, size_zeroCells, size_zeroCells, hzs, ← Nat.add_mul]
  congr 1
  omega
theorem row_none {w : World} {base g cap size : Nat} {e : TypeId} {cur : Array Value} (hg : w.heap[g]? = some (.cells cur e (0, 0))) (hb : base ≤ g) (hc : cur.size = cap * size) (hm : cap ≤ maxLen) : w.ownsRow base e size (.slice (some ⟨g, 0, none⟩) 0 cap) 0 [] :=
  ⟨by simp, .inr ⟨g, cap, cur, rfl, hb, hg, Nat.zero_le _, hm, hc, by simp⟩⟩
set_option maxHeartbeats 4000000 in
set_option maxRecDepth 100000 in
theorem growB_any (k : Nat) (w : World) (h0 : 0 < k) (hb : k * 1 ≤ 140737488355328) :
    Calls Tryd.prog 89 #[.slice none 0 0, .int .i64 (k : Int)] w fun e w' => ∃ v, e = .returned v ∧ w'.ownsRow w.heap.size 5 1 v 0 [] ∧ Below w.heap.size w w' := by
  obtain ⟨i0, hi, hz0, hz1, hz2⟩ := info_parts info_u8
  have k1 : ¬ (k : Int) < 0 := by omega
  have k2 : (0 : Int) < (k : Int) := by omega
  have k3 : IntKind.i64.wrap ((k : Int)) = (k : Int) := by rw [IntKind.wrap_i64]; omega
  obtain ⟨N1, hN1⟩ : ∃ N, w.heap.size = N := ⟨_, rfl⟩
  have HN1 := Lib.hid hN1
  clear hN1
  go_enter Tryd.func89, Tryd.ntmps89
  go_wp2_with (at_builtin; refine wpList_nz rfl (.tmp 20) (.tmp 21) 22 5 rfl i0 (.int .u8 0) 1 Tryd.underlying22 hi hz0 rfl hz1 (by decide) k h0 (by rw [hz2]; omega) (by unfold maxLen; omega) rfl rfl N1 HN1.out ?_; intro cap w1 cur q1 q2 q3 q4 b1; refine Hid.out ?_)
  refine Lib.hid ?_
  have Q1 := Lib.hid (And.intro q1 (And.intro q2 (And.intro q4 b1)))
  clear q1 q2 q4 b1
  go_wp2_with fail
  go_ret
  exact ⟨_, rfl, row_none Q1.out.1 (Nat.le_of_eq HN1.out) Q1.out.2.1 Q1.out.2.2.1, Q1.out.2.2.2⟩
set_option maxHeartbeats 4000000 in
set_option maxRecDepth 100000 in
theorem growT_any (k : Nat) (w : World) (h0 : 0 < k) (hb : k * 32 ≤ 140737488355328) :
    Calls Tryd.prog 88 #[.slice none 0 0, .int .i64 (k : Int)] w fun e w' => ∃ v, e = .returned v ∧ w'.ownsRow w.heap.size 49 2 v 0 [] ∧ Below w.heap.size w w' := by
  obtain ⟨i0, hi, hz0, hz1, hz2⟩ := info_parts info_tlv
  have k1 : ¬ (k : Int) < 0 := by omega
  have k2 : (0 : Int) < (k : Int) := by omega
  have k3 : IntKind.i64.wrap ((k : Int)) = (k : Int) := by rw [IntKind.wrap_i64]; omega
  obtain ⟨N1, hN1⟩ : ∃ N, w.heap.size = N := ⟨_, rfl⟩
  have HN1 := Lib.hid hN1
  clear hN1
  go_enter Tryd.func88, Tryd.ntmps88
  go_wp2_with (at_builtin; refine wpList_nz rfl (.tmp 20) (.tmp 21) 40 49 rfl i0 (.agg #[.int .u8 0, .slice none 0 0]) 2 Tryd.underlying40 hi hz0 rfl hz1 (by decide) k h0 (by rw [hz2]; omega) (by unfold maxLen; omega) rfl rfl N1 HN1.out ?_; intro cap w1 cur q1 q2 q3 q4 b1; refine Hid.out ?_)
  refine Lib.hid ?_
  have Q1 := Lib.hid (And.intro q1 (And.intro q2 (And.intro q4 b1)))
  clear q1 q2 q4 b1
  go_wp2_with fail
  go_ret
  exact ⟨_, rfl, row_none Q1.out.1 (Nat.le_of_eq HN1.out) Q1.out.2.1 Q1.out.2.2.1, Q1.out.2.2.2⟩
/-- how many the first k have together; their bytes one behind the other -/
def sumS (S : Nat → It) : Nat → Nat
  | 0 => 0
  | k + 1 => sumS S k + (S k).n
def joinS (S : Nat → It) : Nat → Nat → Int
  | 0 => nou
  | k + 1 => catZ (joinS S k) (sumS S k) (S k).z
theorem sumS_le (S : Nat → It) (k : Nat) : ∀ m, k ≤ m → sumS S k ≤ sumS S m := by
  intro m hm
  induction m with
  | zero =>
      obtain rfl : k = 0 := (by omega)
      exact Nat.le_refl _
  | succ m ih =>
    by_cases e : k = m + 1
    · subst e; exact Nat.le_refl _
    · exact Nat.le_trans (ih (by omega)) (Nat.le_add_right _ _)
set_option maxHeartbeats 8000000 in
set_option maxRecDepth 100000 in
theorem concatB_any (g m cap : Nat) (S : Nat → It) (w : World) (hc : ∀ j, j < m → w.cell? ⟨g, j, none⟩ = some (.slice (S j).A (S j).n (S j).c)) (hg : g < w.heap.size)
    (hr : ∀ j, j < m → Rd w (S j).A (S j).n (S j).z ∧ ((S j).A = none → (S j).n = 0 ∧ (S j).c = 0)) (hpos : 0 < sumS S m) (hs : sumS S m ≤ 140737488351232) (hm : m ≤ 1000) :
    Calls Tryd.prog 64 #[.slice (some ⟨g, 0, none⟩) m cap] w fun e w' => ∃ v, e = .returned v ∧ HOut w w' v (sumS S m) (joinS S m) [] := by
  have HC := Lib.hid hc
  have HR := Lib.hid hr
  have HS := Lib.hid hs
  have HPS := Lib.hid hpos
  clear hc hr hs hpos
  go_enter Tryd.func64, Tryd.ntmps64
  go_wp2_with fail
  go_loopw [3, 11] (fun t i wr => ∃ k : Nat, k ≤ m ∧ i = .int .i64 k ∧ t = .int .i64 ((sumS S k : Nat) : Int) ∧ w = wr) (fun _ i _ => m - (intOf i).toNat)
  case atStart => exact ⟨0, by omega, rfl, rfl, rfl⟩
  case round =>
    obtain ⟨k, hk, rfl, rfl, rfl⟩ := hrel
    by_cases hlt : k < m
    · have hki : (k : Int) < (m : Int) := by omega
      have c1 := HC.out k hlt
      have hs1 := sumS_le S (k + 1) m hlt
      have hs2 := HS.out
      have hs3 : sumS S (k + 1) = sumS S k + (S k).n := rfl
      obtain ⟨a, ha⟩ : ∃ a, sumS S k = a := ⟨_, rfl⟩
      obtain ⟨b, hb⟩ : ∃ b, (S k).n = b := ⟨_, rfl⟩
      rw [ha, hb] at hs3
      rw [hs3] at hs1
      rw [hb] at c1
      rw [ha]
      have hab : (a : Int) + (b : Int) ≤ 140737488351232 := by omega
      have hn : ¬ (a : Int) + (b : Int) < 0 := by omega
      have HH := Lib.hid hs3
      clear ha hb hs1 hs2 hs3
      go_wp2_with fail
      go_roundw
      case rel => exact ⟨k + 1, by omega, by go_num, by rw [HH.out]; go_num, by first | rfl | trivial⟩
      case measure => simp only [intOf]; omega
    · obtain rfl : k = m := by omega
      obtain ⟨a, ha⟩ : ∃ a, sumS S k = a := ⟨_, rfl⟩
      rw [ha]
      have HP := Lib.hid ha
      have HG := Lib.hid (growB_any a w (by rw [← ha]; exact HPS.out) (by have := HS.out; omega))
      clear ha
      go_wp2_with fail
      refine HG.out.mono ?_
      rintro e w1 ⟨v1, rfl, ho, b1⟩
      have HO : Hid (HOut w w1 v1 0 nou []) := Lib.hid ⟨⟨ho, fun _ => ⟨Int.le_refl 0, (by decide : (0 : Int) ≤ 255)⟩⟩, b1, HKp.nil _, fun p hp => by cases hp⟩
      clear ho b1 HG
      go_wp2_with fail
      go_loopw [6, 27] (fun v i wr => ∃ j : Nat, j ≤ k ∧ i = .int .i64 j ∧ Hid (HOut w wr v (sumS S j) (joinS S j) [])) (fun _ i _ => k - (intOf i).toNat)
      case atStart => exact ⟨0, by omega, rfl, HO⟩
      case round =>
        obtain ⟨j, hj, rfl, HO2⟩ := hrel
        by_cases hlt : j < k
        · have hji : (j : Int) < (k : Int) := by omega
          have c1 : wr.cell? ⟨g, j, none⟩ = some (.slice (S j).A (S j).n (S j).c) := (HO2.out.2.1.cell (p := ⟨g, j, none⟩) hg).trans (HC.out j hlt)
          have HRd := Lib.hid ((HR.out j hlt).1.below HO2.out.2.1 rfl)
          have HNo := Lib.hid (HR.out j hlt).2
          have hsl : Hid (sumS S j + (S j).n ≤ 140737488355328) := Lib.hid (by have := sumS_le S (j + 1) k hlt; have := HS.out; have e : sumS S (j + 1) = sumS S j + (S j).n := rfl; omega)
          go_wp2_with (at_builtin; refine wpList_hout rfl (.tmp 31) (.tmp 32) rfl rfl HO2.out (S j).A (S j).n (S j).c (S j).z rfl HRd.out HNo.out hsl.out ?_; intro v2 w2 ho2; refine Hid.out ?_)
          refine Lib.hid ?_
          have HO3 := Lib.hid ho2
          clear ho2 c1
          go_wp2_with fail
          go_roundw
          case rel => exact ⟨j + 1, by omega, by go_num, HO3⟩
          case measure => simp only [intOf]; omega
        · obtain rfl : j = k := by omega
          go_wp2_with fail
          go_ret
          exact ⟨_, rfl, HO2.out⟩
/-- lists one behind the other -/
def sumM (ms : Nat → Nat) : Nat → Nat
  | 0 => 0
  | k + 1 => sumM ms k + ms k
def joinT (Ls : Nat → Nat → It) (ms : Nat → Nat) : Nat → Nat → It
  | 0 => Ls 0
  | k + 1 => catT (joinT Ls ms k) (sumM ms k) (Ls k)
theorem sumM_le (S : Nat → Nat) (k : Nat) : ∀ m, k ≤ m → sumM S k ≤ sumM S m := by
  intro m hm
  induction m with
  | zero =>
      obtain rfl : k = 0 := (by omega)
      exact Nat.le_refl _
  | succ m ih =>
    by_cases e : k = m + 1
    · subst e; exact Nat.le_refl _
    · exact Nat.le_trans (ih (by omega)) (Nat.le_add_right _ _)
theorem cells_join (Ls : Nat → Nat → It) (ms : Nat → Nat) (k : Nat) : cellsT (joinT Ls ms k) (sumM ms k) ++ cellsT (Ls k) (ms k) = cellsT (joinT Ls ms (k + 1)) (sumM ms (k + 1)) := by
  rw [cellsT_cat]; rfl
set_option maxHeartbeats 8000000 in
set_option maxRecDepth 100000 in
theorem concatT_any (g m cap : Nat) (As : Nat → Option Addr) (ms cs : Nat → Nat) (Ls : Nat → Nat → It) (w : World) (hc : ∀ j, j < m → w.cell? ⟨g, j, none⟩ = some (.slice (As j) (ms j) (cs j))) (hg : g < w.heap.size)
    (hr : ∀ j, j < m → RdT w (As j) (ms j) (Ls j) ∧ ((As j) = none → (ms j) = 0 ∧ (cs j) = 0)) (hpos : 0 < sumM ms m) (hs : sumM ms m * 32 ≤ 140737488355328) (hm : m ≤ 1000) :
    Calls Tryd.prog 63 #[.slice (some ⟨g, 0, none⟩) m cap] w fun e w' => ∃ v, e = .returned v ∧ w'.ownsRow w.heap.size 49 2 v (sumM ms m) (cellsT (joinT Ls ms m) (sumM ms m)) ∧ Below w.heap.size w w' := by
  obtain ⟨i0, hi, hz0, hz1, hz2⟩ := info_parts info_tlv
  have HC := Lib.hid hc
  have HR := Lib.hid hr
  have HS := Lib.hid hs
  have HPS := Lib.hid hpos
  clear hc hr hs hpos
  go_enter Tryd.func63, Tryd.ntmps63
  go_wp2_with fail
  go_loopw [3, 11] (fun t i wr => ∃ k : Nat, k ≤ m ∧ i = .int .i64 k ∧ t = .int .i64 ((sumM ms k : Nat) : Int) ∧ w = wr) (fun _ i _ => m - (intOf i).toNat)
  case atStart => exact ⟨0, by omega, rfl, rfl, rfl⟩
  case round =>
    obtain ⟨k, hk, rfl, rfl, rfl⟩ := hrel
    by_cases hlt : k < m
    · have hki : (k : Int) < (m : Int) := by omega
      have c1 := HC.out k hlt
      have hs1 := sumM_le ms (k + 1) m hlt
      have hs2 := HS.out
      have hs3 : sumM ms (k + 1) = sumM ms k + ms k := rfl
      obtain ⟨a, ha⟩ : ∃ a, sumM ms k = a := ⟨_, rfl⟩
      obtain ⟨b, hb⟩ : ∃ b, ms k = b := ⟨_, rfl⟩
      rw [ha, hb] at hs3
      rw [hs3] at hs1
      rw [hb] at c1
      rw [ha]
      have hab : (a : Int) + (b : Int) ≤ 140737488351232 := by omega
      have hn : ¬ (a : Int) + (b : Int) < 0 := by omega
      have HH := Lib.hid hs3
      clear ha hb hs1 hs2 hs3
      go_wp2_with fail
      go_roundw
      case rel => exact ⟨k + 1, by omega, by go_num, by rw [HH.out]; go_num, by first | rfl | trivial⟩
      case measure => simp only [intOf]; omega
    · obtain rfl : k = m := by omega
      obtain ⟨a, ha⟩ : ∃ a, sumM ms k = a := ⟨_, rfl⟩
      rw [ha]
      have HP := Lib.hid ha
      have HG := Lib.hid (growT_any a w (by rw [← ha]; exact HPS.out) (by have := HS.out; omega))
      clear ha
      go_wp2_with fail
      refine HG.out.mono ?_
      rintro e w1 ⟨v1, rfl, ho, b1⟩
      have HO : Hid (w1.ownsRow w.heap.size 49 2 v1 0 []) := Lib.hid ho
      have HB := Lib.hid b1
      clear ho b1 HG
      go_wp2_with fail
      go_loopw [6, 27] (fun v i wr => ∃ j : Nat, j ≤ k ∧ i = .int .i64 j ∧ Hid (wr.ownsRow w.heap.size 49 2 v (sumM ms j) (cellsT (joinT Ls ms j) (sumM ms j))) ∧ Hid (Below w.heap.size w wr)) (fun _ i _ => k - (intOf i).toNat)
      case atStart => exact ⟨0, by omega, rfl, HO, HB⟩
      case round =>
        obtain ⟨j, hj, rfl, HO2, HB2⟩ := hrel
        by_cases hlt : j < k
        · have hji : (j : Int) < (k : Int) := by omega
          have c1 : wr.cell? ⟨g, j, none⟩ = some (.slice (As j) (ms j) (cs j)) := (HB2.out.cell (p := ⟨g, j, none⟩) hg).trans (HC.out j hlt)
          have HRd := Lib.hid ((HR.out j hlt).1.below HB2.out)
          have HNo := Lib.hid (HR.out j hlt).2
          have hsl : Hid ((sumM ms j + ms j) * 32 ≤ 140737488355328) := Lib.hid (by have := sumM_le ms (j + 1) k hlt; have := HS.out; have e : sumM ms (j + 1) = sumM ms j + ms j := rfl; omega)
          go_wp2_with (at_builtin; refine wpList_append_any rfl (.tmp 31) (.tmp 32) 40 rfl w.heap.size 49 i0 _ 2 32 Tryd.underlying40 hi hz0 hz1 hz2 rfl (by decide) _ _ _ rfl HO2.out (As j) (ms j) (cs j) (cellsT (Ls j) (ms j)) rfl (cellsT_len _ _) HNo.out (rdT_news HRd.out) (cellsT_one _ _) (by have := hsl.out; unfold maxLen; omega) hsl.out HB2.out.size ?_; intro v2 w2 ho2 hg2; refine Hid.out ?_)
          refine Lib.hid ?_
          have HB3 := Lib.hid (HB2.out.grown hg2 HB2.out.size (fun x e => (HO2.out.lt x e).1))
          rw [cells_join] at ho2
          have HO3 := Lib.hid ho2
          clear ho2 hg2 c1
          go_wp2_with fail
          go_roundw
          case rel => exact ⟨j + 1, by omega, by go_num, HO3, HB3⟩
          case measure => simp only [intOf]; omega
        · obtain rfl : j = k := by omega
          go_wp2_with fail
          go_ret
          exact ⟨_, rfl, HO2.out, HB2.out⟩
end Go.Proofs.YtccoicjmmeoggaaDoor

/- mac.signature: the TLV that signs a packet. Each theorem states its conditions. -/
namespace Go.Proofs.YtccoicjmmeoggaaDoor
open Go.RowKit
set_option linter.unusedVariables false

/-- bytes of the call's own, as what is carried along -/
def By8 (w : World) (g n cap : Nat) (z : Nat → Int) : Prop := Own8 w g n cap z
section
variable {w w' : World} {g n cap : Nat} {z : Nat → Int}
theorem By8.lt (h : By8 w g n cap z) : g < w.heap.size := Own8.lt h
theorem By8.below {B : Nat} (h : By8 w g n cap z) (hb : Below B w w') (hB : g < B) : By8 w' g n cap z := Own8.below h hb hB
theorem By8.far {b : Nat} {C : Array Value} {t : TypeId} (h : By8 w g n cap z) (hs : Stored w w' b C t) (hk : g ≠ b) : By8 w' g n cap z := Own8.block h (hs.2.2 g hk)
theorem By8.rd (h : By8 w g n cap z) : Rd w (some ⟨g, 0, none⟩) n z := Own8.rd h
theorem By8.caps (h : By8 w g n cap z) : n ≤ cap ∧ cap ≤ maxLen := Own8.caps h
end
theorem one_rd {w : World} {g : Nat} {x : Int} (h : Blk 5 w g #[.int .u8 x]) (hx : 0 ≤ x ∧ x ≤ 255) : Rd w (some ⟨g, 0, none⟩) 1 (fun _ => x) :=
  ⟨.inr ⟨g, 0, rfl, h.lt, fun j hj => by (obtain rfl : j = 0 := (by omega)); rw [h.cell]; rfl, fun _ => hx⟩, fun _ => hx⟩
/-- a slice of some values is made, in the order of the text -/
theorem wpList_bsn {ops : Array Oper} {Q : Exit → Act → World → Prop} {rest : List Oper} {op : Oper} {a : Act} {w : World} (n : Nat) (hgd : op.guard = none) (t : TypeId) (C : Array Value) (hx : (execOp a.eval op).run Tryd.prog w = .ok (.value (.slice (some ⟨w.heap.size, 0, none⟩) n n)) (w.alloc (.cells C t)))
    (N : Nat) (hN : w.heap.size = N) (h : ∀ w', Blk t w' N C → Below w.heap.size w w' → N + 1 ≤ w'.heap.size → wpList Tryd.prog ops Q rest (a.put op.dst (.slice (some ⟨N, 0, none⟩) n n)) w') : wpList Tryd.prog ops Q (op :: rest) a w := by
  subst hN
  refine wpList_plain hgd fun K hK => ?_
  unfold Oper.wp
  rw [hx, Oper.upon_value]
  exact hK _ _ (h _ (heap_alloc_new w _) ((Below.refl _ _).alloc (Nat.le_refl _) _) (by simp))
theorem bs_three (W : World) (o : Oper) (e : Operand → Value) (ho : o.op = .buildSlice 22 1 #[(0, .const (.int .u8 3))]) (hc : e (.const (.int .u8 3)) = .int .u8 3) :
    (execOp e o).run Tryd.prog W = .ok (.value (.slice (some ⟨W.heap.size, 0, none⟩) 1 1)) (W.alloc (.cells #[.int .u8 3] 5)) := by
  unfold execOp
  simp only [ho]
  simp only [List.map_toArray, List.map_cons, List.map_nil, hc]
  kernel_rfl
theorem bs_rows (W : World) (o : Oper) (e : Operand → Value) {x0 x1 x2 : Operand} (ho : o.op = .buildSlice 89 3 #[(0, x0), (1, x1), (2, x2)]) (A0 A1 A2 : Option Addr) (n0 n1 n2 c0 c1 c2 : Nat) (h0 : e x0 = .slice A0 n0 c0) (h1 : e x1 = .slice A1 n1 c1) (h2 : e x2 = .slice A2 n2 c2) :
    (execOp e o).run Tryd.prog W = .ok (.value (.slice (some ⟨W.heap.size, 0, none⟩) 3 3)) (W.alloc (.cells #[.slice A0 n0 c0, .slice A1 n1 c1, .slice A2 n2 c2] 22)) := by
  unfold execOp
  simp only [ho]
  simp only [List.map_toArray, List.map_cons, List.map_nil, h0, h1, h2]
  kernel_rfl
theorem build_it (o : Oper) (e : Operand → Value) (x0 x1 : Operand) (ho : o.op = .build 49 #[(0, x0), (1, x1)]) (t : It) (h0 : e x0 = .int .u8 t.ty) (h1 : e x1 = .slice t.A t.n t.c) (W : World) : (execOp e o).run Tryd.prog W = .ok (.value (.agg (itC t))) W := by
  unfold execOp
  simp only [ho]
  simp only [List.map_toArray, List.map_cons, List.map_nil, h0, h1]
  kernel_rfl
/-- the bytes of a signature -/
def sigZ (id : Nat) (z : Nat → Int) : Nat → Int := fun j => if j = 0 then 3 else if j < 3 then putZ id 2 (j - 1) else z (j - 3)
theorem sigZ_bd (id : Nat) {z : Nat → Int} (hz : ∀ j, 0 ≤ z j ∧ z j ≤ 255) : ∀ j, 0 ≤ sigZ id z j ∧ sigZ id z j ≤ 255 := by
  intro j
  unfold sigZ
  split
  · omega
  split
  · exact putZ_bd _ _ _
  · exact hz _
def it0 : It := ⟨0, none, 0, 0, nou⟩
theorem zero_it : (Tryd.prog.info? 49).map (·.zero) = some (some (.agg (itC it0))) := by kernel_rfl
/-- the three parts of it -/
def sigS (N g M id : Nat) (z : Nat → Int) : Nat → It
  | 0 => ⟨0, some ⟨N, 0, none⟩, 1, 1, fun _ => 3⟩
  | 1 => ⟨0, some ⟨g, 0, none⟩, 2, 2, putZ id 2⟩
  | _ => ⟨0, some ⟨M, 0, none⟩, 32, 32, z⟩
theorem sig_join (N g M id : Nat) (z : Nat → Int) : sumS (sigS N g M id z) 3 = 35 ∧ ∀ j, j < 35 → joinS (sigS N g M id z) 3 j = sigZ id z j := by
  refine ⟨rfl, fun j hj => ?_⟩
  show catZ (catZ (catZ nou 0 fun _ => 3) 1 (putZ id 2)) 3 z j = sigZ id z j
  unfold catZ sigZ
  by_cases h0 : j = 0
  · subst h0; rfl
  · by_cases h3 : j < 3
    · rw [if_pos h3, if_neg (by omega), if_neg h0, if_pos h3]
    · rw [if_neg h3, if_neg h0, if_neg h3]
def SigP (w : World) (id : Nat) (z : Nat → Int) (e : Ending) (w' : World) : Prop := ∃ g c, e = .returned (.agg (itC ⟨10, some ⟨g, 0, none⟩, 35, c, sigZ id z⟩)) ∧ w.heap.size ≤ g ∧ Own8 w' g 35 c (sigZ id z) ∧ 35 ≤ c ∧ c ≤ maxLen ∧ Below w.heap.size w w'
set_option maxHeartbeats 8000000 in
set_option maxRecDepth 100000 in
theorem signature_any (id : Nat) (z : Nat → Int) (w : World) (hid : id ≤ 65535) (hz : ∀ j, 0 ≤ z j ∧ z j ≤ 255) :
    Calls Tryd.prog 36 #[.int .u16 (id : Int), .agg (bytC 32 z)] w (SigP w id z) := by
  have HZ := Lib.hid hz
  have HID := Lib.hid hid
  have hb1 : (0 : Int) ≤ (id : Int) := by omega
  have hb2 : (id : Int) ≤ 65535 := by omega
  clear hz hid
  go_enter Tryd.func36, Tryd.ntmps36
  have HB := Lib.hid (Below.refl w.heap.size w)
  obtain ⟨N1, hN1⟩ : ∃ N, w.heap.size = N := ⟨_, rfl⟩
  have HN1 := Lib.hid hN1
  clear hN1
  go_wp2_with (refine wpList_box (op := ⟨some 3, _, _, _, _, _⟩) rfl 26 (.tmp 1) rfl (bytC 32 z) rfl N1 HN1.out ?_; intro w1 k1 b1 s1; refine Hid.out ?_)
  refine Lib.hid ?_
  have KM := Lib.hid k1
  clear k1
  have le_HB_N1 : w.heap.size ≤ N1 := by rw [← HN1.out]; exact HB.out.size
  have HBn := Lib.hid (HB.out.trans (b1.mono HB.out.size))
  clear HB
  have HB := HBn
  clear HBn
  clear b1 HN1
  obtain ⟨N2, hN2⟩ : ∃ N, w1.heap.size = N := ⟨_, rfl⟩
  have HN2 := Lib.hid hN2
  clear hN2
  go_wp2_with (refine wpList_new (op := ⟨some 4, _, _, _, _, _⟩) rfl 49 rfl (itC it0) zero_it N2 HN2.out ?_; intro w2 k1 b1 s1; refine Hid.out ?_)
  refine Lib.hid ?_
  have KR := Lib.hid k1
  clear k1
  have lt_N1_N2 : N1 < N2 := by rw [← HN2.out]; exact KM.out.lt
  have le_HB_N2 : w.heap.size ≤ N2 := by rw [← HN2.out]; exact HB.out.size
  have KMn := Lib.hid (KM.out.below b1 KM.out.lt)
  clear KM
  have KM := KMn
  clear KMn
  have HBn := Lib.hid (HB.out.trans (b1.mono HB.out.size))
  clear HB
  have HB := HBn
  clear HBn
  clear b1 HN2
  go_wp2_with fail
  refine (put_any id 2 w2 (by have := HID.out; omega) (by omega) (by omega)).mono ?_
  rintro e w11 ⟨h9, b1⟩
  rw [if_pos (by unfold qN; have := HID.out; omega)] at h9
  obtain ⟨gp, rfl, hgp, hop⟩ := h9
  have HGP : Hid (w.heap.size ≤ gp) := Lib.hid (Nat.le_trans HB.out.size hgp)
  have lt_NM : N1 < gp := Nat.lt_of_lt_of_le KM.out.lt hgp
  have lt_NR : N2 < gp := Nat.lt_of_lt_of_le KR.out.lt hgp
  have KMn := Lib.hid (KM.out.below b1 KM.out.lt)
  clear KM
  have KM := KMn
  clear KMn
  have KRn := Lib.hid (KR.out.below b1 KR.out.lt)
  clear KR
  have KR := KRn
  clear KRn
  have HBn := Lib.hid (HB.out.trans (b1.mono HB.out.size))
  clear HB
  have HB := HBn
  clear HBn
  have KP : Hid (By8 w11 gp 2 2 (putZ id 2)) := Lib.hid hop
  clear hop hgp b1
  obtain ⟨N21, hN21⟩ : ∃ N, w11.heap.size = N := ⟨_, rfl⟩
  have HN21 := Lib.hid hN21
  clear hN21
  go_wp2_with (refine wpList_bsn (op := ⟨some 13, _, _, _, _, _⟩) 1 rfl 5 (#[.int .u8 3]) (bs_three _ _ _ rfl rfl) N21 HN21.out ?_; intro w21 k1 b1 s1; refine Hid.out ?_)
  refine Lib.hid ?_
  have K13 := Lib.hid k1
  clear k1
  have lt_N1_N21 : N1 < N21 := by rw [← HN21.out]; exact KM.out.lt
  have lt_N2_N21 : N2 < N21 := by rw [← HN21.out]; exact KR.out.lt
  have lt_gp_N21 : gp < N21 := by rw [← HN21.out]; exact KP.out.lt
  have le_HB_N21 : w.heap.size ≤ N21 := by rw [← HN21.out]; exact HB.out.size
  have KMn := Lib.hid (KM.out.below b1 KM.out.lt)
  clear KM
  have KM := KMn
  clear KMn
  have KRn := Lib.hid (KR.out.below b1 KR.out.lt)
  clear KR
  have KR := KRn
  clear KRn
  have KPn := Lib.hid (KP.out.below b1 KP.out.lt)
  clear KP
  have KP := KPn
  clear KPn
  have HBn := Lib.hid (HB.out.trans (b1.mono HB.out.size))
  clear HB
  have HB := HBn
  clear HBn
  clear b1 HN21
  go_wp2_with (refine wpList_v (op := ⟨some 15, _, _, _, _, _⟩) rfl _ (run_all32 _ _ _ rfl N1 rfl _) ?_; refine Hid.out ?_)
  refine Lib.hid ?_
  obtain ⟨N22, hN22⟩ : ∃ N, w21.heap.size = N := ⟨_, rfl⟩
  have HN22 := Lib.hid hN22
  clear hN22
  go_wp2_with (refine wpList_bsn (op := ⟨some 16, _, _, _, _, _⟩) 3 rfl 22 (#[.slice (some ⟨N21, 0, none⟩) 1 1, .slice (some ⟨gp, 0, none⟩) 2 2, .slice (some ⟨N1, 0, none⟩) 32 32]) (bs_rows _ _ _ rfl _ _ _ _ _ _ _ _ _ rfl rfl rfl) N22 HN22.out ?_; intro w22 k1 b1 s1; refine Hid.out ?_)
  refine Lib.hid ?_
  have K16 := Lib.hid k1
  clear k1
  have lt_N1_N22 : N1 < N22 := by rw [← HN22.out]; exact KM.out.lt
  have lt_N2_N22 : N2 < N22 := by rw [← HN22.out]; exact KR.out.lt
  have lt_gp_N22 : gp < N22 := by rw [← HN22.out]; exact KP.out.lt
  have lt_N21_N22 : N21 < N22 := by rw [← HN22.out]; exact K13.out.lt
  have le_HB_N22 : w.heap.size ≤ N22 := by rw [← HN22.out]; exact HB.out.size
  have KMn := Lib.hid (KM.out.below b1 KM.out.lt)
  clear KM
  have KM := KMn
  clear KMn
  have KRn := Lib.hid (KR.out.below b1 KR.out.lt)
  clear KR
  have KR := KRn
  clear KRn
  have KPn := Lib.hid (KP.out.below b1 KP.out.lt)
  clear KP
  have KP := KPn
  clear KPn
  have K13n := Lib.hid (K13.out.below b1 K13.out.lt)
  clear K13
  have K13 := K13n
  clear K13n
  have HBn := Lib.hid (HB.out.trans (b1.mono HB.out.size))
  clear HB
  have HB := HBn
  clear HBn
  clear b1 HN22
  go_wp2_with fail
  have e3 := sig_join N21 gp N1 id z
  have HC := concatB_any N22 3 3 (sigS N21 gp N1 id z) w22 (fun j hj => by rw [K16.out.cell]; rcases (by omega : j = 0 ∨ j = 1 ∨ j = 2) with rfl | rfl | rfl <;> rfl) K16.out.lt (fun j hj => by rcases (by omega : j = 0 ∨ j = 1 ∨ j = 2) with rfl | rfl | rfl; exact ⟨one_rd K13.out (by decide), fun e => by cases e⟩; exact ⟨KP.out.rd, fun e => by cases e⟩; exact ⟨blk_rd KM.out HZ.out, fun e => by cases e⟩) (by rw [e3.1]; decide) (by rw [e3.1]; decide) (by decide)
  refine HC.mono ?_
  clear HC
  rintro e w31 ⟨v1, rfl, ho⟩
  rw [e3.1] at ho
  have ho2 := ho.zz (z' := sigZ id z) e3.2 (sigZ_bd id HZ.out)
  obtain ⟨gs, cs, rfl, hgs, hos⟩ := own_ofB ho2.1 (by decide)
  have b1 := ho.2.1
  have HGS : Hid (w.heap.size ≤ gs) := Lib.hid (Nat.le_trans HB.out.size hgs)
  have lt_R : N2 < gs := Nat.lt_of_lt_of_le KR.out.lt hgs
  have KMn := Lib.hid (KM.out.below b1 KM.out.lt)
  clear KM
  have KM := KMn
  clear KMn
  have KRn := Lib.hid (KR.out.below b1 KR.out.lt)
  clear KR
  have KR := KRn
  clear KRn
  have KPn := Lib.hid (KP.out.below b1 KP.out.lt)
  clear KP
  have KP := KPn
  clear KPn
  have K13n := Lib.hid (K13.out.below b1 K13.out.lt)
  clear K13
  have K13 := K13n
  clear K13n
  have K16n := Lib.hid (K16.out.below b1 K16.out.lt)
  clear K16
  have K16 := K16n
  clear K16n
  have HBn := Lib.hid (HB.out.trans (b1.mono HB.out.size))
  clear HB
  have HB := HBn
  clear HBn
  have KS : Hid (By8 w31 gs 35 cs (sigZ id z)) := Lib.hid hos
  clear ho ho2 hos hgs b1 e3
  go_wp2_with (refine wpList_v (op := ⟨some 18, _, _, _, _, _⟩) rfl _ (build_it _ _ _ _ rfl ⟨10, some ⟨gs, 0, none⟩, 35, cs, sigZ id z⟩ rfl rfl _) ?_; refine Hid.out ?_)
  refine Lib.hid ?_
  clear KM
  clear KP
  clear K13
  clear K16
  go_wp2_with (refine wpList_st rfl 49 (.tmp 4) (.tmp 18) rfl N2 0 rfl (.agg (itC ⟨10, some ⟨gs, 0, none⟩, 35, cs, sigZ id z⟩)) (itC ⟨10, some ⟨gs, 0, none⟩, 35, cs, sigZ id z⟩) rfl rfl rfl (itC_one _) KR.out (Nat.le_of_ble_eq_true rfl) (C' := itC ⟨10, some ⟨gs, 0, none⟩, 35, cs, sigZ id z⟩) (by kernel_rfl) ?_; intro w23 q1; refine Hid.out ?_)
  refine Lib.hid ?_
  have KSn := Lib.hid (KS.out.far q1 (by omega))
  clear KS
  have KS := KSn
  clear KSn
  have HBn := Lib.hid (HB.out.trans (q1.2.1 _ (by omega)))
  clear HB
  have HB := HBn
  clear HBn
  have KRn : Hid (Blk 49 w23 N2 (itC ⟨10, some ⟨gs, 0, none⟩, 35, cs, sigZ id z⟩)) := Lib.hid q1.1
  clear KR
  have KR := KRn
  clear KRn q1
  go_wp2_with fail
  exact bodyPost_ret (results_1 rfl _ _ N2 (itC ⟨10, some ⟨gs, 0, none⟩, 35, cs, sigZ id z⟩) Tryd.underlying49 rfl info_it rfl KR.out) rfl ⟨gs, cs, rfl, HGS.out, KS.out, KS.out.caps.1, KS.out.caps.2, HB.out⟩
end Go.Proofs.YtccoicjmmeoggaaDoor

/- mac.with: a packet with one TLV more. Each theorem states its conditions. -/
namespace Go.Proofs.YtccoicjmmeoggaaDoor
open Go.RowKit
set_option linter.unusedVariables false

theorem bs_lists (W : World) (o : Oper) (e : Operand → Value) {x0 x1 : Operand} (ho : o.op = .buildSlice 139 2 #[(0, x0), (1, x1)]) (A0 A1 : Option Addr) (n0 n1 c0 c1 : Nat) (h0 : e x0 = .slice A0 n0 c0) (h1 : e x1 = .slice A1 n1 c1) :
    (execOp e o).run Tryd.prog W = .ok (.value (.slice (some ⟨W.heap.size, 0, none⟩) 2 2)) (W.alloc (.cells #[.slice A0 n0 c0, .slice A1 n1 c1] 40)) := by
  unfold execOp
  simp only [ho]
  simp only [List.map_toArray, List.map_cons, List.map_nil, h0, h1]
  kernel_rfl
theorem zero_pdP : (Tryd.prog.info? 46).map (·.zero) = some (some (.agg (pdC pd0))) := by kernel_rfl
/-- a list that lies in a row of the call's own -/
theorem rdT_row {w : World} {base n : Nat} {v : Value} {L : Nat → It} (h : w.ownsRow base 49 2 v n (cellsT L n)) (hi : ∀ j, j < n → ItOk w (L j)) :
    ∃ A c, v = .slice A n c ∧ n ≤ c ∧ c ≤ maxLen ∧ (A = none → n = 0 ∧ c = 0) ∧ RdT w A n L ∧ (0 < n → ∃ g, A = some ⟨g, 0, none⟩ ∧ base ≤ g) := by
  rcases h.2 with ⟨rfl, rfl⟩ | ⟨g, cap, cur, rfl, hb, hc, h1, h2, h3, h4⟩
  · exact ⟨none, 0, rfl, Nat.le_refl _, by decide, fun _ => ⟨rfl, rfl⟩, .inl rfl, fun h => absurd h (by omega)⟩
  · refine ⟨some ⟨g, 0, none⟩, cap, rfl, h1, h2, fun e => (by cases e), .inr ⟨g, 0, rfl, (Array.getElem?_eq_some_iff.1 hc).1, fun j hj => ?_⟩, fun _ => ⟨g, rfl, hb⟩⟩
    obtain ⟨x0, x1⟩ := cellsT_at L n j hj
    rw [← h4, List.getElem?_take, if_pos (by omega)] at x0 x1
    refine ⟨?_, ?_, hi j hj⟩
    · rw [Nat.zero_add, cell_of_row w g _ cur _ (0, 0) hc]; simpa using x0
    · rw [Nat.zero_add, cell_of_row w g _ cur _ (0, 0) hc]; simpa using x1
/-- a list, and one more behind it -/
def addT (L : Nat → It) (m : Nat) (t : It) : Nat → It := catT L m (fun _ => t)
theorem addT_lo (L : Nat → It) (m j : Nat) (t : It) (h : j < m) : addT L m t j = L j := catT_lo _ _ _ _ h
theorem addT_hi (L : Nat → It) (m : Nat) (t : It) : addT L m t m = t := by unfold addT catT; rw [if_neg (Nat.lt_irrefl _)]
theorem two_join (L : Nat → It) (m : Nat) (t : It) : cellsT (joinT (fun k => if k = 0 then L else fun _ => t) (fun k => if k = 0 then m else 1) 2) (m + 1) = cellsT (addT L m t) (m + 1) := by
  refine cellsT_congr _ _ _ fun j hj => ?_
  have e : joinT (fun k => if k = 0 then L else fun _ => t) (fun k => if k = 0 then m else 1) 2 j = addT L m t j := by
    show catT (catT L 0 L) (0 + m) (fun _ => t) j = _
    unfold addT catT
    rw [Nat.zero_add]
    by_cases h : j < m
    · rw [if_pos h, if_pos h, if_neg (by omega), Nat.sub_zero]
    · rw [if_neg h, if_neg h]
  rw [e]
  exact ⟨rfl, rfl, rfl, rfl⟩
theorem two_sum (m : Nat) : sumM (fun k => if k = 0 then m else 1) 2 = m + 1 := by show 0 + m + 1 = m + 1; omega
def WithP (w : World) (p : Pd) (L : Nat → It) (t : It) (e : Ending) (w' : World) : Prop := ∃ g c, e = .returned (.agg (pdC (withT p (some ⟨g, 0, none⟩) (p.m + 1) c))) ∧ w.heap.size ≤ g ∧ RdT w' (some ⟨g, 0, none⟩) (p.m + 1) (addT L p.m t) ∧ p.m + 1 ≤ c ∧ c ≤ maxLen ∧ Below w.heap.size w w'
set_option maxRecDepth 100000 in
theorem pd_put (p : Pd) (A : Option Addr) (m c : Nat) : putMany (pdC p) 46 [.slice A m c] = pdC (withT p A m c) := by kernel_rfl
set_option maxRecDepth 100000 in
theorem pd_over (p q : Pd) : putMany (pdC q) 0 (pdC p).toList = pdC p := by kernel_rfl
theorem pd_46 (p : Pd) : (pdC p)[46]? = some (.slice p.A p.m p.c) := rfl
theorem info_lt : (Tryd.prog.info? 40).map (·.size) = some 1 := by kernel_rfl
theorem one_sl {A : Option Addr} {n c : Nat} : (#[Value.slice A n c] : Array Value).all (·.oneCell') = true := by kernel_rfl
theorem rdT_one {w : World} {g : Nat} {t : It} (h : Blk 49 w g (itC t)) (hi : ItOk w t) : RdT w (some ⟨g, 0, none⟩) 1 (fun _ => t) :=
  .inr ⟨g, 0, rfl, h.lt, fun j hj => by
    obtain rfl : j = 0 := by omega
    exact ⟨(h.cell 0).trans rfl, (h.cell 1).trans rfl, hi⟩⟩
set_option maxHeartbeats 8000000 in
set_option maxRecDepth 100000 in
theorem with_any (p : Pd) (L : Nat → It) (t : It) (gt : Nat) (w : World) (hR : RdT w p.A p.m L) (hA : p.A = none → p.m = 0 ∧ p.c = 0) (hm : p.m * 32 ≤ 140737488351232) (ht : Blk 49 w gt (itC t)) (hit : ItOk w t) :
    Calls Tryd.prog 35 #[.agg (pdC p), .slice (some ⟨gt, 0, none⟩) 1 1] w (WithP w p L t) := by
  have HR := Lib.hid hR
  have HA := Lib.hid hA
  have KT := Lib.hid ht
  have HIT := Lib.hid hit
  have HM := Lib.hid hm
  clear hR hA ht hit hm
  go_enter Tryd.func35, Tryd.ntmps35
  have HB := Lib.hid (Below.refl w.heap.size w)
  obtain ⟨N1, hN1⟩ : ∃ N, w.heap.size = N := ⟨_, rfl⟩
  have HN1 := Lib.hid hN1
  clear hN1
  go_wp2_with (refine wpList_box (op := ⟨some 2, _, _, _, _, _⟩) rfl 46 (.tmp 0) rfl (pdC p) rfl N1 HN1.out ?_; intro w1 k1 b1 s1; refine Hid.out ?_)
  refine Lib.hid ?_
  have K0 := Lib.hid k1
  clear k1
  have lt_gt_N1 : gt < N1 := by rw [← HN1.out]; exact KT.out.lt
  have le_HB_N1 : w.heap.size ≤ N1 := by rw [← HN1.out]; exact HB.out.size
  have KTn := Lib.hid (KT.out.below b1 KT.out.lt)
  clear KT
  have KT := KTn
  clear KTn
  have HBn := Lib.hid (HB.out.trans (b1.mono HB.out.size))
  clear HB
  have HB := HBn
  clear HBn
  clear b1 HN1
  obtain ⟨N2, hN2⟩ : ∃ N, w1.heap.size = N := ⟨_, rfl⟩
  have HN2 := Lib.hid hN2
  clear hN2
  go_wp2_with (refine wpList_new (op := ⟨some 4, _, _, _, _, _⟩) rfl 46 rfl (pdC pd0) zero_pdP N2 HN2.out ?_; intro w2 k1 b1 s1; refine Hid.out ?_)
  refine Lib.hid ?_
  have K4 := Lib.hid k1
  clear k1
  have lt_gt_N2 : gt < N2 := by rw [← HN2.out]; exact KT.out.lt
  have lt_N1_N2 : N1 < N2 := by rw [← HN2.out]; exact K0.out.lt
  have le_HB_N2 : w.heap.size ≤ N2 := by rw [← HN2.out]; exact HB.out.size
  have KTn := Lib.hid (KT.out.below b1 KT.out.lt)
  clear KT
  have KT := KTn
  clear KTn
  have K0n := Lib.hid (K0.out.below b1 K0.out.lt)
  clear K0
  have K0 := K0n
  clear K0n
  have HBn := Lib.hid (HB.out.trans (b1.mono HB.out.size))
  clear HB
  have HB := HBn
  clear HBn
  clear b1 HN2
  have c1 : w2.cell? ⟨N1, 46, none⟩ = some (.slice p.A p.m p.c) := (K0.out.cell 46).trans (pd_46 p)
  obtain ⟨N3, hN3⟩ : ∃ N, w2.heap.size = N := ⟨_, rfl⟩
  have HN3 := Lib.hid hN3
  clear hN3
  go_wp2_with (refine wpList_bsn (op := ⟨some 8, _, _, _, _, _⟩) 2 rfl 40 (#[.slice p.A p.m p.c, .slice (some ⟨gt, 0, none⟩) 1 1]) (bs_lists _ _ _ rfl _ _ _ _ _ _ rfl rfl) N3 HN3.out ?_; intro w3 k1 b1 s1; refine Hid.out ?_)
  refine Lib.hid ?_
  have K8 := Lib.hid k1
  clear k1
  have lt_gt_N3 : gt < N3 := by rw [← HN3.out]; exact KT.out.lt
  have lt_N1_N3 : N1 < N3 := by rw [← HN3.out]; exact K0.out.lt
  have lt_N2_N3 : N2 < N3 := by rw [← HN3.out]; exact K4.out.lt
  have le_HB_N3 : w.heap.size ≤ N3 := by rw [← HN3.out]; exact HB.out.size
  have KTn := Lib.hid (KT.out.below b1 KT.out.lt)
  clear KT
  have KT := KTn
  clear KTn
  have K0n := Lib.hid (K0.out.below b1 K0.out.lt)
  clear K0
  have K0 := K0n
  clear K0n
  have K4n := Lib.hid (K4.out.below b1 K4.out.lt)
  clear K4
  have K4 := K4n
  clear K4n
  have HBn := Lib.hid (HB.out.trans (b1.mono HB.out.size))
  clear HB
  have HB := HBn
  clear HBn
  clear b1 HN3
  clear c1
  go_wp2_with fail
  have HC := concatT_any N3 2 2 (fun k => if k = 0 then p.A else some ⟨gt, 0, none⟩) (fun k => if k = 0 then p.m else 1) (fun k => if k = 0 then p.c else 1) (fun k => if k = 0 then L else fun _ => t) w3 (fun j hj => by rw [K8.out.cell]; rcases (by omega : j = 0 ∨ j = 1) with rfl | rfl <;> rfl) K8.out.lt (fun j hj => by rcases (by omega : j = 0 ∨ j = 1) with rfl | rfl; exact ⟨HR.out.below HB.out, HA.out⟩; exact ⟨rdT_one KT.out (HIT.out.below HB.out), fun e => by cases e⟩) (by rw [two_sum]; omega) (by rw [two_sum]; have := HM.out; omega) (by decide)
  rw [two_sum, two_join] at HC
  refine HC.mono ?_
  clear HC
  rintro e w31 ⟨v1, rfl, ho, b1⟩
  obtain ⟨g9, c9, cur9, rfl, hg9, hc9, h91, h92, h93, h94⟩ := ho.2.resolve_left (fun h => by have := h.2; omega)
  have HG9 : Hid (w.heap.size ≤ g9) := Lib.hid (Nat.le_trans HB.out.size hg9)
  have lt_N1_g9 : N1 < g9 := Nat.lt_of_lt_of_le K0.out.lt hg9
  have lt_N2_g9 : N2 < g9 := Nat.lt_of_lt_of_le K4.out.lt hg9
  have HQ := Lib.hid (And.intro ho.1 (And.intro h91 (And.intro h92 (And.intro h93 h94))))
  have KTn := Lib.hid (KT.out.below b1 KT.out.lt)
  clear KT
  have KT := KTn
  clear KTn
  have K0n := Lib.hid (K0.out.below b1 K0.out.lt)
  clear K0
  have K0 := K0n
  clear K0n
  have K4n := Lib.hid (K4.out.below b1 K4.out.lt)
  clear K4
  have K4 := K4n
  clear K4n
  have K8n := Lib.hid (K8.out.below b1 K8.out.lt)
  clear K8
  have K8 := K8n
  clear K8n
  have HBn := Lib.hid (HB.out.trans (b1.mono HB.out.size))
  clear HB
  have HB := HBn
  clear HBn
  have K9 : Hid (Blk 49 w31 g9 cur9) := Lib.hid hc9
  clear ho h91 h92 h93 h94 hg9 b1 hc9
  clear KT
  clear K8
  go_wp2_with (refine wpList_st rfl 40 (.tmp 10) (.tmp 9) rfl N1 46 rfl (.slice (some ⟨g9, 0, none⟩) (p.m + 1) c9) #[.slice (some ⟨g9, 0, none⟩) (p.m + 1) c9] rfl rfl info_lt one_sl K0.out (Nat.le_of_ble_eq_true rfl) (C' := pdC (withT p (some ⟨g9, 0, none⟩) (p.m + 1) c9)) (pd_put _ _ _ _) ?_; intro w41 q1; refine Hid.out ?_)
  refine Lib.hid ?_
  have K4n := Lib.hid (K4.out.far q1 (by omega))
  clear K4
  have K4 := K4n
  clear K4n
  have K9n := Lib.hid (K9.out.far q1 (by omega))
  clear K9
  have K9 := K9n
  clear K9n
  have HBn := Lib.hid (HB.out.trans (q1.2.1 _ (by omega)))
  clear HB
  have HB := HBn
  clear HBn
  have K0n : Hid (Blk 46 w41 N1 (pdC (withT p (some ⟨g9, 0, none⟩) (p.m + 1) c9))) := Lib.hid q1.1
  clear K0
  have K0 := K0n
  clear K0n q1
  go_wp2_with (refine wpList_ld (op := ⟨some 11, _, _, _, _, _⟩) (by rfl) 46 (.tmp 2) rfl N1 0 rfl (pdC (withT p (some ⟨g9, 0, none⟩) (p.m + 1) c9)) _ K0.out.all Tryd.underlying46 rfl info_pdP ?_; refine Hid.out ?_)
  refine Lib.hid ?_
  go_wp2_with (refine wpList_st rfl 46 (.tmp 4) (.tmp 11) rfl N2 0 rfl (.agg (pdC (withT p (some ⟨g9, 0, none⟩) (p.m + 1) c9))) (pdC (withT p (some ⟨g9, 0, none⟩) (p.m + 1) c9)) rfl rfl info_pdP (pdC_one _) K4.out (Nat.le_of_ble_eq_true rfl) (C' := pdC (withT p (some ⟨g9, 0, none⟩) (p.m + 1) c9)) (pd_over _ _) ?_; intro w51 q1; refine Hid.out ?_)
  refine Lib.hid ?_
  have K0n := Lib.hid (K0.out.far q1 (by omega))
  clear K0
  have K0 := K0n
  clear K0n
  have K9n := Lib.hid (K9.out.far q1 (by omega))
  clear K9
  have K9 := K9n
  clear K9n
  have HBn := Lib.hid (HB.out.trans (q1.2.1 _ (by omega)))
  clear HB
  have HB := HBn
  clear HBn
  have K4n : Hid (Blk 46 w51 N2 (pdC (withT p (some ⟨g9, 0, none⟩) (p.m + 1) c9))) := Lib.hid q1.1
  clear K4
  have K4 := K4n
  clear K4n q1
  go_wp2_with fail
  have HI1 : ∀ j, j < p.m + 1 → ItOk w51 (addT L p.m t j) := fun j hj => by
    by_cases h : j < p.m
    · rw [addT_lo _ _ _ _ h]; obtain ⟨b, off, _, hr⟩ := (HR.out.below HB.out).row (by omega); exact (hr.2 j h).2.2
    · obtain rfl : j = p.m := by omega
      rw [addT_hi]; exact HIT.out.below HB.out
  obtain ⟨A8, c8, e8, x1, x2, x3, x4, x5⟩ := rdT_row (w := w51) (base := w.heap.size) ⟨HQ.out.1, .inr ⟨g9, c9, cur9, rfl, HG9.out, K9.out, HQ.out.2⟩⟩ HI1
  injection e8 with e81 e82 e83
  subst e81 e83
  exact bodyPost_ret (results_1 rfl _ _ N2 (pdC (withT p (some ⟨g9, 0, none⟩) (p.m + 1) c9)) Tryd.underlying46 rfl info_pdP rfl K4.out) rfl ⟨g9, c9, rfl, HG9.out, x4, x1, x2, HB.out⟩
end Go.Proofs.YtccoicjmmeoggaaDoor

/- mac.macOf: the bytes that sign a packet. Each theorem states its conditions. -/
namespace Go.Proofs.YtccoicjmmeoggaaDoor
open Go.RowKit
set_option linter.unusedVariables false

/-- k bytes from o on are nought -/
def zapZ (z : Nat → Int) (o k : Nat) : Nat → Int := fun j => if o ≤ j ∧ j < o + k then 0 else z j
theorem zapZ_bd {z : Nat → Int} (hz : ∀ j, 0 ≤ z j ∧ z j ≤ 255) (o k : Nat) : ∀ j, 0 ≤ zapZ z o k j ∧ zapZ z o k j ≤ 255 := by
  intro j; unfold zapZ; split
  · omega
  · exact hz j
theorem putMany_size (vs : List Value) : ∀ (o : Nat) (cur : Array Value), (putMany cur o vs).size = cur.size := by
  induction vs with
  | nil => intro o cur; rfl
  | cons v r ih => intro o cur; exact (ih _ _).trans (by simp)
theorem putMany_rep (v : Value) (k : Nat) : ∀ (o : Nat) (cur : Array Value) (j : Nat), o + k ≤ cur.size → (putMany cur o (List.replicate k v))[j]? = if o ≤ j ∧ j < o + k then some v else cur[j]? := by
  induction k with
  | zero => intro o cur j _; rw [if_neg (by omega)]; rfl
  | succ k ih =>
    intro o cur j h
    show (putMany (cur.setIfInBounds o v) (o + 1) (List.replicate k v))[j]? = _
    rw [ih (o + 1) _ j (by simp; omega), Array.getElem?_setIfInBounds]
    by_cases h1 : o + 1 ≤ j ∧ j < o + 1 + k
    · rw [if_pos h1, if_pos (by omega)]
    · rw [if_neg h1]
      by_cases h2 : o = j
      · subst h2; rw [if_pos rfl, if_pos (by omega), if_pos (by omega)]
      · rw [if_neg h2, if_neg (by omega)]
/-- 'clear' of a part of bytes of the call's own -/
theorem wpList_clear {ops : Array Oper} {Q : Exit → Act → World → Prop} {rest : List Oper} {op : Oper} {a : Act} {w : World} (hgd : op.guard = none) (x : Operand)
    (ho : op.op = .call { callee := .builtin .clear, args := #[x], argTypes := #[22] }) (g o k c0 : Nat) (hx : a.eval x = .slice (some ⟨g, o, none⟩) k c0) (hk : 0 < k) {n cap : Nat} {z : Nat → Int} (h : Own8 w g n cap z) (hok : o + k ≤ n)
    (H : ∀ w' C, Stored w w' g C 5 → Own8 w' g n cap (zapZ z o k) → wpList Tryd.prog ops Q rest (a.put op.dst (.tuple #[])) w') : wpList Tryd.prog ops Q (op :: rest) a w := by
  obtain ⟨⟨cur, hg, h1, h2, h3, h4⟩, h5⟩ := h
  obtain ⟨i, hi, hz0, hz1, hz2⟩ := info_parts info_u8
  have hr := Lib.run_clear_slice (P := Tryd.prog) w 22 5 op.type (.int .u8 0) Tryd.underlying22 (fun w => by simp [zeroValue, typeInfo, hi, hz0]) rfl rfl g o k c0 hk
    (fun j hj => by rw [cell_of_row w g (o + j) cur _ (0, 0) hg, Array.getElem?_eq_getElem (by omega)]; rfl) (fun j hj => by simp [World.frozen?, hg])
  have hs : Stored w (w.setCells g o (List.replicate k (.int .u8 0))) g (putMany cur o (List.replicate k (.int .u8 0))) 5 :=
    ⟨heap_setMany g _ _ o w cur hg, fun B hB => below_setMany g _ o w B hB, fun j hj => other_setMany g j hj _ o w⟩
  refine wpList_plain hgd fun K hK => ?_
  unfold Oper.wp execOp
  simp only [ho, resolve, invoke, builtin, Sem.run_bind, Sem.run_pure, Result.andThen_ok, List.map_toArray, List.map_cons, List.map_nil, hx, hr, Oper.upon_value]
  refine hK _ _ (H _ _ hs ⟨⟨_, hs.1, h1, h2, by rw [putMany_size, h3], fun j hj => ?_⟩, zapZ_bd h5 o k⟩)
  rw [putMany_rep _ _ _ _ _ (by omega)]
  unfold zapZ
  by_cases h9 : o ≤ j ∧ j < o + k
  · rw [if_pos h9, if_pos h9]
  · rw [if_neg h9, if_neg h9]; exact h4 j hj
/-- a packet's bytes as they are signed -/
def blkZ (q2 : Prop) [Decidable q2] (z : Nat → Int) (n : Nat) : Nat → Int := if q2 then zapZ (zapZ (zapZ z (n - 32) 32) 10 2) 24 2 else zapZ z (n - 32) 32
theorem hmac_own {w0 w : World} {A : Option Addr} {m ck : Nat} {k : Nat → Int} {g n c : Nat} {z : Nat → Int} (hk : Rd w A m k) (hA : A = none → m = 0 ∧ ck = 0) (hp : By8 w g n c z) (hm : m ≤ 64) (hn : n ≤ 140737488355200) (hg : Rts w 0) :
    Calls Tryd.prog 11 #[.slice A m ck, .slice (some ⟨g, 0, none⟩) n c] w fun e w' => e = .returned (.tuple #[.agg (bytC 32 (hmacZ k m z n)), .int .i64 0]) ∧ Below w.heap.size w w' :=
  hmac_any A m ck k _ n c z w hk hA hp.rd (fun e => by cases e) hm hn hg
set_option maxHeartbeats 8000000 in
set_option maxRecDepth 100000 in
theorem macOf_2 (B : Option Addr) (n c : Nat) (z : Nat → Int) (kd : Int) (A : Option Addr) (m ck : Nat) (k : Nat → Int) (w : World) (hq : kd = 18 ∨ kd = 20) (hB : Rd w B n z) (hBn : B = none → n = 0 ∧ c = 0) (hn : 54 ≤ n) (hn2 : n ≤ 1492) (hk : Rd w A m k) (hA : A = none → m = 0 ∧ ck = 0) (hm : m ≤ 64) (hg : Rts w 0) :
    Calls Tryd.prog 41 #[.slice B n c, .int .u8 kd, .slice A m ck] w fun e w' => e = .returned (.agg (bytC 32 (hmacZ k m (zapZ (zapZ (zapZ z (n - 32) 32) 10 2) 24 2) n))) ∧ Below w.heap.size w w' := by
  have HBB := Lib.hid hB
  have HBN := Lib.hid hBn
  have HK := Lib.hid hk
  have HA := Lib.hid hA
  have HMM := Lib.hid hm
  have RT := Lib.hid hg
  have hg9 := hg.2
  have HN := Lib.hid (And.intro hn hn2)
  obtain ⟨o, ho⟩ : ∃ o, n = o + 32 := ⟨n - 32, by omega⟩
  have HO := Lib.hid ho
  have ho1 : 22 ≤ o := by omega
  have ho2 : o ≤ 1460 := by omega
  obtain ⟨s, es⟩ : ∃ s, hmacZ k m (zapZ (zapZ (zapZ z (n - 32) 32) 10 2) 24 2) n = s := ⟨_, rfl⟩
  have HS := Lib.hid es
  clear hB hBn hk hA hm hg hn hn2 es
  subst ho
  rw [HS.out]
  have H18 : Hid ((kd == 18) = true ∨ ((kd == 18) = false ∧ (kd == 20) = true)) := Lib.hid (by rcases hq with rfl | rfl; exact .inl rfl; exact .inr ⟨rfl, rfl⟩)
  clear hq
  go_enter Tryd.func41, Tryd.ntmps41
  have HB := Lib.hid (Below.refl w.heap.size w)
  obtain ⟨N1, hN1⟩ : ∃ N, w.heap.size = N := ⟨_, rfl⟩
  have HN1 := Lib.hid hN1
  clear hN1
  go_wp2_with (refine wpList_new (op := ⟨some 6, _, _, _, _, _⟩) rfl 26 rfl (bytC 32 fun _ => 0) zero_d N1 HN1.out ?_; intro w1 k1 b1 s1; refine Hid.out ?_)
  refine Lib.hid ?_
  have K6 := Lib.hid k1
  clear k1
  have lt_0_N1 : 0 < N1 := by rw [← HN1.out]; exact RT.out.lt
  have le_HB_N1 : w.heap.size ≤ N1 := by rw [← HN1.out]; exact HB.out.size
  have RTn := Lib.hid (RT.out.below b1 RT.out.lt)
  clear RT
  have RT := RTn
  clear RTn
  have HBn := Lib.hid (HB.out.trans (b1.mono HB.out.size))
  clear HB
  have HB := HBn
  clear HBn
  clear b1 HN1
  go_wp2_with fail
  refine (cloneH_any B (o + 32) c z w1 (HBB.out.below HB.out rfl) HBN.out (by omega)).mono ?_
  rintro e w11 ⟨v7, rfl, h7⟩
  obtain ⟨g7, c7, rfl, hg7, ho7⟩ := own_ofB h7.1 (by omega)
  have b1 := h7.2.1
  have lt_6 : N1 < g7 := Nat.lt_of_lt_of_le K6.out.lt hg7
  have lt_R : 0 < g7 := Nat.lt_of_lt_of_le RT.out.lt hg7
  have le_w : w.heap.size ≤ g7 := Nat.le_trans HB.out.size hg7
  have hcap := ho7.caps.1
  have hcm : c7 ≤ 9223372036854775807 := ho7.caps.2
  have RTn := Lib.hid (RT.out.below b1 RT.out.lt)
  clear RT
  have RT := RTn
  clear RTn
  have K6n := Lib.hid (K6.out.below b1 K6.out.lt)
  clear K6
  have K6 := K6n
  clear K6n
  have HBn := Lib.hid (HB.out.trans (b1.mono HB.out.size))
  clear HB
  have HB := HBn
  clear HBn
  have K7 : Hid (By8 w11 g7 (o + 32) c7 z) := Lib.hid ho7
  clear h7 ho7 hg7 b1
  go_wp2_with (refine wpList_clear (op := ⟨none, _, _, _, _, _⟩) rfl (.tmp 16) rfl g7 (o) 32 _ rfl (by decide) K7.out (by omega) ?_; intro w21 C21 q1 q2; refine Hid.out ?_)
  refine Lib.hid ?_
  have RTn := Lib.hid (RT.out.far q1 (by omega))
  clear RT
  have RT := RTn
  clear RTn
  have K6n := Lib.hid (K6.out.far q1 (by omega))
  clear K6
  have K6 := K6n
  clear K6n
  have HBn := Lib.hid (HB.out.trans (q1.2.1 _ (by omega)))
  clear HB
  have HB := HBn
  clear HBn
  clear K7
  have K7 : Hid (By8 w21 g7 (o + 32) c7 (zapZ z o 32)) := Lib.hid q2
  clear q1 q2
  rcases H18.out with hk1 | ⟨hk1, hk2⟩
  · clear H18
    go_wp2_with (refine wpList_clear (op := ⟨none, _, _, _, _, _⟩) rfl (.tmp 24) rfl g7 (10) 2 _ rfl (by decide) K7.out (by omega) ?_; intro w22 C22 q1 q2; refine Hid.out ?_)
    refine Lib.hid ?_
    have RTn := Lib.hid (RT.out.far q1 (by omega))
    clear RT
    have RT := RTn
    clear RTn
    have K6n := Lib.hid (K6.out.far q1 (by omega))
    clear K6
    have K6 := K6n
    clear K6n
    have HBn := Lib.hid (HB.out.trans (q1.2.1 _ (by omega)))
    clear HB
    have HB := HBn
    clear HBn
    clear K7
    have K7 : Hid (By8 w22 g7 (o + 32) c7 (zapZ (zapZ z o 32) 10 2)) := Lib.hid q2
    clear q1 q2
    go_wp2_with (refine wpList_clear (op := ⟨none, _, _, _, _, _⟩) rfl (.tmp 26) rfl g7 (24) 2 _ rfl (by decide) K7.out (by omega) ?_; intro w23 C23 q1 q2; refine Hid.out ?_)
    refine Lib.hid ?_
    have RTn := Lib.hid (RT.out.far q1 (by omega))
    clear RT
    have RT := RTn
    clear RTn
    have K6n := Lib.hid (K6.out.far q1 (by omega))
    clear K6
    have K6 := K6n
    clear K6n
    have HBn := Lib.hid (HB.out.trans (q1.2.1 _ (by omega)))
    clear HB
    have HB := HBn
    clear HBn
    clear K7
    have K7 : Hid (By8 w23 g7 (o + 32) c7 (zapZ (zapZ (zapZ z o 32) 10 2) 24 2)) := Lib.hid q2
    clear q1 q2
    go_wp2_with fail
    refine (hmac_own (w0 := w) (HK.out.below HB.out rfl) HA.out K7.out HMM.out (by omega) RT.out).mono ?_
    rintro e w31 ⟨rfl, b1⟩
    have RTn := Lib.hid (RT.out.below b1 RT.out.lt)
    clear RT
    have RT := RTn
    clear RTn
    have K6n := Lib.hid (K6.out.below b1 K6.out.lt)
    clear K6
    have K6 := K6n
    clear K6n
    have K7n := Lib.hid (K7.out.below b1 K7.out.lt)
    clear K7
    have K7 := K7n
    clear K7n
    have HBn := Lib.hid (HB.out.trans (b1.mono HB.out.size))
    clear HB
    have HB := HBn
    clear HBn
    clear b1
    rw [show hmacZ k m (zapZ (zapZ (zapZ z o 32) 10 2) 24 2) (o + 32) = s from HS.out]
    obtain ⟨N41, hN41⟩ : ∃ N, w31.heap.size = N := ⟨_, rfl⟩
    have HN41 := Lib.hid hN41
    clear hN41
    go_wp2_with (refine wpList_new (op := ⟨some 8, _, _, _, _, _⟩) rfl 26 rfl (bytC 32 fun _ => 0) zero_d N41 HN41.out ?_; intro w41 k1 b1 s1; refine Hid.out ?_)
    refine Lib.hid ?_
    have K8 := Lib.hid k1
    clear k1
    have lt_0_N41 : 0 < N41 := by rw [← HN41.out]; exact RT.out.lt
    have lt_N1_N41 : N1 < N41 := by rw [← HN41.out]; exact K6.out.lt
    have lt_g7_N41 : g7 < N41 := by rw [← HN41.out]; exact K7.out.lt
    have le_HB_N41 : w.heap.size ≤ N41 := by rw [← HN41.out]; exact HB.out.size
    have RTn := Lib.hid (RT.out.below b1 RT.out.lt)
    clear RT
    have RT := RTn
    clear RTn
    have K6n := Lib.hid (K6.out.below b1 K6.out.lt)
    clear K6
    have K6 := K6n
    clear K6n
    have K7n := Lib.hid (K7.out.below b1 K7.out.lt)
    clear K7
    have K7 := K7n
    clear K7n
    have HBn := Lib.hid (HB.out.trans (b1.mono HB.out.size))
    clear HB
    have HB := HBn
    clear HBn
    clear b1 HN41
    go_wp2_with (refine wpList_st rfl 26 (.tmp 8) (.tmp 31) rfl N41 0 rfl (.agg (bytC 32 s)) (bytC 32 s) rfl rfl (info_d _) (byt_one _ _) K8.out (byt_fit _ _ _) (C' := bytC 32 s) (byt_all _ _ _) ?_; intro w42 q1; refine Hid.out ?_)
    refine Lib.hid ?_
    have RTn := Lib.hid (RT.out.far q1 (by omega))
    clear RT
    have RT := RTn
    clear RTn
    have K6n := Lib.hid (K6.out.far q1 (by omega))
    clear K6
    have K6 := K6n
    clear K6n
    have K7n := Lib.hid (K7.out.far q1 (by omega))
    clear K7
    have K7 := K7n
    clear K7n
    have HBn := Lib.hid (HB.out.trans (q1.2.1 _ (by omega)))
    clear HB
    have HB := HBn
    clear HBn
    have K8n : Hid (Blk 26 w42 N41 (bytC 32 s)) := Lib.hid q1.1
    clear K8
    have K8 := K8n
    clear K8n q1
    go_wp2_with (refine wpList_ld (op := ⟨some 33, _, _, _, _, _⟩) (by rfl) 26 (.tmp 8) rfl N41 0 rfl (bytC 32 s) _ K8.out.all Tryd.underlying26 rfl (info_dL _) ?_; refine Hid.out ?_)
    refine Lib.hid ?_
    go_wp2_with (refine wpList_st rfl 26 (.tmp 6) (.tmp 33) rfl N1 0 rfl (.agg (bytC 32 s)) (bytC 32 s) rfl rfl (info_d _) (byt_one _ _) K6.out (byt_fit _ _ _) (C' := bytC 32 s) (byt_all _ _ _) ?_; intro w51 q1; refine Hid.out ?_)
    refine Lib.hid ?_
    have RTn := Lib.hid (RT.out.far q1 (by omega))
    clear RT
    have RT := RTn
    clear RTn
    have K7n := Lib.hid (K7.out.far q1 (by omega))
    clear K7
    have K7 := K7n
    clear K7n
    have K8n := Lib.hid (K8.out.far q1 (by omega))
    clear K8
    have K8 := K8n
    clear K8n
    have HBn := Lib.hid (HB.out.trans (q1.2.1 _ (by omega)))
    clear HB
    have HB := HBn
    clear HBn
    have K6n : Hid (Blk 26 w51 N1 (bytC 32 s)) := Lib.hid q1.1
    clear K6
    have K6 := K6n
    clear K6n q1
    go_wp2_with fail
    exact bodyPost_ret (results_1 rfl _ _ N1 (bytC 32 s) Tryd.underlying26 rfl (info_d _) rfl K6.out) rfl ⟨rfl, HB.out⟩
  · clear H18
    go_wp2_with (refine wpList_clear (op := ⟨none, _, _, _, _, _⟩) rfl (.tmp 24) rfl g7 (10) 2 _ rfl (by decide) K7.out (by omega) ?_; intro w22 C22 q1 q2; refine Hid.out ?_)
    refine Lib.hid ?_
    have RTn := Lib.hid (RT.out.far q1 (by omega))
    clear RT
    have RT := RTn
    clear RTn
    have K6n := Lib.hid (K6.out.far q1 (by omega))
    clear K6
    have K6 := K6n
    clear K6n
    have HBn := Lib.hid (HB.out.trans (q1.2.1 _ (by omega)))
    clear HB
    have HB := HBn
    clear HBn
    clear K7
    have K7 : Hid (By8 w22 g7 (o + 32) c7 (zapZ (zapZ z o 32) 10 2)) := Lib.hid q2
    clear q1 q2
    go_wp2_with (refine wpList_clear (op := ⟨none, _, _, _, _, _⟩) rfl (.tmp 26) rfl g7 (24) 2 _ rfl (by decide) K7.out (by omega) ?_; intro w23 C23 q1 q2; refine Hid.out ?_)
    refine Lib.hid ?_
    have RTn := Lib.hid (RT.out.far q1 (by omega))
    clear RT
    have RT := RTn
    clear RTn
    have K6n := Lib.hid (K6.out.far q1 (by omega))
    clear K6
    have K6 := K6n
    clear K6n
    have HBn := Lib.hid (HB.out.trans (q1.2.1 _ (by omega)))
    clear HB
    have HB := HBn
    clear HBn
    clear K7
    have K7 : Hid (By8 w23 g7 (o + 32) c7 (zapZ (zapZ (zapZ z o 32) 10 2) 24 2)) := Lib.hid q2
    clear q1 q2
    go_wp2_with fail
    refine (hmac_own (w0 := w) (HK.out.below HB.out rfl) HA.out K7.out HMM.out (by omega) RT.out).mono ?_
    rintro e w31 ⟨rfl, b1⟩
    have RTn := Lib.hid (RT.out.below b1 RT.out.lt)
    clear RT
    have RT := RTn
    clear RTn
    have K6n := Lib.hid (K6.out.below b1 K6.out.lt)
    clear K6
    have K6 := K6n
    clear K6n
    have K7n := Lib.hid (K7.out.below b1 K7.out.lt)
    clear K7
    have K7 := K7n
    clear K7n
    have HBn := Lib.hid (HB.out.trans (b1.mono HB.out.size))
    clear HB
    have HB := HBn
    clear HBn
    clear b1
    rw [show hmacZ k m (zapZ (zapZ (zapZ z o 32) 10 2) 24 2) (o + 32) = s from HS.out]
    obtain ⟨N41, hN41⟩ : ∃ N, w31.heap.size = N := ⟨_, rfl⟩
    have HN41 := Lib.hid hN41
    clear hN41
    go_wp2_with (refine wpList_new (op := ⟨some 8, _, _, _, _, _⟩) rfl 26 rfl (bytC 32 fun _ => 0) zero_d N41 HN41.out ?_; intro w41 k1 b1 s1; refine Hid.out ?_)
    refine Lib.hid ?_
    have K8 := Lib.hid k1
    clear k1
    have lt_0_N41 : 0 < N41 := by rw [← HN41.out]; exact RT.out.lt
    have lt_N1_N41 : N1 < N41 := by rw [← HN41.out]; exact K6.out.lt
    have lt_g7_N41 : g7 < N41 := by rw [← HN41.out]; exact K7.out.lt
    have le_HB_N41 : w.heap.size ≤ N41 := by rw [← HN41.out]; exact HB.out.size
    have RTn := Lib.hid (RT.out.below b1 RT.out.lt)
    clear RT
    have RT := RTn
    clear RTn
    have K6n := Lib.hid (K6.out.below b1 K6.out.lt)
    clear K6
    have K6 := K6n
    clear K6n
    have K7n := Lib.hid (K7.out.below b1 K7.out.lt)
    clear K7
    have K7 := K7n
    clear K7n
    have HBn := Lib.hid (HB.out.trans (b1.mono HB.out.size))
    clear HB
    have HB := HBn
    clear HBn
    clear b1 HN41
    go_wp2_with (refine wpList_st rfl 26 (.tmp 8) (.tmp 31) rfl N41 0 rfl (.agg (bytC 32 s)) (bytC 32 s) rfl rfl (info_d _) (byt_one _ _) K8.out (byt_fit _ _ _) (C' := bytC 32 s) (byt_all _ _ _) ?_; intro w42 q1; refine Hid.out ?_)
    refine Lib.hid ?_
    have RTn := Lib.hid (RT.out.far q1 (by omega))
    clear RT
    have RT := RTn
    clear RTn
    have K6n := Lib.hid (K6.out.far q1 (by omega))
    clear K6
    have K6 := K6n
    clear K6n
    have K7n := Lib.hid (K7.out.far q1 (by omega))
    clear K7
    have K7 := K7n
    clear K7n
    have HBn := Lib.hid (HB.out.trans (q1.2.1 _ (by omega)))
    clear HB
    have HB := HBn
    clear HBn
    have K8n : Hid (Blk 26 w42 N41 (bytC 32 s)) := Lib.hid q1.1
    clear K8
    have K8 := K8n
    clear K8n q1
    go_wp2_with (refine wpList_ld (op := ⟨some 33, _, _, _, _, _⟩) (by rfl) 26 (.tmp 8) rfl N41 0 rfl (bytC 32 s) _ K8.out.all Tryd.underlying26 rfl (info_dL _) ?_; refine Hid.out ?_)
    refine Lib.hid ?_
    go_wp2_with (refine wpList_st rfl 26 (.tmp 6) (.tmp 33) rfl N1 0 rfl (.agg (bytC 32 s)) (bytC 32 s) rfl rfl (info_d _) (byt_one _ _) K6.out (byt_fit _ _ _) (C' := bytC 32 s) (byt_all _ _ _) ?_; intro w51 q1; refine Hid.out ?_)
    refine Lib.hid ?_
    have RTn := Lib.hid (RT.out.far q1 (by omega))
    clear RT
    have RT := RTn
    clear RTn
    have K7n := Lib.hid (K7.out.far q1 (by omega))
    clear K7
    have K7 := K7n
    clear K7n
    have K8n := Lib.hid (K8.out.far q1 (by omega))
    clear K8
    have K8 := K8n
    clear K8n
    have HBn := Lib.hid (HB.out.trans (q1.2.1 _ (by omega)))
    clear HB
    have HB := HBn
    clear HBn
    have K6n : Hid (Blk 26 w51 N1 (bytC 32 s)) := Lib.hid q1.1
    clear K6
    have K6 := K6n
    clear K6n q1
    go_wp2_with fail
    exact bodyPost_ret (results_1 rfl _ _ N1 (bytC 32 s) Tryd.underlying26 rfl (info_d _) rfl K6.out) rfl ⟨rfl, HB.out⟩
set_option maxHeartbeats 8000000 in
set_option maxRecDepth 100000 in
theorem macOf_0 (B : Option Addr) (n c : Nat) (z : Nat → Int) (kd : Int) (A : Option Addr) (m ck : Nat) (k : Nat → Int) (w : World) (h18 : kd ≠ 18) (h20 : kd ≠ 20) (hB : Rd w B n z) (hBn : B = none → n = 0 ∧ c = 0) (hn : 54 ≤ n) (hn2 : n ≤ 1492) (hk : Rd w A m k) (hA : A = none → m = 0 ∧ ck = 0) (hm : m ≤ 64) (hg : Rts w 0) :
    Calls Tryd.prog 41 #[.slice B n c, .int .u8 kd, .slice A m ck] w fun e w' => e = .returned (.agg (bytC 32 (hmacZ k m (zapZ z (n - 32) 32) n))) ∧ Below w.heap.size w w' := by
  have HBB := Lib.hid hB
  have HBN := Lib.hid hBn
  have HK := Lib.hid hk
  have HA := Lib.hid hA
  have HMM := Lib.hid hm
  have RT := Lib.hid hg
  have hg9 := hg.2
  have HN := Lib.hid (And.intro hn hn2)
  obtain ⟨o, ho⟩ : ∃ o, n = o + 32 := ⟨n - 32, by omega⟩
  have HO := Lib.hid ho
  have ho1 : 22 ≤ o := by omega
  have ho2 : o ≤ 1460 := by omega
  obtain ⟨s, es⟩ : ∃ s, hmacZ k m (zapZ z (n - 32) 32) n = s := ⟨_, rfl⟩
  have HS := Lib.hid es
  clear hB hBn hk hA hm hg hn hn2 es
  subst ho
  rw [HS.out]
  have H18 : Hid ((kd == 18) = false ∧ (kd == 20) = false) := Lib.hid ⟨by simpa using h18, by simpa using h20⟩
  clear h18 h20
  go_enter Tryd.func41, Tryd.ntmps41
  have HB := Lib.hid (Below.refl w.heap.size w)
  obtain ⟨N1, hN1⟩ : ∃ N, w.heap.size = N := ⟨_, rfl⟩
  have HN1 := Lib.hid hN1
  clear hN1
  go_wp2_with (refine wpList_new (op := ⟨some 6, _, _, _, _, _⟩) rfl 26 rfl (bytC 32 fun _ => 0) zero_d N1 HN1.out ?_; intro w1 k1 b1 s1; refine Hid.out ?_)
  refine Lib.hid ?_
  have K6 := Lib.hid k1
  clear k1
  have lt_0_N1 : 0 < N1 := by rw [← HN1.out]; exact RT.out.lt
  have le_HB_N1 : w.heap.size ≤ N1 := by rw [← HN1.out]; exact HB.out.size
  have RTn := Lib.hid (RT.out.below b1 RT.out.lt)
  clear RT
  have RT := RTn
  clear RTn
  have HBn := Lib.hid (HB.out.trans (b1.mono HB.out.size))
  clear HB
  have HB := HBn
  clear HBn
  clear b1 HN1
  go_wp2_with fail
  refine (cloneH_any B (o + 32) c z w1 (HBB.out.below HB.out rfl) HBN.out (by omega)).mono ?_
  rintro e w11 ⟨v7, rfl, h7⟩
  obtain ⟨g7, c7, rfl, hg7, ho7⟩ := own_ofB h7.1 (by omega)
  have b1 := h7.2.1
  have lt_6 : N1 < g7 := Nat.lt_of_lt_of_le K6.out.lt hg7
  have lt_R : 0 < g7 := Nat.lt_of_lt_of_le RT.out.lt hg7
  have le_w : w.heap.size ≤ g7 := Nat.le_trans HB.out.size hg7
  have hcap := ho7.caps.1
  have hcm : c7 ≤ 9223372036854775807 := ho7.caps.2
  have RTn := Lib.hid (RT.out.below b1 RT.out.lt)
  clear RT
  have RT := RTn
  clear RTn
  have K6n := Lib.hid (K6.out.below b1 K6.out.lt)
  clear K6
  have K6 := K6n
  clear K6n
  have HBn := Lib.hid (HB.out.trans (b1.mono HB.out.size))
  clear HB
  have HB := HBn
  clear HBn
  have K7 : Hid (By8 w11 g7 (o + 32) c7 z) := Lib.hid ho7
  clear h7 ho7 hg7 b1
  go_wp2_with (refine wpList_clear (op := ⟨none, _, _, _, _, _⟩) rfl (.tmp 16) rfl g7 (o) 32 _ rfl (by decide) K7.out (by omega) ?_; intro w21 C21 q1 q2; refine Hid.out ?_)
  refine Lib.hid ?_
  have RTn := Lib.hid (RT.out.far q1 (by omega))
  clear RT
  have RT := RTn
  clear RTn
  have K6n := Lib.hid (K6.out.far q1 (by omega))
  clear K6
  have K6 := K6n
  clear K6n
  have HBn := Lib.hid (HB.out.trans (q1.2.1 _ (by omega)))
  clear HB
  have HB := HBn
  clear HBn
  clear K7
  have K7 : Hid (By8 w21 g7 (o + 32) c7 (zapZ z o 32)) := Lib.hid q2
  clear q1 q2
  have hk1 := H18.out.1
  have hk2 := H18.out.2
  go_wp2_with fail
  refine (hmac_own (w0 := w) (HK.out.below HB.out rfl) HA.out K7.out HMM.out (by omega) RT.out).mono ?_
  rintro e w31 ⟨rfl, b1⟩
  have RTn := Lib.hid (RT.out.below b1 RT.out.lt)
  clear RT
  have RT := RTn
  clear RTn
  have K6n := Lib.hid (K6.out.below b1 K6.out.lt)
  clear K6
  have K6 := K6n
  clear K6n
  have K7n := Lib.hid (K7.out.below b1 K7.out.lt)
  clear K7
  have K7 := K7n
  clear K7n
  have HBn := Lib.hid (HB.out.trans (b1.mono HB.out.size))
  clear HB
  have HB := HBn
  clear HBn
  clear b1
  rw [show hmacZ k m (zapZ z o 32) (o + 32) = s from HS.out]
  obtain ⟨N41, hN41⟩ : ∃ N, w31.heap.size = N := ⟨_, rfl⟩
  have HN41 := Lib.hid hN41
  clear hN41
  go_wp2_with (refine wpList_new (op := ⟨some 8, _, _, _, _, _⟩) rfl 26 rfl (bytC 32 fun _ => 0) zero_d N41 HN41.out ?_; intro w41 k1 b1 s1; refine Hid.out ?_)
  refine Lib.hid ?_
  have K8 := Lib.hid k1
  clear k1
  have lt_0_N41 : 0 < N41 := by rw [← HN41.out]; exact RT.out.lt
  have lt_N1_N41 : N1 < N41 := by rw [← HN41.out]; exact K6.out.lt
  have lt_g7_N41 : g7 < N41 := by rw [← HN41.out]; exact K7.out.lt
  have le_HB_N41 : w.heap.size ≤ N41 := by rw [← HN41.out]; exact HB.out.size
  have RTn := Lib.hid (RT.out.below b1 RT.out.lt)
  clear RT
  have RT := RTn
  clear RTn
  have K6n := Lib.hid (K6.out.below b1 K6.out.lt)
  clear K6
  have K6 := K6n
  clear K6n
  have K7n := Lib.hid (K7.out.below b1 K7.out.lt)
  clear K7
  have K7 := K7n
  clear K7n
  have HBn := Lib.hid (HB.out.trans (b1.mono HB.out.size))
  clear HB
  have HB := HBn
  clear HBn
  clear b1 HN41
  go_wp2_with (refine wpList_st rfl 26 (.tmp 8) (.tmp 31) rfl N41 0 rfl (.agg (bytC 32 s)) (bytC 32 s) rfl rfl (info_d _) (byt_one _ _) K8.out (byt_fit _ _ _) (C' := bytC 32 s) (byt_all _ _ _) ?_; intro w42 q1; refine Hid.out ?_)
  refine Lib.hid ?_
  have RTn := Lib.hid (RT.out.far q1 (by omega))
  clear RT
  have RT := RTn
  clear RTn
  have K6n := Lib.hid (K6.out.far q1 (by omega))
  clear K6
  have K6 := K6n
  clear K6n
  have K7n := Lib.hid (K7.out.far q1 (by omega))
  clear K7
  have K7 := K7n
  clear K7n
  have HBn := Lib.hid (HB.out.trans (q1.2.1 _ (by omega)))
  clear HB
  have HB := HBn
  clear HBn
  have K8n : Hid (Blk 26 w42 N41 (bytC 32 s)) := Lib.hid q1.1
  clear K8
  have K8 := K8n
  clear K8n q1
  go_wp2_with (refine wpList_ld (op := ⟨some 33, _, _, _, _, _⟩) (by rfl) 26 (.tmp 8) rfl N41 0 rfl (bytC 32 s) _ K8.out.all Tryd.underlying26 rfl (info_dL _) ?_; refine Hid.out ?_)
  refine Lib.hid ?_
  go_wp2_with (refine wpList_st rfl 26 (.tmp 6) (.tmp 33) rfl N1 0 rfl (.agg (bytC 32 s)) (bytC 32 s) rfl rfl (info_d _) (byt_one _ _) K6.out (byt_fit _ _ _) (C' := bytC 32 s) (byt_all _ _ _) ?_; intro w51 q1; refine Hid.out ?_)
  refine Lib.hid ?_
  have RTn := Lib.hid (RT.out.far q1 (by omega))
  clear RT
  have RT := RTn
  clear RTn
  have K7n := Lib.hid (K7.out.far q1 (by omega))
  clear K7
  have K7 := K7n
  clear K7n
  have K8n := Lib.hid (K8.out.far q1 (by omega))
  clear K8
  have K8 := K8n
  clear K8n
  have HBn := Lib.hid (HB.out.trans (q1.2.1 _ (by omega)))
  clear HB
  have HB := HBn
  clear HBn
  have K6n : Hid (Blk 26 w51 N1 (bytC 32 s)) := Lib.hid q1.1
  clear K6
  have K6 := K6n
  clear K6n q1
  go_wp2_with fail
  exact bodyPost_ret (results_1 rfl _ _ N1 (bytC 32 s) Tryd.underlying26 rfl (info_d _) rfl K6.out) rfl ⟨rfl, HB.out⟩
end Go.Proofs.YtccoicjmmeoggaaDoor

/- mac.Seal: what it answers, for every packet and key. Each theorem states its conditions. -/
namespace Go.Proofs.YtccoicjmmeoggaaDoor
open Go.RowKit
set_option linter.unusedVariables false

/-- a key's cells -/
def keyC (id : Nat) (A : Option Addr) (n c : Nat) : Array Value := #[.int .u16 (id : Int), .slice A n c]
/-- facts that are carried along by what lies below -/
def ByO (w : World) (g n cap : Nat) (z : Nat → Int) : Prop := Own8 w g n cap z
theorem ByO.below {w w' : World} {g n cap : Nat} {z : Nat → Int} (h : ByO w g n cap z) (hb : Below w.heap.size w w') : ByO w' g n cap z := Own8.below h hb (Own8.lt h)
def BlO (t : TypeId) (w : World) (g : Nat) (C : Array Value) : Prop := Blk t w g C
theorem BlO.below {t : TypeId} {w w' : World} {g : Nat} {C : Array Value} (h : BlO t w g C) (hb : Below w.heap.size w w') : BlO t w' g C := Blk.below h hb (Blk.lt h)
def RdO (w : World) (A : Option Addr) (n : Nat) (z : Nat → Int) : Prop := Rd w A n z
theorem RdO.below {w w' : World} {A : Option Addr} {n : Nat} {z : Nat → Int} (h : RdO w A n z) (hb : Below w.heap.size w w') : RdO w' A n z := Rd.below h hb rfl
/-- a slice of some values is made, where it alone may come up -/
theorem takeBsn {ops : Array Oper} {Q : Exit → Act → World → Prop} {md : Region.Mode} {S : World → Prop} {i : Nat} {oi : Oper} (d : Option Tmp) {fuel : Nat} {listed : Array Bool} {a : Act} {w : World} (n : Nat) (t : TypeId) (C : Array Value) (hi : ops[i]? = some oi) (hd : oi.dst = d)
    (hr : Region.ready md ops listed = [i]) (hw : Region.wanted oi (yielded ops a.tmps) = true) (hx : (execOp a.eval oi).run Tryd.prog w = .ok (.value (.slice (some ⟨w.heap.size, 0, none⟩) n n)) (w.alloc (.cells C t))) (N : Nat) (hN : w.heap.size = N)
    (h : ∀ w', Blk t w' N C → Below w.heap.size w w' → N + 1 ≤ w'.heap.size → S w' ∧ wpAnyH Tryd.prog md ops Q S fuel (listed.setIfInBounds i true) (a.put d (.slice (some ⟨N, 0, none⟩) n n)) w') : wpAnyH Tryd.prog md ops Q S (fuel + 1) listed a w := by
  subst hN
  obtain ⟨h1, h2⟩ := h _ (heap_alloc_new w _) ((Below.refl _ _).alloc (Nat.le_refl _) _) (by simp)
  exact takeV d hi hd hr hw hx h1 h2
theorem bs_one (W : World) (o : Oper) (e : Operand → Value) {x0 : Operand} (ho : o.op = .buildSlice 40 1 #[(0, x0)]) (t : It) (h0 : e x0 = .agg (itC t)) :
    (execOp e o).run Tryd.prog W = .ok (.value (.slice (some ⟨W.heap.size, 0, none⟩) 1 1)) (W.alloc (.cells (itC t) 49)) := by
  unfold execOp
  simp only [ho]
  simp only [List.map_toArray, List.map_cons, List.map_nil, h0]
  kernel_rfl
theorem nou_bd : ∀ j, 0 ≤ nou j ∧ nou j ≤ 255 := fun _ => ⟨Int.le_refl 0, by show (0 : Int) ≤ 255; decide⟩
theorem it_ok {w : World} {g c : Nat} {z : Nat → Int} (h : ByO w g 35 c z) : ItOk w ⟨10, some ⟨g, 0, none⟩, 35, c, z⟩ :=
  ⟨⟨by show (0 : Int) ≤ 10; decide, by show (10 : Int) ≤ 255; decide⟩, Own8.rd h, fun e => (by cases e), by show 35 ≤ 140737488351232; decide⟩
/-- the first n alone -/
def cutN (n : Nat) (z : Nat → Int) : Nat → Int := fun j => if j < n then z j else 0
theorem cutN_lt {n j : Nat} (z : Nat → Int) (h : j < n) : cutN n z j = z j := if_pos h
theorem cutN_bd {n : Nat} {z z' : Nat → Int} (he : ∀ j, j < n → z j = z' j) (hz : ∀ j, 0 ≤ z j ∧ z j ≤ 255) : ∀ j, 0 ≤ cutN n z' j ∧ cutN n z' j ≤ 255 := by
  intro j
  unfold cutN
  split
  · rename_i h; rw [← he j h]; exact hz j
  · omega
theorem rd_cutN {w : World} {A : Option Addr} {n : Nat} {z z' : Nat → Int} (h : Rd w A n z) (he : ∀ j, j < n → z j = z' j) : Rd w A n (cutN n z') := by
  have hb := cutN_bd he h.2
  refine ⟨?_, hb⟩
  rcases h.1 with h1 | ⟨b, off, e, hr⟩
  · exact .inl h1
  · exact .inr ⟨b, off, e, hr.1, fun j hj => by rw [cutN_lt _ hj, ← he j hj]; exact hr.2.1 j hj, hb⟩
theorem own8_cut {w : World} {g n c : Nat} {z z' : Nat → Int} (h : Own8 w g n c z) (he : ∀ j, j < n → z j = z' j) : Own8 w g n c (cutN n z') := by
  obtain ⟨⟨cur, h1, h2, h3, h4, h5⟩, h6⟩ := h
  exact ⟨⟨cur, h1, h2, h3, h4, fun j hj => by rw [cutN_lt _ hj, ← he j hj]; exact h5 j hj⟩, cutN_bd he h6⟩
/-- the list with a signature behind it; the packet that has it -/
def slT (L : Nat → It) (m id : Nat) (z : Nat → Int) : Nat → It := addT L m ⟨10, none, 35, 35, sigZ id z⟩
def slP (p : Pd) : Pd := withT p none (p.m + 1) 0
theorem wr_sl (p : Pd) (L : Nat → It) (A : Option Addr) (c id : Nat) (z : Nat → Int) (m0 : Nat) (t : It) (h1 : t.ty = 10) (h2 : t.n = 35) (h3 : t.z = sigZ id z) :
    wrX (withT p A (p.m + 1) c) (addT L p.m t) m0 = wrX (slP p) (slT L p.m id z) m0 ∧ wrN (withT p A (p.m + 1) c) (addT L p.m t) m0 = wrN (slP p) (slT L p.m id z) m0 ∧ ∀ j, j < wrN (slP p) (slT L p.m id z) m0 → wrZ (withT p A (p.m + 1) c) (addT L p.m t) m0 j = wrZ (slP p) (slT L p.m id z) m0 j := by
  have hl : AlikeL (slP p).m (slT L p.m id z) (addT L p.m t) := by
    intro j hj
    have hj' : j < p.m + 1 := hj
    unfold slT
    by_cases h : j < p.m
    · rw [addT_lo _ _ _ _ h, addT_lo _ _ _ _ h]; exact ⟨rfl, rfl, fun _ _ => rfl⟩
    · obtain rfl : j = p.m := by omega
      rw [addT_hi, addT_hi]; exact ⟨h1.symm, h2.symm, fun _ _ => by rw [h3]⟩
  obtain ⟨e1, e2, e3⟩ := wr_like (p := withT p A (p.m + 1) c) (p' := slP p) ⟨rfl, rfl, fun i _ => ⟨rfl, fun W => rfl⟩⟩ (addT L p.m t) m0
  obtain ⟨f1, f2, f3⟩ := wr_items (p := slP p) m0 hl
  exact ⟨by rw [e1, f1], by rw [e2, f2], fun j hj => by rw [e3]; exact f3 j hj⟩
theorem sl_ends {L : Nat → It} {m m0 id : Nat} {z : Nat → Int} (t : It) (h : t.n = 35) (hm : JEnds (slT L m id z) (m + 1) m0) : JEnds (addT L m t) (m + 1) m0 :=
  jends_congr (fun j hj => by
    unfold slT
    by_cases h9 : j < m
    · rw [addT_lo _ _ _ _ h9, addT_lo _ _ _ _ h9]
    · obtain rfl : j = m := by omega
      rw [addT_hi, addT_hi]; exact h.symm) hm
/-- is there a signature? -/
def HasSig (L : Nat → It) (m : Nat) (b : Bool) : Prop := (b = true ∧ ∃ k, AtSig L m k) ∨ (b = false ∧ NoSig L m)
theorem hasSig_eq {L : Nat → It} {m : Nat} {q b : Bool} (h : (q = true ∧ ∃ k, AtSig L m k) ∨ (q = false ∧ NoSig L m)) (hb : HasSig L m b) : q = b := by
  rcases h with ⟨rfl, k, h1, h2, _⟩ | ⟨rfl, h1⟩ <;> rcases hb with ⟨rfl, j, g1, g2, _⟩ | ⟨rfl, g1⟩
  · rfl
  · exact absurd h2 (g1 k h1)
  · exact absurd g2 (h1 j g1)
  · rfl
theorem hasSig_ex (L : Nat → It) (m : Nat) : ∃ b, HasSig L m b := by
  induction m with
  | zero => exact ⟨false, .inr ⟨rfl, fun j hj => by omega⟩⟩
  | succ m ih =>
    obtain ⟨b, hb⟩ := ih
    rcases hb with ⟨rfl, k, h1, h2, h3⟩ | ⟨rfl, h1⟩
    · exact ⟨true, .inl ⟨rfl, k, by omega, h2, h3⟩⟩
    · by_cases h : (L m).ty = 10
      · exact ⟨true, .inl ⟨rfl, m, by omega, h, h1⟩⟩
      · exact ⟨false, .inr ⟨rfl, noSig_next h1 (by simpa using h)⟩⟩
/-- what Seal says; how many bytes; which -/
def seX (p : Pd) (L : Nat → It) (m0 id sn : Nat) (b : Bool) : Int := if b = true then lea (lea (wrX (slP p) (slT L p.m id nou) m0) (secE sn)) 3 else lea (wrX (slP p) (slT L p.m id nou) m0) (secE sn)
def seM (p : Pd) (L : Nat → It) (m0 id : Nat) (k : Nat → Int) (sn : Nat) : Nat → Int :=
  hmacZ k sn (blkZ (p.kd = 18 ∨ p.kd = 20) (cutN (wrN (slP p) (slT L p.m id nou) m0) (wrZ (slP p) (slT L p.m id nou) m0)) (wrN (slP p) (slT L p.m id nou) m0)) (wrN (slP p) (slT L p.m id nou) m0)
def seN (p : Pd) (L : Nat → It) (m0 id sn : Nat) (b : Bool) : Nat := if seX p L m0 id sn b = 0 then wrN (slP p) (slT L p.m id nou) m0 else 0
def seZ (p : Pd) (L : Nat → It) (m0 id : Nat) (k : Nat → Int) (sn : Nat) (b : Bool) : Nat → Int := if seX p L m0 id sn b = 0 then cutN (wrN (slP p) (slT L p.m id nou) m0) (wrZ (slP p) (slT L p.m id (seM p L m0 id k sn)) m0) else fun _ => 0
theorem wr_err {w w' : World} {p : Pd} {L : Nat → It} {m0 id sn : Nat} {k : Nat → Int} {b : Bool} {X : Int} {e : Ending} (hX : seX p L m0 id sn b = X) (h0 : X ≠ 0) (he : e = .returned (.tuple #[.slice none 0 0, .int .i64 X])) (hb : Below w.heap.size w w') : WrP w (seN p L m0 id sn b) (seX p L m0 id sn b) (seZ p L m0 id k sn b) e w' := by
  unfold seN seZ
  rw [hX, if_neg h0, if_neg h0]
  exact wr_none h0 he hb
theorem lea_zero {a b : Int} (h : lea a b = 0) : a = 0 ∧ b = 0 := by
  unfold lea at h
  split at h
  · exact ⟨by assumption, h⟩
  · split at h
    · omega
    · split at h <;> omega
theorem secE_zero {n : Nat} (h : secE n = 0) : 0 < n ∧ n ≤ 64 := by
  unfold secE at h
  split at h
  · omega
  · split at h <;> omega
/-- what hangs on the size alone -/
theorem slT_z (p : Pd) (L : Nat → It) (m0 id : Nat) (z z' : Nat → Int) : wrX (slP p) (slT L p.m id z) m0 = wrX (slP p) (slT L p.m id z') m0 ∧ wrN (slP p) (slT L p.m id z) m0 = wrN (slP p) (slT L p.m id z') m0 := by
  have hs : sz (slT L p.m id z) (p.m + 1) = sz (slT L p.m id z') (p.m + 1) := sz_congr (m := p.m + 1) (fun j hj => by
    unfold slT
    by_cases h9 : j < p.m
    · rw [addT_lo _ _ _ _ h9, addT_lo _ _ _ _ h9]
    · obtain rfl : j = p.m := by omega
      rw [addT_hi, addT_hi]) (p.m + 1) (Nat.le_refl _)
  have hm : (slP p).m = p.m + 1 := rfl
  have e1 : wrX (slP p) (slT L p.m id z) m0 = wrX (slP p) (slT L p.m id z') m0 := by unfold wrX; rw [hm, hs]
  exact ⟨e1, by unfold wrN; rw [e1, hm, hs]⟩
theorem sl_54 {p : Pd} {L : Nat → It} {m0 id : Nat} {z : Nat → Int} (h : wrX (slP p) (slT L p.m id z) m0 = 0) : 54 ≤ wrN (slP p) (slT L p.m id z) m0 := by
  unfold wrN
  rw [if_pos h]
  have hc := cls_le (slP p).kd
  have h5 : ¬ cls (slP p).kd = 5 := fun h5 => by rw [(wr_1 _ _ m0 (.inl h5)).1] at h; exact absurd h (by decide)
  have := hdN_bd (cls (slP p).kd) (by omega)
  have e : sz (slT L p.m id z) (p.m + 1) = sz (slT L p.m id z) p.m + ((slT L p.m id z p.m).n + 2) := by simp only [sz]; omega
  have e2 : (slT L p.m id z p.m).n = 35 := by unfold slT; rw [addT_hi]
  have e3 : sz (slT L p.m id z) (slP p).m = sz (slT L p.m id z) (p.m + 1) := rfl
  omega
theorem macOf_any (B : Option Addr) (n c : Nat) (z : Nat → Int) (kd : Int) (A : Option Addr) (m ck : Nat) (k : Nat → Int) (w : World) (hB : Rd w B n z) (hBn : B = none → n = 0 ∧ c = 0) (hn : 54 ≤ n) (hn2 : n ≤ 1492) (hk : Rd w A m k) (hA : A = none → m = 0 ∧ ck = 0) (hm : m ≤ 64) (hg : Rts w 0) :
    Calls Tryd.prog 41 #[.slice B n c, .int .u8 kd, .slice A m ck] w fun e w' => e = .returned (.agg (bytC 32 (hmacZ k m (blkZ (kd = 18 ∨ kd = 20) z n) n))) ∧ Below w.heap.size w w' := by
  by_cases h : kd = 18 ∨ kd = 20
  · unfold blkZ
    rw [if_pos h]
    exact macOf_2 B n c z kd A m ck k w h hB hBn hn hn2 hk hA hm hg
  · unfold blkZ
    rw [if_neg h]
    exact macOf_0 B n c z kd A m ck k w (fun e => h (.inl e)) (fun e => h (.inr e)) hB hBn hn hn2 hk hA hm hg
/-- answers, told as values -/
def SigV (w : World) (id : Nat) (z : Nat → Int) (v : Value) (w' : World) : Prop := ∃ g c, v = .agg (itC ⟨10, some ⟨g, 0, none⟩, 35, c, sigZ id z⟩) ∧ w.heap.size ≤ g ∧ Own8 w' g 35 c (sigZ id z) ∧ 35 ≤ c ∧ c ≤ maxLen ∧ Below w.heap.size w w'
theorem SigP.v {w w' : World} {id : Nat} {z : Nat → Int} {e : Ending} (h : SigP w id z e w') : ∃ v, e = .returned v ∧ SigV w id z v w' := by
  obtain ⟨g, c, rfl, h⟩ := h
  exact ⟨_, rfl, g, c, rfl, h⟩
def WithV (w : World) (p : Pd) (L : Nat → It) (t : It) (v : Value) (w' : World) : Prop := ∃ g c, v = .agg (pdC (withT p (some ⟨g, 0, none⟩) (p.m + 1) c)) ∧ w.heap.size ≤ g ∧ RdT w' (some ⟨g, 0, none⟩) (p.m + 1) (addT L p.m t) ∧ p.m + 1 ≤ c ∧ c ≤ maxLen ∧ Below w.heap.size w w'
theorem WithP.v {w w' : World} {p : Pd} {L : Nat → It} {t : It} {e : Ending} (h : WithP w p L t e w') : ∃ v, e = .returned v ∧ WithV w p L t v w' := by
  obtain ⟨g, c, rfl, h⟩ := h
  exact ⟨_, rfl, g, c, rfl, h⟩
def VrP (w : World) (n : Nat) (X : Int) (z : Nat → Int) (v : Value) (w' : World) : Prop :=
  ∃ A c, v = .tuple #[.slice A n c, .int .i64 X] ∧ Rd w' A n z ∧ n ≤ c ∧ c ≤ maxLen ∧ Below w.heap.size w w' ∧ (X = 0 → ∃ g, A = some ⟨g, 0, none⟩ ∧ w.heap.size ≤ g ∧ Own8 w' g n c z)
theorem WrP.vr {w w' : World} {n N : Nat} {X X' : Int} {z z' Z : Nat → Int} {e : Ending} {n' : Nat} {X2 : Int} (h : WrP w n X z e w') (he : X = X2 ∧ n = n' ∧ ∀ j, j < n' → z j = z' j) (hX : X2 = X') (hN : n' = N) (hZ : cutN N z' = Z) : ∃ v, e = .returned v ∧ VrP w N X' Z v w' := by
  obtain ⟨e1, e2, e3⟩ := he
  subst hX hN hZ e1 e2
  obtain ⟨A, c, rfl, h1, h2, h3, h4, h5⟩ := h
  exact ⟨_, rfl, A, c, rfl, rd_cutN h1 e3, h2, h3, h4, fun h => (h5 h).elim fun g h => ⟨g, h.1, h.2.1, own8_cut h.2.2 e3⟩⟩
theorem sl_x {p : Pd} {L : Nat → It} {m0 id : Nat} {z z' : Nat → Int} (h : wrX (slP p) (slT L p.m id z) m0 = 0) : wrX (slP p) (slT L p.m id z') m0 = 0 := (slT_z p L m0 id z' z).1.trans h
theorem sl_n {p : Pd} {L : Nat → It} {m0 id sn : Nat} {z : Nat → Int} (h : wrX (slP p) (slT L p.m id nou) m0 = 0) (h0 : seX p L m0 id sn false = 0) : wrN (slP p) (slT L p.m id z) m0 = seN p L m0 id sn false := by
  unfold seN
  rw [if_pos h0]
  exact (slT_z p L m0 id z nou).2
theorem sl_z {p : Pd} {L : Nat → It} {m0 id sn N1 : Nat} {k Z1 M : Nat → Int} (h0 : seX p L m0 id sn false = 0) (hx : wrX (slP p) (slT L p.m id nou) m0 = 0) (hN : wrN (slP p) (slT L p.m id nou) m0 = N1) (hZ : cutN N1 (wrZ (slP p) (slT L p.m id nou) m0) = Z1) (hM : hmacZ k sn (blkZ (p.kd = 18 ∨ p.kd = 20) Z1 N1) N1 = M) :
    cutN (seN p L m0 id sn false) (wrZ (slP p) (slT L p.m id M) m0) = seZ p L m0 id k sn false := by
  unfold seN seZ seM
  rw [if_pos h0, if_pos h0, hN, hZ, hM]
set_option maxHeartbeats 40000000 in
set_option maxRecDepth 100000 in
theorem seal_any (p : Pd) (hp : PdOk p) (L : Nat → It) (m0 id : Nat) (A : Option Addr) (sn sc : Nat) (k : Nat → Int) (b : Bool) (hm : JEnds (slT L p.m id nou) (p.m + 1) m0) (w : World) (hR : RdT w p.A p.m L) (hA : p.A = none → p.m = 0 ∧ p.c = 0) (h32 : p.m * 32 ≤ 140737488351232)
    (hid : id ≤ 65535) (hk : Rd w A sn k) (hkA : A = none → sn = 0 ∧ sc = 0) (hb : HasSig L p.m b) (hg : Rts w 0) :
    Calls Tryd.prog 18 #[.agg (pdC p), .agg (keyC id A sn sc)] w (WrP w (seN p L m0 id sn b) (seX p L m0 id sn b) (seZ p L m0 id k sn b)) := by
  have HP := Lib.hid hp
  have HM := Lib.hid hm
  have HR := Lib.hid hR
  have HA := Lib.hid hA
  have H32 := Lib.hid h32
  have HID := Lib.hid hid
  have HK := Lib.hid hk
  have HKA := Lib.hid hkA
  have HBB := Lib.hid hb
  have RT := Lib.hid hg
  have hg9 := hg.2
  obtain ⟨Xu, hXu⟩ : ∃ X, wrX (slP p) (slT L p.m id nou) m0 = X := ⟨_, rfl⟩
  have bX := wrX_bd (slP p) (slT L p.m id nou) m0
  rw [hXu] at bX
  obtain ⟨Nu, hNu⟩ : ∃ N, wrN (slP p) (slT L p.m id nou) m0 = N := ⟨_, rfl⟩
  have bN := wrN_le (slP p) (slT L p.m id nou) m0
  rw [hNu] at bN
  obtain ⟨Zu, hZu⟩ : ∃ Z, cutN Nu (wrZ (slP p) (slT L p.m id nou) m0) = Z := ⟨_, rfl⟩
  have HXu := Lib.hid hXu
  have HNu := Lib.hid hNu
  have HZu := Lib.hid hZu
  have BX := Lib.hid bX
  have BN := Lib.hid bN
  have hid2 : (0 : Int) ≤ (id : Int) ∧ (id : Int) ≤ 65535 := ⟨by omega, by omega⟩
  clear hp hm hR hA h32 hid hk hkA hb hg hXu hNu hZu bX bN
  go_enter Tryd.func18, Tryd.ntmps18
  have HB := Lib.hid (Below.refl w.heap.size w)
  obtain ⟨N1, hN1⟩ : ∃ N, w.heap.size = N := ⟨_, rfl⟩
  have HN1 := Lib.hid hN1
  clear hN1
  go_wp2_with (refine wpList_box (op := ⟨some 2, _, _, _, _, _⟩) rfl 46 (.tmp 0) rfl (pdC p) rfl N1 HN1.out ?_; intro w1 k1 b1 s1; refine Hid.out ?_)
  refine Lib.hid ?_
  have KP := Lib.hid k1
  clear k1
  have lt_0_N1 : 0 < N1 := by rw [← HN1.out]; exact RT.out.lt
  have le_HB_N1 : w.heap.size ≤ N1 := by rw [← HN1.out]; exact HB.out.size
  have RTn := Lib.hid (RT.out.below b1 RT.out.lt)
  clear RT
  have RT := RTn
  clear RTn
  have HBn := Lib.hid (HB.out.trans (b1.mono HB.out.size))
  clear HB
  have HB := HBn
  clear HBn
  clear b1 HN1
  obtain ⟨N2, hN2⟩ : ∃ N, w1.heap.size = N := ⟨_, rfl⟩
  have HN2 := Lib.hid hN2
  clear hN2
  go_wp2_with (refine wpList_box (op := ⟨some 3, _, _, _, _, _⟩) rfl 45 (.tmp 1) rfl (keyC id A sn sc) rfl N2 HN2.out ?_; intro w2 k1 b1 s1; refine Hid.out ?_)
  refine Lib.hid ?_
  have KK := Lib.hid k1
  clear k1
  have lt_0_N2 : 0 < N2 := by rw [← HN2.out]; exact RT.out.lt
  have lt_N1_N2 : N1 < N2 := by rw [← HN2.out]; exact KP.out.lt
  have le_HB_N2 : w.heap.size ≤ N2 := by rw [← HN2.out]; exact HB.out.size
  have RTn := Lib.hid (RT.out.below b1 RT.out.lt)
  clear RT
  have RT := RTn
  clear RTn
  have KPn := Lib.hid (KP.out.below b1 KP.out.lt)
  clear KP
  have KP := KPn
  clear KPn
  have HBn := Lib.hid (HB.out.trans (b1.mono HB.out.size))
  clear HB
  have HB := HBn
  clear HBn
  clear b1 HN2
  go_wp2_with fail
  refine wp_region_held_drew (S := fun w' => Rts w' 0  ∧ Blk 46 w' N1 (pdC p) ∧ Blk 45 w' N2 (keyC id A sn sc) ∧ Below w.heap.size w w') (by kernel_rfl) ⟨RT.out, KP.out, KK.out, HB.out.drew⟩ (fun hS => ?_)
  generalize hW3 : w2.drew = W3 at hS  ⊢
  clear hW3
  clear RT
  clear KP
  clear KK
  clear HB
  have RT := Lib.hid hS.1
  have KP := Lib.hid hS.2.1
  have KK := Lib.hid hS.2.2.1
  have HB := Lib.hid hS.2.2.2
  refine takeL (i := 0) (some 9) 46 (.tmp 2) N1 0 (pdC p) _ rfl rfl (by kernel_rfl) (by kernel_rfl) (by kernel_rfl) (fun _ _ _ h => h) (by rfl) rfl rfl (fun w' hS => hS.2.1.all) Tryd.underlying46 rfl info_pdP hS ?_
  simp only [Act.put, List.setIfInBounds_toArray, List.set_cons_zero, List.set_cons_succ]
  refine takeY (i := 1) (some 10) (v := .pointer (some ⟨N2, 0, none⟩)) rfl rfl (by kernel_rfl) (by kernel_rfl) (by kernel_rfl) (fun _ _ _ h => h) (by rfl) (fun w' hS => by go_simp) hS ?_
  simp only [Act.put, List.setIfInBounds_toArray, List.set_cons_zero, List.set_cons_succ]
  refine takeY (i := 2) (some 11) (v := .int .u16 (id : Int)) rfl rfl (by kernel_rfl) (by kernel_rfl) (by kernel_rfl) (fun _ _ _ h => h) (by rfl) (fun w' hS => by (have c9 : w'.cell? ⟨N2, 0, none⟩ = some (.int .u16 (id : Int)) := (hS.2.2.1.cell 0).trans rfl; clear hS; go_simp)) hS ?_
  simp only [Act.put, List.setIfInBounds_toArray, List.set_cons_zero, List.set_cons_succ]
  refine takeY (i := 3) (some 12) (v := .agg (bytC 32 nou)) rfl rfl (by kernel_rfl) (by kernel_rfl) (by kernel_rfl) (fun _ _ _ h => h) (by rfl) (fun w' hS => by exact build_d0 _ _ rfl _) hS ?_
  simp only [Act.put, List.setIfInBounds_toArray, List.set_cons_zero, List.set_cons_succ]
  refine takeCE (i := 4) (some 13) 36 #[.int .u16 (id : Int), .agg (bytC 32 (nou))] (R := fun v w' => SigV W3 id (nou) v w') rfl rfl (by kernel_rfl) (by rfl) (by go_simp) ((signature_any id (nou) W3 HID.out nou_bd).mono fun e w' h => h.v) (fun v w' h => by obtain ⟨gs, cs, rfl, hgs, hos, hcs, hcm, hbs⟩ := h; exact ⟨hS.1.below hbs hS.1.lt, hS.2.1.below hbs hS.2.1.lt, hS.2.2.1.below hbs hS.2.2.1.lt, hS.2.2.2.trans (hbs.mono hS.2.2.2.size)⟩) (fun v W4 h hS2 => ?_)
  obtain ⟨gs, cs, rfl, hgs, hos, hcs, hcm, hbs⟩ := h
  clear hS2
  simp only [Act.put, List.setIfInBounds_toArray, List.set_cons_zero, List.set_cons_succ]
  have HGS1 : Hid (W3.heap.size ≤ gs) := Lib.hid hgs
  have KS : Hid (ByO W4 gs 35 cs (sigZ id (nou))) := Lib.hid hos
  have HCS := Lib.hid (And.intro hcs hcm)
  clear hos hcs hcm hgs
  have RTn := Lib.hid (RT.out.below hbs RT.out.lt)
  clear RT
  have RT := RTn
  clear RTn
  have KPn := Lib.hid (KP.out.below hbs KP.out.lt)
  clear KP
  have KP := KPn
  clear KPn
  have KKn := Lib.hid (KK.out.below hbs KK.out.lt)
  clear KK
  have KK := KKn
  clear KKn
  have HBn := Lib.hid (HB.out.trans (hbs.mono HB.out.size))
  clear HB
  have HB := HBn
  clear HBn
  clear hbs hS
  have hS := (And.intro RT.out (And.intro KP.out (And.intro KK.out HB.out)))
  obtain ⟨N5, hN5⟩ : ∃ N, W4.heap.size = N := ⟨_, rfl⟩
  have HN5 := Lib.hid hN5
  clear hN5
  refine takeBsn (i := 5) (some 14) 1 49 (itC ⟨10, some ⟨gs, 0, none⟩, 35, cs, sigZ id (nou)⟩) rfl rfl (by kernel_rfl) (by rfl) (bs_one _ _ _ rfl ⟨10, some ⟨gs, 0, none⟩, 35, cs, sigZ id (nou)⟩ rfl) N5 HN5.out (fun W5 k1 b1 s1 => ⟨⟨hS.1.below b1 hS.1.lt, hS.2.1.below b1 hS.2.1.lt, hS.2.2.1.below b1 hS.2.2.1.lt, hS.2.2.2.trans (b1.mono hS.2.2.2.size)⟩, ?_⟩)
  simp only [Act.put, List.setIfInBounds_toArray, List.set_cons_zero, List.set_cons_succ]
  have KT : Hid (BlO 49 W5 N5 (itC ⟨10, some ⟨gs, 0, none⟩, 35, cs, sigZ id (nou)⟩)) := Lib.hid k1
  clear k1
  have KSn := Lib.hid (KS.out.below b1)
  clear KS
  have KS := KSn
  clear KSn
  have RTn := Lib.hid (RT.out.below b1 RT.out.lt)
  clear RT
  have RT := RTn
  clear RTn
  have KPn := Lib.hid (KP.out.below b1 KP.out.lt)
  clear KP
  have KP := KPn
  clear KPn
  have KKn := Lib.hid (KK.out.below b1 KK.out.lt)
  clear KK
  have KK := KKn
  clear KKn
  have HBn := Lib.hid (HB.out.trans (b1.mono HB.out.size))
  clear HB
  have HB := HBn
  clear HBn
  clear b1 hS HN5
  have hS := (And.intro RT.out (And.intro KP.out (And.intro KK.out HB.out)))
  have HIT : Hid (ItOk W5 ⟨10, some ⟨gs, 0, none⟩, 35, cs, sigZ id (nou)⟩) := Lib.hid (it_ok KS.out)
  have HRW := Lib.hid (HR.out.below HB.out)
  refine takeCE (i := 6) (some 15) 35 #[.agg (pdC p), .slice (some ⟨N5, 0, none⟩) 1 1] (R := fun v w' => WithV W5 p L ⟨10, some ⟨gs, 0, none⟩, 35, cs, sigZ id (nou)⟩ v w') rfl rfl (by kernel_rfl) (by rfl) (by go_simp) ((with_any p L ⟨10, some ⟨gs, 0, none⟩, 35, cs, sigZ id (nou)⟩ N5 W5 HRW.out HA.out H32.out KT.out HIT.out).mono fun e w' h => h.v) (fun v w' h => by obtain ⟨g9, c9, rfl, hg9, hl9, hc9, hm9, hb9⟩ := h; exact ⟨hS.1.below hb9 hS.1.lt, hS.2.1.below hb9 hS.2.1.lt, hS.2.2.1.below hb9 hS.2.2.1.lt, hS.2.2.2.trans (hb9.mono hS.2.2.2.size)⟩) (fun v W6 h hS2 => ?_)
  obtain ⟨g9, c9, rfl, hg9, hl9, hc9, hm9, hb9⟩ := h
  clear hS2
  simp only [Act.put, List.setIfInBounds_toArray, List.set_cons_zero, List.set_cons_succ]
  have HL9 : Hid (RdT W6 (some ⟨g9, 0, none⟩) (p.m + 1) (addT L p.m ⟨10, some ⟨gs, 0, none⟩, 35, cs, sigZ id (nou)⟩)) := Lib.hid hl9
  have HC9 := Lib.hid (And.intro hc9 hm9)
  clear hl9 hc9 hm9 hg9 HIT HRW KT
  have KSn := Lib.hid (KS.out.below hb9)
  clear KS
  have KS := KSn
  clear KSn
  have RTn := Lib.hid (RT.out.below hb9 RT.out.lt)
  clear RT
  have RT := RTn
  clear RTn
  have KPn := Lib.hid (KP.out.below hb9 KP.out.lt)
  clear KP
  have KP := KPn
  clear KPn
  have KKn := Lib.hid (KK.out.below hb9 KK.out.lt)
  clear KK
  have KK := KKn
  clear KKn
  have HBn := Lib.hid (HB.out.trans (hb9.mono HB.out.size))
  clear HB
  have HB := HBn
  clear HBn
  clear hb9 hS
  have hS := (And.intro RT.out (And.intro KP.out (And.intro KK.out HB.out)))
  have HEQ := Lib.hid (wr_sl p L (some ⟨g9, 0, none⟩) c9 id (nou) m0 ⟨10, some ⟨gs, 0, none⟩, 35, cs, sigZ id (nou)⟩ rfl rfl rfl)
  have HIN : Hid (PdIn W6 (withT p (some ⟨g9, 0, none⟩) (p.m + 1) c9) (addT L p.m ⟨10, some ⟨gs, 0, none⟩, 35, cs, sigZ id (nou)⟩)) := Lib.hid ⟨HL9.out, HC9.out.1, HC9.out.2⟩
  have HJ : Hid (JEnds (addT L p.m ⟨10, some ⟨gs, 0, none⟩, 35, cs, sigZ id (nou)⟩) (p.m + 1) m0) := Lib.hid (sl_ends ⟨10, some ⟨gs, 0, none⟩, 35, cs, sigZ id (nou)⟩ rfl HM.out)
  refine takeCE (i := 7) (some 16) 28 #[.agg (pdC (withT p (some ⟨g9, 0, none⟩) (p.m + 1) c9))] (R := fun v w' => VrP W6 Nu Xu Zu v w') rfl rfl (by kernel_rfl) (by rfl) (by go_simp) ((write_any (withT p (some ⟨g9, 0, none⟩) (p.m + 1) c9) HP.out (addT L p.m ⟨10, some ⟨gs, 0, none⟩, 35, cs, sigZ id (nou)⟩) m0 HJ.out W6 HIN.out).mono fun e w' h => h.vr HEQ.out HXu.out HNu.out HZu.out) (fun v w' h => by obtain ⟨AU, cu, rfl, hu1, hu2, hu3, hb7, hu4⟩ := h; exact ⟨hS.1.below hb7 hS.1.lt, hS.2.1.below hb7 hS.2.1.lt, hS.2.2.1.below hb7 hS.2.2.1.lt, hS.2.2.2.trans (hb7.mono hS.2.2.2.size)⟩) (fun v W7 h hS2 => ?_)
  obtain ⟨AU, cu, rfl, hu1, hu2, hu3, hb7, hu4⟩ := h
  clear hS2
  simp only [Act.put, List.setIfInBounds_toArray, List.set_cons_zero, List.set_cons_succ]
  have HU : Hid (RdO W7 AU Nu Zu) := Lib.hid hu1
  have HUC := Lib.hid (And.intro hu2 hu3)
  have HUA : Hid (Xu = 0 → ∃ g, AU = some ⟨g, 0, none⟩) := Lib.hid (fun h => (hu4 h).elim fun g h => ⟨g, h.1⟩)
  clear hu1 hu2 hu3 hu4 HEQ HIN HJ HL9 HC9 KS
  have RTn := Lib.hid (RT.out.below hb7 RT.out.lt)
  clear RT
  have RT := RTn
  clear RTn
  have KPn := Lib.hid (KP.out.below hb7 KP.out.lt)
  clear KP
  have KP := KPn
  clear KPn
  have KKn := Lib.hid (KK.out.below hb7 KK.out.lt)
  clear KK
  have KK := KKn
  clear KKn
  have HBn := Lib.hid (HB.out.trans (hb7.mono HB.out.size))
  clear HB
  have HB := HBn
  clear HBn
  clear hb7 hS
  have hS := (And.intro RT.out (And.intro KP.out (And.intro KK.out HB.out)))
  refine takeY (i := 8) (some 8) (v := .tuple #[.slice AU Nu cu, .int .i64 Xu]) rfl rfl (by kernel_rfl) (by kernel_rfl) (by kernel_rfl) (fun _ _ _ h => h) (by rfl) (fun w' hS => by go_simp) hS ?_
  simp only [Act.put, List.setIfInBounds_toArray, List.set_cons_zero, List.set_cons_succ]
  refine takeY (i := 9) (some 17) (v := .slice AU Nu cu) rfl rfl (by kernel_rfl) (by kernel_rfl) (by kernel_rfl) (fun _ _ _ h => h) (by rfl) (fun w' hS => by go_simp) hS ?_
  simp only [Act.put, List.setIfInBounds_toArray, List.set_cons_zero, List.set_cons_succ]
  refine takeY (i := 10) (some 18) (v := .int .i64 Xu) rfl rfl (by kernel_rfl) (by kernel_rfl) (by kernel_rfl) (fun _ _ _ h => h) (by rfl) (fun w' hS => by go_simp) hS ?_
  simp only [Act.put, List.setIfInBounds_toArray, List.set_cons_zero, List.set_cons_succ]
  refine takeY (i := 11) (some 6) (v := .slice AU Nu cu) rfl rfl (by kernel_rfl) (by kernel_rfl) (by kernel_rfl) (fun _ _ _ h => h) (by rfl) (fun w' hS => by go_simp) hS ?_
  simp only [Act.put, List.setIfInBounds_toArray, List.set_cons_zero, List.set_cons_succ]
  refine takeY (i := 12) (some 7) (v := .int .i64 Xu) rfl rfl (by kernel_rfl) (by kernel_rfl) (by kernel_rfl) (fun _ _ _ h => h) (by rfl) (fun w' hS => by go_simp) hS ?_
  simp only [Act.put, List.setIfInBounds_toArray, List.set_cons_zero, List.set_cons_succ]
  clear hS
  refine wpAnyH_done (by kernel_rfl) ?_ _
  have ck : W7.cell? ⟨N2, 1, none⟩ = some (.slice A sn sc) := (KK.out.cell 1).trans rfl
  have cp : W7.cell? ⟨N1, 46, none⟩ = some (.slice p.A p.m p.c) := (KP.out.cell 46).trans (pd_46 p)
  go_wp2_with fail
  refine (secret_any A sn sc W7).mono ?_
  rintro e w90 ⟨rfl, rfl⟩
  go_wp2_with fail
  have BS := secE_bd sn
  refine (least_any Xu (secE sn) w90 (by have := BX.out; omega) (by omega)).mono ?_
  rintro e w91 ⟨rfl, rfl⟩
  have BL := lea_bd (a := Xu) (b := secE sn) (by have := BX.out; omega) (by omega)
  clear BS
  obtain ⟨X2, hX2⟩ : ∃ X, lea Xu (secE sn) = X := ⟨_, rfl⟩
  rw [hX2] at BL
  rw [hX2]
  have HX2 := Lib.hid hX2
  have BLH := Lib.hid BL
  clear hX2 BL
  go_wp2_with fail
  refine (conS_any p.A p.m p.c L w91 (HR.out.below HB.out) (by have := H32.out; omega)).mono ?_
  rintro e w92 ⟨q, rfl, hq, b1⟩
  obtain rfl : q = b := hasSig_eq hq HBB.out
  clear hq ck cp
  have RTn := Lib.hid (RT.out.below b1 RT.out.lt)
  clear RT
  have RT := RTn
  clear RTn
  have KPn := Lib.hid (KP.out.below b1 KP.out.lt)
  clear KP
  have KP := KPn
  clear KPn
  have KKn := Lib.hid (KK.out.below b1 KK.out.lt)
  clear KK
  have KK := KKn
  clear KKn
  have HUn := Lib.hid (HU.out.below b1)
  clear HU
  have HU := HUn
  clear HUn
  have HBn := Lib.hid (HB.out.trans (b1.mono HB.out.size))
  clear HB
  have HB := HBn
  clear HBn
  clear b1
  cases q with
  | true =>
    go_wp2_with fail
    refine (least_any X2 3 w92 BLH.out (by decide)).mono ?_
    rintro e w93 ⟨rfl, rfl⟩
    obtain ⟨X3, hX3⟩ : ∃ X, lea X2 3 = X := ⟨_, rfl⟩
    have hE : Hid (seX p L m0 id sn true = X3) := Lib.hid (by unfold seX; rw [HXu.out, HX2.out]; exact hX3)
    have h0 : X3 ≠ 0 := by rw [← hX3]; have := BLH.out; unfold lea; (repeat' split) <;> omega
    have hX0 : (X3 != 0) = true := by simpa using h0
    rw [hX3]
    have H0 := Lib.hid h0
    clear hX3 h0
    go_wp2_with fail
    go_ret2
    exact wr_err hE.out H0.out rfl HB.out
  | false =>
    have hE : Hid (seX p L m0 id sn false = X2) := Lib.hid (by unfold seX; rw [HXu.out, HX2.out]; rfl)
    by_cases h0 : X2 = 0
    · obtain ⟨h1, h2⟩ := lea_zero (HX2.out.trans h0)
      have hX0 : (X2 != 0) = false := by simp [h0]
      have HE0 : Hid (seX p L m0 id sn false = 0) := Lib.hid (hE.out.trans h0)
      have HX0 : Hid (wrX (slP p) (slT L p.m id nou) m0 = 0) := Lib.hid (HXu.out.trans h1)
      obtain ⟨gu, eu⟩ := HUA.out h1
      subst eu
      have HSN : Hid (0 < sn ∧ sn ≤ 64) := Lib.hid (secE_zero h2)
      have HN54 : Hid (54 ≤ Nu) := Lib.hid (by rw [← HNu.out]; exact sl_54 HX0.out)
      clear h0 h1 h2 hE HUA
      go_wp2_with fail
      have HUd : Hid (RdO w92.drew (some ⟨gu, 0, none⟩) Nu Zu) := Lib.hid HU.out
      clear HU
      refine wp_region_held_drew (S := fun w' => Rts w' 0  ∧ Blk 46 w' N1 (pdC p) ∧ Blk 45 w' N2 (keyC id A sn sc) ∧ Below w.heap.size w w') (by kernel_rfl) ⟨RT.out, KP.out, KK.out, HB.out.drew⟩ (fun hS => ?_)
      generalize hW101 : w92.drew = W101 at hS HUd ⊢
      clear hW101
      clear RT
      clear KP
      clear KK
      clear HB
      have HU := HUd
      clear HUd
      have RT := Lib.hid hS.1
      have KP := Lib.hid hS.2.1
      have KK := Lib.hid hS.2.2.1
      have HB := Lib.hid hS.2.2.2
      refine takeL (i := 0) (some 32) 46 (.tmp 2) N1 0 (pdC p) _ rfl rfl (by kernel_rfl) (by kernel_rfl) (by kernel_rfl) (fun _ _ _ h => h) (by rfl) rfl rfl (fun w' hS => hS.2.1.all) Tryd.underlying46 rfl info_pdP hS ?_
      simp only [Act.put, List.setIfInBounds_toArray, List.set_cons_zero, List.set_cons_succ]
      refine takeY (i := 1) (some 33) (v := .pointer (some ⟨N2, 0, none⟩)) rfl rfl (by kernel_rfl) (by kernel_rfl) (by kernel_rfl) (fun _ _ _ h => h) (by rfl) (fun w' hS => by go_simp) hS ?_
      simp only [Act.put, List.setIfInBounds_toArray, List.set_cons_zero, List.set_cons_succ]
      refine takeY (i := 2) (some 34) (v := .int .u16 (id : Int)) rfl rfl (by kernel_rfl) (by kernel_rfl) (by kernel_rfl) (fun _ _ _ h => h) (by rfl) (fun w' hS => by (have c9 : w'.cell? ⟨N2, 0, none⟩ = some (.int .u16 (id : Int)) := (hS.2.2.1.cell 0).trans rfl; clear hS; go_simp)) hS ?_
      simp only [Act.put, List.setIfInBounds_toArray, List.set_cons_zero, List.set_cons_succ]
      refine takeY (i := 3) (some 35) (v := .slice (some ⟨gu, 0, none⟩) Nu cu) rfl rfl (by kernel_rfl) (by kernel_rfl) (by kernel_rfl) (fun _ _ _ h => h) (by rfl) (fun w' hS => by go_simp) hS ?_
      simp only [Act.put, List.setIfInBounds_toArray, List.set_cons_zero, List.set_cons_succ]
      refine takeY (i := 4) (some 36) (v := .pointer (some ⟨N1, 0, none⟩)) rfl rfl (by kernel_rfl) (by kernel_rfl) (by kernel_rfl) (fun _ _ _ h => h) (by rfl) (fun w' hS => by go_simp) hS ?_
      simp only [Act.put, List.setIfInBounds_toArray, List.set_cons_zero, List.set_cons_succ]
      refine takeY (i := 5) (some 37) (v := .int .u8 p.kd) rfl rfl (by kernel_rfl) (by kernel_rfl) (by kernel_rfl) (fun _ _ _ h => h) (by rfl) (fun w' hS => by (have c9 : w'.cell? ⟨N1, 0, none⟩ = some (.int .u8 p.kd) := (hS.2.1.cell 0).trans rfl; clear hS; go_simp)) hS ?_
      simp only [Act.put, List.setIfInBounds_toArray, List.set_cons_zero, List.set_cons_succ]
      refine takeY (i := 6) (some 38) (v := .pointer (some ⟨N2, 1, none⟩)) rfl rfl (by kernel_rfl) (by kernel_rfl) (by kernel_rfl) (fun _ _ _ h => h) (by rfl) (fun w' hS => by go_simp) hS ?_
      simp only [Act.put, List.setIfInBounds_toArray, List.set_cons_zero, List.set_cons_succ]
      refine takeY (i := 7) (some 39) (v := .slice A sn sc) rfl rfl (by kernel_rfl) (by kernel_rfl) (by kernel_rfl) (fun _ _ _ h => h) (by rfl) (fun w' hS => by (have c9 : w'.cell? ⟨N2, 1, none⟩ = some (.slice A sn sc) := (hS.2.2.1.cell 1).trans rfl; clear hS; go_simp)) hS ?_
      simp only [Act.put, List.setIfInBounds_toArray, List.set_cons_zero, List.set_cons_succ]
      have HKW := Lib.hid (HK.out.below HB.out rfl)
      have HUR : Hid (Rd W101 (some ⟨gu, 0, none⟩) Nu Zu) := Lib.hid HU.out
      obtain ⟨M, hM⟩ : ∃ M, hmacZ k sn (blkZ (p.kd = 18 ∨ p.kd = 20) Zu Nu) Nu = M := ⟨_, rfl⟩
      have HMM := Lib.hid hM
      have HMB : Hid (∀ j, 0 ≤ M j ∧ M j ≤ 255) := Lib.hid (by rw [← hM]; exact dg_bd _)
      clear hM
      refine takeCE (i := 8) (some 40) 41 #[.slice (some ⟨gu, 0, none⟩) Nu cu, .int .u8 p.kd, .slice A sn sc] (R := fun v w' => v = .agg (bytC 32 M) ∧ Below W101.heap.size W101 w') rfl rfl (by kernel_rfl) (by rfl) (by go_simp) ((macOf_any (some ⟨gu, 0, none⟩) Nu cu Zu p.kd A sn sc k W101 HUR.out (fun e => by cases e) HN54.out BN.out HKW.out HKA.out HSN.out.2 RT.out).mono fun e w' h => ⟨_, h.1, by rw [HMM.out], h.2⟩) (fun v w' h => by obtain ⟨rfl, hb8⟩ := h; exact ⟨hS.1.below hb8 hS.1.lt, hS.2.1.below hb8 hS.2.1.lt, hS.2.2.1.below hb8 hS.2.2.1.lt, hS.2.2.2.trans (hb8.mono hS.2.2.2.size)⟩) (fun v W102 h hS2 => ?_)
      obtain ⟨rfl, hb8⟩ := h
      clear hS2
      simp only [Act.put, List.setIfInBounds_toArray, List.set_cons_zero, List.set_cons_succ]
      clear HKW HUR
      have HUn := Lib.hid (HU.out.below hb8)
      clear HU
      have HU := HUn
      clear HUn
      have RTn := Lib.hid (RT.out.below hb8 RT.out.lt)
      clear RT
      have RT := RTn
      clear RTn
      have KPn := Lib.hid (KP.out.below hb8 KP.out.lt)
      clear KP
      have KP := KPn
      clear KPn
      have KKn := Lib.hid (KK.out.below hb8 KK.out.lt)
      clear KK
      have KK := KKn
      clear KKn
      have HBn := Lib.hid (HB.out.trans (hb8.mono HB.out.size))
      clear HB
      have HB := HBn
      clear HBn
      clear hb8 hS
      have hS := (And.intro RT.out (And.intro KP.out (And.intro KK.out HB.out)))
      refine takeCE (i := 9) (some 41) 36 #[.int .u16 (id : Int), .agg (bytC 32 (M))] (R := fun v w' => SigV W102 id (M) v w') rfl rfl (by kernel_rfl) (by rfl) (by go_simp) ((signature_any id (M) W102 HID.out HMB.out).mono fun e w' h => h.v) (fun v w' h => by obtain ⟨gs, cs, rfl, hgs, hos, hcs, hcm, hbs⟩ := h; exact ⟨hS.1.below hbs hS.1.lt, hS.2.1.below hbs hS.2.1.lt, hS.2.2.1.below hbs hS.2.2.1.lt, hS.2.2.2.trans (hbs.mono hS.2.2.2.size)⟩) (fun v W103 h hS2 => ?_)
      obtain ⟨gs, cs, rfl, hgs, hos, hcs, hcm, hbs⟩ := h
      clear hS2
      simp only [Act.put, List.setIfInBounds_toArray, List.set_cons_zero, List.set_cons_succ]
      have HGS2 : Hid (W102.heap.size ≤ gs) := Lib.hid hgs
      have KS : Hid (ByO W103 gs 35 cs (sigZ id (M))) := Lib.hid hos
      have HCS := Lib.hid (And.intro hcs hcm)
      clear hos hcs hcm hgs
      have HUn := Lib.hid (HU.out.below hbs)
      clear HU
      have HU := HUn
      clear HUn
      have RTn := Lib.hid (RT.out.below hbs RT.out.lt)
      clear RT
      have RT := RTn
      clear RTn
      have KPn := Lib.hid (KP.out.below hbs KP.out.lt)
      clear KP
      have KP := KPn
      clear KPn
      have KKn := Lib.hid (KK.out.below hbs KK.out.lt)
      clear KK
      have KK := KKn
      clear KKn
      have HBn := Lib.hid (HB.out.trans (hbs.mono HB.out.size))
      clear HB
      have HB := HBn
      clear HBn
      clear hbs hS
      have hS := (And.intro RT.out (And.intro KP.out (And.intro KK.out HB.out)))
      obtain ⟨N104, hN104⟩ : ∃ N, W103.heap.size = N := ⟨_, rfl⟩
      have HN104 := Lib.hid hN104
      clear hN104
      refine takeBsn (i := 10) (some 42) 1 49 (itC ⟨10, some ⟨gs, 0, none⟩, 35, cs, sigZ id (M)⟩) rfl rfl (by kernel_rfl) (by rfl) (bs_one _ _ _ rfl ⟨10, some ⟨gs, 0, none⟩, 35, cs, sigZ id (M)⟩ rfl) N104 HN104.out (fun W104 k1 b1 s1 => ⟨⟨hS.1.below b1 hS.1.lt, hS.2.1.below b1 hS.2.1.lt, hS.2.2.1.below b1 hS.2.2.1.lt, hS.2.2.2.trans (b1.mono hS.2.2.2.size)⟩, ?_⟩)
      simp only [Act.put, List.setIfInBounds_toArray, List.set_cons_zero, List.set_cons_succ]
      have KT : Hid (BlO 49 W104 N104 (itC ⟨10, some ⟨gs, 0, none⟩, 35, cs, sigZ id (M)⟩)) := Lib.hid k1
      clear k1
      have HUn := Lib.hid (HU.out.below b1)
      clear HU
      have HU := HUn
      clear HUn
      have KSn := Lib.hid (KS.out.below b1)
      clear KS
      have KS := KSn
      clear KSn
      have RTn := Lib.hid (RT.out.below b1 RT.out.lt)
      clear RT
      have RT := RTn
      clear RTn
      have KPn := Lib.hid (KP.out.below b1 KP.out.lt)
      clear KP
      have KP := KPn
      clear KPn
      have KKn := Lib.hid (KK.out.below b1 KK.out.lt)
      clear KK
      have KK := KKn
      clear KKn
      have HBn := Lib.hid (HB.out.trans (b1.mono HB.out.size))
      clear HB
      have HB := HBn
      clear HBn
      clear b1 hS HN104
      have hS := (And.intro RT.out (And.intro KP.out (And.intro KK.out HB.out)))
      have HIT : Hid (ItOk W104 ⟨10, some ⟨gs, 0, none⟩, 35, cs, sigZ id (M)⟩) := Lib.hid (it_ok KS.out)
      have HRW := Lib.hid (HR.out.below HB.out)
      refine takeCE (i := 11) (some 43) 35 #[.agg (pdC p), .slice (some ⟨N104, 0, none⟩) 1 1] (R := fun v w' => WithV W104 p L ⟨10, some ⟨gs, 0, none⟩, 35, cs, sigZ id (M)⟩ v w') rfl rfl (by kernel_rfl) (by rfl) (by go_simp) ((with_any p L ⟨10, some ⟨gs, 0, none⟩, 35, cs, sigZ id (M)⟩ N104 W104 HRW.out HA.out H32.out KT.out HIT.out).mono fun e w' h => h.v) (fun v w' h => by obtain ⟨g9, c9, rfl, hg9, hl9, hc9, hm9, hb9⟩ := h; exact ⟨hS.1.below hb9 hS.1.lt, hS.2.1.below hb9 hS.2.1.lt, hS.2.2.1.below hb9 hS.2.2.1.lt, hS.2.2.2.trans (hb9.mono hS.2.2.2.size)⟩) (fun v W105 h hS2 => ?_)
      obtain ⟨g9, c9, rfl, hg9, hl9, hc9, hm9, hb9⟩ := h
      clear hS2
      simp only [Act.put, List.setIfInBounds_toArray, List.set_cons_zero, List.set_cons_succ]
      have HL9 : Hid (RdT W105 (some ⟨g9, 0, none⟩) (p.m + 1) (addT L p.m ⟨10, some ⟨gs, 0, none⟩, 35, cs, sigZ id (M)⟩)) := Lib.hid hl9
      have HC9 := Lib.hid (And.intro hc9 hm9)
      clear hl9 hc9 hm9 hg9 HIT HRW KT
      have HUn := Lib.hid (HU.out.below hb9)
      clear HU
      have HU := HUn
      clear HUn
      have KSn := Lib.hid (KS.out.below hb9)
      clear KS
      have KS := KSn
      clear KSn
      have RTn := Lib.hid (RT.out.below hb9 RT.out.lt)
      clear RT
      have RT := RTn
      clear RTn
      have KPn := Lib.hid (KP.out.below hb9 KP.out.lt)
      clear KP
      have KP := KPn
      clear KPn
      have KKn := Lib.hid (KK.out.below hb9 KK.out.lt)
      clear KK
      have KK := KKn
      clear KKn
      have HBn := Lib.hid (HB.out.trans (hb9.mono HB.out.size))
      clear HB
      have HB := HBn
      clear HBn
      clear hb9 hS
      have hS := (And.intro RT.out (And.intro KP.out (And.intro KK.out HB.out)))
      have HEQ := Lib.hid (wr_sl p L (some ⟨g9, 0, none⟩) c9 id (M) m0 ⟨10, some ⟨gs, 0, none⟩, 35, cs, sigZ id (M)⟩ rfl rfl rfl)
      have HIN : Hid (PdIn W105 (withT p (some ⟨g9, 0, none⟩) (p.m + 1) c9) (addT L p.m ⟨10, some ⟨gs, 0, none⟩, 35, cs, sigZ id (M)⟩)) := Lib.hid ⟨HL9.out, HC9.out.1, HC9.out.2⟩
      have HJ : Hid (JEnds (addT L p.m ⟨10, some ⟨gs, 0, none⟩, 35, cs, sigZ id (M)⟩) (p.m + 1) m0) := Lib.hid (sl_ends ⟨10, some ⟨gs, 0, none⟩, 35, cs, sigZ id (M)⟩ rfl HM.out)
      refine takeCE (i := 12) (some 44) 28 #[.agg (pdC (withT p (some ⟨g9, 0, none⟩) (p.m + 1) c9))] (R := fun v w' => VrP W105 (seN p L m0 id sn false) 0 (seZ p L m0 id k sn false) v w') rfl rfl (by kernel_rfl) (by rfl) (by go_simp) ((write_any (withT p (some ⟨g9, 0, none⟩) (p.m + 1) c9) HP.out (addT L p.m ⟨10, some ⟨gs, 0, none⟩, 35, cs, sigZ id (M)⟩) m0 HJ.out W105 HIN.out).mono fun e w' h => h.vr HEQ.out (sl_x HX0.out) (sl_n HX0.out HE0.out) (sl_z HE0.out HX0.out HNu.out HZu.out HMM.out)) (fun v w' h => by obtain ⟨AV, cv, rfl, hu1, hu2, hu3, hb7, hu4⟩ := h; exact ⟨hS.1.below hb7 hS.1.lt, hS.2.1.below hb7 hS.2.1.lt, hS.2.2.1.below hb7 hS.2.2.1.lt, hS.2.2.2.trans (hb7.mono hS.2.2.2.size)⟩) (fun v W106 h hS2 => ?_)
      obtain ⟨AV, cv, rfl, hu1, hu2, hu3, hb7, hu4⟩ := h
      clear hS2
      simp only [Act.put, List.setIfInBounds_toArray, List.set_cons_zero, List.set_cons_succ]
      have HV : Hid (RdO W106 AV (seN p L m0 id sn false) (seZ p L m0 id k sn false)) := Lib.hid hu1
      have HVC := Lib.hid (And.intro hu2 hu3)
      obtain ⟨gv, rfl, hgv, hov⟩ := hu4 rfl
      have HOV : Hid (ByO W106 gv (seN p L m0 id sn false) cv (seZ p L m0 id k sn false)) := Lib.hid hov
      have HGV : Hid (w.heap.size ≤ gv) := Lib.hid (Nat.le_trans HB.out.size hgv)
      clear hu1 hu2 hu3 hu4 hgv hov HEQ HIN HJ HL9 HC9 KS
      have HUn := Lib.hid (HU.out.below hb7)
      clear HU
      have HU := HUn
      clear HUn
      have RTn := Lib.hid (RT.out.below hb7 RT.out.lt)
      clear RT
      have RT := RTn
      clear RTn
      have KPn := Lib.hid (KP.out.below hb7 KP.out.lt)
      clear KP
      have KP := KPn
      clear KPn
      have KKn := Lib.hid (KK.out.below hb7 KK.out.lt)
      clear KK
      have KK := KKn
      clear KKn
      have HBn := Lib.hid (HB.out.trans (hb7.mono HB.out.size))
      clear HB
      have HB := HBn
      clear HBn
      clear hb7 hS
      have hS := (And.intro RT.out (And.intro KP.out (And.intro KK.out HB.out)))
      refine takeY (i := 13) (some 45) (v := .slice (some ⟨gv, 0, none⟩) (seN p L m0 id sn false) cv) rfl rfl (by kernel_rfl) (by kernel_rfl) (by kernel_rfl) (fun _ _ _ h => h) (by rfl) (fun w' hS => by go_simp) hS ?_
      simp only [Act.put, List.setIfInBounds_toArray, List.set_cons_zero, List.set_cons_succ]
      refine takeY (i := 14) (some 46) (v := .int .i64 0) rfl rfl (by kernel_rfl) (by kernel_rfl) (by kernel_rfl) (fun _ _ _ h => h) (by rfl) (fun w' hS => by go_simp) hS ?_
      simp only [Act.put, List.setIfInBounds_toArray, List.set_cons_zero, List.set_cons_succ]
      refine takeY (i := 15) (some 4) (v := .slice (some ⟨gv, 0, none⟩) (seN p L m0 id sn false) cv) rfl rfl (by kernel_rfl) (by kernel_rfl) (by kernel_rfl) (fun _ _ _ h => h) (by rfl) (fun w' hS => by go_simp) hS ?_
      simp only [Act.put, List.setIfInBounds_toArray, List.set_cons_zero, List.set_cons_succ]
      refine takeY (i := 16) (some 5) (v := .int .i64 0) rfl rfl (by kernel_rfl) (by kernel_rfl) (by kernel_rfl) (fun _ _ _ h => h) (by rfl) (fun w' hS => by go_simp) hS ?_
      simp only [Act.put, List.setIfInBounds_toArray, List.set_cons_zero, List.set_cons_succ]
      clear hS
      refine wpAnyH_done (by kernel_rfl) ?_ _
      go_wp2_with fail
      go_ret2
      exact ⟨_, cv, by rw [HE0.out]; rfl, HV.out, HVC.out.1, HVC.out.2, HB.out, fun _ => ⟨gv, rfl, HGV.out, HOV.out⟩⟩
    · have hX0 : (X2 != 0) = true := by simpa using h0
      have H0 := Lib.hid h0
      clear h0
      go_wp2_with fail
      go_ret2
      exact wr_err hE.out H0.out rfl HB.out
end Go.Proofs.YtccoicjmmeoggaaDoor

/- What was read is written as just these bytes, if they are of the form. Each theorem states its conditions. -/
namespace Go.Proofs.YtccoicjmmeoggaaDoor
open Go.RowKit
set_option linter.unusedVariables false

end Go.Proofs.YtccoicjmmeoggaaDoor

/- The document's number, NodeAt, IDAt. Each theorem states its conditions. -/
namespace Go.Proofs.YtccoicjmmeoggaaDoor
open Go.RowKit
set_option linter.unusedVariables false

end Go.Proofs.YtccoicjmmeoggaaDoor

/- SameBytes answers false where bytes differ. Each theorem states its conditions. -/
namespace Go.Proofs.YtccoicjmmeoggaaDoor
open Go.RowKit
set_option linter.unusedVariables false

end Go.Proofs.YtccoicjmmeoggaaDoor

/- The document's DocSplit reads a list out of bytes. Each theorem states its conditions. -/
namespace Go.Proofs.YtccoicjmmeoggaaDoor
open Go.RowKit
set_option linter.unusedVariables false

end Go.Proofs.YtccoicjmmeoggaaDoor

/- What the document's DocRead is walked with. Each theorem states its conditions. -/
namespace Go.Proofs.YtccoicjmmeoggaaDoor
open Go.RowKit
set_option linter.unusedVariables false

/-- while DocRead fills a packet -/
def DrS (w : World) (P X b off n : Nat) (z : Nat → Int) (B : Nat) (A : Option Addr) (m cL : Nat) (L : Nat → It) (x : Pd) (w' : World) : Prop :=
  PdT 42 w' P x ∧ PdT 42 w' X pd0 ∧ Row8 w' b off n z ∧ Below w.heap.size w w' ∧ OwnT w' B (.slice A m cL) m L ∧ (X < P ∧ w.heap.size ≤ X ∧ b < w.heap.size ∧ P < B ∧ B ≤ w'.heap.size)
theorem row_keep {w w' : World} {b off n : Nat} {z : Nat → Int} (h : Row8 w b off n z) (hb : w'.heap[b]? = w.heap[b]?) : Row8 w' b off n z := by
  have hlt : b < w'.heap.size := by
    have := (Array.getElem?_eq_some_iff (xs := w'.heap) (i := b) (b := w.heap[b]'h.1)).1 (by rw [hb]; exact Array.getElem?_eq_getElem h.1)
    exact this.1
  refine ⟨hlt, fun j hj => ?_, h.2.2⟩
  rw [← h.2.1 j hj]
  simp only [World.cell?, hb]
section
variable {w : World} {P X b off n : Nat} {z : Nat → Int} {B : Nat} {A : Option Addr} {m cL : Nat} {L : Nat → It} {x y : Pd} {w' w'' : World}
theorem DrS.below (h : DrS w P X b off n z B A m cL L x w') (hb : Below w'.heap.size w' w'') : DrS w P X b off n z B A m cL L x w'' := by
  obtain ⟨h1, h2, h3, h4, h5, h6, h7, h8, h9, h10⟩ := h
  exact ⟨h1.below hb h1.lt, h2.below hb h2.lt, row_keep h3 (hb.block _ h3.1), h4.trans (hb.mono h4.size), h5.below hb, h6, h7, h8, h9, Nat.le_trans h10 hb.size⟩
theorem DrS.put (h : DrS w P X b off n z B A m cL L x w') (q : Stored w' w'' P (pdC y) 42) : DrS w P X b off n z B A m cL L y w'' := by
  obtain ⟨h1, h2, h3, h4, h5, h6, h7, h8, h9, h10⟩ := h
  exact ⟨q.1, h2.far q (by omega), row_keep h3 (q.2.2 _ (by omega)), h4.trans (q.2.1 _ (by omega)), h5.far q h9, h6, h7, h8, h9, Nat.le_trans h10 (q.2.1 0 (Nat.zero_le _)).size⟩
end
end Go.Proofs.YtccoicjmmeoggaaDoor

/- The document's Blank: a packet's bytes as they are signed. Each theorem states its conditions. -/
namespace Go.Proofs.YtccoicjmmeoggaaDoor
open Go.RowKit
set_option linter.unusedVariables false

theorem info_u81 : (Tryd.prog.info? 5).map (·.size) = some 1 := by kernel_rfl
/-- a byte is written into bytes of the call's own -/
theorem wpList_put8 {ops : Array Oper} {Q : Exit → Act → World → Prop} {rest : List Oper} {op : Oper} {a : Act} {w : World} (hgd : op.guard = none) (x y : Operand) (ho : op.op = .store 5 x y) (g i : Nat) (hx : a.eval x = .pointer (some ⟨g, i, none⟩)) (v : Int) (hy : a.eval y = .int .u8 v) (hv : 0 ≤ v ∧ v ≤ 255)
    {n cap : Nat} {z : Nat → Int} (h : Own8 w g n cap z) (hi : i < n)
    (H : ∀ w' C, Stored w w' g C 5 → Own8 w' g n cap (upd z i v) → wpList Tryd.prog ops Q rest (a.put op.dst undef) w') : wpList Tryd.prog ops Q (op :: rest) a w := by
  obtain ⟨⟨cur, hg, h1, h2, h3, h4⟩, h5⟩ := h
  refine wpList_st hgd 5 x y ho g i hx (.int .u8 v) #[.int .u8 v] hy rfl info_u81 (by kernel_rfl) hg (by show i + 1 ≤ cur.size; omega) rfl ?_
  intro w' hs
  refine H w' _ hs ⟨⟨_, hs.1, h1, h2, by rw [putMany_size, h3], fun j hj => ?_⟩, upd_bd h5 i v hv⟩
  show (cur.setIfInBounds i (.int .u8 v))[j]? = _
  rw [Array.getElem?_setIfInBounds]
  unfold upd
  by_cases e : i = j
  · subst e; rw [if_pos rfl, if_pos (by omega), if_pos rfl]
  · rw [if_neg e, if_neg (fun h => e h.symm)]; exact h4 j hj
theorem zap_next (z : Nat → Int) (o k : Nat) : upd (zapZ z o k) (o + k) 0 = zapZ z o (k + 1) := by
  funext j
  unfold upd zapZ
  by_cases e : j = o + k
  · subst e; rw [if_pos rfl, if_pos (by omega)]
  · rw [if_neg e]
    by_cases h : o ≤ j ∧ j < o + k
    · rw [if_pos h, if_pos (by omega)]
    · rw [if_neg h, if_neg (by omega)]
theorem zap_0 (z : Nat → Int) (o : Nat) : zapZ z o 0 = z := by funext j; unfold zapZ; rw [if_neg (by omega)]
/-- where an LSP's life and check bytes lie -/
def plN : Nat → Nat
  | 0 => 10 | 1 => 11 | 2 => 24 | _ => 25
theorem plN_lt (k : Nat) : plN k ≤ 25 := by unfold plN; split <;> decide
def zap4 (z : Nat → Int) : Nat → Nat → Int
  | 0 => z
  | k + 1 => upd (zap4 z k) (plN k) 0
theorem zap_4 (z : Nat → Int) : zap4 z 4 = zapZ (zapZ z 10 2) 24 2 := by
  funext j
  show upd (upd (upd (upd z 10 0) 11 0) 24 0) 25 0 j = _
  unfold upd zapZ
  by_cases h1 : j = 25
  · subst h1; rfl
  · rw [if_neg h1]
    by_cases h2 : j = 24
    · subst h2; rfl
    · rw [if_neg h2]
      rw [if_neg (show ¬ (24 ≤ j ∧ j < 24 + 2) by omega)]
      by_cases h3 : j = 11
      · subst h3; rfl
      · rw [if_neg h3]
        by_cases h4 : j = 10
        · subst h4; rfl
        · rw [if_neg h4, if_neg (show ¬ (10 ≤ j ∧ j < 10 + 2) by omega)]
theorem bs_four (W : World) (o : Oper) (e : Operand → Value) (ho : o.op = .buildSlice 131 4 #[(0, .const (.int .i64 10)), (1, .const (.int .i64 11)), (2, .const (.int .i64 24)), (3, .const (.int .i64 25))]) (hc : ∀ v, e (.const v) = v) :
    (execOp e o).run Tryd.prog W = .ok (.value (.slice (some ⟨W.heap.size, 0, none⟩) 4 4)) (W.alloc (.cells #[.int .i64 10, .int .i64 11, .int .i64 24, .int .i64 25] 3)) := by
  unfold execOp
  simp only [ho]
  simp only [List.map_toArray, List.map_cons, List.map_nil, hc]
  kernel_rfl
/-- bytes of the call's own -/
def BlkP (w : World) (n : Nat) (z : Nat → Int) (e : Ending) (w' : World) : Prop := ∃ g c, e = .returned (.slice (some ⟨g, 0, none⟩) n c) ∧ w.heap.size ≤ g ∧ Own8 w' g n c z ∧ Below w.heap.size w w'
set_option maxHeartbeats 8000000 in
set_option maxRecDepth 100000 in
theorem blank_2 (B : Option Addr) (n c : Nat) (z : Nat → Int) (kd : Int) (w : World) (hq : kd = 18 ∨ kd = 20) (h4 : z 4 = kd) (hB : Rd w B n z) (hBn : B = none → n = 0 ∧ c = 0) (hn : 54 ≤ n) (hn2 : n ≤ 1492) :
    Calls Tryd.prog 49 #[.slice B n c] w (BlkP w n (blkZ (kd = 18 ∨ kd = 20) z n)) := by
  have HQ := Lib.hid hq
  have HR := Lib.hid hB
  have HBN := Lib.hid hBn
  have H4 := Lib.hid h4
  obtain ⟨o, ho⟩ : ∃ o, n = o + 32 := ⟨n - 32, by omega⟩
  have ho1 : 22 ≤ o := by omega
  have ho2 : o ≤ 1460 := by omega
  obtain ⟨Y, hY⟩ : ∃ Y, blkZ (kd = 18 ∨ kd = 20) z n = Y := ⟨_, rfl⟩
  have HY := Lib.hid hY
  rw [hY]
  clear hB hBn hn hn2 hq h4 hY
  subst ho
  go_enter Tryd.func49, Tryd.ntmps49
  go_wp2_with fail
  refine (twin_any B (o + 32) c z w HR.out HBN.out (by omega)).mono ?_
  rintro e w1 ⟨g, cap, rfl, hg, hO, hb⟩
  have K := Lib.hid hO
  have HB := Lib.hid hb
  have hcap := hO.caps.1
  have hcm : cap ≤ 9223372036854775807 := hO.caps.2
  have hgw := hg
  clear hO hb hg
  go_wp2_with fail
  go_loopw [4] (fun t wr => ∃ k : Nat, k ≤ 32 ∧ t = .int .i64 ((o + k : Nat) : Int) ∧ Hid (Own8 wr g (o + 32) cap (zapZ z o k)) ∧ Hid (Below w.heap.size w wr)) (fun t _ => o + 32 - (intOf t).toNat)
  case atStart => exact ⟨0, by omega, by go_num, Lib.hid (by rw [zap_0]; exact K.out), HB⟩
  case round =>
    clear K HB
    obtain ⟨k, hk, rfl, K, HB⟩ := hrel
    obtain ⟨i, hi⟩ : ∃ i, o + k = i := ⟨_, rfl⟩
    rw [hi]
    have HI := Lib.hid hi
    by_cases hlt : k < 32
    · have h1 : (i : Int) < (o : Int) + 32 := by omega
      have h2 : i < o + 32 := by omega
      have h3 : (i : Int) < ((o + 32 : Nat) : Int) := by omega
      have h6 : i ≤ 2000 := by omega
      clear hi
      go_wp2_with (refine wpList_put8 (op := ⟨none, _, _, _, _, _⟩) rfl (.tmp 20) _ rfl g i rfl 0 rfl (by decide) K.out h2 ?_; intro w2 C2 q1 q2; refine Hid.out ?_)
      refine Lib.hid ?_
      have HB2 := Lib.hid (HB.out.trans (q1.2.1 _ hgw))
      rw [← HI.out, zap_next] at q2
      have K2 := Lib.hid q2
      clear q1 q2 K HB
      go_wp2_with fail
      go_roundw
      case rel => exact ⟨k + 1, by omega, by have := HI.out; go_num, K2, HB2⟩
      case measure => simp only [intOf]; omega
    · have h1 : ¬ (i : Int) < (o : Int) + 32 := by omega
      have h3 : ¬ (i : Int) < ((o + 32 : Nat) : Int) := by omega
      obtain rfl : k = 32 := by omega
      clear hi
      have c4 : wr.cell? ⟨g, 4, none⟩ = some (.int .u8 kd) := by
        have := K.out.row.2.1 4 (by omega)
        rw [Nat.zero_add] at this
        rw [this]
        unfold zapZ
        rw [if_neg (by omega), H4.out]
      go_wp2_with fail
      refine (lsp_yes kd HQ.out wr).mono ?_
      rintro e w3 ⟨rfl, rfl⟩
      clear c4 h1 h3 HI
      obtain ⟨N9, hN9⟩ : ∃ N, wr.heap.size = N := ⟨_, rfl⟩
      have HN9 := Lib.hid hN9
      clear hN9
      go_wp2_with (refine wpList_bsn (op := ⟨some 25, _, _, _, _, _⟩) 4 rfl 3 (#[.int .i64 10, .int .i64 11, .int .i64 24, .int .i64 25]) (bs_four _ _ _ rfl (fun _ => rfl)) N9 HN9.out ?_; intro w5 k1 b1 s1; refine Hid.out ?_)
      refine Lib.hid ?_
      have KF := Lib.hid k1
      have lt_g : g < N9 := by rw [← HN9.out]; exact K.out.lt
      have K3 := Lib.hid (K.out.below b1 K.out.lt)
      have HB3 := Lib.hid (HB.out.trans (b1.mono HB.out.size))
      clear k1 b1 K HB HN9
      obtain ⟨Y0, hY0⟩ : ∃ Y, zapZ z o 32 = Y := ⟨_, rfl⟩
      have HY0 := Lib.hid hY0
      rw [hY0] at K3
      clear hY0
      go_wp2_with fail
      go_loopw [27] (fun t wr => ∃ k : Nat, k ≤ 4 ∧ t = .int .i64 (k : Int) ∧ Hid (Own8 wr g (o + 32) cap (zap4 Y0 k)) ∧ Hid (Blk 3 wr N9 #[.int .i64 10, .int .i64 11, .int .i64 24, .int .i64 25]) ∧ Hid (Below w.heap.size w wr)) (fun t _ => 4 - (intOf t).toNat)
      case atStart => exact ⟨0, by omega, rfl, K3, KF, HB3⟩
      case round =>
        clear K3 KF HB3
        obtain ⟨k, hk, rfl, K, KF, HB⟩ := hrel
        by_cases hlt : k < 4
        · have h1 : (k : Int) < 4 := by omega
          obtain ⟨p, hp⟩ : ∃ p, plN k = p := ⟨_, rfl⟩
          have hp2 : p ≤ 25 := by rw [← hp]; exact plN_lt k
          have c5 : wr.cell? ⟨N9, k, none⟩ = some (.int .i64 (p : Int)) := by
            rw [KF.out.cell, ← hp]
            rcases (by omega : k = 0 ∨ k = 1 ∨ k = 2 ∨ k = 3) with rfl | rfl | rfl | rfl <;> rfl
          have HP := Lib.hid hp
          clear hp
          have h2 : p < o + 32 := by omega
          have h3 : (p : Int) < (o : Int) + 32 := by omega
          have h4 : (p : Int) < ((o + 32 : Nat) : Int) := by omega
          go_wp2_with (refine wpList_put8 (op := ⟨none, _, _, _, _, _⟩) rfl (.tmp 33) _ rfl g p rfl 0 rfl (by decide) K.out h2 ?_; intro w6 C6 q1 q2; refine Hid.out ?_)
          refine Lib.hid ?_
          have HB2 := Lib.hid (HB.out.trans (q1.2.1 _ hgw))
          have KF2 := Lib.hid (KF.out.far q1 (by omega))
          have K2 : Hid (Own8 w6 g (o + 32) cap (zap4 Y0 (k + 1))) := Lib.hid (by show Own8 _ _ _ _ (upd (zap4 Y0 k) (plN k) 0); rw [HP.out]; exact q2)
          clear q1 q2 K HB KF c5
          go_wp2_with fail
          go_roundw
          case rel => exact ⟨k + 1, by omega, by go_num, K2, KF2, HB2⟩
          case measure => simp only [intOf]; omega
        · obtain rfl : k = 4 := by omega
          go_wp2_with fail
          go_ret
          refine ⟨g, cap, rfl, hgw, ?_, HB.out⟩
          have h9 := HY.out
          unfold blkZ at h9
          rw [if_pos HQ.out, Nat.add_sub_cancel, HY0.out, ← zap_4] at h9
          rw [← h9]
          exact K.out
set_option maxHeartbeats 8000000 in
set_option maxRecDepth 100000 in
theorem blank_0 (B : Option Addr) (n c : Nat) (z : Nat → Int) (kd : Int) (w : World) (hq : ¬ (kd = 18 ∨ kd = 20)) (h4 : z 4 = kd) (hB : Rd w B n z) (hBn : B = none → n = 0 ∧ c = 0) (hn : 54 ≤ n) (hn2 : n ≤ 1492) :
    Calls Tryd.prog 49 #[.slice B n c] w (BlkP w n (blkZ (kd = 18 ∨ kd = 20) z n)) := by
  have HQ := Lib.hid hq
  have HR := Lib.hid hB
  have HBN := Lib.hid hBn
  have H4 := Lib.hid h4
  obtain ⟨o, ho⟩ : ∃ o, n = o + 32 := ⟨n - 32, by omega⟩
  have ho1 : 22 ≤ o := by omega
  have ho2 : o ≤ 1460 := by omega
  obtain ⟨Y, hY⟩ : ∃ Y, blkZ (kd = 18 ∨ kd = 20) z n = Y := ⟨_, rfl⟩
  have HY := Lib.hid hY
  rw [hY]
  clear hB hBn hn hn2 hq h4 hY
  subst ho
  go_enter Tryd.func49, Tryd.ntmps49
  go_wp2_with fail
  refine (twin_any B (o + 32) c z w HR.out HBN.out (by omega)).mono ?_
  rintro e w1 ⟨g, cap, rfl, hg, hO, hb⟩
  have K := Lib.hid hO
  have HB := Lib.hid hb
  have hcap := hO.caps.1
  have hcm : cap ≤ 9223372036854775807 := hO.caps.2
  have hgw := hg
  clear hO hb hg
  go_wp2_with fail
  go_loopw [4] (fun t wr => ∃ k : Nat, k ≤ 32 ∧ t = .int .i64 ((o + k : Nat) : Int) ∧ Hid (Own8 wr g (o + 32) cap (zapZ z o k)) ∧ Hid (Below w.heap.size w wr)) (fun t _ => o + 32 - (intOf t).toNat)
  case atStart => exact ⟨0, by omega, by go_num, Lib.hid (by rw [zap_0]; exact K.out), HB⟩
  case round =>
    clear K HB
    obtain ⟨k, hk, rfl, K, HB⟩ := hrel
    obtain ⟨i, hi⟩ : ∃ i, o + k = i := ⟨_, rfl⟩
    rw [hi]
    have HI := Lib.hid hi
    by_cases hlt : k < 32
    · have h1 : (i : Int) < (o : Int) + 32 := by omega
      have h2 : i < o + 32 := by omega
      have h3 : (i : Int) < ((o + 32 : Nat) : Int) := by omega
      have h6 : i ≤ 2000 := by omega
      clear hi
      go_wp2_with (refine wpList_put8 (op := ⟨none, _, _, _, _, _⟩) rfl (.tmp 20) _ rfl g i rfl 0 rfl (by decide) K.out h2 ?_; intro w2 C2 q1 q2; refine Hid.out ?_)
      refine Lib.hid ?_
      have HB2 := Lib.hid (HB.out.trans (q1.2.1 _ hgw))
      rw [← HI.out, zap_next] at q2
      have K2 := Lib.hid q2
      clear q1 q2 K HB
      go_wp2_with fail
      go_roundw
      case rel => exact ⟨k + 1, by omega, by have := HI.out; go_num, K2, HB2⟩
      case measure => simp only [intOf]; omega
    · have h1 : ¬ (i : Int) < (o : Int) + 32 := by omega
      have h3 : ¬ (i : Int) < ((o + 32 : Nat) : Int) := by omega
      obtain rfl : k = 32 := by omega
      clear hi
      have c4 : wr.cell? ⟨g, 4, none⟩ = some (.int .u8 kd) := by
        have := K.out.row.2.1 4 (by omega)
        rw [Nat.zero_add] at this
        rw [this]
        unfold zapZ
        rw [if_neg (by omega), H4.out]
      go_wp2_with fail
      refine (lsp_no kd HQ.out wr).mono ?_
      rintro e w3 ⟨rfl, rfl⟩
      go_wp2_with fail
      go_ret
      refine ⟨g, cap, rfl, hgw, ?_, HB.out⟩
      have h9 := HY.out
      unfold blkZ at h9
      rw [if_neg HQ.out, Nat.add_sub_cancel] at h9
      rw [← h9]
      exact K.out
theorem blank_any (B : Option Addr) (n c : Nat) (z : Nat → Int) (kd : Int) (w : World) (h4 : z 4 = kd) (hB : Rd w B n z) (hBn : B = none → n = 0 ∧ c = 0) (hn : 54 ≤ n) (hn2 : n ≤ 1492) :
    Calls Tryd.prog 49 #[.slice B n c] w (BlkP w n (blkZ (kd = 18 ∨ kd = 20) z n)) := by
  by_cases h : kd = 18 ∨ kd = 20
  · exact blank_2 B n c z kd w h h4 hB hBn hn hn2
  · exact blank_0 B n c z kd w h h4 hB hBn hn hn2
end Go.Proofs.YtccoicjmmeoggaaDoor

/- Operations on numbers of 64 bits, told in natural numbers; rows of such numbers. Each theorem states its conditions. -/
namespace Go.Proofs.YtccoicjmmeoggaaDoor
open Go.RowKit
set_option linter.unusedVariables false

def W64 (x : Nat) : Prop := x < 18446744073709551616
theorem w64 {x : Nat} (h : W32 x) : W64 x := by unfold W32 at h; unfold W64; omega
section
variable (o : Oper) (e : Operand → Value) (x y : Operand) (t u : TypeId)
theorem run_xorq (ho : o.op = .binOp .xor t x y u) (a b : Nat) (h0 : e x = .int .u64 a) (h1 : e y = .int .u64 b) (ha : W64 a) (hb : W64 b) (W : World) : (execOp e o).run Tryd.prog W = .ok (.value (.int .u64 ((a ^^^ b : Nat) : Int))) W := by
  unfold execOp
  simp only [ho, h0, h1]
  simp [go_sem, u64_xor_nat a b ha hb]
theorem run_andq (ho : o.op = .binOp .and t x y u) (a b : Nat) (h0 : e x = .int .u64 a) (h1 : e y = .int .u64 b) (ha : W64 a) (hb : W64 b) (W : World) : (execOp e o).run Tryd.prog W = .ok (.value (.int .u64 ((a &&& b : Nat) : Int))) W := by
  unfold execOp
  simp only [ho, h0, h1]
  simp [go_sem, u64_and_nat a b ha hb]
theorem run_addq (ho : o.op = .binOp .add t x y u) (a b c : Nat) (h0 : e x = .int .u64 a) (h1 : e y = .int .u64 b) (hc : a + b = c) (hb : W64 c) (W : World) : (execOp e o).run Tryd.prog W = .ok (.value (.int .u64 ((c : Nat) : Int))) W := by
  subst hc
  unfold W64 at hb
  unfold execOp
  simp only [ho, h0, h1]
  simp [go_sem, IntKind.wrap_u64]
  omega
theorem run_subq (k : Int) (ho : o.op = .binOp .sub t (.const (.int .u64 k)) y u) (hc : ∀ v, e (.const v) = v) (a b c : Nat) (hk : k = (a : Int)) (h1 : e y = .int .u64 b) (hb : b ≤ a) (ha : W64 a) (h9 : a - b = c) (W : World) : (execOp e o).run Tryd.prog W = .ok (.value (.int .u64 ((c : Nat) : Int))) W := by
  subst h9 hk
  unfold W64 at ha
  unfold execOp
  simp only [ho, hc, h1]
  simp [go_sem, IntKind.wrap_u64]
  omega
theorem run_remq (ho : o.op = .binOp .rem t x (.const (.int .u64 4294967296)) u) (hc : ∀ v, e (.const v) = v) (a : Nat) (h0 : e x = .int .u64 a) (W : World) : (execOp e o).run Tryd.prog W = .ok (.value (.int .u64 ((a % 4294967296 : Nat) : Int))) W := by
  have e1 : Int.tmod (a : Int) 4294967296 = ((a % 4294967296 : Nat) : Int) := by rw [Int.tmod_eq_emod_of_nonneg (by omega)]; rfl
  unfold execOp
  simp only [ho, h0, hc]
  simp [go_sem, e1]
theorem run_remn (ho : o.op = .binOp .rem t x (.const (.int .u64 4294967296)) u) (hc : ∀ v, e (.const v) = v) (a c : Nat) (h0 : e x = .int .u64 a) (h9 : a % 4294967296 = c) (W : World) : (execOp e o).run Tryd.prog W = .ok (.value (.int .u64 ((c : Nat) : Int))) W := by
  subst h9
  exact run_remq o e x t u ho hc a h0 W
theorem run_shrq (k : Int) (ho : o.op = .binOp .shr t x (.const (.int .u64 k)) u) (n : Nat) (hk : k = (n : Int)) (hn : n ≤ 32) (a : Nat) (h0 : e x = .int .u64 a) (hc : ∀ v, e (.const v) = v) (W : World) : (execOp e o).run Tryd.prog W = .ok (.value (.int .u64 ((a / 2 ^ n : Nat) : Int))) W := by
  subst hk
  unfold execOp
  simp only [ho, h0, hc]
  have : min n 64 = n := by omega
  simp [go_sem]
theorem run_shri (ho : o.op = .binOp .shr t x y u) (n : Nat) (hn : n ≤ 32) (a : Nat) (h0 : e x = .int .u64 a) (h1 : e y = .int .i64 (n : Int)) (W : World) : (execOp e o).run Tryd.prog W = .ok (.value (.int .u64 ((a / 2 ^ n : Nat) : Int))) W := by
  unfold execOp
  simp only [ho, h0, h1]
  have : min n 64 = n := by omega
  simp [go_sem]
theorem run_shli (ho : o.op = .binOp .shl t x y u) (n : Nat) (hn : n ≤ 32) (a c : Nat) (h0 : e x = .int .u64 a) (h1 : e y = .int .i64 (n : Int)) (hc : a * 2 ^ n = c) (hb : W64 c) (W : World) : (execOp e o).run Tryd.prog W = .ok (.value (.int .u64 ((c : Nat) : Int))) W := by
  unfold W64 at hb
  have e1 : (a : Int) * (2 : Int) ^ n = (c : Int) := by rw [← hc, Int.natCast_mul]; rfl
  unfold execOp
  simp only [ho, h0, h1]
  have : min n 64 = n := by omega
  simp [go_sem, e1, IntKind.wrap_u64]
  omega
end
/-- a row of numbers -/
def tqC (n : Nat) (T : Nat → Nat) : Array Value := ((List.range n).map fun i => Value.int .u64 ((T i : Nat) : Int)).toArray
theorem tq_size (n : Nat) (T : Nat → Nat) : (tqC n T).size = n := by simp [tqC]
theorem tq_at (n : Nat) (T : Nat → Nat) {i : Nat} (h : i < n) : (tqC n T)[i]? = some (.int .u64 ((T i : Nat) : Int)) := by simp [tqC, h]
theorem tq_congr {n : Nat} {T T' : Nat → Nat} (h : ∀ j, j < n → T j = T' j) : tqC n T = tqC n T' := by
  unfold tqC
  congr 1
  exact List.map_congr_left fun j hj => by rw [h j (List.mem_range.1 hj)]
theorem tq_set (n : Nat) (T T' : Nat → Nat) {i : Nat} (h : i < n) (v : Nat) (h1 : T' i = v) (h2 : ∀ j, j < n → j ≠ i → T' j = T j) : (tqC n T).setIfInBounds i (.int .u64 ((v : Nat) : Int)) = tqC n T' := by
  subst h1
  apply Array.ext
  · simp [tqC]
  · intro j hj hk
    simp only [tqC, Array.size_setIfInBounds, List.size_toArray, List.length_map, List.length_range] at hj hk
    rw [Array.getElem_setIfInBounds (by simp [tqC]; omega)]
    by_cases e : i = j
    · subst e
      simp [tqC]
    · simp only [e, if_false, tqC, List.getElem_toArray, List.getElem_map, List.getElem_range]
      rw [h2 j (by omega) (fun h => e h.symm)]
theorem info_u64f : (Tryd.prog.info? 78).map (fun i => (i.zero, i.size, i.bytes)) = some (some (.int .u64 0), 1, 8) := by kernel_rfl
theorem info_u64s : (Tryd.prog.info? 78).map (·.size) = some 1 := by kernel_rfl
theorem made64 : madeCells (Value.cells (.int .u64 0)) 64 = tqC 64 fun _ => 0 := by kernel_rfl
set_option maxRecDepth 100000 in
/-- 64 noughts in a new block -/
theorem wpList_mq {ops : Array Oper} {rest : List Oper} {op : Oper} {a : Act} {w : World} {Q : Exit → Act → World → Prop} (hgd : op.guard = none) (ho : op.op = .makeSlice 79 (.const (.int .i64 64)) (.const (.int .i64 64))) (N : Nat) (hN : w.heap.size = N)
    (h : ∀ w', Blk 78 w' N (tqC 64 fun _ => 0) → Below w.heap.size w w' → N + 1 ≤ w'.heap.size → wpList Tryd.prog ops Q rest (a.put op.dst (.slice (some ⟨N, 0, none⟩) 64 64)) w') : wpList Tryd.prog ops Q (op :: rest) a w := by
  subst hN
  have hmk : (Instr.makeSlice 79 (.int .i64 64) (.int .i64 64)).run Tryd.prog w = .ok (.slice (some ⟨w.heap.size, 0, none⟩) 64 64) (w.alloc (.cells (tqC 64 fun _ => 0) 78)) := by
    cases hq : Tryd.prog.info? 78 with
    | none => have := info_u64f; rw [hq] at this; cases this
    | some i =>
      have h9 := info_u64f
      rw [hq] at h9
      have h9' : (i.zero, i.size, i.bytes) = (some (.int .u64 0), 1, 8) := by simpa using h9
      injection h9' with hz h9'
      injection h9' with hs hb
      have h := run_make (P := Tryd.prog) w 79 78 i (.int .u64 0) Tryd.underlying79 hq hz .i64 .i64 64 64 (by omega) (by omega) (by rw [hb]; omega) (by omega)
      have e2 : (64 : Int).toNat = 64 := rfl
      rw [hs, e2, Nat.mul_one, made64] at h
      exact h
  refine wpList_plain hgd fun K hK => ?_
  unfold Oper.wp execOp
  simp only [ho]
  have e1 : a.eval (.const (.int .i64 64)) = .int .i64 64 := rfl
  rw [e1]
  simp [hmk, Result.andThen]
  exact hK _ _ (h _ (heap_alloc_new w _) ((bself w).alloc (Nat.le_refl _) _) (by simp))
theorem zer_byt8 : zer 8 = bytC 8 fun _ => 0 := by
  apply Array.ext_getElem?
  intro j
  by_cases h : j < 8
  · rw [zer_at 8 j h, byt_at _ _ h]
  · rw [Array.getElem?_eq_none (by rw [zer_size]; omega), Array.getElem?_eq_none (by rw [byt_size]; omega)]
theorem wpList_m8 {ops : Array Oper} {rest : List Oper} {op : Oper} {a : Act} {w : World} {Q : Exit → Act → World → Prop} (hgd : op.guard = none) (ho : op.op = .makeSlice 22 (.const (.int .i64 8)) (.const (.int .i64 8))) (N : Nat) (hN : w.heap.size = N)
    (h : ∀ w', Blk 5 w' N (bytC 8 fun _ => 0) → Below w.heap.size w w' → N + 1 ≤ w'.heap.size → wpList Tryd.prog ops Q rest (a.put op.dst (.slice (some ⟨N, 0, none⟩) 8 8)) w') : wpList Tryd.prog ops Q (op :: rest) a w := by
  subst hN
  have hmk : (Instr.makeSlice 22 (.int .i64 8) (.int .i64 8)).run Tryd.prog w = .ok (.slice (some ⟨w.heap.size, 0, none⟩) 8 8) (w.alloc (.cells (zer 8) 5)) := make8 8 (by omega) w
  rw [zer_byt8] at hmk
  refine wpList_plain hgd fun K hK => ?_
  unfold Oper.wp execOp
  simp only [ho]
  have e1 : a.eval (.const (.int .i64 8)) = .int .i64 8 := rfl
  rw [e1]
  simp [hmk, Result.andThen]
  exact hK _ _ (h _ (heap_alloc_new w _) ((bself w).alloc (Nat.le_refl _) _) (by simp))
/-- eight numbers in a new block -/
theorem wpList_b8 {ops : Array Oper} {rest : List Oper} {op : Oper} {a : Act} {w : World} {Q : Exit → Act → World → Prop} (hgd : op.guard = none) (x0 x1 x2 x3 x4 x5 x6 x7 : Operand) (ho : op.op = .buildSlice 79 8 #[(0, x0), (1, x1), (2, x2), (3, x3), (4, x4), (5, x5), (6, x6), (7, x7)]) (s : H8)
    (h0 : a.eval x0 = .int .u64 (s.a : Nat)) (h1 : a.eval x1 = .int .u64 (s.b : Nat)) (h2 : a.eval x2 = .int .u64 (s.c : Nat)) (h3 : a.eval x3 = .int .u64 (s.d : Nat)) (h4 : a.eval x4 = .int .u64 (s.e : Nat)) (h5 : a.eval x5 = .int .u64 (s.f : Nat)) (h6 : a.eval x6 = .int .u64 (s.g : Nat)) (h7 : a.eval x7 = .int .u64 (s.h : Nat)) (N : Nat) (hN : w.heap.size = N)
    (h : ∀ w', Blk 78 w' N (tqC 8 s.at) → Below w.heap.size w w' → N + 1 ≤ w'.heap.size → wpList Tryd.prog ops Q rest (a.put op.dst (.slice (some ⟨N, 0, none⟩) 8 8)) w') : wpList Tryd.prog ops Q (op :: rest) a w := by
  subst hN
  have hrun : (execOp a.eval op).run Tryd.prog w = .ok (.value (.slice (some ⟨w.heap.size, 0, none⟩) 8 8)) (w.alloc (.cells (tqC 8 s.at) 78)) := by
    unfold execOp
    simp only [ho]
    simp only [List.map_toArray, List.map_cons, List.map_nil, h0, h1, h2, h3, h4, h5, h6, h7]
    kernel_rfl
  refine wpList_plain hgd fun K hK => ?_
  unfold Oper.wp
  rw [hrun, Oper.upon_value]
  exact hK _ _ (h _ (heap_alloc_new w _) ((bself w).alloc (Nat.le_refl _) _) (by simp))
end Go.Proofs.YtccoicjmmeoggaaDoor
