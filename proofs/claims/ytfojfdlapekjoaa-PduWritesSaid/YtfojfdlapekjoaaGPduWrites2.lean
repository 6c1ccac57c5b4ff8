/- Texts of this claim put together; each theorem states its conditions. -/
import Derived.Test.YtfojfdlapekjoaaGPduWrites1
import Derived.Deep.DeepMust
import Derived.Laws.CopyOwn
/- Entries: their cells, their bytes; small functions of pdu. Each theorem states its conditions. -/
namespace Go.Proofs.Ytfojfdlapekjoaa
open Go.RowKit
set_option linter.unusedVariables false

theorem vals_add (z : Nat → Int) (n m : Nat) : vals z (n + m) = vals z n ++ vals (fun j => z (n + j)) m := by
  unfold vals
  rw [List.range_add, List.map_append, List.map_map]
  rfl
theorem vals_snoc (z : Nat → Int) (n : Nat) : vals z n ++ [.int .u8 (z n)] = vals z (n + 1) := by
  rw [vals_add]
  rfl
theorem u8_one (x : Int) : ∀ u ∈ [Value.int .u8 x], u.oneCell' = true := by
  intro u hu; simp only [List.mem_cons, List.not_mem_nil, or_false] at hu; subst hu; rfl
/-- an entry: its ID's eight bytes, its number, its life, its sum -/
structure En where
  s : Nat → Int
  sq : Nat
  li : Int
  su : Nat
def EnOk (e : En) : Prop := (∀ j, 0 ≤ e.s j ∧ e.s j ≤ 255) ∧ e.sq ≤ 4294967295 ∧ (-9223372036854775808 ≤ e.li ∧ e.li ≤ 9223372036854775807) ∧ e.su ≤ 65535
/-- its cells -/
def enC (e : En) : Array Value := #[.int .u8 (e.s 0), .int .u8 (e.s 1), .int .u8 (e.s 2), .int .u8 (e.s 3), .int .u8 (e.s 4), .int .u8 (e.s 5), .int .u8 (e.s 6), .int .u8 (e.s 7), .int .u32 (e.sq : Int), .int .i64 e.li, .int .u16 (e.su : Int)]
def enA (L : Nat → En) : Nat → Array Value := fun j => enC (L j)
theorem enC_one (e : En) : ∀ u ∈ (enC e).toList, u.oneCell' = true := by
  intro u hu
  simp only [enC, List.mem_cons, List.not_mem_nil, or_false] at hu
  rcases hu with rfl | rfl | rfl | rfl | rfl | rfl | rfl | rfl | rfl | rfl | rfl <;> rfl
theorem recs_en (L : Nat → En) : Recs 11 (enA L) := fun j => ⟨rfl, enC_one (L j)⟩
theorem enC_cells {w : World} {b o : Nat} {e : En} (h : w.rangeAt b o (enC e).toList) :
    (w.cell? ⟨b, o, none⟩ = some (.int .u8 (e.s 0)) ∧ w.cell? ⟨b, o + 1, none⟩ = some (.int .u8 (e.s 1)) ∧ w.cell? ⟨b, o + 2, none⟩ = some (.int .u8 (e.s 2)) ∧ w.cell? ⟨b, o + 3, none⟩ = some (.int .u8 (e.s 3))) ∧
    (w.cell? ⟨b, o + 4, none⟩ = some (.int .u8 (e.s 4)) ∧ w.cell? ⟨b, o + 5, none⟩ = some (.int .u8 (e.s 5)) ∧ w.cell? ⟨b, o + 6, none⟩ = some (.int .u8 (e.s 6)) ∧ w.cell? ⟨b, o + 7, none⟩ = some (.int .u8 (e.s 7))) ∧
    w.cell? ⟨b, o + 8, none⟩ = some (.int .u32 (e.sq : Int)) ∧ w.cell? ⟨b, o + 9, none⟩ = some (.int .i64 e.li) ∧ w.cell? ⟨b, o + 10, none⟩ = some (.int .u16 (e.su : Int)) :=
  ⟨⟨h 0 _ rfl, h 1 _ rfl, h 2 _ rfl, h 3 _ rfl⟩, ⟨h 4 _ rfl, h 5 _ rfl, h 6 _ rfl, h 7 _ rfl⟩, h 8 _ rfl, h 9 _ rfl, h 10 _ rfl⟩

/-- the bytes of entries, sixteen each -/
def enZ (L : Nat → En) : Nat → Int := fun j => if j % 16 < 2 then putZ (L (j / 16)).li.toNat 2 (j % 16) else if j % 16 < 10 then (L (j / 16)).s (j % 16 - 2) else if j % 16 < 14 then putZ (L (j / 16)).sq 4 (j % 16 - 10) else putZ (L (j / 16)).su 2 (j % 16 - 14)
theorem enZ_at (L : Nat → En) (k i : Nat) (h : i < 16) : enZ L (16 * k + i) = if i < 2 then putZ (L k).li.toNat 2 i else if i < 10 then (L k).s (i - 2) else if i < 14 then putZ (L k).sq 4 (i - 10) else putZ (L k).su 2 (i - 14) := by
  unfold enZ
  rw [show (16 * k + i) % 16 = i by omega, show (16 * k + i) / 16 = k by omega]
theorem enZ_bd (L : Nat → En) (hL : ∀ j, EnOk (L j)) : ∀ j, 0 ≤ enZ L j ∧ enZ L j ≤ 255 := by
  intro j
  unfold enZ
  split
  · exact putZ_bd _ _ _
  · split
    · exact (hL _).1 _
    · split <;> exact putZ_bd _ _ _
theorem vals_congr {z z' : Nat → Int} {n : Nat} (h : ∀ j, j < n → z j = z' j) : vals z n = vals z' n := by
  unfold vals
  apply List.map_congr_left
  intro j hj
  rw [h j (by simpa using hj)]
theorem enZ_push (L : Nat → En) (k : Nat) :
    vals (enZ L) (16 * k) ++ vals (putZ (L k).li.toNat 2) 2 ++ vals (L k).s 8 ++ vals (putZ (L k).sq 4) 4 ++ vals (putZ (L k).su 2) 2 = vals (enZ L) (16 * (k + 1)) := by
  rw [show 16 * (k + 1) = 16 * k + 2 + 8 + 4 + 2 by omega, vals_add, vals_add, vals_add, vals_add]
  have h := fun i hi => enZ_at L k i hi
  congr 1
  · congr 1
    · congr 1
      · congr 1
        exact vals_congr fun j hj => by rw [h j (by omega), if_pos hj]
      · exact vals_congr fun j hj => by rw [show 16 * k + 2 + j = 16 * k + (2 + j) by omega, h (2 + j) (by omega), if_neg (by omega), if_pos (by omega), show 2 + j - 2 = j by omega]
    · exact vals_congr fun j hj => by rw [show 16 * k + 2 + 8 + j = 16 * k + (10 + j) by omega, h (10 + j) (by omega), if_neg (by omega), if_neg (by omega), if_pos (by omega), show 10 + j - 10 = j by omega]
  · exact vals_congr fun j hj => by rw [show 16 * k + 2 + 8 + 4 + j = 16 * k + (14 + j) by omega, h (14 + j) (by omega), if_neg (by omega), if_neg (by omega), if_neg (by omega), show 14 + j - 14 = j by omega]

theorem size_2 (f : Int) (w : World) (h : f = 3 ∨ f = 4 ∨ f = 8 ∨ f = 11) : Calls Try.prog 52 #[.int .i64 f] w fun e w' => e = .returned (.int .i64 2) ∧ w' = w := by
  rcases h with rfl | rfl | rfl | rfl <;>
  · go_enter Try.func52, Try.ntmps52
    go_wp2
    go_ret
    exact ⟨rfl, rfl⟩
theorem size_4 (w : World) : Calls Try.prog 52 #[.int .i64 10] w fun e w' => e = .returned (.int .i64 4) ∧ w' = w := by
  go_enter Try.func52, Try.ntmps52
  go_wp2
  go_ret
  exact ⟨rfl, rfl⟩
theorem isTime_yes (n : Int) (w : World) (h1 : 0 ≤ n) (h2 : n ≤ 65535) : Calls Try.prog 50 #[.int .i64 n] w fun e w' => e = .returned (.bool true) ∧ w' = w := by
  go_enter Try.func50, Try.ntmps50
  go_wp2
  go_ret
  exact ⟨rfl, rfl⟩
theorem isTime_no (n : Int) (w : World) (h : n < 0 ∨ 65535 < n) : Calls Try.prog 50 #[.int .i64 n] w fun e w' => e = .returned (.bool false) ∧ w' = w := by
  by_cases a : n < 0
  · clear h
    go_enter Try.func50, Try.ntmps50
    go_wp2
    go_ret
    exact ⟨rfl, rfl⟩
  · have a' : 0 ≤ n := by omega
    have b : ¬ n ≤ 65535 := by omega
    clear h a
    go_enter Try.func50, Try.ntmps50
    go_wp2
    go_ret
    exact ⟨rfl, rfl⟩
/-- a number of so many bytes is written -/
theorem putNumber_any (N k : Nat) (w : World) (hk1 : 1 ≤ k) (hk8 : k ≤ 8) (hN : N ≤ 18446744073709551615) (h : qN N k = 0) :
    Calls Try.prog 51 #[.int .u64 (N : Int), .int .i64 (k : Int)] w fun e w' => ∃ g, e = .returned (.slice (some ⟨g, 0, none⟩) k k) ∧ w.heap.size ≤ g ∧ Own8 w' g k k (putZ N k) ∧ Below w.heap.size w w' := by
  have HP := Lib.hid (put_any N k w hN hk1 hk8)
  have HQ := Lib.hid h
  clear h
  go_enter Try.func51, Try.ntmps51
  go_wp2_with fail
  refine HP.out.mono ?_
  rintro e w1 ⟨hif, hb⟩
  rw [if_pos HQ.out] at hif
  obtain ⟨g, rfl, hg, ho⟩ := hif
  have HO := Lib.hid ho
  have HB := Lib.hid hb
  clear ho hb
  go_wp2_with fail
  go_ret
  exact ⟨g, rfl, hg, HO.out, HB.out⟩
theorem made_b (w0 w : World) (hb : Below w0.heap.size w0 w) : (w.alloc (.cells #[] 5)).ownsRow w0.heap.size 5 1 (.slice (some ⟨w.heap.size, 0, none⟩) 0 0) 0 [] :=
  World.ownsRow_made w #[] 0 hb.size (by decide) rfl
set_option maxHeartbeats 1000000 in
set_option maxRecDepth 100000 in
theorem cloneB_any (b off n c : Nat) (z : Nat → Int) (w : World) (hr : Row8 w b off n z) (hn : n ≤ 1000) :
    Calls Try.prog 68 #[.slice (some ⟨b, off, none⟩) n c] w fun e w' => ∃ v, e = .returned v ∧ OwnB w' w.heap.size v n z ∧ Below w.heap.size w w' := by
  have HR := Lib.hid hr
  clear hr
  have hq : ∀ W : World, (binOp BinOp.eql 35 (Value.slice (some ⟨b, off, none⟩) n c) (Value.slice none 0 0)).run Try.prog W = .ok (.bool false) W := fun W => by kernel_rfl
  have HM := Lib.hid (made_b w w (bself w))
  have HB := Lib.hid ((bself w).alloc (Nat.le_refl _) (.cells #[] 5))
  have HD : Hid (Rd (w.alloc (.cells #[] 5)) (some ⟨b, off, none⟩) n z) := Lib.hid (Rd.below ⟨.inr ⟨b, off, rfl, HR.out⟩, HR.out.2.2⟩ HB.out rfl)
  go_enter Try.func68, Try.ntmps68
  go_wp2_with (first
    | (at_builtin; refine app_s rfl (.tmp 5) (.tmp 6) rfl w (.slice (some ⟨w.heap.size, 0, none⟩) 0 0) 0 [] rfl HM.out HB.out ⟨b, off, none⟩ n c (vals z n) rfl (vals_len _ _) (rd_newsB HD.out) (vals_one _ _) (by omega) ?_; intro v2 w2 ho2 hb2 hs2 hk2))
  rw [Nat.zero_add, List.nil_append] at ho2
  go_ret
  exact ⟨_, rfl, ⟨ho2, HR.out.2.2⟩, hb2⟩
end Go.Proofs.Ytfojfdlapekjoaa

/- More steps of a region whose order is drawn: memory that is made, calls told with what they answer, appends. Each theorem states its conditions. -/
namespace Go.Proofs.Ytfojfdlapekjoaa
open Go.RowKit
set_option linter.unusedVariables false

section
variable {P : Program} {ops : Array Oper} {Q : Exit → Act → World → Prop} {md : Region.Mode} {S : World → Prop}
/-- one alone may come up: it yields v and turns the world -/
theorem takeV {i : Nat} {oi : Oper} (d : Option Tmp) {v : Value} {w' : World} {fuel : Nat} {listed : Array Bool} {a : Act} {w : World} (hi : ops[i]? = some oi) (hd : oi.dst = d)
    (hr : Region.ready md ops listed = [i]) (hw : Region.wanted oi (yielded ops a.tmps) = true) (hx : (execOp a.eval oi).run P w = .ok (.value v) w')
    (hS : S w') (h : wpAnyH P md ops Q S fuel (listed.setIfInBounds i true) (a.put d v) w') : wpAnyH P md ops Q S (fuel + 1) listed a w := by
  subst hd
  refine wpAnyH_ready hr (by simp) (AllReadyH.cons hi (fun K hK => ?_) AllReadyH.nil)
  rw [if_pos hw]
  unfold Oper.wp
  rw [hx, Oper.upon_value]
  exact hK.out _ _ hS (fun _ => h)
/-- of several that may come up: one that yields v and turns the world -/
theorem consVW {i : Nat} {oi : Oper} (d : Option Tmp) {v : Value} {w' : World} {rs : List Nat} {fuel : Nat} {listed : Array Bool} {a : Act} {w : World} (hi : ops[i]? = some oi) (hd : oi.dst = d)
    (hw : Region.wanted oi (yielded ops a.tmps) = true) (hx : (execOp a.eval oi).run P w = .ok (.value v) w') (hS : S w')
    (h : wpAnyH P md ops Q S fuel (listed.setIfInBounds i true) (a.put d v) w') (hs : AllReadyH P md ops Q S fuel listed a w rs) : AllReadyH P md ops Q S fuel listed a w (i :: rs) := by
  subst hd
  refine AllReadyH.cons hi (fun K hK => ?_) hs
  rw [if_pos hw]
  unfold Oper.wp
  rw [hx, Oper.upon_value]
  exact hK.out _ _ hS (fun _ => h)
/-- a call alone may come up, told with what it answers -/
theorem takeCE {i : Nat} {oi : Oper} (d : Option Tmp) (f : FuncId) (args : Array Value) {R : Value → World → Prop} {fuel : Nat} {listed : Array Bool} {a : Act} {w : World} (hi : ops[i]? = some oi) (hd : oi.dst = d)
    (hr : Region.ready md ops listed = [i]) (hw : Region.wanted oi (yielded ops a.tmps) = true) (hx : (execOp a.eval oi).run P w = .ok (.enter f args) w)
    (hc : Calls P f args w fun e w' => ∃ v, e = .returned v ∧ R v w') (hS : ∀ v w', R v w' → S w')
    (h : ∀ v w', R v w' → S w' → wpAnyH P md ops Q S fuel (listed.setIfInBounds i true) (a.put d v) w') : wpAnyH P md ops Q S (fuel + 1) listed a w := by
  subst hd
  refine wpAnyH_ready hr (by simp) (AllReadyH.cons hi (fun K hK => ?_) AllReadyH.nil)
  rw [if_pos hw]
  unfold Oper.wp
  rw [hx, Oper.upon_enter]
  refine hc.mono ?_
  rintro e w' ⟨v, rfl, hR⟩
  exact hK.out _ _ (hS v w' hR) (h v w' hR)
/-- of several that may come up: a call, told with what it answers -/
theorem consCE {i : Nat} {oi : Oper} (d : Option Tmp) (f : FuncId) (args : Array Value) {R : Value → World → Prop} {rs : List Nat} {fuel : Nat} {listed : Array Bool} {a : Act} {w : World} (hi : ops[i]? = some oi) (hd : oi.dst = d)
    (hw : Region.wanted oi (yielded ops a.tmps) = true) (hx : (execOp a.eval oi).run P w = .ok (.enter f args) w)
    (hc : Calls P f args w fun e w' => ∃ v, e = .returned v ∧ R v w') (hS : ∀ v w', R v w' → S w')
    (h : ∀ v w', R v w' → S w' → wpAnyH P md ops Q S fuel (listed.setIfInBounds i true) (a.put d v) w') (hs : AllReadyH P md ops Q S fuel listed a w rs) : AllReadyH P md ops Q S fuel listed a w (i :: rs) := by
  subst hd
  refine AllReadyH.cons hi (fun K hK => ?_) hs
  rw [if_pos hw]
  unfold Oper.wp
  rw [hx, Oper.upon_enter]
  refine hc.mono ?_
  rintro e w' ⟨v, rfl, hR⟩
  exact hK.out _ _ (hS v w' hR) (h v w' hR)
end
/-- an append of bytes, as an operation -/
theorem app_run {o : Oper} {a : Act} {w : World} (s x : Operand)
    (ho : o.op = .call { callee := .builtin .append, args := #[s, x], argTypes := #[35, 35] })
    (w0 : World) (v : Value) (n : Nat) (xs : List Value) (hs : a.eval s = v) (hown : w.ownsRow w0.heap.size 5 1 v n xs) (hb : Below w0.heap.size w0 w)
    (ad : Addr) (m c : Nat) (news : List Value) (hx : a.eval x = .slice (some ad) m c) (hl : news.length = m) (hnews : ∀ j u, news[j]? = some u → w.cell? (ad.add j) = some u) (h1 : ∀ u ∈ news, u.oneCell' = true)
    (hn : n + m ≤ 140737488355328) :
    ∃ v' w', (execOp a.eval o).run Try.prog w = .ok (.value v') w' ∧ w'.ownsRow w0.heap.size 5 1 v' (n + m) (xs ++ news) ∧ Below w0.heap.size w0 w' ∧ w.heap.size ≤ w'.heap.size ∧ (∀ k, k < w.heap.size → v.ownBlock ≠ some k → w'.heap[k]? = w.heap[k]? ∧ v'.ownBlock ≠ some k) := by
  obtain ⟨i0, hi, hz0, hz1, hz2⟩ := info_parts info_u8
  obtain ⟨v', w', hr, h2, h3, h4, h5⟩ := run_append_own_at (P := Try.prog) w w0.heap.size 35 o.type 5 i0 (.int .u8 0) 1 1 Try.underlying35 hi hz0 hz1 hz2 rfl (by decide) v n xs hown ad m c news (by omega) hnews h1 (by unfold maxLen; omega) (by omega) hb.size
  refine ⟨v', w', ?_, h2, hb.grown h3 hb.size (fun k e => (hown.lt k e).1), h3.size, fun k hk hne => ⟨h3.block k hk (fun e => hne e.symm), fun e => ?_⟩⟩
  · unfold execOp
    simp only [ho, resolve, invoke, builtin, Sem.run_bind, Sem.run_pure, Result.andThen_ok, List.map_toArray, List.map_cons, List.map_nil, hs, hx, hr]
  · rcases h5 with h5 | h5
    · rw [h5] at e; exact hne e
    · rw [h5] at e; injection e with e; omega
/-- an append alone may come up -/
theorem takeA {ops : Array Oper} {Q : Exit → Act → World → Prop} {md : Region.Mode} {S : World → Prop} {i : Nat} {oi : Oper} (d : Option Tmp) {fuel : Nat} {listed : Array Bool} {a : Act} {w : World} (s x : Operand) (hi : ops[i]? = some oi) (hd : oi.dst = d)
    (hr : Region.ready md ops listed = [i]) (hw : Region.wanted oi (yielded ops a.tmps) = true)
    (ho : oi.op = .call { callee := .builtin .append, args := #[s, x], argTypes := #[35, 35] })
    (w0 : World) (v : Value) (n : Nat) (xs : List Value) (hs : a.eval s = v) (hown : w.ownsRow w0.heap.size 5 1 v n xs) (hb : Below w0.heap.size w0 w)
    (ad : Addr) (m c : Nat) (news : List Value) (hx : a.eval x = .slice (some ad) m c) (hl : news.length = m) (hnews : ∀ j u, news[j]? = some u → w.cell? (ad.add j) = some u) (h1 : ∀ u ∈ news, u.oneCell' = true)
    (hn : n + m ≤ 140737488355328)
    (h : ∀ v' w', w'.ownsRow w0.heap.size 5 1 v' (n + m) (xs ++ news) → Below w0.heap.size w0 w' → w.heap.size ≤ w'.heap.size → (∀ k, k < w.heap.size → v.ownBlock ≠ some k → w'.heap[k]? = w.heap[k]? ∧ v'.ownBlock ≠ some k) → S w' ∧ wpAnyH Try.prog md ops Q S fuel (listed.setIfInBounds i true) (a.put d v') w') :
    wpAnyH Try.prog md ops Q S (fuel + 1) listed a w := by
  obtain ⟨v', w', h2, h3, h4, h5, h6⟩ := app_run s x ho w0 v n xs hs hown hb ad m c news hx hl hnews h1 hn
  obtain ⟨h7, h8⟩ := h v' w' h3 h4 h5 h6
  exact takeV d hi hd hr hw h2 h7 h8
/-- a node's cells -/
def ndC (z : Nat → Int) : Array Value := #[.int .u8 (z 0), .int .u8 (z 1), .int .u8 (z 2), .int .u8 (z 3), .int .u8 (z 4), .int .u8 (z 5), .int .u8 (z 6)]
theorem nd_at (z : Nat → Int) (j : Nat) (h : j < 7) : (ndC z)[j]? = some (.int .u8 (z j)) := by
  rcases (by omega : j = 0 ∨ j = 1 ∨ j = 2 ∨ j = 3 ∨ j = 4 ∨ j = 5 ∨ j = 6) with rfl | rfl | rfl | rfl | rfl | rfl | rfl <;> rfl
theorem nd_row {w : World} {X : Nat} {z : Nat → Int} (h : w.heap[X]? = some (.cells (ndC z) 25 (0, 0))) (hz : ∀ j, 0 ≤ z j ∧ z j ≤ 255) : Row8 w X 0 6 z :=
  ⟨(Array.getElem?_eq_some_iff.1 h).1, fun j hj => by rw [Nat.zero_add, cell_of_row w X j _ _ _ h, nd_at z j (by omega)], hz⟩
set_option maxHeartbeats 2000000 in
set_option maxRecDepth 100000 in
/-- a node's seven bytes -/
theorem putNode_any (z : Nat → Int) (w : World) (hz : ∀ j, 0 ≤ z j ∧ z j ≤ 255) :
    Calls Try.prog 58 #[.agg (ndC z)] w fun e w' => ∃ v, e = .returned v ∧ OwnB w' w.heap.size v 7 z ∧ Below w.heap.size w w' := by
  have HZ := Lib.hid hz
  have HX := Lib.hid (heap_alloc_new w (.cells (ndC z) 25))
  have HB := Lib.hid ((bself w).alloc (Nat.le_refl _) (.cells (ndC z) 25))
  clear hz
  unfold ndC at *
  go_enter Try.func58, Try.ntmps58
  go_wp2_with fail
  refine wp_region_held_drew (S := fun w' => w'.heap[w.heap.size]? = some (.cells (ndC z) 25 (0, 0)) ∧ Below w.heap.size w w') (by kernel_rfl) ⟨HX.out, HB.out.drew⟩ (fun hS0 => ?_)
  refine takeY (i := 0) (some 3) (v := .pointer (some ⟨w.heap.size, 0, none⟩)) rfl rfl (by kernel_rfl) (by kernel_rfl) (by kernel_rfl) (fun _ _ _ h => h) (by rfl) (fun w' hS => by go_simp) hS0 ?_
  simp only [Act.put, List.setIfInBounds_toArray, List.set_cons_zero, List.set_cons_succ]
  refine takeY (i := 1) (some 4) (v := .slice (some ⟨w.heap.size, 0, none⟩) 6 6) rfl rfl (by kernel_rfl) (by kernel_rfl) (by kernel_rfl) (fun _ _ _ h => h) (by rfl) (fun w' hS => by go_simp) hS0 ?_
  simp only [Act.put, List.setIfInBounds_toArray, List.set_cons_zero, List.set_cons_succ]
  refine takeY (i := 3) (some 6) (v := .pointer (some ⟨w.heap.size, 6, none⟩)) rfl rfl (by kernel_rfl) (by kernel_rfl) (by kernel_rfl) (fun _ _ _ h => h) (by rfl) (fun w' hS => by go_simp) hS0 ?_
  simp only [Act.put, List.setIfInBounds_toArray, List.set_cons_zero, List.set_cons_succ]
  refine takeY (i := 4) (some 7) (v := .int .u8 (z 6)) rfl rfl (by kernel_rfl) (by kernel_rfl) (by kernel_rfl) (fun _ _ _ h => h) (by rfl) (fun w' hS => by have c6 : w'.cell? ⟨w.heap.size, 6, none⟩ = some (.int .u8 (z 6)) := (cell_of_row w' _ 6 _ _ _ hS.1).trans rfl; clear hS; go_simp) hS0 ?_
  simp only [Act.put, List.setIfInBounds_toArray, List.set_cons_zero, List.set_cons_succ]
  obtain ⟨W0, hW0⟩ : ∃ W0, (w.alloc (.cells #[.int .u8 (z 0), .int .u8 (z 1), .int .u8 (z 2), .int .u8 (z 3), .int .u8 (z 4), .int .u8 (z 5), .int .u8 (z 6)] 25)).drew = W0 := ⟨_, rfl⟩
  have hsz : W0.heap.size = w.heap.size + 1 := by rw [← hW0]; simp
  rw [hW0] at hS0
  rw [hW0]
  have HS0 := Lib.hid hS0
  clear hS0 hW0 HX HB
  refine wpAnyH_ready (rs := [2, 5]) (by kernel_rfl) (by simp) (consCE (i := 2) (some 5) 68 #[.slice (some ⟨w.heap.size, 0, none⟩) 6 6] (R := fun v w' => OwnB w' W0.heap.size v 6 z ∧ Below W0.heap.size W0 w') rfl rfl (by rfl) (by go_simp) (cloneB_any _ _ _ _ z _ (nd_row HS0.out.1 HZ.out) (by omega)) (fun v w' h => ⟨(h.2.block _ (by omega)).trans HS0.out.1, HS0.out.2.trans (h.2.mono HS0.out.2.size)⟩) (fun v1 w1 h1 hS1 => ?_) (consVW (i := 5) (some 8) (v := .slice (some ⟨W0.heap.size, 0, none⟩) 1 1) (w' := W0.alloc (.cells #[.int .u8 (z 6)] 5)) rfl rfl (by rfl) (by go_simp) ⟨(Below.heap_alloc W0 _ _ (by omega)).trans HS0.out.1, HS0.out.2.alloc HS0.out.2.size _⟩ ?_ AllReadyH.nil))
  · simp only [Act.put, List.setIfInBounds_toArray, List.set_cons_zero, List.set_cons_succ]
    have hw1 := h1.2.size
    refine takeV (i := 5) (some 8) (v := .slice (some ⟨w1.heap.size, 0, none⟩) 1 1) (w' := w1.alloc (.cells #[.int .u8 (z 6)] 5)) rfl rfl (by kernel_rfl) (by rfl) (by clear h1 hS1; go_simp) ⟨(Below.heap_alloc w1 _ _ (by omega)).trans hS1.1, hS1.2.alloc hS1.2.size _⟩ ?_
    have HO1 := Lib.hid ((ownsRow_mono h1.1.1 HS0.out.2.size).alloc (.cells #[.int .u8 (z 6)] 5))
    have HB1 := Lib.hid (hS1.2.alloc hS1.2.size (.cells #[.int .u8 (z 6)] 5))
    have HC1 := Lib.hid (cell_one_new w1 (.int .u8 (z 6)) 5)
    have HL1 : Hid (w.heap.size < (w1.alloc (.cells #[.int .u8 (z 6)] 5)).heap.size) := Lib.hid (by simp; omega)
    have HF1 : Hid (v1.ownBlock ≠ some w.heap.size) := Lib.hid (fun e => by have := (h1.1.1.lt _ e).1; omega)
    have HN1 := Lib.hid ((Below.heap_alloc w1 (.cells #[.int .u8 (z 6)] 5) _ (by omega)).trans hS1.1)
    clear h1 hS1
    simp only [Act.put, List.setIfInBounds_toArray, List.set_cons_zero, List.set_cons_succ]
    refine takeA (i := 6) (some 9) (.tmp 5) (.tmp 8) rfl rfl (by kernel_rfl) (by rfl) rfl w v1 6 (vals z 6) rfl HO1.out HB1.out ⟨w1.heap.size, 0, none⟩ 1 1 [.int .u8 (z 6)] rfl rfl HC1.out (u8_one _) (by omega) (fun v2 w2 ho2 hb2 hs2 hk2 => ⟨⟨(hk2 w.heap.size HL1.out HF1.out).1.trans HN1.out, hb2⟩, ?_⟩)
    have HO2 : Hid (OwnB w2 w.heap.size v2 7 z) := Lib.hid ⟨by rw [vals_snoc] at ho2; exact ho2, HZ.out⟩
    have HB2 := Lib.hid hb2
    have HS2 : w2.heap[w.heap.size]? = some (.cells (ndC z) 25 (0, 0)) ∧ Below w.heap.size w w2 := ⟨(hk2 w.heap.size HL1.out HF1.out).1.trans HN1.out, hb2⟩
    clear ho2 hb2 hs2 hk2
    simp only [Act.put, List.setIfInBounds_toArray, List.set_cons_zero, List.set_cons_succ]
    refine takeY (i := 7) (some 2) (v := v2) rfl rfl (by kernel_rfl) (by kernel_rfl) (by kernel_rfl) (fun _ _ _ h => h) (by rfl) (fun w' hS => by go_simp) HS2 ?_
    simp only [Act.put, List.setIfInBounds_toArray, List.set_cons_zero, List.set_cons_succ]
    refine wpAnyH_done (by kernel_rfl) ?_ _
    go_wp2_with fail
    go_ret
    exact ⟨_, rfl, HO2.out, HB2.out⟩
  · simp only [Act.put, List.setIfInBounds_toArray, List.set_cons_zero, List.set_cons_succ]
    have HS1 : Hid ((W0.alloc (.cells #[.int .u8 (z 6)] 5)).heap[w.heap.size]? = some (.cells (ndC z) 25 (0, 0)) ∧ Below w.heap.size w (W0.alloc (.cells #[.int .u8 (z 6)] 5))) := Lib.hid ⟨(Below.heap_alloc W0 _ _ (by omega)).trans HS0.out.1, HS0.out.2.alloc HS0.out.2.size _⟩
    have HC0 := Lib.hid (cell_one_new W0 (.int .u8 (z 6)) 5)
    have hsz2 : (W0.alloc (.cells #[.int .u8 (z 6)] 5)).heap.size = w.heap.size + 2 := by simp; omega
    have hsB : W0.heap.size < (W0.alloc (.cells #[.int .u8 (z 6)] 5)).heap.size := by omega
    obtain ⟨B, hB⟩ : ∃ B, W0.heap.size = B := ⟨_, rfl⟩
    rw [hB] at HC0 hsB ⊢
    obtain ⟨W1, hW1⟩ : ∃ W1, W0.alloc (.cells #[.int .u8 (z 6)] 5) = W1 := ⟨_, rfl⟩
    rw [hW1] at HS1 HC0 hsz2 hsB ⊢
    clear hW1
    refine takeCE (i := 2) (some 5) 68 #[.slice (some ⟨w.heap.size, 0, none⟩) 6 6] (R := fun v w' => OwnB w' W1.heap.size v 6 z ∧ Below W1.heap.size W1 w') rfl rfl (by kernel_rfl) (by rfl) (by go_simp) (cloneB_any _ _ _ _ z _ (nd_row HS1.out.1 HZ.out) (by omega)) (fun v w' h => ⟨(h.2.block _ (by omega)).trans HS1.out.1, HS1.out.2.trans (h.2.mono HS1.out.2.size)⟩) (fun v1 w1 h1 hS1 => ?_)
    have hw1 := h1.2.size
    have HO1 := Lib.hid (ownsRow_mono h1.1.1 HS1.out.2.size)
    have HB1 := Lib.hid hS1.2
    have HC1 : Hid (∀ j u, [Value.int .u8 (z 6)][j]? = some u → w1.cell? ((⟨B, 0, none⟩ : Addr).add j) = some u) := Lib.hid (fun j u hj => by have := HC0.out j u hj; rw [add_none] at this ⊢; rw [← this]; exact h1.2.cell hsB)
    have HL1 : Hid (w.heap.size < w1.heap.size) := Lib.hid (by omega)
    have HF1 : Hid (v1.ownBlock ≠ some w.heap.size) := Lib.hid (fun e => by have := (h1.1.1.lt _ e).1; omega)
    have HN1 := Lib.hid hS1.1
    clear h1 hS1
    simp only [Act.put, List.setIfInBounds_toArray, List.set_cons_zero, List.set_cons_succ]
    refine takeA (i := 6) (some 9) (.tmp 5) (.tmp 8) rfl rfl (by kernel_rfl) (by rfl) rfl w v1 6 (vals z 6) rfl HO1.out HB1.out ⟨B, 0, none⟩ 1 1 [.int .u8 (z 6)] rfl rfl HC1.out (u8_one _) (by omega) (fun v2 w2 ho2 hb2 hs2 hk2 => ⟨⟨(hk2 w.heap.size HL1.out HF1.out).1.trans HN1.out, hb2⟩, ?_⟩)
    have HO2 : Hid (OwnB w2 w.heap.size v2 7 z) := Lib.hid ⟨by rw [vals_snoc] at ho2; exact ho2, HZ.out⟩
    have HB2 := Lib.hid hb2
    have HS2 : w2.heap[w.heap.size]? = some (.cells (ndC z) 25 (0, 0)) ∧ Below w.heap.size w w2 := ⟨(hk2 w.heap.size HL1.out HF1.out).1.trans HN1.out, hb2⟩
    clear ho2 hb2 hs2 hk2
    simp only [Act.put, List.setIfInBounds_toArray, List.set_cons_zero, List.set_cons_succ]
    refine takeY (i := 7) (some 2) (v := v2) rfl rfl (by kernel_rfl) (by kernel_rfl) (by kernel_rfl) (fun _ _ _ h => h) (by rfl) (fun w' hS => by go_simp) HS2 ?_
    simp only [Act.put, List.setIfInBounds_toArray, List.set_cons_zero, List.set_cons_succ]
    refine wpAnyH_done (by kernel_rfl) ?_ _
    go_wp2_with fail
    go_ret
    exact ⟨_, rfl, HO2.out, HB2.out⟩
end Go.Proofs.Ytfojfdlapekjoaa

/- pdu.putID writes an ID. Each theorem states its conditions. -/
namespace Go.Proofs.Ytfojfdlapekjoaa
open Go.RowKit
set_option linter.unusedVariables false
def idC (z : Nat → Int) : Array Value := #[.int .u8 (z 0), .int .u8 (z 1), .int .u8 (z 2), .int .u8 (z 3), .int .u8 (z 4), .int .u8 (z 5), .int .u8 (z 6), .int .u8 (z 7)]
theorem hi_nd {z : Nat → Int} : (Try.prog.info? 25).map (·.size) = some (ndC z).toList.length := by kernel_rfl
theorem id_range {w : World} {X : Nat} {z : Nat → Int} (h : w.heap[X]? = some (.cells (idC z) 27 (0, 0))) : w.rangeAt X 0 (ndC z).toList := by
  intro j u hj
  rw [Nat.zero_add, cell_of_row w X j _ _ _ h]
  rw [Array.getElem?_toList] at hj
  have h7 : j < 7 := by
    rcases Nat.lt_or_ge j 7 with h | h
    · exact h
    · rw [Array.getElem?_eq_none (by show 7 ≤ j; exact h)] at hj; cases hj
  rw [← hj]
  rcases (by omega : j = 0 ∨ j = 1 ∨ j = 2 ∨ j = 3 ∨ j = 4 ∨ j = 5 ∨ j = 6) with rfl | rfl | rfl | rfl | rfl | rfl | rfl <;> rfl
set_option maxHeartbeats 2000000 in
set_option maxRecDepth 100000 in
/-- an ID's eight bytes -/
theorem putID_any (z : Nat → Int) (w : World) (hz : ∀ j, 0 ≤ z j ∧ z j ≤ 255) :
    Calls Try.prog 53 #[.agg (idC z)] w fun e w' => ∃ v, e = .returned v ∧ OwnB w' w.heap.size v 8 z ∧ Below w.heap.size w w' := by
  have HZ := Lib.hid hz
  have HX := Lib.hid (heap_alloc_new w (.cells (idC z) 27))
  have HB := Lib.hid ((bself w).alloc (Nat.le_refl _) (.cells (idC z) 27))
  clear hz
  unfold idC at *
  go_enter Try.func53, Try.ntmps53
  go_wp2_with fail
  refine wp_region_held_drew (S := fun w' => w'.heap[w.heap.size]? = some (.cells (idC z) 27 (0, 0)) ∧ Below w.heap.size w w') (by kernel_rfl) ⟨HX.out, HB.out.drew⟩ (fun hS0 => ?_)
  refine takeY (i := 0) (some 3) (v := .pointer (some ⟨w.heap.size, 0, none⟩)) rfl rfl (by kernel_rfl) (by kernel_rfl) (by kernel_rfl) (fun _ _ _ h => h) (by rfl) (fun w' hS => by go_simp) hS0 ?_
  simp only [Act.put, List.setIfInBounds_toArray, List.set_cons_zero, List.set_cons_succ]
  refine takeL (i := 1) (some 4) 25 (.tmp 3) w.heap.size 0 (ndC z) _ rfl rfl (by kernel_rfl) (by kernel_rfl) (by kernel_rfl) (fun _ _ _ h => h) (by rfl) rfl rfl (fun w' hS => id_range hS.1) Try.underlying25 rfl hi_nd hS0 ?_
  simp only [Act.put, List.setIfInBounds_toArray, List.set_cons_zero, List.set_cons_succ]
  refine takeY (i := 3) (some 6) (v := .pointer (some ⟨w.heap.size, 7, none⟩)) rfl rfl (by kernel_rfl) (by kernel_rfl) (by kernel_rfl) (fun _ _ _ h => h) (by rfl) (fun w' hS => by go_simp) hS0 ?_
  simp only [Act.put, List.setIfInBounds_toArray, List.set_cons_zero, List.set_cons_succ]
  refine takeY (i := 4) (some 7) (v := .int .u8 (z 7)) rfl rfl (by kernel_rfl) (by kernel_rfl) (by kernel_rfl) (fun _ _ _ h => h) (by rfl) (fun w' hS => by have c6 : w'.cell? ⟨w.heap.size, 7, none⟩ = some (.int .u8 (z 7)) := (cell_of_row w' _ 7 _ _ _ hS.1).trans rfl; clear hS; go_simp) hS0 ?_
  simp only [Act.put, List.setIfInBounds_toArray, List.set_cons_zero, List.set_cons_succ]
  obtain ⟨W0, hW0⟩ : ∃ W0, (w.alloc (.cells #[.int .u8 (z 0), .int .u8 (z 1), .int .u8 (z 2), .int .u8 (z 3), .int .u8 (z 4), .int .u8 (z 5), .int .u8 (z 6), .int .u8 (z 7)] 27)).drew = W0 := ⟨_, rfl⟩
  have hsz : W0.heap.size = w.heap.size + 1 := by rw [← hW0]; simp
  rw [hW0] at hS0
  rw [hW0]
  have HS0 := Lib.hid hS0
  clear hS0 hW0 HX HB
  refine wpAnyH_ready (rs := [2, 5]) (by kernel_rfl) (by simp) (consCE (i := 2) (some 5) 58 #[.agg (ndC z)] (R := fun v w' => OwnB w' W0.heap.size v 7 z ∧ Below W0.heap.size W0 w') rfl rfl (by rfl) (by go_simp) (putNode_any z _ HZ.out) (fun v w' h => ⟨(h.2.block _ (by omega)).trans HS0.out.1, HS0.out.2.trans (h.2.mono HS0.out.2.size)⟩) (fun v1 w1 h1 hS1 => ?_) (consVW (i := 5) (some 8) (v := .slice (some ⟨W0.heap.size, 0, none⟩) 1 1) (w' := W0.alloc (.cells #[.int .u8 (z 7)] 5)) rfl rfl (by rfl) (by go_simp) ⟨(Below.heap_alloc W0 _ _ (by omega)).trans HS0.out.1, HS0.out.2.alloc HS0.out.2.size _⟩ ?_ AllReadyH.nil))
  · simp only [Act.put, List.setIfInBounds_toArray, List.set_cons_zero, List.set_cons_succ]
    have hw1 := h1.2.size
    refine takeV (i := 5) (some 8) (v := .slice (some ⟨w1.heap.size, 0, none⟩) 1 1) (w' := w1.alloc (.cells #[.int .u8 (z 7)] 5)) rfl rfl (by kernel_rfl) (by rfl) (by clear h1 hS1; go_simp) ⟨(Below.heap_alloc w1 _ _ (by omega)).trans hS1.1, hS1.2.alloc hS1.2.size _⟩ ?_
    have HO1 := Lib.hid ((ownsRow_mono h1.1.1 HS0.out.2.size).alloc (.cells #[.int .u8 (z 7)] 5))
    have HB1 := Lib.hid (hS1.2.alloc hS1.2.size (.cells #[.int .u8 (z 7)] 5))
    have HC1 := Lib.hid (cell_one_new w1 (.int .u8 (z 7)) 5)
    have HL1 : Hid (w.heap.size < (w1.alloc (.cells #[.int .u8 (z 7)] 5)).heap.size) := Lib.hid (by simp; omega)
    have HF1 : Hid (v1.ownBlock ≠ some w.heap.size) := Lib.hid (fun e => by have := (h1.1.1.lt _ e).1; omega)
    have HN1 := Lib.hid ((Below.heap_alloc w1 (.cells #[.int .u8 (z 7)] 5) _ (by omega)).trans hS1.1)
    clear h1 hS1
    simp only [Act.put, List.setIfInBounds_toArray, List.set_cons_zero, List.set_cons_succ]
    refine takeA (i := 6) (some 9) (.tmp 5) (.tmp 8) rfl rfl (by kernel_rfl) (by rfl) rfl w v1 7 (vals z 7) rfl HO1.out HB1.out ⟨w1.heap.size, 0, none⟩ 1 1 [.int .u8 (z 7)] rfl rfl HC1.out (u8_one _) (by omega) (fun v2 w2 ho2 hb2 hs2 hk2 => ⟨⟨(hk2 w.heap.size HL1.out HF1.out).1.trans HN1.out, hb2⟩, ?_⟩)
    have HO2 : Hid (OwnB w2 w.heap.size v2 8 z) := Lib.hid ⟨by rw [vals_snoc] at ho2; exact ho2, HZ.out⟩
    have HB2 := Lib.hid hb2
    have HS2 : w2.heap[w.heap.size]? = some (.cells (idC z) 27 (0, 0)) ∧ Below w.heap.size w w2 := ⟨(hk2 w.heap.size HL1.out HF1.out).1.trans HN1.out, hb2⟩
    clear ho2 hb2 hs2 hk2
    simp only [Act.put, List.setIfInBounds_toArray, List.set_cons_zero, List.set_cons_succ]
    refine takeY (i := 7) (some 2) (v := v2) rfl rfl (by kernel_rfl) (by kernel_rfl) (by kernel_rfl) (fun _ _ _ h => h) (by rfl) (fun w' hS => by go_simp) HS2 ?_
    simp only [Act.put, List.setIfInBounds_toArray, List.set_cons_zero, List.set_cons_succ]
    refine wpAnyH_done (by kernel_rfl) ?_ _
    go_wp2_with fail
    go_ret
    exact ⟨_, rfl, HO2.out, HB2.out⟩
  · simp only [Act.put, List.setIfInBounds_toArray, List.set_cons_zero, List.set_cons_succ]
    have HS1 : Hid ((W0.alloc (.cells #[.int .u8 (z 7)] 5)).heap[w.heap.size]? = some (.cells (idC z) 27 (0, 0)) ∧ Below w.heap.size w (W0.alloc (.cells #[.int .u8 (z 7)] 5))) := Lib.hid ⟨(Below.heap_alloc W0 _ _ (by omega)).trans HS0.out.1, HS0.out.2.alloc HS0.out.2.size _⟩
    have HC0 := Lib.hid (cell_one_new W0 (.int .u8 (z 7)) 5)
    have hsz2 : (W0.alloc (.cells #[.int .u8 (z 7)] 5)).heap.size = w.heap.size + 2 := by simp; omega
    have hsB : W0.heap.size < (W0.alloc (.cells #[.int .u8 (z 7)] 5)).heap.size := by omega
    obtain ⟨B, hB⟩ : ∃ B, W0.heap.size = B := ⟨_, rfl⟩
    rw [hB] at HC0 hsB ⊢
    obtain ⟨W1, hW1⟩ : ∃ W1, W0.alloc (.cells #[.int .u8 (z 7)] 5) = W1 := ⟨_, rfl⟩
    rw [hW1] at HS1 HC0 hsz2 hsB ⊢
    clear hW1
    refine takeCE (i := 2) (some 5) 58 #[.agg (ndC z)] (R := fun v w' => OwnB w' W1.heap.size v 7 z ∧ Below W1.heap.size W1 w') rfl rfl (by kernel_rfl) (by rfl) (by go_simp) (putNode_any z _ HZ.out) (fun v w' h => ⟨(h.2.block _ (by omega)).trans HS1.out.1, HS1.out.2.trans (h.2.mono HS1.out.2.size)⟩) (fun v1 w1 h1 hS1 => ?_)
    have hw1 := h1.2.size
    have HO1 := Lib.hid (ownsRow_mono h1.1.1 HS1.out.2.size)
    have HB1 := Lib.hid hS1.2
    have HC1 : Hid (∀ j u, [Value.int .u8 (z 7)][j]? = some u → w1.cell? ((⟨B, 0, none⟩ : Addr).add j) = some u) := Lib.hid (fun j u hj => by have := HC0.out j u hj; rw [add_none] at this ⊢; rw [← this]; exact h1.2.cell hsB)
    have HL1 : Hid (w.heap.size < w1.heap.size) := Lib.hid (by omega)
    have HF1 : Hid (v1.ownBlock ≠ some w.heap.size) := Lib.hid (fun e => by have := (h1.1.1.lt _ e).1; omega)
    have HN1 := Lib.hid hS1.1
    clear h1 hS1
    simp only [Act.put, List.setIfInBounds_toArray, List.set_cons_zero, List.set_cons_succ]
    refine takeA (i := 6) (some 9) (.tmp 5) (.tmp 8) rfl rfl (by kernel_rfl) (by rfl) rfl w v1 7 (vals z 7) rfl HO1.out HB1.out ⟨B, 0, none⟩ 1 1 [.int .u8 (z 7)] rfl rfl HC1.out (u8_one _) (by omega) (fun v2 w2 ho2 hb2 hs2 hk2 => ⟨⟨(hk2 w.heap.size HL1.out HF1.out).1.trans HN1.out, hb2⟩, ?_⟩)
    have HO2 : Hid (OwnB w2 w.heap.size v2 8 z) := Lib.hid ⟨by rw [vals_snoc] at ho2; exact ho2, HZ.out⟩
    have HB2 := Lib.hid hb2
    have HS2 : w2.heap[w.heap.size]? = some (.cells (idC z) 27 (0, 0)) ∧ Below w.heap.size w w2 := ⟨(hk2 w.heap.size HL1.out HF1.out).1.trans HN1.out, hb2⟩
    clear ho2 hb2 hs2 hk2
    simp only [Act.put, List.setIfInBounds_toArray, List.set_cons_zero, List.set_cons_succ]
    refine takeY (i := 7) (some 2) (v := v2) rfl rfl (by kernel_rfl) (by kernel_rfl) (by kernel_rfl) (fun _ _ _ h => h) (by rfl) (fun w' hS => by go_simp) HS2 ?_
    simp only [Act.put, List.setIfInBounds_toArray, List.set_cons_zero, List.set_cons_succ]
    refine wpAnyH_done (by kernel_rfl) ?_ _
    go_wp2_with fail
    go_ret
    exact ⟨_, rfl, HO2.out, HB2.out⟩
end Go.Proofs.Ytfojfdlapekjoaa

/- pdu.PutEntries writes entries as bytes. Each theorem states its conditions. -/
namespace Go.Proofs.Ytfojfdlapekjoaa
open Go.RowKit
set_option linter.unusedVariables false

/-- the first m0 lives fit; behind them the list ends, or one doesn't fit -/
def NEnds (L : Nat → En) (m m0 : Nat) : Prop := m0 ≤ m ∧ (∀ k, k < m0 → 0 ≤ (L k).li ∧ (L k).li ≤ 65535) ∧ (m0 = m ∨ (m0 < m ∧ ((L m0).li < 0 ∨ 65535 < (L m0).li)))
theorem nends (L : Nat → En) (m : Nat) : ∃ m0, NEnds L m m0 := by
  induction m with
  | zero => exact ⟨0, by omega, fun k hk => by omega, .inl rfl⟩
  | succ m ih =>
    obtain ⟨m0, h1, h2, h3⟩ := ih
    rcases h3 with rfl | ⟨h3, h4⟩
    · by_cases hb : (L m0).li < 0 ∨ 65535 < (L m0).li
      · exact ⟨m0, by omega, h2, .inr ⟨by omega, hb⟩⟩
      · refine ⟨m0 + 1, by omega, fun k hk => ?_, .inl rfl⟩
        by_cases e : k = m0
        · subst e; omega
        · exact h2 k (by omega)
    · exact ⟨m0, by omega, h2, .inr ⟨by omega, h4⟩⟩
/-- what PutEntries leaves -/
def PutNPost (w : World) (L : Nat → En) (m m0 : Nat) (e : Ending) (w' : World) : Prop :=
  (m0 < m ∧ e = .returned (.tuple #[.slice none 0 0, .int .i64 1]) ∧ Below w.heap.size w w') ∨
  (m0 = m ∧ 15 < m ∧ e = .returned (.tuple #[.slice none 0 0, .int .i64 2]) ∧ Below w.heap.size w w') ∨
  (m0 = m ∧ m ≤ 15 ∧ ∃ v, e = .returned (.tuple #[v, .int .i64 0]) ∧ OwnB w' w.heap.size v (16 * m) (enZ L) ∧ Below w.heap.size w w')
theorem qN_fit (N k : Nat) (h : N < 256 ^ k) : qN N k = 0 := Nat.div_eq_of_lt h
theorem wrapU (N : Nat) (h : N ≤ 4294967295) : IntKind.u64.wrap (N : Int) = (N : Int) := by simp [IntKind.wrap, IntKind.signed, IntKind.bits]; omega
theorem own_ofB {w : World} {base n : Nat} {v : Value} {z : Nat → Int} (h : OwnB w base v n z) (hn : 0 < n) : ∃ g cap, v = .slice (some ⟨g, 0, none⟩) n cap ∧ base ≤ g ∧ Own8 w g n cap z := by
  obtain ⟨g0, cap0, hv, _⟩ := h.1.form (by omega)
  exact own_of h.1 rfl (by rw [hv]; simp) h.2

set_option maxHeartbeats 4000000 in
set_option maxRecDepth 100000 in
theorem putEntries_any (A : Option Addr) (m c m0 : Nat) (L : Nat → En) (w : World) (h : RdR w A m 11 (enA L)) (hL : ∀ j, EnOk (L j)) (hc : m ≤ c) (hcm : c ≤ 9223372036854775807) (hm0 : NEnds L m m0) :
    Calls Try.prog 22 #[.slice A m c] w (PutNPost w L m m0) := by
  have HM := Lib.hid hm0
  have HR := Lib.hid h
  have HB := Lib.hid (enZ_bd L hL)
  have HOK := Lib.hid hL
  have hm0' := hm0.1
  clear h hm0 hL
  go_enter Try.func22, Try.ntmps22
  go_wp2_with fail
  go_loopw [11] (fun i wr => ∃ k : Nat, k ≤ m0 ∧ i = .int .i64 k ∧ Hid (Below w.heap.size w wr))
    (fun i _ => m - (intOf i).toNat)
  case atStart => exact ⟨0, by omega, rfl, Lib.hid (bself w)⟩
  case round =>
    obtain ⟨k, hk, rfl, HW⟩ := hrel
    by_cases hkm : k < m
    · obtain ⟨b, off, rfl, hr⟩ := (HR.out.below HW.out rfl).row (by omega)
      obtain ⟨⟨c0, c1, c2, c3⟩, ⟨c4, c5, c6, c7⟩, c8, c9, c10⟩ := enC_cells (hr.2 k hkm)
      clear hr
      have hki : (k : Int) < (m : Int) := by omega
      have hOk := Lib.hid (HOK.out k)
      have hHm := Lib.hid HM.out.2
      obtain ⟨E, hE⟩ : ∃ E, L k = E := ⟨_, rfl⟩
      have HE := Lib.hid hE
      rw [hE] at c0 c1 c2 c3 c4 c5 c6 c7 c8 c9 c10 hOk
      have hB0 := Lib.hid (HW.out.alloc HW.out.size (.cells (enC E) 96))
      have q1 := hOk.out.2.2.1.1
      have q2 := hOk.out.2.2.1.2
      by_cases hk0 : k < m0
      · have hl := hHm.out.1 k hk0
        rw [hE] at hl
        clear hE
        go_wp2_with fail
        refine (isTime_yes E.li _ hl.1 hl.2).mono ?_
        rintro e w1 ⟨rfl, hw1⟩
        have hB1 : Hid (Below w.heap.size w w1) := Lib.hid (by rw [hw1]; exact hB0.out)
        clear hw1 c0 c1 c2 c3 c4 c5 c6 c7 c8 c9 c10
        go_wp2_with fail
        go_roundw
        case rel => exact ⟨k + 1, by omega, by go_num, hB1⟩
        case measure => simp only [intOf]; omega
      · have hkk : k = m0 := by omega
        have hl : E.li < 0 ∨ 65535 < E.li := by
          have := hHm.out.2
          rw [← hkk, hE] at this
          omega
        have hlm : Hid (m0 < m) := Lib.hid (by omega)
        clear hE hkk hk0
        go_wp2_with fail
        refine (isTime_no E.li _ hl).mono ?_
        rintro e w1 ⟨rfl, hw1⟩
        have hB1 : Hid (Below w.heap.size w w1) := Lib.hid (by rw [hw1]; exact hB0.out)
        clear hw1 c0 c1 c2 c3 c4 c5 c6 c7 c8 c9 c10
        go_wp2_with fail
        go_ret2
        exact .inl ⟨hlm.out, rfl, hB1.out⟩
    · obtain rfl : k = m := by omega
      obtain rfl : m0 = k := by omega
      by_cases h15 : 15 < m0
      · have h15' : (15 : Int) < (m0 : Int) := by omega
        go_wp2_with fail
        go_ret2
        exact .inr (.inl ⟨rfl, h15, rfl, HW.out⟩)
      · have h15' : (m0 : Int) ≤ 15 := by omega
        have HW0 := Lib.hid HW.out
        go_wp2_with fail
        go_loopw [6, 25] (fun p i wr2 => ∃ k : Nat, k ≤ m0 ∧ i = .int .i64 k ∧ Hid (OwnB wr2 w.heap.size p (16 * k) (enZ L)) ∧ Hid (Below w.heap.size w wr2))
          (fun _ i _ => m0 - (intOf i).toNat)
        case atStart => exact ⟨0, by omega, rfl, Lib.hid (OwnB.nil wr _ HB.out), HW0⟩
        case round =>
          clear HW HW0
          obtain ⟨k, hk, rfl, HO, HW⟩ := hrel
          by_cases hkm : k < m0
          · obtain ⟨b, off, rfl, hr⟩ := (HR.out.below HW.out rfl).row (by omega)
            obtain ⟨⟨c0, c1, c2, c3⟩, ⟨c4, c5, c6, c7⟩, c8, c9, c10⟩ := enC_cells (hr.2 k hkm)
            clear hr
            have hki : (k : Int) < (m0 : Int) := by omega
            have hOk := HOK.out k
            have hl := HM.out.2.1 k hkm
            have hn0 := Lib.hid (enZ_push L k)
            obtain ⟨E, hE⟩ : ∃ E, L k = E := ⟨_, rfl⟩
            have HE := Lib.hid hE
            rw [hE] at c0 c1 c2 c3 c4 c5 c6 c7 c8 c9 c10 hOk hl hn0
            have HES := Lib.hid hOk.1
            have hsq := hOk.2.1
            have hsu := hOk.2.2.2
            obtain ⟨N, hN⟩ : ∃ N : Nat, E.li = (N : Int) := ⟨E.li.toNat, by omega⟩
            rw [hN] at c9 hn0 hl
            rw [Int.toNat_natCast] at hn0
            have HN := Lib.hid hN
            have hN2 : N ≤ 65535 := by omega
            clear hE hN hl hOk
            obtain ⟨wo, rfl⟩ : ∃ wo : World, wo = wr := ⟨_, rfl⟩
            have hbw0 := (bself wo).alloc (Nat.le_refl _) (.cells (enC E) 96)
            have hwr : w.heap.size ≤ wo.heap.size := HW.out.size
            have hX0 := heap_alloc_new wo (.cells (enC E) 96)
            have hO0 := ownsRow_below' HO.out.1 hbw0
            have hW0 := HW.out.trans (hbw0.mono hwr)
            have hf0 : u6.ownBlock ≠ some wo.heap.size := (fun e => by have := (HO.out.1.lt _ e).2; omega)
            have hX0' : (wo.alloc (.cells #[.int .u8 (E.s 0), .int .u8 (E.s 1), .int .u8 (E.s 2), .int .u8 (E.s 3), .int .u8 (E.s 4), .int .u8 (E.s 5), .int .u8 (E.s 6), .int .u8 (E.s 7), .int .u32 (E.sq : Int), .int .i64 (N : Int), .int .u16 (E.su : Int)] 96)) = wo.alloc (.cells (enC E) 96) := by unfold enC; rw [HN.out]
            have hsz0 : (wo.alloc (.cells (enC E) 96)).heap.size = wo.heap.size + 1 := by simp
            obtain ⟨W0, hWW⟩ : ∃ W0, wo.alloc (.cells (enC E) 96) = W0 := ⟨_, rfl⟩
            rw [hWW] at hX0 hO0 hW0 hX0' hsz0
            have HX0 := Lib.hid hX0
            have HO0 := Lib.hid hO0
            have HW0 := Lib.hid hW0
            have HF0 := Lib.hid hf0
            have HWW := Lib.hid hX0'
            clear hX0 hO0 hW0 hf0 hX0' hbw0 hWW
            go_wp2_with fail
            rw [HWW.out]
            refine wp_region_held_drew (S := fun w' => w'.heap[wo.heap.size]? = some (.cells (enC E) 96 (0, 0))) (by kernel_rfl) HX0.out (fun hS0 => ?_)
            refine takeY (i := 0) (some 29) (v := u6) rfl rfl (by kernel_rfl) (by kernel_rfl) (by kernel_rfl) (fun _ _ _ h => h) (by rfl) (fun w' hS => by go_simp) hS0 ?_
            simp only [Act.put, List.setIfInBounds_toArray, List.set_cons_zero, List.set_cons_succ]
            refine takeY (i := 1) (some 30) (v := .pointer (some ⟨wo.heap.size, 9, none⟩)) rfl rfl (by kernel_rfl) (by kernel_rfl) (by kernel_rfl) (fun _ _ _ h => h) (by rfl) (fun w' hS => by go_simp) hS0 ?_
            simp only [Act.put, List.setIfInBounds_toArray, List.set_cons_zero, List.set_cons_succ]
            refine takeY (i := 2) (some 31) (v := .int .i64 (N : Int)) rfl rfl (by kernel_rfl) (by kernel_rfl) (by kernel_rfl) (fun _ _ _ h => h) (by rfl) (fun w' hS => by have cx : w'.cell? ⟨wo.heap.size, 9, none⟩ = some (.int .i64 (N : Int)) := (cell_of_row w' _ 9 _ _ _ hS).trans (by show some (Value.int .i64 E.li) = _; rw [HN.out]); clear hS; go_simp) hS0 ?_
            simp only [Act.put, List.setIfInBounds_toArray, List.set_cons_zero, List.set_cons_succ]
            refine takeY (i := 3) (some 32) (v := .int .u64 (N : Int)) rfl rfl (by kernel_rfl) (by kernel_rfl) (by kernel_rfl) (fun _ _ _ h => h) (by rfl) (fun w' hS => by first | (go_simp; done) | (go_simp; exact wrapU _ (by omega))) hS0 ?_
            simp only [Act.put, List.setIfInBounds_toArray, List.set_cons_zero, List.set_cons_succ]
            refine takeC (i := 4) (some 33) 52 #[.int .i64 8] (.int .i64 2) (R := fun w' => w' = (W0).drew) rfl rfl (by kernel_rfl) (by rfl) (by go_simp) (size_2 8 _ (by decide)) (fun w' h => by rw [h]; exact HX0.out) (fun w1 hw1 hS1 => ?_)
            simp only [Act.put, List.setIfInBounds_toArray, List.set_cons_zero, List.set_cons_succ]
            subst hw1
            refine takeCE (i := 5) (some 34) 51 #[.int .u64 (N : Int), .int .i64 2] (R := fun v w' => ∃ g, v = .slice (some ⟨g, 0, none⟩) 2 2 ∧ (W0).heap.size ≤ g ∧ Own8 w' g 2 2 (putZ N 2) ∧ Below (W0).heap.size (W0) w') rfl rfl (by kernel_rfl) (by rfl) (by go_simp) ((putNumber_any (N) 2 _ (by decide) (by decide) (by omega) (qN_fit _ _ (by show _ < 65536; omega))).mono fun e w' h => by obtain ⟨g, h1, h2, h3, h4⟩ := h; exact ⟨_, h1, g, rfl, h2, h3, (bself (W0)).drew.trans h4⟩) (fun v w' h => by obtain ⟨g, _, _, _, h4⟩ := h; exact (h4.block _ (by omega)).trans HX0.out) (fun v w1 h1 hS1 => ?_)
            simp only [Act.put, List.setIfInBounds_toArray, List.set_cons_zero, List.set_cons_succ]
            obtain ⟨g, rfl, hg, hog, hb1⟩ := h1
            have hw1 := hb1.size
            have HGn := Lib.hid hog
            have HO1 := Lib.hid (ownsRow_below' HO0.out hb1)
            have HB1 := Lib.hid (HW0.out.trans (hb1.mono HW0.out.size))
            have HN1 := Lib.hid hS1
            have HL1 : Hid (wo.heap.size < w1.heap.size) := Lib.hid (by omega)
            clear hog hb1 hS1 hS0
            refine takeA (i := 6) (some 35) (.tmp 29) (.tmp 34) rfl rfl (by kernel_rfl) (by rfl) rfl w u6 (16 * k) (vals (enZ L) (16 * k)) rfl HO1.out HB1.out ⟨g, 0, none⟩ 2 2 (vals (putZ N 2) 2) rfl (vals_len _ _) (rd_newsB HGn.out.rd) (vals_one _ _) (by omega) (fun v3 w3 ho3 hb3 hs3 hk3 => ⟨(hk3 wo.heap.size HL1.out HF0.out).1.trans HN1.out, ?_⟩)
            simp only [Act.put, List.setIfInBounds_toArray, List.set_cons_zero, List.set_cons_succ]
            have hS3 : w3.heap[wo.heap.size]? = some (.cells (enC E) 96 (0, 0)) := (hk3 wo.heap.size HL1.out HF0.out).1.trans HN1.out
            have HX3 := Lib.hid hS3
            have HF3 := Lib.hid (hk3 wo.heap.size HL1.out HF0.out).2
            have HO3 := Lib.hid ho3
            have HB3 := Lib.hid hb3
            have HL3 : Hid (wo.heap.size < w3.heap.size) := Lib.hid (by have := HL1.out; omega)
            clear ho3 hb3 hs3 hk3 HO1 HB1 HN1 HL1 HGn hg hw1 HX0 HF0 HO0 HW0 hsz0
            refine takeY (i := 7) (some 6) (v := v3) rfl rfl (by kernel_rfl) (by kernel_rfl) (by kernel_rfl) (fun _ _ _ h => h) (by rfl) (fun w' hS => by go_simp) hS3 ?_
            simp only [Act.put, List.setIfInBounds_toArray, List.set_cons_zero, List.set_cons_succ]
            refine wpAnyH_done (by kernel_rfl) ?_ _
            have d0 : w3.cell? ⟨wo.heap.size, 0, none⟩ = some (.int .u8 (E.s 0)) := (cell_of_row w3 _ 0 _ _ _ HX3.out).trans rfl
            have d1 : w3.cell? ⟨wo.heap.size, 1, none⟩ = some (.int .u8 (E.s 1)) := (cell_of_row w3 _ 1 _ _ _ HX3.out).trans rfl
            have d2 : w3.cell? ⟨wo.heap.size, 2, none⟩ = some (.int .u8 (E.s 2)) := (cell_of_row w3 _ 2 _ _ _ HX3.out).trans rfl
            have d3 : w3.cell? ⟨wo.heap.size, 3, none⟩ = some (.int .u8 (E.s 3)) := (cell_of_row w3 _ 3 _ _ _ HX3.out).trans rfl
            have d4 : w3.cell? ⟨wo.heap.size, 4, none⟩ = some (.int .u8 (E.s 4)) := (cell_of_row w3 _ 4 _ _ _ HX3.out).trans rfl
            have d5 : w3.cell? ⟨wo.heap.size, 5, none⟩ = some (.int .u8 (E.s 5)) := (cell_of_row w3 _ 5 _ _ _ HX3.out).trans rfl
            have d6 : w3.cell? ⟨wo.heap.size, 6, none⟩ = some (.int .u8 (E.s 6)) := (cell_of_row w3 _ 6 _ _ _ HX3.out).trans rfl
            have d7 : w3.cell? ⟨wo.heap.size, 7, none⟩ = some (.int .u8 (E.s 7)) := (cell_of_row w3 _ 7 _ _ _ HX3.out).trans rfl
            clear c0 c1 c2 c3 c4 c5 c6 c7 c8 c9 c10
            go_wp2_with fail
            clear d0 d1 d2 d3 d4 d5 d6 d7
            refine (putID_any E.s _ HES.out).mono ?_
            rintro e w4 ⟨v4, rfl, ho4, hb4⟩
            obtain ⟨g4, cap4, rfl, hg4, hog4⟩ := own_ofB ho4 (by omega)
            have HG4 := Lib.hid hog4
            have HO4 := Lib.hid (ownsRow_below' HO3.out hb4)
            have HB4 := Lib.hid (HB3.out.trans (hb4.mono HB3.out.size))
            have hX4 := Lib.hid ((hb4.block _ HL3.out).trans HX3.out)
            have hL4 := Lib.hid (show wo.heap.size < w4.heap.size by have := hb4.size; have := HL3.out; omega)
            clear ho4 hb4 hog4
            go_wp2_with (first
              | (at_builtin; refine app_s rfl (.tmp 36) (.tmp 39) rfl w v3 (16 * k + 2) _ rfl HO4.out HB4.out ⟨g4, 0, none⟩ 8 cap4 _ rfl (vals_len _ _) (rd_newsB HG4.out.rd) (vals_one _ _) (by omega) ?_; intro v5 w5 ho5 hb5 hs5 hk5))
            have HX0 := Lib.hid ((hk5 wo.heap.size hL4.out HF3.out).1.trans hX4.out)
            have HF0 := Lib.hid (hk5 wo.heap.size hL4.out HF3.out).2
            have HO0 := Lib.hid ho5
            have HW0 := Lib.hid hb5
            have hsz0 : wo.heap.size < w5.heap.size := by have := hL4.out; omega
            clear ho5 hb5 hs5 hk5 HO4 HB4 hX4 hL4 HG4 HO3 HB3 HX3 HF3 HL3
            refine wp_region_held_drew (S := fun w' => w'.heap[wo.heap.size]? = some (.cells (enC E) 96 (0, 0))) (by kernel_rfl) HX0.out (fun hS0 => ?_)
            refine takeY (i := 0) (some 41) (v := v5) rfl rfl (by kernel_rfl) (by kernel_rfl) (by kernel_rfl) (fun _ _ _ h => h) (by rfl) (fun w' hS => by go_simp) hS0 ?_
            simp only [Act.put, List.setIfInBounds_toArray, List.set_cons_zero, List.set_cons_succ]
            refine takeY (i := 1) (some 42) (v := .pointer (some ⟨wo.heap.size, 8, none⟩)) rfl rfl (by kernel_rfl) (by kernel_rfl) (by kernel_rfl) (fun _ _ _ h => h) (by rfl) (fun w' hS => by go_simp) hS0 ?_
            simp only [Act.put, List.setIfInBounds_toArray, List.set_cons_zero, List.set_cons_succ]
            refine takeY (i := 2) (some 43) (v := .int .u32 (E.sq : Int)) rfl rfl (by kernel_rfl) (by kernel_rfl) (by kernel_rfl) (fun _ _ _ h => h) (by rfl) (fun w' hS => by have cx : w'.cell? ⟨wo.heap.size, 8, none⟩ = some (.int .u32 (E.sq : Int)) := (cell_of_row w' _ 8 _ _ _ hS).trans rfl; clear hS; go_simp) hS0 ?_
            simp only [Act.put, List.setIfInBounds_toArray, List.set_cons_zero, List.set_cons_succ]
            refine takeY (i := 3) (some 44) (v := .int .u64 (E.sq : Int)) rfl rfl (by kernel_rfl) (by kernel_rfl) (by kernel_rfl) (fun _ _ _ h => h) (by rfl) (fun w' hS => by first | (go_simp; done) | (go_simp; exact wrapU _ (by omega))) hS0 ?_
            simp only [Act.put, List.setIfInBounds_toArray, List.set_cons_zero, List.set_cons_succ]
            refine takeC (i := 4) (some 45) 52 #[.int .i64 10] (.int .i64 4) (R := fun w' => w' = (w5).drew) rfl rfl (by kernel_rfl) (by rfl) (by go_simp) (size_4 _ ) (fun w' h => by rw [h]; exact HX0.out) (fun w1 hw1 hS1 => ?_)
            simp only [Act.put, List.setIfInBounds_toArray, List.set_cons_zero, List.set_cons_succ]
            subst hw1
            refine takeCE (i := 5) (some 46) 51 #[.int .u64 (E.sq : Int), .int .i64 4] (R := fun v w' => ∃ g, v = .slice (some ⟨g, 0, none⟩) 4 4 ∧ (w5).heap.size ≤ g ∧ Own8 w' g 4 4 (putZ E.sq 4) ∧ Below (w5).heap.size (w5) w') rfl rfl (by kernel_rfl) (by rfl) (by go_simp) ((putNumber_any (E.sq) 4 _ (by decide) (by decide) (by omega) (qN_fit _ _ (by show _ < 4294967296; omega))).mono fun e w' h => by obtain ⟨g, h1, h2, h3, h4⟩ := h; exact ⟨_, h1, g, rfl, h2, h3, (bself (w5)).drew.trans h4⟩) (fun v w' h => by obtain ⟨g, _, _, _, h4⟩ := h; exact (h4.block _ (by omega)).trans HX0.out) (fun v w1 h1 hS1 => ?_)
            simp only [Act.put, List.setIfInBounds_toArray, List.set_cons_zero, List.set_cons_succ]
            obtain ⟨g, rfl, hg, hog, hb1⟩ := h1
            have hw1 := hb1.size
            have HGn := Lib.hid hog
            have HO1 := Lib.hid (ownsRow_below' HO0.out hb1)
            have HB1 := Lib.hid (HW0.out.trans (hb1.mono HW0.out.size))
            have HN1 := Lib.hid hS1
            have HL1 : Hid (wo.heap.size < w1.heap.size) := Lib.hid (by omega)
            clear hog hb1 hS1 hS0
            refine takeA (i := 6) (some 47) (.tmp 41) (.tmp 46) rfl rfl (by kernel_rfl) (by rfl) rfl w v5 (16 * k + 2 + 8) (_) rfl HO1.out HB1.out ⟨g, 0, none⟩ 4 4 (vals (putZ E.sq 4) 4) rfl (vals_len _ _) (rd_newsB HGn.out.rd) (vals_one _ _) (by omega) (fun v6 w6 ho3 hb3 hs3 hk3 => ⟨(hk3 wo.heap.size HL1.out HF0.out).1.trans HN1.out, ?_⟩)
            simp only [Act.put, List.setIfInBounds_toArray, List.set_cons_zero, List.set_cons_succ]
            have hS3 : w6.heap[wo.heap.size]? = some (.cells (enC E) 96 (0, 0)) := (hk3 wo.heap.size HL1.out HF0.out).1.trans HN1.out
            have HX3 := Lib.hid hS3
            have HF3 := Lib.hid (hk3 wo.heap.size HL1.out HF0.out).2
            have HO3 := Lib.hid ho3
            have HB3 := Lib.hid hb3
            have HL3 : Hid (wo.heap.size < w6.heap.size) := Lib.hid (by have := HL1.out; omega)
            clear ho3 hb3 hs3 hk3 HO1 HB1 HN1 HL1 HGn hg hw1 HX0 HF0 HO0 HW0 hsz0
            refine takeY (i := 7) (some 6) (v := v6) rfl rfl (by kernel_rfl) (by kernel_rfl) (by kernel_rfl) (fun _ _ _ h => h) (by rfl) (fun w' hS => by go_simp) hS3 ?_
            simp only [Act.put, List.setIfInBounds_toArray, List.set_cons_zero, List.set_cons_succ]
            refine wpAnyH_done (by kernel_rfl) ?_ _
            have HX0 := HX3
            have HF0 := HF3
            have HO0 := HO3
            have HW0 := HB3
            have hsz0 := HL3.out
            clear HO3 HB3 HX3 HF3 HL3
            go_wp2_with fail
            refine wp_region_held_drew (S := fun w' => w'.heap[wo.heap.size]? = some (.cells (enC E) 96 (0, 0))) (by kernel_rfl) HX0.out (fun hS0 => ?_)
            refine takeY (i := 0) (some 48) (v := v6) rfl rfl (by kernel_rfl) (by kernel_rfl) (by kernel_rfl) (fun _ _ _ h => h) (by rfl) (fun w' hS => by go_simp) hS0 ?_
            simp only [Act.put, List.setIfInBounds_toArray, List.set_cons_zero, List.set_cons_succ]
            refine takeY (i := 1) (some 49) (v := .pointer (some ⟨wo.heap.size, 10, none⟩)) rfl rfl (by kernel_rfl) (by kernel_rfl) (by kernel_rfl) (fun _ _ _ h => h) (by rfl) (fun w' hS => by go_simp) hS0 ?_
            simp only [Act.put, List.setIfInBounds_toArray, List.set_cons_zero, List.set_cons_succ]
            refine takeY (i := 2) (some 50) (v := .int .u16 (E.su : Int)) rfl rfl (by kernel_rfl) (by kernel_rfl) (by kernel_rfl) (fun _ _ _ h => h) (by rfl) (fun w' hS => by have cx : w'.cell? ⟨wo.heap.size, 10, none⟩ = some (.int .u16 (E.su : Int)) := (cell_of_row w' _ 10 _ _ _ hS).trans rfl; clear hS; go_simp) hS0 ?_
            simp only [Act.put, List.setIfInBounds_toArray, List.set_cons_zero, List.set_cons_succ]
            refine takeY (i := 3) (some 51) (v := .int .u64 (E.su : Int)) rfl rfl (by kernel_rfl) (by kernel_rfl) (by kernel_rfl) (fun _ _ _ h => h) (by rfl) (fun w' hS => by first | (go_simp; done) | (go_simp; exact wrapU _ (by omega))) hS0 ?_
            simp only [Act.put, List.setIfInBounds_toArray, List.set_cons_zero, List.set_cons_succ]
            refine takeC (i := 4) (some 52) 52 #[.int .i64 11] (.int .i64 2) (R := fun w' => w' = (w6).drew) rfl rfl (by kernel_rfl) (by rfl) (by go_simp) (size_2 11 _ (by decide)) (fun w' h => by rw [h]; exact HX0.out) (fun w1 hw1 hS1 => ?_)
            simp only [Act.put, List.setIfInBounds_toArray, List.set_cons_zero, List.set_cons_succ]
            subst hw1
            refine takeCE (i := 5) (some 53) 51 #[.int .u64 (E.su : Int), .int .i64 2] (R := fun v w' => ∃ g, v = .slice (some ⟨g, 0, none⟩) 2 2 ∧ (w6).heap.size ≤ g ∧ Own8 w' g 2 2 (putZ E.su 2) ∧ Below (w6).heap.size (w6) w') rfl rfl (by kernel_rfl) (by rfl) (by go_simp) ((putNumber_any (E.su) 2 _ (by decide) (by decide) (by omega) (qN_fit _ _ (by show _ < 65536; omega))).mono fun e w' h => by obtain ⟨g, h1, h2, h3, h4⟩ := h; exact ⟨_, h1, g, rfl, h2, h3, (bself (w6)).drew.trans h4⟩) (fun v w' h => by obtain ⟨g, _, _, _, h4⟩ := h; exact (h4.block _ (by omega)).trans HX0.out) (fun v w1 h1 hS1 => ?_)
            simp only [Act.put, List.setIfInBounds_toArray, List.set_cons_zero, List.set_cons_succ]
            obtain ⟨g, rfl, hg, hog, hb1⟩ := h1
            have hw1 := hb1.size
            have HGn := Lib.hid hog
            have HO1 := Lib.hid (ownsRow_below' HO0.out hb1)
            have HB1 := Lib.hid (HW0.out.trans (hb1.mono HW0.out.size))
            have HN1 := Lib.hid hS1
            have HL1 : Hid (wo.heap.size < w1.heap.size) := Lib.hid (by omega)
            clear hog hb1 hS1 hS0
            refine takeA (i := 6) (some 54) (.tmp 48) (.tmp 53) rfl rfl (by kernel_rfl) (by rfl) rfl w v6 (16 * k + 2 + 8 + 4) (_) rfl HO1.out HB1.out ⟨g, 0, none⟩ 2 2 (vals (putZ E.su 2) 2) rfl (vals_len _ _) (rd_newsB HGn.out.rd) (vals_one _ _) (by omega) (fun v9 w9 ho3 hb3 hs3 hk3 => ⟨(hk3 wo.heap.size HL1.out HF0.out).1.trans HN1.out, ?_⟩)
            simp only [Act.put, List.setIfInBounds_toArray, List.set_cons_zero, List.set_cons_succ]
            have hS3 : w9.heap[wo.heap.size]? = some (.cells (enC E) 96 (0, 0)) := (hk3 wo.heap.size HL1.out HF0.out).1.trans HN1.out
            have HX3 := Lib.hid hS3
            have HF3 := Lib.hid (hk3 wo.heap.size HL1.out HF0.out).2
            have HO3 := Lib.hid ho3
            have HB3 := Lib.hid hb3
            have HL3 : Hid (wo.heap.size < w9.heap.size) := Lib.hid (by have := HL1.out; omega)
            clear ho3 hb3 hs3 hk3 HO1 HB1 HN1 HL1 HGn hg hw1 HX0 HF0 HO0 HW0 hsz0
            refine takeY (i := 7) (some 6) (v := v9) rfl rfl (by kernel_rfl) (by kernel_rfl) (by kernel_rfl) (fun _ _ _ h => h) (by rfl) (fun w' hS => by go_simp) hS3 ?_
            simp only [Act.put, List.setIfInBounds_toArray, List.set_cons_zero, List.set_cons_succ]
            refine wpAnyH_done (by kernel_rfl) ?_ _
            have HOF : Hid (OwnB w9 w.heap.size v9 (16 * (k + 1)) (enZ L)) := Lib.hid (by
              have h := HO3.out
              rw [hn0.out] at h
              exact ⟨h, HB.out⟩)
            go_wp2_with fail
            go_roundw
            case rel => first | exact ⟨k + 1, by omega, by go_num, HOF, HB3⟩ | exact ⟨_, _, _, ⟨k + 1, by omega, by go_num, HOF, HB3⟩, rfl, rfl, rfl⟩ | ((repeat apply Exists.intro); exact ⟨⟨k + 1, by omega, by go_num, HOF, HB3⟩, rfl⟩)
            case measure => simp only [intOf]; omega
          · obtain rfl : k = m0 := by omega
            go_wp2_with fail
            go_ret2
            exact .inr (.inr ⟨rfl, by omega, _, rfl, HO.out, HW.out⟩)
end Go.Proofs.Ytfojfdlapekjoaa

/- pdu.getNumber, getNode, getID. Each theorem states its conditions. -/
namespace Go.Proofs.Ytfojfdlapekjoaa
open Go.RowKit
set_option linter.unusedVariables false

theorem Row8.shift {w : World} {b off n : Nat} {z : Nat → Int} (h : Row8 w b off n z) (k m : Nat) (hk : k + m ≤ n) : Row8 w b (off + k) m (fun j => z (k + j)) :=
  ⟨h.1, fun j hj => by have := h.2.1 (k + j) (by omega); rwa [← Nat.add_assoc] at this, fun j => h.2.2 _⟩
/-- the number that all bytes are -/
theorem getNumber_any (b off n c : Nat) (z : Nat → Int) (w : World) (hr : Row8 w b off n z) (h1 : 1 ≤ n) (h8 : n ≤ 8) (hc : n ≤ c) (hcm : c ≤ maxLen) :
    Calls Try.prog 55 #[.slice (some ⟨b, off, none⟩) n c] w fun e w' => e = .returned (.int .u64 (((numZ z 0 n).toNat : Nat) : Int)) ∧ w' = w := by
  have HN := Lib.hid (num_ok b off n c z 0 n w hr.2.2 hcm hc (fun j hj => hr.2.1 j hj) (by omega) (by omega) (Int.le_refl 0) (by omega))
  have hb := numZ_lt z 0 n (fun j => hr.2.2 _)
  obtain ⟨M, hM⟩ : ∃ M, (numZ z 0 n).toNat = M := ⟨_, rfl⟩
  have HB : Hid (numZ z (0 : Int).toNat (n : Int).toNat = (M : Int)) := Lib.hid (by rw [← hM, Int.toNat_natCast, Int.toNat_of_nonneg hb.1]; rfl)
  rw [hM]
  clear hM
  unfold maxLen at hcm
  clear hr hb
  go_enter Try.func55, Try.ntmps55
  go_wp2_with fail
  refine HN.out.mono ?_
  rintro e w1 ⟨rfl, rfl⟩
  rw [HB.out]
  go_wp2_with fail
  go_ret
  exact ⟨rfl, rfl⟩
theorem six_src {W : World} {b off n : Nat} {z : Nat → Int} (h : Row8 W b off n z) (hp : 6 ≤ n) : ∀ j v, (vals z 6)[j]? = some v → W.cell? ((⟨b, off, none⟩ : Addr).add j) = some v := by
  intro j v hj
  have hj6 : j < 6 := by
    rcases Nat.lt_or_ge j 6 with h | h
    · exact h
    · rw [List.getElem?_eq_none (by rw [vals_len]; omega)] at hj; cases hj
  rw [vals_at _ _ _ hj6] at hj
  injection hj with hj
  subst hj
  rw [add_none]
  exact h.2.1 j (by omega)
theorem info_u8s' : (Try.prog.info? 5).map (·.size) = some 1 := by kernel_rfl
theorem info_nd : (Try.prog.info? 25).map (·.size) = some 7 := by kernel_rfl
theorem hi_nd' (z : Nat → Int) : (Try.prog.info? 25).map (·.size) = some (ndC z).size := by kernel_rfl
def nd0 : Array Value := #[.int .u8 0, .int .u8 0, .int .u8 0, .int .u8 0, .int .u8 0, .int .u8 0, .int .u8 0]
theorem nd_splice (z : Nat → Int) : (splice nd0.toList 0 (vals z 6)).toArray = ndC (fun j => if j < 6 then z j else 0) := by kernel_rfl
theorem nd_put (z : Nat → Int) : (ndC (fun j => if j < 6 then z j else 0)).setIfInBounds 6 (.int .u8 (z 6)) = ndC z := by kernel_rfl
theorem nd_all (z : Nat → Int) : (ndC z).all (·.oneCell') = true := by kernel_rfl
section
variable {ops : Array Oper} {rest : List Oper} {op : Oper} {a : Act} {w : World} {Q : Exit → Act → World → Prop} {b : Nat}
theorem store_blk {ty : TypeId} {cells old : Array Value} (hgd : op.guard = none) (x y : Operand) (ho : op.op = .store ty x y) (hx : a.eval x = .pointer (some ⟨b, 0, none⟩)) (hy : a.eval y = .agg cells)
    (hg : w.heap[b]? = some (.cells old ty (0, 0))) (hi : (Try.prog.info? ty).map (·.size) = some cells.size) (hs : old.size = cells.size) (h1 : cells.all (·.oneCell') = true)
    (h : ∀ w', w'.heap[b]? = some (.cells cells ty (0, 0)) → (∀ B, B ≤ b → Below B w w') → (∀ k, k ≠ b → w'.heap[k]? = w.heap[k]?) → wpList Try.prog ops Q rest (a.put op.dst undef) w') : wpList Try.prog ops Q (op :: rest) a w := by
  refine wpList_plain hgd fun K hK => ?_
  have hrun := run_storeVar_row (P := Try.prog) w b ty ty old cells hg hi hs h1
  unfold Oper.wp execOp
  simp only [ho, hx, hy, Instr.storeAt, Instr.sureAddr, Sem.run_bind, Sem.run_pure, Result.andThen_ok, hrun]
  exact hK _ _ (h _ (setRow_heap w b old cells ty (0, 0) hg) (fun B hB => ⟨rfl, rfl, rfl, by simp [World.setRow], fun k hk => setRow_other w b k cells (by omega)⟩) (fun k hk => setRow_other w b k cells hk))
end
theorem results_nd {fn : Func} {p : Tmp} (h : fn.results = #[.cell p 25]) (tmps : Array Value) (W : World) (g : Nat) (z : Nat → Int)
    (hp : tmps.getD p undef = .pointer (some ⟨g, 0, none⟩)) (hg : W.heap[g]? = some (.cells (ndC z) 25 (0, 0))) : (results fn tmps).run Try.prog W = .ok (.agg (ndC z)) W := by
  have h1 := run_loadVar_row (P := Try.prog) W g 25 25 (ndC z) (0, 0) _ hg Try.underlying25 rfl (hi_nd' z)
  have hp' : (tmps[p]?).getD undef = .pointer (some ⟨g, 0, none⟩) := by simpa using hp
  simp only [results, h]
  simp [hp', asAddr, h1]
theorem nd_range {w : World} {X : Nat} {C : Array Value} {t : TypeId} (h : w.heap[X]? = some (.cells C t (0, 0))) : w.rangeAt X 0 C.toList := by
  intro j u hj
  rw [Nat.zero_add, cell_of_row w X j _ _ _ h]
  simpa using hj
theorem row_put {W : World} {X i : Nat} {C C' : Array Value} {t : TypeId} {v : Value} (h : W.heap[X]? = some (.cells C t (0, 0))) (hC : C.setIfInBounds i v = C') : (W.setCell ⟨X, i, none⟩ v).heap[X]? = some (.cells C' t (0, 0)) := by
  subst hC
  simp [World.setCell, Array.getElem?_modify, h]
set_option maxHeartbeats 2000000 in
set_option maxRecDepth 100000 in
theorem getNode_any (b off n c : Nat) (z : Nat → Int) (w : World) (hr : Row8 w b off n z) (h1 : 7 ≤ n) (hc : n ≤ c) (hcm : c ≤ maxLen) :
    Calls Try.prog 72 #[.slice (some ⟨b, off, none⟩) n c] w fun e w' => e = .returned (.agg (ndC z)) ∧ Below w.heap.size w w' := by
  obtain ⟨W2, hW2⟩ : ∃ W2, (w.alloc (.cells nd0 25)).alloc (.cells nd0 25) = W2 := ⟨_, rfl⟩
  have hB2 : Below w.heap.size w W2 := by rw [← hW2]; exact ((bself w).alloc (Nat.le_refl _) _).alloc (by simp) _
  have hX1 : W2.heap[w.heap.size + 1]? = some (.cells nd0 25 (0, 0)) := by
    have := heap_alloc_new (w.alloc (.cells nd0 25)) (.cells nd0 25)
    rw [World.size_alloc, hW2] at this
    exact this
  have hX0 : W2.heap[w.heap.size]? = some (.cells nd0 25 (0, 0)) := by
    rw [← hW2]
    exact (Below.heap_alloc _ _ _ (by simp)).trans (heap_alloc_new w _)
  have hR2 := hr.below hB2 hr.1
  have HS := Lib.hid (six_src hR2 (by omega))
  have HB2 := Lib.hid hB2
  have HX1 := Lib.hid hX1
  have HX0 := Lib.hid hX0
  have HR2 := Lib.hid hR2
  have hbw := hr.1
  have HW2 := Lib.hid hW2
  have HML : Hid ((vals z 6).length = Nat.min n 6) := Lib.hid (by rw [vals_len]; exact (Nat.min_eq_right (by omega)).symm)
  unfold maxLen at hcm
  clear hr hB2 hX1 hX0 hR2 hW2
  unfold nd0 at HW2
  go_enter Try.func72, Try.ntmps72
  go_wp2_with (first
    | (rw [HW2.out]; refine wpList_step fun K hK => ?_; refine step_copy_splice rfl (.tmp 6) (.tmp 7) 35 35 rfl 5 Try.underlying35 info_u8s' (some ⟨w.heap.size + 1, 0, none⟩) (some ⟨b, off, none⟩) 6 6 n c rfl rfl (w.heap.size + 1) 0 nd0.toList 25 (by simpa using HX1.out) (vals z 6) HML.out (fun _ => ⟨rfl, _, rfl, HS.out⟩) (show 0 + (vals z 6).length ≤ 7 by rw [vals_len]; decide) (vals_one _ _) (w.heap.size + 1) W2 (Below.refl _ _) (Nat.le_refl _) ?_; intro w3 hc3 hb3; refine hK _ _ ?_; rw [vals_len];
        have hE3 : w3.heap[w.heap.size + 1]? = some (.cells (ndC (fun j => if j < 6 then z j else 0)) 25 (0, 0)) := (by have := hc3.out; rw [nd_splice] at this; exact this);
        have c6 : w3.cell? ⟨b, off + 6, none⟩ = some (.int .u8 (z 6)) := (by rw [hb3.cell (by show b < _; omega)]; exact HR2.out.2.1 6 (by omega));
        have d6 : w3.cell? ⟨w.heap.size + 1, 6, none⟩ = some (.int .u8 0) := (cell_of_row w3 _ 6 _ _ _ hE3).trans rfl;
        have f6 : w3.frozen? ⟨w.heap.size + 1, 6, none⟩ = false := (by simp [World.frozen?, hE3]);
        have hE4 := Lib.hid (row_put (i := 6) (v := .int .u8 (z 6)) hE3 (nd_put z));
        have hB4 := Lib.hid (hb3.setCell (p := ⟨w.heap.size + 1, 6, none⟩) (Nat.le_refl _) (.int .u8 (z 6)));
        clear hE3)
    | (refine wpList_load_mid rfl 25 (.tmp 3) rfl (w.heap.size + 1) 0 rfl _ _ (nd_range hE4.out) Try.underlying25 rfl info_nd ?_)
    | (refine store_blk rfl (.tmp 2) (.tmp 14) (cells := ndC z) rfl rfl rfl ((hB4.out.block w.heap.size (by omega)).trans HX0.out) info_nd rfl (nd_all z) ?_; intro w5 hg5 hb5 ho5; refine Hid.out ?_))
  refine Lib.hid ?_
  have HQ := Lib.hid hg5
  have HB5 := Lib.hid (HB2.out.trans ((hB4.out.mono (by omega)).trans (hb5 w.heap.size (Nat.le_refl _))))
  clear hg5 hb5 ho5
  go_wp2_with fail
  refine bodyPost_ret (results_nd rfl _ w5 w.heap.size z rfl HQ.out) rfl ⟨rfl, HB5.out⟩
end Go.Proofs.Ytfojfdlapekjoaa

/- pdu.getID reads an ID. Each theorem states its conditions. -/
namespace Go.Proofs.Ytfojfdlapekjoaa
open Go.RowKit
set_option linter.unusedVariables false

def id0 : Array Value := #[.int .u8 0, .int .u8 0, .int .u8 0, .int .u8 0, .int .u8 0, .int .u8 0, .int .u8 0, .int .u8 0]
theorem info_id : (Try.prog.info? 27).map (·.size) = some 8 := by kernel_rfl
theorem hi_id (z : Nat → Int) : (Try.prog.info? 27).map (·.size) = some (idC z).size := by kernel_rfl
theorem id_all (z : Nat → Int) : (idC z).all (·.oneCell') = true := by kernel_rfl
theorem results_id {fn : Func} {p : Tmp} (h : fn.results = #[.cell p 27]) (tmps : Array Value) (W : World) (g : Nat) (z : Nat → Int)
    (hp : tmps.getD p undef = .pointer (some ⟨g, 0, none⟩)) (hg : W.heap[g]? = some (.cells (idC z) 27 (0, 0))) : (results fn tmps).run Try.prog W = .ok (.agg (idC z)) W := by
  have h1 := run_loadVar_row (P := Try.prog) W g 27 27 (idC z) (0, 0) _ hg Try.underlying27 rfl (hi_id z)
  have hp' : (tmps[p]?).getD undef = .pointer (some ⟨g, 0, none⟩) := by simpa using hp
  simp only [results, h]
  simp [hp', asAddr, h1]
theorem build_id (o : Oper) (e : Operand → Value) (x0 x1 : Operand) (ho : o.op = .build 27 #[(0, x0), (1, x1)]) (z : Nat → Int) (h0 : e x0 = .agg (ndC z)) (h1 : e x1 = .int .u8 (z 7)) (W : World) :
    (execOp e o).run Try.prog W = .ok (.value (.agg (idC z))) W := by
  unfold execOp
  simp only [ho]
  simp only [List.map_toArray, List.map_cons, List.map_nil, h0, h1]
  kernel_rfl
set_option maxHeartbeats 2000000 in
set_option maxRecDepth 100000 in
theorem getID_any (b off c : Nat) (z : Nat → Int) (w : World) (hr : Row8 w b off 8 z) (hc : 8 ≤ c) (hcm : c ≤ maxLen) :
    Calls Try.prog 56 #[.slice (some ⟨b, off, none⟩) 8 c] w fun e w' => e = .returned (.agg (idC z)) ∧ Below w.heap.size w w' := by
  have hbw := hr.1
  have HB1 := Lib.hid ((bself w).alloc (Nat.le_refl _) (.cells id0 27))
  have HX1 := Lib.hid (heap_alloc_new w (.cells id0 27))
  have hs1 : (w.alloc (.cells id0 27)).heap.size = w.heap.size + 1 := by simp
  have HR1 := Lib.hid (hr.below HB1.out hbw)
  obtain ⟨W1, hW1⟩ : ∃ W1, w.alloc (.cells id0 27) = W1 := ⟨_, rfl⟩
  rw [hW1] at HB1 HX1 hs1 HR1
  have HW1 := Lib.hid hW1
  have hcm' := Lib.hid hcm
  unfold maxLen at hcm
  clear hr hW1
  unfold id0 at HW1
  go_enter Try.func56, Try.ntmps56
  go_wp2_with fail
  rw [HW1.out]
  refine wp_region_held_drew (S := fun w' => w'.cell? ⟨b, off + 7, none⟩ = some (.int .u8 (z 7))) (by kernel_rfl) (HR1.out.2.1 7 (by omega)) (fun hS0 => ?_)
  refine takeY (i := 0) (some 3) (v := .slice (some ⟨b, off, none⟩) 8 c) rfl rfl (by kernel_rfl) (by kernel_rfl) (by kernel_rfl) (fun _ _ _ h => h) (by rfl) (fun w' hS => by go_simp) hS0 ?_
  simp only [Act.put, List.setIfInBounds_toArray, List.set_cons_zero, List.set_cons_succ]
  refine takeY (i := 2) (some 5) (v := .slice (some ⟨b, off, none⟩) 8 c) rfl rfl (by kernel_rfl) (by kernel_rfl) (by kernel_rfl) (fun _ _ _ h => h) (by rfl) (fun w' hS => by go_simp) hS0 ?_
  simp only [Act.put, List.setIfInBounds_toArray, List.set_cons_zero, List.set_cons_succ]
  refine takeY (i := 3) (some 6) (v := .slice (some ⟨b, off, none⟩) 8 c) rfl rfl (by kernel_rfl) (by kernel_rfl) (by kernel_rfl) (fun _ _ _ h => h) (by rfl) (fun w' hS => by go_simp) hS0 ?_
  simp only [Act.put, List.setIfInBounds_toArray, List.set_cons_zero, List.set_cons_succ]
  refine takeY (i := 4) (some 7) (v := .int .i64 8) rfl rfl (by kernel_rfl) (by kernel_rfl) (by kernel_rfl) (fun _ _ _ h => h) (by rfl) (fun w' hS => by go_simp) hS0 ?_
  simp only [Act.put, List.setIfInBounds_toArray, List.set_cons_zero, List.set_cons_succ]
  refine takeY (i := 5) (some 8) (v := .int .i64 7) rfl rfl (by kernel_rfl) (by kernel_rfl) (by kernel_rfl) (fun _ _ _ h => h) (by rfl) (fun w' hS => by go_simp; rfl) hS0 ?_
  simp only [Act.put, List.setIfInBounds_toArray, List.set_cons_zero, List.set_cons_succ]
  refine takeY (i := 6) (some 9) (v := .pointer (some ⟨b, off + 7, none⟩)) rfl rfl (by kernel_rfl) (by kernel_rfl) (by kernel_rfl) (fun _ _ _ h => h) (by rfl) (fun w' hS => by go_simp) hS0 ?_
  simp only [Act.put, List.setIfInBounds_toArray, List.set_cons_zero, List.set_cons_succ]
  refine takeY (i := 7) (some 10) (v := .int .u8 (z 7)) rfl rfl (by kernel_rfl) (by kernel_rfl) (by kernel_rfl) (fun _ _ _ h => h) (by rfl) (fun w' hS => by go_simp) hS0 ?_
  simp only [Act.put, List.setIfInBounds_toArray, List.set_cons_zero, List.set_cons_succ]
  refine takeC (i := 1) (some 4) 72 #[.slice (some ⟨b, off, none⟩) 8 c] (.agg (ndC z)) (R := fun w' => Below W1.heap.size W1 w') rfl rfl (by kernel_rfl) (by rfl) (by go_simp) ((getNode_any b off 8 c z W1.drew HR1.out (by omega) hc hcm'.out).mono fun e w' h => ⟨h.1, (bself W1).drew.trans h.2⟩) (fun w' h => by rw [h.cell (show b < W1.heap.size by omega)]; exact HR1.out.2.1 7 (by omega)) (fun w2 h2 hS0 => ?_)
  simp only [Act.put, List.setIfInBounds_toArray, List.set_cons_zero, List.set_cons_succ]
  refine takeY (i := 8) (some 11) (v := .agg (idC z)) rfl rfl (by kernel_rfl) (by kernel_rfl) (by kernel_rfl) (fun _ _ _ h => h) (by rfl) (fun w' hS => build_id _ _ _ _ rfl z rfl rfl w') hS0 ?_
  simp only [Act.put, List.setIfInBounds_toArray, List.set_cons_zero, List.set_cons_succ]
  have hX2 := (h2.block w.heap.size (by omega)).trans HX1.out
  refine takeS (i := 9) (.tmp 2) (.tmp 11) rfl rfl rfl (by kernel_rfl) (by rfl) rfl rfl hX2 (hi_id z) rfl (id_all z) (fun w' _ hb _ => by rw [(hb w.heap.size (Nat.le_refl _)).cell hbw]; exact hS0) (fun w3 hg3 hb3 _ hS3 => ?_)
  simp only [Act.put, List.setIfInBounds_toArray, List.set_cons_zero, List.set_cons_succ]
  refine wpAnyH_done (by kernel_rfl) ?_ _
  have HQ := Lib.hid hg3
  have HB3 := Lib.hid (HB1.out.trans ((h2.mono (by omega)).trans (hb3 w.heap.size (Nat.le_refl _))))
  clear hg3 hb3 h2 hX2 hS3 hS0
  go_wp2_with fail
  refine bodyPost_ret (results_id rfl _ w3 w.heap.size z rfl HQ.out) rfl ⟨rfl, HB3.out⟩
end Go.Proofs.Ytfojfdlapekjoaa

/- Packets: their cells, which fields a kind has, and their bytes. Each theorem states its conditions. -/
namespace Go.Proofs.Ytfojfdlapekjoaa
open Go.RowKit
set_option linter.unusedVariables false

/-- a packet: what stands in its cells -/
structure Pd where
  kd : Int
  ci : Int
  so : Nat → Int
  ho : Int
  nu : Int
  pr : Int
  la : Nat → Int
  li : Int
  id : Nat → Int
  sq : Nat
  bi : Int
  st : Nat → Int
  en : Nat → Int
  A : Option Addr
  m : Nat
  c : Nat
def by1 (x : Int) : Prop := 0 ≤ x ∧ x ≤ 255
def in64 (x : Int) : Prop := -9223372036854775808 ≤ x ∧ x ≤ 9223372036854775807
def PdOk (p : Pd) : Prop := (by1 p.kd ∧ by1 p.ci ∧ (∀ j, 0 ≤ p.so j ∧ p.so j ≤ 255) ∧ in64 p.ho ∧ by1 p.nu ∧ by1 p.pr ∧ (∀ j, 0 ≤ p.la j ∧ p.la j ≤ 255)) ∧
  in64 p.li ∧ (∀ j, 0 ≤ p.id j ∧ p.id j ≤ 255) ∧ p.sq ≤ 4294967295 ∧ by1 p.bi ∧ (∀ j, 0 ≤ p.st j ∧ p.st j ≤ 255) ∧ (∀ j, 0 ≤ p.en j ∧ p.en j ≤ 255)
def pdC (p : Pd) : Array Value := #[.int .u8 p.kd, .int .u8 p.ci,
  .int .u8 (p.so 0), .int .u8 (p.so 1), .int .u8 (p.so 2), .int .u8 (p.so 3), .int .u8 (p.so 4), .int .u8 (p.so 5), .int .u8 (p.so 6),
  .int .i64 p.ho, .int .u8 p.nu, .int .u8 p.pr,
  .int .u8 (p.la 0), .int .u8 (p.la 1), .int .u8 (p.la 2), .int .u8 (p.la 3), .int .u8 (p.la 4), .int .u8 (p.la 5), .int .u8 (p.la 6),
  .int .i64 p.li,
  .int .u8 (p.id 0), .int .u8 (p.id 1), .int .u8 (p.id 2), .int .u8 (p.id 3), .int .u8 (p.id 4), .int .u8 (p.id 5), .int .u8 (p.id 6), .int .u8 (p.id 7),
  .int .u32 (p.sq : Int), .int .u8 p.bi,
  .int .u8 (p.st 0), .int .u8 (p.st 1), .int .u8 (p.st 2), .int .u8 (p.st 3), .int .u8 (p.st 4), .int .u8 (p.st 5), .int .u8 (p.st 6), .int .u8 (p.st 7),
  .int .u8 (p.en 0), .int .u8 (p.en 1), .int .u8 (p.en 2), .int .u8 (p.en 3), .int .u8 (p.en 4), .int .u8 (p.en 5), .int .u8 (p.en 6), .int .u8 (p.en 7),
  .slice p.A p.m p.c]
theorem pdC_size (p : Pd) : (pdC p).size = 47 := rfl
theorem pdC_one (p : Pd) : (pdC p).all (·.oneCell') = true := by kernel_rfl

/-- of which class a kind is -/
def cls (k : Int) : Nat := if k = 17 then 0 else if k = 15 ∨ k = 16 then 1 else if k = 18 ∨ k = 20 then 2 else if k = 24 ∨ k = 25 then 3 else if k = 26 ∨ k = 27 then 4 else 5
/-- the fields of a class -/
def flC : Nat → List Nat
  | 0 => [0, 1, 3, 4, 5]
  | 1 => [0, 1, 3, 4, 6, 7]
  | 2 => [4, 8, 9, 10, 11, 12]
  | 3 => [4, 2, 13, 14]
  | 4 => [4, 2]
  | _ => []
def flA (q : Nat) : Array Value := ((flC q).map fun (f : Nat) => Value.int .i64 (f : Int)).toArray
/-- how many bytes a field has -/
def fsz : Nat → Nat
  | 1 => 6
  | 2 => 7
  | 3 => 2
  | 4 => 2
  | 7 => 7
  | 8 => 2
  | 9 => 8
  | 10 => 4
  | 11 => 2
  | 13 => 8
  | 14 => 8
  | _ => 1
def fAt (q i : Nat) : Nat := (flC q).getD i 0
/-- how many bytes stand ahead of field i -/
def accN (q : Nat) : Nat → Nat
  | 0 => 8
  | i + 1 => accN q i + fsz (fAt q i)
def hdN (q : Nat) : Nat := accN q (flC q).length
theorem fAt_le (q i : Nat) (hq : q ≤ 4) : fAt q i ≤ 14 := by
  have h : ∀ f ∈ flC q, f ≤ 14 := by
    rcases (by omega : q = 0 ∨ q = 1 ∨ q = 2 ∨ q = 3 ∨ q = 4) with rfl | rfl | rfl | rfl | rfl <;> decide
  unfold fAt
  by_cases hi : i < (flC q).length
  · simp only [List.getD, List.getElem?_eq_getElem hi, Option.getD_some]
    exact h _ (List.getElem_mem hi)
  · simp only [List.getD, List.getElem?_eq_none (Nat.le_of_not_lt hi), Option.getD_none]
    omega
theorem fl_len (q : Nat) (hq : q ≤ 4) : 0 < (flC q).length ∧ (flC q).length ≤ 6 := by
  rcases (by omega : q = 0 ∨ q = 1 ∨ q = 2 ∨ q = 3 ∨ q = 4) with rfl | rfl | rfl | rfl | rfl <;> decide
theorem fsz_bd (f : Nat) : 1 ≤ fsz f ∧ fsz f ≤ 8 := by
  unfold fsz; split <;> decide
theorem accN_bd (q i : Nat) : 8 ≤ accN q i ∧ accN q i ≤ 8 + 8 * i := by
  induction i with
  | zero => simp [accN]
  | succ i ih => have := fsz_bd (fAt q i); simp only [accN]; omega
theorem hdN_bd (q : Nat) (hq : q ≤ 4) : 17 ≤ hdN q ∧ hdN q ≤ 33 := by
  rcases (by omega : q = 0 ∨ q = 1 ∨ q = 2 ∨ q = 3 ∨ q = 4) with rfl | rfl | rfl | rfl | rfl <;> decide
theorem flA_at (q i : Nat) (hi : i < (flC q).length) : (flA q)[i]? = some (.int .i64 ((fAt q i : Nat) : Int)) := by
  unfold flA fAt
  simp [List.getD, hi]
theorem flA_size (q : Nat) : (flA q).size = (flC q).length := by simp [flA]

/-- may what stands in a field stand there? -/
def fitB (p : Pd) : Nat → Bool
  | 0 => decide (1 ≤ p.ci ∧ p.ci ≤ 3)
  | 3 => decide (0 ≤ p.ho ∧ p.ho ≤ 65535)
  | 8 => decide (0 ≤ p.li ∧ p.li ≤ 65535)
  | 6 => decide (p.pr ≤ 127)
  | _ => true
/-- the first i fields -/
def fitsTo (p : Pd) (q : Nat) : Nat → Bool
  | 0 => true
  | i + 1 => fitsTo p q i && fitB p (fAt q i)
def fitP (p : Pd) (q : Nat) : Bool := fitsTo p q (flC q).length
/-- the first six -/
def cutSys (s : Nat → Int) : Nat → Int := fun j => if j < 6 then s j else 0
theorem cutSys_bd {s : Nat → Int} (h : ∀ j, 0 ≤ s j ∧ s j ≤ 255) : ∀ j, 0 ≤ cutSys s j ∧ cutSys s j ≤ 255 := by
  intro j; unfold cutSys; split
  · exact h j
  · exact ⟨Int.le_refl 0, (by decide : (0 : Int) ≤ 255)⟩
theorem cutSys_cut (s : Nat → Int) : cutSys (cutSys s) = cutSys s := by funext j; unfold cutSys; split <;> rfl
/-- the bytes of a field; W: how many bytes the packet has -/
def fZ (p : Pd) (W : Nat) : Nat → Nat → Int
  | 0 => fun _ => p.ci
  | 1 => cutSys p.so
  | 2 => p.so
  | 3 => putZ p.ho.toNat 2
  | 4 => putZ W 2
  | 5 => fun _ => p.nu
  | 6 => fun _ => p.pr
  | 7 => p.la
  | 8 => putZ p.li.toNat 2
  | 9 => p.id
  | 10 => putZ p.sq 4
  | 12 => fun _ => p.bi
  | 13 => p.st
  | 14 => p.en
  | _ => fun _ => 0
theorem fZ_bd (p : Pd) (W f : Nat) (h : PdOk p) : ∀ j, 0 ≤ fZ p W f j ∧ fZ p W f j ≤ 255 := by
  obtain ⟨⟨h1, h2, h3, h4, h5, h6, h7⟩, h8, h9, h10, h11, h12, h13⟩ := h
  intro j
  unfold fZ
  split <;> first | assumption | exact cutSys_bd h3 j | exact h3 j | exact h7 j | exact h9 j | exact h12 j | exact h13 j | exact putZ_bd _ _ _ | exact ⟨Int.le_refl 0, (by decide : (0 : Int) ≤ 255)⟩
/-- the first eight bytes -/
def headZ (k : Int) (n : Nat) : Nat → Int := fun j => if j = 0 then 131 else if j = 1 then (n : Int) else if j = 2 then 1 else if j = 3 then 0 else if j = 4 then k else if j = 5 then 1 else 0
theorem headZ_bd (k : Int) (n : Nat) (hk : by1 k) (hn : n ≤ 255) : ∀ j, 0 ≤ headZ k n j ∧ headZ k n j ≤ 255 := by
  intro j; unfold headZ; unfold by1 at hk
  repeat' split
  all_goals omega
/-- the bytes to field i -/
def accZ (p : Pd) (W q : Nat) : Nat → Nat → Int
  | 0 => headZ p.kd (hdN q)
  | i + 1 => cat (accZ p W q i) (accN q i) (fZ p W (fAt q i))
theorem accZ_bd (p : Pd) (W q : Nat) (hq : q ≤ 4) (h : PdOk p) (i : Nat) : ∀ j, 0 ≤ accZ p W q i j ∧ accZ p W q i j ≤ 255 := by
  induction i with
  | zero => exact headZ_bd _ _ h.1.1 (by have := hdN_bd q hq; omega)
  | succ i ih => exact cat_bd ih (fZ_bd p W _ h)
/-- all bytes, without the check bytes -/
def wZ (p : Pd) (q : Nat) (L : Nat → It) : Nat → Int := cat (accZ p (hdN q + sz L p.m) q (flC q).length) (hdN q) (J L p.m)
/-- check bytes are laid -/
def sgZ (z : Nat → Int) (n : Nat) : Nat → Int := fun j => if j = 24 then chkX (fun i => z (12 + i)) 12 (n - 12) else if j = 25 then chkY (fun i => z (12 + i)) 12 (n - 12) else z j
theorem sgZ_bd (z : Nat → Int) (n : Nat) (hz : ∀ j, 0 ≤ z j ∧ z j ≤ 255) : ∀ j, 0 ≤ sgZ z n j ∧ sgZ z n j ≤ 255 := by
  intro j
  have := chk_bd (fun i => z (12 + i)) 12 (n - 12)
  unfold sgZ
  split
  · omega
  · split
    · omega
    · exact hz j
/-- the bytes of a packet -/
def pdZ (p : Pd) (q : Nat) (L : Nat → It) : Nat → Int := if q = 2 then sgZ (wZ p q L) (hdN q + sz L p.m) else wZ p q L
end Go.Proofs.Ytfojfdlapekjoaa

/- pdu's fields, size, ahead, head, isState. Each theorem states its conditions. -/
namespace Go.Proofs.Ytfojfdlapekjoaa
open Go.RowKit
set_option linter.unusedVariables false

theorem fields_any (k : Int) (q : Nat) (hk : cls k = q) (hq : q ≤ 4) (w : World) : Calls Try.prog 30 #[.int .u8 k] w fun e w' => e = .returned (.slice (some ⟨w.heap.size, 0, none⟩) (flC q).length (flC q).length) ∧ w'.heap[w.heap.size]? = some (.cells (flA q) 78 (0, 0)) ∧ Below w.heap.size w w' := by
  subst hk
  have hk : k = 17 ∨ k = 15 ∨ k = 16 ∨ k = 18 ∨ k = 20 ∨ k = 24 ∨ k = 25 ∨ k = 26 ∨ k = 27 := by unfold cls at hq; (repeat' split at hq) <;> omega
  clear hq
  rcases hk with rfl | rfl | rfl | rfl | rfl | rfl | rfl | rfl | rfl
  · go_enter Try.func30, Try.ntmps30
    go_wp2
    go_ret
    exact ⟨rfl, heap_alloc_new w _, (bself w).alloc (Nat.le_refl _) _⟩
  · go_enter Try.func30, Try.ntmps30
    go_wp2
    go_ret
    exact ⟨rfl, heap_alloc_new w _, (bself w).alloc (Nat.le_refl _) _⟩
  · go_enter Try.func30, Try.ntmps30
    go_wp2
    go_ret
    exact ⟨rfl, heap_alloc_new w _, (bself w).alloc (Nat.le_refl _) _⟩
  · go_enter Try.func30, Try.ntmps30
    go_wp2
    go_ret
    exact ⟨rfl, heap_alloc_new w _, (bself w).alloc (Nat.le_refl _) _⟩
  · go_enter Try.func30, Try.ntmps30
    go_wp2
    go_ret
    exact ⟨rfl, heap_alloc_new w _, (bself w).alloc (Nat.le_refl _) _⟩
  · go_enter Try.func30, Try.ntmps30
    go_wp2
    go_ret
    exact ⟨rfl, heap_alloc_new w _, (bself w).alloc (Nat.le_refl _) _⟩
  · go_enter Try.func30, Try.ntmps30
    go_wp2
    go_ret
    exact ⟨rfl, heap_alloc_new w _, (bself w).alloc (Nat.le_refl _) _⟩
  · go_enter Try.func30, Try.ntmps30
    go_wp2
    go_ret
    exact ⟨rfl, heap_alloc_new w _, (bself w).alloc (Nat.le_refl _) _⟩
  · go_enter Try.func30, Try.ntmps30
    go_wp2
    go_ret
    exact ⟨rfl, heap_alloc_new w _, (bself w).alloc (Nat.le_refl _) _⟩
theorem fields_none (k : Int) (hk : cls k = 5) (w : World) : Calls Try.prog 30 #[.int .u8 k] w fun e w' => e = .returned (.slice none 0 0) ∧ w = w' := by
  have h : ¬ (k = 17 ∨ k = 15 ∨ k = 16 ∨ k = 18 ∨ k = 20 ∨ k = 24 ∨ k = 25 ∨ k = 26 ∨ k = 27) := by unfold cls at hk; (repeat' split at hk) <;> omega
  clear hk
  have h17 : (k == 17) = false := by simp; omega
  have h15 : (k == 15) = false := by simp; omega
  have h16 : (k == 16) = false := by simp; omega
  have h18 : (k == 18) = false := by simp; omega
  have h20 : (k == 20) = false := by simp; omega
  have h24 : (k == 24) = false := by simp; omega
  have h25 : (k == 25) = false := by simp; omega
  have h26 : (k == 26) = false := by simp; omega
  have h27 : (k == 27) = false := by simp; omega
  clear h
  go_enter Try.func30, Try.ntmps30
  go_wp2
  go_ret
  exact ⟨rfl, rfl⟩
theorem size_any (f : Nat) (hf : f ≤ 14) (w : World) : Calls Try.prog 52 #[.int .i64 (f : Int)] w fun e w' => e = .returned (.int .i64 (fsz f : Nat)) ∧ w = w' := by
  rcases (by omega : f = 0 ∨ f = 1 ∨ f = 2 ∨ f = 3 ∨ f = 4 ∨ f = 5 ∨ f = 6 ∨ f = 7 ∨ f = 8 ∨ f = 9 ∨ f = 10 ∨ f = 11 ∨ f = 12 ∨ f = 13 ∨ f = 14) with rfl | rfl | rfl | rfl | rfl | rfl | rfl | rfl | rfl | rfl | rfl | rfl | rfl | rfl | rfl <;>
  · go_enter Try.func52, Try.ntmps52
    go_wp2
    go_ret
    exact ⟨rfl, rfl⟩
/-- the list of a kind's fields lies at g -/
def FlAt (w : World) (g q : Nat) : Prop := w.heap[g]? = some (.cells (flA q) 78 (0, 0))
theorem FlAt.cell {w : World} {g q i : Nat} (h : FlAt w g q) (hi : i < (flC q).length) : w.cell? ⟨g, i, none⟩ = some (.int .i64 ((fAt q i : Nat) : Int)) := by
  rw [cell_of_row w g i _ _ _ h]
  exact flA_at q i hi
theorem FlAt.below {w w' : World} {g q : Nat} (h : FlAt w g q) (hb : Below w.heap.size w w') : FlAt w' g q := (hb.block g (Array.getElem?_eq_some_iff.1 h).1).trans h
theorem ahead_any (g q : Nat) (hq : q ≤ 4) (w : World) (h : FlAt w g q) : Calls Try.prog 33 #[.slice (some ⟨g, 0, none⟩) (flC q).length (flC q).length] w fun e w' => e = .returned (.int .i64 (hdN q : Nat)) ∧ w = w' := by
  have HF := Lib.hid h
  have hl := fl_len q hq
  have HD : Hid (accN q (flC q).length = hdN q) := Lib.hid rfl
  obtain ⟨n, hn⟩ : ∃ n, (flC q).length = n := ⟨_, rfl⟩
  have HN := Lib.hid hn
  rw [hn] at hl HD ⊢
  clear h hn
  go_enter Try.func33, Try.ntmps33
  go_wp2_with fail
  go_loop [3, 8] (fun s t => ∃ i : Nat, i ≤ n ∧ t = .int .i64 i ∧ s = .int .i64 (accN q i : Nat)) (fun _ t => n - (intOf t).toNat)
  case atStart => exact ⟨0, Nat.zero_le _, rfl, rfl⟩
  case round =>
    obtain ⟨i, hi, rfl, rfl⟩ := hrel
    by_cases hlt : i < n
    · have ci := HF.out.cell (i := i) (by rw [HN.out]; exact hlt)
      have hb := accN_bd q i
      have hs : Hid (accN q (i + 1) = accN q i + fsz (fAt q i)) := Lib.hid rfl
      have hf := fAt_le q i hq
      have hfz := fsz_bd (fAt q i)
      obtain ⟨f, hf'⟩ : ∃ f, fAt q i = f := ⟨_, rfl⟩
      rw [hf'] at ci hs hf hfz
      clear hf'
      have HS := Lib.hid (size_any f hf)
      go_wp2_with fail
      refine (HS.out _).mono ?_
      rintro e w1 ⟨rfl, rfl⟩
      go_wp2_with fail
      go_round
      case rel => exact ⟨i + 1, by omega, by go_num, by rw [hs.out]; go_num⟩
      case measure => simp [intOf]; omega
    · obtain rfl : i = n := by omega
      rw [HD.out]
      go_wp2_with fail
      go_ret
      exact ⟨rfl, rfl⟩
theorem head_new (w : World) (k : Int) (n : Nat) : Own8 (w.alloc (.cells #[.int .u8 131, .int .u8 (n : Int), .int .u8 1, .int .u8 0, .int .u8 k, .int .u8 1, .int .u8 0, .int .u8 0] 5)) w.heap.size 8 8 (headZ k n) ↔ ∀ j, 0 ≤ headZ k n j ∧ headZ k n j ≤ 255 := by
  refine ⟨fun h => h.2, fun h => ⟨⟨_, heap_alloc_new w _, Nat.le_refl _, by decide, rfl, fun j hj => ?_⟩, h⟩⟩
  rcases (by omega : j = 0 ∨ j = 1 ∨ j = 2 ∨ j = 3 ∨ j = 4 ∨ j = 5 ∨ j = 6 ∨ j = 7) with rfl | rfl | rfl | rfl | rfl | rfl | rfl | rfl <;> rfl
theorem head_any (k : Int) (n : Nat) (hk : by1 k) (hn : n ≤ 255) (w : World) : Calls Try.prog 34 #[.int .u8 k, .int .i64 (n : Int)] w fun e w' => e = .returned (.slice (some ⟨w.heap.size, 0, none⟩) 8 8) ∧ Own8 w' w.heap.size 8 8 (headZ k n) ∧ Below w.heap.size w w' := by
  have H := Lib.hid ((head_new w k n).2 (headZ_bd k n hk hn))
  clear hk
  go_enter Try.func34, Try.ntmps34
  go_wp2_with fail
  go_ret
  exact ⟨rfl, H.out, (bself w).alloc (Nat.le_refl _) _⟩
theorem isState_any (k : Int) (w : World) : Calls Try.prog 36 #[.int .u8 k] w fun e w' => e = .returned (.bool (decide (cls k = 2))) ∧ w = w' := by
  by_cases h1 : k = 18
  · subst h1
    go_enter Try.func36, Try.ntmps36
    go_wp2
    go_ret
    exact ⟨rfl, rfl⟩
  · by_cases h2 : k = 20
    · subst h2
      go_enter Try.func36, Try.ntmps36
      go_wp2
      go_ret
      exact ⟨rfl, rfl⟩
    · have h3 : (k == 18) = false := by simpa using h1
      have h4 : (k == 20) = false := by simpa using h2
      have h5 : Hid (decide (cls k = 2) = false) := Lib.hid (by unfold cls; simp only [decide_eq_false_iff_not]; (repeat' split) <;> omega)
      clear h1 h2
      go_enter Try.func36, Try.ntmps36
      go_wp2
      go_ret
      exact ⟨ret_bool h5.out.symm, rfl⟩
end Go.Proofs.Ytfojfdlapekjoaa

/- pdu.put writes a field of a packet. Each theorem states its conditions. -/
namespace Go.Proofs.Ytfojfdlapekjoaa
open Go.RowKit
set_option linter.unusedVariables false

/-- a packet lies at g -/
def PdAt (w : World) (g : Nat) (p : Pd) : Prop := w.heap[g]? = some (.cells (pdC p) 33 (0, 0))
theorem PdAt.lt {w : World} {g : Nat} {p : Pd} (h : PdAt w g p) : g < w.heap.size := (Array.getElem?_eq_some_iff.1 h).1
theorem PdAt.below {w w' : World} {g B : Nat} {p : Pd} (h : PdAt w g p) (hb : Below B w w') (hB : g < B) : PdAt w' g p := (hb.block g hB).trans h
theorem PdAt.cell {w : World} {g : Nat} {p : Pd} (h : PdAt w g p) (i : Nat) : w.cell? ⟨g, i, none⟩ = (pdC p)[i]? := cell_of_row w g i _ _ _ h
theorem blk_range {w : World} {X o : Nat} {C : Array Value} {cs : List Value} {t : TypeId} (h : w.heap[X]? = some (.cells C t (0, 0))) (hs : ∀ j, j < cs.length → C[o + j]? = cs[j]?) : w.rangeAt X o cs := by
  intro j u hj
  rw [cell_of_row w X (o + j) _ _ _ h, hs j ?_]
  · exact hj
  · rcases Nat.lt_or_ge j cs.length with h1 | h1
    · exact h1
    · rw [List.getElem?_eq_none h1] at hj; cases hj
theorem PdAt.so {w : World} {g : Nat} {p : Pd} (h : PdAt w g p) : w.rangeAt g 2 (ndC p.so).toList := blk_range h fun j hj => by
  rcases (by have : j < 7 := hj; omega : j = 0 ∨ j = 1 ∨ j = 2 ∨ j = 3 ∨ j = 4 ∨ j = 5 ∨ j = 6) with rfl | rfl | rfl | rfl | rfl | rfl | rfl <;> rfl
theorem PdAt.la {w : World} {g : Nat} {p : Pd} (h : PdAt w g p) : w.rangeAt g 12 (ndC p.la).toList := blk_range h fun j hj => by
  rcases (by have : j < 7 := hj; omega : j = 0 ∨ j = 1 ∨ j = 2 ∨ j = 3 ∨ j = 4 ∨ j = 5 ∨ j = 6) with rfl | rfl | rfl | rfl | rfl | rfl | rfl <;> rfl
theorem PdAt.id {w : World} {g : Nat} {p : Pd} (h : PdAt w g p) : w.rangeAt g 20 (idC p.id).toList := blk_range h fun j hj => by
  rcases (by have : j < 8 := hj; omega : j = 0 ∨ j = 1 ∨ j = 2 ∨ j = 3 ∨ j = 4 ∨ j = 5 ∨ j = 6 ∨ j = 7) with rfl | rfl | rfl | rfl | rfl | rfl | rfl | rfl <;> rfl
theorem PdAt.st {w : World} {g : Nat} {p : Pd} (h : PdAt w g p) : w.rangeAt g 30 (idC p.st).toList := blk_range h fun j hj => by
  rcases (by have : j < 8 := hj; omega : j = 0 ∨ j = 1 ∨ j = 2 ∨ j = 3 ∨ j = 4 ∨ j = 5 ∨ j = 6 ∨ j = 7) with rfl | rfl | rfl | rfl | rfl | rfl | rfl | rfl <;> rfl
theorem PdAt.en {w : World} {g : Nat} {p : Pd} (h : PdAt w g p) : w.rangeAt g 38 (idC p.en).toList := blk_range h fun j hj => by
  rcases (by have : j < 8 := hj; omega : j = 0 ∨ j = 1 ∨ j = 2 ∨ j = 3 ∨ j = 4 ∨ j = 5 ∨ j = 6 ∨ j = 7) with rfl | rfl | rfl | rfl | rfl | rfl | rfl | rfl <;> rfl
theorem PdAt.sys {w : World} {g : Nat} {p : Pd} (h : PdAt w g p) (hz : ∀ j, 0 ≤ p.so j ∧ p.so j ≤ 255) : Row8 w g 2 6 p.so :=
  ⟨h.lt, fun j hj => by
    rw [h.cell]
    rcases (by omega : j = 0 ∨ j = 1 ∨ j = 2 ∨ j = 3 ∨ j = 4 ∨ j = 5) with rfl | rfl | rfl | rfl | rfl | rfl <;> rfl, hz⟩
/-- what put leaves -/
def PutFPost (w : World) (n : Nat) (z : Nat → Int) (e : Ending) (w' : World) : Prop := ∃ ad c, e = .returned (.slice (some ad) n c) ∧ Rd w' (some ad) n z ∧ Below w.heap.size w w'
theorem one_own (w : World) (x : Int) (hx : by1 x) : Own8 (w.alloc (.cells #[.int .u8 x] 5)) w.heap.size 1 1 (fun _ => x) :=
  ⟨⟨_, heap_alloc_new w _, Nat.le_refl _, by decide, rfl, fun j hj => (by have h0 : j = 0 := (by omega); subst h0; rfl)⟩, fun _ => hx⟩
theorem putF_own {w w' : World} {v : Value} {n : Nat} {z : Nat → Int} (h : OwnB w' w.heap.size v n z) (hb : Below w.heap.size w w') (hn : 0 < n) : PutFPost w n z (.returned v) w' := by
  obtain ⟨g, cap, rfl, hg, ho⟩ := own_ofB h hn
  exact ⟨_, _, rfl, ho.rd, hb⟩
theorem info_node : (Try.prog.info? 25).map (·.size) = some 7 := by kernel_rfl
set_option maxRecDepth 100000 in
theorem put_0 (p : Pd) (hp : PdOk p) (g W : Nat) (hW : W ≤ 65535) (w : World) (h : PdAt w g p) : Calls Try.prog 35 #[.pointer (some ⟨g, 0, none⟩), .int .i64 0, .int .i64 (W : Int)] w (PutFPost w 1 (fZ p W 0)) := by
  have c1 : w.cell? ⟨g, 1, none⟩ = some (.int .u8 p.ci) := (h.cell 1).trans rfl
  have HO := Lib.hid (one_own w p.ci hp.1.2.1)
  clear h hp
  go_enter Try.func35, Try.ntmps35
  go_wp2_with fail
  go_ret
  exact ⟨_, _, rfl, HO.out.rd, (bself w).alloc (Nat.le_refl _) _⟩
set_option maxRecDepth 100000 in
theorem put_5 (p : Pd) (hp : PdOk p) (g W : Nat) (hW : W ≤ 65535) (w : World) (h : PdAt w g p) : Calls Try.prog 35 #[.pointer (some ⟨g, 0, none⟩), .int .i64 5, .int .i64 (W : Int)] w (PutFPost w 1 (fZ p W 5)) := by
  have c1 : w.cell? ⟨g, 10, none⟩ = some (.int .u8 p.nu) := (h.cell 10).trans rfl
  have HO := Lib.hid (one_own w p.nu hp.1.2.2.2.2.1)
  clear h hp
  go_enter Try.func35, Try.ntmps35
  go_wp2_with fail
  go_ret
  exact ⟨_, _, rfl, HO.out.rd, (bself w).alloc (Nat.le_refl _) _⟩
set_option maxRecDepth 100000 in
theorem put_6 (p : Pd) (hp : PdOk p) (g W : Nat) (hW : W ≤ 65535) (w : World) (h : PdAt w g p) : Calls Try.prog 35 #[.pointer (some ⟨g, 0, none⟩), .int .i64 6, .int .i64 (W : Int)] w (PutFPost w 1 (fZ p W 6)) := by
  have c1 : w.cell? ⟨g, 11, none⟩ = some (.int .u8 p.pr) := (h.cell 11).trans rfl
  have HO := Lib.hid (one_own w p.pr hp.1.2.2.2.2.2.1)
  clear h hp
  go_enter Try.func35, Try.ntmps35
  go_wp2_with fail
  go_ret
  exact ⟨_, _, rfl, HO.out.rd, (bself w).alloc (Nat.le_refl _) _⟩
set_option maxRecDepth 100000 in
theorem put_12 (p : Pd) (hp : PdOk p) (g W : Nat) (hW : W ≤ 65535) (w : World) (h : PdAt w g p) : Calls Try.prog 35 #[.pointer (some ⟨g, 0, none⟩), .int .i64 12, .int .i64 (W : Int)] w (PutFPost w 1 (fZ p W 12)) := by
  have c1 : w.cell? ⟨g, 29, none⟩ = some (.int .u8 p.bi) := (h.cell 29).trans rfl
  have HO := Lib.hid (one_own w p.bi hp.2.2.2.2.1)
  clear h hp
  go_enter Try.func35, Try.ntmps35
  go_wp2_with fail
  go_ret
  exact ⟨_, _, rfl, HO.out.rd, (bself w).alloc (Nat.le_refl _) _⟩
set_option maxRecDepth 100000 in
theorem put_1 (p : Pd) (hp : PdOk p) (g W : Nat) (hW : W ≤ 65535) (w : World) (h : PdAt w g p) : Calls Try.prog 35 #[.pointer (some ⟨g, 0, none⟩), .int .i64 1, .int .i64 (W : Int)] w (PutFPost w 6 (fZ p W 1)) := by
  have HR := Lib.hid (h.sys hp.1.2.2.1)
  clear h hp
  go_enter Try.func35, Try.ntmps35
  go_wp2_with fail
  go_ret
  exact ⟨_, _, rfl, ⟨.inr ⟨g, 2, rfl, HR.out.1, fun j hj => by show _ = some (Value.int IntKind.u8 (cutSys p.so j)); unfold cutSys; rw [if_pos hj]; exact HR.out.2.1 j hj, cutSys_bd HR.out.2.2⟩, cutSys_bd HR.out.2.2⟩, bself w⟩
set_option maxRecDepth 100000 in
theorem put_2 (p : Pd) (hp : PdOk p) (g W : Nat) (hW : W ≤ 65535) (w : World) (h : PdAt w g p) : Calls Try.prog 35 #[.pointer (some ⟨g, 0, none⟩), .int .i64 2, .int .i64 (W : Int)] w (PutFPost w 7 (fZ p W 2)) := by
  have HZ := Lib.hid hp.1.2.2.1
  have HR := Lib.hid h.so
  have HN := Lib.hid (putNode_any p.so w HZ.out)
  clear h hp
  go_enter Try.func35, Try.ntmps35
  go_wp2_with (refine wpList_load_mid rfl 25 (.tmp 26) rfl g 2 rfl (ndC p.so).toList _ HR.out Try.underlying25 rfl info_node ?_)
  refine HN.out.mono ?_
  rintro e w1 ⟨v, rfl, ho, hb⟩
  have HO := Lib.hid ho
  have HB := Lib.hid hb
  clear ho hb
  go_wp2_with fail
  go_ret
  exact putF_own HO.out HB.out (by omega)
set_option maxRecDepth 100000 in
theorem put_7 (p : Pd) (hp : PdOk p) (g W : Nat) (hW : W ≤ 65535) (w : World) (h : PdAt w g p) : Calls Try.prog 35 #[.pointer (some ⟨g, 0, none⟩), .int .i64 7, .int .i64 (W : Int)] w (PutFPost w 7 (fZ p W 7)) := by
  have HZ := Lib.hid hp.1.2.2.2.2.2.2
  have HR := Lib.hid h.la
  have HN := Lib.hid (putNode_any p.la w HZ.out)
  clear h hp
  go_enter Try.func35, Try.ntmps35
  go_wp2_with (refine wpList_load_mid rfl 25 (.tmp 64) rfl g 12 rfl (ndC p.la).toList _ HR.out Try.underlying25 rfl info_node ?_)
  refine HN.out.mono ?_
  rintro e w1 ⟨v, rfl, ho, hb⟩
  have HO := Lib.hid ho
  have HB := Lib.hid hb
  clear ho hb
  go_wp2_with fail
  go_ret
  exact putF_own HO.out HB.out (by omega)
set_option maxRecDepth 100000 in
theorem put_9 (p : Pd) (hp : PdOk p) (g W : Nat) (hW : W ≤ 65535) (w : World) (h : PdAt w g p) : Calls Try.prog 35 #[.pointer (some ⟨g, 0, none⟩), .int .i64 9, .int .i64 (W : Int)] w (PutFPost w 8 (fZ p W 9)) := by
  have HZ := Lib.hid hp.2.2.1
  have HR := Lib.hid h.id
  have HN := Lib.hid (putID_any p.id w HZ.out)
  clear h hp
  go_enter Try.func35, Try.ntmps35
  go_wp2_with (refine wpList_load_mid rfl 27 (.tmp 81) rfl g 20 rfl (idC p.id).toList _ HR.out Try.underlying27 rfl info_id ?_)
  refine HN.out.mono ?_
  rintro e w1 ⟨v, rfl, ho, hb⟩
  have HO := Lib.hid ho
  have HB := Lib.hid hb
  clear ho hb
  go_wp2_with fail
  go_ret
  exact putF_own HO.out HB.out (by omega)
set_option maxRecDepth 100000 in
theorem put_13 (p : Pd) (hp : PdOk p) (g W : Nat) (hW : W ≤ 65535) (w : World) (h : PdAt w g p) : Calls Try.prog 35 #[.pointer (some ⟨g, 0, none⟩), .int .i64 13, .int .i64 (W : Int)] w (PutFPost w 8 (fZ p W 13)) := by
  have HZ := Lib.hid hp.2.2.2.2.2.1
  have HR := Lib.hid h.st
  have HN := Lib.hid (putID_any p.st w HZ.out)
  clear h hp
  go_enter Try.func35, Try.ntmps35
  go_wp2_with (refine wpList_load_mid rfl 27 (.tmp 105) rfl g 30 rfl (idC p.st).toList _ HR.out Try.underlying27 rfl info_id ?_)
  refine HN.out.mono ?_
  rintro e w1 ⟨v, rfl, ho, hb⟩
  have HO := Lib.hid ho
  have HB := Lib.hid hb
  clear ho hb
  go_wp2_with fail
  go_ret
  exact putF_own HO.out HB.out (by omega)
set_option maxRecDepth 100000 in
theorem put_14 (p : Pd) (hp : PdOk p) (g W : Nat) (hW : W ≤ 65535) (w : World) (h : PdAt w g p) : Calls Try.prog 35 #[.pointer (some ⟨g, 0, none⟩), .int .i64 14, .int .i64 (W : Int)] w (PutFPost w 8 (fZ p W 14)) := by
  have HZ := Lib.hid hp.2.2.2.2.2.2
  have HR := Lib.hid h.en
  have HN := Lib.hid (putID_any p.en w HZ.out)
  clear h hp
  go_enter Try.func35, Try.ntmps35
  go_wp2_with (refine wpList_load_mid rfl 27 (.tmp 112) rfl g 38 rfl (idC p.en).toList _ HR.out Try.underlying27 rfl info_id ?_)
  refine HN.out.mono ?_
  rintro e w1 ⟨v, rfl, ho, hb⟩
  have HO := Lib.hid ho
  have HB := Lib.hid hb
  clear ho hb
  go_wp2_with fail
  go_ret
  exact putF_own HO.out HB.out (by omega)
set_option maxRecDepth 100000 in
theorem put_4 (p : Pd) (hp : PdOk p) (g W : Nat) (hW : W ≤ 65535) (w : World) (h : PdAt w g p) : Calls Try.prog 35 #[.pointer (some ⟨g, 0, none⟩), .int .i64 4, .int .i64 (W : Int)] w (PutFPost w 2 (fZ p W 4)) := by
  have HN := Lib.hid (putNumber_any W 2 w (by decide) (by decide) (by omega) (qN_fit _ _ (by omega)))
  have HS := Lib.hid (size_any 4 (by decide) w)
  have hw := wrapU W (by omega)
  clear h hp
  go_enter Try.func35, Try.ntmps35
  go_wp2_with fail
  refine HS.out.mono ?_
  rintro e w1 ⟨rfl, rfl⟩
  go_wp2_with fail
  refine HN.out.mono ?_
  rintro e w1 ⟨x, rfl, hx, ho, hb⟩
  have HO := Lib.hid ho
  have HB := Lib.hid hb
  clear ho hb
  go_wp2_with fail
  go_ret
  exact ⟨_, _, rfl, HO.out.rd, HB.out⟩
set_option maxRecDepth 100000 in
theorem put_11 (p : Pd) (hp : PdOk p) (g W : Nat) (hW : W ≤ 65535) (w : World) (h : PdAt w g p) : Calls Try.prog 35 #[.pointer (some ⟨g, 0, none⟩), .int .i64 11, .int .i64 (W : Int)] w (PutFPost w 2 (fZ p W 11)) := by
  have HS := Lib.hid (show Calls Try.prog 52 #[.int .i64 11] w (fun e w' => e = .returned (.int .i64 2) ∧ w = w') from size_any 11 (by decide) w)
  have hmk : ∀ W : World, (Instr.makeSlice 35 (.int .i64 2) (.int .i64 2)).run Try.prog W = .ok (.slice (some ⟨W.heap.size, 0, none⟩) 2 2) (W.alloc (.cells (zer 2) 5)) := make8 2 (by decide)
  have HO := Lib.hid (zer_own w 2 (by decide))
  clear h hp
  go_enter Try.func35, Try.ntmps35
  go_wp2_with fail
  refine HS.out.mono ?_
  rintro e w1 ⟨rfl, rfl⟩
  go_wp2_with fail
  go_ret
  exact ⟨_, _, rfl, HO.out.rd, (bself w).alloc (Nat.le_refl _) _⟩
set_option maxRecDepth 100000 in
theorem put_3 (p : Pd) (hp : PdOk p) (g W : Nat) (hW : W ≤ 65535) (h0 : 0 ≤ p.ho) (h1 : p.ho ≤ 65535) (w : World) (h : PdAt w g p) : Calls Try.prog 35 #[.pointer (some ⟨g, 0, none⟩), .int .i64 3, .int .i64 (W : Int)] w (PutFPost w 2 (fZ p W 3)) := by
  obtain ⟨N, hN⟩ : ∃ N : Nat, p.ho = (N : Int) := ⟨p.ho.toNat, by omega⟩
  have HNN := Lib.hid hN
  have hN2 : N ≤ 65535 := by omega
  have c1 : w.cell? ⟨g, 9, none⟩ = some (.int .i64 (N : Int)) := (h.cell 9).trans (by rw [← hN]; rfl)
  have hw := wrapU N (by omega)
  have HW := Lib.hid hw
  have HN := Lib.hid (fun W : World => putNumber_any N 2 W (by decide) (by decide) (by omega) (qN_fit _ _ (by omega)))
  have HS := Lib.hid (size_any 3 (by decide))
  have HC := Lib.hid c1
  suffices hX : Calls Try.prog 35 #[.pointer (some ⟨g, 0, none⟩), .int .i64 3, .int .i64 (W : Int)] w (PutFPost w 2 (putZ N 2)) by
    have e0 : fZ p W 3 = putZ N 2 := (by show putZ p.ho.toNat 2 = _; rw [HNN.out, Int.toNat_natCast])
    rw [e0]
    exact hX
  clear h hp hN c1 h0 h1 hw
  go_enter Try.func35, Try.ntmps35
  go_wp2_with fail
  refine wp_region_held_drew (S := fun w' => w'.cell? ⟨g, 9, none⟩ = some (.int .i64 (N : Int)) ∧ Below w.heap.size w w') (by kernel_rfl) ⟨HC.out, (bself w).drew⟩ (fun hS0 => ?_)
  refine takeY (i := 0) (some 31) (v := .pointer (some ⟨g, 0, none⟩)) rfl rfl (by kernel_rfl) (by kernel_rfl) (by kernel_rfl) (fun _ _ _ h => h) (by rfl) (fun w' hS => by go_simp) hS0 ?_
  simp only [Act.put, List.setIfInBounds_toArray, List.set_cons_zero, List.set_cons_succ]
  refine takeY (i := 1) (some 32) (v := .pointer (some ⟨g, 0, none⟩)) rfl rfl (by kernel_rfl) (by kernel_rfl) (by kernel_rfl) (fun _ _ _ h => h) (by rfl) (fun w' hS => by go_simp) hS0 ?_
  simp only [Act.put, List.setIfInBounds_toArray, List.set_cons_zero, List.set_cons_succ]
  refine takeY (i := 2) (some 33) (v := .pointer (some ⟨g, 9, none⟩)) rfl rfl (by kernel_rfl) (by kernel_rfl) (by kernel_rfl) (fun _ _ _ h => h) (by rfl) (fun w' hS => by go_simp) hS0 ?_
  simp only [Act.put, List.setIfInBounds_toArray, List.set_cons_zero, List.set_cons_succ]
  refine takeY (i := 3) (some 34) (v := .int .i64 (N : Int)) rfl rfl (by kernel_rfl) (by kernel_rfl) (by kernel_rfl) (fun _ _ _ h => h) (by rfl) (fun w' hS => by have c9 := hS.1; clear hS; go_simp) hS0 ?_
  simp only [Act.put, List.setIfInBounds_toArray, List.set_cons_zero, List.set_cons_succ]
  refine takeY (i := 4) (some 35) (v := .int .u64 (N : Int)) rfl rfl (by kernel_rfl) (by kernel_rfl) (by kernel_rfl) (fun _ _ _ h => h) (by rfl) (fun w' hS => by first | (go_simp; done) | (go_simp; exact HW.out)) hS0 ?_
  simp only [Act.put, List.setIfInBounds_toArray, List.set_cons_zero, List.set_cons_succ]
  refine takeY (i := 5) (some 36) (v := .int .i64 3) rfl rfl (by kernel_rfl) (by kernel_rfl) (by kernel_rfl) (fun _ _ _ h => h) (by rfl) (fun w' hS => by go_simp) hS0 ?_
  simp only [Act.put, List.setIfInBounds_toArray, List.set_cons_zero, List.set_cons_succ]
  refine takeC (i := 6) (some 37) 52 #[.int .i64 3] (.int .i64 2) (R := fun w' => w' = w.drew) rfl rfl (by kernel_rfl) (by rfl) (by go_simp) ((HS.out _).mono fun e w' h => ⟨h.1, h.2.symm⟩) (fun w' h => by rw [h]; exact hS0) (fun w2 h2 hS2 => ?_)
  subst h2
  simp only [Act.put, List.setIfInBounds_toArray, List.set_cons_zero, List.set_cons_succ]
  refine takeCE (i := 7) (some 38) 51 #[.int .u64 (N : Int), .int .i64 2] (R := fun v w' => ∃ x, v = .slice (some ⟨x, 0, none⟩) 2 2 ∧ Own8 w' x 2 2 (putZ N 2) ∧ Below w.heap.size w w' ∧ w'.cell? ⟨g, 9, none⟩ = some (.int .i64 (N : Int))) rfl rfl (by kernel_rfl) (by rfl) (by go_simp) ((HN.out w.drew).mono fun e w' ⟨x, he, hx, ho, hb⟩ => ⟨_, he, x, rfl, ho, (bself w).drew.trans hb, (hb.cell (cell_lt HC.out)).trans HC.out⟩) (fun v w' ⟨x, _, _, hb, hc⟩ => ⟨hc, hb⟩) (fun v2 w2 h2 hS2 => ?_)
  obtain ⟨x, rfl, ho, hb, _⟩ := h2
  have HO := Lib.hid ho
  have HB := Lib.hid hb
  clear ho hb
  simp only [Act.put, List.setIfInBounds_toArray, List.set_cons_zero, List.set_cons_succ]
  refine takeY (i := 8) (some 6) (v := .slice (some ⟨x, 0, none⟩) 2 2) rfl rfl (by kernel_rfl) (by kernel_rfl) (by kernel_rfl) (fun _ _ _ h => h) (by rfl) (fun w' hS => by go_simp) hS2 ?_
  simp only [Act.put, List.setIfInBounds_toArray, List.set_cons_zero, List.set_cons_succ]
  refine wpAnyH_done (by kernel_rfl) ?_ _
  go_wp2_with fail
  go_ret
  exact ⟨_, _, rfl, HO.out.rd, HB.out⟩
set_option maxRecDepth 100000 in
theorem put_8 (p : Pd) (hp : PdOk p) (g W : Nat) (hW : W ≤ 65535) (h0 : 0 ≤ p.li) (h1 : p.li ≤ 65535) (w : World) (h : PdAt w g p) : Calls Try.prog 35 #[.pointer (some ⟨g, 0, none⟩), .int .i64 8, .int .i64 (W : Int)] w (PutFPost w 2 (fZ p W 8)) := by
  obtain ⟨N, hN⟩ : ∃ N : Nat, p.li = (N : Int) := ⟨p.li.toNat, by omega⟩
  have HNN := Lib.hid hN
  have hN2 : N ≤ 65535 := by omega
  have c1 : w.cell? ⟨g, 19, none⟩ = some (.int .i64 (N : Int)) := (h.cell 19).trans (by rw [← hN]; rfl)
  have hw := wrapU N (by omega)
  have HW := Lib.hid hw
  have HN := Lib.hid (fun W : World => putNumber_any N 2 W (by decide) (by decide) (by omega) (qN_fit _ _ (by omega)))
  have HS := Lib.hid (size_any 8 (by decide))
  have HC := Lib.hid c1
  suffices hX : Calls Try.prog 35 #[.pointer (some ⟨g, 0, none⟩), .int .i64 8, .int .i64 (W : Int)] w (PutFPost w 2 (putZ N 2)) by
    have e0 : fZ p W 8 = putZ N 2 := (by show putZ p.li.toNat 2 = _; rw [HNN.out, Int.toNat_natCast])
    rw [e0]
    exact hX
  clear h hp hN c1 h0 h1 hw
  go_enter Try.func35, Try.ntmps35
  go_wp2_with fail
  refine wp_region_held_drew (S := fun w' => w'.cell? ⟨g, 19, none⟩ = some (.int .i64 (N : Int)) ∧ Below w.heap.size w w') (by kernel_rfl) ⟨HC.out, (bself w).drew⟩ (fun hS0 => ?_)
  refine takeY (i := 0) (some 69) (v := .pointer (some ⟨g, 0, none⟩)) rfl rfl (by kernel_rfl) (by kernel_rfl) (by kernel_rfl) (fun _ _ _ h => h) (by rfl) (fun w' hS => by go_simp) hS0 ?_
  simp only [Act.put, List.setIfInBounds_toArray, List.set_cons_zero, List.set_cons_succ]
  refine takeY (i := 1) (some 70) (v := .pointer (some ⟨g, 0, none⟩)) rfl rfl (by kernel_rfl) (by kernel_rfl) (by kernel_rfl) (fun _ _ _ h => h) (by rfl) (fun w' hS => by go_simp) hS0 ?_
  simp only [Act.put, List.setIfInBounds_toArray, List.set_cons_zero, List.set_cons_succ]
  refine takeY (i := 2) (some 71) (v := .pointer (some ⟨g, 19, none⟩)) rfl rfl (by kernel_rfl) (by kernel_rfl) (by kernel_rfl) (fun _ _ _ h => h) (by rfl) (fun w' hS => by go_simp) hS0 ?_
  simp only [Act.put, List.setIfInBounds_toArray, List.set_cons_zero, List.set_cons_succ]
  refine takeY (i := 3) (some 72) (v := .int .i64 (N : Int)) rfl rfl (by kernel_rfl) (by kernel_rfl) (by kernel_rfl) (fun _ _ _ h => h) (by rfl) (fun w' hS => by have c9 := hS.1; clear hS; go_simp) hS0 ?_
  simp only [Act.put, List.setIfInBounds_toArray, List.set_cons_zero, List.set_cons_succ]
  refine takeY (i := 4) (some 73) (v := .int .u64 (N : Int)) rfl rfl (by kernel_rfl) (by kernel_rfl) (by kernel_rfl) (fun _ _ _ h => h) (by rfl) (fun w' hS => by first | (go_simp; done) | (go_simp; exact HW.out)) hS0 ?_
  simp only [Act.put, List.setIfInBounds_toArray, List.set_cons_zero, List.set_cons_succ]
  refine takeY (i := 5) (some 74) (v := .int .i64 8) rfl rfl (by kernel_rfl) (by kernel_rfl) (by kernel_rfl) (fun _ _ _ h => h) (by rfl) (fun w' hS => by go_simp) hS0 ?_
  simp only [Act.put, List.setIfInBounds_toArray, List.set_cons_zero, List.set_cons_succ]
  refine takeC (i := 6) (some 75) 52 #[.int .i64 8] (.int .i64 2) (R := fun w' => w' = w.drew) rfl rfl (by kernel_rfl) (by rfl) (by go_simp) ((HS.out _).mono fun e w' h => ⟨h.1, h.2.symm⟩) (fun w' h => by rw [h]; exact hS0) (fun w2 h2 hS2 => ?_)
  subst h2
  simp only [Act.put, List.setIfInBounds_toArray, List.set_cons_zero, List.set_cons_succ]
  refine takeCE (i := 7) (some 76) 51 #[.int .u64 (N : Int), .int .i64 2] (R := fun v w' => ∃ x, v = .slice (some ⟨x, 0, none⟩) 2 2 ∧ Own8 w' x 2 2 (putZ N 2) ∧ Below w.heap.size w w' ∧ w'.cell? ⟨g, 19, none⟩ = some (.int .i64 (N : Int))) rfl rfl (by kernel_rfl) (by rfl) (by go_simp) ((HN.out w.drew).mono fun e w' ⟨x, he, hx, ho, hb⟩ => ⟨_, he, x, rfl, ho, (bself w).drew.trans hb, (hb.cell (cell_lt HC.out)).trans HC.out⟩) (fun v w' ⟨x, _, _, hb, hc⟩ => ⟨hc, hb⟩) (fun v2 w2 h2 hS2 => ?_)
  obtain ⟨x, rfl, ho, hb, _⟩ := h2
  have HO := Lib.hid ho
  have HB := Lib.hid hb
  clear ho hb
  simp only [Act.put, List.setIfInBounds_toArray, List.set_cons_zero, List.set_cons_succ]
  refine takeY (i := 8) (some 6) (v := .slice (some ⟨x, 0, none⟩) 2 2) rfl rfl (by kernel_rfl) (by kernel_rfl) (by kernel_rfl) (fun _ _ _ h => h) (by rfl) (fun w' hS => by go_simp) hS2 ?_
  simp only [Act.put, List.setIfInBounds_toArray, List.set_cons_zero, List.set_cons_succ]
  refine wpAnyH_done (by kernel_rfl) ?_ _
  go_wp2_with fail
  go_ret
  exact ⟨_, _, rfl, HO.out.rd, HB.out⟩
set_option maxRecDepth 100000 in
theorem put_10 (p : Pd) (hp : PdOk p) (g W : Nat) (hW : W ≤ 65535) (w : World) (h : PdAt w g p) : Calls Try.prog 35 #[.pointer (some ⟨g, 0, none⟩), .int .i64 10, .int .i64 (W : Int)] w (PutFPost w 4 (fZ p W 10)) := by
  obtain ⟨N, hN⟩ : ∃ N : Nat, p.sq = N := ⟨_, rfl⟩
  have HNN := Lib.hid hN
  have hN2 : N ≤ 4294967295 := by have := hp.2.2.2.1; omega
  have c1 : w.cell? ⟨g, 28, none⟩ = some (.int .u32 (N : Int)) := (h.cell 28).trans (by rw [← hN]; rfl)
  have hw := wrapU N (by omega)
  have HW := Lib.hid hw
  have HN := Lib.hid (fun W : World => putNumber_any N 4 W (by decide) (by decide) (by omega) (qN_fit _ _ (by omega)))
  have HS := Lib.hid (size_any 10 (by decide))
  have HC := Lib.hid c1
  suffices hX : Calls Try.prog 35 #[.pointer (some ⟨g, 0, none⟩), .int .i64 10, .int .i64 (W : Int)] w (PutFPost w 4 (putZ N 4)) by
    have e0 : fZ p W 10 = putZ N 4 := (by show putZ p.sq 4 = _; rw [HNN.out])
    rw [e0]
    exact hX
  clear h hp hN c1  hw
  go_enter Try.func35, Try.ntmps35
  go_wp2_with fail
  refine wp_region_held_drew (S := fun w' => w'.cell? ⟨g, 28, none⟩ = some (.int .u32 (N : Int)) ∧ Below w.heap.size w w') (by kernel_rfl) ⟨HC.out, (bself w).drew⟩ (fun hS0 => ?_)
  refine takeY (i := 0) (some 86) (v := .pointer (some ⟨g, 0, none⟩)) rfl rfl (by kernel_rfl) (by kernel_rfl) (by kernel_rfl) (fun _ _ _ h => h) (by rfl) (fun w' hS => by go_simp) hS0 ?_
  simp only [Act.put, List.setIfInBounds_toArray, List.set_cons_zero, List.set_cons_succ]
  refine takeY (i := 1) (some 87) (v := .pointer (some ⟨g, 0, none⟩)) rfl rfl (by kernel_rfl) (by kernel_rfl) (by kernel_rfl) (fun _ _ _ h => h) (by rfl) (fun w' hS => by go_simp) hS0 ?_
  simp only [Act.put, List.setIfInBounds_toArray, List.set_cons_zero, List.set_cons_succ]
  refine takeY (i := 2) (some 88) (v := .pointer (some ⟨g, 28, none⟩)) rfl rfl (by kernel_rfl) (by kernel_rfl) (by kernel_rfl) (fun _ _ _ h => h) (by rfl) (fun w' hS => by go_simp) hS0 ?_
  simp only [Act.put, List.setIfInBounds_toArray, List.set_cons_zero, List.set_cons_succ]
  refine takeY (i := 3) (some 89) (v := .int .u32 (N : Int)) rfl rfl (by kernel_rfl) (by kernel_rfl) (by kernel_rfl) (fun _ _ _ h => h) (by rfl) (fun w' hS => by have c9 := hS.1; clear hS; go_simp) hS0 ?_
  simp only [Act.put, List.setIfInBounds_toArray, List.set_cons_zero, List.set_cons_succ]
  refine takeY (i := 4) (some 90) (v := .int .u64 (N : Int)) rfl rfl (by kernel_rfl) (by kernel_rfl) (by kernel_rfl) (fun _ _ _ h => h) (by rfl) (fun w' hS => by first | (go_simp; done) | (go_simp; exact HW.out)) hS0 ?_
  simp only [Act.put, List.setIfInBounds_toArray, List.set_cons_zero, List.set_cons_succ]
  refine takeY (i := 5) (some 91) (v := .int .i64 10) rfl rfl (by kernel_rfl) (by kernel_rfl) (by kernel_rfl) (fun _ _ _ h => h) (by rfl) (fun w' hS => by go_simp) hS0 ?_
  simp only [Act.put, List.setIfInBounds_toArray, List.set_cons_zero, List.set_cons_succ]
  refine takeC (i := 6) (some 92) 52 #[.int .i64 10] (.int .i64 4) (R := fun w' => w' = w.drew) rfl rfl (by kernel_rfl) (by rfl) (by go_simp) ((HS.out _).mono fun e w' h => ⟨h.1, h.2.symm⟩) (fun w' h => by rw [h]; exact hS0) (fun w2 h2 hS2 => ?_)
  subst h2
  simp only [Act.put, List.setIfInBounds_toArray, List.set_cons_zero, List.set_cons_succ]
  refine takeCE (i := 7) (some 93) 51 #[.int .u64 (N : Int), .int .i64 4] (R := fun v w' => ∃ x, v = .slice (some ⟨x, 0, none⟩) 4 4 ∧ Own8 w' x 4 4 (putZ N 4) ∧ Below w.heap.size w w' ∧ w'.cell? ⟨g, 28, none⟩ = some (.int .u32 (N : Int))) rfl rfl (by kernel_rfl) (by rfl) (by go_simp) ((HN.out w.drew).mono fun e w' ⟨x, he, hx, ho, hb⟩ => ⟨_, he, x, rfl, ho, (bself w).drew.trans hb, (hb.cell (cell_lt HC.out)).trans HC.out⟩) (fun v w' ⟨x, _, _, hb, hc⟩ => ⟨hc, hb⟩) (fun v2 w2 h2 hS2 => ?_)
  obtain ⟨x, rfl, ho, hb, _⟩ := h2
  have HO := Lib.hid ho
  have HB := Lib.hid hb
  clear ho hb
  simp only [Act.put, List.setIfInBounds_toArray, List.set_cons_zero, List.set_cons_succ]
  refine takeY (i := 8) (some 6) (v := .slice (some ⟨x, 0, none⟩) 4 4) rfl rfl (by kernel_rfl) (by kernel_rfl) (by kernel_rfl) (fun _ _ _ h => h) (by rfl) (fun w' hS => by go_simp) hS2 ?_
  simp only [Act.put, List.setIfInBounds_toArray, List.set_cons_zero, List.set_cons_succ]
  refine wpAnyH_done (by kernel_rfl) ?_ _
  go_wp2_with fail
  go_ret
  exact ⟨_, _, rfl, HO.out.rd, HB.out⟩
theorem putF_any (p : Pd) (hp : PdOk p) (g W f : Nat) (hW : W ≤ 65535) (hf : f ≤ 14) (hfit : fitB p f = true) (w : World) (h : PdAt w g p) : Calls Try.prog 35 #[.pointer (some ⟨g, 0, none⟩), .int .i64 (f : Int), .int .i64 (W : Int)] w (PutFPost w (fsz f) (fZ p W f)) := by
  rcases (by omega : f = 0 ∨ f = 1 ∨ f = 2 ∨ f = 3 ∨ f = 4 ∨ f = 5 ∨ f = 6 ∨ f = 7 ∨ f = 8 ∨ f = 9 ∨ f = 10 ∨ f = 11 ∨ f = 12 ∨ f = 13 ∨ f = 14) with rfl | rfl | rfl | rfl | rfl | rfl | rfl | rfl | rfl | rfl | rfl | rfl | rfl | rfl | rfl
  · exact put_0 p hp g W hW w h
  · exact put_1 p hp g W hW w h
  · exact put_2 p hp g W hW w h
  · have hh := of_decide_eq_true hfit
    exact put_3 p hp g W hW hh.1 hh.2 w h
  · exact put_4 p hp g W hW w h
  · exact put_5 p hp g W hW w h
  · exact put_6 p hp g W hW w h
  · exact put_7 p hp g W hW w h
  · have hh := of_decide_eq_true hfit
    exact put_8 p hp g W hW hh.1 hh.2 w h
  · exact put_9 p hp g W hW w h
  · exact put_10 p hp g W hW w h
  · exact put_11 p hp g W hW w h
  · exact put_12 p hp g W hW w h
  · exact put_13 p hp g W hW w h
  · exact put_14 p hp g W hW w h
end Go.Proofs.Ytfojfdlapekjoaa

/- pdu's fits and allFit. Each theorem states its conditions. -/
namespace Go.Proofs.Ytfojfdlapekjoaa
open Go.RowKit
set_option linter.unusedVariables false

set_option maxRecDepth 100000 in
theorem fits_0 (p : Pd) (b : Bool) (hb : decide (1 ≤ p.ci ∧ p.ci ≤ 3) = b) (g : Nat) (w : World) (h : PdAt w g p) : Calls Try.prog 57 #[.pointer (some ⟨g, 0, none⟩), .int .i64 0] w fun e w' => e = .returned (.bool b) ∧ w = w' := by
  have c1 : w.cell? ⟨g, 1, none⟩ = some (.int .u8 p.ci) := (h.cell 1).trans rfl
  clear h
  obtain ⟨x, hx⟩ : ∃ x, p.ci = x := ⟨_, rfl⟩
  rw [hx] at c1 hb
  clear hx
  by_cases h1 : 1 ≤ x
  · by_cases h3 : x ≤ 3
    · obtain rfl : true = b := by rw [← hb]; exact (decide_eq_true ⟨h1, h3⟩).symm
      clear hb
      go_enter Try.func57, Try.ntmps57
      go_wp2
      go_ret
      exact ⟨rfl, rfl⟩
    · obtain rfl : false = b := by rw [← hb]; exact (decide_eq_false (by omega)).symm
      clear hb
      go_enter Try.func57, Try.ntmps57
      go_wp2
      go_ret
      exact ⟨rfl, rfl⟩
  · obtain rfl : false = b := by rw [← hb]; exact (decide_eq_false (by omega)).symm
    clear hb
    go_enter Try.func57, Try.ntmps57
    go_wp2
    go_ret
    exact ⟨rfl, rfl⟩
theorem isTime_any (n : Int) (b : Bool) (hb : decide (0 ≤ n ∧ n ≤ 65535) = b) (w : World) : Calls Try.prog 50 #[.int .i64 n] w fun e w' => e = .returned (.bool b) ∧ w = w' := by
  subst hb
  by_cases h : 0 ≤ n ∧ n ≤ 65535
  · rw [decide_eq_true h]
    exact (isTime_yes n w h.1 h.2).mono fun e w' h => ⟨h.1, h.2.symm⟩
  · rw [decide_eq_false h]
    exact (isTime_no n w (by omega)).mono fun e w' h => ⟨h.1, h.2.symm⟩
set_option maxRecDepth 100000 in
theorem fits_3 (p : Pd) (b : Bool) (hb : decide (0 ≤ p.ho ∧ p.ho ≤ 65535) = b) (g : Nat) (w : World) (h : PdAt w g p) : Calls Try.prog 57 #[.pointer (some ⟨g, 0, none⟩), .int .i64 3] w fun e w' => e = .returned (.bool b) ∧ w = w' := by
  have c1 : w.cell? ⟨g, 9, none⟩ = some (.int .i64 p.ho) := (h.cell 9).trans rfl
  have HT := Lib.hid (isTime_any p.ho b hb w)
  clear h hb
  go_enter Try.func57, Try.ntmps57
  go_wp2_with fail
  refine HT.out.mono ?_
  rintro e w1 ⟨rfl, rfl⟩
  go_wp2_with fail
  go_ret
  exact ⟨rfl, rfl⟩
set_option maxRecDepth 100000 in
theorem fits_8 (p : Pd) (b : Bool) (hb : decide (0 ≤ p.li ∧ p.li ≤ 65535) = b) (g : Nat) (w : World) (h : PdAt w g p) : Calls Try.prog 57 #[.pointer (some ⟨g, 0, none⟩), .int .i64 8] w fun e w' => e = .returned (.bool b) ∧ w = w' := by
  have c1 : w.cell? ⟨g, 19, none⟩ = some (.int .i64 p.li) := (h.cell 19).trans rfl
  have HT := Lib.hid (isTime_any p.li b hb w)
  clear h hb
  go_enter Try.func57, Try.ntmps57
  go_wp2_with fail
  refine HT.out.mono ?_
  rintro e w1 ⟨rfl, rfl⟩
  go_wp2_with fail
  go_ret
  exact ⟨rfl, rfl⟩
set_option maxRecDepth 100000 in
theorem fits_6 (p : Pd) (b : Bool) (hb : decide (p.pr ≤ 127) = b) (g : Nat) (w : World) (h : PdAt w g p) : Calls Try.prog 57 #[.pointer (some ⟨g, 0, none⟩), .int .i64 6] w fun e w' => e = .returned (.bool b) ∧ w = w' := by
  have c1 : w.cell? ⟨g, 11, none⟩ = some (.int .u8 p.pr) := (h.cell 11).trans rfl
  clear h
  go_enter Try.func57, Try.ntmps57
  go_wp2_with fail
  go_ret
  exact ⟨rfl, rfl⟩
set_option maxRecDepth 100000 in
theorem fits_x (f : Nat) (hf : f ≤ 14) (h0 : f ≠ 0) (h3 : f ≠ 3) (h8 : f ≠ 8) (h6 : f ≠ 6) (x : Value) (w : World) : Calls Try.prog 57 #[x, .int .i64 (f : Int)] w fun e w' => e = .returned (.bool true) ∧ w = w' := by
  rcases (by omega : f = 1 ∨ f = 2 ∨ f = 4 ∨ f = 5 ∨ f = 7 ∨ f = 9 ∨ f = 10 ∨ f = 11 ∨ f = 12 ∨ f = 13 ∨ f = 14) with rfl | rfl | rfl | rfl | rfl | rfl | rfl | rfl | rfl | rfl | rfl <;>
  · clear h0 h3 h8 h6
    go_enter Try.func57, Try.ntmps57
    go_wp2
    go_ret
    exact ⟨rfl, rfl⟩
theorem fits_any (p : Pd) (g f : Nat) (hf : f ≤ 14) (w : World) (h : PdAt w g p) : Calls Try.prog 57 #[.pointer (some ⟨g, 0, none⟩), .int .i64 (f : Int)] w fun e w' => e = .returned (.bool (fitB p f)) ∧ w = w' := by
  by_cases h0 : f = 0
  · subst h0; exact fits_0 p _ rfl g w h
  · by_cases h3 : f = 3
    · subst h3; exact fits_3 p _ rfl g w h
    · by_cases h8 : f = 8
      · subst h8; exact fits_8 p _ rfl g w h
      · by_cases h6 : f = 6
        · subst h6; exact fits_6 p _ rfl g w h
        · have e : fitB p f = true := by
            unfold fitB
            split <;> first | rfl | (exact absurd rfl ‹_›) | omega
          rw [e]
          exact fits_x f hf h0 h3 h8 h6 _ w
/-- the first field that doesn't fit, or the end -/
theorem fit_ends (p : Pd) (q n : Nat) : ∃ m, m ≤ n ∧ (∀ i, i < m → fitB p (fAt q i) = true) ∧ ((m = n ∧ fitsTo p q n = true) ∨ (m < n ∧ fitB p (fAt q m) = false ∧ fitsTo p q n = false)) := by
  induction n with
  | zero => exact ⟨0, Nat.le_refl _, fun i hi => by omega, .inl ⟨rfl, rfl⟩⟩
  | succ n ih =>
    obtain ⟨m, h1, h2, h3⟩ := ih
    rcases h3 with ⟨rfl, h3⟩ | ⟨h3, h4, h5⟩
    · cases hb : fitB p (fAt q m)
      · exact ⟨m, by omega, h2, .inr ⟨by omega, hb, by simp [fitsTo, hb]⟩⟩
      · refine ⟨m + 1, by omega, fun i hi => ?_, .inl ⟨rfl, by simp [fitsTo, hb, h3]⟩⟩
        by_cases e : i = m
        · subst e; exact hb
        · exact h2 i (by omega)
    · exact ⟨m, by omega, h2, .inr ⟨by omega, h4, by simp [fitsTo, h5]⟩⟩
theorem fitP_at {p : Pd} {q : Nat} (h : fitP p q = true) (i : Nat) (hi : i < (flC q).length) : fitB p (fAt q i) = true := by
  obtain ⟨m, h1, h2, h3⟩ := fit_ends p q (flC q).length
  rcases h3 with ⟨rfl, h3⟩ | ⟨h3, h4, h5⟩
  · exact h2 i hi
  · unfold fitP at h; rw [h5] at h; cases h
theorem allFit_any (p : Pd) (g g' q : Nat) (hq : q ≤ 4) (w : World) (h : PdAt w g p) (hl : FlAt w g' q) : Calls Try.prog 31 #[.pointer (some ⟨g, 0, none⟩), .slice (some ⟨g', 0, none⟩) (flC q).length (flC q).length] w fun e w' => e = .returned (.bool (fitP p q)) ∧ w = w' := by
  have HF := Lib.hid hl
  obtain ⟨m, hm1, hm2, hm3⟩ := fit_ends p q (flC q).length
  have HM2 := Lib.hid hm2
  have HM3 : Hid ((m = (flC q).length ∧ fitP p q = true) ∨ (m < (flC q).length ∧ fitB p (fAt q m) = false ∧ fitP p q = false)) := Lib.hid hm3
  have hlen := fl_len q hq
  obtain ⟨n, hn⟩ : ∃ n, (flC q).length = n := ⟨_, rfl⟩
  have HN := Lib.hid hn
  rw [hn] at hm1 HM3 hlen ⊢
  have HFA := Lib.hid (fun f hf => fits_any p g f hf w h)
  clear hn hm2 hm3 hl h
  go_enter Try.func31, Try.ntmps31
  go_wp2_with fail
  go_loop [9] (fun t => ∃ i : Nat, i ≤ m ∧ t = .int .i64 i) (fun t => n - (intOf t).toNat)
  case atStart => exact ⟨0, Nat.zero_le _, rfl⟩
  case round =>
    obtain ⟨i, hi, rfl⟩ := hrel
    by_cases hlt : i < n
    · have ci := HF.out.cell (i := i) (by rw [HN.out]; exact hlt)
      have hf := fAt_le q i hq
      by_cases him : i < m
      · have HS := Lib.hid (HFA.out _ hf)
        rw [HM2.out i him] at HS
        obtain ⟨f, hf'⟩ : ∃ f, fAt q i = f := ⟨_, rfl⟩
        rw [hf'] at ci HS
        clear hf' hf
        go_wp2_with fail
        refine HS.out.mono ?_
        rintro e w1 ⟨rfl, rfl⟩
        go_wp2_with fail
        go_round
        case rel => exact ⟨i + 1, by omega, by go_num⟩
        case measure => simp [intOf]; omega
      · obtain rfl : i = m := by omega
        have h3 : fitB p (fAt q i) = false ∧ fitP p q = false := by
          rcases HM3.out with h | h
          · omega
          · exact h.2
        have HS := Lib.hid (HFA.out _ hf)
        rw [h3.1] at HS
        have HQ := Lib.hid h3.2
        obtain ⟨f, hf'⟩ : ∃ f, fAt q i = f := ⟨_, rfl⟩
        rw [hf'] at ci HS
        clear hf' hf h3
        go_wp2_with fail
        refine HS.out.mono ?_
        rintro e w1 ⟨rfl, rfl⟩
        go_wp2_with fail
        go_ret
        exact ⟨by rw [HQ.out]; rfl, rfl⟩
    · obtain rfl : i = n := by omega
      have HQ : Hid (fitP p q = true) := Lib.hid (by
        rcases HM3.out with h | h
        · exact h.2
        · omega)
      go_wp2_with fail
      go_ret
      exact ⟨by rw [HQ.out]; rfl, rfl⟩
end Go.Proofs.Ytfojfdlapekjoaa

/- pdu.sign lays an LSP's check bytes. Each theorem states its conditions. -/
namespace Go.Proofs.Ytfojfdlapekjoaa
open Go.RowKit
set_option linter.unusedVariables false

def ovr (z : Nat → Int) (off m : Nat) (y : Nat → Int) : Nat → Int := fun j => if off ≤ j ∧ j < off + m then y (j - off) else z j
theorem ovr_in (z y : Nat → Int) (off m j : Nat) (h : off ≤ j ∧ j < off + m) : ovr z off m y j = y (j - off) := if_pos h
theorem ovr_out (z y : Nat → Int) (off m j : Nat) (h : ¬ (off ≤ j ∧ j < off + m)) : ovr z off m y j = z j := if_neg h
/-- bytes are copied over some of a row of the call's own -/
theorem splice_own {w w' : World} {g n cap off m : Nat} {z y : Nat → Int} {cur : List Value} (hc : w.heap[g]? = some (.cells cur.toArray 5 (0, 0))) (h : Own8 w g n cap z) (hm : off + m ≤ n) (hy : ∀ j, 0 ≤ y j ∧ y j ≤ 255)
    (hw : w'.heap[g]? = some (.cells (splice cur off (vals y m)).toArray 5 (0, 0))) : Own8 w' g n cap (ovr z off m y) := by
  obtain ⟨⟨cur', hc', h1, h2, h3, h4⟩, h5⟩ := h
  rw [hc] at hc'
  injection hc' with hc'
  injection hc' with hc'
  subst hc'
  have hl : (vals y m).length = m := vals_len y m
  have h3' : cur.length = cap := by simpa using h3
  have h4' : ∀ j, j < n → cur[j]? = some (.int .u8 (z j)) := fun j hj => by simpa using h4 j hj
  have hs : (splice cur off (vals y m)).length = cur.length := length_splice _ _ _ (by rw [hl]; omega)
  refine ⟨⟨_, hw, h1, h2, by simpa using hs.trans h3', fun j hj => ?_⟩, fun j => ?_⟩
  · rw [List.getElem?_toArray]
    unfold splice
    by_cases hj1 : j < off
    · rw [ovr_out _ _ _ _ _ (by omega), List.getElem?_append_left (by rw [List.length_take]; omega), List.getElem?_take, if_pos hj1]
      exact h4' j hj
    · rw [List.getElem?_append_right (by rw [List.length_take]; omega), List.length_take, Nat.min_eq_left (by omega)]
      by_cases hj2 : j < off + m
      · rw [ovr_in _ _ _ _ _ ⟨by omega, hj2⟩, List.getElem?_append_left (by rw [hl]; omega)]
        exact vals_at y m (j - off) (by omega)
      · rw [ovr_out _ _ _ _ _ (by omega), List.getElem?_append_right (by rw [hl]; omega), hl, List.getElem?_drop]
        rw [show off + m + (j - off - m) = j by omega]
        exact h4' j hj
  · by_cases hj : off ≤ j ∧ j < off + m
    · rw [ovr_in _ _ _ _ _ hj]; exact hy _
    · rw [ovr_out _ _ _ _ _ hj]; exact h5 j
section
variable {P : Program} {ops : Array Oper} {Q : Exit → Act → World → Prop} {md : Region.Mode} {S : World → Prop}
/-- a copy alone may come up -/
theorem takeCp {i : Nat} {oi : Oper} (d : Option Tmp) {fuel : Nat} {listed : Array Bool} {a : Act} {w : World} (hi : ops[i]? = some oi) (hdd : oi.dst = d) (hr : Region.ready md ops listed = [i]) (hgd : oi.guard = none) (x s : Operand) (dT sT : TypeId)
    (ho : oi.op = .call { callee := .builtin .copy, args := #[x, s], argTypes := #[dT, sT] }) (elem : TypeId) (hu : P.underlying dT = some (.slice elem)) (hsz : (P.info? elem).map (·.size) = some 1)
    (dp sp : Option Addr) (dLen dCap sLen sCap : Nat) (hd : a.eval x = .slice dp dLen dCap) (hs : a.eval s = .slice sp sLen sCap)
    (g off : Nat) (cur : List Value) (t : TypeId) (hg : w.heap[g]? = some (.cells cur.toArray t (0, 0))) (cs : List Value) (hn : cs.length = Nat.min sLen dLen)
    (hpos : 0 < cs.length → dp = some ⟨g, off, none⟩ ∧ ∃ ad, sp = some ad ∧ ∀ j v, cs[j]? = some v → w.cell? (ad.add j) = some v)
    (hfit : off + cs.length ≤ cur.length) (h1 : ∀ v ∈ cs, v.oneCell' = true) (B : Nat) (w0 : World) (hb : RowKit.Below B w0 w) (hBg : B ≤ g)
    (h : ∀ w', w'.heap[g]? = some (.cells (splice cur off cs).toArray t (0, 0)) → RowKit.Below B w0 w' → S w' ∧ wpAnyH P md ops Q S fuel (listed.setIfInBounds i true) (a.put d (goInt cs.length)) w') : wpAnyH P md ops Q S (fuel + 1) listed a w := by
  subst hdd
  exact wpAnyH_ready hr (by simp) (AllReadyH.cons hi (fun K hK => step_copy_splice hgd x s dT sT ho elem hu hsz dp sp dLen dCap sLen sCap hd hs g off cur t hg cs hn hpos hfit h1 B w0 hb hBg (fun w' hc hb' => hK.out _ _ (h w' hc.out hb').1 (fun _ => (h w' hc.out hb').2))) AllReadyH.nil)
end
theorem chk_put (z : Nat → Int) (s n : Nat) (N : Nat) (h : chk z s n = (N : Int)) : putZ N 2 0 = chkX z s n ∧ putZ N 2 1 = chkY z s n := by
  have hb := chk_bd z s n
  have h0 : putZ N 2 0 = ((N / 256 % 256 : Nat) : Int) := by simp [putZ, qN]
  have h1 : putZ N 2 1 = ((N % 256 : Nat) : Int) := by simp [putZ, qN]
  rw [h0, h1]
  rw [h] at hb
  omega
theorem sg_eq (z : Nat → Int) (n N : Nat) (h : chk (fun i => z (12 + i)) 12 (n - 12) = (N : Int)) : ovr z 24 2 (putZ N 2) = sgZ z n := by
  obtain ⟨h0, h1⟩ := chk_put _ _ _ _ h
  funext j
  unfold sgZ ovr
  by_cases e : j = 24
  · subst e; simp [h0]
  · by_cases e1 : j = 25
    · subst e1; simp [h1]
    · rw [if_neg (by omega), if_neg e, if_neg e1]
set_option maxHeartbeats 2000000 in
set_option maxRecDepth 100000 in
theorem sign_any (g n cap : Nat) (z : Nat → Int) (w0 w : World) (ho : Own8 w g n cap z) (hn : 27 ≤ n) (hn2 : n ≤ 1492) (hb : Below w0.heap.size w0 w) (hg : w0.heap.size ≤ g) :
    Calls Try.prog 37 #[.slice (some ⟨g, 0, none⟩) n cap] w fun e w' => e = .returned (.tuple #[]) ∧ Own8 w' g n cap (sgZ z n) ∧ Below w0.heap.size w0 w' := by
  have hgl := ho.lt
  have hcap := ho.caps
  have hcm : cap ≤ 9223372036854775807 := hcap.2
  have hnc := hcap.1
  have HO := Lib.hid ho
  have hz := ho.2
  have HR := Lib.hid (ho.row.shift 12 (n - 12) (by omega))
  have HSum := Lib.hid (sum_ok g 12 (n - 12) (cap - 12) (fun j => z (12 + j)) 12 w (fun j => hz _) (by omega) (fun j hj => by have := HR.out.2.1 j hj; simpa using this) (by omega) (by omega))
  have hcb := chk_bd (fun j => z (12 + j)) 12 (n - 12)
  obtain ⟨N, hN⟩ : ∃ N : Nat, chk (fun j => z (12 + j)) 12 (n - 12) = (N : Int) := ⟨(chk (fun j => z (12 + j)) 12 (n - 12)).toNat, by omega⟩
  have HSum' : Hid (Calls Try.prog 59 #[.slice (some ⟨g, 12, none⟩) (n - 12) (cap - 12), .int .i64 12] w fun e w' => e = .returned (.tuple #[.int .u16 (N : Int), .int .i64 0]) ∧ w = w') := Lib.hid (by rw [← hN]; exact HSum.out)
  have HSG := Lib.hid (sg_eq z n N hN)
  have hN2 : N ≤ 65535 := by omega
  have HP := Lib.hid (fun W : World => putNumber_any N 2 W (by decide) (by decide) (by omega) (qN_fit _ _ (by omega)))
  have HS := Lib.hid (size_any 11 (by decide))
  have hw := wrapU N (by omega)
  have HW := Lib.hid hw
  have HB := Lib.hid hb
  have HGG := Lib.hid hg
  have hne12 : ¬ cap = 12 := by omega
  have hne24 : ¬ cap = 24 := by omega
  have hne24' : ¬ cap - 12 = 12 := by omega
  have q1 : ¬ n < 12 := by omega
  have q2 : ¬ cap < n := by omega
  obtain ⟨n1, hn1⟩ : ∃ n1, n - 12 = n1 := ⟨_, rfl⟩
  obtain ⟨c1, hc1⟩ : ∃ c1, cap - 12 = c1 := ⟨_, rfl⟩
  rw [hn1, hc1] at HSum'
  rw [hc1] at hne24'
  have q3 : ¬ n1 < 12 := by omega
  have q4 : ¬ c1 < n1 := by omega
  have q5 : ¬ c1 < 12 := by omega
  have q6 : n1 - 12 + 24 = n := by omega
  have q7 : 2 ≤ n1 - 12 := by omega
  have hn1l : n1 ≤ 1492 := by omega
  have hc1l : c1 ≤ 9223372036854775807 := by omega
  have HQ6 := Lib.hid q6
  have HN1 := Lib.hid hn1
  have HC1 := Lib.hid hc1
  clear ho hcap HR HSum hcb hN hw hb hg hz q6
  go_enter Try.func37, Try.ntmps37
  go_wp2_with fail
  refine HSum'.out.mono ?_
  rintro e w1 ⟨rfl, rfl⟩
  clear hn1 hc1 HN1 HC1
  go_wp2_with fail
  have q3i : ¬ (n1 : Int) < 12 := by omega
  have q5i : ¬ (c1 : Int) < 12 := by omega
  refine wp_region_held_drew (S := fun w' => True) (by kernel_rfl) trivial (fun hS0 => ?_)
  refine takeY (i := 0) (some 12) (v := .slice (some ⟨g, 12, none⟩) n1 c1) rfl rfl (by kernel_rfl) (by kernel_rfl) (by kernel_rfl) (fun _ _ _ h => h) (by rfl) (fun w' hS => by go_simp) hS0 ?_
  simp only [Act.put, List.setIfInBounds_toArray, List.set_cons_zero, List.set_cons_succ]
  refine takeY (i := 1) (some 13) (v := .slice (some ⟨g, 24, none⟩) (n1 - 12) (c1 - 12)) rfl rfl (by kernel_rfl) (by kernel_rfl) (by kernel_rfl) (fun _ _ _ h => h) (by rfl) (fun w' hS => by go_simp) hS0 ?_
  simp only [Act.put, List.setIfInBounds_toArray, List.set_cons_zero, List.set_cons_succ]
  refine takeY (i := 2) (some 14) (v := .int .u16 (N : Int)) rfl rfl (by kernel_rfl) (by kernel_rfl) (by kernel_rfl) (fun _ _ _ h => h) (by rfl) (fun w' hS => by go_simp) hS0 ?_
  simp only [Act.put, List.setIfInBounds_toArray, List.set_cons_zero, List.set_cons_succ]
  refine takeY (i := 3) (some 15) (v := .int .u64 (N : Int)) rfl rfl (by kernel_rfl) (by kernel_rfl) (by kernel_rfl) (fun _ _ _ h => h) (by rfl) (fun w' hS => by first | (go_simp; done) | (go_simp; exact HW.out)) hS0 ?_
  simp only [Act.put, List.setIfInBounds_toArray, List.set_cons_zero, List.set_cons_succ]
  refine takeC (i := 4) (some 16) 52 #[.int .i64 11] (.int .i64 2) (R := fun w' => w' = w.drew) rfl rfl (by kernel_rfl) (by rfl) (by go_simp) ((HS.out _).mono fun e w' h => ⟨h.1, h.2.symm⟩) (fun w' h => trivial) (fun w2 h2 hS2 => ?_)
  subst h2
  simp only [Act.put, List.setIfInBounds_toArray, List.set_cons_zero, List.set_cons_succ]
  refine takeCE (i := 5) (some 17) 51 #[.int .u64 (N : Int), .int .i64 2] (R := fun v w' => ∃ x, v = .slice (some ⟨x, 0, none⟩) 2 2 ∧ Own8 w' x 2 2 (putZ N 2) ∧ Below w.heap.size w w') rfl rfl (by kernel_rfl) (by rfl) (by go_simp) ((HP.out w.drew).mono fun e w' ⟨x, he, hx, ho, hb⟩ => ⟨_, he, x, rfl, ho, (bself w).drew.trans hb⟩) (fun _ _ _ => trivial) (fun v2 w2 h2 hS2 => ?_)
  obtain ⟨x, rfl, ho, hb⟩ := h2
  have hO2 := HO.out.below hb hgl
  have hB2 := HB.out.trans (hb.mono HB.out.size)
  obtain ⟨⟨cur, hc, k1, k2, k3, k4⟩, k5⟩ := id hO2
  simp only [Act.put, List.setIfInBounds_toArray, List.set_cons_zero, List.set_cons_succ]
  refine takeCp (i := 6) (some 18) rfl rfl (by kernel_rfl) rfl (.tmp 13) (.tmp 17) 35 35 rfl 5 Try.underlying35 info_u8s' (some ⟨g, 24, none⟩) (some ⟨x, 0, none⟩) (n1 - 12) (c1 - 12) 2 2 rfl rfl g 24 cur.toList 5 (by simpa using hc) (vals (putZ N 2) 2) (by rw [vals_len]; exact (Nat.min_eq_left q7).symm) (fun _ => ⟨rfl, _, rfl, rd_newsB ho.rd⟩) (by rw [vals_len, Array.length_toList]; have := HQ6.out; omega) (vals_one _ _) w0.heap.size w0 hB2 HGG.out (fun w3 hc3 hb3 => ⟨trivial, ?_⟩)
  have hO3 := splice_own (cur := cur.toList) (by simpa using hc) hO2 (by omega) (putZ_bd N 2) hc3
  rw [HSG.out] at hO3
  simp only [Act.put, List.setIfInBounds_toArray, List.set_cons_zero, List.set_cons_succ]
  refine wpAnyH_done (by kernel_rfl) ?_ _
  exact bodyPost_end (results_none rfl _ _ _) rfl ⟨rfl, hO3, hb3⟩
end Go.Proofs.Ytfojfdlapekjoaa
