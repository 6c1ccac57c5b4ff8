/- Two texts put together; each theorem states its conditions. -/
import Derived.Test.YtjnbemopfhinbaaRows
import Derived.Test.YtjnbemopfhinbaaPlain
import Derived.WalkKit
import Derived.WalkLawsBesides
import Derived.WalkSpells
import Derived.IntWalk
import Derived.Outline
import Derived.Below
import Derived.Lib.Hide
import Derived.Maps.AppendAt
import Derived.Laws.AppendOwnNone
import Derived.OwnWalk
import Derived.LoopN
import Derived.RegionTactic
import Derived.ChangeAlike
import Derived.Deep.MidRow
import Derived.Laws.Tables
import Derived.Laws.Rows
import Derived.Laws.ResultCell
import Derived.Deep.RegionHeld3
/- Two texts put together; each theorem states its conditions. -/
/- Rows of bytes that a call reads or makes: what is known of them, and what becomes of it. Twin answers a row of its own. Each theorem states its conditions. -/
namespace Go.Proofs.Ytjnbemopfhinbaa
open Go.RowKit
set_option linter.unusedVariables false

/-- block g is a row of bytes of the call's own: cap cells, the first n are z(0), .. -/
def Own8 (w : World) (g n cap : Nat) (z : Nat → Int) : Prop :=
  (∃ cur : Array Value, w.heap[g]? = some (.cells cur 5 (0, 0)) ∧ n ≤ cap ∧ cap ≤ maxLen ∧ cur.size = cap ∧ ∀ j, j < n → cur[j]? = some (.int .u8 (z j))) ∧ ∀ j, 0 ≤ z j ∧ z j ≤ 255

/-- bytes that can be read: none, or a row -/
def Rd (w : World) (A : Option Addr) (n : Nat) (z : Nat → Int) : Prop :=
  (n = 0 ∨ ∃ b off, A = some ⟨b, off, none⟩ ∧ Row8 w b off n z) ∧ ∀ j, 0 ≤ z j ∧ z j ≤ 255

section
variable {w w' : World} {g n cap b off : Nat} {z : Nat → Int} {A : Option Addr}

theorem Own8.lt (h : Own8 w g n cap z) : g < w.heap.size := by
  obtain ⟨⟨cur, hg, _⟩, _⟩ := h
  exact (Array.getElem?_eq_some_iff.1 hg).1
theorem Own8.row (h : Own8 w g n cap z) : Row8 w g 0 n z := by
  refine ⟨h.lt, fun j hj => ?_, h.2⟩
  obtain ⟨⟨cur, hg, _, _, _, hc⟩, _⟩ := h
  rw [Nat.zero_add, cell_of_row w g j cur 5 (0, 0) hg]
  exact hc j hj
theorem Own8.caps (h : Own8 w g n cap z) : n ≤ cap ∧ cap ≤ maxLen := by
  obtain ⟨⟨cur, hg, h1, h2, _⟩, _⟩ := h
  exact ⟨h1, h2⟩
theorem Own8.free (h : Own8 w g n cap z) (j : Nat) : w.frozen? ⟨g, j, none⟩ = false := by
  obtain ⟨⟨cur, hg, _⟩, _⟩ := h
  simp [World.frozen?, hg]
theorem Own8.block (h : Own8 w g n cap z) (hb : w'.heap[g]? = w.heap[g]?) : Own8 w' g n cap z := by
  obtain ⟨⟨cur, hg, h1⟩, h2⟩ := h
  exact ⟨⟨cur, hb.trans hg, h1⟩, h2⟩
theorem Own8.below {B : Nat} (h : Own8 w g n cap z) (hb : Below B w w') (hB : g < B) : Own8 w' g n cap z := h.block (hb.block g hB)
theorem Own8.grown {row : Option Nat} (h : Own8 w g n cap z) (hb : w.grownBy w' row) (hne : some g ≠ row) : Own8 w' g n cap z := h.block (hb.block g h.lt hne)
theorem Own8.alloc (h : Own8 w g n cap z) (o : Obj) : Own8 (w.alloc o) g n cap z := h.block (Below.heap_alloc w o g h.lt)
theorem Own8.far (h : Own8 w g n cap z) {p : Addr} (hp : g ≠ p.block) (u : Value) : Own8 (w.setCell p u) g n cap z := h.block (Below.heap_setCell w p u g hp)
/-- a byte is written -/
def upd (z : Nat → Int) (k : Nat) (v : Int) : Nat → Int := fun j => if j = k then v else z j
theorem upd_same (z : Nat → Int) (k : Nat) (v : Int) : upd z k v k = v := by simp [upd]
theorem upd_other (z : Nat → Int) (k j : Nat) (v : Int) (h : j ≠ k) : upd z k v j = z j := by simp [upd, h]
theorem upd_bd (hz : ∀ j, 0 ≤ z j ∧ z j ≤ 255) (k : Nat) (v : Int) (hv : 0 ≤ v ∧ v ≤ 255) : ∀ j, 0 ≤ upd z k v j ∧ upd z k v j ≤ 255 := by
  intro j; unfold upd; split; exact hv; exact hz j
theorem Own8.put (h : Own8 w g n cap z) (k : Nat) (hk : k < n) (v : Int) (hv : 0 ≤ v ∧ v ≤ 255) : Own8 (w.setCell ⟨g, k, none⟩ (.int .u8 v)) g n cap (upd z k v) := by
  obtain ⟨⟨cur, hg, h1, h2, h3, h4⟩, h5⟩ := h
  refine ⟨⟨cur.setIfInBounds k (.int .u8 v), ?_, h1, h2, by simpa using h3, fun j hj => ?_⟩, upd_bd h5 k v hv⟩
  · simp [World.setCell, Array.getElem?_modify, hg]
  · rw [Array.getElem?_setIfInBounds]
    by_cases e : k = j
    · subst e
      rw [if_pos rfl, if_pos (by omega), upd_same]
    · rw [if_neg e, upd_other z k j v (fun x => e x.symm)]
      exact h4 j hj
theorem Own8.cut (h : Own8 w g n cap z) (m : Nat) (hm : m ≤ n) : Own8 w g m cap z := by
  obtain ⟨⟨cur, hg, h1, h2, h3, h4⟩, h5⟩ := h
  exact ⟨⟨cur, hg, by omega, h2, h3, fun j hj => h4 j (by omega)⟩, h5⟩
theorem own_at (h : Own8 w g n cap z) (j : Nat) (hj : j < n) : w.cell? ⟨g, j, none⟩ = some (.int .u8 (z j)) := by
  have := h.row.2.1 j hj
  rwa [Nat.zero_add] at this
theorem Own8.rd (h : Own8 w g n cap z) : Rd w (some ⟨g, 0, none⟩) n z := ⟨.inr ⟨g, 0, rfl, h.row⟩, h.2⟩

theorem Rd.below {B : Nat} (h : Rd w A n z) (hb : Below B w w') (hB : B = w.heap.size) : Rd w' A n z := by
  refine ⟨?_, h.2⟩
  rcases h.1 with h0 | ⟨b, off, rfl, hr⟩
  · exact .inl h0
  · exact .inr ⟨b, off, rfl, hr.below hb (by have := hr.1; omega)⟩
theorem Rd.cut (h : Rd w A n z) (m : Nat) (hm : m ≤ n) : Rd w A m z := by
  refine ⟨?_, h.2⟩
  rcases h.1 with h0 | ⟨b, off, rfl, hr⟩
  · exact .inl (by omega)
  · exact .inr ⟨b, off, rfl, hr.1, fun j hj => hr.2.1 j (by omega), hr.2.2⟩
theorem Rd.row (h : Rd w A n z) (hn : 0 < n) : ∃ b off, A = some ⟨b, off, none⟩ ∧ Row8 w b off n z := by
  rcases h.1 with h0 | h1
  · omega
  · exact h1

theorem isRow_rd {len : Nat} {zs : List Int} (h : IsRow .u8 w A len cap zs) : Rd w A len (fun j => zs.getD j 0) ∧ (A = none → len = 0 ∧ cap = 0) := by
  rcases Nat.eq_zero_or_pos len with h0 | h0
  · refine ⟨⟨.inl h0, fun j => ?_⟩, fun hA => ?_⟩
    · rcases h with ⟨rfl, _, _, rfl⟩ | ⟨x, rfl, hlc, hm, hz, hc, hwf⟩
      · simp
      · rcases Nat.lt_or_ge j zs.length with hj | hj
        · have := wf_u8 (hwf zs[j] (by simp))
          simpa [List.getD, List.getElem?_eq_getElem hj] using this
        · simp [List.getD, List.getElem?_eq_none hj]
    · rcases h with ⟨rfl, h1, h2, rfl⟩ | ⟨x, rfl, _⟩
      · exact ⟨h1, h2⟩
      · cases hA
  · obtain ⟨b, off, rfl, _, _, hr⟩ := isRow_open h h0
    exact ⟨⟨.inr ⟨b, off, rfl, hr⟩, hr.2.2⟩, fun hA => by cases hA⟩
end

/-- the bytes as a list of values -/
def vals (z : Nat → Int) (n : Nat) : List Value := (List.range n).map fun j => .int .u8 (z j)
theorem vals_len (z : Nat → Int) (n : Nat) : (vals z n).length = n := by simp [vals]
theorem vals_at (z : Nat → Int) (n j : Nat) (h : j < n) : (vals z n)[j]? = some (.int .u8 (z j)) := by simp [vals, h]
theorem vals_at' (z : Nat → Int) (n j : Nat) (u : Value) (h : (vals z n)[j]? = some u) : j < n ∧ u = .int .u8 (z j) := by
  have hj : j < n := by
    rcases Nat.lt_or_ge j n with hl | hg
    · exact hl
    · rw [List.getElem?_eq_none (by simpa [vals] using hg)] at h; cases h
  rw [vals_at z n j hj] at h
  exact ⟨hj, by cases h; rfl⟩
theorem vals_one (z : Nat → Int) (n : Nat) : ∀ u ∈ vals z n, u.oneCell' = true := by
  intro u hu
  simp only [vals, List.mem_map] at hu
  obtain ⟨j, _, rfl⟩ := hu
  rfl

theorem own_of {w : World} {base n : Nat} {v : Value} {xs : List Value} {z : Nat → Int} (h : w.ownsRow base 5 1 v n xs) (hxs : xs = vals z n) (hv : v ≠ .slice none 0 0) (hz : ∀ j, 0 ≤ z j ∧ z j ≤ 255) :
    ∃ g cap, v = .slice (some ⟨g, 0, none⟩) n cap ∧ base ≤ g ∧ Own8 w g n cap z := by
  subst hxs
  rcases h.2 with ⟨hv', _⟩ | ⟨g, cap, cur, rfl, hb, hg, h1, h2, h3, h4⟩
  · exact (hv hv').elim
  · refine ⟨g, cap, rfl, hb, ⟨cur, hg, h1, h2, by omega, fun j hj => ?_⟩, hz⟩
    have := vals_at z n j hj
    rw [← h4, List.getElem?_take, if_pos (by omega)] at this
    simpa using this

theorem info_u8 : (Try.prog.info? 5).map (fun i => (i.zero, i.size, i.bytes)) = some (some (.int .u8 0), 1, 1) := by kernel_rfl

/-- what Twin leaves -/
def TwinPost (w : World) (n : Nat) (z : Nat → Int) (e : Ending) (w' : World) : Prop :=
  ∃ g cap, e = .returned (.slice (some ⟨g, 0, none⟩) n cap) ∧ w.heap.size ≤ g ∧ Own8 w' g n cap z ∧ Below w.heap.size w w'

theorem rd_news {w : World} {n : Nat} {z : Nat → Int} {ad : Addr} (h : Rd w (some ad) n z) (o : Obj) : ∀ j u, (vals z n)[j]? = some u → (w.alloc o).cell? (ad.add j) = some u := by
  intro j u hu
  obtain ⟨hj, rfl⟩ := vals_at' z n j u hu
  obtain ⟨b, off, e, hr⟩ := h.row (by omega)
  injection e with e
  subst e
  have hadd : (⟨b, off, none⟩ : Addr).add j = ⟨b, off + j, none⟩ := by unfold Addr.add; split <;> simp_all
  rw [hadd, World.cell?_alloc_lt w o _ hr.1]
  exact hr.2.1 j hj

end Go.Proofs.Ytjnbemopfhinbaa
/- Spare answers a copy with marked room behind it; SameBytes and Kept answer true where nothing was turned. Each theorem states its conditions. -/
namespace Go.Proofs.Ytjnbemopfhinbaa
open Go.RowKit
set_option linter.unusedVariables false

/-- the bytes with the marks behind them -/
def spZ (z : Nat → Int) (n : Nat) : Nat → Int := fun j => if j < n then z j else if j = n + 1 then 90 else 165
theorem spZ_in (z : Nat → Int) (n j : Nat) (h : j < n) : spZ z n j = z j := by simp [spZ, h]
theorem spZ_bd (z : Nat → Int) (n : Nat) (hz : ∀ j, 0 ≤ z j ∧ z j ≤ 255) : ∀ j, 0 ≤ spZ z n j ∧ spZ z n j ≤ 255 := by
  intro j; unfold spZ; split
  · exact hz j
  · split <;> omega
theorem spZ_vals (z : Nat → Int) (n : Nat) : vals z n ++ [.int .u8 165, .int .u8 90, .int .u8 165] = vals (spZ z n) (n + 3) := by
  apply List.ext_getElem
  · simp [vals]
  · intro i h1 h2
    have hi : i < n + 3 := by simpa [vals] using h2
    by_cases h : i < n
    · simp [vals, h, spZ]
    · rcases (by omega : i = n ∨ i = n + 1 ∨ i = n + 2) with rfl | rfl | rfl <;> simp [vals, spZ] <;> omega

def SparePost (w : World) (n : Nat) (z : Nat → Int) (e : Ending) (w' : World) : Prop :=
  ∃ g cap, e = .returned (.tuple #[.slice (some ⟨g, 0, none⟩) n cap, .slice (some ⟨g, 0, none⟩) (n + 3) cap]) ∧ w.heap.size ≤ g ∧ Own8 w' g (n + 3) cap (spZ z n) ∧ Below w.heap.size w w'

theorem three_new (w : World) (a b c : Value) (t : TypeId) : ∀ j u, [a, b, c][j]? = some u → (w.alloc (.cells #[a, b, c] t)).cell? ((⟨w.heap.size, 0, none⟩ : Addr).add j) = some u := by
  intro j u hj
  match j, hj with
  | 0, hj => simp at hj; subst hj; simp [Addr.add]
  | 1, hj => simp at hj; subst hj; simp [Addr.add]
  | 2, hj => simp at hj; subst hj; simp [Addr.add]

end Go.Proofs.Ytjnbemopfhinbaa
/- The steps of a region whose order is drawn, taken by hand: the place that is written is named. Each theorem states its conditions. -/
namespace Go.Proofs.Ytjnbemopfhinbaa
open Go.RowKit
set_option linter.unusedVariables false

section
variable {P : Program} {ops : Array Oper} {Q : Exit → Act → World → Prop} {md : Region.Mode} {S : World → Prop}
/-- what may come up, is wanted and yields v is taken first -/
theorem takeY {i : Nat} {oi : Oper} (d : Option Tmp) {v : Value} {fuel : Nat} {listed : Array Bool} {a : Act} {w : World} (hi : ops[i]? = some oi) (hd : oi.dst = d)
    (hs : Region.noSelect ops = true) (hf : Region.free md ops listed i = true) (hr : (Region.ready md ops listed).contains i = true)
    (hQ : ∀ c a w, Q (.panic c) (a.put d v) w → Q (.panic c) a w) (hw : Region.wanted oi (yielded ops a.tmps) = true) (hy : ∀ w, S w → (execOp a.eval oi).run P w = .ok (.value v) w) (hS : S w)
    (h : wpAnyH P md ops Q S fuel (listed.setIfInBounds i true) (a.put d v) w) : wpAnyH P md ops Q S (fuel + 1) listed a w := by
  subst hd
  exact wpAnyH_take hi hs hf hr hQ (.inl ⟨hw, hy⟩) hS h
/-- what may come up and is not wanted -/
theorem takeN {i : Nat} {oi : Oper} (d : Option Tmp) {fuel : Nat} {listed : Array Bool} {a : Act} {w : World} (hi : ops[i]? = some oi) (hd : oi.dst = d)
    (hs : Region.noSelect ops = true) (hf : Region.free md ops listed i = true) (hr : (Region.ready md ops listed).contains i = true)
    (hQ : ∀ c a w, Q (.panic c) (a.put d undef) w → Q (.panic c) a w) (hw : Region.wanted oi (yielded ops a.tmps) = false) (hS : S w)
    (h : wpAnyH P md ops Q S fuel (listed.setIfInBounds i true) (a.put d undef) w) : wpAnyH P md ops Q S (fuel + 1) listed a w := by
  subst hd
  exact wpAnyH_take hi hs hf hr hQ (.inr ⟨hw, rfl⟩) hS h
/-- a row of cells is read -/
theorem takeL {i : Nat} {oi : Oper} (d : Option Tmp) {fuel : Nat} {listed : Array Bool} {a : Act} {w : World} (ty : TypeId) (x : Operand) (b o : Nat) (cs : Array Value) (dd : TypeDesc) (hi : ops[i]? = some oi) (hd : oi.dst = d)
    (hs : Region.noSelect ops = true) (hf : Region.free md ops listed i = true) (hr : (Region.ready md ops listed).contains i = true)
    (hQ : ∀ c a w, Q (.panic c) (a.put d (.agg cs)) w → Q (.panic c) a w) (hw : Region.wanted oi (yielded ops a.tmps) = true) (ho : oi.op = .load ty x)
    (hx : a.eval x = .pointer (some ⟨b, o, none⟩)) (hr2 : ∀ w, S w → w.rangeAt b o cs.toList) (hu : P.underlying ty = some dd) (hdd : dd.isRow = true) (hz : (P.info? ty).map (·.size) = some cs.toList.length) (hS : S w)
    (h : wpAnyH P md ops Q S fuel (listed.setIfInBounds i true) (a.put d (.agg cs)) w) : wpAnyH P md ops Q S (fuel + 1) listed a w := by
  subst hd
  exact wpAnyH_take hi hs hf hr (by simpa using hQ) (by simpa using yieldsIf_load_mid (P := P) hw ty x ho b o hx cs.toList dd hr2 hu hdd hz) hS h
/-- one alone may come up: it is run -/
theorem only {i : Nat} {oi : Oper} (d : Option Tmp) (op : Op) {fuel : Nat} {listed : Array Bool} {a : Act} {w : World} (hi : ops[i]? = some oi) (hd : oi.dst = d) (ho : oi.op = op)
    (hr : Region.ready md ops listed = [i]) (hw : Region.wanted oi (yielded ops a.tmps) = true)
    (h : ∀ K' : Act → World → Prop, Shut (∀ a w, S w → (S w → wpAnyH P md ops Q S fuel (listed.setIfInBounds i true) a w) → K' a w) → Oper.wp P { oi with dst := d, op := op } a w K' Q) :
    wpAnyH P md ops Q S (fuel + 1) listed a w := by
  subst hd ho
  refine wpAnyH_ready hr (by simp) (AllReadyH.cons hi (fun K hK => ?_) AllReadyH.nil)
  rw [if_pos hw]
  exact h K hK
/-- a call alone may come up -/
theorem takeC {i : Nat} {oi : Oper} (d : Option Tmp) (f : FuncId) (args : Array Value) (v : Value) {R : World → Prop} {fuel : Nat} {listed : Array Bool} {a : Act} {w : World} (hi : ops[i]? = some oi) (hd : oi.dst = d)
    (hr : Region.ready md ops listed = [i]) (hw : Region.wanted oi (yielded ops a.tmps) = true) (hx : (execOp a.eval oi).run P w = .ok (.enter f args) w)
    (hc : Calls P f args w fun e w' => e = .returned v ∧ R w') (hS : ∀ w', R w' → S w')
    (h : ∀ w', R w' → S w' → wpAnyH P md ops Q S fuel (listed.setIfInBounds i true) (a.put d v) w') : wpAnyH P md ops Q S (fuel + 1) listed a w := by
  subst hd
  refine wpAnyH_ready hr (by simp) (AllReadyH.cons hi (fun K hK => ?_) AllReadyH.nil)
  rw [if_pos hw]
  unfold Oper.wp
  rw [hx, Oper.upon_enter]
  refine hc.mono ?_
  rintro e w' ⟨rfl, hR⟩
  exact hK.out _ _ (hS w' hR) (h w' hR)
/-- a variable of the call's own is written whole -/
theorem takeS {i : Nat} {oi : Oper} {ty : TypeId} {cells old : Array Value} {b : Nat} {fuel : Nat} {listed : Array Bool} {a : Act} {w : World} (x y : Operand) (hi : ops[i]? = some oi) (hd : oi.dst = none) (ho : oi.op = .store ty x y)
    (hr : Region.ready md ops listed = [i]) (hw : Region.wanted oi (yielded ops a.tmps) = true) (hx : a.eval x = .pointer (some ⟨b, 0, none⟩)) (hy : a.eval y = .agg cells)
    (hg : w.heap[b]? = some (.cells old ty (0, 0))) (hz : (P.info? ty).map (·.size) = some cells.size) (hs : old.size = cells.size) (h1 : cells.all (·.oneCell') = true)
    (hS : ∀ w', w'.heap[b]? = some (.cells cells ty (0, 0)) → (∀ B, B ≤ b → Below B w w') → (∀ k, k ≠ b → w'.heap[k]? = w.heap[k]?) → S w')
    (h : ∀ w', w'.heap[b]? = some (.cells cells ty (0, 0)) → (∀ B, B ≤ b → Below B w w') → (∀ k, k ≠ b → w'.heap[k]? = w.heap[k]?) → S w' → wpAnyH P md ops Q S fuel (listed.setIfInBounds i true) (a.put none undef) w') :
    wpAnyH P md ops Q S (fuel + 1) listed a w := by
  refine wpAnyH_ready hr (by simp) (AllReadyH.cons hi (fun K hK => ?_) AllReadyH.nil)
  rw [if_pos hw]
  have hrun := run_storeVar_row (P := P) w b ty ty old cells hg hz hs h1
  have e1 := setRow_heap w b old cells ty (0, 0) hg
  have e2 : ∀ B, B ≤ b → Below B w (w.setRow b cells) := fun B hB => ⟨rfl, rfl, rfl, by simp [World.setRow], fun k hk => setRow_other w b k cells (by omega)⟩
  have e3 : ∀ k, k ≠ b → (w.setRow b cells).heap[k]? = w.heap[k]? := fun k hk => setRow_other w b k cells hk
  unfold Oper.wp execOp
  simp only [ho, hx, hy, Instr.storeAt, Instr.sureAddr, Sem.run_bind, Sem.run_pure, Result.andThen_ok, hrun]
  have := hK.out (a.put none undef) _ (hS _ e1 e2 e3) (h _ e1 e2 e3)
  rw [← hd] at this
  exact this
/-- of several that may come up: one that yields v at the world at hand -/
theorem consV {i : Nat} {oi : Oper} (d : Option Tmp) {v : Value} {rs : List Nat} {fuel : Nat} {listed : Array Bool} {a : Act} {w : World} (hi : ops[i]? = some oi) (hd : oi.dst = d)
    (hw : Region.wanted oi (yielded ops a.tmps) = true) (hx : (execOp a.eval oi).run P w = .ok (.value v) w) (hS : S w)
    (h : wpAnyH P md ops Q S fuel (listed.setIfInBounds i true) (a.put d v) w) (hs : AllReadyH P md ops Q S fuel listed a w rs) : AllReadyH P md ops Q S fuel listed a w (i :: rs) := by
  subst hd
  refine AllReadyH.cons hi (fun K hK => ?_) hs
  rw [if_pos hw]
  unfold Oper.wp
  rw [hx, Oper.upon_value]
  exact hK.out _ _ hS (fun _ => h)
/-- of several that may come up: a call -/
theorem consC {i : Nat} {oi : Oper} (d : Option Tmp) (f : FuncId) (args : Array Value) (v : Value) {R : World → Prop} {rs : List Nat} {fuel : Nat} {listed : Array Bool} {a : Act} {w : World} (hi : ops[i]? = some oi) (hd : oi.dst = d)
    (hw : Region.wanted oi (yielded ops a.tmps) = true) (hx : (execOp a.eval oi).run P w = .ok (.enter f args) w)
    (hc : Calls P f args w fun e w' => e = .returned v ∧ R w') (hS : ∀ w', R w' → S w')
    (h : ∀ w', R w' → S w' → wpAnyH P md ops Q S fuel (listed.setIfInBounds i true) (a.put d v) w') (hs : AllReadyH P md ops Q S fuel listed a w rs) : AllReadyH P md ops Q S fuel listed a w (i :: rs) := by
  subst hd
  refine AllReadyH.cons hi (fun K hK => ?_) hs
  rw [if_pos hw]
  unfold Oper.wp
  rw [hx, Oper.upon_enter]
  refine hc.mono ?_
  rintro e w' ⟨rfl, hR⟩
  exact hK.out _ _ (hS w' hR) (h w' hR)
/-- one cell is written -/
theorem takeW {i : Nat} {oi : Oper} {w' : World} {fuel : Nat} {listed : Array Bool} {a : Act} {w : World} (hi : ops[i]? = some oi) (hd : oi.dst = none)
    (hr : Region.ready md ops listed = [i]) (hw : Region.wanted oi (yielded ops a.tmps) = true) (hx : (execOp a.eval oi).run P w = .ok .skip w')
    (hS : S w') (h : wpAnyH P md ops Q S fuel (listed.setIfInBounds i true) (a.put none undef) w') : wpAnyH P md ops Q S (fuel + 1) listed a w := by
  refine wpAnyH_ready hr (by simp) (AllReadyH.cons hi (fun K hK => ?_) AllReadyH.nil)
  rw [if_pos hw]
  unfold Oper.wp
  rw [hx, Oper.upon_skip, hd]
  exact hK.out _ _ hS (fun _ => h)
end
end Go.Proofs.Ytjnbemopfhinbaa
