/- Lists of values; the values of a type. Each theorem states its conditions. -/
import Derived.Test.YtpbippipmcpjeabTTwin
import Derived.Test.YtpbippipmcpjeabTDocJoin
namespace Go.Proofs.Ytpbippipmcpjeab
open Go.RowKit
set_option linter.unusedVariables false

/-- the cells of the first m values -/
def cellsV (K : Nat → It) : Nat → List Value
  | 0 => []
  | m + 1 => cellsV K m ++ [.slice (K m).A (K m).n (K m).c]
theorem cellsV_len (K : Nat → It) (m : Nat) : (cellsV K m).length = m * 1 := by
  induction m with
  | zero => rfl
  | succ m ih => simp [cellsV, ih]
theorem cellsV_at (K : Nat → It) (m j : Nat) (h : j < m) : (cellsV K m)[j]? = some (.slice (K j).A (K j).n (K j).c) := by
  induction m with
  | zero => omega
  | succ m ih =>
    have hl := cellsV_len K m
    simp only [cellsV]
    by_cases e : j = m
    · subst e
      rw [List.getElem?_append_right (by omega), hl]
      simp
    · rw [List.getElem?_append_left (by omega)]
      exact ih (by omega)
theorem cellsV_congr (K K' : Nat → It) (m : Nat) (h : ∀ j, j < m → (K j).A = (K' j).A ∧ (K j).n = (K' j).n ∧ (K j).c = (K' j).c) : cellsV K m = cellsV K' m := by
  induction m with
  | zero => rfl
  | succ m ih =>
    obtain ⟨h2, h3, h4⟩ := h m (by omega)
    simp only [cellsV, h2, h3, h4]
    rw [ih (fun j hj => h j (by omega))]
theorem cellsV_push (K : Nat → It) (k : Nat) (t : It) : cellsV (updT K k t) (k + 1) = cellsV K k ++ [.slice t.A t.n t.c] := by
  simp only [cellsV, updT_same]
  rw [cellsV_congr (updT K k t) K k (fun j hj => by rw [updT_other _ _ _ _ (by omega)]; exact ⟨rfl, rfl, rfl⟩)]
theorem cellsV_one (K : Nat → It) (m : Nat) : ∀ u ∈ cellsV K m, u.oneCell' = true := by
  induction m with
  | zero => simp [cellsV]
  | succ m ih =>
    intro u hu
    simp only [cellsV, List.mem_append, List.mem_cons, List.not_mem_nil, or_false] at hu
    rcases hu with h | rfl
    · exact ih u h
    · rfl

/-- a value that can be read -/
def ValOk (w : World) (t : It) : Prop := Rd w t.A t.n t.z ∧ (t.A = none → t.n = 0 ∧ t.c = 0) ∧ t.n ≤ 140737488351232
theorem ItOk.val {w : World} {t : It} (h : ItOk w t) : ValOk w t := h.2
theorem ValOk.below {w w' : World} {t : It} (h : ValOk w t) (hb : Below w.heap.size w w') : ValOk w' t := ⟨h.1.below hb rfl, h.2⟩
/-- a list of values that can be read -/
def RdV (w : World) (A : Option Addr) (q : Nat) (K : Nat → It) : Prop :=
  (q = 0 ∨ ∃ b off, A = some ⟨b, off, none⟩ ∧ b < w.heap.size ∧ ∀ j, j < q → w.cell? ⟨b, off + j, none⟩ = some (.slice (K j).A (K j).n (K j).c)) ∧ ∀ j, j < q → ValOk w (K j)
theorem ownV_rd {w : World} {base q : Nat} {v : Value} {K : Nat → It} (h : w.ownsRow base 25 1 v q (cellsV K q)) (hk : ∀ j, j < q → ValOk w (K j)) :
    ∃ A c, v = .slice A q c ∧ q ≤ c ∧ c ≤ maxLen ∧ (A = none → q = 0 ∧ c = 0) ∧ RdV w A q K := by
  rcases h.2 with ⟨rfl, rfl⟩ | ⟨g, cap, cur, rfl, hb, hg, h1, h2, h3, h4⟩
  · exact ⟨none, 0, rfl, Nat.le_refl _, by decide, fun _ => ⟨rfl, rfl⟩, .inl rfl, hk⟩
  · refine ⟨_, cap, rfl, h1, h2, fun e => (by cases e), .inr ⟨g, 0, rfl, (Array.getElem?_eq_some_iff.1 hg).1, fun j hj => ?_⟩, hk⟩
    have hx := cellsV_at K q j hj
    rw [← h4, List.getElem?_take, if_pos (by omega)] at hx
    rw [Nat.zero_add, cell_of_row w g _ cur _ (0, 0) hg]
    simpa using hx

theorem info_bytes : (Try.prog.info? 25).map (fun i => (i.zero, i.size, i.bytes)) = some (some (.slice none 0 0), 1, 24) := by kernel_rfl

set_option maxHeartbeats 1000000 in
theorem samevals_yes (A B : Option Addr) (m c d : Nat) (L L' : Nat → It) (w : World) (ha : RdV w A m L) (hb : RdV w B m L')
    (he : ∀ j, j < m → (L j).n = (L' j).n ∧ ∀ i, i < (L j).n → (L j).z i = (L' j).z i) (hm : m ≤ 9223372036854775807) :
    Calls Try.prog 12 #[.slice A m c, .slice B m d] w fun e w' => e = .returned (.bool true) ∧ ∃ k, w' = w.drewN k := by
  rcases Nat.eq_zero_or_pos m with rfl | hn
  · clear ha hb he
    go_enter Try.func12, Try.ntmps12
    go_wp2
    refine wp_loop_rounds 1 ?_
    rw [rounds_succ]
    go_wp2
    go_ret
    exact ⟨rfl, 0, rfl⟩
  · obtain ⟨b, off, rfl, hbl, hr⟩ := ha.1.resolve_left (by omega)
    obtain ⟨b', off', rfl, hbl', hr'⟩ := hb.1.resolve_left (by omega)
    have HR := Lib.hid ha
    have HR' := Lib.hid hb
    have HC := Lib.hid hr
    have HC' := Lib.hid hr'
    have HE := Lib.hid he
    clear ha hb hr hr' he
    go_enter Try.func12, Try.ntmps12
    go_wp2
    go_loopw [13] (fun t wr => ∃ k r : Nat, k ≤ m ∧ t = .int .i64 k ∧ Hid (wr = w.drewN r)) (fun t _ => m - (intOf t).toNat)
    case atStart => exact ⟨0, 0, by omega, rfl, Lib.hid rfl⟩
    case round =>
      obtain ⟨k, r, hk, rfl, hw⟩ := hrel
      by_cases hlt : k < m
      · have g1 : wr.cell? ⟨b, off + k, none⟩ = some (.slice (L k).A (L k).n (L k).c) := by rw [hw.out]; exact HC.out k hlt
        have g1' : wr.cell? ⟨b', off' + k, none⟩ = some (.slice (L' k).A (L' k).n (L' k).c) := by rw [hw.out]; exact HC'.out k hlt
        have g3 : ValOk wr (L k) := by rw [hw.out]; exact HR.out.2 k hlt
        have g3' : ValOk wr (L' k) := by rw [hw.out]; exact HR'.out.2 k hlt
        obtain ⟨e2, e3⟩ := HE.out k hlt
        have H := Lib.hid (fun (q : Nat) c d => same_yes (L k).A (L' k).A (L k).n c d (L k).z (L' k).z (wr.drewN q) (Rd.draws g3.1 q) (Rd.draws (by rw [e2]; exact g3'.1) q) e3 (by have := g3.2.2; omega))
        rw [← e2] at g1'
        clear e2 e3 g3 g3'
        go_wp2_with fail
        go_quiet (first | (go_at_call 14; exact Calls.quiet_of (H.out _ _ _)))
        go_wp2
        go_roundw
        case rel => exact ⟨k + 1, r + nq, by omega, by go_num, Lib.hid (by rw [hw.out, World.drewN_drewN])⟩
        case measure => simp [intOf]; omega
      · obtain rfl : k = m := by omega
        go_wp2
        go_ret
        exact ⟨rfl, r, hw.out⟩

/-- how many of the first k are of a type; the values of these -/
def cnt (L : Nat → It) (kind : Int) : Nat → Nat
  | 0 => 0
  | k + 1 => if (L k).ty = kind then cnt L kind k + 1 else cnt L kind k
def Sel (L : Nat → It) (kind : Int) : Nat → Nat → It
  | 0 => fun _ => ⟨0, none, 0, 0, fun _ => 0⟩
  | k + 1 => if (L k).ty = kind then updT (Sel L kind k) (cnt L kind k) (L k) else Sel L kind k
theorem cnt_le (L : Nat → It) (kind : Int) (k : Nat) : cnt L kind k ≤ k := by
  induction k with
  | zero => exact Nat.le_refl _
  | succ k ih => simp only [cnt]; split <;> omega
theorem sel_from (L : Nat → It) (kind : Int) (k : Nat) : ∀ i, i < cnt L kind k → ∃ j, j < k ∧ Sel L kind k i = L j := by
  induction k with
  | zero => intro i hi; simp [cnt] at hi
  | succ k ih =>
    intro i hi
    simp only [cnt, Sel] at hi ⊢
    split at hi
    · rename_i h
      rw [if_pos h]
      by_cases e : i = cnt L kind k
      · subst e; exact ⟨k, by omega, updT_same _ _ _⟩
      · obtain ⟨j, hj, e2⟩ := ih i (by omega)
        exact ⟨j, by omega, by rw [updT_other _ _ _ _ e, e2]⟩
    · rename_i h
      rw [if_neg h]
      obtain ⟨j, hj, e2⟩ := ih i hi
      exact ⟨j, by omega, e2⟩
end Go.Proofs.Ytpbippipmcpjeab
