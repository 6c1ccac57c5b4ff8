/- The text of an address of IPv4 whose numbers have at most two digits: prefix.writeFour joins them with points. Each theorem states its conditions. -/
import Derived.Test.YtnllhedmkjmaiaaDoorPBits
import Derived.Test.YtnllhedmkjmaiaaDoorShelf
import Derived.Maps.AppendAt
import Derived.OwnWalk
namespace Go.Proofs.YtnllhedmkjmaiaaDoor
open Go.RowKit
set_option linter.unusedVariables false

theorem info_str : (Tryd.prog.info? 9).map (fun i => (i.zero, i.size, i.bytes)) = some (some (.string ⟨#[]⟩), 1, 16) := by kernel_rfl
theorem one_new (w : World) (a : Value) (t : TypeId) : ∀ j u, [a][j]? = some u → (w.alloc (.cells #[a] t)).cell? ((⟨w.heap.size, 0, none⟩ : Addr).add j) = some u := by
  intro j u hj
  match j, hj with
  | 0, hj => simp at hj; subst hj; simp [Addr.add]
theorem str_one (s : ByteArray) : ∀ u ∈ [Value.string s], u.oneCell' = true := by
  intro u hu; simp only [List.mem_cons, List.not_mem_nil, or_false] at hu; subst hu; rfl
theorem ownsRow_below {w w' : World} {base m : Nat} {v : Value} {e : TypeId} {s : Nat} {xs : List Value} (h : w.ownsRow base e s v m xs) (hb : Below w.heap.size w w') : w'.ownsRow base e s v m xs := by
  refine ⟨h.1, ?_⟩
  rcases h.2 with h | ⟨g, cap, cur, hv, hg, hc, r⟩
  · exact .inl h
  · exact .inr ⟨g, cap, cur, hv, hg, (hb.block g (Array.getElem?_eq_some_iff.1 hc).1).trans hc, r⟩

/-- texts as a list's cells -/
def strs (f : Nat → ByteArray) : Nat → List Value
  | 0 => []
  | n + 1 => strs f n ++ [.string (f n)]
theorem strs_len (f : Nat → ByteArray) (n : Nat) : (strs f n).length = n := by
  induction n with
  | zero => rfl
  | succ n ih => simp [strs, ih]
theorem strs_at (f : Nat → ByteArray) (n j : Nat) (h : j < n) : (strs f n)[j]? = some (.string (f j)) := by
  induction n with
  | zero => omega
  | succ n ih =>
    have hl := strs_len f n
    simp only [strs]
    by_cases e : j = n
    · subst e
      rw [List.getElem?_append_right (by omega), hl]
      simp
    · rw [List.getElem?_append_left (by omega)]
      exact ih (by omega)
/-- a list of texts of the call's own, and where it lies -/
theorem own_strs {w : World} {base n : Nat} {v : Value} {f : Nat → ByteArray} (h : w.ownsRow base 9 1 v n (strs f n)) (hn : 0 < n) :
    ∃ g cap, v = .slice (some ⟨g, 0, none⟩) n cap ∧ base ≤ g ∧ g < w.heap.size ∧ n ≤ cap ∧ cap ≤ maxLen ∧ ∀ j, j < n → w.cell? ⟨g, j, none⟩ = some (.string (f j)) := by
  rcases h.2 with ⟨_, h0⟩ | ⟨g, cap, cur, hv, hg, hc, h1, h2, _⟩
  · omega
  · refine ⟨g, cap, hv, hg, (Array.getElem?_eq_some_iff.1 hc).1, h1, h2, fun j hj => ?_⟩
    have := h.cells (g := g) (by rw [hv]; rfl) j _ (strs_at f n j hj)
    rw [show ((⟨g, 0, none⟩ : Addr).add j) = ⟨g, j, none⟩ by unfold Addr.add; split <;> simp_all] at this
    exact this

/-- the text of a small number -/
def dec (n : Nat) : ByteArray := ⟨(Lib.decDigits n).toArray⟩

theorem dec_one (n : Nat) (h : n < 10) : Lib.decDigits n = [UInt8.ofNat (48 + n)] := by rw [Lib.decDigits, dif_pos h]
theorem dec_two (n : Nat) (h : n < 100) (h1 : 10 ≤ n) : Lib.decDigits n = [UInt8.ofNat (48 + n / 10), UInt8.ofNat (48 + n % 10)] := by
  rw [Lib.decDigits, dif_neg (by omega), dec_one _ (by omega)]; rfl
theorem dec_len (n : Nat) (h : n < 100) : (dec n).size ≤ 2 := by
  show (Lib.decDigits n).length ≤ 2
  by_cases h1 : n < 10
  · rw [dec_one n h1]; exact Nat.le_succ 1
  · rw [dec_two n h (by omega)]; exact Nat.le_refl 2

set_option maxHeartbeats 1000000 in
set_option maxRecDepth 100000 in
theorem four_any (y : Nat → Nat) (hy : ∀ j, j < 4 → y j < 100) (w : World) :
    Calls Tryd.prog 35 #[.agg (agC (fun j => (y j : Int)))] w fun e w' => e = .returned (.string ⟨(Lib.join ((List.range 4).map fun j => (dec (y j)).data.toList) [46]).toArray⟩) ∧ Below w.heap.size w w' := by
  obtain ⟨i0, hi, hz0, hz1, hz2⟩ := info_parts info_str
  go_enter Tryd.func35, Tryd.ntmps35
  go_wp2_with fail
  go_loopw [3, 8] (fun v i wr => ∃ k : Nat, k ≤ 4 ∧ i = .int .i64 k ∧ wr.ownsRow (w.heap.size + 1) 9 1 v k (strs (fun j => dec (y j)) k) ∧ wr.heap[w.heap.size]? = some (.cells (agC (fun j => (y j : Int))) 22 (0, 0)) ∧ Below w.heap.size w wr)
    (fun _ i _ => 4 - (intOf i).toNat)
  case atStart => exact ⟨0, by omega, rfl, World.ownsRow_nil _ _ _ _, heap_alloc_new w _, (bself w).alloc (Nat.le_refl _) _⟩
  case round =>
    obtain ⟨k, hk, rfl, hown, hA, hb⟩ := hrel
    have hbs := hb.size
    by_cases hk4 : k < 4
    · have c : wr.cell? ⟨w.heap.size, k, none⟩ = some (.int .u8 (y k)) := (cell_of_row wr w.heap.size k _ _ _ hA).trans (agC_at _ k (by omega))
      have hwb : w.heap.size < wr.heap.size := (Array.getElem?_eq_some_iff.1 hA).1
      have HO := Lib.hid hown
      have hy0 := hy k hk4
      have m1 : k + 1 ≤ maxLen := by unfold maxLen; omega
      clear hown hy
      go_wp2_with (first
        | (refine (Tryd.strconv_Itoa_small (y k) hy0 _).mono ?_; rintro e w' ⟨rfl, hw'⟩; have hw2 := hw'.symm; subst hw2; clear hw')
        | (at_builtin; go_loud (refine wpList_append_own_at _ rfl (.tmp 12) (.tmp 16) 74 rfl (w.heap.size + 1) 9 i0 (.string ⟨#[]⟩) 1 16 Tryd.underlying74 hi hz0 hz1 hz2 rfl (by decide) u3 k _ rfl (HO.out.alloc _) ⟨wr.heap.size, 0, none⟩ 1 1 [.string (dec (y k))] rfl rfl (one_new wr _ _) (str_one _) m1 (by omega) (by simp; omega) ?_); intro v1 w1 hown1 hgrow1 hnil1 hat1))
      have HB := Lib.hid ((hb.alloc hbs _).grown hgrow1 (by simp; omega) (fun x e => by have := (HO.out.lt x e).1; omega))
      have HA := Lib.hid ((hgrow1.block w.heap.size (by simp; omega) (fun e => by have := (HO.out.lt _ e.symm).1; omega)).trans ((Below.heap_alloc _ _ _ hwb).trans hA))
      clear hgrow1 hnil1 hat1 c hA hb
      go_wp2
      go_roundw
      case rel => exact ⟨k + 1, by omega, by go_num, hown1, HA.out, HB.out⟩
      case measure => simp only [intOf]; omega
    · obtain rfl : k = 4 := by omega
      obtain ⟨g, cap, rfl, hg, hlt, hc1, hc2, hcs⟩ := own_strs hown (by omega)
      have HC := Lib.hid hcs
      clear hown hA hcs
      have hl : (Lib.join (([dec (y 0), dec (y 1), dec (y 2), dec (y 3)] : List ByteArray).map (·.data.toList)) (⟨#[46]⟩ : ByteArray).data.toList).length ≤ 140737488355328 := by
        have h0 := dec_len (y 0) (hy 0 (by omega))
        have h1 := dec_len (y 1) (hy 1 (by omega))
        have h2 := dec_len (y 2) (hy 2 (by omega))
        have h3 := dec_len (y 3) (hy 3 (by omega))
        simp [Lib.join]
        omega
      go_wp2_with fail
      refine (Tryd.strings_Join g 0 cap [dec (y 0), dec (y 1), dec (y 2), dec (y 3)] ⟨#[46]⟩ _ ?_ hlt (by simp) hc1 hl).mono ?_
      · intro j x hj
        rw [Nat.zero_add]
        match j, hj with
        | 0, hj => simp at hj; subst hj; exact HC.out 0 (by omega)
        | 1, hj => simp at hj; subst hj; exact HC.out 1 (by omega)
        | 2, hj => simp at hj; subst hj; exact HC.out 2 (by omega)
        | 3, hj => simp at hj; subst hj; exact HC.out 3 (by omega)
        | j + 4, hj => simp at hj
      rintro e w' ⟨rfl, hb2⟩
      go_wp2
      go_ret
      exact ⟨rfl, hb.trans (hb2.mono hbs)⟩
end Go.Proofs.YtnllhedmkjmaiaaDoor
