/- Spare answers a copy with marked room behind it; SameBytes and Kept answer true where nothing was turned. Each theorem states its conditions. -/
import Derived.Test.YtahflakanbhapaaMem
import Derived.LoopN
import Derived.RegionTactic
import Derived.ChangeAlike
namespace Go.Proofs.Ytahflakanbhapaa
open Go.RowKit
set_option linter.unusedVariables false

/-- the bytes with the marks behind them -/
def spZ (z : Nat → Int) (n : Nat) : Nat → Int := fun j => if j < n then z j else if j = n + 1 then 90 else 165
theorem spZ_in (z : Nat → Int) (n j : Nat) (h : j < n) : spZ z n j = z j := by simp [spZ, h]
theorem spZ_bd (z : Nat → Int) (n : Nat) (hz : ∀ j, 0 ≤ z j ∧ z j ≤ 255) : ∀ j, 0 ≤ spZ z n j ∧ spZ z n j ≤ 255 := by
  intro j; unfold spZ; split
  · exact hz j
  · split <;> omega
theorem spZ_vals (z : Nat → Int) (n : Nat) : vals z n ++ [.int .u8 165, .int .u8 90, .int .u8 165] = vals (spZ z n) (n + 3) := by
  apply List.ext_getElem
  · simp [vals]
  · intro i h1 h2
    have hi : i < n + 3 := by simpa [vals] using h2
    by_cases h : i < n
    · simp [vals, List.getElem_append, h, spZ]
    · rcases (by omega : i = n ∨ i = n + 1 ∨ i = n + 2) with rfl | rfl | rfl <;> simp [vals, List.getElem_append, spZ] <;> omega

def SparePost (w : World) (n : Nat) (z : Nat → Int) (e : Ending) (w' : World) : Prop :=
  ∃ g cap, e = .returned (.tuple #[.slice (some ⟨g, 0, none⟩) n cap, .slice (some ⟨g, 0, none⟩) (n + 3) cap]) ∧ w.heap.size ≤ g ∧ Own8 w' g (n + 3) cap (spZ z n) ∧ Below w.heap.size w w'

theorem three_new (w : World) (a b c : Value) (t : TypeId) : ∀ j u, [a, b, c][j]? = some u → (w.alloc (.cells #[a, b, c] t)).cell? ((⟨w.heap.size, 0, none⟩ : Addr).add j) = some u := by
  intro j u hj
  match j, hj with
  | 0, hj => simp at hj; subst hj; simp [Addr.add]
  | 1, hj => simp at hj; subst hj; simp [Addr.add]
  | 2, hj => simp at hj; subst hj; simp [Addr.add]

theorem spare_any (A : Option Addr) (n c : Nat) (z : Nat → Int) (w : World) (h : Rd w A n z) (hA : A = none → n = 0 ∧ c = 0) (hn : n ≤ 140737488351232) :
    Calls Try.prog 14 #[.slice A n c] w (SparePost w n z) := by
  obtain ⟨i0, hi, hz0, hz1, hz2⟩ := info_parts info_u8
  have hm : (0 : Nat) ≤ maxLen := by decide
  have hown := World.ownsRow_made (e := 5) (size := 1) (base := w.heap.size) w #[] 0 (Nat.le_refl _) hm rfl
  have hn3 : ∀ W : World, ∀ j u, [Value.int .u8 165, Value.int .u8 90, Value.int .u8 165][j]? = some u → (W.alloc (.cells #[.int .u8 165, .int .u8 90, .int .u8 165] 5)).cell? ((⟨W.heap.size, 0, none⟩ : Addr).add j) = some u := fun W => three_new W _ _ _ _
  have ho3 : ∀ u ∈ [Value.int .u8 165, Value.int .u8 90, Value.int .u8 165], u.oneCell' = true := by intro u hu; simp only [List.mem_cons, List.not_mem_nil, or_false] at hu; rcases hu with rfl | rfl | rfl <;> rfl
  have H3 := Lib.hid hn3
  have HO := Lib.hid ho3
  clear hn3 ho3
  have hzz := Lib.hid h.2
  rcases A with _ | ⟨b, off, spot⟩
  · obtain ⟨rfl, rfl⟩ := hA rfl
    clear h hA
    have hown2 : (w.alloc (.cells #[] 5)).ownsRow w.heap.size 5 1 (.slice (some ⟨w.heap.size, 0, none⟩) 0 0) 0 (vals z 0) := hown
    go_enter Try.func14, Try.ntmps14
    go_wp2_with (first | (at_builtin; refine wpList_append_own_none rfl (.tmp 5) (.tmp 6) 43 rfl w.heap.size 5 i0 1 Try.underlying43 hi _ 0 [] rfl hown rfl ?_) | (at_builtin; (refine wpList_append_own_at _ rfl (.tmp 7) (.tmp 8) 43 rfl w.heap.size 5 i0 (.int .u8 0) 1 1 Try.underlying43 hi hz0 hz1 hz2 rfl (by decide) (.slice (some ⟨w.heap.size, 0, none⟩) 0 0) 0 (vals z 0) rfl (hown2.alloc _) ⟨w.heap.size + 1, 0, none⟩ 3 3 [Value.int .u8 165, Value.int .u8 90, Value.int .u8 165] rfl rfl ?c2 HO.out ?c3 ?c4 ?c5 ?_)))
    case c2 =>
      have hh := H3.out (w.alloc (.cells #[] 5))
      simp only [World.size_alloc] at hh
      exact hh
    case c3 => decide
    case c4 => decide
    case c5 => simp; omega
    intro v' w1 hown1 hgrow hnil hat
    have hv : v' ≠ .slice none 0 0 := fun e => by simp [e] at hnil
    obtain ⟨g, cap, rfl, hg, ho⟩ := own_of (n := 3) hown1 (spZ_vals z 0) hv (spZ_bd z 0 hzz.out)
    have hcap := ho.caps
    have hb : Below w.heap.size w w1 := (balloc (balloc (bself w) _) _).grown hgrow (by simp; omega) (by simp [Value.ownBlock])
    unfold maxLen at hcap
    clear hown hown2 hown1 hgrow hnil hat hv
    go_wp2
    go_ret2
    exact ⟨g, cap, rfl, hg, ho, hb⟩
  · have hnews : ∀ j u, (vals z n)[j]? = some u → (w.alloc (.cells #[] 5)).cell? ((⟨b, off, spot⟩ : Addr).add j) = some u := rd_news h _
    have h1 := vals_one z n
    have hl' : (vals z n).length = n * 1 := by rw [vals_len]; omega
    have hd3 : 0 + n ≤ maxLen := by unfold maxLen; omega
    have hd4 : (0 + n) * 1 ≤ 140737488355328 := by omega
    have hd5 : w.heap.size ≤ (w.alloc (.cells #[] 5)).heap.size := by simp
    have HL := Lib.hid hl'
    clear h hA hl'
    go_enter Try.func14, Try.ntmps14
    go_wp2_with (first | (at_builtin; refine wpList_append_own_at _ rfl (.tmp 5) (.tmp 6) 43 rfl w.heap.size 5 i0 (.int .u8 0) 1 1 Try.underlying43 hi hz0 hz1 hz2 rfl (by decide) (.slice (some ⟨w.heap.size, 0, none⟩) 0 0) 0 [] rfl hown ⟨b, off, spot⟩ n c (vals z n) rfl HL.out hnews h1 hd3 hd4 hd5 ?_; intro v1 w1 hown1 hgrow1 hnil1 hat1) | (at_builtin; refine wpList_append_own_at _ rfl (.tmp 7) (.tmp 8) 43 rfl w.heap.size 5 i0 (.int .u8 0) 1 1 Try.underlying43 hi hz0 hz1 hz2 rfl (by decide) v1 (0 + n) ([] ++ vals z n) rfl (hown1.alloc _) ⟨w1.heap.size, 0, none⟩ 3 3 [Value.int .u8 165, Value.int .u8 90, Value.int .u8 165] rfl rfl ?c2 HO.out ?c3 ?c4 ?c5 ?_))
    case c2 => exact H3.out w1
    case c3 => unfold maxLen; omega
    case c4 => omega
    case c5 => have := hgrow1.size; simp at this ⊢; omega
    have hb1 : Below w.heap.size w w1 := (balloc (bself w) _).grown hgrow1 hd5 (by simp [Value.ownBlock])
    have hv1 : v1.ownBlock = some w.heap.size ∨ v1.ownBlock = some (w.heap.size + 1) := by simpa [Value.ownBlock] using hat1
    intro v' w2 hown2 hgrow2 hnil2 hat2
    have hv : v' ≠ .slice none 0 0 := hnil2
    obtain ⟨g, cap, rfl, hg, ho⟩ := own_of hown2 (spZ_vals z n) hv (spZ_bd z n hzz.out)
    have hcap := ho.caps
    have hb : Below w.heap.size w w2 := (balloc hb1 _).grown hgrow2 (by have := hb1.size; simp; omega) (by rintro k hk; rcases hv1 with e | e <;> rw [e] at hk <;> injection hk with hk <;> omega)
    unfold maxLen at hcap
    clear hown hown1 hown2 hgrow1 hgrow2 hnil1 hnil2 hat1 hat2 hv hv1 hnews h1
    go_wp2
    go_ret2
    exact ⟨g, cap, rfl, hg, ho, hb⟩

theorem same_yes (A B : Option Addr) (n c d : Nat) (z z' : Nat → Int) (w : World) (ha : Rd w A n z) (hb : Rd w B n z') (he : ∀ j, j < n → z j = z' j) (hm : n ≤ 9223372036854775807) :
    Calls Try.prog 24 #[.slice A n c, .slice B n d] w fun e w' => e = .returned (.bool true) ∧ ∃ m, w' = w.drewN m := by
  rcases Nat.eq_zero_or_pos n with rfl | hn
  · clear ha hb he
    go_enter Try.func24, Try.ntmps24
    go_wp2
    refine wp_loop_rounds 1 ?_
    rw [rounds_succ]
    go_wp2
    go_ret
    exact ⟨rfl, 0, rfl⟩
  · obtain ⟨b, off, rfl, hr⟩ := ha.row hn
    obtain ⟨b', off', rfl, hr'⟩ := hb.row hn
    have hc := hr.2.1
    have hc' := hr'.2.1
    have HE := Lib.hid he
    clear ha hb hr hr' he
    go_enter Try.func24, Try.ntmps24
    go_wp2
    go_loopw [13] (fun t wr => ∃ k m : Nat, k ≤ n ∧ t = .int .i64 k ∧ wr = w.drewN m) (fun t _ => n - (intOf t).toNat)
    case atStart => exact ⟨0, 0, by omega, rfl, rfl⟩
    case round =>
      obtain ⟨k, m, hk, rfl, rfl⟩ := hrel
      by_cases hlt : k < n
      · have g1 := hc k hlt
        have g2 := hc' k hlt
        rw [← HE.out k hlt] at g2
        generalize z k = v at *
        clear hc hc'
        go_wp2
        go_region
        go_wp2
        go_roundw
        case rel => exact ⟨k + 1, m + 1, by omega, by go_num, rfl⟩
        case measure => simp [intOf]; omega
      · obtain rfl : k = n := by omega
        go_wp2
        go_ret
        exact ⟨rfl, m, rfl⟩

theorem kept_yes (g n cap : Nat) (A : Option Addr) (c : Nat) (z : Nat → Int) (w : World) (ho : Own8 w g (n + 3) cap (spZ z n)) (ha : Rd w A n z) (hm : n ≤ 140737488351232) :
    Calls Try.prog 17 #[.slice (some ⟨g, 0, none⟩) (n + 3) cap, .slice A n c] w fun e w' => e = .returned (.bool true) ∧ ∃ m, w' = w.drewN m := by
  have HS := Lib.hid (fun d => same_yes (some ⟨g, 0, none⟩) A n d c (spZ z n) z w (ho.rd.cut n (by omega)) ha (fun j hj => spZ_in z n j hj) (by omega))
  have c0 := ho.row.2.1 n (by omega)
  have c1 := ho.row.2.1 (n + 1) (by omega)
  have c2 := ho.row.2.1 (n + 2) (by omega)
  have hcap := ho.caps
  rw [Nat.zero_add, show spZ z n n = 165 by simp [spZ]] at c0
  rw [Nat.zero_add, show spZ z n (n + 1) = 90 by simp [spZ]; omega] at c1
  rw [Nat.zero_add, show spZ z n (n + 2) = 165 by simp [spZ]; omega] at c2
  unfold maxLen at hcap
  clear ho ha
  go_enter Try.func17, Try.ntmps17
  go_wp2_with fail
  refine (HS.out _).mono ?_
  rintro e w' ⟨rfl, m, rfl⟩
  go_wp2
  go_ret
  exact ⟨rfl, m, rfl⟩
end Go.Proofs.Ytahflakanbhapaa
