/- The order of IDs is that of their numbers; the library's sort at IDs. Each theorem states its conditions. -/
import Derived.Test.YteamnibgeobcbaaJOp
import Derived.Test.YteamnibgeobcbaaIPlain
import Derived.Test.YteamnibgeobcbaaShelf
import Derived.Lib.BytesEntry
import Derived.Lib.Bytealg
import Derived.Deep.DeepCutAuto
import Derived.Shelf.GgSortFunc.RowK
import Derived.Sort.Grow
import Derived.Sort.Statements
namespace Go.Proofs.Yteamnibgeobcbaa
open Go.RowKit Go.Sort
set_option linter.unusedVariables false

def syC (z : Nat → Int) : Array Value := #[.int .u8 (z 0), .int .u8 (z 1), .int .u8 (z 2), .int .u8 (z 3), .int .u8 (z 4), .int .u8 (z 5)]
/-- the order of two numbers -/
def cmp3 (a b : Int) : Int := if a < b then -1 else if b < a then 1 else 0
theorem cmp3_lt (a b : Int) : decide (0 < cmp3 a b) = decide (b < a) := by
  unfold cmp3
  by_cases h1 : a < b
  · rw [if_pos h1]; simp; omega
  · rw [if_neg h1]
    by_cases h2 : b < a
    · rw [if_pos h2]; simp [h2]
    · rw [if_neg h2]; simp [h2]
def lst6 (z : Nat → Int) : List Int := [z 0, z 1, z 2, z 3, z 4, z 5]
theorem u8_lt {a b : Int} (ha : 0 ≤ a ∧ a ≤ 255) (hb : 0 ≤ b ∧ b ≤ 255) : (a.toNat.toUInt8 < b.toNat.toUInt8) ↔ a < b := by
  rw [UInt8.lt_iff_toNat_lt]
  simp only [Nat.toUInt8, UInt8.toNat_ofNat']
  omega
def fold6 : Int → List Int → Int
  | p, [] => p
  | p, x :: xs => fold6 (p * 256 + x) xs
theorem fold6_lt : ∀ (xs ys : List Int) (p q : Int), xs.length = ys.length → (∀ x ∈ xs, 0 ≤ x ∧ x ≤ 255) → (∀ x ∈ ys, 0 ≤ x ∧ x ≤ 255) → p < q → fold6 p xs < fold6 q ys
  | [], [], p, q, _, _, _, h => h
  | [], _ :: _, _, _, h, _, _, _ => by simp at h
  | _ :: _, [], _, _, h, _, _, _ => by simp at h
  | x :: xs, y :: ys, p, q, hl, hx, hy, h => by
    have a := hx x (by simp)
    have b := hy y (by simp)
    exact fold6_lt xs ys _ _ (by simpa using hl) (fun z hz => hx z (by simp [hz])) (fun z hz => hy z (by simp [hz])) (by omega)
theorem cmp_fold : ∀ (xs ys : List Int) (p : Int), xs.length = ys.length → (∀ x ∈ xs, 0 ≤ x ∧ x ≤ 255) → (∀ x ∈ ys, 0 ≤ x ∧ x ≤ 255) → Lib.compareBytes (Lib.bytesOf xs) (Lib.bytesOf ys) = cmp3 (fold6 p xs) (fold6 p ys)
  | [], [], p, _, _, _ => by simp [Lib.bytesOf, Lib.compareBytes, fold6, cmp3]
  | [], _ :: _, _, h, _, _ => by simp at h
  | _ :: _, [], _, h, _, _ => by simp at h
  | x :: xs, y :: ys, p, hl, hx, hy => by
    have a := hx x (by simp)
    have b := hy y (by simp)
    have hl' : xs.length = ys.length := by simpa using hl
    have hx' : ∀ z ∈ xs, 0 ≤ z ∧ z ≤ 255 := fun z hz => hx z (by simp [hz])
    have hy' : ∀ z ∈ ys, 0 ≤ z ∧ z ≤ 255 := fun z hz => hy z (by simp [hz])
    show (if x.toNat.toUInt8 < y.toNat.toUInt8 then (-1 : Int) else if y.toNat.toUInt8 < x.toNat.toUInt8 then 1 else Lib.compareBytes (Lib.bytesOf xs) (Lib.bytesOf ys)) = _
    simp only [u8_lt a b, u8_lt b a, fold6]
    by_cases h1 : x < y
    · rw [if_pos h1]
      have := fold6_lt xs ys (p * 256 + x) (p * 256 + y) hl' hx' hy' (by omega)
      unfold cmp3; rw [if_pos this]
    · rw [if_neg h1]
      by_cases h2 : y < x
      · rw [if_pos h2]
        have := fold6_lt ys xs (p * 256 + y) (p * 256 + x) hl'.symm hy' hx' (by omega)
        unfold cmp3; rw [if_neg (by omega), if_pos this]
      · rw [if_neg h2, cmp_fold xs ys (p * 256 + x) hl' hx' hy', show x = y by omega]
theorem lst6_bd {z : Nat → Int} (h : byte6 z) : ∀ x ∈ lst6 z, 0 ≤ x ∧ x ≤ 255 := by
  intro x hx
  simp only [lst6, List.mem_cons, List.not_mem_nil, or_false] at hx
  rcases hx with rfl | rfl | rfl | rfl | rfl | rfl <;> exact h _
theorem num_fold (z : Nat → Int) : numZ z 0 6 = fold6 0 (lst6 z) := by
  simp only [numZ, fold6, lst6, Nat.zero_add]
theorem cmp6_bytes {y z : Nat → Int} (hy : byte6 y) (hz : byte6 z) : Lib.compareBytes (Lib.bytesOf (lst6 y)) (Lib.bytesOf (lst6 z)) = cmp3 (numZ y 0 6) (numZ z 0 6) := by
  rw [num_fold, num_fold]
  exact cmp_fold _ _ 0 rfl (lst6_bd hy) (lst6_bd hz)
theorem row6_list {w : World} {b o : Nat} {z : Nat → Int} (h : w.rangeAt b o (syC z).toList) : ∀ j x, (lst6 z)[j]? = some x → w.cell? ((⟨b, o, none⟩ : Addr).add j) = some (.int .u8 x) := by
  intro j x hj
  rw [add_none]
  match j, hj with
  | 0, hj => simp [lst6] at hj; subst hj; exact h 0 _ rfl
  | 1, hj => simp [lst6] at hj; subst hj; exact h 1 _ rfl
  | 2, hj => simp [lst6] at hj; subst hj; exact h 2 _ rfl
  | 3, hj => simp [lst6] at hj; subst hj; exact h 3 _ rfl
  | 4, hj => simp [lst6] at hj; subst hj; exact h 4 _ rfl
  | 5, hj => simp [lst6] at hj; subst hj; exact h 5 _ rfl
theorem run_cmp6 (b1 o1 c1 b2 o2 c2 : Nat) (y z : Nat → Int) (w : World) (hy : w.rangeAt b1 o1 (syC y).toList) (hz : w.rangeAt b2 o2 (syC z).toList) (ky : byte6 y) (kz : byte6 z) :
    (Extern.BytealgCompare.compare #[.slice (some ⟨b1, o1, none⟩) 6 c1, .slice (some ⟨b2, o2, none⟩) 6 c2]).run Try.prog w = .ok (.int .i64 (cmp3 (numZ y 0 6) (numZ z 0 6))) w := by
  change Sem.run Try.prog (do pure (goInt (Extern.BytealgCompare.cmp (← Extern.Bytes.loadBytes ⟨b1, o1, none⟩ (lst6 y).length .empty) (← Extern.Bytes.loadBytes ⟨b2, o2, none⟩ (lst6 z).length .empty)))) w = _
  simp only [Sem.run_bind, Lib.run_loadBytesX w (lst6 y) ⟨b1, o1, none⟩ .empty (row6_list hy), Lib.run_loadBytesX w (lst6 z) ⟨b2, o2, none⟩ .empty (row6_list hz), Result.andThen, Sem.run_pure]
  rw [Lib.cmp_eq, ← cmp6_bytes ky kz]
  rfl
theorem cmp6_any (b1 o1 c1 b2 o2 c2 : Nat) (y z : Nat → Int) (w : World) (hy : w.rangeAt b1 o1 (syC y).toList) (hz : w.rangeAt b2 o2 (syC z).toList) (ky : byte6 y) (kz : byte6 z) :
    Calls Try.prog 37 #[.slice (some ⟨b1, o1, none⟩) 6 c1, .slice (some ⟨b2, o2, none⟩) 6 c2] w fun e w' => e = .returned (.int .i64 (cmp3 (numZ y 0 6) (numZ z 0 6))) ∧ w' = w := by
  have hrun := run_cmp6 b1 o1 c1 b2 o2 c2 y z w hy hz ky kz
  go_enter Try.func37, Try.ntmps37
  go_wp2
  rw [run_callFunc_extern Try.func42 (by kernel_rfl) (by kernel_rfl) (by kernel_rfl) (e := Extern.BytealgCompare.compare) (by kernel_rfl), hrun]
  simp only [Result.andThen]
  rw [Oper.upon_value]
  go_wp2
  go_ret
  exact ⟨rfl, rfl⟩

theorem isNaN_any (x : Int) (w : World) : Calls Try.prog 43 #[.int .u8 x] w fun e w' => e = .returned (.bool false) ∧ w' = w := by
  go_enter Try.func43, Try.ntmps43
  go_wp2_with fail
  go_ret
  exact ⟨by simp, rfl⟩
theorem cmpb_any (x y : Int) (w : World) : Calls Try.prog 38 #[.int .u8 x, .int .u8 y] w fun e w' => e = .returned (.int .i64 (cmp3 x y)) ∧ w' = w := by
  have hn := fun x W => isNaN_any x W
  go_enter Try.func38, Try.ntmps38
  by_cases h1 : x < y
  · have e : cmp3 x y = -1 := by unfold cmp3; rw [if_pos h1]
    rw [e]; clear e
    go_wp2_with (first | (go_at_call 43; refine (hn _ _).mono ?_; rintro e w' ⟨rfl, rfl⟩) | go_in)
    go_ret
    exact ⟨rfl, rfl⟩
  · by_cases h2 : y < x
    · have e : cmp3 x y = 1 := by unfold cmp3; rw [if_neg h1, if_pos h2]
      rw [e]; clear e
      go_wp2_with (first | (go_at_call 43; refine (hn _ _).mono ?_; rintro e w' ⟨rfl, rfl⟩) | go_in)
      go_ret
      exact ⟨rfl, rfl⟩
    · have e : cmp3 x y = 0 := by unfold cmp3; rw [if_neg h1, if_neg h2]
      rw [e]; clear e
      go_wp2_with (first | (go_at_call 43; refine (hn _ _).mono ?_; rintro e w' ⟨rfl, rfl⟩) | go_in)
      go_ret
      exact ⟨rfl, rfl⟩
/-- the first that isn't nought -/
def or3 (a b c : Int) : Int := if a ≠ 0 then a else if b ≠ 0 then b else c
set_option maxHeartbeats 4000000 in
set_option maxRecDepth 100000 in
theorem or_any (g : Nat) (a b c : Int) (w : World) (hg : Blk 3 w g #[.int .i64 a, .int .i64 b, .int .i64 c]) : Calls Try.prog 36 #[.slice (some ⟨g, 0, none⟩) 3 3] w fun e w' => e = .returned (.int .i64 (or3 a b c)) ∧ w' = w := by
  have c0 : w.cell? ⟨g, 0, none⟩ = some (.int .i64 a) := (hg.cell 0).trans rfl
  have c1 : w.cell? ⟨g, 1, none⟩ = some (.int .i64 b) := (hg.cell 1).trans rfl
  have c2 : w.cell? ⟨g, 2, none⟩ = some (.int .i64 c) := (hg.cell 2).trans rfl
  clear hg
  go_enter Try.func36, Try.ntmps36
  go_wp2_with fail
  by_cases ha : a = 0
  · subst ha
    by_cases hb : b = 0
    · subst hb
      by_cases hc : c = 0
      · subst hc
        refine wp_loop_rounds 4 ?_
        rw [rounds_succ]
        go_wp2
        rw [rounds_succ]
        go_wp2
        rw [rounds_succ]
        go_wp2
        rw [rounds_succ]
        go_wp2
        go_ret
        exact ⟨rfl, rfl⟩
      · refine wp_loop_rounds 3 ?_
        rw [rounds_succ]
        go_wp2
        rw [rounds_succ]
        go_wp2
        rw [rounds_succ]
        go_wp2
        refine bodyPost_ret (results_tmp rfl _ _ _) rfl ?_
        exact ⟨rfl, rfl⟩
    · refine wp_loop_rounds 2 ?_
      rw [rounds_succ]
      go_wp2
      rw [rounds_succ]
      go_wp2
      refine bodyPost_ret (results_tmp rfl _ _ _) rfl ?_
      exact ⟨by simp [or3, hb], rfl⟩
  · refine wp_loop_rounds 1 ?_
    rw [rounds_succ]
    go_wp2
    refine bodyPost_ret (results_tmp rfl _ _ _) rfl ?_
    exact ⟨by simp [or3, ha], rfl⟩
theorem num_hi {n : Nat} (h : IdOk n) : numZ (dg n) 0 6 = ((n / 65536 : Nat) : Int) := by
  unfold IdOk at h
  simp only [numZ, dg, pw, Nat.zero_add]
  omega
theorem or_cmp {x y : Nat} (hx : IdOk x) (hy : IdOk y) : or3 (cmp3 (numZ (dg x) 0 6) (numZ (dg y) 0 6)) (cmp3 (dg x 6) (dg y 6)) (cmp3 (dg x 7) (dg y 7)) = cmp3 (x : Int) (y : Int) := by
  rw [num_hi hx, num_hi hy]
  unfold IdOk at hx hy
  simp only [dg, pw]
  unfold or3 cmp3
  repeat' split
  all_goals first | rfl | omega
theorem Blk.sys6 {w : World} {g n : Nat} (h : Blk 28 w g (idC n)) : w.rangeAt g 0 (syC (dg n)).toList := h.range (six ⟨rfl, rfl, rfl, rfl, rfl, rfl⟩)
end Go.Proofs.Yteamnibgeobcbaa
