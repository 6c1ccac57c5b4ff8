/- The numbers of the text "10.1.0.0", read. Condition: the variable MaxLen of the library holds a number. -/
import Derived.Test.YtnllhedmkjmaiaaDoorPSix
namespace Go.Proofs.YtnllhedmkjmaiaaDoor
open Go.RowKit
set_option linter.unusedVariables false

theorem below_bytesWorld (w : World) (t : TypeId) (s : ByteArray) : Below w.heap.size w (Lib.bytesWorld w t s) := by
  exact ⟨rfl, rfl, rfl, by rw [Lib.bytesWorld_size]; omega, fun k hk => Lib.bytesWorld_at_old w t s k hk⟩

set_option maxHeartbeats 400000 in
theorem number8 (s : ByteArray) (u : Nat) (hs : s.size ≤ 1000) (h : Lib.parseUintB 8 s.data.toList = .ok u) (w : World) :
    Calls Tryd.prog 52 #[.string s, .int .i64 10, .int .i64 8] w fun e w' => e = .returned (.int .u64 u) ∧ Below w.heap.size w w' := by
  have H := Lib.hid (fun W => Tryd.strconv_ParseUint_10_at8_ok s (by omega) u h W)
  clear h
  go_enter Tryd.func52, Tryd.ntmps52
  go_wp2_with fail
  refine (H.out _).mono ?_
  rintro e w' ⟨rfl, hw⟩
  have hb : Below w.heap.size w w' := by
    rcases hw with rfl | rfl
    · exact bself _
    · exact below_bytesWorld _ _ _
  clear hw
  go_wp2
  go_ret
  exact ⟨rfl, hb⟩

def exS : ByteArray := ⟨#[49, 48, 46, 49, 46, 48, 46, 48]⟩
def exP : Nat → ByteArray := fun j => if j = 0 then ⟨#[49, 48]⟩ else if j = 1 then ⟨#[49]⟩ else ⟨#[48]⟩
def exY : Nat → Nat := fun j => if j = 0 then 10 else if j = 1 then 1 else 0
theorem exSplit : Lib.splitB ⟨#[46]⟩ 0 (min 9 (exS.size + 1) - 1) exS = [exP 0, exP 1, exP 2, exP 3] := by kernel_rfl
theorem exNum (j : Nat) (hj : j < 4) : Lib.parseUintB 8 (exP j).data.toList = .ok (exY j) := by
  rcases (by omega : j = 0 ∨ j = 1 ∨ j = 2 ∨ j = 3) with rfl | rfl | rfl | rfl <;> kernel_rfl

/-- numbers as a list's cells -/
def nums (f : Nat → Nat) : Nat → List Value
  | 0 => []
  | n + 1 => nums f n ++ [.int .u8 (f n)]
theorem nums_len (f : Nat → Nat) (n : Nat) : (nums f n).length = n := by
  induction n with
  | zero => rfl
  | succ n ih => simp [nums, ih]
theorem nums_at (f : Nat → Nat) (n j : Nat) (h : j < n) : (nums f n)[j]? = some (.int .u8 (f j)) := by
  induction n with
  | zero => omega
  | succ n ih =>
    have hl := nums_len f n
    simp only [nums]
    by_cases e : j = n
    · subst e
      rw [List.getElem?_append_right (by omega), hl]
      simp
    · rw [List.getElem?_append_left (by omega)]
      exact ih (by omega)
theorem int_one (k : IntKind) (a : Int) : ∀ u ∈ [Value.int k a], u.oneCell' = true := by
  intro u hu; simp only [List.mem_cons, List.not_mem_nil, or_false] at hu; subst hu; rfl

theorem split_ex (m : Int) (w : World) (hm : w.cell? ⟨0, 0, none⟩ = some (.int .i64 m)) :
    Calls Tryd.prog 65 #[.string exS, .string ⟨#[46]⟩, .int .i64 9] w fun e w' => e = .returned (.slice (some ⟨w.heap.size, 0, none⟩) 4 9) ∧ (∀ j, j < 4 → w'.cell? ⟨w.heap.size, j, none⟩ = some (.string (exP j))) ∧ Below w.heap.size w w' ∧ w.heap.size < w'.heap.size := by
  have HS := Tryd.strings_SplitN exS ⟨#[46]⟩ 9 m w (by decide) hm (by decide) (by decide) (by decide)
  rw [exSplit] at HS
  refine HS.mono ?_
  rintro e w' ⟨he, rfl⟩
  refine ⟨he, fun j hj => ?_, (bself w).alloc (Nat.le_refl _) _, by simp⟩
  rw [World.cell?_alloc_mark w _ _ _ j]
  rcases (by omega : j = 0 ∨ j = 1 ∨ j = 2 ∨ j = 3) with rfl | rfl | rfl | rfl <;> rfl

def RnPost (w : World) (e : Ending) (w' : World) : Prop :=
  ∃ v, e = .returned v ∧ w'.ownsRow w.heap.size 5 1 v 4 (nums exY 4) ∧ Below w.heap.size w w'

set_option maxHeartbeats 1000000 in
set_option maxRecDepth 100000 in
theorem rn_ex (m : Int) (w : World) (hm : w.cell? ⟨0, 0, none⟩ = some (.int .i64 m)) :
    Calls Tryd.prog 55 #[.string exS, .string ⟨#[46]⟩, .int .i64 10, .int .i64 1] w (RnPost w) := by
  obtain ⟨i0, hi, hz0, hz1, hz2⟩ := info_parts info_u8
  have HN := Lib.hid (fun k (hk : k < 4) W => number8 (exP k) (exY k) (by rcases (by omega : k = 0 ∨ k = 1 ∨ k = 2 ∨ k = 3) with rfl | rfl | rfl | rfl <;> decide) (exNum k hk) W)
  have he : exS.toList.isEmpty = false := by kernel_rfl
  go_enter Tryd.func55, Tryd.ntmps55
  go_wp2_with fail
  refine (split_ex m w hm).mono ?_
  rintro e w1 ⟨rfl, hc, hb1, hs1⟩
  have HC := Lib.hid hc
  clear hc
  go_wp2_with fail
  go_loopw [10, 26] (fun v i wr => ∃ k : Nat, k ≤ 4 ∧ i = .int .i64 k ∧ wr.ownsRow w1.heap.size 5 1 v k (nums exY k) ∧ Below w1.heap.size w1 wr)
    (fun _ i _ => 4 - (intOf i).toNat)
  case atStart => exact ⟨0, by omega, rfl, World.ownsRow_nil _ _ _ _, bself w1⟩
  case round =>
    obtain ⟨k, hk, rfl, hown, hb⟩ := hrel
    have hbs := hb.size
    by_cases hk4 : k < 4
    · have c : wr.cell? ⟨w.heap.size, k, none⟩ = some (.string (exP k)) := (hb.cell (by simp; omega)).trans (HC.out k hk4)
      have HO := Lib.hid hown
      have m1 : k + 1 ≤ maxLen := by unfold maxLen; omega
      have hy : (0 : Int) ≤ (exY k : Int) ∧ (exY k : Int) ≤ 255 := by rcases (by omega : k = 0 ∨ k = 1 ∨ k = 2 ∨ k = 3) with rfl | rfl | rfl | rfl <;> decide
      have hy0 := hy.1
      have hy1 := hy.2
      clear hown hy
      have HK := Lib.hid (HN.out k hk4)
      generalize hP : exP k = pk at *
      go_wp2_with fail
      refine (HK.out _).mono ?_
      rintro e w2 ⟨rfl, hb2⟩
      have hw2 := hb2.size
      have HO1 := Lib.hid (ownsRow_below HO.out hb2)
      have HB1 := Lib.hid (hb.trans (hb2.mono hbs))
      clear hb2 HO hb c
      go_wp2_with (at_builtin; refine wpList_append_own_at _ rfl (.tmp 43) (.tmp 46) 60 rfl w1.heap.size 5 i0 (.int .u8 0) 1 1 Tryd.underlying60 hi hz0 hz1 hz2 rfl (by decide) u10 k _ rfl (HO1.out.alloc _) ⟨w2.heap.size, 0, none⟩ 1 1 [.int .u8 (exY k)] rfl rfl (one_new w2 _ _) (int_one _ _) m1 (by omega) (by simp; omega) ?_; intro v3 w3 hown3 hgrow3 hnil3 hat3)
      have HB := Lib.hid ((HB1.out.alloc (by omega) _).grown hgrow3 (by simp; omega) (fun x e => (HO1.out.lt x e).1))
      clear hgrow3 hnil3 hat3
      go_wp2
      go_roundw
      case rel => exact ⟨k + 1, by omega, by go_num, hown3, HB.out⟩
      case measure => simp only [intOf]; omega
    · obtain rfl : k = 4 := by omega
      go_wp2
      go_ret
      refine ⟨_, rfl, ⟨hown.1, ?_⟩, hb1.trans (hb.mono (by omega))⟩
      rcases hown.2 with h | ⟨g, cap, cur, hv, hg, r⟩
      · exact .inl h
      · exact .inr ⟨g, cap, cur, hv, by omega, r⟩
end Go.Proofs.YtnllhedmkjmaiaaDoor
