/- octet.Put and the document's Put, Bytes and Number; octet.Num's errors and the document's Num. Each theorem states its conditions. -/
import Derived.Test.YtigkmcbkckfhbaaNum
import Derived.Test.YtigkmcbkckfhbaaMem
import Derived.Laws.MakeOwn
namespace Go.Proofs.Ytigkmcbkckfhbaa
open Go.RowKit
set_option linter.unusedVariables false

/-- so many noughts -/
def zer (k : Nat) : Array Value := madeCells (Value.cells (.int .u8 0)) (k * 1)
theorem make8 (k : Nat) (hk : k ≤ 140737488351232) (W : World) :
    (Instr.makeSlice 35 (.int .i64 (k : Int)) (.int .i64 (k : Int))).run Try.prog W = .ok (.slice (some ⟨W.heap.size, 0, none⟩) k k) (W.alloc (.cells (zer k) 5)) := by
  obtain ⟨i0, hi, hz0, hz1, hz2⟩ := info_parts info_u8
  have h := run_make (P := Try.prog) W 35 5 i0 (.int .u8 0) Try.underlying35 hi hz0 .i64 .i64 k k (by omega) (by omega) (by rw [hz2]; omega) (by omega)
  simp only [Int.toNat_natCast, hz1] at h
  exact h
theorem zer_size (k : Nat) : (zer k).size = k := by unfold zer; rw [size_madeCells]; omega
theorem zer_at (k j : Nat) (h : j < k) : (zer k)[j]? = some (.int .u8 0) := by
  simp [zer, madeCells, Value.cells, h, Nat.mod_one]
theorem zer_own (W : World) (k : Nat) (hk : k ≤ maxLen) : Own8 (W.alloc (.cells (zer k) 5)) W.heap.size k k (fun _ => 0) :=
  ⟨⟨zer k, heap_alloc_new W _, Nat.le_refl _, hk, zer_size k, fun j hj => zer_at k j hj⟩, fun _ => ⟨Int.le_refl 0, show (0 : Int) ≤ 255 by decide⟩⟩

/-- what is left behind i bytes -/
def qN (N i : Nat) : Nat := N / 256 ^ i
theorem qN_0 (N : Nat) : qN N 0 = N := by simp [qN]
theorem qN_s (N i : Nat) : qN N (i + 1) = qN N i / 256 := by unfold qN; rw [Nat.pow_succ, Nat.div_div_eq_div_mul]
theorem qN_le (N i : Nat) : qN N i ≤ N := Nat.div_le_self _ _
/-- the bytes of a number -/
def putZ (N k : Nat) : Nat → Int := fun j => ((qN N (k - 1 - j) % 256 : Nat) : Int)
theorem putZ_bd (N k : Nat) : ∀ j, 0 ≤ putZ N k j ∧ putZ N k j ≤ 255 := fun j => by unfold putZ; omega
/-- the last i of them are laid -/
def partZ (N k i : Nat) : Nat → Int := fun j => if k ≤ j + i then putZ N k j else 0
theorem partZ_0 (N k : Nat) (j : Nat) (h : j < k) : partZ N k 0 j = 0 := by unfold partZ; rw [if_neg (by omega)]
theorem partZ_all (N k : Nat) : partZ N k k = putZ N k := by funext j; unfold partZ; rw [if_pos (by omega)]
theorem partZ_s (N k i : Nat) (h : i < k) : upd (partZ N k i) (k - 1 - i) ((qN N i % 256 : Nat) : Int) = partZ N k (i + 1) := by
  funext j
  unfold upd partZ
  by_cases e : j = k - 1 - i
  · rw [if_pos e, if_pos (by omega)]
    unfold putZ
    rw [show k - 1 - j = i by omega]
  · rw [if_neg e]
    by_cases h2 : k ≤ j + i
    · rw [if_pos h2, if_pos (by omega)]
    · rw [if_neg h2, if_neg (by omega)]
theorem num_part (N k m : Nat) (h : m ≤ k) : numZ (putZ N k) 0 m = ((qN N (k - m) % 256 ^ m : Nat) : Int) := by
  induction m with
  | zero => simp [numZ, Nat.mod_one]
  | succ m ih =>
    show numZ (putZ N k) 0 m * 256 + putZ N k (0 + m) = _
    rw [ih (by omega), Nat.zero_add]
    unfold putZ
    rw [show k - m = (k - (m + 1)) + 1 by omega, qN_s, show k - 1 - m = k - (m + 1) by omega, Nat.pow_succ, Nat.mul_comm (256 ^ m) 256, Nat.mod_mul]
    omega
theorem num_put (N k : Nat) : numZ (putZ N k) 0 k = ((N % 256 ^ k : Nat) : Int) := by
  rw [num_part N k k (Nat.le_refl _), Nat.sub_self, qN_0]
theorem put_fits (N k : Nat) (h : qN N k = 0) : N % 256 ^ k = N := by
  unfold qN at h
  have hp : 0 < 256 ^ k := Nat.pow_pos (by omega)
  exact Nat.mod_eq_of_lt ((Nat.div_eq_zero_iff_lt hp).1 h)
theorem put_fits' (N k : Nat) (h : qN N k ≠ 0) : N % 256 ^ k ≠ N := by
  unfold qN at h
  intro e
  have hp : 0 < 256 ^ k := Nat.pow_pos (by omega)
  exact h ((Nat.div_eq_zero_iff_lt hp).2 (by rw [← e]; exact Nat.mod_lt _ hp))

def PutPost (w : World) (N k : Nat) (e : Ending) (w' : World) : Prop :=
  (if qN N k = 0 then ∃ g, e = .returned (.tuple #[.slice (some ⟨g, 0, none⟩) k k, .int .i64 0]) ∧ w.heap.size ≤ g ∧ Own8 w' g k k (putZ N k)
    else e = .returned (.tuple #[.slice none 0 0, .int .i64 4])) ∧ Below w.heap.size w w'

theorem own_store {w w0 : World} {g k i : Nat} {z z' : Nat → Int} {v : Int} (h : Own8 w g k k z) (hi : i < k) (hv : 0 ≤ v ∧ v ≤ 255) (hz : upd z i v = z') {B : Nat} (hb : Below B w0 w) (hB : B ≤ g) :
    Own8 (w.setCell ⟨g, i, none⟩ (.int .u8 v)) g k k z' ∧ Below B w0 (w.setCell ⟨g, i, none⟩ (.int .u8 v)) := by
  subst hz
  exact ⟨h.put i hi v hv, hb.setCell hB _⟩

theorem part_start (w : World) (N k : Nat) (hk8 : k ≤ 8) : Own8 (w.alloc (.cells (zer k) 5)) w.heap.size k k (partZ N k 0) := by
  have h := zer_own w k (by simp only [maxLen]; omega)
  refine ⟨?_, fun j => ?_⟩
  · obtain ⟨⟨cur, h1, h2, h3, h4, h5⟩, _⟩ := h
    exact ⟨cur, h1, h2, h3, h4, fun j hj => by rw [partZ_0 N k j hj]; exact h5 j hj⟩
  · unfold partZ; split
    · exact putZ_bd N k j
    · exact ⟨Int.le_refl 0, by decide⟩

theorem put_any (N k : Nat) (w : World) (hN : N ≤ 18446744073709551615) (hk1 : 1 ≤ k) (hk8 : k ≤ 8) :
    Calls Try.prog 70 #[.int .u64 N, .int .i64 k] w (PutPost w N k) := by
  have hmk := make8 k (by omega)
  have hk9 : ¬ (8 : Int) < k := by omega
  have hk0 : ¬ (k : Int) < 1 := by omega
  go_enter Try.func70, Try.ntmps70
  go_wp2
  go_loopw [0, 17] (fun q t wr => ∃ i : Nat, i ≤ k ∧ t = .int .i64 i ∧ q = .int .u64 (qN N i : Nat) ∧ Own8 wr w.heap.size k k (partZ N k i) ∧ Below w.heap.size w wr) (fun _ t _ => k - (intOf t).toNat)
  case atStart => exact ⟨0, Nat.zero_le _, rfl, by rw [qN_0], part_start w N k hk8, (bself w).alloc (Nat.le_refl _) _⟩
  case round =>
    obtain ⟨i, hi, rfl, rfl, ho, hb⟩ := hrel
    by_cases hlt : i < k
    · obtain ⟨j, hj1, hj2⟩ : ∃ j : Nat, (k : Int) - 1 - i = j ∧ j = k - 1 - i := ⟨k - 1 - i, by omega, rfl⟩
      have cj := own_at ho j (by omega)
      have fj := ho.free j
      have hs := Lib.hid (qN_s N i)
      have hq := qN_le N i
      have hp := Lib.hid (partZ_s N k i hlt)
      have HJ := Lib.hid hj2
      have HO := Lib.hid ho
      have hj3 : j < k := by omega
      clear hj2 ho
      generalize qN N i = q at *
      have hq256 : ((q % 256 : Nat) : Int) = (q : Int) % 256 := by omega
      have hst := Lib.hid (own_store (v := (q : Int) % 256) (z' := partZ N k (i + 1)) HO.out hj3 (by omega) (by rw [HJ.out, ← hq256]; exact hp.out) hb (Nat.le_refl _))
      clear hq256
      go_wp2
      go_roundw
      case rel => exact ⟨i + 1, by omega, by go_num, by rw [hs.out]; go_num, hst.out.1, hst.out.2⟩
      case measure => simp [intOf]; omega
    · obtain rfl : i = k := by omega
      rw [partZ_all] at ho
      by_cases h0 : qN N i = 0
      · have t0 : (((qN N i : Nat) : Int) != 0) = false := by simp [h0]
        have H0 := Lib.hid h0
        clear h0
        go_wp2
        go_ret2
        exact ⟨by rw [if_pos H0.out]; exact ⟨_, rfl, Nat.le_refl _, ho⟩, hb⟩
      · have t0 : (((qN N i : Nat) : Int) != 0) = true := by simp; omega
        have H0 := Lib.hid h0
        clear h0
        go_wp2
        go_ret2
        exact ⟨by rw [if_neg H0.out]; rfl, hb⟩

theorem put_arg (n k : Int) (w : World) (h : k < 1 ∨ 8 < k) :
    Calls Try.prog 70 #[.int .u64 n, .int .i64 k] w fun e w' => e = .returned (.tuple #[.slice none 0 0, .int .i64 1]) ∧ w = w' := by
  rcases h with h | h
  · go_enter Try.func70, Try.ntmps70
    go_wp2
    go_ret2
    exact ⟨rfl, rfl⟩
  · have h1 : ¬ k < 1 := by omega
    go_enter Try.func70, Try.ntmps70
    go_wp2
    go_ret2
    exact ⟨rfl, rfl⟩

def BytesPost (w : World) (N k : Nat) (e : Ending) (w' : World) : Prop :=
  ∃ g, e = .returned (.slice (some ⟨g, 0, none⟩) k k) ∧ w.heap.size ≤ g ∧ Own8 w' g k k (putZ N k) ∧ Below w.heap.size w w'

theorem bytes_any (N k : Nat) (w : World) (hN : N ≤ 18446744073709551615) (hk1 : 1 ≤ k) (hk8 : k ≤ 8) :
    Calls Try.prog 64 #[.int .u64 N, .int .i64 k] w (BytesPost w N k) := by
  have hmk := make8 k (by omega)
  go_enter Try.func64, Try.ntmps64
  go_wp2
  go_loopw [0, 11] (fun q t wr => ∃ i : Nat, i ≤ k ∧ t = .int .i64 i ∧ q = .int .u64 (qN N i : Nat) ∧ Own8 wr w.heap.size k k (partZ N k i) ∧ Below w.heap.size w wr) (fun _ t _ => k - (intOf t).toNat)
  case atStart => exact ⟨0, Nat.zero_le _, rfl, by rw [qN_0], part_start w N k hk8, (bself w).alloc (Nat.le_refl _) _⟩
  case round =>
    obtain ⟨i, hi, rfl, rfl, ho, hb⟩ := hrel
    by_cases hlt : i < k
    · obtain ⟨j, hj1, hj2⟩ : ∃ j : Nat, (k : Int) - 1 - i = j ∧ j = k - 1 - i := ⟨k - 1 - i, by omega, rfl⟩
      have cj := own_at ho j (by omega)
      have fj := ho.free j
      have hs := Lib.hid (qN_s N i)
      have hq := qN_le N i
      have hp := Lib.hid (partZ_s N k i hlt)
      have HJ := Lib.hid hj2
      have HO := Lib.hid ho
      have hj3 : j < k := by omega
      clear hj2 ho
      generalize qN N i = q at *
      have hq256 : ((q % 256 : Nat) : Int) = (q : Int) % 256 := by omega
      have hst := Lib.hid (own_store (v := (q : Int) % 256) (z' := partZ N k (i + 1)) HO.out hj3 (by omega) (by rw [HJ.out, ← hq256]; exact hp.out) hb (Nat.le_refl _))
      clear hq256
      go_wp2
      go_roundw
      case rel => exact ⟨i + 1, by omega, by go_num, by rw [hs.out]; go_num, hst.out.1, hst.out.2⟩
      case measure => simp [intOf]; omega
    · obtain rfl : i = k := by omega
      rw [partZ_all] at ho
      go_wp2
      go_ret
      exact ⟨_, rfl, Nat.le_refl _, ho, hb⟩

theorem number_any (b off n c : Nat) (z : Nat → Int) (w : World) (hr : Row8 w b off n z) (hn : n ≤ 8) :
    Calls Try.prog 49 #[.slice (some ⟨b, off, none⟩) n c] w fun e w' => e = .returned (.int .u64 (numZ z 0 n)) ∧ w = w' := by
  have hz := hr.2.2
  have hc := hr.2.1
  clear hr
  go_enter Try.func49, Try.ntmps49
  go_wp2
  go_loop [3, 4] (fun v t => ∃ i : Nat, i ≤ n ∧ t = .int .i64 i ∧ v = .int .u64 (numZ z 0 i)) (fun _ t => n - (intOf t).toNat)
  case atStart => exact ⟨0, Nat.zero_le _, rfl, rfl⟩
  case round =>
    obtain ⟨i, hi, rfl, rfl⟩ := hrel
    by_cases hlt : i < n
    · have ci := hc i hlt
      have hb := hz i
      have h56 := numZ_56 z 0 i (by omega) hz
      have hs : Hid (numZ z 0 (i + 1) = numZ z 0 i * 256 + z i) := Lib.hid (by show numZ z 0 i * 256 + z (0 + i) = _; rw [Nat.zero_add])
      go_wp2
      go_round
      case rel => exact ⟨i + 1, by omega, by go_num, by rw [hs.out]⟩
      case measure => simp [intOf]; omega
    · obtain rfl : i = n := by omega
      go_wp2
      go_ret
      exact ⟨rfl, rfl⟩

theorem num_arg (A : Option Addr) (n c : Nat) (i k : Int) (w : World) (h : k < 1 ∨ 8 < k ∨ i < 0) :
    Calls Try.prog 71 #[.slice A n c, .int .i64 i, .int .i64 k] w fun e w' => e = .returned (.tuple #[.int .u64 0, .int .i64 1]) ∧ w = w' := by
  by_cases h1 : k < 1
  · go_enter Try.func71, Try.ntmps71
    go_wp2
    go_ret2
    exact ⟨rfl, rfl⟩
  · by_cases h2 : 8 < k
    · go_enter Try.func71, Try.ntmps71
      go_wp2
      go_ret2
      exact ⟨rfl, rfl⟩
    · have h3 : i < 0 := by omega
      go_enter Try.func71, Try.ntmps71
      go_wp2
      go_ret2
      exact ⟨rfl, rfl⟩
theorem num_form (A : Option Addr) (n c : Nat) (i k : Int) (w : World) (h1 : 1 ≤ k) (h2 : k ≤ 8) (h3 : 0 ≤ i) (h : (n : Int) - k < i) (hn : n ≤ 140737488351232) :
    Calls Try.prog 71 #[.slice A n c, .int .i64 i, .int .i64 k] w fun e w' => e = .returned (.tuple #[.int .u64 0, .int .i64 3]) ∧ w = w' := by
  go_enter Try.func71, Try.ntmps71
  go_wp2
  go_ret2
  exact ⟨rfl, rfl⟩
theorem numZ_shift (z : Nat → Int) (s k : Nat) : numZ (fun j => z (s + j)) 0 k = numZ z s k := by
  induction k with
  | zero => rfl
  | succ k ih => simp only [numZ, ih, Nat.zero_add]

end Go.Proofs.Ytigkmcbkckfhbaa
