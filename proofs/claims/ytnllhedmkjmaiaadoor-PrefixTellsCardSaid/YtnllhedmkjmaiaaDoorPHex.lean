/- The text of a number of at most sixteen bits in base 16: strconv.FormatUint. Conditions: the number is below 65536; the library's table of math/bits holds 4 at its place 15. -/
import Derived.Test.YtnllhedmkjmaiaaDoorPBits
import Derived.Test.YtnllhedmkjmaiaaDoorPFour
import Derived.Laws.Bits64b
namespace Go.Proofs.YtnllhedmkjmaiaaDoor
open Go.RowKit
set_option linter.unusedVariables false

/-- a digit of base 16 -/
def hexc (k : Nat) : UInt8 := if k < 10 then UInt8.ofNat (48 + k) else UInt8.ofNat (87 + k)
/-- a number in digits of base 16 -/
def hexD (n : Nat) : List UInt8 := if h : n < 16 then [hexc n] else hexD (n / 16) ++ [hexc (n % 16)]
termination_by n
decreasing_by omega
theorem hexD_lt {n : Nat} (h : n < 16) : hexD n = [hexc n] := by rw [hexD, dif_pos h]
theorem hexD_ge {n : Nat} (h : 16 ≤ n) : hexD n = hexD (n / 16) ++ [hexc (n % 16)] := by rw [hexD, dif_neg (by omega)]

/-- the bytes L at the end of a row of 65 -/
def Row65 (w : World) (b : Nat) (L : List UInt8) : Prop := ∃ C : Array Value, w.heap[b]? = some (.cells C 117 (0, 0)) ∧ C.size = 65 ∧ L.length ≤ 65 ∧ ∀ t, t < L.length → C[65 - L.length + t]? = some (.int .u8 ((L.getD t 0).toNat : Int))
theorem Row65.lt {w : World} {b : Nat} {L : List UInt8} (h : Row65 w b L) : b < w.heap.size := by
  obtain ⟨C, h, _⟩ := h
  exact (Array.getElem?_eq_some_iff.1 h).1
theorem Row65.cell {w : World} {b : Nat} {L : List UInt8} (h : Row65 w b L) (i : Nat) (hi : i < 65) : ∃ v, w.cell? ⟨b, i, none⟩ = some v := by
  obtain ⟨C, h, hs, _⟩ := h
  exact ⟨C[i]'(by omega), (cell_of_row w b i _ _ _ h).trans (Array.getElem?_eq_getElem (by omega))⟩
theorem Row65.free {w : World} {b : Nat} {L : List UInt8} (h : Row65 w b L) (i : Nat) : w.frozen? ⟨b, i, none⟩ = false := by
  obtain ⟨C, h, _⟩ := h
  simp [World.frozen?, h]
theorem Row65.put {w : World} {b : Nat} {L : List UInt8} (h : Row65 w b L) (i : Nat) (hi : i + 1 + L.length = 65) (d : UInt8) (v : Int) (hv : v = (d.toNat : Int)) : Row65 (w.setCell ⟨b, i, none⟩ (.int .u8 v)) b (d :: L) := by
  obtain ⟨C, h, hs, hl, hc⟩ := h
  subst hv
  refine ⟨C.setIfInBounds i (.int .u8 (d.toNat : Int)), by simp [World.setCell, Array.getElem?_modify, h], by simp [hs], by simp; omega, fun t ht => ?_⟩
  simp only [List.length_cons] at ht ⊢
  rw [Array.getElem?_setIfInBounds]
  cases t with
  | zero =>
    rw [if_pos (by omega), if_pos (by omega)]
    rfl
  | succ t =>
    rw [if_neg (by omega)]
    have := hc t (by omega)
    rw [show 65 - (L.length + 1) + (t + 1) = 65 - L.length + t by omega]
    simpa using this
theorem Row65.conv {w : World} {b : Nat} {L : List UInt8} (h : Row65 w b L) (i : Nat) (hi : i + L.length = 65) :
    (convert 60 9 (.slice (some ⟨b, i, none⟩) L.length L.length)).run Tryd.prog w = .ok (.string ⟨L.toArray⟩) w := by
  obtain ⟨C, h, hs, hl, hc⟩ := h
  refine run_convert_bytes_back w 60 9 5 ⟨b, i, none⟩ L.length L (by kernel_rfl) (by kernel_rfl) (by kernel_rfl) (fun j hj => ?_)
  rw [show ((⟨b, i, none⟩ : Addr).add j) = ⟨b, i + j, none⟩ by unfold Addr.add; split <;> simp_all, cell_of_row w b (i + j) _ _ _ h]
  have := hc j hj
  rw [show 65 - L.length + j = i + j by omega] at this
  rw [this]
  simp [List.getD, hj]
theorem row65_new (w : World) : Row65 (w.alloc (.cells Tryd.zeroCells117 117)) w.heap.size [] :=
  ⟨_, heap_alloc_new w _, by kernel_rfl, by simp, fun t ht => by simp at ht⟩

theorem and15 (u : Nat) (h : u < 65536) : bits .and .u64 (u : Int) 15 = ((u % 16 : Nat) : Int) := by
  have := bits_and_u64_nat u 15 (by omega) (by omega)
  rw [show ((15 : Nat) : Int) = 15 from rfl] at this
  rw [this, show u &&& 15 = u % 16 from Nat.and_two_pow_sub_one_eq_mod u 4]
/-- the digits, as the program's text has them -/
def digS : ByteArray := ⟨#[48, 49, 50, 51, 52, 53, 54, 55, 56, 57, 97, 98, 99, 100, 101, 102, 103, 104, 105, 106, 107, 108, 109, 110, 111, 112, 113, 114, 115, 116, 117, 118, 119, 120, 121, 122]⟩
theorem dig_at (k : Nat) (h : k < 16) : digS[k]? = some (hexc k) := by
  have : ∀ k : Fin 16, digS[k.val]? = some (hexc k.val) := by decide +kernel
  exact this ⟨k, h⟩

theorem dig_get {k : Nat} (hk : k < 16) (h : k < digS.size) : digS[k]'h = hexc k := by
  have := dig_at k hk
  rw [getElem?_pos digS k h] at this
  exact Option.some.inj this

set_option maxHeartbeats 1000000 in
set_option maxRecDepth 100000 in
theorem fbits_any (n : Nat) (hn : n < 65536) (w : World) (hs : 5 < w.heap.size) (h : w.cell? ⟨5, 15, none⟩ = some (.int .u8 4)) :
    Calls Tryd.prog 71 #[.slice none 0 0, .int .u64 n, .int .i64 16, .bool false, .bool false] w fun e w' => e = .returned (.tuple #[.slice none 0 0, .string ⟨(hexD n).toArray⟩]) ∧ Below w.heap.size w w' := by
  go_enter Tryd.func71, Tryd.ntmps71
  go_wp2_with (first | (refine (pow2 _).mono ?_; rintro e w' ⟨rfl, rfl⟩) | (refine (tz _ ((World.cell?_alloc_lt _ _ _ (by simp; omega)).trans h)).mono ?_; rintro e w' ⟨rfl, rfl⟩))
  go_loopw [1, 13] (fun u i wr => ∃ (v p : Nat) (L : List UInt8), u = .int .u64 v ∧ i = .int .i64 (p : Int) ∧ p + L.length = 65 ∧ L.length ≤ 4 ∧ hexD n = hexD v ++ L ∧ v * 16 ^ L.length ≤ n ∧ (L = [] ∨ 1 ≤ v) ∧ Row65 wr w.heap.size L ∧ Below w.heap.size w wr)
    (fun u _ _ => (intOf u).toNat)
  case atStart => exact ⟨n, 65, [], rfl, rfl, by simp, by simp, by simp, by simp, .inl rfl, row65_new w, (bself w).alloc (Nat.le_refl _) _⟩
  case round =>
    obtain ⟨v, p0, L, rfl, rfl, hp0, hL4, hD, hle, hv1, hR, hb⟩ := hrel
    obtain ⟨p, rfl⟩ : ∃ p, p0 = p + 1 := ⟨p0 - 1, by omega⟩
    have hvn : v ≤ n := Nat.le_trans (Nat.le_mul_of_pos_right v (Nat.pow_pos (by decide))) hle
    have hp64 : p < 65 := by omega
    obtain ⟨old, hold⟩ := hR.cell p hp64
    have hfree := hR.free p
    have hm : v % 16 < 16 := Nat.mod_lt _ (by decide)
    have h15 := and15 v (by omega)
    have hdig := dig_at (v % 16) hm
    have HD := Lib.hid hD
    have HR := Lib.hid hR
    clear hD hR
    by_cases h16 : 16 ≤ v
    · have hi16 : (16 : Int) ≤ (v : Int) := by omega
      go_wp2_with fail
      refine ⟨⟨v / 16, p, hexc (v % 16) :: L, by simp, rfl, by simp; omega, ?_, ?_, ?_, .inr (by omega), HR.out.put p (by omega) (hexc (v % 16)) _ ?_, hb.setCell (Nat.le_refl _) _⟩, by simp only [intOf]; omega⟩
      · have : L.length ≠ 4 := fun e => by rw [e] at hle; omega
        simp; omega
      · rw [HD.out, hexD_ge h16, List.append_assoc]; rfl
      · refine Nat.le_trans ?_ hle
        rw [List.length_cons, Nat.pow_succ, Nat.mul_comm (16 ^ L.length) 16, ← Nat.mul_assoc]
        exact Nat.mul_le_mul_right _ (Nat.div_mul_le_self v 16)
      · exact congrArg (fun b : UInt8 => (b.toNat : Int)) (dig_get hm _)
    · have hi16 : ¬ (16 : Int) ≤ (v : Int) := by omega
      have hi17 : (v : Int) < 16 := by omega
      have hv36 : (v : Int) < 36 := by omega
      have hp65 : (p : Int) ≤ 65 := by omega
      have hp66 : p ≤ 65 := by omega
      have hp67 : ¬ p = 65 := by omega
      go_wp2_with fail
      have hv16 : v < 16 := by omega
      have hrow := HR.out.put p (by omega) (hexc v) (((digS[v]'(by show v < 36; omega)).toNat : Nat) : Int) (congrArg (fun b : UInt8 => (b.toNat : Int)) (dig_get hv16 _))
      rw [show 65 - p = (hexc v :: L).length by simp; omega]
      have hconv := hrow.conv p (by simp; omega)
      unfold digS at hconv
      rw [hconv]
      have hfin : (hexD n) = hexc v :: L := by rw [HD.out, hexD_lt hv16]; rfl
      go_wp2
      go_ret2
      exact ⟨rfl, hb.setCell (Nat.le_refl _) _⟩

theorem fmtin_any (n : Nat) (hn : n < 65536) (w : World) (hs : 5 < w.heap.size) (h : w.cell? ⟨5, 15, none⟩ = some (.int .u8 4)) :
    Calls Tryd.prog 60 #[.int .u64 n, .int .i64 16] w fun e w' => e = .returned (.string ⟨(hexD n).toArray⟩) ∧ Below w.heap.size w w' := by
  go_enter Tryd.func60, Tryd.ntmps60
  go_wp2_with (refine (fbits_any n hn _ hs h).mono ?_; rintro e w' ⟨rfl, hb⟩)
  go_ret
  exact ⟨rfl, hb⟩
theorem fmt_any (n : Nat) (hn : n < 65536) (w : World) (hs : 5 < w.heap.size) (h : w.cell? ⟨5, 15, none⟩ = some (.int .u8 4)) :
    Calls Tryd.prog 47 #[.int .u64 n, .int .i64 16] w fun e w' => e = .returned (.string ⟨(hexD n).toArray⟩) ∧ Below w.heap.size w w' := by
  go_enter Tryd.func47, Tryd.ntmps47
  go_wp2_with (refine (fmtin_any n hn _ hs h).mono ?_; rintro e w' ⟨rfl, hb⟩)
  go_ret
  exact ⟨rfl, hb⟩
end Go.Proofs.YtnllhedmkjmaiaaDoor
