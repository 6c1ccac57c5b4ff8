/- The text of a name: its letters, its digits, and what is cut off it or laid behind it. Plain facts, and octet.Write's contract in these words. -/
import Derived.Test.YtbafeffmcfldoaaWrite
import Derived.Test.YtbafeffmcfldoaaParse
import Derived.Lib.Strings
import Derived.ChangeKeysEq
import Derived.Laws.StructEq
import Derived.Test.YtbafeffmcfldoaaMem
import Derived.Laws.Rows
namespace Go.Proofs.Ytbafeffmcfldoaa
open Go.RowKit
set_option linter.unusedVariables false

def nameS (b0 b1 b2 b3 b4 b5 : Int) : ByteArray := strOfNums (nameI b0 b1 b2 b3 b4 b5)
theorem nameS_size (b0 b1 b2 b3 b4 b5 : Int) : (nameS b0 b1 b2 b3 b4 b5).size = 14 := by unfold nameS; rw [strOfNums_size]; rfl

theorem write_name (b0 b1 b2 b3 b4 b5 : Int) (w : World)
    (h0 : 0 ≤ b0 ∧ b0 ≤ 255) (h1 : 0 ≤ b1 ∧ b1 ≤ 255) (h2 : 0 ≤ b2 ∧ b2 ≤ 255) (h3 : 0 ≤ b3 ∧ b3 ≤ 255) (h4 : 0 ≤ b4 ∧ b4 ≤ 255) (h5 : 0 ≤ b5 ∧ b5 ≤ 255) :
    Calls Try.prog 30 #[.agg #[.int .u8 b0, .int .u8 b1, .int .u8 b2, .int .u8 b3, .int .u8 b4, .int .u8 b5]] w fun e w' => e = .returned (.string (nameS b0 b1 b2 b3 b4 b5)) ∧ Below w.heap.size w w' :=
  write_any b0 b1 b2 b3 b4 b5 w h0 h1 h2 h3 h4 h5

theorem chI_nums (xs : List Int) (i : Nat) (h : i < xs.length) (hb : 0 ≤ xs[i] ∧ xs[i] ≤ 255) : chI (strOfNums xs) i = xs[i] := by
  have hs : i < (strOfNums xs).size := by rw [strOfNums_size]; exact h
  rw [← chI_at _ _ hs]
  have : (strOfNums xs)[i] = UInt8.ofNat xs[i].toNat := by
    simp [strOfNums, ByteArray.getElem_eq_getElem_data]
  rw [this]
  simp only [UInt8.toNat_ofNat']
  omega

theorem hxI_bd (k : Int) (h : 0 ≤ k ∧ k ≤ 15) : 0 ≤ hxI k ∧ hxI k ≤ 255 ∧ digI (hxI k) = k := by
  unfold hxI digI
  split
  · rw [if_pos (by omega)]; omega
  · rw [if_neg (by omega), if_pos (by omega)]; omega

/-- what the letters of the name's text count -/
def digN (b0 b1 b2 b3 b4 b5 : Int) : List Int := [b0 / 16, b0 % 16, b1 / 16, b1 % 16, -1, b2 / 16, b2 % 16, b3 / 16, b3 % 16, -1, b4 / 16, b4 % 16, b5 / 16, b5 % 16]

section
variable (b0 b1 b2 b3 b4 b5 : Int)
    (h0 : 0 ≤ b0 ∧ b0 ≤ 255) (h1 : 0 ≤ b1 ∧ b1 ≤ 255) (h2 : 0 ≤ b2 ∧ b2 ≤ 255) (h3 : 0 ≤ b3 ∧ b3 ≤ 255) (h4 : 0 ≤ b4 ∧ b4 ≤ 255) (h5 : 0 ≤ b5 ∧ b5 ≤ 255)
include h0 h1 h2 h3 h4 h5
theorem nameS_dig (i : Nat) (hi : i < 14) : (i = 4 ∨ i = 9) ∧ chI (nameS b0 b1 b2 b3 b4 b5) i = 46 ∨ ¬ (i = 4 ∨ i = 9) ∧ digI (chI (nameS b0 b1 b2 b3 b4 b5) i) = (digN b0 b1 b2 b3 b4 b5).getD i 0 ∧ 0 ≤ (digN b0 b1 b2 b3 b4 b5).getD i 0 := by
  unfold nameS
  have q : ∀ k, 0 ≤ k ∧ k ≤ 15 → ∀ (hx : i < (nameI b0 b1 b2 b3 b4 b5).length), (nameI b0 b1 b2 b3 b4 b5)[i] = hxI k → digI (chI (strOfNums (nameI b0 b1 b2 b3 b4 b5)) i) = k := by
    intro k hk hx e
    obtain ⟨q1, q2, q3⟩ := hxI_bd k hk
    rw [chI_nums _ i hx (by rw [e]; exact ⟨q1, q2⟩), e, q3]
  rcases (by omega : i = 0 ∨ i = 1 ∨ i = 2 ∨ i = 3 ∨ i = 4 ∨ i = 5 ∨ i = 6 ∨ i = 7 ∨ i = 8 ∨ i = 9 ∨ i = 10 ∨ i = 11 ∨ i = 12 ∨ i = 13) with rfl | rfl | rfl | rfl | rfl | rfl | rfl | rfl | rfl | rfl | rfl | rfl | rfl | rfl
  case' inr.inr.inr.inr.inl => exact .inl ⟨by omega, chI_nums _ 4 (by simp [nameI]) (by simp [nameI])⟩
  case' inr.inr.inr.inr.inr.inr.inr.inr.inr.inl => exact .inl ⟨by omega, chI_nums _ 9 (by simp [nameI]) (by simp [nameI])⟩
  all_goals exact .inr ⟨by omega, q _ (by simp [digN]; omega) (by simp [nameI]) rfl, by simp [digN]; omega⟩
theorem nameS_ok (i : Nat) (hi : i < 14) : okAt (nameS b0 b1 b2 b3 b4 b5) i := by
  refine ⟨by rw [nameS_size]; exact hi, ?_⟩
  rcases nameS_dig b0 b1 b2 b3 b4 b5 h0 h1 h2 h3 h4 h5 i hi with ⟨h, e⟩ | ⟨h, e, g⟩
  · rw [if_pos h]; exact e
  · rw [if_neg h, e]; exact g
end

theorem chI_extract (s : ByteArray) (k i : Nat) (h : i < k) (hk : k ≤ s.size) : chI (s.extract 0 k) i = chI s i := by
  have h1 : i < (s.extract 0 k).size := by rw [ByteArray.size_extract]; omega
  rw [← chI_at _ _ h1, ← chI_at s i (by omega)]
  congr 2
  simp [ByteArray.getElem_eq_getElem_data, ByteArray.data_extract]
theorem okAt_extract (s : ByteArray) (k i : Nat) (h : i < k) (hk : k ≤ s.size) (ho : okAt s i) : okAt (s.extract 0 k) i := by
  refine ⟨by rw [ByteArray.size_extract]; omega, ?_⟩
  rw [chI_extract s k i h hk]
  exact ho.2
theorem okAt_out (s : ByteArray) (k i : Nat) (h : k ≤ i) : ¬ okAt (s.extract 0 k) i := by
  intro hh
  have := hh.1
  rw [ByteArray.size_extract] at this
  omega
theorem chI_append (s t : ByteArray) (i : Nat) (h : i < s.size) : chI (s ++ t) i = chI s i := by
  have h1 : i < (s ++ t).size := by rw [ByteArray.size_append]; omega
  rw [← chI_at _ _ h1, ← chI_at s i h]
  congr 2
  simp [ByteArray.getElem_eq_getElem_data, ByteArray.data_append, Array.getElem_append]
  rw [dif_pos h]
theorem okAt_append (s t : ByteArray) (i : Nat) (ho : okAt s i) : okAt (s ++ t) i := by
  refine ⟨by rw [ByteArray.size_append]; have := ho.1; omega, ?_⟩
  rw [chI_append s t i ho.1]
  exact ho.2

theorem six_at {w : World} {g : Nat} {c0 c1 c2 c3 c4 c5 : Value} {T : TypeId} (h : w.heap[g]? = some (.cells #[c0, c1, c2, c3, c4, c5] T (0, 0))) :
    w.cell? ⟨g, 0, none⟩ = some c0 ∧ w.cell? ⟨g, 1, none⟩ = some c1 ∧ w.cell? ⟨g, 2, none⟩ = some c2 ∧ w.cell? ⟨g, 3, none⟩ = some c3 ∧ w.cell? ⟨g, 4, none⟩ = some c4 ∧ w.cell? ⟨g, 5, none⟩ = some c5 :=
  ⟨cell_of_row w g 0 _ T (0, 0) h, cell_of_row w g 1 _ T (0, 0) h, cell_of_row w g 2 _ T (0, 0) h, cell_of_row w g 3 _ T (0, 0) h, cell_of_row w g 4 _ T (0, 0) h, cell_of_row w g 5 _ T (0, 0) h⟩
theorem heap_below {w w' : World} {B g : Nat} {o : Obj} (hb : Below B w w') (hg : g < B) (h : w.heap[g]? = some o) : w'.heap[g]? = some o := (hb.block g hg).trans h

theorem alloc2_first (w : World) (A B : Obj) : ((w.alloc A).alloc B).heap[w.heap.size]? = some A := (Below.heap_alloc (w.alloc A) B w.heap.size (by simp)).trans (heap_alloc_new w A)

theorem same6 (w : World) (c0 c1 c2 c3 c4 c5 : Int) :
    (Op.equalIn 10000 55 (.agg #[.int .u8 c0, .int .u8 c1, .int .u8 c2, .int .u8 c3, .int .u8 c4, .int .u8 c5]) (.agg #[.int .u8 c0, .int .u8 c1, .int .u8 c2, .int .u8 c3, .int .u8 c4, .int .u8 c5])).run Try.prog w = .ok true w := by
  have hc1 : Try.prog.cellsOf 5 = 1 := by kernel_rfl
  obtain ⟨i, hi⟩ : ∃ i, Try.prog.info? 5 = some i := ⟨_, rfl⟩
  have hs : i.size = 1 := by
    have h := info_parts info_u8
    obtain ⟨i0, h0, _, h1, _⟩ := h
    rw [h0] at hi
    injection hi with hi
    rw [← hi]; exact h1
  rw [run_equalIn_array w 9999 _ _ Try.underlying55 hi, hc1]
  simp [List.range, List.range.loop, Op.eqItems, part, run_equalIn_int, Try.underlying5, run_underlying]

theorem parse_short (s : ByteArray) (k : Nat) (w : World) (hs : s.size = k) (hk : k < 14) (hg : ∀ i, i < k → okAt s i) :
    Calls Try.prog 31 #[.string s] w fun e w' => e = parseErr k ∧ Below w.heap.size w w' :=
  (parse_any s k w (by simp only [maxLen]; omega) (by omega) hg (fun _ h => by have := h.1; omega)).mono fun e w' h => by
    unfold ParsePost at h
    rwa [if_pos hk] at h
theorem parse_long (s : ByteArray) (w : World) (hs : 14 < s.size) (hm : s.size ≤ maxLen) (hg : ∀ i, i < 14 → okAt s i) :
    Calls Try.prog 31 #[.string s] w fun e w' => e = parseErr 14 ∧ Below w.heap.size w w' :=
  (parse_any s 14 w hm (by omega) hg (fun h => by omega)).mono fun e w' h => by
    unfold ParsePost at h
    rwa [if_neg (by omega), if_pos hs] at h
end Go.Proofs.Ytbafeffmcfldoaa
