/- Entries: their cells, their bytes; small functions of pdu. Each theorem states its conditions. -/
import Derived.Test.YtigkmcbkckfhbaaRec
import Derived.Test.YtigkmcbkckfhbaaPutB
import Derived.Deep.DeepMust
namespace Go.Proofs.Ytigkmcbkckfhbaa
open Go.RowKit
set_option linter.unusedVariables false

theorem vals_add (z : Nat → Int) (n m : Nat) : vals z (n + m) = vals z n ++ vals (fun j => z (n + j)) m := by
  unfold vals
  rw [List.range_add, List.map_append, List.map_map]
  rfl
theorem vals_snoc (z : Nat → Int) (n : Nat) : vals z n ++ [.int .u8 (z n)] = vals z (n + 1) := by
  rw [vals_add]
  rfl
theorem u8_one (x : Int) : ∀ u ∈ [Value.int .u8 x], u.oneCell' = true := by
  intro u hu; simp only [List.mem_cons, List.not_mem_nil, or_false] at hu; subst hu; rfl
/-- an entry: its ID's eight bytes, its number, its life, its sum -/
structure En where
  s : Nat → Int
  sq : Nat
  li : Int
  su : Nat
def EnOk (e : En) : Prop := (∀ j, 0 ≤ e.s j ∧ e.s j ≤ 255) ∧ e.sq ≤ 4294967295 ∧ (-9223372036854775808 ≤ e.li ∧ e.li ≤ 9223372036854775807) ∧ e.su ≤ 65535
/-- its cells -/
def enC (e : En) : Array Value := #[.int .u8 (e.s 0), .int .u8 (e.s 1), .int .u8 (e.s 2), .int .u8 (e.s 3), .int .u8 (e.s 4), .int .u8 (e.s 5), .int .u8 (e.s 6), .int .u8 (e.s 7), .int .u32 (e.sq : Int), .int .i64 e.li, .int .u16 (e.su : Int)]
def enA (L : Nat → En) : Nat → Array Value := fun j => enC (L j)
theorem enC_one (e : En) : ∀ u ∈ (enC e).toList, u.oneCell' = true := by
  intro u hu
  simp only [enC, List.mem_cons, List.not_mem_nil, or_false] at hu
  rcases hu with rfl | rfl | rfl | rfl | rfl | rfl | rfl | rfl | rfl | rfl | rfl <;> rfl
theorem recs_en (L : Nat → En) : Recs 11 (enA L) := fun j => ⟨rfl, enC_one (L j)⟩
theorem enC_cells {w : World} {b o : Nat} {e : En} (h : w.rangeAt b o (enC e).toList) :
    (w.cell? ⟨b, o, none⟩ = some (.int .u8 (e.s 0)) ∧ w.cell? ⟨b, o + 1, none⟩ = some (.int .u8 (e.s 1)) ∧ w.cell? ⟨b, o + 2, none⟩ = some (.int .u8 (e.s 2)) ∧ w.cell? ⟨b, o + 3, none⟩ = some (.int .u8 (e.s 3))) ∧
    (w.cell? ⟨b, o + 4, none⟩ = some (.int .u8 (e.s 4)) ∧ w.cell? ⟨b, o + 5, none⟩ = some (.int .u8 (e.s 5)) ∧ w.cell? ⟨b, o + 6, none⟩ = some (.int .u8 (e.s 6)) ∧ w.cell? ⟨b, o + 7, none⟩ = some (.int .u8 (e.s 7))) ∧
    w.cell? ⟨b, o + 8, none⟩ = some (.int .u32 (e.sq : Int)) ∧ w.cell? ⟨b, o + 9, none⟩ = some (.int .i64 e.li) ∧ w.cell? ⟨b, o + 10, none⟩ = some (.int .u16 (e.su : Int)) :=
  ⟨⟨h 0 _ rfl, h 1 _ rfl, h 2 _ rfl, h 3 _ rfl⟩, ⟨h 4 _ rfl, h 5 _ rfl, h 6 _ rfl, h 7 _ rfl⟩, h 8 _ rfl, h 9 _ rfl, h 10 _ rfl⟩

/-- the bytes of entries, sixteen each -/
def enZ (L : Nat → En) : Nat → Int := fun j => if j % 16 < 2 then putZ (L (j / 16)).li.toNat 2 (j % 16) else if j % 16 < 10 then (L (j / 16)).s (j % 16 - 2) else if j % 16 < 14 then putZ (L (j / 16)).sq 4 (j % 16 - 10) else putZ (L (j / 16)).su 2 (j % 16 - 14)
theorem enZ_at (L : Nat → En) (k i : Nat) (h : i < 16) : enZ L (16 * k + i) = if i < 2 then putZ (L k).li.toNat 2 i else if i < 10 then (L k).s (i - 2) else if i < 14 then putZ (L k).sq 4 (i - 10) else putZ (L k).su 2 (i - 14) := by
  unfold enZ
  rw [show (16 * k + i) % 16 = i by omega, show (16 * k + i) / 16 = k by omega]
theorem enZ_bd (L : Nat → En) (hL : ∀ j, EnOk (L j)) : ∀ j, 0 ≤ enZ L j ∧ enZ L j ≤ 255 := by
  intro j
  unfold enZ
  split
  · exact putZ_bd _ _ _
  · split
    · exact (hL _).1 _
    · split <;> exact putZ_bd _ _ _
theorem vals_congr {z z' : Nat → Int} {n : Nat} (h : ∀ j, j < n → z j = z' j) : vals z n = vals z' n := by
  unfold vals
  apply List.map_congr_left
  intro j hj
  rw [h j (by simpa using hj)]
theorem enZ_push (L : Nat → En) (k : Nat) :
    vals (enZ L) (16 * k) ++ vals (putZ (L k).li.toNat 2) 2 ++ vals (L k).s 8 ++ vals (putZ (L k).sq 4) 4 ++ vals (putZ (L k).su 2) 2 = vals (enZ L) (16 * (k + 1)) := by
  rw [show 16 * (k + 1) = 16 * k + 2 + 8 + 4 + 2 by omega, vals_add, vals_add, vals_add, vals_add]
  have h := fun i hi => enZ_at L k i hi
  congr 1
  · congr 1
    · congr 1
      · congr 1
        exact vals_congr fun j hj => by rw [h j (by omega), if_pos hj]
      · exact vals_congr fun j hj => by rw [show 16 * k + 2 + j = 16 * k + (2 + j) by omega, h (2 + j) (by omega), if_neg (by omega), if_pos (by omega), show 2 + j - 2 = j by omega]
    · exact vals_congr fun j hj => by rw [show 16 * k + 2 + 8 + j = 16 * k + (10 + j) by omega, h (10 + j) (by omega), if_neg (by omega), if_neg (by omega), if_pos (by omega), show 10 + j - 10 = j by omega]
  · exact vals_congr fun j hj => by rw [show 16 * k + 2 + 8 + 4 + j = 16 * k + (14 + j) by omega, h (14 + j) (by omega), if_neg (by omega), if_neg (by omega), if_neg (by omega), show 14 + j - 14 = j by omega]

theorem size_2 (f : Int) (w : World) (h : f = 3 ∨ f = 4 ∨ f = 8 ∨ f = 11) : Calls Try.prog 52 #[.int .i64 f] w fun e w' => e = .returned (.int .i64 2) ∧ w' = w := by
  rcases h with rfl | rfl | rfl | rfl <;>
  · go_enter Try.func52, Try.ntmps52
    go_wp2
    go_ret
    exact ⟨rfl, rfl⟩
theorem size_4 (w : World) : Calls Try.prog 52 #[.int .i64 10] w fun e w' => e = .returned (.int .i64 4) ∧ w' = w := by
  go_enter Try.func52, Try.ntmps52
  go_wp2
  go_ret
  exact ⟨rfl, rfl⟩
theorem isTime_yes (n : Int) (w : World) (h1 : 0 ≤ n) (h2 : n ≤ 65535) : Calls Try.prog 50 #[.int .i64 n] w fun e w' => e = .returned (.bool true) ∧ w' = w := by
  go_enter Try.func50, Try.ntmps50
  go_wp2
  go_ret
  exact ⟨rfl, rfl⟩
theorem isTime_no (n : Int) (w : World) (h : n < 0 ∨ 65535 < n) : Calls Try.prog 50 #[.int .i64 n] w fun e w' => e = .returned (.bool false) ∧ w' = w := by
  by_cases a : n < 0
  · clear h
    go_enter Try.func50, Try.ntmps50
    go_wp2
    go_ret
    exact ⟨rfl, rfl⟩
  · have a' : 0 ≤ n := by omega
    have b : ¬ n ≤ 65535 := by omega
    clear h a
    go_enter Try.func50, Try.ntmps50
    go_wp2
    go_ret
    exact ⟨rfl, rfl⟩
/-- a number of so many bytes is written -/
theorem putNumber_any (N k : Nat) (w : World) (hk1 : 1 ≤ k) (hk8 : k ≤ 8) (hN : N ≤ 18446744073709551615) (h : qN N k = 0) :
    Calls Try.prog 51 #[.int .u64 (N : Int), .int .i64 (k : Int)] w fun e w' => ∃ g, e = .returned (.slice (some ⟨g, 0, none⟩) k k) ∧ w.heap.size ≤ g ∧ Own8 w' g k k (putZ N k) ∧ Below w.heap.size w w' := by
  have HP := Lib.hid (put_any N k w hN hk1 hk8)
  have HQ := Lib.hid h
  clear h
  go_enter Try.func51, Try.ntmps51
  go_wp2_with fail
  refine HP.out.mono ?_
  rintro e w1 ⟨hif, hb⟩
  rw [if_pos HQ.out] at hif
  obtain ⟨g, rfl, hg, ho⟩ := hif
  have HO := Lib.hid ho
  have HB := Lib.hid hb
  clear ho hb
  go_wp2_with fail
  go_ret
  exact ⟨g, rfl, hg, HO.out, HB.out⟩
theorem made_b (w0 w : World) (hb : Below w0.heap.size w0 w) : (w.alloc (.cells #[] 5)).ownsRow w0.heap.size 5 1 (.slice (some ⟨w.heap.size, 0, none⟩) 0 0) 0 [] :=
  World.ownsRow_made w #[] 0 hb.size (by decide) rfl
set_option maxHeartbeats 1000000 in
set_option maxRecDepth 100000 in
theorem cloneB_any (b off n c : Nat) (z : Nat → Int) (w : World) (hr : Row8 w b off n z) (hn : n ≤ 1000) :
    Calls Try.prog 68 #[.slice (some ⟨b, off, none⟩) n c] w fun e w' => ∃ v, e = .returned v ∧ OwnB w' w.heap.size v n z ∧ Below w.heap.size w w' := by
  have HR := Lib.hid hr
  clear hr
  have hq : ∀ W : World, (binOp BinOp.eql 35 (Value.slice (some ⟨b, off, none⟩) n c) (Value.slice none 0 0)).run Try.prog W = .ok (.bool false) W := fun W => by kernel_rfl
  have HM := Lib.hid (made_b w w (bself w))
  have HB := Lib.hid ((bself w).alloc (Nat.le_refl _) (.cells #[] 5))
  have HD : Hid (Rd (w.alloc (.cells #[] 5)) (some ⟨b, off, none⟩) n z) := Lib.hid (Rd.below ⟨.inr ⟨b, off, rfl, HR.out⟩, HR.out.2.2⟩ HB.out rfl)
  go_enter Try.func68, Try.ntmps68
  go_wp2_with (first
    | (at_builtin; refine app_s rfl (.tmp 5) (.tmp 6) rfl w (.slice (some ⟨w.heap.size, 0, none⟩) 0 0) 0 [] rfl HM.out HB.out ⟨b, off, none⟩ n c (vals z n) rfl (vals_len _ _) (rd_newsB HD.out) (vals_one _ _) (by omega) ?_; intro v2 w2 ho2 hb2 hs2 hk2))
  rw [Nat.zero_add, List.nil_append] at ho2
  go_ret
  exact ⟨_, rfl, ⟨ho2, HR.out.2.2⟩, hb2⟩
end Go.Proofs.Ytigkmcbkckfhbaa
