/- The walk of PrefixTells. Conditions: the library's variables that the example and Write read lie as the text lays them. -/
import Derived.Test.YtnllhedmkjmaiaaDoorPInj2
import Derived.Test.YtnllhedmkjmaiaaDoorPNeq
namespace Go.Proofs.YtnllhedmkjmaiaaDoor
open Go.RowKit
set_option linter.unusedVariables false

/-- a prefix's bytes as plain numbers, nought behind the sixteenth -/
theorem nat_of (z : Nat → Int) (hz : Bytes z) : ∃ y : Nat → Nat, (∀ j, y j < 256) ∧ (∀ j, 16 ≤ j → y j = 0) ∧ ∀ fam len : Int, pvC fam len z = pvC fam len (fun j => (y j : Int)) := by
  refine ⟨fun j => if j < 16 then (z j).toNat else 0, fun j => ?_, fun j hj => by simp only; rw [if_neg (by omega)], fun fam len => ?_⟩
  · have := hz j
    show (if j < 16 then (z j).toNat else 0) < 256
    split <;> omega
  · have e : ∀ j, j < 16 → z j = (((if j < 16 then (z j).toNat else 0 : Nat)) : Int) := fun j hj => by rw [if_pos hj]; have := hz j; omega
    unfold pvC
    rw [e 0 (by decide), e 1 (by decide), e 2 (by decide), e 3 (by decide), e 4 (by decide), e 5 (by decide), e 6 (by decide), e 7 (by decide), e 8 (by decide), e 9 (by decide), e 10 (by decide), e 11 (by decide), e 12 (by decide), e 13 (by decide), e 14 (by decide), e 15 (by decide)]
theorem dec_size (n : Nat) : 1 ≤ (dec n).size := by
  have := dec_ne n
  show 1 ≤ (Lib.decDigits n).length
  cases h : Lib.decDigits n with
  | nil => exact absurd h this
  | cons a l => simp
theorem size_list (b : ByteArray) : b.size = b.data.toList.length := by
  cases b
  simp [ByteArray.size]
theorem wtext_size {fam : Int} {len : Nat} {y : Nat → Nat} (hy : ∀ j, y j < 256) (hl : len < 256) : 3 < (wtext fam len y).size ∧ (wtext fam len y).size < 50 := by
  have h1 := dec_size len
  have h2 := dec_len3 len hl
  have hs : (⟨#[47]⟩ : ByteArray).size = 1 := rfl
  unfold wtext
  rw [ByteArray.size_append, ByteArray.size_append]
  by_cases h6 : fam = 6
  · rw [if_pos h6]
    have hsz := size_list (sixT (grpT y))
    have hb := lst_bd (grpT y) 8
    have jl : ∀ a n, n ≤ 8 → (joinT (grpT y) a n).length ≤ 5 * n := by
      intro a n hn
      have := join_len ((List.range n).map fun j => (grpT y (a + j)).data.toList) (fun x hx => by
        obtain ⟨j, _, rfl⟩ := List.mem_map.1 hx
        have h1 := hy (2 * (a + j))
        have h2 := hy (2 * (a + j) + 1)
        exact hexD_len (grp y (a + j)) (by unfold grp; omega))
      rw [List.length_map, List.length_range] at this
      exact this
    rw [hsz, sixT_list]
    split
    · have e : joinT (grpT y) 0 8 = (grpT y 0).data.toList ++ 58 :: Lib.join ((grpT y 1).data.toList :: ((List.range 6).map fun j => (grpT y (j + 2)).data.toList)) [58] := by
        unfold joinT
        have : ((List.range 8).map fun j => (grpT y (0 + j)).data.toList) = (grpT y 0).data.toList :: (grpT y 1).data.toList :: ((List.range 6).map fun j => (grpT y (j + 2)).data.toList) := rfl
        rw [this, join_cons]
      have l1 := jl 0 8 (by decide)
      have l2 : 2 ≤ (joinT (grpT y) 0 8).length := by
        rw [e]
        have : (grpT y 0).data.toList ≠ [] := hex_ne _
        cases h : (grpT y 0).data.toList with
        | nil => exact absurd h this
        | cons a l => simp; omega
      omega
    · have l1 := jl 0 (lst (grpT y) 8).fr (by omega)
      have l2 := jl (lst (grpT y) 8).be (8 - (lst (grpT y) 8).be) (by omega)
      rw [List.length_append, List.length_cons, List.length_cons]
      omega
  · rw [if_neg h6]
    have h := fourT_size y hy
    have h0 := dec_size (y 0)
    have h1 := dec_size (y 1)
    have h2 := dec_size (y 2)
    have h3 := dec_size (y 3)
    have e : (fourT y).size = (dec (y 0)).size + (dec (y 1)).size + (dec (y 2)).size + (dec (y 3)).size + 3 := by
      have e : fourT y = ⟨(Lib.join [(dec (y 0)).data.toList, (dec (y 1)).data.toList, (dec (y 2)).data.toList, (dec (y 3)).data.toList] [46]).toArray⟩ := rfl
      rw [e, bsize]
      simp [Lib.join]
      omega
    omega

set_option maxHeartbeats 2000000 in
set_option maxRecDepth 100000 in
theorem walkPrefixTells (fam0 len0 : Int) (z0 : Nat → Int) (hf0 : 0 ≤ fam0 ∧ fam0 ≤ 255) (hl0 : -9223372036854775808 ≤ len0 ∧ len0 ≤ 9223372036854775807) (hz0 : Bytes z0) (fam1 len1 : Int) (z1 : Nat → Int) (hf1 : 0 ≤ fam1 ∧ fam1 ≤ 255) (hl1 : -9223372036854775808 ≤ len1 ∧ len1 ≤ 9223372036854775807) (hz1 : Bytes z1) (w : World) (m : Int) (hL : Lays w m) (hL2 : Lays2 w) :
    Calls Tryd.prog 9 #[.agg (pvC fam0 len0 z0), .agg (pvC fam1 len1 z1)] w fun e w' => e = .returned (.bool true) ∧ Below w.heap.size w w' := by
  obtain ⟨y0, hy0, hn0, e0⟩ := nat_of z0 hz0
  obtain ⟨y1, hy1, hn1, e1⟩ := nat_of z1 hz1
  rw [e0, e1]
  clear e0 e1 hz0 hz1 z0 z1 hf0 hl0 hf1 hl1
  have hz0 : Bytes (fun j => (y0 j : Int)) := fun j => by have := hy0 j; show (0 : Int) ≤ (y0 j : Int) ∧ (y0 j : Int) ≤ 255; omega
  have hz1 : Bytes (fun j => (y1 j : Int)) := fun j => by have := hy1 j; show (0 : Int) ≤ (y1 j : Int) ∧ (y1 j : Int) ≤ 255; omega
  have HL := Lib.hid hL
  have HL2 := Lib.hid hL2
  have HP := Lib.hid (v2_p fam0 len0 (fun j => (y0 j : Int)) fam1 len1 (fun j => (y1 j : Int)) w)
  have HQ := Lib.hid (v2_q fam0 len0 (fun j => (y0 j : Int)) fam1 len1 (fun j => (y1 j : Int)) w)
  have HB := Lib.hid (v2_below fam0 len0 (fun j => (y0 j : Int)) fam1 len1 (fun j => (y1 j : Int)) w)
  clear hL hL2
  go_enter Tryd.func9, Tryd.ntmps9
  go_wp2_with fail
  refine (awake_any m _ (HL.out.below HB.out)).mono ?_
  rintro e w1 ⟨rfl, hb1⟩
  have HP1 := Lib.hid (HP.out.below hb1 HP.out.lt)
  have HQ1 := Lib.hid (HQ.out.below hb1 HQ.out.lt)
  have HB1 := Lib.hid (HB.out.trans (hb1.mono HB.out.size))
  clear hb1 HP HQ HB
  go_wp2_with (refine load_pv rfl (.tmp 2) rfl rfl HP1.out ?_)
  by_cases hF0 : Form fam0 len0 (fun j => (y0 j : Int))
  · obtain ⟨l0, rfl⟩ : ∃ l : Nat, len0 = l := ⟨len0.toNat, by have := sized_le hF0.1; omega⟩
    refine (write_any fam0 l0 y0 hy0 _ hF0 (HL2.out.below HB1.out)).mono ?_
    rintro e w2 ⟨rfl, hb2⟩
    have HP2 := Lib.hid (HP1.out.below hb2 HP1.out.lt)
    have HQ2 := Lib.hid (HQ1.out.below hb2 HQ1.out.lt)
    have HB2 := Lib.hid (HB1.out.trans (hb2.mono HB1.out.size))
    clear hb2 HP1 HQ1 HB1
    go_wp2_with (refine load_pv rfl (.tmp 3) rfl rfl HQ2.out ?_)
    by_cases hF1 : Form fam1 len1 (fun j => (y1 j : Int))
    · obtain ⟨l1, rfl⟩ : ∃ l : Nat, len1 = l := ⟨len1.toNat, by have := sized_le hF1.1; omega⟩
      refine (write_any fam1 l1 y1 hy1 _ hF1 (HL2.out.below HB2.out)).mono ?_
      rintro e w3 ⟨rfl, hb3⟩
      have HP3 := Lib.hid (HP2.out.below hb3 HP2.out.lt)
      have HQ3 := Lib.hid (HQ2.out.below hb3 HQ2.out.lt)
      have HB3 := Lib.hid (HB2.out.trans (hb3.mono HB2.out.size))
      clear hb3 HP2 HQ2 HB2
      have hsz := wtext_size (fam := fam0) (len := l0) hy0 (by have := (sized_le hF0.1).2; omega)
      have s3 : (3 : Int) < ((wtext fam0 l0 y0).size : Int) := by omega
      have s5 : ((wtext fam0 l0 y0).size : Int) < 50 := by omega
      have s3n := hsz.1
      have s5n := hsz.2
      by_cases hE : fam0 = fam1 ∧ (l0 : Int) = (l1 : Int) ∧ Same16 (fun j => (y0 j : Int)) (fun j => (y1 j : Int))
      · have hst : ((wtext fam0 l0 y0).toList == (wtext fam1 l1 y1).toList) = true := by
          obtain ⟨rfl, h2, h3⟩ := hE
          obtain rfl : l0 = l1 := by omega
          obtain rfl : y0 = y1 := by
            funext j
            rcases Nat.lt_or_ge j 16 with h | h
            · have := h3 j h
              exact Int.ofNat.inj this
            · rw [hn0 j h, hn1 j h]
          simp
        have HE := Lib.hid (show decide (fam0 = fam1 ∧ (l0 : Int) = (l1 : Int) ∧ Same16 (fun j => (y0 j : Int)) (fun j => (y1 j : Int))) = true by simp only [hE]; rfl)
        clear hE hF0 hF1
        go_wp2_with (first | (refine load_pv rfl (.tmp 2) rfl rfl HP3.out ?_) | (refine load_pv rfl (.tmp 3) rfl rfl HQ3.out ?_) | (refine step_val (v := .bool true) (by rfl) (eql_is (fam := fam0) (len := (l0 : Int)) (fam' := fam1) (len' := (l1 : Int)) (z := fun j => (y0 j : Int)) (z' := fun j => (y1 j : Int)) true HE.out _ _ _ _ rfl hz0 hz1 rfl rfl _) ?_))
        go_ret
        exact ⟨rfl, HB3.out⟩
      · have hst : ((wtext fam0 l0 y0).toList == (wtext fam1 l1 y1).toList) = false := by
          rw [beq_eq_false_iff_ne]
          intro e
          rw [ByteArray.toList_eq, ByteArray.toList_eq] at e
          obtain ⟨h1, h2, h3⟩ := wtext_inj hy0 hy1 hF0 hF1 (WideShapes.bytes_inj e)
          exact hE ⟨h1, by omega, h3⟩
        have HE := Lib.hid (show decide (fam0 = fam1 ∧ (l0 : Int) = (l1 : Int) ∧ Same16 (fun j => (y0 j : Int)) (fun j => (y1 j : Int))) = false by rw [decide_eq_false_iff_not]; exact hE)
        clear hE hF0 hF1
        go_wp2_with (first | (refine load_pv rfl (.tmp 2) rfl rfl HP3.out ?_) | (refine load_pv rfl (.tmp 3) rfl rfl HQ3.out ?_) | (refine step_val (v := .bool false) (by rfl) (eql_is (fam := fam0) (len := (l0 : Int)) (fam' := fam1) (len' := (l1 : Int)) (z := fun j => (y0 j : Int)) (z' := fun j => (y1 j : Int)) false HE.out _ _ _ _ rfl hz0 hz1 rfl rfl _) ?_))
        go_ret
        exact ⟨rfl, HB3.out⟩
    · refine (write_form fam1 len1 (fun j => (y1 j : Int)) hz1 _ hF1).mono ?_
      rintro e w3 ⟨rfl, hb3⟩
      have HB3 := Lib.hid (HB2.out.trans (hb3.mono HB2.out.size))
      clear hb3 hF0 hF1
      go_wp2
      go_ret
      exact ⟨rfl, HB3.out⟩
  · refine (write_form fam0 len0 (fun j => (y0 j : Int)) hz0 _ hF0).mono ?_
    rintro e w2 ⟨rfl, hb2⟩
    have HQ2 := Lib.hid (HQ1.out.below hb2 HQ1.out.lt)
    have HB2 := Lib.hid (HB1.out.trans (hb2.mono HB1.out.size))
    clear hb2
    go_wp2_with (refine load_pv rfl (.tmp 3) rfl rfl HQ2.out ?_)
    by_cases hF1 : Form fam1 len1 (fun j => (y1 j : Int))
    · obtain ⟨l1, rfl⟩ : ∃ l : Nat, len1 = l := ⟨len1.toNat, by have := sized_le hF1.1; omega⟩
      refine (write_any fam1 l1 y1 hy1 _ hF1 (HL2.out.below HB2.out)).mono ?_
      rintro e w3 ⟨rfl, hb3⟩
      have HB3 := Lib.hid (HB2.out.trans (hb3.mono HB2.out.size))
      clear hb3 hF0 hF1
      go_wp2
      go_ret
      exact ⟨rfl, HB3.out⟩
    · refine (write_form fam1 len1 (fun j => (y1 j : Int)) hz1 _ hF1).mono ?_
      rintro e w3 ⟨rfl, hb3⟩
      have HB3 := Lib.hid (HB2.out.trans (hb3.mono HB2.out.size))
      clear hb3 hF0 hF1
      go_wp2
      go_ret
      exact ⟨rfl, HB3.out⟩
end Go.Proofs.YtnllhedmkjmaiaaDoor
