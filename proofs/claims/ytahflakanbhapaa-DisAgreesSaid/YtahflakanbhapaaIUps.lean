/- dis.upNames: the names of the members that are up, in order. Each theorem states its conditions. -/
import Derived.Test.YtahflakanbhapaaISort
namespace Go.Proofs.Ytahflakanbhapaa
open Go.RowKit Go.Sort
set_option linter.unusedVariables false

/-- the names of the first k that are up -/
def nm (L : Nat → Mb) (hOk : ∀ j, MbOk (L j)) (j : Nat) : By := ⟨(L j).s, (hOk j).1⟩
def upl (L : Nat → Mb) (hOk : ∀ j, MbOk (L j)) : Nat → List By
  | 0 => []
  | k + 1 => if (L k).up then upl L hOk k ++ [nm L hOk k] else upl L hOk k
theorem upl_len (L : Nat → Mb) (hOk : ∀ j, MbOk (L j)) (k : Nat) : (upl L hOk k).length ≤ k := by
  induction k with
  | zero => exact Nat.le_refl _
  | succ k ih =>
    unfold upl
    split
    · rw [List.length_append, List.length_singleton]; omega
    · omega
theorem upl_mem (L : Nat → Mb) (hOk : ∀ j, MbOk (L j)) (k : Nat) (x : By) : x ∈ upl L hOk k ↔ ∃ i, i < k ∧ (L i).up = true ∧ nm L hOk i = x := by
  induction k with
  | zero => simp [upl]
  | succ k ih =>
    unfold upl
    by_cases h : (L k).up = true
    · rw [if_pos h, List.mem_append, ih, List.mem_singleton]
      refine ⟨fun g => ?_, fun ⟨i, h1, h2, h3⟩ => ?_⟩
      · rcases g with ⟨i, h1, h2, h3⟩ | rfl
        · exact ⟨i, by omega, h2, h3⟩
        · exact ⟨k, by omega, h, rfl⟩
      · by_cases e : i = k
        · subst e; exact .inr h3.symm
        · exact .inl ⟨i, by omega, h2, h3⟩
    · rw [if_neg h, ih]
      refine ⟨fun ⟨i, h1, h2, h3⟩ => ⟨i, by omega, h2, h3⟩, fun ⟨i, h1, h2, h3⟩ => ⟨i, ?_, h2, h3⟩⟩
      by_cases e : i = k
      · subst e; exact (h h2).elim
      · omega
theorem by_snoc (S : List By) (x : By) : ∀ j, j < S.length + 1 → catR (byA S) S.length (fun _ => syC x.1) j = byA (S ++ [x]) j := by
  intro j hj
  unfold catR byA
  by_cases h : j < S.length
  · rw [if_pos h, List.getElem?_append_left h]
  · rw [if_neg h, show j = S.length by omega, List.getElem?_append_right (Nat.le_refl _)]
    simp
theorem bs_sys (W : World) (o : Oper) (e : Operand → Value) {x : Operand} (ho : o.op = .buildSlice 64 1 #[(0, x)]) (z : Nat → Int) (h : e x = .agg (syC z)) :
    (execOp e o).run Try.prog W = .ok (.value (.slice (some ⟨W.heap.size, 0, none⟩) 1 1)) (W.alloc (.cells (syC z) 37)) := by
  unfold execOp
  simp only [ho]
  simp only [List.map_toArray, List.map_cons, List.map_nil, h]
  kernel_rfl
theorem infoA_sys : (Try.prog.info? 37).map (fun i => (i.zero, i.size, i.bytes)) = some (some (.agg (syC z0)), 6, 6) := by kernel_rfl
def UpsP (L : Nat → Mb) (hOk : ∀ j, MbOk (L j)) (n : Nat) (w : World) (e : Ending) (w' : World) : Prop := ∃ v S, e = .returned v ∧ OwnR w' w.heap.size 37 6 v S.length (byA S) ∧ S.Perm (upl L hOk n) ∧ Asc S ∧ Below w.heap.size w w'
set_option maxHeartbeats 8000000 in
set_option maxRecDepth 100000 in
theorem ups_any (A : Option Addr) (n c : Nat) (L : Nat → Mb) (w : World) (hR : RdR w A n 14 (mbA L)) (hOk : ∀ j, MbOk (L j)) (hn : n * 14 ≤ 140737488351232) :
    Calls Try.prog 22 #[.slice A n c] w (UpsP L hOk n w) := by
  have HR := Lib.hid hR
  clear hR
  have hml : maxLen = 9223372036854775807 := rfl
  have HML := Lib.hid hml
  clear hml
  go_enter Try.func22, Try.ntmps22
  have HB := Lib.hid (Below.refl w.heap.size w)
  go_wp2_with fail
  go_loopw [3, 8] (fun s t wr => ∃ k : Nat, k ≤ n ∧ t = .int .i64 k ∧ Hid (OwnR wr w.heap.size 37 6 s (upl L hOk k).length (byA (upl L hOk k))) ∧ Hid (Below w.heap.size w wr)) (fun _ t _ => n - (intOf t).toNat)
  case atStart => exact ⟨0, by omega, rfl, Lib.hid (OwnR.nil _ _ _ _ _), HB⟩
  case round =>
    clear HB
    obtain ⟨k, hk, rfl, HO, HW⟩ := hrel
    by_cases hlt : k < n
    · obtain ⟨b, off, rfl, hr⟩ := HR.out.row (by omega)
      have HRR := Lib.hid hr
      clear hr
      have hki : (k : Int) < (n : Int) := by omega
      obtain ⟨m, hm⟩ : ∃ m, L k = m := ⟨_, rfl⟩
      have HMk := Lib.hid hm
      clear hm
      obtain ⟨S, hS⟩ : ∃ S, upl L hOk k = S := ⟨_, rfl⟩
      have hSl : S.length ≤ k := by rw [← hS]; exact upl_len L hOk k
      have HUp : Hid (upl L hOk (k + 1) = if m.up then S ++ [nm L hOk k] else S) := Lib.hid (by show (if (L k).up then upl L hOk k ++ [nm L hOk k] else upl L hOk k) = _; rw [HMk.out, hS])
      have HNm : Hid ((nm L hOk k).1 = m.s) := Lib.hid (by show (L k).s = m.s; rw [HMk.out])
      rw [hS] at HO
      clear hS
      have HX := Lib.hid (Below.refl wr.heap.size wr)
      have h1 : Hid (wr.rangeAt b (off + k * 14) (mbC m).toList) := Lib.hid (by have h9 := rangeAt_below (HRR.out.2 k hlt) HW.out HRR.out.1; unfold mbA at h9; rw [HMk.out] at h9; exact h9)
      go_wp2_with (refine wpList_ld (op := ⟨some 11, _, _, _, _, _⟩) (by rfl) 40 (.tmp 10) rfl b (off + k * 14) rfl (mbC m) _ h1.out Try.underlying40 rfl info_mbP ?_; refine Hid.out ?_)
      refine Lib.hid ?_
      clear h1
      obtain ⟨N1, hN1⟩ : ∃ N, wr.heap.size = N := ⟨_, rfl⟩
      have HN1 := Lib.hid hN1
      clear hN1
      go_wp2_with (refine wpList_new (op := ⟨some 5, _, _, _, _, _⟩) rfl 40 rfl (mbC mb0) zero_mbP N1 HN1.out ?_; intro w1 k1 b1 s1; refine Hid.out ?_)
      refine Lib.hid ?_
      have K5 := Lib.hid k1
      clear k1
      have le_HW_N1 : w.heap.size ≤ N1 := by rw [← HN1.out]; exact HW.out.size
      have le_HX_N1 : wr.heap.size ≤ N1 := by rw [← HN1.out]; exact HX.out.size
      have HWn := Lib.hid (HW.out.trans (b1.mono HW.out.size))
      clear HW
      have HW := HWn
      clear HWn
      have HXn := Lib.hid (HX.out.trans (b1.mono HX.out.size))
      clear HX
      have HX := HXn
      clear HXn
      clear b1 HN1
      go_wp2_with (refine wpList_st rfl 40 (.tmp 5) (.tmp 11) rfl N1 0 rfl (.agg (mbC m)) (mbC m) rfl rfl info_mbP (mbC_one _) K5.out (Nat.le_of_ble_eq_true rfl) (C' := mbC m) (by kernel_rfl) ?_; intro w2 q1; refine Hid.out ?_)
      refine Lib.hid ?_
      have HWn := Lib.hid (HW.out.trans (q1.2.1 _ (by omega)))
      clear HW
      have HW := HWn
      clear HWn
      have HXn := Lib.hid (HX.out.trans (q1.2.1 _ (by omega)))
      clear HX
      have HX := HXn
      clear HXn
      have K5n : Hid (Blk 40 w2 N1 (mbC m)) := Lib.hid q1.1
      clear K5
      have K5 := K5n
      clear K5n q1
      obtain ⟨ms, mk, mp, mu⟩ := m
      cases mu
      · skip
        have c1 : w2.cell? ⟨N1, 13, none⟩ = some (.bool false) := (K5.out.cell 13).trans rfl
        have HO9 : Hid (OwnR w2 w.heap.size 37 6 u3 (upl L hOk (k + 1)).length (byA (upl L hOk (k + 1)))) := Lib.hid (by rw [HUp.out]; exact HO.out.below HX.out)
        go_wp2_with fail
        go_roundw
        case rel => exact ⟨k + 1, by omega, by go_num, HO9, HW⟩
        case measure => simp only [intOf]; omega
      · skip
        have c1 : w2.cell? ⟨N1, 13, none⟩ = some (.bool true) := (K5.out.cell 13).trans rfl
        go_wp2_with (refine wpList_ld (op := ⟨some 16, _, _, _, _, _⟩) (by rfl) 37 (.tmp 15) rfl N1 0 rfl (syC ms) _ K5.out.mbs Try.underlying37 rfl info_sys ?_; refine Hid.out ?_)
        refine Lib.hid ?_
        clear c1
        obtain ⟨N3, hN3⟩ : ∃ N, w2.heap.size = N := ⟨_, rfl⟩
        have HN3 := Lib.hid hN3
        clear hN3
        go_wp2_with (refine wpList_bs (op := ⟨some 17, _, _, _, _, _⟩) rfl 37 (syC ms) (bs_sys _ _ _ rfl ms rfl) N3 HN3.out ?_; intro w3 k1 b1 s1; refine Hid.out ?_)
        refine Lib.hid ?_
        have K17 := Lib.hid k1
        clear k1
        have lt_N1_N3 : N1 < N3 := by rw [← HN3.out]; exact K5.out.lt
        have le_HW_N3 : w.heap.size ≤ N3 := by rw [← HN3.out]; exact HW.out.size
        have le_HX_N3 : wr.heap.size ≤ N3 := by rw [← HN3.out]; exact HX.out.size
        have K5n := Lib.hid (K5.out.below b1 K5.out.lt)
        clear K5
        have K5 := K5n
        clear K5n
        have HWn := Lib.hid (HW.out.trans (b1.mono HW.out.size))
        clear HW
        have HW := HWn
        clear HWn
        have HXn := Lib.hid (HX.out.trans (b1.mono HX.out.size))
        clear HX
        have HX := HXn
        clear HXn
        clear b1 HN3
        have HO5 := Lib.hid (HO.out.below HX.out)
        have HRD : Hid (RdR w3 (some ⟨N3, 0, none⟩) 1 6 (fun _ => syC ms)) := Lib.hid (rdR_blk K17.out)
        go_wp2_with (at_builtin; refine app_X 64 37 6 6 _ Try.underlying64 infoA_sys rfl (by decide) rfl (.tmp 14) (.tmp 17) rfl w _ S.length (byA S) rfl HO5.out HW.out ⟨N3, 0, none⟩ 1 1 (fun _ => syC ms) rfl HRD.out (fun _ => ⟨rfl, syC_ones _⟩) (by rw [HML.out]; omega) (by omega) ?_; intro v9 w9 ho9 hb9 hk9 hs9; refine Hid.out ?_)
        refine Lib.hid ?_
        have HO9 : Hid (OwnR w9 w.heap.size 37 6 v9 (upl L hOk (k + 1)).length (byA (upl L hOk (k + 1)))) := Lib.hid (by
          rw [HUp.out, if_pos trivial, List.length_append]
          refine OwnR.congr ho9 (fun j hj => ?_)
          have h8 := by_snoc S (nm L hOk k) j hj
          rw [HNm.out] at h8
          exact h8)
        have HW9 := Lib.hid hb9
        clear ho9 hb9 hk9 hs9 HO5 HRD
        go_wp2_with fail
        go_roundw
        case rel => exact ⟨k + 1, by omega, by go_num, HO9, HW9⟩
        case measure => simp only [intOf]; omega
    · obtain rfl : k = n := by omega
      obtain ⟨S, hS⟩ : ∃ S, upl L hOk k = S := ⟨_, rfl⟩
      rw [hS] at HO
      have HS := Lib.hid hS
      have hSl : S.length ≤ k := by rw [← hS]; exact upl_len L hOk k
      clear hS
      rcases HO.out.2 with ⟨rfl, hx⟩ | ⟨g, cap, cur, rfl, hbase, hb, h1, h2, h3, h4⟩
      · have hS0 : S = [] := by
          have := cellsR_len (recs_by S) S.length
          rw [hx] at this
          simp at this
          exact List.eq_nil_of_length_eq_zero (by omega)
        subst hS0
        go_wp2_with fail
        refine (sort_none _).mono ?_
        rintro e w2 ⟨rfl, rfl⟩
        go_wp2_with fail
        go_ret
        exact ⟨_, [], rfl, HO.out, by rw [HS.out], fun i j _ hj => by simp at hj, HW.out⟩
      · have HCC := Lib.hid (⟨hbase, hb, h1, h2, h3, h4⟩ : _ ∧ _ ∧ _ ∧ _ ∧ _ ∧ _)
        have hne : 0 < S.length ∨ S.length = 0 := by omega
        have HSC := fun hh => sort_row g cap S wr cur hb h4 (by omega) hh
        have HSC := Lib.hid HSC
        clear hbase hb h1 h2 h3 h4
        go_wp2_with fail
        refine (HSC.out ()).mono ?_
        rintro e w2 ⟨rfl, T, nn, os, hp, ha, rfl⟩
        obtain ⟨hbase, hb, h1, h2, h3, h4⟩ := HCC.out
        have hl : T.length = S.length := hp.length_eq
        have HO2 := Lib.hid (own_sorted (n := nn) (os := os) (e := 37) hl hbase hb h1 h2 h3)
        have HW2 := Lib.hid (HW.out.grown (grownBy_sortedK (n := nn) (os := os) T.toArray) HW.out.size (fun k e => by cases e; exact hbase))
        have HP := Lib.hid hp
        have HA := Lib.hid ha
        clear hbase hb h1 h2 h3 h4 hp ha
        obtain ⟨w3, hw3⟩ : ∃ w3, grow (putRowK enc6 6 (Sort.ahead wr nn) g 0 T.toArray) os = w3 := ⟨_, rfl⟩
        rw [hw3] at HO2 HW2
        rw [hw3]
        clear hw3
        go_wp2_with fail
        go_ret
        exact ⟨_, T, rfl, HO2.out, by rw [HS.out]; exact HP.out, HA.out, HW2.out⟩
end Go.Proofs.Ytahflakanbhapaa
