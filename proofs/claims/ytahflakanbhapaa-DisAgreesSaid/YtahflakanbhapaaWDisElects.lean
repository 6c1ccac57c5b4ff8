/- The walk of DisElects: for every input the law returns true, and nothing that was there is written. No condition. -/
import Derived.Test.YtahflakanbhapaaIDEg
import Derived.Test.YtahflakanbhapaaWDisTells
namespace Go.Proofs.Ytahflakanbhapaa
open Go.RowKit
set_option linter.unusedVariables false

theorem guard_E : Try.prog.eqGuardType Try.prog.depth 58 = false := by kernel_rfl
theorem hi_E (cs : Array Value) (h : cs.size = 8) : (Try.prog.info? 58).map (·.size) = some cs.toList.length := by
  rw [Array.length_toList, h]
  kernel_rfl
set_option maxHeartbeats 1000000 in
set_option maxRecDepth 100000 in
theorem sameE_yes (A B : Option Addr) (m c d : Nat) (C : Nat → Array Value) (w : World) (ha : RdR w A m 8 C) (hb : RdR w B m 8 C) (hs : ∀ j, j < m → SelfEq 10000 58 (.agg (C j))) (hz : ∀ j, (C j).size = 8) (hm : m ≤ 140737488351232) :
    Calls Try.prog 13 #[.slice A m c, .slice B m d] w fun e w' => e = .returned (.bool true) ∧ ∃ k, w' = w.drewN k := by
  rcases Nat.eq_zero_or_pos m with rfl | hn
  · clear ha hb hs
    go_enter Try.func13, Try.ntmps13
    go_wp2
    refine wp_loop_rounds 1 ?_
    rw [rounds_succ]
    go_wp2
    go_ret
    exact ⟨rfl, 0, rfl⟩
  · obtain ⟨b, off, rfl, hr⟩ := ha.row hn
    obtain ⟨b', off', rfl, hr'⟩ := hb.row hn
    have HR := Lib.hid hr
    have HR' := Lib.hid hr'
    have HS := Lib.hid hs
    have HZ := Lib.hid hz
    clear ha hb hr hr' hs hz
    go_enter Try.func13, Try.ntmps13
    go_wp2
    go_loopw [13] (fun t wr => ∃ k r : Nat, k ≤ m ∧ t = .int .i64 k ∧ Hid (wr = w.drewN r)) (fun t _ => m - (intOf t).toNat)
    case atStart => exact ⟨0, 0, by omega, rfl, Lib.hid rfl⟩
    case round =>
      obtain ⟨k, r, hk, rfl, hw⟩ := hrel
      by_cases hlt : k < m
      · have h1 : Hid (wr.drew.rangeAt b (off + k * 8) (C k).toList) := Lib.hid (by rw [hw.out]; exact HR.out.2 k hlt)
        have h2 : Hid (wr.drew.rangeAt b' (off' + k * 8) (C k).toList) := Lib.hid (by rw [hw.out]; exact HR'.out.2 k hlt)
        have hki : (k : Int) < (m : Int) := by omega
        go_wp2_with fail
        refine wp_region_held_drew (S := fun w' => w' = wr.drew) (by kernel_rfl) rfl (fun _ => ?_)
        refine takeY (i := 0) (some 16) (v := .slice (some ⟨b, off, none⟩) m c) rfl rfl (by kernel_rfl) (by kernel_rfl) (by kernel_rfl) (fun _ _ _ h => h) (by rfl) (fun w' hS => by go_simp) rfl ?_
        simp only [Act.put, List.setIfInBounds_toArray, List.set_cons_zero, List.set_cons_succ]
        refine takeY (i := 1) (some 17) (v := .int .i64 k) rfl rfl (by kernel_rfl) (by kernel_rfl) (by kernel_rfl) (fun _ _ _ h => h) (by rfl) (fun w' hS => by go_simp) rfl ?_
        simp only [Act.put, List.setIfInBounds_toArray, List.set_cons_zero, List.set_cons_succ]
        refine takeY (i := 2) (some 18) (v := .pointer (some ⟨b, off + k * 8, none⟩)) rfl rfl (by kernel_rfl) (by kernel_rfl) (by kernel_rfl) (fun _ _ _ h => h) (by rfl) (fun w' hS => by clear hS; go_simp) rfl ?_
        simp only [Act.put, List.setIfInBounds_toArray, List.set_cons_zero, List.set_cons_succ]
        refine takeL (i := 3) (some 19) 58 (.tmp 18) b (off + k * 8) (C k) _ rfl rfl (by kernel_rfl) (by kernel_rfl) (by kernel_rfl) (fun _ _ _ h => h) (by rfl) rfl rfl (fun w' hS => by rw [hS]; exact h1.out) Try.underlying58 rfl (hi_E _ (HZ.out k)) rfl ?_
        simp only [Act.put, List.setIfInBounds_toArray, List.set_cons_zero, List.set_cons_succ]
        refine takeY (i := 4) (some 20) (v := .slice (some ⟨b', off', none⟩) m d) rfl rfl (by kernel_rfl) (by kernel_rfl) (by kernel_rfl) (fun _ _ _ h => h) (by rfl) (fun w' hS => by go_simp) rfl ?_
        simp only [Act.put, List.setIfInBounds_toArray, List.set_cons_zero, List.set_cons_succ]
        refine takeY (i := 5) (some 21) (v := .int .i64 k) rfl rfl (by kernel_rfl) (by kernel_rfl) (by kernel_rfl) (fun _ _ _ h => h) (by rfl) (fun w' hS => by go_simp) rfl ?_
        simp only [Act.put, List.setIfInBounds_toArray, List.set_cons_zero, List.set_cons_succ]
        refine takeY (i := 6) (some 22) (v := .pointer (some ⟨b', off' + k * 8, none⟩)) rfl rfl (by kernel_rfl) (by kernel_rfl) (by kernel_rfl) (fun _ _ _ h => h) (by rfl) (fun w' hS => by clear hS; go_simp) rfl ?_
        simp only [Act.put, List.setIfInBounds_toArray, List.set_cons_zero, List.set_cons_succ]
        refine takeL (i := 7) (some 23) 58 (.tmp 22) b' (off' + k * 8) (C k) _ rfl rfl (by kernel_rfl) (by kernel_rfl) (by kernel_rfl) (fun _ _ _ h => h) (by rfl) rfl rfl (fun w' hS => by rw [hS]; exact h2.out) Try.underlying58 rfl (hi_E _ (HZ.out k)) rfl ?_
        simp only [Act.put, List.setIfInBounds_toArray, List.set_cons_zero, List.set_cons_succ]
        refine takeY (i := 8) (some 24) (v := .bool false) rfl rfl (by kernel_rfl) (by kernel_rfl) (by kernel_rfl) (fun _ _ _ h => h) (by rfl) (fun w' _ => neq_self _ _ (.tmp 19) (.tmp 23) _ _ rfl rfl guard_E (C k) (HS.out k hlt) rfl rfl w') rfl ?_
        simp only [Act.put, List.setIfInBounds_toArray, List.set_cons_zero, List.set_cons_succ]
        refine wpAnyH_done (by kernel_rfl) ?_ _
        have hwd : Hid (wr.drew = w.drewN (r + 1)) := Lib.hid (by rw [hw.out]; rfl)
        clear h1 h2
        go_wp2
        go_roundw
        case rel => exact ⟨k + 1, r + 1, by omega, by go_num, hwd⟩
        case measure => simp [intOf]; omega
      · obtain rfl : k = m := by omega
        go_wp2
        go_ret
        exact ⟨rfl, r, hw.out⟩
theorem eq6_self (z : Nat → Int) : eq6 z z = true := by unfold eq6; simp
theorem self_six (d : Nat) (t : TypeId) (ht : Try.prog.underlying t = some (.array 6 5)) (z : Nat → Int) (hz : byte6 z) : SelfEq (d + 2) t (.agg (syC z)) := fun w => by
  rw [equal6 t ht z z hz hz d w, eq6_self]
theorem self_nd (d : Nat) (z : Nat → Int) (hz : byte6 z) : SelfEq (d + 3) 55 (.agg (ndC z)) := by
  refine self_struct (d + 2) _ _ [(37, 0), (5, 6)] (by kernel_rfl) (by kernel_rfl) (by kernel_rfl) (fun p hp => ?_)
  simp only [List.mem_cons, List.not_mem_nil, or_false] at hp
  rcases hp with rfl | rfl
  · exact ⟨.agg (syC z), fun w => by kernel_rfl, self_six d _ Try.underlying37 z hz⟩
  · exact ⟨.int .u8 0, fun w => by kernel_rfl, self_int (d + 1) _ .u8 _ Try.underlying5⟩
theorem self_eg (d : Nat) (z : Nat → Int) (hz : byte6 z) : SelfEq (d + 4) 58 (.agg (egC z)) := by
  refine self_struct (d + 3) _ _ [(55, 0), (56, 7)] (by kernel_rfl) (by kernel_rfl) (by kernel_rfl) (fun p hp => ?_)
  simp only [List.mem_cons, List.not_mem_nil, or_false] at hp
  rcases hp with rfl | rfl
  · exact ⟨.agg (ndC z), fun w => by kernel_rfl, self_nd d z hz⟩
  · exact ⟨.int .u32 0, fun w => by kernel_rfl, self_int (d + 2) _ .u32 _ Try.underlying56⟩
theorem self_mb (d : Nat) (m : Mb) (h : MbOk m) : SelfEq (d + 3) 39 (.agg (mbC m)) := by
  refine self_struct (d + 2) _ _ [(37, 0), (36, 6), (5, 12), (4, 13)] (by kernel_rfl) (by kernel_rfl) (by kernel_rfl) (fun p hp => ?_)
  simp only [List.mem_cons, List.not_mem_nil, or_false] at hp
  rcases hp with rfl | rfl | rfl | rfl
  · exact ⟨.agg (syC m.s), fun w => by kernel_rfl, self_six d _ Try.underlying37 m.s h.1⟩
  · exact ⟨.agg (syC m.k), fun w => by kernel_rfl, self_six d _ Try.underlying36 m.k h.2.1⟩
  · exact ⟨.int .u8 m.pr, fun w => by kernel_rfl, self_int (d + 1) _ .u8 _ Try.underlying5⟩
  · exact ⟨.bool m.up, fun w => by kernel_rfl, self_bool (d + 1) _ _ Try.underlying4⟩
theorem guard_mb : Try.prog.eqGuardType Try.prog.depth 39 = false := by kernel_rfl
theorem bdrewN {B : Nat} {a w : World} (h : Below B a w) (m : Nat) : Below B a (w.drewN m) := ⟨h.os, h.tape, h.output, h.size, h.block⟩
theorem sameE_b (A B : Option Addr) (m c d : Nat) (C : Nat → Array Value) (w : World) (ha : RdR w A m 8 C) (hb : RdR w B m 8 C) (hs : ∀ j, j < m → SelfEq 10000 58 (.agg (C j))) (hz : ∀ j, (C j).size = 8) (hm : m ≤ 140737488351232) :
    Calls Try.prog 13 #[.slice A m c, .slice B m d] w fun e w' => e = .returned (.bool true) ∧ Below w.heap.size w w' :=
  (sameE_yes A B m c d C w ha hb hs hz hm).mono fun e w' ⟨h1, r, h2⟩ => ⟨h1, by rw [h2]; exact bdrewN (Below.refl _ _) r⟩
/-- what both Edges answer is one list -/
theorem edges_agree {L : Nat → Mb} {hOk : ∀ j, MbOk (L j)} {n b1 b2 : Nat} {w1 w2 : World} {v1 v2 : Value} {r1 r2 k1 k2 : Int} (hk1 : chkM L n k1) (hk2 : chkM L n k2)
    (h1 : (k1 ≠ 0 ∧ r1 = k1 ∧ v1 = .slice none 0 0) ∨ (k1 = 0 ∧ EdgR L hOk n w1 b1 v1 r1))
    (h2 : (k2 ≠ 0 ∧ r2 = k2 ∧ v2 = .slice none 0 0) ∨ (k2 = 0 ∧ ((Dup L n ∧ r2 = 3 ∧ v2 = .slice none 0 0) ∨ (NoDup L n n ∧ r2 = 0 ∧ ∃ m E, Recs 8 E ∧ Placed L hOk n n m E ∧ OwnR w2 b2 58 8 v2 m E)))) :
    r1 = r2 ∧ ∃ (m c1 c2 : Nat) (A1 A2 : Option Addr) (E : Nat → Array Value), v1 = .slice A1 m c1 ∧ v2 = .slice A2 m c2 ∧ m ≤ n ∧ RdR w1 A1 m 8 E ∧ RdR w2 A2 m 8 E ∧ (∀ j, (E j).size = 8) ∧ ∀ j, j < m → SelfEq 10000 58 (.agg (E j)) := by
  obtain rfl := chkM_unique hk1 hk2
  have nil : ∀ {x : Int}, r1 = x → r2 = x → v1 = .slice none 0 0 → v2 = .slice none 0 0 → r1 = r2 ∧ ∃ (m c1 c2 : Nat) (A1 A2 : Option Addr) (E : Nat → Array Value), v1 = .slice A1 m c1 ∧ v2 = .slice A2 m c2 ∧ m ≤ n ∧ RdR w1 A1 m 8 E ∧ RdR w2 A2 m 8 E ∧ (∀ j, (E j).size = 8) ∧ ∀ j, j < m → SelfEq 10000 58 (.agg (E j)) :=
    fun e1 e2 e3 e4 => ⟨e1.trans e2.symm, 0, 0, 0, none, none, egA [], e3, e4, Nat.zero_le _, .inl rfl, .inl rfl, fun j => rfl, fun j hj => absurd hj (Nat.not_lt_zero _)⟩
  rcases h1 with ⟨a0, a1, a2⟩ | ⟨a0, S, hp, ha, a1⟩ <;> rcases h2 with ⟨c0, c1, c2⟩ | ⟨c0, c1⟩
  · exact nil a1 c1 a2 c2
  · exact (a0 c0).elim
  · exact (c0 a0).elim
  · rcases a1 with ⟨t1, t2, t3⟩ | ⟨t1, t2, t3⟩ <;> rcases c1 with ⟨d1, d2, d3⟩ | ⟨d1, d2, m, E, hE, hPl, hO⟩
    · exact nil t3 d2 t2 d3
    · exact (twin_pw t1 ((pw_perm hp).2 (nodup_pw (hOk := hOk) d1 n (Nat.le_refl _)))).elim
    · exact (dup_pw (hOk := hOk) d1 ((pw_perm hp).1 (strict_pw t1))).elim
    · obtain ⟨rfl, hag⟩ := placed_all hp t1 hPl
      obtain ⟨A1, c1, rfl, _, _, _, hr1⟩ := t3.shape (recs_eg S) (by decide)
      obtain ⟨A2, c2, rfl, _, _, _, hr2⟩ := hO.shape hE (by decide)
      refine ⟨t2.trans d2.symm, S.length, c1, c2, A1, A2, egA S, rfl, rfl, ?_, hr1, hr2.congr hag, fun j => rfl, fun j hj => ?_⟩
      · have := hp.length_eq; have := upl_len L hOk n; omega
      · rw [egA_at S j S[j] (List.getElem?_eq_getElem hj)]
        exact self_eg 9996 S[j].1 S[j].2
theorem ele_agree {L : Nat → Mb} {n : Nat} {i j r q : Int} (h1 : chkM L n r) (h2 : (r ≠ 0 ∧ i = 0) ∨ (r = 0 ∧ Best L n i)) (g1 : chkM L n q) (g2 : (q ≠ 0 ∧ j = 0) ∨ (q = 0 ∧ Best L n j)) : i = j ∧ r = q := by
  obtain rfl := chkM_unique h1 g1
  refine ⟨?_, rfl⟩
  rcases h2 with ⟨a, b⟩ | ⟨a, b⟩ <;> rcases g2 with ⟨c, d⟩ | ⟨c, d⟩
  · rw [b, d]
  · exact (a c).elim
  · exact (c a).elim
  · exact best_unique b d
theorem full_last {w : World} {b off m : Nat} {L : Nat → Mb} (h : RdR w (some ⟨b, off, none⟩) (m + 1) 14 (fullM L m)) : w.cell? ⟨b, off + m * 14 + 12, none⟩ = some (.int .u8 77) := by
  obtain ⟨b', off', e, hr⟩ := h.row (by omega)
  injection e with e
  injection e with e1 e2
  subst e1 e2
  have := hr.2 m (by omega)
  have e : fullM L m m = mbC mb77 := catR_hi (mbA L) (fun _ => mbC mb77) m 0
  rw [e] at this
  exact this 12 _ rfl
set_option maxHeartbeats 20000000 in
set_option maxRecDepth 100000 in
theorem walkDisElects (A : Option Addr) (n c : Nat) (L : Nat → Mb) (w : World) (w0 : InMbs w A n c L) :
    Calls Try.prog 3 #[.slice A n c] w fun e w' => e = .returned (.bool true) ∧ Below w.heap.size w w' := by
  obtain ⟨hR, hOk, hA, hnc, hc⟩ := w0
  have HRR := Lib.hid hR
  have HOk := Lib.hid hOk
  have hml : maxLen = 9223372036854775807 := rfl
  have HML := Lib.hid hml
  clear hml hR hA
  go_enter Try.func3, Try.ntmps3
  go_wp2_with fail
  refine (awake_any _).mono ?_
  rintro e wa ⟨rfl, hb⟩
  have HBa := Lib.hid hb
  clear hb
  go_wp2_with fail
  refine (of_any A n c L wa (HRR.out.below HBa.out rfl) (by omega)).mono ?_
  rintro e wb ⟨v, rfl, ho, hb⟩
  obtain ⟨A1, c1, rfl, hc1, hm1, _, hrd⟩ := ho.shape (recs_full L n) (by decide)
  obtain ⟨b1, off1, rfl, _⟩ := hrd.row (by omega)
  have HB := Lib.hid (HBa.out.trans (hb.mono HBa.out.size))
  have HF := Lib.hid hrd
  rw [HML.out] at hm1
  have hnc1 : (n : Int) ≤ (c1 : Int) := by omega
  have hnn : (n : Int) < (n : Int) + 1 := by omega
  clear ho hb hrd
  go_wp2_with fail
  refine (elect_any (some ⟨b1, off1, none⟩) n c1 L wb (full_list HF.out) hOk (by omega)).mono ?_
  rintro e w1 ⟨i, r, rfl, hk1, hq1, hb⟩
  have HS1 := Lib.hid hb
  clear hb
  go_wp2_with fail
  refine (docElect_any A n c L w1 (HRR.out.below (HB.out.trans (HS1.out.mono HB.out.size)) rfl) hOk (by omega)).mono ?_
  rintro e w2 ⟨i2, r2, rfl, hk2, hq2, hb⟩
  obtain ⟨rfl, rfl⟩ := ele_agree hk1 hq1 hk2 hq2
  have HS2 := Lib.hid (HS1.out.trans (hb.mono HS1.out.size))
  clear hb hk1 hq1 hk2 hq2 HS1
  go_wp2_with fail
  refine (edges_any (some ⟨b1, off1, none⟩) n c1 L w2 (full_list (HF.out.below HS2.out rfl)) hOk (by omega)).mono ?_
  rintro e w3 ⟨v3, r3, k3, rfl, hk3, hq3, hb⟩
  have HS3 := Lib.hid (HS2.out.trans (hb.mono HS2.out.size))
  clear hb HS2
  go_wp2_with fail
  refine (docEdges_any A n c L w3 (HRR.out.below (HB.out.trans (HS3.out.mono HB.out.size)) rfl) hOk (by omega)).mono ?_
  rintro e w4 ⟨v4, r4, k4, rfl, hk4, hq4, hb⟩
  obtain ⟨rfl, m, c3, c4, A3, A4, E, rfl, rfl, hmn, hr3, hr4, hz, hself⟩ := edges_agree hk3 hk4 hq3 hq4
  have HS4 := Lib.hid (HS3.out.trans (hb.mono HS3.out.size))
  have HE3 := Lib.hid (hr3.below hb rfl)
  have HE4 := Lib.hid hr4
  have HZ := Lib.hid hz
  have HSelf := Lib.hid hself
  have HW0 := Lib.hid (HB.out.trans (HS4.out.mono HB.out.size))
  have HF4 := Lib.hid (HF.out.below HS4.out rfl)
  clear hb hk3 hk4 hq3 hq4 hr3 hr4 hz hself HS3 HS4
  go_wp2_with fail
  go_loopw [46] (fun t wr => ∃ k : Nat, k ≤ n ∧ t = .int .i64 k ∧ Hid (Below w4.heap.size w4 wr)) (fun t _ => n - (intOf t).toNat)
  case atStart => exact ⟨0, by omega, rfl, Lib.hid (Below.refl _ _)⟩
  case round =>
    obtain ⟨k, hk, rfl, HW⟩ := hrel
    by_cases hlt : k < n
    rotate_left
    · obtain rfl : k = n := by omega
      have HE3' := Lib.hid (HE3.out.below HW.out rfl)
      have HE4' := Lib.hid (HE4.out.below HW.out rfl)
      go_wp2_with fail
      refine (sameE_b A3 A4 m c3 c4 E wr HE3'.out HE4'.out HSelf.out HZ.out (by omega)).mono ?_
      rintro e w5 ⟨rfl, hb⟩
      have HW5 := Lib.hid (HW.out.trans (hb.mono HW.out.size))
      have c77 := full_last (HF4.out.below HW5.out rfl)
      have HF7 : Hid (Below w.heap.size w w5) := Lib.hid (HW0.out.trans (HW5.out.mono HW0.out.size))
      clear hb
      go_wp2_with fail
      go_ret
      exact ⟨rfl, HF7.out⟩
    have hki : (k : Int) < (n : Int) := by omega
    obtain ⟨b, off, rfl, hrow⟩ := HRR.out.row (by omega)
    have HRow := Lib.hid hrow
    obtain ⟨b', off', e9, hrow2⟩ := (full_list HF4.out).row (by omega)
    injection e9 with e9
    injection e9 with e9 e8
    subst e9 e8
    have HR2 := Lib.hid hrow2
    obtain ⟨mm, hmm⟩ : ∃ m, L k = m := ⟨_, rfl⟩
    have HMk := Lib.hid hmm
    have HOm : Hid (MbOk mm) := Lib.hid (hmm ▸ hOk k)
    have hkn1 : (k : Int) < (n : Int) + 1 := by omega
    clear hrow hrow2 hmm
    have h1 : Hid (wr.rangeAt b (off + k * 14) (mbC mm).toList) := Lib.hid (by have h9 := rangeAt_below (HRow.out.2 k hlt) (HW0.out.trans (HW.out.mono HW0.out.size)) HRow.out.1; unfold mbA at h9; rw [HMk.out] at h9; exact h9)
    go_wp2_with (refine wpList_ld (op := ⟨some 50, _, _, _, _, _⟩) (by rfl) 39 (.tmp 49) rfl b (off + k * 14) rfl (mbC mm) _ h1.out Try.underlying39 rfl info_mbR ?_; refine Hid.out ?_)
    refine Lib.hid ?_
    clear h1
    obtain ⟨N1, hN1⟩ : ∃ N, wr.heap.size = N := ⟨_, rfl⟩
    have HN1 := Lib.hid hN1
    clear hN1
    go_wp2_with (refine wpList_new (op := ⟨some 13, _, _, _, _, _⟩) rfl 39 rfl (mbC mb0) zero_mbR N1 HN1.out ?_; intro w1 k1 b1 s1; refine Hid.out ?_)
    refine Lib.hid ?_
    have K13 := Lib.hid k1
    clear k1
    have le_HW_N1 : w4.heap.size ≤ N1 := by rw [← HN1.out]; exact HW.out.size
    have HWn := Lib.hid (HW.out.trans (b1.mono HW.out.size))
    clear HW
    have HW := HWn
    clear HWn
    clear b1 HN1
    go_wp2_with (refine wpList_st rfl 39 (.tmp 13) (.tmp 50) rfl N1 0 rfl (.agg (mbC mm)) (mbC mm) rfl rfl info_mbR (mbC_one _) K13.out (Nat.le_of_ble_eq_true rfl) (C' := mbC mm) (by kernel_rfl) ?_; intro w2 q1; refine Hid.out ?_)
    refine Lib.hid ?_
    have HWn := Lib.hid (HW.out.trans (q1.2.1 _ (by omega)))
    clear HW
    have HW := HWn
    clear HWn
    have K13n : Hid (Blk 39 w2 N1 (mbC mm)) := Lib.hid q1.1
    clear K13
    have K13 := K13n
    clear K13n q1
    go_wp2_with fail
    refine wp_region_held_drew (S := fun w' => Blk 39 w' N1 (mbC mm) ∧ Below w4.heap.size w4 w') (by kernel_rfl) ⟨K13.out, HW.out.drew⟩ (fun hS => ?_)
    generalize hW3 : w2.drew = W3 at hS ⊢
    clear hW3
    clear K13
    clear HW
    have K13 := Lib.hid hS.1
    have HW := Lib.hid hS.2
    refine takeY (i := 0) (some 51) (v := .slice (some ⟨b1, off1, none⟩) (n + 1) c1) rfl rfl (by kernel_rfl) (by kernel_rfl) (by kernel_rfl) (fun _ _ _ h => h) (by rfl) (fun w' hS => by go_simp) hS ?_
    simp only [Act.put, List.setIfInBounds_toArray, List.set_cons_zero, List.set_cons_succ]
    refine takeY (i := 1) (some 52) (v := .int .i64 (k : Int)) rfl rfl (by kernel_rfl) (by kernel_rfl) (by kernel_rfl) (fun _ _ _ h => h) (by rfl) (fun w' hS => by go_simp) hS ?_
    simp only [Act.put, List.setIfInBounds_toArray, List.set_cons_zero, List.set_cons_succ]
    refine takeY (i := 2) (some 53) (v := .pointer (some ⟨b1, off1 + k * 14, none⟩)) rfl rfl (by kernel_rfl) (by kernel_rfl) (by kernel_rfl) (fun _ _ _ h => h) (by rfl) (fun w' hS => by (clear hS; go_simp)) hS ?_
    simp only [Act.put, List.setIfInBounds_toArray, List.set_cons_zero, List.set_cons_succ]
    refine takeL (i := 3) (some 54) 40 (.tmp 53) b1 (off1 + k * 14) (mbC mm) _ rfl rfl (by kernel_rfl) (by kernel_rfl) (by kernel_rfl) (fun _ _ _ h => h) (by rfl) rfl rfl (fun w' hS => by have h9 := rangeAt_below (HR2.out.2 k hlt) hS.2 HR2.out.1; unfold mbA at h9; rw [HMk.out] at h9; exact h9) Try.underlying40 rfl info_mbP hS ?_
    simp only [Act.put, List.setIfInBounds_toArray, List.set_cons_zero, List.set_cons_succ]
    refine takeL (i := 4) (some 55) 39 (.tmp 13) N1 0 (mbC mm) _ rfl rfl (by kernel_rfl) (by kernel_rfl) (by kernel_rfl) (fun _ _ _ h => h) (by rfl) rfl rfl (fun w' hS => hS.1.all) Try.underlying39 rfl info_mbR hS ?_
    simp only [Act.put, List.setIfInBounds_toArray, List.set_cons_zero, List.set_cons_succ]
    refine takeY (i := 5) (some 56) (v := .bool false) rfl rfl (by kernel_rfl) (by kernel_rfl) (by kernel_rfl) (fun _ _ _ h => h) (by rfl) (fun w' hS => by exact neq_self _ _ (.tmp 54) (.tmp 55) _ _ rfl rfl guard_mb (mbC mm) (self_mb 9997 mm HOm.out) rfl rfl _) hS ?_
    simp only [Act.put, List.setIfInBounds_toArray, List.set_cons_zero, List.set_cons_succ]
    clear hS
    refine wpAnyH_done (by kernel_rfl) ?_ _
    go_wp2_with fail
    go_roundw
    case rel => exact ⟨k + 1, by omega, by go_num, HW⟩
    case measure => simp only [intOf]; omega
end Go.Proofs.Ytahflakanbhapaa
