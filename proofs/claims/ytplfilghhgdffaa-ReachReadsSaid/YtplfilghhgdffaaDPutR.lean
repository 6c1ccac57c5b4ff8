/- The document's PutReach. Each theorem states its conditions. -/
import Derived.Test.YtplfilghhgdffaaRPut
import Derived.Test.YtplfilghhgdffaaRPfx
namespace Go.Proofs.Ytplfilghhgdffaa
open Go.RowKit
set_option linter.unusedVariables false

theorem size_any (l : Nat) (w : World) (hl : l ≤ 255) : Calls Try.prog 38 #[.int .i64 (l : Int)] w fun e w' => e = .returned (.int .i64 (nd l : Int)) ∧ w = w' := by
  have hN : Hid (nd l = (l + 7) / 8) := Lib.hid (by unfold nd; omega)
  go_enter Try.func38, Try.ntmps38
  go_wp2_with fail
  go_loop [3] (fun t => ∃ k : Nat, 8 * k < l + 8 ∧ t = .int .i64 k) (fun t => 64 - (intOf t).toNat)
  case atStart => exact ⟨0, by omega, rfl⟩
  case round =>
    obtain ⟨k, hk, rfl⟩ := hrel
    by_cases hlt : 8 * k < l
    · have h1 : (8 : Int) * (k : Int) < (l : Int) := by omega
      go_wp2_with fail
      go_round
      case rel => exact ⟨k + 1, by omega, by go_num⟩
      case measure => simp [intOf]; omega
    · have h1 : ¬ (8 : Int) * (k : Int) < (l : Int) := by omega
      have e : Hid ((nd l : Int) = (k : Int)) := Lib.hid (by rw [hN.out]; omega)
      go_wp2_with fail
      go_ret
      exact ⟨by rw [e.out]; rfl, rfl⟩
theorem form_yes (fam len : Int) (z : Nat → Int) (w : World) (hz : Bytes z) (h : Form fam len z) : Calls Try.prog 31 #[.agg (pvC fam len z)] w fun e w' => e = .returned (.bool true) ∧ Below w.heap.size w w' :=
  (form_any fam len z w hz).mono fun e w' ⟨h1, h2⟩ => ⟨by rw [h1, decide_eq_true h], h2⟩
theorem form_no (fam len : Int) (z : Nat → Int) (w : World) (hz : Bytes z) (h : ¬ Form fam len z) : Calls Try.prog 31 #[.agg (pvC fam len z)] w fun e w' => e = .returned (.bool false) ∧ Below w.heap.size w w' :=
  (form_any fam len z w hz).mono fun e w' ⟨h1, h2⟩ => ⟨by rw [h1, decide_eq_false h], h2⟩
theorem vals_snocR (z : Nat → Int) (n : Nat) : vals z n ++ [.int .u8 (z n)] = vals z (n + 1) := by
  rw [vals_add]
  rfl
theorem lenL_4 (r : Rc) (h : r.fam = 4) : lenL r = [.int .u8 (flagI r.dn + r.len)] := by unfold lenL; rw [if_pos h]
theorem lenL_6 (r : Rc) (h : r.fam = 6) : lenL r = [.int .u8 (flagI r.dn), .int .u8 r.len] := by unfold lenL; rw [if_neg (by rw [h]; decide)]
theorem two_news (w : World) (a b : Value) (t : TypeId) : ∀ j u, [a, b][j]? = some u → (w.alloc (.cells #[a, b] t)).cell? ((⟨w.heap.size, 0, none⟩ : Addr).add j) = some u := by
  intro j u hu
  rw [add_none, Nat.zero_add, cell_of_row _ _ j _ _ _ (heap_alloc_new w (.cells #[a, b] t))]
  simpa using hu
theorem u8_two (x y : Int) : ∀ u ∈ [Value.int .u8 x, .int .u8 y], u.oneCell' = true := by
  intro u hu; simp only [List.mem_cons, List.not_mem_nil, or_false] at hu; rcases hu with rfl | rfl <;> rfl

set_option maxHeartbeats 4000000 in
set_option maxRecDepth 100000 in
theorem refPutReach_4 (A : Option Addr) (m c : Nat) (L : Nat → Rc) (w : World) (h : RdR w A m 20 (rcA L)) (hL : ∀ j, RcOk (L j)) (hm : m ≤ 11) (hM : ∀ k, k < m → RGood 4 (L k)) :
    Calls Try.prog 32 #[.int .u8 4, .slice A m c] w fun e w' => ∃ v, e = .returned v ∧ w'.ownsRow w.heap.size 5 1 v (flatR L m).length (flatR L m) ∧ Below w.heap.size w w' := by
  have HM := Lib.hid hM
  have HR := Lib.hid h
  have HL := Lib.hid hL
  have HFB := Lib.hid (fun k (hk : k ≤ m) => flatR_len L k fun j hj => (hM j (by omega)).2.1)
  have q0 : (m : Int) ≤ 11 := by omega
  clear h hM hL
  go_enter Try.func32, Try.ntmps32
  go_wp2_with fail
  go_loopw [5, 12] (fun p i wr => ∃ k : Nat, k ≤ m ∧ i = .int .i64 k ∧ Hid (wr.ownsRow w.heap.size 5 1 p (flatR L k).length (flatR L k)) ∧ Hid (Below w.heap.size w wr))
    (fun _ i _ => m - (intOf i).toNat)
  case atStart => exact ⟨0, by omega, rfl, Lib.hid (World.ownsRow_nil _ _ _ _), Lib.hid (bself w)⟩
  case round =>
    obtain ⟨k, hk, rfl, HO, HW⟩ := hrel
    by_cases hkm : k < m
    · obtain ⟨wo, rfl⟩ : ∃ wo : World, wo = wr := ⟨_, rfl⟩
      obtain ⟨b, off, rfl, hr⟩ := (HR.out.below HW.out rfl).row (by omega)
      have hrg : Hid (wo.rangeAt b (off + k * 20) (rcC (L k)).toList) := Lib.hid (hr.2 k hkm)
      clear hr
      have HX := Lib.hid (IsRc.new wo rc0)
      have hall := Lib.hid (rcC_all (L k))
      go_wp2_with (first
        | (refine wpList_load_mid rfl 47 (.tmp 14) rfl b (off + k * 20) rfl _ _ hrg.out Try.underlying47 rfl (hi_rc (L k)) ?_)
        | (refine store_blk rfl (.tmp 7) (.tmp 15) (cells := rcC (L k)) rfl rfl rfl HX.out info_rc rfl hall.out ?_; intro w1 hg1 hb1 ho1; refine Hid.out ?_))
      refine Lib.hid ?_
      have HT1 := Lib.hid (show IsRc w1 wo.heap.size (L k) from hg1)
      have HW1 := Lib.hid (((bself wo).alloc (Nat.le_refl _) _).trans (hb1 wo.heap.size (Nat.le_refl _)))
      clear hg1 hb1 ho1 hrg HX hall
      have hRk := HL.out k
      have HF : Hid (flatR L k ++ recV (L k) = flatR L (k + 1)) := Lib.hid rfl
      have hbw : w.heap.size ≤ wo.heap.size := HW.out.size
      have hT1 : wo.heap.size < w1.heap.size := HT1.out.lt
      have HGd := Lib.hid (HM.out k hkm)
      have HFl := HFB.out k (by omega)
      obtain ⟨r, hr⟩ : ∃ r, L k = r := ⟨_, rfl⟩
      rw [hr] at HT1 hRk HF HGd
      clear hr
      obtain ⟨F, hF⟩ : ∃ F, flatR L k = F := ⟨_, rfl⟩
      rw [hF] at HO HF HFl
      clear hF
      have HB1 := Lib.hid (HW.out.trans (HW1.out.mono hbw))
      have hO1 := Lib.hid (ownsRow_below' HO.out HW1.out)
      have hfar : Hid (u5.ownBlock ≠ some wo.heap.size) := Lib.hid (fun e => by have := (HO.out.lt _ e).2; omega)
      have hme := hRk.2.2
      have HFam := Lib.hid HGd.out.1
      have hsz : 0 ≤ r.len ∧ r.len ≤ 128 := by rcases HGd.out.2.1 with ⟨_, h1, h2⟩ | ⟨_, h1, h2⟩ <;> exact ⟨h1, by omega⟩
      have hnd := nd_le r.len hsz.1 hsz.2
      have hs0 := hsz.1
      have hs1 := hsz.2
      have hs2 : 128 + r.len ≤ 160 := by rcases HGd.out.2.1 with ⟨_, h1, h2⟩ | ⟨h0, h1, h2⟩ <;> first | omega | (have := HFam.out; omega)
      have hs3 : 0 ≤ 128 + r.len := by omega
      have HSz : Hid (r.len = ((r.len.toNat : Nat) : Int)) := Lib.hid (Int.toNat_of_nonneg hsz.1).symm
      have HN := Lib.hid (fun W => size_any r.len.toNat W (by omega))
      rw [← HSz.out] at HN
      have hLL := Lib.hid (lenL_4 r HFam.out)
      have hll := lenL_len r
      have c18 := HT1.out.me
      clear hRk HO HW1
      have HPut := Lib.hid (fun W => bytes_any r.me 4 W (by omega) (by omega) (by omega))
      go_wp2_with fail
      refine (HPut.out _).mono ?_
      rintro e w3 ⟨g, rfl, hg, hog, hb3⟩
      have HG := Lib.hid hog
      have HT3 := Lib.hid (HT1.out.below hb3 hT1)
      have HB3 := Lib.hid (HB1.out.trans (hb3.mono HB1.out.size))
      have hO3 := Lib.hid (ownsRow_below' hO1.out hb3)
      have hT3 : wo.heap.size < w3.heap.size := HT3.out.lt
      clear hb3 hog HT1 hO1 HB1 c18 hT1 HPut
      cases hd : r.dn
      · have hfl : Hid (lenL r = [.int .u8 (r.len)]) := Lib.hid (by rw [hLL.out, hd]; simp [flagI])
        have HD := Lib.hid hd
        clear hd
        go_wp2_with (first
          | (at_builtin; refine app_s rfl (.tmp 16) (.tmp 20) rfl w u5 F.length F rfl hO3.out HB3.out ⟨g, 0, none⟩ 4 4 _ rfl rfl (rd_newsB HG.out.rd) (vals_one _ _) (by omega) ?_; intro v4 w4 ho4 hb4 hs4 hk4; have HT4 : Hid (IsRc w4 wo.heap.size r) := Lib.hid ((hk4 _ hT3 hfar.out).1.trans HT3.out); have hf4 : Hid (v4.ownBlock ≠ some wo.heap.size) := Lib.hid (hk4 _ hT3 hfar.out).2; have c19 := HT4.out.dn; rw [HD.out] at c19; have c1 := HT4.out.len; have hT4 : wo.heap.size < w4.heap.size := HT4.out.lt)
          | (at_builtin; refine app_s rfl (.tmp 26) (.tmp 33) rfl w v4 (F.length + 4) _ rfl (ho4.alloc _) (hb4.alloc hb4.size _) ⟨w4.heap.size, 0, none⟩ 1 1 [.int .u8 (r.len)] rfl rfl (cell_one_new w4 _ _) (u8_one _) (by omega) ?_; intro v6 w6 ho6 hb6 hs6 hk6; have HT6 : Hid (IsRc w6 wo.heap.size r) := Lib.hid ((hk6 _ (by simp; omega) hf4.out).1.trans ((Below.heap_alloc w4 _ _ hT4).trans HT4.out)); have hf6 : Hid (v6.ownBlock ≠ some wo.heap.size) := Lib.hid (hk6 _ (by simp; omega) hf4.out).2; have d1 := HT6.out.len))
        rw [← hfl.out] at ho6
        refine (HN.out _).mono ?_
        rintro e w7 ⟨rfl, rfl⟩
        have hlen : Hid (F.length + 4 + 1 = (F ++ vals (putZ r.me 4) 4 ++ lenL r).length) := Lib.hid (by rw [hfl.out]; simp only [List.length_append, vals_len, List.length_cons, List.length_nil])
        have HO6 := Lib.hid ho6
        have HB6 := Lib.hid hb6
        clear ho6 hb6 hs6 hk6 ho4 hb4 hs4 hk4 HT4 hf4 hT4 c19 c1 d1 HT3 HB3 hO3 hT3 HG hg
        obtain ⟨F2, hF2⟩ : ∃ F2, F ++ vals (putZ r.me 4) 4 ++ lenL r = F2 := ⟨_, rfl⟩
        have HPush := Lib.hid (recV_push F r)
        have hF2l : Hid (F2.length = F.length + 4 + (lenL r).length) := Lib.hid (by rw [← hF2]; simp only [List.length_append, vals_len])
        rw [hF2] at HO6 hlen HPush
        clear hF2
        rw [hlen.out] at HO6
        have hF2b : F2.length ≤ 400 := by have := hF2l.out; omega
        go_wp2_with fail
        go_loopw [5, 48] (fun p t wr => ∃ i : Nat, i ≤ nd r.len ∧ t = .int .i64 i ∧ Hid (wr.ownsRow w.heap.size 5 1 p (F2.length + i) (F2 ++ vals r.z i)) ∧ Hid (Below w.heap.size w wr) ∧ Hid (IsRc wr wo.heap.size r) ∧ Hid (p.ownBlock ≠ some wo.heap.size))
          (fun _ t _ => nd r.len - (intOf t).toNat)
        case atStart => exact ⟨0, by omega, rfl, Lib.hid (by simpa [vals] using HO6.out), HB6, HT6, hf6⟩
        case round =>
          obtain ⟨i, hi, rfl, HOi, HWi, HTi, HFi⟩ := hrel
          clear HO6 HB6 HT6 hf6
          have hTs : wo.heap.size < wr.heap.size := HTi.out.lt
          by_cases hin : i < nd r.len
          · have ci := (HTi.out.at (2 + i)).trans (rcC_z r i (by omega))
            have hi16 : (i : Int) < 16 := by omega
            have hind : (i : Int) < (nd r.len : Int) := by omega
            have hsn := Lib.hid (vals_snocR r.z i)
            go_wp2_with (first | (at_builtin; refine app_s rfl (.tmp 51) (.tmp 57) rfl w u5 (F2.length + i) _ rfl (HOi.out.alloc _) (HWi.out.alloc HWi.out.size _) ⟨wr.heap.size, 0, none⟩ 1 1 [.int .u8 (r.z i)] rfl rfl (cell_one_new wr _ _) (u8_one _) (by omega) ?_; intro v8 w8 ho8 hb8 hs8 hk8; have hk9 := Lib.hid (hk8 wo.heap.size (by simp; omega) HFi.out)))
            rw [List.append_assoc, hsn.out] at ho8
            have HO8 := Lib.hid ho8
            have HB8 := Lib.hid hb8
            clear ho8 hb8 hs8 hk8 ci
            go_wp2_with fail
            go_roundw
            case rel => exact ⟨i + 1, by omega, by go_num, HO8, HB8, Lib.hid (hk9.out.1.trans ((Below.heap_alloc wr _ _ hTs).trans HTi.out)), Lib.hid hk9.out.2⟩
            case measure => simp only [intOf]; omega
          · obtain rfl : i = nd r.len := by omega
            go_wp2_with fail
            go_roundw
            case rel =>
              have hfin : Hid (wr.ownsRow w.heap.size 5 1 u5 (flatR L (k + 1)).length (flatR L (k + 1))) := Lib.hid (by
                have h := HOi.out
                rw [HPush.out.1, HF.out] at h
                have e := HPush.out.2
                rw [HF.out] at e
                rw [← e, ← hF2l.out]
                exact h)
              first | exact ⟨k + 1, by omega, by go_num, hfin, HWi⟩ | exact ⟨_, _, _, ⟨k + 1, by omega, by go_num, hfin, HWi⟩, rfl, rfl, rfl⟩ | ((repeat apply Exists.intro); exact ⟨⟨k + 1, by omega, by go_num, hfin, HWi⟩, rfl⟩)
            case measure => simp only [intOf]; omega
      · have hfl : Hid (lenL r = [.int .u8 (128 + r.len)]) := Lib.hid (by rw [hLL.out, hd]; rfl)
        have HD := Lib.hid hd
        clear hd
        go_wp2_with (first
          | (at_builtin; refine app_s rfl (.tmp 16) (.tmp 20) rfl w u5 F.length F rfl hO3.out HB3.out ⟨g, 0, none⟩ 4 4 _ rfl rfl (rd_newsB HG.out.rd) (vals_one _ _) (by omega) ?_; intro v4 w4 ho4 hb4 hs4 hk4; have HT4 : Hid (IsRc w4 wo.heap.size r) := Lib.hid ((hk4 _ hT3 hfar.out).1.trans HT3.out); have hf4 : Hid (v4.ownBlock ≠ some wo.heap.size) := Lib.hid (hk4 _ hT3 hfar.out).2; have c19 := HT4.out.dn; rw [HD.out] at c19; have c1 := HT4.out.len; have hT4 : wo.heap.size < w4.heap.size := HT4.out.lt)
          | (at_builtin; refine app_s rfl (.tmp 26) (.tmp 33) rfl w v4 (F.length + 4) _ rfl (ho4.alloc _) (hb4.alloc hb4.size _) ⟨w4.heap.size, 0, none⟩ 1 1 [.int .u8 (128 + r.len)] rfl rfl (cell_one_new w4 _ _) (u8_one _) (by omega) ?_; intro v6 w6 ho6 hb6 hs6 hk6; have HT6 : Hid (IsRc w6 wo.heap.size r) := Lib.hid ((hk6 _ (by simp; omega) hf4.out).1.trans ((Below.heap_alloc w4 _ _ hT4).trans HT4.out)); have hf6 : Hid (v6.ownBlock ≠ some wo.heap.size) := Lib.hid (hk6 _ (by simp; omega) hf4.out).2; have d1 := HT6.out.len))
        rw [← hfl.out] at ho6
        refine (HN.out _).mono ?_
        rintro e w7 ⟨rfl, rfl⟩
        have hlen : Hid (F.length + 4 + 1 = (F ++ vals (putZ r.me 4) 4 ++ lenL r).length) := Lib.hid (by rw [hfl.out]; simp only [List.length_append, vals_len, List.length_cons, List.length_nil])
        have HO6 := Lib.hid ho6
        have HB6 := Lib.hid hb6
        clear ho6 hb6 hs6 hk6 ho4 hb4 hs4 hk4 HT4 hf4 hT4 c19 c1 d1 HT3 HB3 hO3 hT3 HG hg
        obtain ⟨F2, hF2⟩ : ∃ F2, F ++ vals (putZ r.me 4) 4 ++ lenL r = F2 := ⟨_, rfl⟩
        have HPush := Lib.hid (recV_push F r)
        have hF2l : Hid (F2.length = F.length + 4 + (lenL r).length) := Lib.hid (by rw [← hF2]; simp only [List.length_append, vals_len])
        rw [hF2] at HO6 hlen HPush
        clear hF2
        rw [hlen.out] at HO6
        have hF2b : F2.length ≤ 400 := by have := hF2l.out; omega
        go_wp2_with fail
        go_loopw [5, 48] (fun p t wr => ∃ i : Nat, i ≤ nd r.len ∧ t = .int .i64 i ∧ Hid (wr.ownsRow w.heap.size 5 1 p (F2.length + i) (F2 ++ vals r.z i)) ∧ Hid (Below w.heap.size w wr) ∧ Hid (IsRc wr wo.heap.size r) ∧ Hid (p.ownBlock ≠ some wo.heap.size))
          (fun _ t _ => nd r.len - (intOf t).toNat)
        case atStart => exact ⟨0, by omega, rfl, Lib.hid (by simpa [vals] using HO6.out), HB6, HT6, hf6⟩
        case round =>
          obtain ⟨i, hi, rfl, HOi, HWi, HTi, HFi⟩ := hrel
          clear HO6 HB6 HT6 hf6
          have hTs : wo.heap.size < wr.heap.size := HTi.out.lt
          by_cases hin : i < nd r.len
          · have ci := (HTi.out.at (2 + i)).trans (rcC_z r i (by omega))
            have hi16 : (i : Int) < 16 := by omega
            have hind : (i : Int) < (nd r.len : Int) := by omega
            have hsn := Lib.hid (vals_snocR r.z i)
            go_wp2_with (first | (at_builtin; refine app_s rfl (.tmp 51) (.tmp 57) rfl w u5 (F2.length + i) _ rfl (HOi.out.alloc _) (HWi.out.alloc HWi.out.size _) ⟨wr.heap.size, 0, none⟩ 1 1 [.int .u8 (r.z i)] rfl rfl (cell_one_new wr _ _) (u8_one _) (by omega) ?_; intro v8 w8 ho8 hb8 hs8 hk8; have hk9 := Lib.hid (hk8 wo.heap.size (by simp; omega) HFi.out)))
            rw [List.append_assoc, hsn.out] at ho8
            have HO8 := Lib.hid ho8
            have HB8 := Lib.hid hb8
            clear ho8 hb8 hs8 hk8 ci
            go_wp2_with fail
            go_roundw
            case rel => exact ⟨i + 1, by omega, by go_num, HO8, HB8, Lib.hid (hk9.out.1.trans ((Below.heap_alloc wr _ _ hTs).trans HTi.out)), Lib.hid hk9.out.2⟩
            case measure => simp only [intOf]; omega
          · obtain rfl : i = nd r.len := by omega
            go_wp2_with fail
            go_roundw
            case rel =>
              have hfin : Hid (wr.ownsRow w.heap.size 5 1 u5 (flatR L (k + 1)).length (flatR L (k + 1))) := Lib.hid (by
                have h := HOi.out
                rw [HPush.out.1, HF.out] at h
                have e := HPush.out.2
                rw [HF.out] at e
                rw [← e, ← hF2l.out]
                exact h)
              first | exact ⟨k + 1, by omega, by go_num, hfin, HWi⟩ | exact ⟨_, _, _, ⟨k + 1, by omega, by go_num, hfin, HWi⟩, rfl, rfl, rfl⟩ | ((repeat apply Exists.intro); exact ⟨⟨k + 1, by omega, by go_num, hfin, HWi⟩, rfl⟩)
            case measure => simp only [intOf]; omega
    · obtain rfl : k = m := by omega
      go_wp2
      go_ret
      exact ⟨_, rfl, HO.out, HW.out⟩

set_option maxHeartbeats 4000000 in
set_option maxRecDepth 100000 in
theorem refPutReach_6 (A : Option Addr) (m c : Nat) (L : Nat → Rc) (w : World) (h : RdR w A m 20 (rcA L)) (hL : ∀ j, RcOk (L j)) (hm : m ≤ 11) (hM : ∀ k, k < m → RGood 6 (L k)) :
    Calls Try.prog 32 #[.int .u8 6, .slice A m c] w fun e w' => ∃ v, e = .returned v ∧ w'.ownsRow w.heap.size 5 1 v (flatR L m).length (flatR L m) ∧ Below w.heap.size w w' := by
  have HM := Lib.hid hM
  have HR := Lib.hid h
  have HL := Lib.hid hL
  have HFB := Lib.hid (fun k (hk : k ≤ m) => flatR_len L k fun j hj => (hM j (by omega)).2.1)
  have q0 : (m : Int) ≤ 11 := by omega
  clear h hM hL
  go_enter Try.func32, Try.ntmps32
  go_wp2_with fail
  go_loopw [5, 12] (fun p i wr => ∃ k : Nat, k ≤ m ∧ i = .int .i64 k ∧ Hid (wr.ownsRow w.heap.size 5 1 p (flatR L k).length (flatR L k)) ∧ Hid (Below w.heap.size w wr))
    (fun _ i _ => m - (intOf i).toNat)
  case atStart => exact ⟨0, by omega, rfl, Lib.hid (World.ownsRow_nil _ _ _ _), Lib.hid (bself w)⟩
  case round =>
    obtain ⟨k, hk, rfl, HO, HW⟩ := hrel
    by_cases hkm : k < m
    · obtain ⟨wo, rfl⟩ : ∃ wo : World, wo = wr := ⟨_, rfl⟩
      obtain ⟨b, off, rfl, hr⟩ := (HR.out.below HW.out rfl).row (by omega)
      have hrg : Hid (wo.rangeAt b (off + k * 20) (rcC (L k)).toList) := Lib.hid (hr.2 k hkm)
      clear hr
      have HX := Lib.hid (IsRc.new wo rc0)
      have hall := Lib.hid (rcC_all (L k))
      go_wp2_with (first
        | (refine wpList_load_mid rfl 47 (.tmp 14) rfl b (off + k * 20) rfl _ _ hrg.out Try.underlying47 rfl (hi_rc (L k)) ?_)
        | (refine store_blk rfl (.tmp 7) (.tmp 15) (cells := rcC (L k)) rfl rfl rfl HX.out info_rc rfl hall.out ?_; intro w1 hg1 hb1 ho1; refine Hid.out ?_))
      refine Lib.hid ?_
      have HT1 := Lib.hid (show IsRc w1 wo.heap.size (L k) from hg1)
      have HW1 := Lib.hid (((bself wo).alloc (Nat.le_refl _) _).trans (hb1 wo.heap.size (Nat.le_refl _)))
      clear hg1 hb1 ho1 hrg HX hall
      have hRk := HL.out k
      have HF : Hid (flatR L k ++ recV (L k) = flatR L (k + 1)) := Lib.hid rfl
      have hbw : w.heap.size ≤ wo.heap.size := HW.out.size
      have hT1 : wo.heap.size < w1.heap.size := HT1.out.lt
      have HGd := Lib.hid (HM.out k hkm)
      have HFl := HFB.out k (by omega)
      obtain ⟨r, hr⟩ : ∃ r, L k = r := ⟨_, rfl⟩
      rw [hr] at HT1 hRk HF HGd
      clear hr
      obtain ⟨F, hF⟩ : ∃ F, flatR L k = F := ⟨_, rfl⟩
      rw [hF] at HO HF HFl
      clear hF
      have HB1 := Lib.hid (HW.out.trans (HW1.out.mono hbw))
      have hO1 := Lib.hid (ownsRow_below' HO.out HW1.out)
      have hfar : Hid (u5.ownBlock ≠ some wo.heap.size) := Lib.hid (fun e => by have := (HO.out.lt _ e).2; omega)
      have hme := hRk.2.2
      have HFam := Lib.hid HGd.out.1
      have hsz : 0 ≤ r.len ∧ r.len ≤ 128 := by rcases HGd.out.2.1 with ⟨_, h1, h2⟩ | ⟨_, h1, h2⟩ <;> exact ⟨h1, by omega⟩
      have hnd := nd_le r.len hsz.1 hsz.2
      have hs0 := hsz.1
      have hs1 := hsz.2
      have hs2 : 128 + r.len ≤ 256 := by rcases HGd.out.2.1 with ⟨_, h1, h2⟩ | ⟨h0, h1, h2⟩ <;> first | omega | (have := HFam.out; omega)
      have hs3 : 0 ≤ 128 + r.len := by omega
      have HSz : Hid (r.len = ((r.len.toNat : Nat) : Int)) := Lib.hid (Int.toNat_of_nonneg hsz.1).symm
      have HN := Lib.hid (fun W => size_any r.len.toNat W (by omega))
      rw [← HSz.out] at HN
      have hLL := Lib.hid (lenL_6 r HFam.out)
      have hll := lenL_len r
      have c18 := HT1.out.me
      clear hRk HO HW1
      have HPut := Lib.hid (fun W => bytes_any r.me 4 W (by omega) (by omega) (by omega))
      go_wp2_with fail
      refine (HPut.out _).mono ?_
      rintro e w3 ⟨g, rfl, hg, hog, hb3⟩
      have HG := Lib.hid hog
      have HT3 := Lib.hid (HT1.out.below hb3 hT1)
      have HB3 := Lib.hid (HB1.out.trans (hb3.mono HB1.out.size))
      have hO3 := Lib.hid (ownsRow_below' hO1.out hb3)
      have hT3 : wo.heap.size < w3.heap.size := HT3.out.lt
      clear hb3 hog HT1 hO1 HB1 c18 hT1 HPut
      cases hd : r.dn
      · have hfl : Hid (lenL r = [.int .u8 0, .int .u8 r.len]) := Lib.hid (by rw [hLL.out, hd]; rfl)
        have HD := Lib.hid hd
        clear hd
        go_wp2_with (first
          | (at_builtin; refine app_s rfl (.tmp 16) (.tmp 20) rfl w u5 F.length F rfl hO3.out HB3.out ⟨g, 0, none⟩ 4 4 _ rfl rfl (rd_newsB HG.out.rd) (vals_one _ _) (by omega) ?_; intro v4 w4 ho4 hb4 hs4 hk4; have HT4 : Hid (IsRc w4 wo.heap.size r) := Lib.hid ((hk4 _ hT3 hfar.out).1.trans HT3.out); have hf4 : Hid (v4.ownBlock ≠ some wo.heap.size) := Lib.hid (hk4 _ hT3 hfar.out).2; have c19 := HT4.out.dn; rw [HD.out] at c19; have c1 := HT4.out.len; have hT4 : wo.heap.size < w4.heap.size := HT4.out.lt)
          | (at_builtin; refine app_s rfl (.tmp 35) (.tmp 42) rfl w v4 (F.length + 4) _ rfl (ho4.alloc _) (hb4.alloc hb4.size _) ⟨w4.heap.size, 0, none⟩ 2 2 [.int .u8 0, .int .u8 r.len] rfl rfl (two_news w4 _ _ _) (u8_two _ _) (by omega) ?_; intro v6 w6 ho6 hb6 hs6 hk6; have HT6 : Hid (IsRc w6 wo.heap.size r) := Lib.hid ((hk6 _ (by simp; omega) hf4.out).1.trans ((Below.heap_alloc w4 _ _ hT4).trans HT4.out)); have hf6 : Hid (v6.ownBlock ≠ some wo.heap.size) := Lib.hid (hk6 _ (by simp; omega) hf4.out).2; have d1 := HT6.out.len))
        rw [← hfl.out] at ho6
        refine (HN.out _).mono ?_
        rintro e w7 ⟨rfl, rfl⟩
        have hlen : Hid (F.length + 4 + 2 = (F ++ vals (putZ r.me 4) 4 ++ lenL r).length) := Lib.hid (by rw [hfl.out]; simp only [List.length_append, vals_len, List.length_cons, List.length_nil])
        have HO6 := Lib.hid ho6
        have HB6 := Lib.hid hb6
        clear ho6 hb6 hs6 hk6 ho4 hb4 hs4 hk4 HT4 hf4 hT4 c19 c1 d1 HT3 HB3 hO3 hT3 HG hg
        obtain ⟨F2, hF2⟩ : ∃ F2, F ++ vals (putZ r.me 4) 4 ++ lenL r = F2 := ⟨_, rfl⟩
        have HPush := Lib.hid (recV_push F r)
        have hF2l : Hid (F2.length = F.length + 4 + (lenL r).length) := Lib.hid (by rw [← hF2]; simp only [List.length_append, vals_len])
        rw [hF2] at HO6 hlen HPush
        clear hF2
        rw [hlen.out] at HO6
        have hF2b : F2.length ≤ 400 := by have := hF2l.out; omega
        go_wp2_with fail
        go_loopw [5, 48] (fun p t wr => ∃ i : Nat, i ≤ nd r.len ∧ t = .int .i64 i ∧ Hid (wr.ownsRow w.heap.size 5 1 p (F2.length + i) (F2 ++ vals r.z i)) ∧ Hid (Below w.heap.size w wr) ∧ Hid (IsRc wr wo.heap.size r) ∧ Hid (p.ownBlock ≠ some wo.heap.size))
          (fun _ t _ => nd r.len - (intOf t).toNat)
        case atStart => exact ⟨0, by omega, rfl, Lib.hid (by simpa [vals] using HO6.out), HB6, HT6, hf6⟩
        case round =>
          obtain ⟨i, hi, rfl, HOi, HWi, HTi, HFi⟩ := hrel
          clear HO6 HB6 HT6 hf6
          have hTs : wo.heap.size < wr.heap.size := HTi.out.lt
          by_cases hin : i < nd r.len
          · have ci := (HTi.out.at (2 + i)).trans (rcC_z r i (by omega))
            have hi16 : (i : Int) < 16 := by omega
            have hind : (i : Int) < (nd r.len : Int) := by omega
            have hsn := Lib.hid (vals_snocR r.z i)
            go_wp2_with (first | (at_builtin; refine app_s rfl (.tmp 51) (.tmp 57) rfl w u5 (F2.length + i) _ rfl (HOi.out.alloc _) (HWi.out.alloc HWi.out.size _) ⟨wr.heap.size, 0, none⟩ 1 1 [.int .u8 (r.z i)] rfl rfl (cell_one_new wr _ _) (u8_one _) (by omega) ?_; intro v8 w8 ho8 hb8 hs8 hk8; have hk9 := Lib.hid (hk8 wo.heap.size (by simp; omega) HFi.out)))
            rw [List.append_assoc, hsn.out] at ho8
            have HO8 := Lib.hid ho8
            have HB8 := Lib.hid hb8
            clear ho8 hb8 hs8 hk8 ci
            go_wp2_with fail
            go_roundw
            case rel => exact ⟨i + 1, by omega, by go_num, HO8, HB8, Lib.hid (hk9.out.1.trans ((Below.heap_alloc wr _ _ hTs).trans HTi.out)), Lib.hid hk9.out.2⟩
            case measure => simp only [intOf]; omega
          · obtain rfl : i = nd r.len := by omega
            go_wp2_with fail
            go_roundw
            case rel =>
              have hfin : Hid (wr.ownsRow w.heap.size 5 1 u5 (flatR L (k + 1)).length (flatR L (k + 1))) := Lib.hid (by
                have h := HOi.out
                rw [HPush.out.1, HF.out] at h
                have e := HPush.out.2
                rw [HF.out] at e
                rw [← e, ← hF2l.out]
                exact h)
              first | exact ⟨k + 1, by omega, by go_num, hfin, HWi⟩ | exact ⟨_, _, _, ⟨k + 1, by omega, by go_num, hfin, HWi⟩, rfl, rfl, rfl⟩ | ((repeat apply Exists.intro); exact ⟨⟨k + 1, by omega, by go_num, hfin, HWi⟩, rfl⟩)
            case measure => simp only [intOf]; omega
      · have hfl : Hid (lenL r = [.int .u8 128, .int .u8 r.len]) := Lib.hid (by rw [hLL.out, hd]; rfl)
        have HD := Lib.hid hd
        clear hd
        go_wp2_with (first
          | (at_builtin; refine app_s rfl (.tmp 16) (.tmp 20) rfl w u5 F.length F rfl hO3.out HB3.out ⟨g, 0, none⟩ 4 4 _ rfl rfl (rd_newsB HG.out.rd) (vals_one _ _) (by omega) ?_; intro v4 w4 ho4 hb4 hs4 hk4; have HT4 : Hid (IsRc w4 wo.heap.size r) := Lib.hid ((hk4 _ hT3 hfar.out).1.trans HT3.out); have hf4 : Hid (v4.ownBlock ≠ some wo.heap.size) := Lib.hid (hk4 _ hT3 hfar.out).2; have c19 := HT4.out.dn; rw [HD.out] at c19; have c1 := HT4.out.len; have hT4 : wo.heap.size < w4.heap.size := HT4.out.lt)
          | (at_builtin; refine app_s rfl (.tmp 35) (.tmp 42) rfl w v4 (F.length + 4) _ rfl (ho4.alloc _) (hb4.alloc hb4.size _) ⟨w4.heap.size, 0, none⟩ 2 2 [.int .u8 128, .int .u8 r.len] rfl rfl (two_news w4 _ _ _) (u8_two _ _) (by omega) ?_; intro v6 w6 ho6 hb6 hs6 hk6; have HT6 : Hid (IsRc w6 wo.heap.size r) := Lib.hid ((hk6 _ (by simp; omega) hf4.out).1.trans ((Below.heap_alloc w4 _ _ hT4).trans HT4.out)); have hf6 : Hid (v6.ownBlock ≠ some wo.heap.size) := Lib.hid (hk6 _ (by simp; omega) hf4.out).2; have d1 := HT6.out.len))
        rw [← hfl.out] at ho6
        refine (HN.out _).mono ?_
        rintro e w7 ⟨rfl, rfl⟩
        have hlen : Hid (F.length + 4 + 2 = (F ++ vals (putZ r.me 4) 4 ++ lenL r).length) := Lib.hid (by rw [hfl.out]; simp only [List.length_append, vals_len, List.length_cons, List.length_nil])
        have HO6 := Lib.hid ho6
        have HB6 := Lib.hid hb6
        clear ho6 hb6 hs6 hk6 ho4 hb4 hs4 hk4 HT4 hf4 hT4 c19 c1 d1 HT3 HB3 hO3 hT3 HG hg
        obtain ⟨F2, hF2⟩ : ∃ F2, F ++ vals (putZ r.me 4) 4 ++ lenL r = F2 := ⟨_, rfl⟩
        have HPush := Lib.hid (recV_push F r)
        have hF2l : Hid (F2.length = F.length + 4 + (lenL r).length) := Lib.hid (by rw [← hF2]; simp only [List.length_append, vals_len])
        rw [hF2] at HO6 hlen HPush
        clear hF2
        rw [hlen.out] at HO6
        have hF2b : F2.length ≤ 400 := by have := hF2l.out; omega
        go_wp2_with fail
        go_loopw [5, 48] (fun p t wr => ∃ i : Nat, i ≤ nd r.len ∧ t = .int .i64 i ∧ Hid (wr.ownsRow w.heap.size 5 1 p (F2.length + i) (F2 ++ vals r.z i)) ∧ Hid (Below w.heap.size w wr) ∧ Hid (IsRc wr wo.heap.size r) ∧ Hid (p.ownBlock ≠ some wo.heap.size))
          (fun _ t _ => nd r.len - (intOf t).toNat)
        case atStart => exact ⟨0, by omega, rfl, Lib.hid (by simpa [vals] using HO6.out), HB6, HT6, hf6⟩
        case round =>
          obtain ⟨i, hi, rfl, HOi, HWi, HTi, HFi⟩ := hrel
          clear HO6 HB6 HT6 hf6
          have hTs : wo.heap.size < wr.heap.size := HTi.out.lt
          by_cases hin : i < nd r.len
          · have ci := (HTi.out.at (2 + i)).trans (rcC_z r i (by omega))
            have hi16 : (i : Int) < 16 := by omega
            have hind : (i : Int) < (nd r.len : Int) := by omega
            have hsn := Lib.hid (vals_snocR r.z i)
            go_wp2_with (first | (at_builtin; refine app_s rfl (.tmp 51) (.tmp 57) rfl w u5 (F2.length + i) _ rfl (HOi.out.alloc _) (HWi.out.alloc HWi.out.size _) ⟨wr.heap.size, 0, none⟩ 1 1 [.int .u8 (r.z i)] rfl rfl (cell_one_new wr _ _) (u8_one _) (by omega) ?_; intro v8 w8 ho8 hb8 hs8 hk8; have hk9 := Lib.hid (hk8 wo.heap.size (by simp; omega) HFi.out)))
            rw [List.append_assoc, hsn.out] at ho8
            have HO8 := Lib.hid ho8
            have HB8 := Lib.hid hb8
            clear ho8 hb8 hs8 hk8 ci
            go_wp2_with fail
            go_roundw
            case rel => exact ⟨i + 1, by omega, by go_num, HO8, HB8, Lib.hid (hk9.out.1.trans ((Below.heap_alloc wr _ _ hTs).trans HTi.out)), Lib.hid hk9.out.2⟩
            case measure => simp only [intOf]; omega
          · obtain rfl : i = nd r.len := by omega
            go_wp2_with fail
            go_roundw
            case rel =>
              have hfin : Hid (wr.ownsRow w.heap.size 5 1 u5 (flatR L (k + 1)).length (flatR L (k + 1))) := Lib.hid (by
                have h := HOi.out
                rw [HPush.out.1, HF.out] at h
                have e := HPush.out.2
                rw [HF.out] at e
                rw [← e, ← hF2l.out]
                exact h)
              first | exact ⟨k + 1, by omega, by go_num, hfin, HWi⟩ | exact ⟨_, _, _, ⟨k + 1, by omega, by go_num, hfin, HWi⟩, rfl, rfl, rfl⟩ | ((repeat apply Exists.intro); exact ⟨⟨k + 1, by omega, by go_num, hfin, HWi⟩, rfl⟩)
            case measure => simp only [intOf]; omega
    · obtain rfl : k = m := by omega
      go_wp2
      go_ret
      exact ⟨_, rfl, HO.out, HW.out⟩
end Go.Proofs.Ytplfilghhgdffaa
