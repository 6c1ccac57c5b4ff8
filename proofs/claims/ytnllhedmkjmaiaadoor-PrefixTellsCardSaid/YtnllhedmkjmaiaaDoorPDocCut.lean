/- DocCut. Each theorem states its conditions. -/
import Derived.Test.YtnllhedmkjmaiaaDoorPRef
namespace Go.Proofs.YtnllhedmkjmaiaaDoor
open Go.RowKit
set_option linter.unusedVariables false

set_option maxHeartbeats 400000 in
set_option maxRecDepth 100000 in
theorem doccut_arg (fam len n : Int) (z : Nat → Int) (w : World) (hn : n < 0) :
    Calls Tryd.prog 11 #[.agg (pvC fam len z), .int .i64 n] w fun e w' => e = .returned (.tuple #[.agg (pvC 0 0 Z0), .int .i64 1]) ∧ Below w.heap.size w w' := by
  have HR := Lib.hid (w2_res fam len z w)
  have hB := Lib.hid (w2_below fam len z w)
  have HA := Lib.hid (all_pv 0 0 Z0)
  go_enter Tryd.func11, Tryd.ntmps11
  go_wp2_with (first | (refine store_blk rfl (.tmp 4) (.tmp 14) (cells := pvC 0 0 Z0) rfl rfl rfl HR.out info_pv rfl HA.out ?_; intro w2 hg2 hb2 ho2; refine Hid.out ?_))
  refine Lib.hid ?_
  have hbl : Below w.heap.size w w2 := hB.out.trans (hb2 _ (by omega))
  go_wp2
  exact bodyPost_ret (results_pv rfl _ _ (w.heap.size + 1) 0 0 Z0 _ rfl rfl hg2) rfl ⟨rfl, hbl⟩

set_option maxHeartbeats 400000 in
set_option maxRecDepth 100000 in
theorem doccut_long (fam len n : Int) (z : Nat → Int) (w : World) (h0 : 0 ≤ n) (hn : len < n) :
    Calls Tryd.prog 11 #[.agg (pvC fam len z), .int .i64 n] w fun e w' => e = .returned (.tuple #[.agg (pvC 0 0 Z0), .int .i64 1]) ∧ Below w.heap.size w w' := by
  have HR := Lib.hid (w2_res fam len z w)
  have hB := Lib.hid (w2_below fam len z w)
  have HA := Lib.hid (all_pv 0 0 Z0)
  have c0 := pvC_1 fam len z
  have h0' : ¬ n < 0 := by omega
  go_enter Tryd.func11, Tryd.ntmps11
  go_wp2_with (first | (refine store_blk rfl (.tmp 4) (.tmp 14) (cells := pvC 0 0 Z0) rfl rfl rfl HR.out info_pv rfl HA.out ?_; intro w2 hg2 hb2 ho2; refine Hid.out ?_))
  refine Lib.hid ?_
  have hbl : Below w.heap.size w w2 := hB.out.trans (hb2 _ (by omega))
  go_wp2
  exact bodyPost_ret (results_pv rfl _ _ (w.heap.size + 1) 0 0 Z0 _ rfl rfl hg2) rfl ⟨rfl, hbl⟩

set_option maxHeartbeats 400000 in
set_option maxRecDepth 100000 in
theorem doccut_form (fam len n : Int) (z : Nat → Int) (w : World) (h0 : 0 ≤ n) (hn : n ≤ len) (hs : ¬ Sized fam len) :
    Calls Tryd.prog 11 #[.agg (pvC fam len z), .int .i64 n] w fun e w' => e = .returned (.tuple #[.agg (pvC 0 0 Z0), .int .i64 3]) ∧ Below w.heap.size w w' := by
  have HN := Lib.hid (w2_arg fam len z w)
  have HR := Lib.hid (w2_res fam len z w)
  have hB := Lib.hid (w2_below fam len z w)
  have HA := Lib.hid (all_pv 0 0 Z0)
  have H1 := Lib.hid (fun W => sized_any fam len z W)
  rw [pv_eq] at H1
  have hsd := Lib.hid (show decide (Sized fam len) = false by simpa using hs)
  have c0 := pvC_1 fam len z
  have h0' : ¬ n < 0 := by omega
  have hn' : ¬ len < n := by omega
  clear hs
  go_enter Tryd.func11, Tryd.ntmps11
  go_wp2_with (refine load_pv rfl (.tmp 2) rfl rfl HN.out ?_)
  refine (H1.out _).mono ?_
  rintro e w1 ⟨rfl, hb1⟩
  rw [hsd.out]
  have HR1 := Lib.hid (HR.out.below hb1 HR.out.lt)
  have HB1 := Lib.hid (hB.out.trans (hb1.mono hB.out.size))
  clear hb1
  go_wp2_with (first | (refine store_blk rfl (.tmp 4) (.tmp 18) (cells := pvC 0 0 Z0) rfl rfl rfl HR1.out info_pv rfl HA.out ?_; intro w2 hg2 hb2 ho2; refine Hid.out ?_))
  refine Lib.hid ?_
  have hbl : Below w.heap.size w w2 := HB1.out.trans (hb2 _ (by omega))
  go_wp2
  exact bodyPost_ret (results_pv rfl _ _ (w.heap.size + 1) 0 0 Z0 _ rfl rfl hg2) rfl ⟨rfl, hbl⟩

set_option maxHeartbeats 400000 in
set_option maxRecDepth 100000 in
theorem doccut_ok (fam : Int) (len n : Nat) (z : Nat → Int) (w : World) (hz : Bytes z) (hn : n ≤ len) (hs : Sized fam len) :
    Calls Tryd.prog 11 #[.agg (pvC fam (len : Int) z), .int .i64 (n : Int)] w fun e w' => e = .returned (.tuple #[.agg (pvC fam (n : Int) (firstZ z n)), .int .i64 0]) ∧ Below w.heap.size w w' := by
  have hl : len ≤ 128 := by unfold Sized at hs; omega
  have HN := Lib.hid (w2_arg fam (len : Int) z w)
  have HR := Lib.hid (w2_res fam (len : Int) z w)
  have hB := Lib.hid (w2_below fam (len : Int) z w)
  have H1 := Lib.hid (fun W => sized_any fam (len : Int) z W)
  rw [pv_eq] at H1
  have H2 := Lib.hid (fun W => ref_first fam (len : Int) n z W hz (by omega))
  have hsd := Lib.hid (show decide (Sized fam (len : Int)) = true by simpa using hs)
  have hall := Lib.hid (all_pv fam (n : Int) (firstZ z n))
  have c0 := pvC_1 fam (len : Int) z
  have h0' : ¬ (n : Int) < 0 := by omega
  have hn' : ¬ (len : Int) < n := by omega
  clear hs hl hn
  go_enter Tryd.func11, Tryd.ntmps11
  go_wp2_with (refine load_pv rfl (.tmp 2) rfl rfl HN.out ?_)
  refine (H1.out _).mono ?_
  rintro e w1 ⟨rfl, hb1⟩
  rw [hsd.out]
  have HN1 := Lib.hid (HN.out.below hb1 HN.out.lt)
  have HR1 := Lib.hid (HR.out.below hb1 HR.out.lt)
  have HB1 := Lib.hid (hB.out.trans (hb1.mono hB.out.size))
  clear hb1
  go_wp2_with (refine load_pv rfl (.tmp 2) rfl rfl HN1.out ?_)
  refine (H2.out _).mono ?_
  rintro e w3 ⟨rfl, hb3⟩
  have HR3 := Lib.hid (HR1.out.below hb3 HR1.out.lt)
  have HB3 := Lib.hid (HB1.out.trans (hb3.mono HB1.out.size))
  clear hb3
  go_wp2_with (first | (refine store_blk rfl (.tmp 4) (.tmp 21) (cells := pvC fam (n : Int) (firstZ z n)) rfl rfl rfl HR3.out info_pv rfl hall.out ?_; intro w2 hg2 hb2 ho2; refine Hid.out ?_))
  refine Lib.hid ?_
  have hbl : Below w.heap.size w w2 := HB3.out.trans (hb2 _ (by omega))
  go_wp2
  exact bodyPost_ret (results_pv rfl _ _ (w.heap.size + 1) fam (n : Int) (firstZ z n) _ rfl rfl hg2) rfl ⟨rfl, hbl⟩
end Go.Proofs.YtnllhedmkjmaiaaDoor
