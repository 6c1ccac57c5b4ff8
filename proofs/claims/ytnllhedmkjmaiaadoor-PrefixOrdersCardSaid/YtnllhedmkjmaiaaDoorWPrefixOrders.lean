/- The walk of PrefixOrders. Conditions: the library's variables that the example reads lie as the text lays them. -/
import Derived.Test.YtnllhedmkjmaiaaDoorPLess
namespace Go.Proofs.YtnllhedmkjmaiaaDoor
open Go.RowKit
set_option linter.unusedVariables false

set_option maxHeartbeats 1000000 in
set_option maxRecDepth 100000 in
theorem walkPrefixOrders (fam0 len0 : Int) (z0 : Nat → Int) (hf0 : 0 ≤ fam0 ∧ fam0 ≤ 255) (hl0 : -9223372036854775808 ≤ len0 ∧ len0 ≤ 9223372036854775807) (hz0 : Bytes z0) (fam1 len1 : Int) (z1 : Nat → Int) (hf1 : 0 ≤ fam1 ∧ fam1 ≤ 255) (hl1 : -9223372036854775808 ≤ len1 ∧ len1 ≤ 9223372036854775807) (hz1 : Bytes z1) (w : World) (m : Int) (hL : Lays w m) :
    Calls Tryd.prog 4 #[.agg (pvC fam0 len0 z0), .agg (pvC fam1 len1 z1)] w fun e w' => e = .returned (.bool true) ∧ Below w.heap.size w w' := by
  have HL := Lib.hid hL
  have HP := Lib.hid (v2_p fam0 len0 z0 fam1 len1 z1 w)
  have HQ := Lib.hid (v2_q fam0 len0 z0 fam1 len1 z1 w)
  have HB := Lib.hid (v2_below fam0 len0 z0 fam1 len1 z1 w)
  obtain ⟨b, e, hc1, hc2⟩ := covers_one fam0 len0 z0 fam1 len1 z1 hz0 hz1
  obtain ⟨c, g, hd1, hd2⟩ := cmp_one fam0 len0 z0 fam1 len1 z1 hz0 hz1
  have H1 := Lib.hid hc1
  have H2 := Lib.hid hc2
  have H3 := Lib.hid hd1
  have H4 := Lib.hid hd2
  clear hL hf0 hl0 hf1 hl1 hc1 hc2 hd1 hd2
  go_enter Tryd.func4, Tryd.ntmps4
  go_wp2_with (first | (refine load_pv rfl (.tmp 2) rfl rfl HP.out ?_) | (refine load_pv rfl (.tmp 3) rfl rfl HQ.out ?_))
  refine (H1.out _).mono ?_
  rintro e1 w1 ⟨rfl, hb1⟩
  have HP1 := Lib.hid (HP.out.below hb1 HP.out.lt)
  have HQ1 := Lib.hid (HQ.out.below hb1 HQ.out.lt)
  have HB1 := Lib.hid (HB.out.trans (hb1.mono HB.out.size))
  clear hb1 HP HQ HB
  go_wp2_with (first | (refine load_pv rfl (.tmp 2) rfl rfl HP1.out ?_) | (refine load_pv rfl (.tmp 3) rfl rfl HQ1.out ?_))
  refine (H2.out _).mono ?_
  rintro e2 w2 ⟨rfl, hb2⟩
  have HP2 := Lib.hid (HP1.out.below hb2 HP1.out.lt)
  have HQ2 := Lib.hid (HQ1.out.below hb2 HQ1.out.lt)
  have HB2 := Lib.hid (HB1.out.trans (hb2.mono HB1.out.size))
  clear hb2 HP1 HQ1 HB1
  go_wp2_with (first | (refine load_pv rfl (.tmp 2) rfl rfl HP2.out ?_) | (refine load_pv rfl (.tmp 3) rfl rfl HQ2.out ?_))
  refine (H3.out _).mono ?_
  rintro e3 w3 ⟨rfl, hb3⟩
  have HP3 := Lib.hid (HP2.out.below hb3 HP2.out.lt)
  have HQ3 := Lib.hid (HQ2.out.below hb3 HQ2.out.lt)
  have HB3 := Lib.hid (HB2.out.trans (hb3.mono HB2.out.size))
  clear hb3 HP2 HQ2 HB2
  go_wp2_with (first | (refine load_pv rfl (.tmp 2) rfl rfl HP3.out ?_) | (refine load_pv rfl (.tmp 3) rfl rfl HQ3.out ?_))
  refine (H4.out _).mono ?_
  rintro e4 w4 ⟨rfl, hb4⟩
  have HP4 := Lib.hid (HP3.out.below hb4 HP3.out.lt)
  have HQ4 := Lib.hid (HQ3.out.below hb4 HQ3.out.lt)
  have HB4 := Lib.hid (HB3.out.trans (hb4.mono HB3.out.size))
  clear hb4 HP3 HQ3 HB3
  go_wp2_with fail
  refine (awake_any m _ (HL.out.below HB4.out)).mono ?_
  rintro e5 w5 ⟨rfl, hb5⟩
  have HB5 := Lib.hid (HB4.out.trans (hb5.mono HB4.out.size))
  clear hb5
  go_wp2
  go_ret
  exact ⟨rfl, HB5.out⟩
end Go.Proofs.YtnllhedmkjmaiaaDoor
