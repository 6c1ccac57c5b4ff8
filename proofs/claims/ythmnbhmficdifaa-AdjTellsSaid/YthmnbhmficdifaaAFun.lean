/- adj's small functions: the levels in common, the state that a side is in. Each theorem states its conditions. -/
import Derived.Test.YthmnbhmficdifaaAChk
namespace Go.Proofs.Ythmnbhmficdifaa
open Go.RowKit
set_option linter.unusedVariables false

theorem zero_ajP' : (Try.prog.info? 36).map (·.zero) = some (some (.agg (ajC aj0))) := zero_ajP
/-- the levels that both have -/
def comI (a b : Int) (s : Bool) : Int := if s then (if a = 3 then b else if b = 3 then a else if a = b then a else 0) else if a = 1 ∨ b = 1 then 0 else 2
def thB (n : Int) : Bool := n == 1 || n == 0
def toS (a : Aj) (h : He) (v : Int) : Int := if thB a.st && (!eqY a.p h.s || (a.nu != h.nu || a.lv != v)) then 2 else a.st
def ofS (h : He) : Int := if h.nm then h.st else 2
def behS (s t : Int) : Int := if t == 2 then 1 else if t == 0 && s == 2 then 2 else 0
set_option maxHeartbeats 8000000 in
set_option maxRecDepth 100000 in
theorem inCommon_any (l : Lo) (h : He) (L H : Nat → Sl) (w : World) (hL : RdS w l.A l.m L) (hH : RdS w h.A h.m H) (hlm : l.m ≤ 9223372036854775807) (hhm : h.m ≤ 9223372036854775807) (hl : l.lv = 1 ∨ l.lv = 2 ∨ l.lv = 3) (hh : h.lv = 1 ∨ h.lv = 2 ∨ h.lv = 3) :
    Calls Try.prog 25 #[.agg (loC l), .agg (heC h)] w fun e w' => e = .returned (.int .i64 (comI l.lv h.lv (shB L l.m H h.m))) ∧ Below w.heap.size w w' := by
  have HL := Lib.hid hL
  have HH := Lib.hid hH
  have HV := Lib.hid hl
  have HU := Lib.hid hh
  clear hL hH hl hh
  have HT : Hid (comI l.lv h.lv (shB L l.m H h.m) = comI l.lv h.lv (shB L l.m H h.m)) := Lib.hid rfl
  obtain ⟨E, hE⟩ : ∃ E, comI l.lv h.lv (shB L l.m H h.m) = E := ⟨_, rfl⟩
  have HE : Hid (E = comI l.lv h.lv (shB L l.m H h.m)) := Lib.hid hE.symm
  rw [hE]
  clear hE HT
  go_enter Try.func25, Try.ntmps25
  have HB := Lib.hid (Below.refl w.heap.size w)
  obtain ⟨N1, hN1⟩ : ∃ N, w.heap.size = N := ⟨_, rfl⟩
  have HN1 := Lib.hid hN1
  clear hN1
  go_wp2_with (refine wpList_box (op := ⟨some 2, _, _, _, _, _⟩) rfl 32 (.tmp 0) rfl (loC l) rfl N1 HN1.out ?_; intro w1 k1 b1 s1; refine Hid.out ?_)
  refine Lib.hid ?_
  have K1 := Lib.hid k1
  clear k1
  have le_HB_N1 : w.heap.size ≤ N1 := by rw [← HN1.out]; exact HB.out.size
  have HBn := Lib.hid (HB.out.trans (b1.mono HB.out.size))
  clear HB
  have HB := HBn
  clear HBn
  clear b1 HN1
  obtain ⟨N2, hN2⟩ : ∃ N, w1.heap.size = N := ⟨_, rfl⟩
  have HN2 := Lib.hid hN2
  clear hN2
  go_wp2_with (refine wpList_box (op := ⟨some 3, _, _, _, _, _⟩) rfl 34 (.tmp 1) rfl (heC h) rfl N2 HN2.out ?_; intro w2 k1 b1 s1; refine Hid.out ?_)
  refine Lib.hid ?_
  have K2 := Lib.hid k1
  clear k1
  have lt_N1_N2 : N1 < N2 := by rw [← HN2.out]; exact K1.out.lt
  have le_HB_N2 : w.heap.size ≤ N2 := by rw [← HN2.out]; exact HB.out.size
  have K1n := Lib.hid (K1.out.below b1 K1.out.lt)
  clear K1
  have K1 := K1n
  clear K1n
  have HBn := Lib.hid (HB.out.trans (b1.mono HB.out.size))
  clear HB
  have HB := HBn
  clear HBn
  clear b1 HN2
  have cK1_7 : w2.cell? ⟨N1, 7, none⟩ = some (.int .i64 l.lv) := (K1.out.cell 7).trans rfl
  have cK1_8 : w2.cell? ⟨N1, 8, none⟩ = some (.slice l.A l.m l.c) := (K1.out.cell 8).trans rfl
  have cK2_7 : w2.cell? ⟨N2, 7, none⟩ = some (.int .i64 h.lv) := (K2.out.cell 7).trans rfl
  have cK2_9 : w2.cell? ⟨N2, 9, none⟩ = some (.slice h.A h.m h.c) := (K2.out.cell 9).trans rfl
  have HS := Lib.hid (share_any l.A h.A l.m l.c h.m h.c L H w2 (HL.out.below HB.out) (HH.out.below HB.out) hlm hhm)
  obtain ⟨s, hs⟩ : ∃ s, shB L l.m H h.m = s := ⟨_, rfl⟩
  rw [hs] at HS HE
  clear hs
  obtain ⟨x, hx⟩ : ∃ x, l.lv = x := ⟨_, rfl⟩
  obtain ⟨y, hy⟩ : ∃ y, h.lv = y := ⟨_, rfl⟩
  have hv := HV.out
  have hu := HU.out
  rw [hx] at cK1_7 hv HE
  rw [hy] at cK2_7 hu HE
  clear hx hy HV HU
  rcases hv with rfl | rfl | rfl <;> rcases hu with rfl | rfl | rfl <;> cases s <;>
  · go_wp2_with ((with_reducible refine HS.out.mono ?_); (rintro e wx ⟨rfl, rfl⟩))
    go_ret
    exact ⟨by rw [HE.out]; rfl, HB.out⟩
set_option maxRecDepth 100000 in
theorem isThere_one (a : Aj) (w : World) (h0 : (a.st == 1) = true) : Calls Try.prog 37 #[.agg (ajC a)] w fun e w' => e = .returned (.bool true) ∧ Below w.heap.size w w' := by
  go_enter Try.func37, Try.ntmps37
  have HB := Lib.hid (Below.refl w.heap.size w)
  obtain ⟨N1, hN1⟩ : ∃ N, w.heap.size = N := ⟨_, rfl⟩
  have HN1 := Lib.hid hN1
  clear hN1
  go_wp2_with (refine wpList_box (op := ⟨some 1, _, _, _, _, _⟩) rfl 36 (.tmp 0) rfl (ajC a) rfl N1 HN1.out ?_; intro w1 k1 b1 s1; refine Hid.out ?_)
  refine Lib.hid ?_
  have K1 := Lib.hid k1
  clear k1
  have le_HB_N1 : w.heap.size ≤ N1 := by rw [← HN1.out]; exact HB.out.size
  have HBn := Lib.hid (HB.out.trans (b1.mono HB.out.size))
  clear HB
  have HB := HBn
  clear HBn
  clear b1 HN1
  have c0 : w1.cell? ⟨N1, 0, none⟩ = some (.int .i64 a.st) := (K1.out.cell 0).trans rfl
  go_wp2_with fail
  go_ret
  exact ⟨rfl, HB.out⟩
set_option maxRecDepth 100000 in
theorem isThere_two (a : Aj) (w : World) (h0 : (a.st == 1) = false) (h1 : (a.st == 0) = true) : Calls Try.prog 37 #[.agg (ajC a)] w fun e w' => e = .returned (.bool true) ∧ Below w.heap.size w w' := by
  go_enter Try.func37, Try.ntmps37
  have HB := Lib.hid (Below.refl w.heap.size w)
  obtain ⟨N1, hN1⟩ : ∃ N, w.heap.size = N := ⟨_, rfl⟩
  have HN1 := Lib.hid hN1
  clear hN1
  go_wp2_with (refine wpList_box (op := ⟨some 1, _, _, _, _, _⟩) rfl 36 (.tmp 0) rfl (ajC a) rfl N1 HN1.out ?_; intro w1 k1 b1 s1; refine Hid.out ?_)
  refine Lib.hid ?_
  have K1 := Lib.hid k1
  clear k1
  have le_HB_N1 : w.heap.size ≤ N1 := by rw [← HN1.out]; exact HB.out.size
  have HBn := Lib.hid (HB.out.trans (b1.mono HB.out.size))
  clear HB
  have HB := HBn
  clear HBn
  clear b1 HN1
  have c0 : w1.cell? ⟨N1, 0, none⟩ = some (.int .i64 a.st) := (K1.out.cell 0).trans rfl
  go_wp2_with fail
  go_ret
  exact ⟨rfl, HB.out⟩
set_option maxRecDepth 100000 in
theorem isThere_no (a : Aj) (w : World) (h0 : (a.st == 1) = false) (h1 : (a.st == 0) = false) : Calls Try.prog 37 #[.agg (ajC a)] w fun e w' => e = .returned (.bool false) ∧ Below w.heap.size w w' := by
  go_enter Try.func37, Try.ntmps37
  have HB := Lib.hid (Below.refl w.heap.size w)
  obtain ⟨N1, hN1⟩ : ∃ N, w.heap.size = N := ⟨_, rfl⟩
  have HN1 := Lib.hid hN1
  clear hN1
  go_wp2_with (refine wpList_box (op := ⟨some 1, _, _, _, _, _⟩) rfl 36 (.tmp 0) rfl (ajC a) rfl N1 HN1.out ?_; intro w1 k1 b1 s1; refine Hid.out ?_)
  refine Lib.hid ?_
  have K1 := Lib.hid k1
  clear k1
  have le_HB_N1 : w.heap.size ≤ N1 := by rw [← HN1.out]; exact HB.out.size
  have HBn := Lib.hid (HB.out.trans (b1.mono HB.out.size))
  clear HB
  have HB := HBn
  clear HBn
  clear b1 HN1
  have c0 : w1.cell? ⟨N1, 0, none⟩ = some (.int .i64 a.st) := (K1.out.cell 0).trans rfl
  go_wp2_with fail
  go_ret
  exact ⟨rfl, HB.out⟩
theorem isThere_any (a : Aj) (b : Bool) (hb : thB a.st = b) (w : World) : Calls Try.prog 37 #[.agg (ajC a)] w fun e w' => e = .returned (.bool b) ∧ Below w.heap.size w w' := by
  subst hb
  unfold thB
  cases h1 : a.st == 1
  · cases h2 : a.st == 0
    · exact isThere_no a w h1 h2
    · exact isThere_two a w h1 h2
  · exact isThere_one a w h1
set_option maxHeartbeats 8000000 in
set_option maxRecDepth 100000 in
theorem stateTo_any (a : Aj) (h : He) (v : Int) (w : World) (hp : byB a.p) (hs : byB h.s) : Calls Try.prog 28 #[.agg (ajC a), .agg (heC h), .int .i64 v] w fun e w' => e = .returned (.int .i64 (toS a h v)) ∧ Below w.heap.size w w' := by
  have HT : Hid (toS a h v = if thB a.st && (!eqY a.p h.s || (a.nu != h.nu || a.lv != v)) then 2 else a.st) := Lib.hid rfl
  obtain ⟨E, hE⟩ : ∃ E, toS a h v = E := ⟨_, rfl⟩
  rw [hE] at HT ⊢
  clear hE
  have HP := Lib.hid hp
  have HS := Lib.hid hs
  obtain ⟨b, hb⟩ : ∃ b, thB a.st = b := ⟨_, rfl⟩
  have D := Lib.hid (fun w => isThere_any a _ hb w)
  rw [hb] at HT
  clear hb hp hs
  obtain ⟨q, hq⟩ : ∃ q, eqY a.p h.s = q := ⟨_, rfl⟩
  have HQ := Lib.hid hq
  rw [hq] at HT
  clear hq
  go_enter Try.func28, Try.ntmps28
  have HB := Lib.hid (Below.refl w.heap.size w)
  obtain ⟨N1, hN1⟩ : ∃ N, w.heap.size = N := ⟨_, rfl⟩
  have HN1 := Lib.hid hN1
  clear hN1
  go_wp2_with (refine wpList_box (op := ⟨some 3, _, _, _, _, _⟩) rfl 36 (.tmp 0) rfl (ajC a) rfl N1 HN1.out ?_; intro w1 k1 b1 s1; refine Hid.out ?_)
  refine Lib.hid ?_
  have K1 := Lib.hid k1
  clear k1
  have le_HB_N1 : w.heap.size ≤ N1 := by rw [← HN1.out]; exact HB.out.size
  have HBn := Lib.hid (HB.out.trans (b1.mono HB.out.size))
  clear HB
  have HB := HBn
  clear HBn
  clear b1 HN1
  obtain ⟨N2, hN2⟩ : ∃ N, w1.heap.size = N := ⟨_, rfl⟩
  have HN2 := Lib.hid hN2
  clear hN2
  go_wp2_with (refine wpList_box (op := ⟨some 4, _, _, _, _, _⟩) rfl 34 (.tmp 1) rfl (heC h) rfl N2 HN2.out ?_; intro w2 k1 b1 s1; refine Hid.out ?_)
  refine Lib.hid ?_
  have K2 := Lib.hid k1
  clear k1
  have lt_N1_N2 : N1 < N2 := by rw [← HN2.out]; exact K1.out.lt
  have le_HB_N2 : w.heap.size ≤ N2 := by rw [← HN2.out]; exact HB.out.size
  have K1n := Lib.hid (K1.out.below b1 K1.out.lt)
  clear K1
  have K1 := K1n
  clear K1n
  have HBn := Lib.hid (HB.out.trans (b1.mono HB.out.size))
  clear HB
  have HB := HBn
  clear HBn
  clear b1 HN2
  go_wp2_with (refine wpList_ld (op := ⟨some 7, _, _, _, _, _⟩) (by rfl) 36 (.tmp 3) rfl N1 0 rfl (ajC a) _ K1.out.all Try.underlying36 rfl info_ajP ?_; refine Hid.out ?_)
  refine Lib.hid ?_
  go_wp2_with fail
  refine (D.out _).mono ?_
  rintro e w3 ⟨rfl, b1⟩
  have K1n := Lib.hid (K1.out.below b1 K1.out.lt)
  clear K1
  have K1 := K1n
  clear K1n
  have K2n := Lib.hid (K2.out.below b1 K2.out.lt)
  clear K2
  have K2 := K2n
  clear K2n
  have HBn := Lib.hid (HB.out.trans (b1.mono HB.out.size))
  clear HB
  have HB := HBn
  clear HBn
  have cK1_0 : w3.cell? ⟨N1, 0, none⟩ = some (.int .i64 a.st) := (K1.out.cell 0).trans rfl
  have cK1_7 : w3.cell? ⟨N1, 7, none⟩ = some (.int .u8 a.nu) := (K1.out.cell 7).trans rfl
  have cK1_8 : w3.cell? ⟨N1, 8, none⟩ = some (.int .i64 a.lv) := (K1.out.cell 8).trans rfl
  have cK2_6 : w3.cell? ⟨N2, 6, none⟩ = some (.int .u8 h.nu) := (K2.out.cell 6).trans rfl
  clear b1
  cases b
  · have HX : Hid (E = a.st) := Lib.hid (by rw [HT.out]; rfl)
    clear HT
    go_wp2_with fail
    go_ret
    exact ⟨by rw [HX.out]; rfl, HB.out⟩
  go_wp2_with (refine wpList_ld (op := ⟨some 11, _, _, _, _, _⟩) (by rfl) 23 (.tmp 10) rfl N1 1 rfl (syC a.p) _ K1.out.ajp Try.underlying23 rfl info_sys ?_; refine Hid.out ?_)
  refine Lib.hid ?_
  go_wp2_with (refine wpList_ld (op := ⟨some 13, _, _, _, _, _⟩) (by rfl) 23 (.tmp 12) rfl N2 0 rfl (syC h.s) _ K2.out.hes Try.underlying23 rfl info_sys ?_; refine Hid.out ?_)
  refine Lib.hid ?_
  go_wp2_with (refine wpList_gv (op := ⟨some 14, _, _, _, _, _⟩) _ (by rfl) (sys_neq _ _ _ _ _ rfl rfl a.p h.s HP.out HS.out rfl rfl _ HQ.out _) ?_; refine Hid.out ?_)
  refine Lib.hid ?_
  cases q
  · have HX : Hid (E = 2) := Lib.hid (by rw [HT.out]; rfl)
    clear HT
    go_wp2_with fail
    go_ret
    exact ⟨by rw [HX.out]; rfl, HB.out⟩
  cases g1 : a.nu != h.nu
  rotate_left
  · have HX : Hid (E = 2) := Lib.hid (by rw [HT.out, g1]; rfl)
    clear HT
    go_wp2_with fail
    go_ret
    exact ⟨by rw [HX.out]; rfl, HB.out⟩
  cases g2 : a.lv != v
  rotate_left
  · have HX : Hid (E = 2) := Lib.hid (by rw [HT.out, g1, g2]; rfl)
    clear HT
    go_wp2_with fail
    go_ret
    exact ⟨by rw [HX.out]; rfl, HB.out⟩
  have HX : Hid (E = a.st) := Lib.hid (by rw [HT.out, g1, g2]; rfl)
  clear HT
  go_wp2_with fail
  go_ret
  exact ⟨by rw [HX.out]; rfl, HB.out⟩
set_option maxRecDepth 100000 in
theorem stateOf_any (h : He) (w : World) : Calls Try.prog 29 #[.agg (heC h)] w fun e w' => e = .returned (.int .i64 (ofS h)) ∧ Below w.heap.size w w' := by
  have HT : Hid (ofS h = if h.nm then h.st else 2) := Lib.hid rfl
  obtain ⟨E, hE⟩ : ∃ E, ofS h = E := ⟨_, rfl⟩
  rw [hE] at HT ⊢
  clear hE
  go_enter Try.func29, Try.ntmps29
  have HB := Lib.hid (Below.refl w.heap.size w)
  obtain ⟨N1, hN1⟩ : ∃ N, w.heap.size = N := ⟨_, rfl⟩
  have HN1 := Lib.hid hN1
  clear hN1
  go_wp2_with (refine wpList_box (op := ⟨some 1, _, _, _, _, _⟩) rfl 34 (.tmp 0) rfl (heC h) rfl N1 HN1.out ?_; intro w1 k1 b1 s1; refine Hid.out ?_)
  refine Lib.hid ?_
  have K1 := Lib.hid k1
  clear k1
  have le_HB_N1 : w.heap.size ≤ N1 := by rw [← HN1.out]; exact HB.out.size
  have HBn := Lib.hid (HB.out.trans (b1.mono HB.out.size))
  clear HB
  have HB := HBn
  clear HBn
  clear b1 HN1
  have cK1_11 : w1.cell? ⟨N1, 11, none⟩ = some (.bool h.nm) := (K1.out.cell 11).trans rfl
  have cK1_10 : w1.cell? ⟨N1, 10, none⟩ = some (.int .i64 h.st) := (K1.out.cell 10).trans rfl
  obtain ⟨b, hb⟩ : ∃ b, h.nm = b := ⟨_, rfl⟩
  rw [hb] at cK1_11 HT
  clear hb
  cases b
  · have HX : Hid (E = 2) := Lib.hid (by rw [HT.out]; rfl)
    clear HT
    go_wp2_with fail
    go_ret
    exact ⟨by rw [HX.out]; rfl, HB.out⟩
  · have HX : Hid (E = h.st) := Lib.hid (by rw [HT.out]; rfl)
    clear HT
    go_wp2_with fail
    go_ret
    exact ⟨by rw [HX.out]; rfl, HB.out⟩
theorem behind_any (s t : Int) (w : World) : Calls Try.prog 27 #[.int .i64 s, .int .i64 t] w fun e w' => e = .returned (.int .i64 (behS s t)) ∧ w = w' := by
  have HT : Hid (behS s t = if t == 2 then 1 else if t == 0 && s == 2 then 2 else 0) := Lib.hid rfl
  obtain ⟨E, hE⟩ : ∃ E, behS s t = E := ⟨_, rfl⟩
  rw [hE] at HT ⊢
  clear hE
  cases h1 : t == 2
  · cases h2 : t == 0
    · have HX : Hid (E = 0) := Lib.hid (by rw [HT.out, h1, h2]; rfl)
      clear HT
      go_enter Try.func27, Try.ntmps27
      go_wp2
      go_ret
      exact ⟨by rw [HX.out]; rfl, rfl⟩
    · cases h3 : s == 2
      · have HX : Hid (E = 0) := Lib.hid (by rw [HT.out, h1, h2, h3]; rfl)
        clear HT
        go_enter Try.func27, Try.ntmps27
        go_wp2
        go_ret
        exact ⟨by rw [HX.out]; rfl, rfl⟩
      · have HX : Hid (E = 2) := Lib.hid (by rw [HT.out, h1, h2, h3]; rfl)
        clear HT
        go_enter Try.func27, Try.ntmps27
        go_wp2
        go_ret
        exact ⟨by rw [HX.out]; rfl, rfl⟩
  · have HX : Hid (E = 1) := Lib.hid (by rw [HT.out, h1]; rfl)
    clear HT
    go_enter Try.func27, Try.ntmps27
    go_wp2
    go_ret
    exact ⟨by rw [HX.out]; rfl, rfl⟩
theorem build_down (o : Oper) (e : Operand → Value) (t : TypeId) (x : Operand) (ho : o.op = .build 36 #[(0, x)]) (h0 : e x = .int .i64 2) (W : World) : (execOp e o).run Try.prog W = .ok (.value (.agg (ajC ajD))) W := by
  unfold execOp
  simp only [ho]
  simp only [List.map_toArray, List.map_cons, List.map_nil, h0]
  kernel_rfl
set_option maxRecDepth 100000 in
theorem down_any (w : World) : Calls Try.prog 26 #[] w fun e w' => e = .returned (.agg (ajC ajD)) ∧ Below w.heap.size w w' := by
  go_enter Try.func26, Try.ntmps26
  have HB := Lib.hid (Below.refl w.heap.size w)
  obtain ⟨N1, hN1⟩ : ∃ N, w.heap.size = N := ⟨_, rfl⟩
  have HN1 := Lib.hid hN1
  clear hN1
  go_wp2_with (refine wpList_new (op := ⟨some 0, _, _, _, _, _⟩) rfl 36 rfl (ajC aj0) zero_ajP N1 HN1.out ?_; intro w1 k1 b1 s1; refine Hid.out ?_)
  refine Lib.hid ?_
  have K1 := Lib.hid k1
  clear k1
  have le_HB_N1 : w.heap.size ≤ N1 := by rw [← HN1.out]; exact HB.out.size
  have HBn := Lib.hid (HB.out.trans (b1.mono HB.out.size))
  clear HB
  have HB := HBn
  clear HBn
  clear b1 HN1
  go_wp2_with (refine wpList_v (op := ⟨some 1, _, _, _, _, _⟩) rfl _ (build_down _ _ 0 _ rfl rfl _) ?_; refine Hid.out ?_)
  refine Lib.hid ?_
  go_wp2_with (refine wpList_st rfl 36 (.tmp 0) (.tmp 1) rfl N1 0 rfl (.agg (ajC ajD)) (ajC ajD) rfl rfl info_ajP (ajC_one _) K1.out (Nat.le_of_ble_eq_true rfl) (C' := ajC ajD) (by kernel_rfl) ?_; intro w2 q1; refine Hid.out ?_)
  refine Lib.hid ?_
  have HBn := Lib.hid (HB.out.trans (q1.2.1 _ (by omega)))
  clear HB
  have HB := HBn
  clear HBn
  have K1n : Hid (Blk 36 w2 N1 (ajC ajD)) := Lib.hid q1.1
  clear K1
  have K1 := K1n
  clear K1n q1
  go_wp2_with fail
  exact bodyPost_ret (results_1 rfl _ w2 N1 (ajC ajD) Try.underlying36 rfl info_ajP rfl K1.out) rfl ⟨rfl, HB.out⟩
end Go.Proofs.Ythmnbhmficdifaa
