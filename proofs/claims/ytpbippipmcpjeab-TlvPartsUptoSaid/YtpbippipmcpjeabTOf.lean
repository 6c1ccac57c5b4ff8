/- Of answers the values of a type; so does the document's Of. Each theorem states its conditions. -/
import Derived.Test.YtpbippipmcpjeabTVals
namespace Go.Proofs.Ytpbippipmcpjeab
open Go.RowKit
set_option linter.unusedVariables false

theorem clone_nil (w : World) :
    Calls Try.prog 22 #[.slice none 0 0] w fun e w' => e = .returned (.slice none 0 0) ∧ w = w' := by
  have hne := fun (W : World) => Lib.run_eql_slice_nil (P := Try.prog) W 25 5 none 0 0 0 0 Try.underlying25
  go_enter Try.func22, Try.ntmps22
  go_wp2
  go_ret
  exact ⟨rfl, rfl⟩

/-- nil, or bytes of the call's own -/
def NilOrOwn (w : World) (base : Nat) (t : It) : Prop :=
  ((t.A = none ∧ t.n = 0 ∧ t.c = 0) ∨ ∃ g, t.A = some ⟨g, 0, none⟩ ∧ base ≤ g ∧ Own8 w g t.n t.c t.z) ∧ t.n ≤ 140737488351232 ∧ ∀ j, 0 ≤ t.z j ∧ t.z j ≤ 255
theorem NilOrOwn.below {w w' : World} {base : Nat} {t : It} (h : NilOrOwn w base t) (hb : Below w.heap.size w w') : NilOrOwn w' base t := by
  refine ⟨?_, h.2⟩
  rcases h.1 with h | ⟨g, h1, h2, h3⟩
  · exact .inl h
  · exact .inr ⟨g, h1, h2, h3.below hb h3.lt⟩
theorem NilOrOwn.ok {w : World} {base : Nat} {t : It} (h : NilOrOwn w base t) : ValOk w t := by
  rcases h.1 with ⟨h0, h1, h2⟩ | ⟨g, h1, h2, h3⟩
  · exact ⟨⟨.inl h1, h.2.2⟩, fun _ => ⟨h1, h2⟩, h.2.1⟩
  · exact ⟨⟨.inr ⟨g, 0, h1, h3.row⟩, h.2.2⟩, fun e => (by rw [h1] at e; cases e), h.2.1⟩
theorem NilOrOwn.grown {w w' : World} {base n : Nat} {t : It} {v : Value} {xs : List Value} (h : NilOrOwn w base t) (hr : w.ownsRow base 25 1 v n xs) (hg : w.grownBy w' v.ownBlock) : NilOrOwn w' base t := by
  refine ⟨?_, h.2⟩
  rcases h.1 with h | ⟨g, h1, h2, h3⟩
  · exact .inl h
  · refine .inr ⟨g, h1, h2, h3.grown hg ?_⟩
    intro e
    obtain ⟨⟨cur, hc, _⟩, _⟩ := h3
    rcases hr.2 with ⟨rfl, _⟩ | ⟨g', cap, cur', rfl, _, hc', _⟩
    · cases e
    · simp [Value.ownBlock] at e
      subst e
      rw [hc] at hc'
      simp at hc'

def OfPost (w : World) (L : Nat → It) (kind : Int) (m : Nat) (e : Ending) (w' : World) : Prop :=
  ∃ v K, e = .returned v ∧ w'.ownsRow w.heap.size 25 1 v (cnt L kind m) (cellsV K (cnt L kind m)) ∧
    (∀ i, i < cnt L kind m → NilOrOwn w' w.heap.size (K i) ∧ (K i).n = (Sel L kind m i).n ∧ (K i).z = (Sel L kind m i).z) ∧ Below w.heap.size w w'

set_option maxHeartbeats 4000000 in
set_option maxRecDepth 100000 in
theorem of_any (A : Option Addr) (m c : Nat) (kind : Int) (L : Nat → It) (w : World) (h : RdT w A m L) (hm : m * 32 ≤ 140737488351232) :
    Calls Try.prog 11 #[.slice A m c, .int .u8 kind] w (OfPost w L kind m) := by
  obtain ⟨i0, hi, hz0, hz1, hz2⟩ := info_parts info_bytes
  have HR := Lib.hid h
  clear h
  go_enter Try.func11, Try.ntmps11
  go_wp2_with fail
  go_loopw [5, 10] (fun v i wr => ∃ (k : Nat) (K : Nat → It), k ≤ m ∧ i = .int .i64 k ∧ wr.ownsRow w.heap.size 25 1 v (cnt L kind k) (cellsV K (cnt L kind k)) ∧
      Hid (∀ i, i < cnt L kind k → NilOrOwn wr w.heap.size (K i) ∧ (K i).n = (Sel L kind k i).n ∧ (K i).z = (Sel L kind k i).z) ∧ Below w.heap.size w wr)
    (fun _ i _ => m - (intOf i).toNat)
  case atStart => exact ⟨0, L, by omega, rfl, World.ownsRow_nil _ _ _ _, Lib.hid (fun j hj => by simp [cnt] at hj), bself w⟩
  case round =>
    obtain ⟨k, K, hk, rfl, hown, hK, hb⟩ := hrel
    by_cases hkm : k < m
    · obtain ⟨b, off, rfl, hr⟩ := (HR.out.below hb).row (by omega)
      obtain ⟨c0, c1, c2⟩ := hr.2 k hkm
      have hRd : Rd w (L k).A (L k).n (L k).z := by
        obtain ⟨b', off', _, hr'⟩ := HR.out.row (by omega)
        exact (hr'.2 k hkm).2.2.2.1
      have HRd := Lib.hid hRd
      have hbs := hb.size
      have HO := Lib.hid hown
      have HC2 := Lib.hid c2
      have hfar : some wr.heap.size ≠ u5.ownBlock := fun e => by have := (hown.lt _ e.symm).2; omega
      have hcl := cnt_le L kind k
      clear hr hown hRd
      by_cases hty : (L k).ty = kind
      · have hc1 : cnt L kind (k + 1) = cnt L kind k + 1 := by simp [cnt, hty]
        have hS : Sel L kind (k + 1) = updT (Sel L kind k) (cnt L kind k) (L k) := by simp [Sel, hty]
        have m1 : cnt L kind k + 1 ≤ maxLen := by unfold maxLen; omega
        have m2 : (cnt L kind k + 1) * 24 ≤ 140737488355328 := by omega
        have HC1 := Lib.hid hc1
        have HS := Lib.hid hS
        have hnb := c2.2.2.2
        have HNo := Lib.hid c2.2.2.1
        have hLz := c2.2.1.2
        have HLz := Lib.hid hLz
        rw [hty] at c0
        clear c2 hc1 hS hLz hty
        generalize hcn : cnt L kind k = q at *
        cases hLA : (L k).A with
        | none =>
          obtain ⟨hn0, hc0⟩ := HNo.out hLA
          rw [hLA, hn0, hc0] at c1
          have HN0 := Lib.hid hn0
          have HA0 := Lib.hid hLA
          clear hn0 hc0 hLA hnb
          go_wp2_with (first
            | (go_at_call 22; refine (clone_nil _).mono ?_; rintro e w1 ⟨rfl, rfl⟩)
            | (at_builtin; refine wpList_append_own_at _ rfl (.tmp 18) (.tmp 22) 33 rfl w.heap.size 25 i0 (.slice none 0 0) 1 24 Try.underlying33 hi hz0 hz1 hz2 rfl (by decide) u5 q _ rfl ((HO.out.alloc _).alloc _) ⟨wr.heap.size + 1, 0, none⟩ 1 1 [.slice none 0 0] rfl rfl (one_new2 wr _ _ _) (by intro u hu; simp only [List.mem_cons, List.not_mem_nil, or_false] at hu; subst hu; rfl) m1 m2 (by simp; omega) ?_; intro v1 w1 hown1 hgrow1 hnil1 hat1))
          have HI : Hid (∀ i, i < cnt L kind (k + 1) → NilOrOwn w1 w.heap.size (updT K q ⟨0, none, 0, 0, (L k).z⟩ i) ∧ (updT K q ⟨0, none, 0, 0, (L k).z⟩ i).n = (Sel L kind (k + 1) i).n ∧ (updT K q ⟨0, none, 0, 0, (L k).z⟩ i).z = (Sel L kind (k + 1) i).z) := Lib.hid (by
            intro i hi'
            rw [HC1.out] at hi'
            rw [HS.out]
            by_cases e : i = q
            · subst e
              rw [updT_same, updT_same]
              exact ⟨⟨.inl ⟨rfl, rfl, rfl⟩, by show (0 : Nat) ≤ _; omega, HLz.out⟩, HN0.out.symm, rfl⟩
            · rw [updT_other _ _ _ _ e, updT_other _ _ _ _ e]
              obtain ⟨g1, g2, g3⟩ := hK.out i (by omega)
              exact ⟨((g1.below ((bself wr).alloc (Nat.le_refl _) _)).below ((bself _).alloc (Nat.le_refl _) _)).grown ((HO.out.alloc _).alloc _) hgrow1, g2, g3⟩)
          have HB := Lib.hid (((hb.alloc hbs _).alloc (by simp; omega) _).grown hgrow1 (by simp; omega) (fun x e => (HO.out.lt x e).1))
          have HR2 : Hid (w1.ownsRow w.heap.size 25 1 v1 (cnt L kind (k + 1)) (cellsV (updT K q ⟨0, none, 0, 0, (L k).z⟩) (cnt L kind (k + 1)))) := Lib.hid (by rw [HC1.out, cellsV_push]; exact hown1)
          clear hown1 hgrow1 hnil1 hat1 c0 c1
          go_wp2
          go_roundw
          case rel => exact ⟨k + 1, _, by omega, by go_num, HR2.out, HI, HB.out⟩
          case measure => simp only [intOf]; omega
        | some ad =>
          rw [hLA] at c1
          have HA0 := Lib.hid hLA
          have hRd2 := HRd.out
          rw [hLA] at hRd2
          have H := Lib.hid (fun (W : World) (hW : Below w.heap.size w W) => clone_any ad (L k).n (L k).c (L k).z W (hRd2.below hW rfl) hnb)
          clear hLA hRd2
          generalize hLn : (L k).n = n at *
          generalize hLc : (L k).c = lc at *
          have HLn := Lib.hid hLn
          clear hLn hLc
          go_wp2_with fail
          refine (H.out _ (by exact hb.alloc hbs _)).mono ?_
          rintro e w1 ⟨g1, cap1, rfl, hg1, ho1, hb1⟩
          have hbx : Below wr.heap.size wr w1 := ((bself wr).alloc (Nat.le_refl _) _).trans (hb1.mono (by simp))
          have hw1 := hbx.size
          have HO1 := Lib.hid (ownsRow_below HO.out hbx)
          go_wp2_with (at_builtin; refine wpList_append_own_at _ rfl (.tmp 18) (.tmp 22) 33 rfl w.heap.size 25 i0 (.slice none 0 0) 1 24 Try.underlying33 hi hz0 hz1 hz2 rfl (by decide) u5 q _ rfl (HO1.out.alloc _) ⟨w1.heap.size, 0, none⟩ 1 1 [.slice (some ⟨g1, 0, none⟩) n cap1] rfl rfl (one_new w1 _ _) (by intro u hu; simp only [List.mem_cons, List.not_mem_nil, or_false] at hu; subst hu; rfl) m1 m2 (by simp; omega) ?_; intro v2 w2 hown2 hgrow2 hnil2 hat2)
          have hg1' : w.heap.size ≤ g1 := by simp at hg1; omega
          have HI : Hid (∀ i, i < cnt L kind (k + 1) → NilOrOwn w2 w.heap.size (updT K q ⟨0, some ⟨g1, 0, none⟩, n, cap1, (L k).z⟩ i) ∧ (updT K q ⟨0, some ⟨g1, 0, none⟩, n, cap1, (L k).z⟩ i).n = (Sel L kind (k + 1) i).n ∧ (updT K q ⟨0, some ⟨g1, 0, none⟩, n, cap1, (L k).z⟩ i).z = (Sel L kind (k + 1) i).z) := Lib.hid (by
            intro i hi'
            rw [HC1.out] at hi'
            rw [HS.out]
            by_cases e : i = q
            · subst e
              rw [updT_same, updT_same]
              exact ⟨NilOrOwn.grown ⟨.inr ⟨g1, rfl, hg1', ho1.alloc _⟩, hnb, HLz.out⟩ (HO1.out.alloc _) hgrow2, HLn.out.symm, rfl⟩
            · rw [updT_other _ _ _ _ e, updT_other _ _ _ _ e]
              obtain ⟨g1, g2, g3⟩ := hK.out i (by omega)
              exact ⟨((g1.below hbx).below ((bself _).alloc (Nat.le_refl _) _)).grown (HO1.out.alloc _) hgrow2, g2, g3⟩)
          have HB := Lib.hid (((hb.trans (hbx.mono hbs)).alloc (by omega) _).grown hgrow2 (by simp; omega) (fun x e => (HO1.out.lt x e).1))
          have HR2 : Hid (w2.ownsRow w.heap.size 25 1 v2 (cnt L kind (k + 1)) (cellsV (updT K q ⟨0, some ⟨g1, 0, none⟩, n, cap1, (L k).z⟩) (cnt L kind (k + 1)))) := Lib.hid (by rw [HC1.out, cellsV_push]; exact hown2)
          clear hown2 hgrow2 hnil2 hat2 c0 c1 hb1 hbx ho1 hg1
          go_wp2
          go_roundw
          case rel => exact ⟨k + 1, _, by omega, by go_num, HR2.out, HI, HB.out⟩
          case measure => simp only [intOf]; omega
      · have hc1 : cnt L kind (k + 1) = cnt L kind k := by simp [cnt, hty]
        have hS : Sel L kind (k + 1) = Sel L kind k := by simp [Sel, hty]
        have HR2 : Hid ((wr.alloc (.cells #[.int .u8 (L k).ty, .slice (L k).A (L k).n (L k).c] 27)).ownsRow w.heap.size 25 1 u5 (cnt L kind (k + 1)) (cellsV K (cnt L kind (k + 1)))) := Lib.hid (by rw [hc1]; exact HO.out.alloc _)
        have HI : Hid (∀ i, i < cnt L kind (k + 1) → NilOrOwn (wr.alloc (.cells #[.int .u8 (L k).ty, .slice (L k).A (L k).n (L k).c] 27)) w.heap.size (K i) ∧ (K i).n = (Sel L kind (k + 1) i).n ∧ (K i).z = (Sel L kind (k + 1) i).z) := Lib.hid (by
          rw [hc1, hS]
          intro i hi'
          obtain ⟨g1, g2, g3⟩ := hK.out i hi'
          exact ⟨g1.below ((bself wr).alloc (Nat.le_refl _) _), g2, g3⟩)
        clear hc1 hS c2
        generalize hty' : (L k).ty = ty at *
        clear hty'
        go_wp2
        go_roundw
        case rel => exact ⟨k + 1, K, by omega, by go_num, HR2.out, HI, hb.alloc hbs _⟩
        case measure => simp only [intOf]; omega
    · obtain rfl : k = m := by omega
      have ho := Lib.hid hown
      clear hown
      go_wp2
      go_ret
      exact ⟨_, K, rfl, ho.out, hK.out, hb⟩

def RefOfPost (w : World) (L : Nat → It) (kind : Int) (m : Nat) (e : Ending) (w' : World) : Prop :=
  ∃ v, e = .returned v ∧ w'.ownsRow w.heap.size 25 1 v (cnt L kind m) (cellsV (Sel L kind m) (cnt L kind m)) ∧ Below w.heap.size w w'

set_option maxHeartbeats 4000000 in
set_option maxRecDepth 100000 in
theorem refof_any (A : Option Addr) (m c : Nat) (kind : Int) (L : Nat → It) (w : World) (h : RdT w A m L) (hm : m * 32 ≤ 140737488351232) :
    Calls Try.prog 13 #[.slice A m c, .int .u8 kind] w (RefOfPost w L kind m) := by
  obtain ⟨i0, hi, hz0, hz1, hz2⟩ := info_parts info_bytes
  have HR := Lib.hid h
  clear h
  go_enter Try.func13, Try.ntmps13
  go_wp2_with fail
  go_loopw [5, 9] (fun v i wr => ∃ k : Nat, k ≤ m ∧ i = .int .i64 k ∧ wr.ownsRow w.heap.size 25 1 v (cnt L kind k) (cellsV (Sel L kind k) (cnt L kind k)) ∧ Below w.heap.size w wr)
    (fun _ i _ => m - (intOf i).toNat)
  case atStart => exact ⟨0, by omega, rfl, World.ownsRow_nil _ _ _ _, bself w⟩
  case round =>
    obtain ⟨k, hk, rfl, hown, hb⟩ := hrel
    by_cases hkm : k < m
    · obtain ⟨b, off, rfl, hr⟩ := (HR.out.below hb).row (by omega)
      obtain ⟨c0, c1, c2⟩ := hr.2 k hkm
      have hbs := hb.size
      have HO := Lib.hid hown
      have hcl := cnt_le L kind k
      clear hr hown c2
      by_cases hty : (L k).ty = kind
      · have hc1 : cnt L kind (k + 1) = cnt L kind k + 1 := by simp [cnt, hty]
        have hS : Sel L kind (k + 1) = updT (Sel L kind k) (cnt L kind k) (L k) := by simp [Sel, hty]
        have m1 : cnt L kind k + 1 ≤ maxLen := by unfold maxLen; omega
        have m2 : (cnt L kind k + 1) * 24 ≤ 140737488355328 := by omega
        have HC1 := Lib.hid hc1
        have HS := Lib.hid hS
        rw [hty] at c0
        clear hc1 hS hty
        generalize hcn : cnt L kind k = q at *
        go_wp2_with (at_builtin; refine wpList_append_own_at _ rfl (.tmp 19) (.tmp 25) 33 rfl w.heap.size 25 i0 (.slice none 0 0) 1 24 Try.underlying33 hi hz0 hz1 hz2 rfl (by decide) u5 q _ rfl (HO.out.alloc _) ⟨wr.heap.size, 0, none⟩ 1 1 [.slice (L k).A (L k).n (L k).c] rfl rfl (one_new wr _ _) (by intro u hu; simp only [List.mem_cons, List.not_mem_nil, or_false] at hu; subst hu; rfl) m1 m2 (by simp; omega) ?_; intro v1 w1 hown1 hgrow1 hnil1 hat1)
        have HB := Lib.hid ((hb.alloc hbs _).grown hgrow1 (by simp; omega) (fun x e => (HO.out.lt x e).1))
        have HR2 : Hid (w1.ownsRow w.heap.size 25 1 v1 (cnt L kind (k + 1)) (cellsV (Sel L kind (k + 1)) (cnt L kind (k + 1)))) := Lib.hid (by rw [HC1.out, HS.out, cellsV_push]; exact hown1)
        clear hown1 hgrow1 hnil1 hat1 c0 c1
        go_wp2
        go_roundw
        case rel => exact ⟨k + 1, by omega, by go_num, HR2.out, HB.out⟩
        case measure => simp only [intOf]; omega
      · have hc1 : cnt L kind (k + 1) = cnt L kind k := by simp [cnt, hty]
        have hS : Sel L kind (k + 1) = Sel L kind k := by simp [Sel, hty]
        have HR2 : Hid (wr.ownsRow w.heap.size 25 1 u5 (cnt L kind (k + 1)) (cellsV (Sel L kind (k + 1)) (cnt L kind (k + 1)))) := Lib.hid (by rw [hc1, hS]; exact HO.out)
        clear hc1 hS
        generalize hty' : (L k).ty = ty at *
        clear hty'
        go_wp2
        go_roundw
        case rel => exact ⟨k + 1, by omega, by go_num, HR2.out, hb⟩
        case measure => simp only [intOf]; omega
    · obtain rfl : k = m := by omega
      have ho := Lib.hid hown
      clear hown
      go_wp2
      go_ret
      exact ⟨_, rfl, ho.out, hb⟩
end Go.Proofs.Ytpbippipmcpjeab
