/- The document's DocGetEdges. Each theorem states its conditions. -/
import Derived.Test.YtplfilghhgdffaaRPfx
import Derived.Test.YtplfilghhgdffaaSameE
import Derived.Test.YtplfilghhgdffaaGets
namespace Go.Proofs.Ytplfilghhgdffaa
open Go.RowKit
set_option linter.unusedVariables false

theorem edC_put (z : Nat → Int) (p i : Nat) (hi : i < 6) : (edC ⟨headZ z p i, 0⟩).setIfInBounds i (.int .u8 (z (p + i))) = edC ⟨headZ z p (i + 1), 0⟩ := by
  rcases (by omega : i = 0 ∨ i = 1 ∨ i = 2 ∨ i = 3 ∨ i = 4 ∨ i = 5) with rfl | rfl | rfl | rfl | rfl | rfl <;> rfl
theorem isEd_put {W : World} {X p i : Nat} {z : Nat → Int} (h : IsEd W X (edC ⟨headZ z p i, 0⟩)) (hi : i < 6) : IsEd (W.setCell ⟨X, i, none⟩ (.int .u8 (z (p + i)))) X (edC ⟨headZ z p (i + 1), 0⟩) := by
  unfold IsEd at *
  rw [← edC_put z p i hi]
  simp [World.setCell, Array.getElem?_modify, h]
theorem isEd_put6 {W : World} {X p : Nat} {z : Nat → Int} (h : IsEd W X (edC ⟨headZ z p 6, 0⟩)) : IsEd (W.setCell ⟨X, 6, none⟩ (.int .u8 (z (p + 6)))) X (edC ⟨headZ z p 7, 0⟩) := by
  unfold IsEd at *
  have e : (edC ⟨headZ z p 6, 0⟩).setIfInBounds 6 (.int .u8 (z (p + 6))) = edC ⟨headZ z p 7, 0⟩ := rfl
  rw [← e]
  simp [World.setCell, Array.getElem?_modify, h]
theorem isEd_putM {W : World} {X : Nat} {s : Nat → Int} {me : Nat} (h : IsEd W X (edC ⟨s, 0⟩)) : IsEd (W.setCell ⟨X, 7, none⟩ (.int .u32 (me : Int))) X (edC ⟨s, me⟩) := by
  unfold IsEd at *
  have e : (edC ⟨s, 0⟩).setIfInBounds 7 (.int .u32 (me : Int)) = edC ⟨s, me⟩ := rfl
  rw [← e]
  simp [World.setCell, Array.getElem?_modify, h]
theorem head_eC (z : Nat → Int) (p : Nat) : edC ⟨headZ z p 7, (numZ (fun j => z (p + 7 + j)) 0 3).toNat⟩ = eC z p := rfl
theorem head_at (z : Nat → Int) (p i : Nat) (hi : i < 6) : (edC ⟨headZ z p i, 0⟩)[i]? = some (.int .u8 0) := by
  rcases (by omega : i = 0 ∨ i = 1 ∨ i = 2 ∨ i = 3 ∨ i = 4 ∨ i = 5) with rfl | rfl | rfl | rfl | rfl | rfl <;> rfl
theorem Row8.shift {w : World} {b off n : Nat} {z : Nat → Int} (h : Row8 w b off n z) (k m : Nat) (hk : k + m ≤ n) : Row8 w b (off + k) m (fun j => z (k + j)) :=
  ⟨h.1, fun j hj => by have := h.2.1 (k + j) (by omega); rwa [← Nat.add_assoc] at this, fun j => h.2.2 _⟩
theorem number3 (b off n c p : Nat) (z : Nat → Int) (w : World) (hr : Row8 w b off n z) (hp : p + 10 ≤ n) :
    Calls Try.prog 36 #[.slice (some ⟨b, off + (p + 7), none⟩) 3 c] w fun e w' => e = .returned (.int .u64 (((numZ (fun j => z (p + 7 + j)) 0 3).toNat : Nat) : Int)) ∧ w = w' := by
  have hz := hr.2.2
  refine (number_any b (off + (p + 7)) 3 c (fun j => z (p + 7 + j)) w (hr.shift (p + 7) 3 (by omega)) (by omega)).mono ?_
  rintro e w' ⟨rfl, rfl⟩
  exact ⟨by rw [Int.toNat_of_nonneg (numZ_lt (fun j => z (p + 7 + j)) 0 3 (fun j => hz _)).1], rfl⟩
theorem me3_bd (z : Nat → Int) (p : Nat) (hz : ∀ j, 0 ≤ z j ∧ z j ≤ 255) : (numZ (fun j => z (p + 7 + j)) 0 3).toNat ≤ 16777215 := by
  have h := numZ_lt (fun j => z (p + 7 + j)) 0 3 (fun j => hz _)
  have e : (256 : Int) ^ 3 = 16777216 := by decide
  omega
section
variable {ops : Array Oper} {rest : List Oper} {op : Oper} {a : Act} {w w' : World} {Q : Exit → Act → World → Prop}
/-- an operation that yields a value and turns the world -/
theorem step_valW {v : Value} (hw : Region.wanted op (yielded ops a.tmps) = true) (hx : (execOp a.eval op).run Try.prog w = .ok (.value v) w')
    (h : wpList Try.prog ops Q rest (a.put op.dst v) w') : wpList Try.prog ops Q (op :: rest) a w :=
  wpList_step fun K hK => by
    rw [if_pos hw]
    unfold Oper.wp
    rw [hx, Oper.upon_value]
    exact hK _ _ h
end
theorem rdR_one' {w : World} {B s : Nat} {C : Array Value} {t : TypeId} (h : w.heap[B]? = some (.cells C t (0, 0))) : RdR w (some ⟨B, 0, none⟩) 1 s (fun _ => C) := by
  refine .inr ⟨B, 0, rfl, (Array.getElem?_eq_some_iff.1 h).1, fun j hj i u hu => ?_⟩
  obtain rfl : j = 0 := by omega
  rw [Nat.zero_mul, Nat.zero_add, cell_of_row w B i _ _ _ h]
  simpa using hu
set_option maxHeartbeats 4000000 in
set_option maxRecDepth 100000 in
theorem docGetEdges_any (b off n c m : Nat) (z : Nat → Int) (w : World) (hr : Row8 w b off n z) (h0 : 0 < n) (hm : LEnds (eNx z) (eOk z n) n m) (hn : n ≤ 255) (hc : n ≤ c) (hcm : c ≤ 9223372036854775807) :
    Calls Try.prog 20 #[.slice (some ⟨b, off, none⟩) n c] w (GLPostE w (eC z) (eNx z) n m) := by
  have HR := Lib.hid hr
  have HM := Lib.hid hm
  have hz := hr.2.2
  have hbl := hr.1
  have q0 : (n : Int) ≤ 255 := by omega
  clear hr hm
  go_enter Try.func20, Try.ntmps20
  go_wp2_with fail
  go_loopw [4, 5] (fun l t wr => ∃ k : Nat, k ≤ m ∧ t = .int .i64 (pos (eNx z) k : Nat) ∧ Hid (wr.ownsRow w.heap.size 30 8 l k (cellsR (fun i => eC z (pos (eNx z) i)) k)) ∧ Hid (Below w.heap.size w wr))
    (fun _ t _ => n - (intOf t).toNat)
  case atStart => exact ⟨0, by omega, rfl, Lib.hid (World.ownsRow_nil _ _ _ _), Lib.hid (bself w)⟩
  case round =>
    obtain ⟨k, hk, rfl, HO, HW⟩ := hrel
    have hkk := Lib.hid (lends_le (steps_e z n) HM.out k hk)
    have hgood := Lib.hid (fun h => gl_good (steps_e z n) HM.out (k := k) h hk)
    have hbad := Lib.hid (fun h h' => gl_bad (steps_e z n) HM.out (k := k) h h' hk)
    have hnx := Lib.hid (show pos (eNx z) (k + 1) = eNx z (pos (eNx z) k) from rfl)
    have hcell := Lib.hid (show cellsR (fun i => eC z (pos (eNx z) i)) k ++ (eC z (pos (eNx z) k)).toList = cellsR (fun i => eC z (pos (eNx z) i)) (k + 1) from rfl)
    obtain ⟨F, hF⟩ : ∃ F, cellsR (fun i => eC z (pos (eNx z) i)) k = F := ⟨_, rfl⟩
    rw [hF] at HO hcell
    have HF0 := Lib.hid hF
    clear hF
    have hple := hkk.out.2
    obtain ⟨p, hp⟩ : ∃ p, pos (eNx z) k = p := ⟨_, rfl⟩
    rw [hp] at hple hnx hgood hbad hcell
    simp only [hp]
    have HPP := Lib.hid hp
    clear hp
    by_cases hpn : p = n
    · subst hpn
      have hkm := hgood.out rfl
      subst hkm
      go_wp2_with fail
      go_ret2
      exact .inl ⟨HPP.out, _, rfl, by rw [HF0.out]; exact HO.out, HW.out⟩
    · have hpn' : (p : Int) < (n : Int) := by omega
      by_cases h11 : n - p < 11
      · have t1 : (n : Int) - (p : Int) < 11 := by omega
        have hb := Lib.hid (hbad.out (by omega) (fun ho => by unfold eOk eNx at ho; omega))
        go_wp2_with fail
        go_ret2
        exact .inr ⟨hb.out, rfl, HW.out⟩
      · have t1 : ¬ (n : Int) - (p : Int) < 11 := by omega
        have hR := HR.out.below HW.out hbl
        have HRr := Lib.hid hR
        have hbr : b < wr.heap.size := hR.1
        obtain ⟨wo, rfl⟩ : ∃ wo : World, wo = wr := ⟨_, rfl⟩
        have HX0 : Hid (IsEd (wo.alloc (.cells (edC ⟨headZ z p 0, 0⟩) 30)) wo.heap.size (edC ⟨headZ z p 0, 0⟩)) := Lib.hid (heap_alloc_new wo _)
        have HB0 := Lib.hid ((bself wo).alloc (Nat.le_refl _) (.cells (edC ⟨headZ z p 0, 0⟩) 30))
        clear hR
        go_wp2_with fail
        go_loopw [20] (fun t wr => ∃ i : Nat, i ≤ 6 ∧ t = .int .i64 i ∧ Hid (IsEd wr wo.heap.size (edC ⟨headZ z p i, 0⟩)) ∧ Hid (Below wo.heap.size wo wr))
          (fun t _ => 6 - (intOf t).toNat)
        case atStart => exact ⟨0, by omega, rfl, HX0, HB0⟩
        case round =>
          obtain ⟨i, hi, rfl, HX, HB⟩ := hrel
          clear HX0 HB0
          by_cases hi6 : i < 6
          · have ci := (HRr.out.below HB.out hbr).2.1 (p + i) (by omega)
            have hi6' : (i : Int) < 6 := by omega
            have hpi : (p : Int) + (i : Int) < (n : Int) := by omega
            have cx := (isEd_cell HX.out i).trans (head_at z p i hi6)
            have fx := isEd_free HX.out i
            have HX' := Lib.hid (isEd_put HX.out hi6)
            have HB' := Lib.hid (HB.out.setCell (p := ⟨wo.heap.size, i, none⟩) (Nat.le_refl _) (.int .u8 (z (p + i))))
            go_wp2_with fail
            go_roundw
            case rel => exact ⟨i + 1, by omega, by go_num, HX', HB'⟩
            case measure => simp only [intOf]; omega
          · obtain rfl : i = 6 := by omega
            have hRi := HRr.out.below HB.out hbr
            have c6 := hRi.2.1 (p + 6) (by omega)
            have d6 : wr.cell? ⟨wo.heap.size, 6, none⟩ = some (.int .u8 0) := (isEd_cell HX.out 6).trans rfl
            have f6 := isEd_free HX.out 6
            have HX6 := Lib.hid (isEd_put6 HX.out)
            have hB6 := HB.out.setCell (p := ⟨wo.heap.size, 6, none⟩) (Nat.le_refl _) (.int .u8 (z (p + 6)))
            have HB6 := Lib.hid hB6
            have HR6 := Lib.hid (HRr.out.below hB6 hbr)
            have p6 : (p : Int) + 6 < (n : Int) := by omega
            have p7 : (p : Int) + 7 ≤ (p : Int) + 10 := by omega
            have p10 : (p : Int) + 10 < (n : Int) := by omega
            have pc : (p : Int) + 10 ≤ (c : Int) := by omega
            have pe : ¬ (c : Int) = (p : Int) + 7 := by omega
            have pe' : ¬ c = p + 7 := by omega
            clear hB6 hRi
            go_wp2_with fail
            refine (number3 b off n (c - (p + 7)) p z _ HR6.out (by omega)).mono ?_
            rintro e w6 ⟨rfl, hw6⟩
            rw [hw6] at HX6 HB6 HR6
            have HMb := me3_bd z p hz
            have HEq := Lib.hid (head_eC z p)
            obtain ⟨M, hM⟩ : ∃ M, (numZ (fun j => z (p + 7 + j)) 0 3).toNat = M := ⟨_, rfl⟩
            rw [hM] at HMb HEq
            simp only [hM]
            have d7 : w6.cell? ⟨wo.heap.size, 7, none⟩ = some (.int .u32 0) := (isEd_cell HX6.out 7).trans rfl
            have f7 := isEd_free HX6.out 7
            have hX7 := isEd_putM (me := M) HX6.out
            rw [HEq.out] at hX7
            have hB7 := HB6.out.setCell (p := ⟨wo.heap.size, 7, none⟩) (Nat.le_refl _) (.int .u32 (M : Int))
            have hR7 := HRr.out.below hB7 hbr
            obtain ⟨V, hV⟩ : ∃ V, (z (p + 10)).toNat = V := ⟨_, rfl⟩
            have hV' : z (p + 10) = (V : Int) := by rw [← hV, Int.toNat_of_nonneg (hz _).1]
            have hVb : V ≤ 255 := by have := hz (p + 10); omega
            have c10 := hR7.2.1 (p + 10) (by omega)
            rw [hV'] at c10
            have hNx : Hid (eNx z p = p + (11 + V)) := Lib.hid (by unfold eNx; rw [hV]; omega)
            obtain ⟨W7, hW7⟩ : ∃ W7, w6.setCell ⟨wo.heap.size, 7, none⟩ (.int .u32 (M : Int)) = W7 := ⟨_, rfl⟩
            have HW7 := Lib.hid hW7
            rw [hW7] at hX7 hB7
            have HX7 := Lib.hid hX7
            have HB7 := Lib.hid hB7
            have hsX : wo.heap.size < W7.heap.size := (Array.getElem?_eq_some_iff.1 hX7).1
            clear hM hX7 hB7 hR7 hV hV' hw6 HX6 HB6 HR6 hW7 HX HB HRr
            by_cases hk2 : p + (11 + V) ≤ n
            · have t2 : (p : Int) + (11 + (V : Int)) ≤ (n : Int) := by omega
              have hrng : Hid ((w6.setCell ⟨wo.heap.size, 7, none⟩ (.int .u32 (M : Int))).rangeAt wo.heap.size 0 (eC z p).toList) := Lib.hid (by
                rw [HW7.out]
                intro j u hu
                rw [Nat.zero_add, isEd_cell HX7.out]
                simpa using hu)
              have hO7 := Lib.hid (ownsRow_below' HO.out HB7.out)
              have hB7w := Lib.hid (HW.out.trans (HB7.out.mono HW.out.size))
              rw [← HW7.out] at hO7 hB7w
              have hC8 : (eC z p).size = 8 := rfl
              have hkm := Lib.hid (show k + 1 ≤ m by
                by_cases e : k = m
                · subst e
                  have := HM.out.2
                  rw [HPP.out] at this
                  rcases this with h | h
                  · omega
                  · exact absurd (show eOk z n p by unfold eOk; rw [hNx.out]; exact hk2) h.2
                · omega)
              have hk24 : Hid (k ≤ 255) := Lib.hid (by have := hkk.out; omega)
              go_wp2_with (first
                | (refine wpList_load_mid rfl 30 (.tmp 6) rfl wo.heap.size 0 rfl _ _ hrng.out Try.underlying30 rfl info_ed ?_)
                | (refine step_valW (v := .slice (some ⟨(w6.setCell ⟨wo.heap.size, 7, none⟩ (.int .u32 (M : Int))).heap.size, 0, none⟩) 1 1) (w' := (w6.setCell ⟨wo.heap.size, 7, none⟩ (.int .u32 (M : Int))).alloc (.cells (eC z p) 30)) (by rfl) (by go_simp; rw [fold_set _ _ 8 hC8 (by simp)]) ?_)
                | (at_builtin; refine app_E rfl (.tmp 63) (.tmp 65) rfl w u4 k F rfl (hO7.out.alloc _) (hB7w.out.alloc hB7w.out.size _) (some ⟨(w6.setCell ⟨wo.heap.size, 7, none⟩ (.int .u32 (M : Int))).heap.size, 0, none⟩) 1 1 (fun _ => eC z p) rfl (rdR_one' (heap_alloc_new _ _)) (fun e => by cases e) (fun _ => ⟨rfl, edC_one _⟩) (by have := hk24.out; omega) ?_; intro v8 w8 ho8 hb8 hs8 hk8))
              have HO8 := Lib.hid ho8
              have HB8 := Lib.hid hb8
              clear ho8 hb8 hs8 hk8 c10 d7 f7
              go_wp2_with fail
              go_roundw
              case rel =>
                have hfin : Hid (w8.ownsRow w.heap.size 30 8 v8 (k + 1) (cellsR (fun i => eC z (pos (eNx z) i)) (k + 1))) := Lib.hid (by
                  have h := HO8.out
                  rw [← hcell.out]
                  exact h)
                have hpos : Hid (p + (11 + V) = pos (eNx z) (k + 1)) := Lib.hid (by rw [hnx.out, hNx.out])
                first | exact ⟨k + 1, hkm.out, by rw [← hpos.out]; go_num, hfin, HB8⟩ | exact ⟨_, _, _, ⟨k + 1, hkm.out, by rw [← hpos.out]; go_num, hfin, HB8⟩, rfl, rfl, rfl⟩ | ((repeat apply Exists.intro); exact ⟨⟨k + 1, hkm.out, by rw [← hpos.out]; go_num, hfin, HB8⟩, rfl⟩)
              case measure => simp only [intOf]; omega
            · have t2 : ¬ (p : Int) + (11 + (V : Int)) ≤ (n : Int) := by omega
              have t3 : (n : Int) < (p : Int) + (11 + (V : Int)) := by omega
              have hb := Lib.hid (hbad.out (by omega) (fun ho => by unfold eOk at ho; have := hNx.out; omega))
              have hB7w := Lib.hid (HW.out.trans (HB7.out.mono HW.out.size))
              rw [← HW7.out] at hB7w
              go_wp2_with fail
              go_ret2
              exact .inr ⟨hb.out, rfl, hB7w.out⟩
end Go.Proofs.Ytplfilghhgdffaa
