/- The document's examples of reach, run: waymarklaw05.awake returns true. Lists of bytes as numbers by place. No condition. -/
import Derived.Test.YtplfilghhgdffaaRPut
namespace Go.Proofs.Ytplfilghhgdffaa
open Go.RowKit
set_option linter.unusedVariables false

/-- bytes, each between 0 and 255 -/
def U8s (xs : List Value) : Prop := ∀ u ∈ xs, ∃ v : Int, u = .int .u8 v ∧ 0 ≤ v ∧ v ≤ 255
/-- the number at a place -/
def zL (xs : List Value) : Nat → Int := fun j => match xs[j]? with
  | some (.int _ v) => v
  | _ => 0
theorem zL_at {xs : List Value} (h : U8s xs) (j : Nat) (hj : j < xs.length) : xs[j]? = some (.int .u8 (zL xs j)) := by
  obtain ⟨v, hv, _⟩ := h xs[j] (List.getElem_mem hj)
  have e : xs[j]? = some (.int .u8 v) := by rw [List.getElem?_eq_getElem hj, hv]
  unfold zL
  rw [e]
theorem zL_bd {xs : List Value} (h : U8s xs) : ∀ j, 0 ≤ zL xs j ∧ zL xs j ≤ 255 := by
  intro j
  by_cases hj : j < xs.length
  · obtain ⟨v, hv, h1, h2⟩ := h xs[j] (List.getElem_mem hj)
    have e : xs[j]? = some (.int .u8 v) := by rw [List.getElem?_eq_getElem hj, hv]
    unfold zL
    rw [e]
    exact ⟨h1, h2⟩
  · unfold zL
    rw [List.getElem?_eq_none (by omega)]
    exact ⟨Int.le_refl 0, by decide⟩
theorem vals_zL {xs : List Value} (h : U8s xs) : vals (zL xs) xs.length = xs := by
  apply List.ext_getElem?
  intro j
  by_cases hj : j < xs.length
  · rw [vals_at _ _ _ hj, zL_at h j hj]
  · rw [List.getElem?_eq_none (by rw [vals_len]; omega), List.getElem?_eq_none (by omega)]
theorem own_zL {w : World} {base n : Nat} {v : Value} {xs : List Value} (h : w.ownsRow base 5 1 v n xs) (hn : n = xs.length) (hu : U8s xs) : OwnB w base v n (zL xs) := by
  subst hn
  exact ⟨by rw [vals_zL hu]; exact h, zL_bd hu⟩
theorem u8s_app {xs ys : List Value} (h : U8s xs) (h' : U8s ys) : U8s (xs ++ ys) := by
  intro u hu
  rcases List.mem_append.1 hu with h1 | h1
  · exact h u h1
  · exact h' u h1
theorem u8s_vals (z : Nat → Int) (n : Nat) (hz : ∀ j, 0 ≤ z j ∧ z j ≤ 255) : U8s (vals z n) := by
  intro u hu
  simp only [vals, List.mem_map] at hu
  obtain ⟨j, _, rfl⟩ := hu
  exact ⟨_, rfl, hz j⟩
theorem u8s_lenL (r : Rc) (h : Sized r.fam r.len) : U8s (lenL r) := by
  intro u hu
  unfold lenL flagI at hu
  rcases h with ⟨h1, h2, h3⟩ | ⟨h1, h2, h3⟩
  · rw [if_pos h1] at hu
    simp only [List.mem_cons, List.not_mem_nil, or_false] at hu
    subst hu
    refine ⟨_, rfl, ?_⟩
    split <;> omega
  · rw [if_neg (by omega)] at hu
    simp only [List.mem_cons, List.not_mem_nil, or_false] at hu
    rcases hu with rfl | rfl
    · refine ⟨_, rfl, ?_⟩
      split <;> omega
    · exact ⟨_, rfl, h2, by omega⟩
theorem u8s_recV (r : Rc) (h : Sized r.fam r.len) (hz : Bytes r.z) : U8s (recV r) := u8s_app (u8s_app (u8s_vals _ _ (putZ_bd _ _)) (u8s_lenL r h)) (u8s_vals _ _ hz)
theorem u8s_flat (L : Nat → Rc) (m : Nat) (h : ∀ k, k < m → Sized (L k).fam (L k).len ∧ Bytes (L k).z) : U8s (flatR L m) := by
  induction m with
  | zero => intro u hu; cases hu
  | succ m ih => exact u8s_app (ih fun k hk => h k (by omega)) (u8s_recV _ (h m (by omega)).1 (h m (by omega)).2)
theorem rdR_one {w : World} {B s : Nat} {C : Array Value} {t : TypeId} (h : w.heap[B]? = some (.cells C t (0, 0))) : RdR w (some ⟨B, 0, none⟩) 1 s (fun _ => C) := by
  refine .inr ⟨B, 0, rfl, (Array.getElem?_eq_some_iff.1 h).1, fun j hj i u hu => ?_⟩
  obtain rfl : j = 0 := by omega
  rw [Nat.zero_mul, Nat.zero_add, cell_of_row w B i _ _ _ h]
  simpa using hu
theorem rd_lit {w : World} {B n : Nat} {C : Array Value} {t : TypeId} {z : Nat → Int} (h : w.heap[B]? = some (.cells C t (0, 0))) (hz : ∀ j, 0 ≤ z j ∧ z j ≤ 255) (hC : C.toList = vals z n) : Rd w (some ⟨B, 0, none⟩) n z := by
  refine ⟨.inr ⟨B, 0, rfl, (Array.getElem?_eq_some_iff.1 h).1, fun j hj => ?_, hz⟩, hz⟩
  rw [Nat.zero_add, cell_of_row w B j _ _ _ h]
  have := vals_at z n j hj
  rw [← hC] at this
  simpa using this

def edX : Ed := ⟨fun j => if j = 5 then 1 else if j = 6 then 2 else 0, 10⟩
def rcX : Rc := ⟨6, 0, fun _ => 0, 1, false⟩
theorem edX_ok : EdOk edX := ⟨fun j => by unfold edX; dsimp only; split <;> (try split) <;> omega, by decide⟩
theorem rcX_ok : RcOk rcX := ⟨fun _ => ⟨Int.le_refl 0, show (0 : Int) ≤ 255 by decide⟩, by decide, by decide⟩
theorem rcX_good : RGood 6 rcX := ⟨rfl, .inr (by decide), fun j hj => firstZ_hi (by show 0 ≤ _; omega)⟩
set_option maxHeartbeats 4000000 in
set_option maxRecDepth 100000 in
theorem awake_any (w : World) : Calls Try.prog 9 #[] w fun e w' => e = .returned (.bool true) ∧ Below w.heap.size w w' := by
  have h0 : ((w.alloc (.cells (edC edX) 30)).alloc (.cells (edC edX) 30)).heap[w.heap.size + 1]? = some (.cells (edC edX) 30 (0, 0)) := by
    have := heap_alloc_new (w.alloc (.cells (edC edX) 30)) (.cells (edC edX) 30)
    rw [World.size_alloc] at this
    exact this
  have H0 := Lib.hid (rdR_one (s := 8) h0)
  have hb0 := Lib.hid (((bself w).alloc (Nat.le_refl _) (.cells (edC edX) 30)).alloc (by simp) (.cells (edC edX) 30))
  clear h0
  go_enter Try.func9, Try.ntmps9
  go_wp2_with fail
  refine (putEdges_any (some ⟨w.heap.size + 1, 0, none⟩) 1 1 1 (fun _ => edX) _ H0.out (fun _ => edX_ok) (by omega) (by omega) (by omega) ⟨Nat.le_refl _, fun k hk => by show 10 ≤ 16777215; omega, .inl rfl⟩).mono ?_
  rintro e w1 (⟨_, v, rfl, ho, hb⟩ | ⟨h, _⟩)
  rotate_left
  · omega
  have hB1 := Lib.hid (hb0.out.trans (hb.mono hb0.out.size))
  have ho' : OwnB w1 _ v 11 (edZ fun _ => edX) := ho
  obtain ⟨A1, c1, rfl, h1, h2, h3, hrd⟩ := ho'.shape
  have HR1 := Lib.hid hrd
  clear hb hb0 H0 ho ho' h3 hrd
  have H2 := Lib.hid (rdR_one (s := 20) (heap_alloc_new w1 (.cells (rcC rcX) 47)))
  go_wp2_with fail
  refine (putReach_6 (some ⟨w1.heap.size, 0, none⟩) 1 1 1 (fun _ => rcX) _ H2.out (fun _ => rcX_ok) (by omega) (by omega) (by omega) ⟨Nat.le_refl _, fun k hk => rcX_good, .inl rfl⟩).mono ?_
  rintro e w2 (⟨_, v2, rfl, ho2, hb2⟩ | ⟨h, _⟩)
  rotate_left
  · omega
  have hB12 := Lib.hid (((bself w1).alloc (Nat.le_refl _) (.cells (rcC rcX) 47)).trans (hb2.mono (by simp)))
  have hB2 := Lib.hid (hB1.out.trans (hB12.out.mono hB1.out.size))
  have e6 : (flatR (fun _ => rcX) 1).length = 6 := by kernel_rfl
  have ho2' := own_zL ho2 rfl (u8s_flat (fun _ => rcX) 1 fun _ _ => ⟨rcX_good.2.1, rcX_ok.1⟩)
  rw [e6] at ho2'
  obtain ⟨A2, c2, rfl, g1, g2, g3, grd⟩ := ho2'.shape
  have HR2 := Lib.hid grd
  have HRA := Lib.hid (HR1.out.below hB12.out rfl)
  clear hb2 ho2 ho2' g3 grd H2 HR1 hB12 e6
  have HL1 := Lib.hid (rd_lit (z := edZ fun _ => edX) (n := 11) (heap_alloc_new w2 (.cells #[.int .u8 0, .int .u8 0, .int .u8 0, .int .u8 0, .int .u8 0, .int .u8 1, .int .u8 2, .int .u8 0, .int .u8 0, .int .u8 10, .int .u8 0] 5)) (edZ_bd _ fun _ => edX_ok) (by kernel_rfl))
  go_wp2_with fail
  refine (same_yes A1 (some ⟨w2.heap.size, 0, none⟩) 11 c1 11 (edZ fun _ => edX) (edZ fun _ => edX) _ (HRA.out.below ((bself w2).alloc (Nat.le_refl _) _) rfl) HL1.out (fun _ _ => rfl) (by omega)).mono ?_
  rintro e w3 ⟨rfl, q, hw3⟩
  have hB23 : Hid (Below w2.heap.size w2 w3) := Lib.hid (by rw [hw3]; exact bdrewN ((bself w2).alloc (Nat.le_refl _) _) q)
  clear hw3 HL1
  have hB3 := Lib.hid (hB2.out.trans (hB23.out.mono hB2.out.size))
  have HR3 := Lib.hid (HR2.out.below hB23.out rfl)
  have HL2 := Lib.hid (rd_lit (z := zL (flatR (fun _ => rcX) 1)) (n := 6) (heap_alloc_new w3 (.cells #[.int .u8 0, .int .u8 0, .int .u8 0, .int .u8 1, .int .u8 0, .int .u8 0] 5)) (zL_bd (u8s_flat (fun _ => rcX) 1 fun _ _ => ⟨rcX_good.2.1, rcX_ok.1⟩)) (by kernel_rfl))
  clear HRA HR2 hB23
  go_wp2_with fail
  refine (same_yes A2 (some ⟨w3.heap.size, 0, none⟩) 6 c2 6 (zL (flatR (fun _ => rcX) 1)) (zL (flatR (fun _ => rcX) 1)) _ (HR3.out.below ((bself w3).alloc (Nat.le_refl _) _) rfl) HL2.out (fun _ _ => rfl) (by omega)).mono ?_
  rintro e w4 ⟨rfl, q2, hw4⟩
  have hB4 : Hid (Below w.heap.size w w4) := Lib.hid (hB3.out.trans ((show Below w3.heap.size w3 w4 by rw [hw4]; exact bdrewN ((bself w3).alloc (Nat.le_refl _) _) q2).mono hB3.out.size))
  clear hw4
  go_wp2_with fail
  go_ret
  exact ⟨rfl, hB4.out⟩
end Go.Proofs.Ytplfilghhgdffaa
