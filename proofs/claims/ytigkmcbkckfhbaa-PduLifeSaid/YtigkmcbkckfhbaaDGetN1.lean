/- pdu.GetEntries reads entries. Each theorem states its conditions. -/
import Derived.Test.YtigkmcbkckfhbaaDRegN
namespace Go.Proofs.Ytigkmcbkckfhbaa
open Go.RowKit
set_option linter.unusedVariables false

theorem fold_set {α : Type} (X A : Array α) (n : Nat) (hX : X.size = n) (hA : A.size = n) : Array.foldl (fun cs (x : α × Nat) => cs.setIfInBounds x.snd x.fst) A X.zipIdx 0 n = X := by
  have hz : X.zipIdx.size = n := by simpa using hX
  have key : (Array.foldl (fun cs (x : α × Nat) => cs.setIfInBounds x.snd x.fst) A X.zipIdx).size = n ∧ ∀ j, j < X.zipIdx.size → (Array.foldl (fun cs (x : α × Nat) => cs.setIfInBounds x.snd x.fst) A X.zipIdx)[j]? = X[j]? := by
    refine Array.foldl_induction (motive := fun (i : Nat) (acc : Array α) => acc.size = n ∧ ∀ j, j < i → acc[j]? = X[j]?) ⟨hA, fun j hj => by omega⟩ (fun i b hb => ?_)
    refine ⟨by simpa using hb.1, fun j hj => ?_⟩
    have hi : i.1 < X.size := by have := i.2; simpa using this
    simp only [Fin.getElem_fin, Array.getElem_zipIdx, Nat.zero_add]
    rw [Array.getElem?_setIfInBounds]
    by_cases e : i.1 = j
    · subst e
      rw [if_pos rfl, if_pos (by rw [hb.1]; omega), Array.getElem?_eq_getElem hi]
    · rw [if_neg e]
      exact hb.2 j (by omega)
  rw [hz] at key
  apply Array.ext_getElem?
  intro j
  by_cases hj : j < n
  · exact key.2 j hj
  · rw [Array.getElem?_eq_none (by omega), Array.getElem?_eq_none (by omega)]

theorem rdR_one' {w : World} {B s : Nat} {C : Array Value} {t : TypeId} (h : w.heap[B]? = some (.cells C t (0, 0))) : RdR w (some ⟨B, 0, none⟩) 1 s (fun _ => C) := by
  refine .inr ⟨B, 0, rfl, (Array.getElem?_eq_some_iff.1 h).1, fun j hj i u hu => ?_⟩
  obtain rfl : j = 0 := by omega
  rw [Nat.zero_mul, Nat.zero_add, cell_of_row w B i _ _ _ h]
  simpa using hu
theorem Row8.cut {w : World} {b off n : Nat} {z : Nat → Int} (h : Row8 w b off n z) (m : Nat) (hm : m ≤ n) : Row8 w b off m z := ⟨h.1, fun j hj => h.2.1 j (by omega), h.2.2⟩
theorem Row8.below' {w w' : World} {b off n : Nat} {z : Nat → Int} (h : Row8 w b off n z) (hb : Below w.heap.size w w') : Row8 w' b off n z := h.below hb h.1
/-- the entry that sixteen bytes are -/
def gEn (z : Nat → Int) : En := ⟨fun j => z (2 + j), (numZ (fun j => z (10 + j)) 0 4).toNat, ((numZ z 0 2).toNat : Int), (numZ (fun j => z (14 + j)) 0 2).toNat⟩
def nC (z : Nat → Int) (k : Nat) : Array Value := enC (gEn (fun j => z (16 * k + j)))
theorem recs_nC (z : Nat → Int) : Recs 11 (nC z) := fun j => ⟨rfl, enC_one _⟩
theorem n2_bd (z : Nat → Int) (hz : ∀ j, 0 ≤ z j ∧ z j ≤ 255) : (numZ z 0 2).toNat ≤ 65535 := by
  have h := numZ_lt z 0 2 (fun j => hz _)
  have e : (256 : Int) ^ 2 = 65536 := by decide
  omega
theorem n4_bd (z : Nat → Int) (hz : ∀ j, 0 ≤ z j ∧ z j ≤ 255) : (numZ z 0 4).toNat ≤ 4294967295 := by
  have h := numZ_lt z 0 4 (fun j => hz _)
  have e : (256 : Int) ^ 4 = 4294967296 := by decide
  omega
theorem wI (N : Nat) (h : N ≤ 65535) : IntKind.i64.wrap (N : Int) = (N : Int) := by simp [IntKind.wrap, IntKind.signed, IntKind.bits]; omega
theorem wU4 (N : Nat) (h : N ≤ 4294967295) : IntKind.u32.wrap (N : Int) = (N : Int) := by simp [IntKind.wrap, IntKind.signed, IntKind.bits]; omega
theorem wU2 (N : Nat) (h : N ≤ 65535) : IntKind.u16.wrap (N : Int) = (N : Int) := by simp [IntKind.wrap, IntKind.signed, IntKind.bits]; omega
def lenV : Value → Nat
  | .slice _ n _ => n
  | _ => 0
theorem build_slice_en (W : World) (o : Oper) (e : Operand → Value) {x : Operand} (ho : o.op = .buildSlice 55 1 #[(0, x)]) (E : En) (h : e x = .agg (enC E)) :
    (execOp e o).run Try.prog W = .ok (.value (.slice (some ⟨W.heap.size, 0, none⟩) 1 1)) (W.alloc (.cells (enC E) 96)) := by
  unfold execOp
  simp only [ho]
  simp only [List.map_toArray, List.map_cons, List.map_nil, h]
  kernel_rfl
set_option maxHeartbeats 16000000 in
set_option maxRecDepth 100000 in
theorem getEntries_any (b off m c : Nat) (z : Nat → Int) (w : World) (hr : Row8 w b off (16 * m) z) (hm0 : 0 < m) (hm : m ≤ 15) (hc : 16 * m ≤ c) (hcm : c ≤ maxLen) :
    Calls Try.prog 24 #[.slice (some ⟨b, off, none⟩) (16 * m) c] w fun e w' => ∃ v, e = .returned (.tuple #[v, .int .i64 0]) ∧ w'.ownsRow w.heap.size 96 11 v m (cellsR (nC z) m) ∧ Below w.heap.size w w' := by
  have HR := Lib.hid hr
  have HZ := Lib.hid hr.2.2
  have hbw := hr.1
  have hML : maxLen = 9223372036854775807 := rfl
  have HCM := Lib.hid hcm
  obtain ⟨n, hn⟩ : ∃ n, 16 * m = n := ⟨_, rfl⟩
  rw [hn] at hc HR ⊢
  have HN := Lib.hid hn
  have q1 : (n : Int) ≤ 255 := by omega
  have q2 : (n : Int) % 16 = 0 := by omega
  rw [hML] at hcm
  clear hr hn hML
  go_enter Try.func24, Try.ntmps24
  go_wp2_with fail
  go_loopw [0, 4] (fun p l wr => ∃ (k q cc : Nat) (A' : Option Addr), k + q = m ∧ cc + 16 * k = c ∧ p = .slice A' (16 * q) cc ∧ Hid (0 < q → A' = some ⟨b, off + 16 * k, none⟩) ∧ Hid (wr.ownsRow w.heap.size 96 11 l k (cellsR (nC z) k)) ∧ Hid (Below w.heap.size w wr))
    (fun p _ _ => lenV p)
  case atStart => exact ⟨0, m, c, some ⟨b, off, none⟩, by omega, by omega, by rw [HN.out], Lib.hid (fun _ => rfl), Lib.hid (World.ownsRow_nil _ _ _ _), Lib.hid (bself w)⟩
  case round =>
    obtain ⟨k, q, cc, A', hkq, hcc, rfl, HA, HO, HW⟩ := hrel
    rcases Nat.eq_zero_or_pos q with rfl | hq
    · obtain rfl : k = m := by omega
      go_wp2_with fail
      go_ret2
      exact ⟨_, rfl, HO.out, HW.out⟩
    · obtain rfl := HA.out hq
      obtain ⟨q', rfl⟩ : ∃ q', q = q' + 1 := ⟨q - 1, by omega⟩
      obtain ⟨L, hL⟩ : ∃ L, 16 * (q' + 1) = L := ⟨_, rfl⟩
      have hLq := Lib.hid (show L - 16 = 16 * q' by omega)
      have hr1 := (HR.out.below HW.out hbw).shift (16 * k) 16 (by have := HN.out; omega)
      have hcl : L ≤ cc := by have := HN.out; omega
      have hL16 : 16 ≤ L := by omega
      have hcc2 : cc ≤ 9223372036854775807 := by omega
      have Hcc : Hid (cc ≤ maxLen) := Lib.hid hcc2
      have Hkk : Hid (k + 1 + q' = m ∧ (cc - 16) + 16 * (k + 1) = c ∧ k ≤ 14) := Lib.hid (by omega)
      have HLL := Lib.hid hL
      have hLd : L ≤ 255 := by omega
      rw [hL]
      clear hL hkq hcc HA hq
      have HCell : Hid (cellsR (nC z) k ++ (nC z k).toList = cellsR (nC z) (k + 1)) := Lib.hid rfl
      obtain ⟨zk, hzk⟩ : ∃ zk, (fun j => z (16 * k + j)) = zk := ⟨_, rfl⟩
      rw [hzk] at hr1
      have HnC : Hid (nC z k = enC (gEn zk)) := Lib.hid (by unfold nC; rw [hzk])
      have hzz : ∀ j, 0 ≤ zk j ∧ zk j ≤ 255 := fun j => by rw [← hzk]; exact HZ.out _
      clear hzk
      obtain ⟨M1, hM1⟩ : ∃ M, (numZ zk 0 2).toNat = M := ⟨_, rfl⟩
      obtain ⟨M2, hM2⟩ : ∃ M, (numZ (fun j => zk (10 + j)) 0 4).toNat = M := ⟨_, rfl⟩
      obtain ⟨M3, hM3⟩ : ∃ M, (numZ (fun j => zk (14 + j)) 0 2).toNat = M := ⟨_, rfl⟩
      have b1 : M1 ≤ 65535 := by rw [← hM1]; exact n2_bd _ hzz
      have b2 : M2 ≤ 4294967295 := by rw [← hM2]; exact n4_bd _ (fun j => hzz _)
      have b3 : M3 ≤ 65535 := by rw [← hM3]; exact n2_bd _ (fun j => hzz _)
      have HEn : Hid (gEn zk = ⟨fun j => zk (2 + j), M2, (M1 : Int), M3⟩) := Lib.hid (by unfold gEn; rw [hM1, hM2, hM3])
      have K1 := Lib.hid (fun (X : World) (hX : Row8 X b (off + 16 * k) 16 zk) => show Calls Try.prog 55 #[.slice (some ⟨b, off + 16 * k, none⟩) 2 cc] X (fun e w' => e = .returned (.int .u64 (M1 : Int)) ∧ w' = X) by rw [← hM1]; exact getNumber_any _ _ 2 _ zk X (hX.cut 2 (by omega)) (by omega) (by omega) (by omega) Hcc.out)
      have K2 := Lib.hid (fun (X : World) (hX : Row8 X b (off + 16 * k) 16 zk) => show Calls Try.prog 55 #[.slice (some ⟨b, off + 16 * k + 10, none⟩) 4 (cc - 10)] X (fun e w' => e = .returned (.int .u64 (M2 : Int)) ∧ w' = X) by rw [← hM2]; exact getNumber_any _ _ 4 _ _ X (hX.shift 10 4 (by omega)) (by omega) (by omega) (by omega) (by have := Hcc.out; omega))
      have K3 := Lib.hid (fun (X : World) (hX : Row8 X b (off + 16 * k) 16 zk) => show Calls Try.prog 55 #[.slice (some ⟨b, off + 16 * k + 14, none⟩) 2 (cc - 14)] X (fun e w' => e = .returned (.int .u64 (M3 : Int)) ∧ w' = X) by rw [← hM3]; exact getNumber_any _ _ 2 _ _ X (hX.shift 14 2 (by omega)) (by omega) (by omega) (by omega) (by have := Hcc.out; omega))
      have K4 := Lib.hid (fun (X : World) (hX : Row8 X b (off + 16 * k) 16 zk) => show Calls Try.prog 56 #[.slice (some ⟨b, off + 16 * k + 2, none⟩) 8 (cc - 2)] X (fun e w' => e = .returned (.agg (idC fun j => zk (2 + j))) ∧ Below X.heap.size X w') by exact getID_any _ _ _ _ X (hX.shift 2 8 (by omega)) (by omega) (by have := Hcc.out; omega))
      clear hM1 hM2 hM3
      obtain ⟨W0, hW0⟩ : ∃ W0, wr.drew = W0 := ⟨_, rfl⟩
      have HR0 : Hid (Row8 W0 b (off + 16 * k) 16 zk) := Lib.hid (by rw [← hW0]; exact hr1)
      have HB0 : Hid (Below w.heap.size w W0) := Lib.hid (by rw [← hW0]; exact HW.out.drew)
      have HO0 : Hid (W0.ownsRow w.heap.size 96 11 u4 k (cellsR (nC z) k)) := Lib.hid (by rw [← hW0]; exact HO.out)
      have HWW := Lib.hid hW0
      clear hr1 hW0
      obtain ⟨F, hF⟩ : ∃ F, cellsR (nC z) k = F := ⟨_, rfl⟩
      rw [hF] at HO0 HCell
      clear hF
      go_wp2_with fail
      have i2 : ¬ (cc : Int) < 2 := by omega
      have i10 : ¬ (cc : Int) < 10 := by omega
      have i14 : ¬ (cc : Int) < 14 := by omega
      have i16 : ¬ (cc : Int) < 16 := by omega
      have e0 : ¬ cc = 0 := by omega
      have e2 : ¬ cc = 2 := by omega
      have e10 : ¬ cc = 10 := by omega
      have e14 : ¬ cc = 14 := by omega
      refine wp_region_held_drew (S := fun w' => True) (by kernel_rfl) trivial (fun hS0 => ?_)
      rw [HWW.out]
      refine takeY (i := 0) (some 19) (v := u4) rfl rfl (by kernel_rfl) (by kernel_rfl) (by kernel_rfl) (fun _ _ _ h => h) (by rfl) (fun w' hS => by go_simp) trivial ?_
      simp only [Act.put, List.setIfInBounds_toArray, List.set_cons_zero, List.set_cons_succ]
      refine takeY (i := 1) (some 20) (v := .slice (some ⟨b, off + 16 * k, none⟩) L cc) rfl rfl (by kernel_rfl) (by kernel_rfl) (by kernel_rfl) (fun _ _ _ h => h) (by rfl) (fun w' hS => by go_simp) trivial ?_
      simp only [Act.put, List.setIfInBounds_toArray, List.set_cons_zero, List.set_cons_succ]
      refine takeY (i := 2) (some 21) (v := .slice (some ⟨b, off + 16 * k, none⟩) 2 cc) rfl rfl (by kernel_rfl) (by kernel_rfl) (by kernel_rfl) (fun _ _ _ h => h) (by rfl) (fun w' hS => by go_simp) trivial ?_
      simp only [Act.put, List.setIfInBounds_toArray, List.set_cons_zero, List.set_cons_succ]
      refine takeY (i := 5) (some 24) (v := .slice (some ⟨b, off + 16 * k, none⟩) L cc) rfl rfl (by kernel_rfl) (by kernel_rfl) (by kernel_rfl) (fun _ _ _ h => h) (by rfl) (fun w' hS => by go_simp) trivial ?_
      simp only [Act.put, List.setIfInBounds_toArray, List.set_cons_zero, List.set_cons_succ]
      refine takeY (i := 6) (some 25) (v := .slice (some ⟨b, off + 16 * k + 2, none⟩) 8 (cc - 2)) rfl rfl (by kernel_rfl) (by kernel_rfl) (by kernel_rfl) (fun _ _ _ h => h) (by rfl) (fun w' hS => by go_simp) trivial ?_
      simp only [Act.put, List.setIfInBounds_toArray, List.set_cons_zero, List.set_cons_succ]
      refine takeY (i := 8) (some 27) (v := .slice (some ⟨b, off + 16 * k, none⟩) L cc) rfl rfl (by kernel_rfl) (by kernel_rfl) (by kernel_rfl) (fun _ _ _ h => h) (by rfl) (fun w' hS => by go_simp) trivial ?_
      simp only [Act.put, List.setIfInBounds_toArray, List.set_cons_zero, List.set_cons_succ]
      refine takeY (i := 9) (some 28) (v := .slice (some ⟨b, off + 16 * k + 10, none⟩) 4 (cc - 10)) rfl rfl (by kernel_rfl) (by kernel_rfl) (by kernel_rfl) (fun _ _ _ h => h) (by rfl) (fun w' hS => by go_simp) trivial ?_
      simp only [Act.put, List.setIfInBounds_toArray, List.set_cons_zero, List.set_cons_succ]
      refine takeY (i := 12) (some 31) (v := .slice (some ⟨b, off + 16 * k, none⟩) L cc) rfl rfl (by kernel_rfl) (by kernel_rfl) (by kernel_rfl) (fun _ _ _ h => h) (by rfl) (fun w' hS => by go_simp) trivial ?_
      simp only [Act.put, List.setIfInBounds_toArray, List.set_cons_zero, List.set_cons_succ]
      refine takeY (i := 13) (some 32) (v := .slice (some ⟨b, off + 16 * k + 14, none⟩) 2 (cc - 14)) rfl rfl (by kernel_rfl) (by kernel_rfl) (by kernel_rfl) (fun _ _ _ h => h) (by rfl) (fun w' hS => by go_simp) trivial ?_
      simp only [Act.put, List.setIfInBounds_toArray, List.set_cons_zero, List.set_cons_succ]
      refine takeC (i := 3) (some 22) 55 #[.slice (some ⟨b, off + 16 * k, none⟩) 2 cc] (.int .u64 (M1 : Int)) (R := fun w' => w' = W0) rfl rfl (by kernel_rfl) (by rfl) (by go_simp) (K1.out W0 HR0.out) (fun _ _ => trivial) (fun w8 hw _ => ?_)
      subst w8
      simp only [Act.put, List.setIfInBounds_toArray, List.set_cons_zero, List.set_cons_succ]
      refine takeY (i := 4) (some 23) (v := .int .i64 (M1 : Int)) rfl rfl (by kernel_rfl) (by kernel_rfl) (by kernel_rfl) (fun _ _ _ h => h) (by rfl) (fun w' hS => by first | (go_simp; done) | (go_simp; exact wI _ (by omega))) trivial ?_
      simp only [Act.put, List.setIfInBounds_toArray, List.set_cons_zero, List.set_cons_succ]
      refine takeC (i := 7) (some 26) 56 #[.slice (some ⟨b, off + 16 * k + 2, none⟩) 8 (cc - 2)] (.agg (idC fun j => zk (2 + j))) (R := fun w' => Below W0.heap.size W0 w') rfl rfl (by kernel_rfl) (by rfl) (by go_simp) (K4.out W0 HR0.out) (fun _ _ => trivial) (fun w1 hw _ => ?_)
      have HR1 : Hid (Row8 w1 b (off + 16 * k) 16 zk) := Lib.hid (HR0.out.below' hw)
      have HB1 : Hid (Below w.heap.size w w1) := Lib.hid (HB0.out.trans (hw.mono HB0.out.size))
      have HO1 : Hid (w1.ownsRow w.heap.size 96 11 u4 k F) := Lib.hid (ownsRow_below' HO0.out hw)
      clear hw
      simp only [Act.put, List.setIfInBounds_toArray, List.set_cons_zero, List.set_cons_succ]
      refine takeC (i := 10) (some 29) 55 #[.slice (some ⟨b, off + 16 * k + 10, none⟩) 4 (cc - 10)] (.int .u64 (M2 : Int)) (R := fun w' => w' = w1) rfl rfl (by kernel_rfl) (by rfl) (by go_simp) (K2.out w1 HR1.out) (fun _ _ => trivial) (fun w8 hw _ => ?_)
      subst w8
      simp only [Act.put, List.setIfInBounds_toArray, List.set_cons_zero, List.set_cons_succ]
      refine takeY (i := 11) (some 30) (v := .int .u32 (M2 : Int)) rfl rfl (by kernel_rfl) (by kernel_rfl) (by kernel_rfl) (fun _ _ _ h => h) (by rfl) (fun w' hS => by first | (go_simp; done) | (go_simp; exact wU4 _ (by omega))) trivial ?_
      simp only [Act.put, List.setIfInBounds_toArray, List.set_cons_zero, List.set_cons_succ]
      refine takeC (i := 14) (some 33) 55 #[.slice (some ⟨b, off + 16 * k + 14, none⟩) 2 (cc - 14)] (.int .u64 (M3 : Int)) (R := fun w' => w' = w1) rfl rfl (by kernel_rfl) (by rfl) (by go_simp) (K3.out w1 HR1.out) (fun _ _ => trivial) (fun w8 hw _ => ?_)
      subst w8
      simp only [Act.put, List.setIfInBounds_toArray, List.set_cons_zero, List.set_cons_succ]
      refine takeY (i := 15) (some 34) (v := .int .u16 (M3 : Int)) rfl rfl (by kernel_rfl) (by kernel_rfl) (by kernel_rfl) (fun _ _ _ h => h) (by rfl) (fun w' hS => by first | (go_simp; done) | (go_simp; exact wU2 _ (by omega))) trivial ?_
      simp only [Act.put, List.setIfInBounds_toArray, List.set_cons_zero, List.set_cons_succ]
      have HR1' := HO1.out
      refine takeY (i := 16) (some 35) (v := .agg (enC (gEn zk))) rfl rfl (by kernel_rfl) (by kernel_rfl) (by kernel_rfl) (fun _ _ _ h => h) (by rfl) (fun w' hS => by rw [HEn.out]; exact build_en _ _ _ _ _ _ rfl ⟨fun j => zk (2 + j), M2, (M1 : Int), M3⟩ rfl rfl rfl rfl w') trivial ?_
      simp only [Act.put, List.setIfInBounds_toArray, List.set_cons_zero, List.set_cons_succ]
      refine takeV (i := 17) (some 36) (v := .slice (some ⟨w1.heap.size, 0, none⟩) 1 1) (w' := w1.alloc (.cells (enC (gEn zk)) 96)) rfl rfl (by kernel_rfl) (by rfl) (build_slice_en w1 _ _ rfl _ rfl) trivial ?_
      simp only [Act.put, List.setIfInBounds_toArray, List.set_cons_zero, List.set_cons_succ]
      refine takeAN (i := 18) (some 37) (.tmp 19) (.tmp 36) rfl rfl (by kernel_rfl) (by rfl) rfl w u4 k F rfl (HO1.out.alloc _) (HB1.out.alloc HB1.out.size _) ⟨w1.heap.size, 0, none⟩ 1 (enC (gEn zk)) rfl (rdR_one' (heap_alloc_new _ _)) (fun _ => ⟨rfl, enC_one _⟩) (by have := Hkk.out.2.2; omega) (fun v2 w2 ho2 hb2 hs2 => ⟨trivial, ?_⟩)
      simp only [Act.put, List.setIfInBounds_toArray, List.set_cons_zero, List.set_cons_succ]
      have HO2 := Lib.hid ho2
      have HB2 := Lib.hid hb2
      clear ho2 hb2 hs2
      refine takeY (i := 19) (some 4) (v := v2) rfl rfl (by kernel_rfl) (by kernel_rfl) (by kernel_rfl) (fun _ _ _ h => h) (by rfl) (fun w' hS => by go_simp) trivial ?_
      simp only [Act.put, List.setIfInBounds_toArray, List.set_cons_zero, List.set_cons_succ]
      refine wpAnyH_done (by kernel_rfl) ?_ _
      have HOF : Hid (w2.ownsRow w.heap.size 96 11 v2 (k + 1) (cellsR (nC z) (k + 1))) := Lib.hid (by have h := HO2.out; rw [← HnC.out, HCell.out] at h; exact h)
      have l16 : ¬ (L : Int) < 16 := by omega
      by_cases h16 : cc = 16
      · have hq0 : Hid (q' = 0) := Lib.hid (by have := hLq.out; omega)
        go_wp2_with fail
        go_roundw
        case rel => exact ⟨k + 1, q', cc - 16, some ⟨b, off + 16 * k, none⟩, Hkk.out.1, Hkk.out.2.1, by rw [← hLq.out, h16], Lib.hid (fun h => by have := hq0.out; omega), HOF, HB2⟩
        case measure => simp only [lenV]; omega
      · go_wp2_with fail
        go_roundw
        case rel => exact ⟨k + 1, q', cc - 16, some ⟨b, off + 16 * k + 16, none⟩, Hkk.out.1, Hkk.out.2.1, by rw [← hLq.out], Lib.hid (fun h => by rw [show off + 16 * k + 16 = off + 16 * (k + 1) by omega]), HOF, HB2⟩
        case measure => simp only [lenV]; omega
end Go.Proofs.Ytigkmcbkckfhbaa
