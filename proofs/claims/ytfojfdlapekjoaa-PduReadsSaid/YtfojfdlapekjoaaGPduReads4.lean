/- Texts of this claim put together; each theorem states its conditions. -/
import Derived.Test.YtfojfdlapekjoaaGPduReads3
import Derived.Test.YtfojfdlapekjoaaRows
import Derived.Test.YtfojfdlapekjoaaGPduReads2
import Derived.Deep.Slices
import Derived.OpenShut
import Derived.ProofKit
import Derived.SizedLaws
/- pdu.GetEntries reads entries. Each theorem states its conditions. -/
namespace Go.Proofs.Ytfojfdlapekjoaa
open Go.RowKit
set_option linter.unusedVariables false

theorem fold_set {α : Type} (X A : Array α) (n : Nat) (hX : X.size = n) (hA : A.size = n) : Array.foldl (fun cs (x : α × Nat) => cs.setIfInBounds x.snd x.fst) A X.zipIdx 0 n = X := by
  have hz : X.zipIdx.size = n := by simpa using hX
  have key : (Array.foldl (fun cs (x : α × Nat) => cs.setIfInBounds x.snd x.fst) A X.zipIdx).size = n ∧ ∀ j, j < X.zipIdx.size → (Array.foldl (fun cs (x : α × Nat) => cs.setIfInBounds x.snd x.fst) A X.zipIdx)[j]? = X[j]? := by
    refine Array.foldl_induction (motive := fun (i : Nat) (acc : Array α) => acc.size = n ∧ ∀ j, j < i → acc[j]? = X[j]?) ⟨hA, fun j hj => by omega⟩ (fun i b hb => ?_)
    refine ⟨by simpa using hb.1, fun j hj => ?_⟩
    have hi : i.1 < X.size := by have := i.2; simpa using this
    simp only [Fin.getElem_fin, Array.getElem_zipIdx, Nat.zero_add]
    rw [Array.getElem?_setIfInBounds]
    by_cases e : i.1 = j
    · subst e
      rw [if_pos rfl, if_pos (by rw [hb.1]; omega), Array.getElem?_eq_getElem hi]
    · rw [if_neg e]
      exact hb.2 j (by omega)
  rw [hz] at key
  apply Array.ext_getElem?
  intro j
  by_cases hj : j < n
  · exact key.2 j hj
  · rw [Array.getElem?_eq_none (by omega), Array.getElem?_eq_none (by omega)]

theorem rdR_one' {w : World} {B s : Nat} {C : Array Value} {t : TypeId} (h : w.heap[B]? = some (.cells C t (0, 0))) : RdR w (some ⟨B, 0, none⟩) 1 s (fun _ => C) := by
  refine .inr ⟨B, 0, rfl, (Array.getElem?_eq_some_iff.1 h).1, fun j hj i u hu => ?_⟩
  obtain rfl : j = 0 := by omega
  rw [Nat.zero_mul, Nat.zero_add, cell_of_row w B i _ _ _ h]
  simpa using hu
theorem Row8.cut {w : World} {b off n : Nat} {z : Nat → Int} (h : Row8 w b off n z) (m : Nat) (hm : m ≤ n) : Row8 w b off m z := ⟨h.1, fun j hj => h.2.1 j (by omega), h.2.2⟩
theorem Row8.below' {w w' : World} {b off n : Nat} {z : Nat → Int} (h : Row8 w b off n z) (hb : Below w.heap.size w w') : Row8 w' b off n z := h.below hb h.1
/-- the entry that sixteen bytes are -/
def gEn (z : Nat → Int) : En := ⟨fun j => z (2 + j), (numZ (fun j => z (10 + j)) 0 4).toNat, ((numZ z 0 2).toNat : Int), (numZ (fun j => z (14 + j)) 0 2).toNat⟩
def nC (z : Nat → Int) (k : Nat) : Array Value := enC (gEn (fun j => z (16 * k + j)))
theorem recs_nC (z : Nat → Int) : Recs 11 (nC z) := fun j => ⟨rfl, enC_one _⟩
theorem n2_bd (z : Nat → Int) (hz : ∀ j, 0 ≤ z j ∧ z j ≤ 255) : (numZ z 0 2).toNat ≤ 65535 := by
  have h := numZ_lt z 0 2 (fun j => hz _)
  have e : (256 : Int) ^ 2 = 65536 := by decide
  omega
theorem n4_bd (z : Nat → Int) (hz : ∀ j, 0 ≤ z j ∧ z j ≤ 255) : (numZ z 0 4).toNat ≤ 4294967295 := by
  have h := numZ_lt z 0 4 (fun j => hz _)
  have e : (256 : Int) ^ 4 = 4294967296 := by decide
  omega
theorem wI (N : Nat) (h : N ≤ 65535) : IntKind.i64.wrap (N : Int) = (N : Int) := by simp [IntKind.wrap, IntKind.signed, IntKind.bits]; omega
theorem wU4 (N : Nat) (h : N ≤ 4294967295) : IntKind.u32.wrap (N : Int) = (N : Int) := by simp [IntKind.wrap, IntKind.signed, IntKind.bits]; omega
theorem wU2 (N : Nat) (h : N ≤ 65535) : IntKind.u16.wrap (N : Int) = (N : Int) := by simp [IntKind.wrap, IntKind.signed, IntKind.bits]; omega
def lenV : Value → Nat
  | .slice _ n _ => n
  | _ => 0
theorem build_slice_en (W : World) (o : Oper) (e : Operand → Value) {x : Operand} (ho : o.op = .buildSlice 55 1 #[(0, x)]) (E : En) (h : e x = .agg (enC E)) :
    (execOp e o).run Try.prog W = .ok (.value (.slice (some ⟨W.heap.size, 0, none⟩) 1 1)) (W.alloc (.cells (enC E) 96)) := by
  unfold execOp
  simp only [ho]
  simp only [List.map_toArray, List.map_cons, List.map_nil, h]
  kernel_rfl
set_option maxHeartbeats 16000000 in
set_option maxRecDepth 100000 in
theorem getEntries_any (b off m c : Nat) (z : Nat → Int) (w : World) (hr : Row8 w b off (16 * m) z) (hm0 : 0 < m) (hm : m ≤ 15) (hc : 16 * m ≤ c) (hcm : c ≤ maxLen) :
    Calls Try.prog 24 #[.slice (some ⟨b, off, none⟩) (16 * m) c] w fun e w' => ∃ v, e = .returned (.tuple #[v, .int .i64 0]) ∧ w'.ownsRow w.heap.size 96 11 v m (cellsR (nC z) m) ∧ Below w.heap.size w w' := by
  have HR := Lib.hid hr
  have HZ := Lib.hid hr.2.2
  have hbw := hr.1
  have hML : maxLen = 9223372036854775807 := rfl
  have HCM := Lib.hid hcm
  obtain ⟨n, hn⟩ : ∃ n, 16 * m = n := ⟨_, rfl⟩
  rw [hn] at hc HR ⊢
  have HN := Lib.hid hn
  have q1 : (n : Int) ≤ 255 := by omega
  have q2 : (n : Int) % 16 = 0 := by omega
  rw [hML] at hcm
  clear hr hn hML
  go_enter Try.func24, Try.ntmps24
  go_wp2_with fail
  go_loopw [0, 4] (fun p l wr => ∃ (k q cc : Nat) (A' : Option Addr), k + q = m ∧ cc + 16 * k = c ∧ p = .slice A' (16 * q) cc ∧ Hid (0 < q → A' = some ⟨b, off + 16 * k, none⟩) ∧ Hid (wr.ownsRow w.heap.size 96 11 l k (cellsR (nC z) k)) ∧ Hid (Below w.heap.size w wr))
    (fun p _ _ => lenV p)
  case atStart => exact ⟨0, m, c, some ⟨b, off, none⟩, by omega, by omega, by rw [HN.out], Lib.hid (fun _ => rfl), Lib.hid (World.ownsRow_nil _ _ _ _), Lib.hid (bself w)⟩
  case round =>
    obtain ⟨k, q, cc, A', hkq, hcc, rfl, HA, HO, HW⟩ := hrel
    rcases Nat.eq_zero_or_pos q with rfl | hq
    · obtain rfl : k = m := by omega
      go_wp2_with fail
      go_ret2
      exact ⟨_, rfl, HO.out, HW.out⟩
    · obtain rfl := HA.out hq
      obtain ⟨q', rfl⟩ : ∃ q', q = q' + 1 := ⟨q - 1, by omega⟩
      obtain ⟨L, hL⟩ : ∃ L, 16 * (q' + 1) = L := ⟨_, rfl⟩
      have hLq := Lib.hid (show L - 16 = 16 * q' by omega)
      have hr1 := (HR.out.below HW.out hbw).shift (16 * k) 16 (by have := HN.out; omega)
      have hcl : L ≤ cc := by have := HN.out; omega
      have hL16 : 16 ≤ L := by omega
      have hcc2 : cc ≤ 9223372036854775807 := by omega
      have Hcc : Hid (cc ≤ maxLen) := Lib.hid hcc2
      have Hkk : Hid (k + 1 + q' = m ∧ (cc - 16) + 16 * (k + 1) = c ∧ k ≤ 14) := Lib.hid (by omega)
      have HLL := Lib.hid hL
      have hLd : L ≤ 255 := by omega
      rw [hL]
      clear hL hkq hcc HA hq
      have HCell : Hid (cellsR (nC z) k ++ (nC z k).toList = cellsR (nC z) (k + 1)) := Lib.hid rfl
      obtain ⟨zk, hzk⟩ : ∃ zk, (fun j => z (16 * k + j)) = zk := ⟨_, rfl⟩
      rw [hzk] at hr1
      have HnC : Hid (nC z k = enC (gEn zk)) := Lib.hid (by unfold nC; rw [hzk])
      have hzz : ∀ j, 0 ≤ zk j ∧ zk j ≤ 255 := fun j => by rw [← hzk]; exact HZ.out _
      clear hzk
      obtain ⟨M1, hM1⟩ : ∃ M, (numZ zk 0 2).toNat = M := ⟨_, rfl⟩
      obtain ⟨M2, hM2⟩ : ∃ M, (numZ (fun j => zk (10 + j)) 0 4).toNat = M := ⟨_, rfl⟩
      obtain ⟨M3, hM3⟩ : ∃ M, (numZ (fun j => zk (14 + j)) 0 2).toNat = M := ⟨_, rfl⟩
      have b1 : M1 ≤ 65535 := by rw [← hM1]; exact n2_bd _ hzz
      have b2 : M2 ≤ 4294967295 := by rw [← hM2]; exact n4_bd _ (fun j => hzz _)
      have b3 : M3 ≤ 65535 := by rw [← hM3]; exact n2_bd _ (fun j => hzz _)
      have HEn : Hid (gEn zk = ⟨fun j => zk (2 + j), M2, (M1 : Int), M3⟩) := Lib.hid (by unfold gEn; rw [hM1, hM2, hM3])
      have K1 := Lib.hid (fun (X : World) (hX : Row8 X b (off + 16 * k) 16 zk) => show Calls Try.prog 55 #[.slice (some ⟨b, off + 16 * k, none⟩) 2 cc] X (fun e w' => e = .returned (.int .u64 (M1 : Int)) ∧ w' = X) by rw [← hM1]; exact getNumber_any _ _ 2 _ zk X (hX.cut 2 (by omega)) (by omega) (by omega) (by omega) Hcc.out)
      have K2 := Lib.hid (fun (X : World) (hX : Row8 X b (off + 16 * k) 16 zk) => show Calls Try.prog 55 #[.slice (some ⟨b, off + 16 * k + 10, none⟩) 4 (cc - 10)] X (fun e w' => e = .returned (.int .u64 (M2 : Int)) ∧ w' = X) by rw [← hM2]; exact getNumber_any _ _ 4 _ _ X (hX.shift 10 4 (by omega)) (by omega) (by omega) (by omega) (by have := Hcc.out; omega))
      have K3 := Lib.hid (fun (X : World) (hX : Row8 X b (off + 16 * k) 16 zk) => show Calls Try.prog 55 #[.slice (some ⟨b, off + 16 * k + 14, none⟩) 2 (cc - 14)] X (fun e w' => e = .returned (.int .u64 (M3 : Int)) ∧ w' = X) by rw [← hM3]; exact getNumber_any _ _ 2 _ _ X (hX.shift 14 2 (by omega)) (by omega) (by omega) (by omega) (by have := Hcc.out; omega))
      have K4 := Lib.hid (fun (X : World) (hX : Row8 X b (off + 16 * k) 16 zk) => show Calls Try.prog 56 #[.slice (some ⟨b, off + 16 * k + 2, none⟩) 8 (cc - 2)] X (fun e w' => e = .returned (.agg (idC fun j => zk (2 + j))) ∧ Below X.heap.size X w') by exact getID_any _ _ _ _ X (hX.shift 2 8 (by omega)) (by omega) (by have := Hcc.out; omega))
      clear hM1 hM2 hM3
      obtain ⟨W0, hW0⟩ : ∃ W0, wr.drew = W0 := ⟨_, rfl⟩
      have HR0 : Hid (Row8 W0 b (off + 16 * k) 16 zk) := Lib.hid (by rw [← hW0]; exact hr1)
      have HB0 : Hid (Below w.heap.size w W0) := Lib.hid (by rw [← hW0]; exact HW.out.drew)
      have HO0 : Hid (W0.ownsRow w.heap.size 96 11 u4 k (cellsR (nC z) k)) := Lib.hid (by rw [← hW0]; exact HO.out)
      have HWW := Lib.hid hW0
      clear hr1 hW0
      obtain ⟨F, hF⟩ : ∃ F, cellsR (nC z) k = F := ⟨_, rfl⟩
      rw [hF] at HO0 HCell
      clear hF
      go_wp2_with fail
      have i2 : ¬ (cc : Int) < 2 := by omega
      have i10 : ¬ (cc : Int) < 10 := by omega
      have i14 : ¬ (cc : Int) < 14 := by omega
      have i16 : ¬ (cc : Int) < 16 := by omega
      have e0 : ¬ cc = 0 := by omega
      have e2 : ¬ cc = 2 := by omega
      have e10 : ¬ cc = 10 := by omega
      have e14 : ¬ cc = 14 := by omega
      refine wp_region_held_drew (S := fun w' => True) (by kernel_rfl) trivial (fun hS0 => ?_)
      rw [HWW.out]
      refine takeY (i := 0) (some 19) (v := u4) rfl rfl (by kernel_rfl) (by kernel_rfl) (by kernel_rfl) (fun _ _ _ h => h) (by rfl) (fun w' hS => by go_simp) trivial ?_
      simp only [Act.put, List.setIfInBounds_toArray, List.set_cons_zero, List.set_cons_succ]
      refine takeY (i := 1) (some 20) (v := .slice (some ⟨b, off + 16 * k, none⟩) L cc) rfl rfl (by kernel_rfl) (by kernel_rfl) (by kernel_rfl) (fun _ _ _ h => h) (by rfl) (fun w' hS => by go_simp) trivial ?_
      simp only [Act.put, List.setIfInBounds_toArray, List.set_cons_zero, List.set_cons_succ]
      refine takeY (i := 2) (some 21) (v := .slice (some ⟨b, off + 16 * k, none⟩) 2 cc) rfl rfl (by kernel_rfl) (by kernel_rfl) (by kernel_rfl) (fun _ _ _ h => h) (by rfl) (fun w' hS => by go_simp) trivial ?_
      simp only [Act.put, List.setIfInBounds_toArray, List.set_cons_zero, List.set_cons_succ]
      refine takeY (i := 5) (some 24) (v := .slice (some ⟨b, off + 16 * k, none⟩) L cc) rfl rfl (by kernel_rfl) (by kernel_rfl) (by kernel_rfl) (fun _ _ _ h => h) (by rfl) (fun w' hS => by go_simp) trivial ?_
      simp only [Act.put, List.setIfInBounds_toArray, List.set_cons_zero, List.set_cons_succ]
      refine takeY (i := 6) (some 25) (v := .slice (some ⟨b, off + 16 * k + 2, none⟩) 8 (cc - 2)) rfl rfl (by kernel_rfl) (by kernel_rfl) (by kernel_rfl) (fun _ _ _ h => h) (by rfl) (fun w' hS => by go_simp) trivial ?_
      simp only [Act.put, List.setIfInBounds_toArray, List.set_cons_zero, List.set_cons_succ]
      refine takeY (i := 8) (some 27) (v := .slice (some ⟨b, off + 16 * k, none⟩) L cc) rfl rfl (by kernel_rfl) (by kernel_rfl) (by kernel_rfl) (fun _ _ _ h => h) (by rfl) (fun w' hS => by go_simp) trivial ?_
      simp only [Act.put, List.setIfInBounds_toArray, List.set_cons_zero, List.set_cons_succ]
      refine takeY (i := 9) (some 28) (v := .slice (some ⟨b, off + 16 * k + 10, none⟩) 4 (cc - 10)) rfl rfl (by kernel_rfl) (by kernel_rfl) (by kernel_rfl) (fun _ _ _ h => h) (by rfl) (fun w' hS => by go_simp) trivial ?_
      simp only [Act.put, List.setIfInBounds_toArray, List.set_cons_zero, List.set_cons_succ]
      refine takeY (i := 12) (some 31) (v := .slice (some ⟨b, off + 16 * k, none⟩) L cc) rfl rfl (by kernel_rfl) (by kernel_rfl) (by kernel_rfl) (fun _ _ _ h => h) (by rfl) (fun w' hS => by go_simp) trivial ?_
      simp only [Act.put, List.setIfInBounds_toArray, List.set_cons_zero, List.set_cons_succ]
      refine takeY (i := 13) (some 32) (v := .slice (some ⟨b, off + 16 * k + 14, none⟩) 2 (cc - 14)) rfl rfl (by kernel_rfl) (by kernel_rfl) (by kernel_rfl) (fun _ _ _ h => h) (by rfl) (fun w' hS => by go_simp) trivial ?_
      simp only [Act.put, List.setIfInBounds_toArray, List.set_cons_zero, List.set_cons_succ]
      refine takeC (i := 3) (some 22) 55 #[.slice (some ⟨b, off + 16 * k, none⟩) 2 cc] (.int .u64 (M1 : Int)) (R := fun w' => w' = W0) rfl rfl (by kernel_rfl) (by rfl) (by go_simp) (K1.out W0 HR0.out) (fun _ _ => trivial) (fun w8 hw _ => ?_)
      subst w8
      simp only [Act.put, List.setIfInBounds_toArray, List.set_cons_zero, List.set_cons_succ]
      refine takeY (i := 4) (some 23) (v := .int .i64 (M1 : Int)) rfl rfl (by kernel_rfl) (by kernel_rfl) (by kernel_rfl) (fun _ _ _ h => h) (by rfl) (fun w' hS => by first | (go_simp; done) | (go_simp; exact wI _ (by omega))) trivial ?_
      simp only [Act.put, List.setIfInBounds_toArray, List.set_cons_zero, List.set_cons_succ]
      refine takeC (i := 7) (some 26) 56 #[.slice (some ⟨b, off + 16 * k + 2, none⟩) 8 (cc - 2)] (.agg (idC fun j => zk (2 + j))) (R := fun w' => Below W0.heap.size W0 w') rfl rfl (by kernel_rfl) (by rfl) (by go_simp) (K4.out W0 HR0.out) (fun _ _ => trivial) (fun w1 hw _ => ?_)
      have HR1 : Hid (Row8 w1 b (off + 16 * k) 16 zk) := Lib.hid (HR0.out.below' hw)
      have HB1 : Hid (Below w.heap.size w w1) := Lib.hid (HB0.out.trans (hw.mono HB0.out.size))
      have HO1 : Hid (w1.ownsRow w.heap.size 96 11 u4 k F) := Lib.hid (ownsRow_below' HO0.out hw)
      clear hw
      simp only [Act.put, List.setIfInBounds_toArray, List.set_cons_zero, List.set_cons_succ]
      refine takeC (i := 10) (some 29) 55 #[.slice (some ⟨b, off + 16 * k + 10, none⟩) 4 (cc - 10)] (.int .u64 (M2 : Int)) (R := fun w' => w' = w1) rfl rfl (by kernel_rfl) (by rfl) (by go_simp) (K2.out w1 HR1.out) (fun _ _ => trivial) (fun w8 hw _ => ?_)
      subst w8
      simp only [Act.put, List.setIfInBounds_toArray, List.set_cons_zero, List.set_cons_succ]
      refine takeY (i := 11) (some 30) (v := .int .u32 (M2 : Int)) rfl rfl (by kernel_rfl) (by kernel_rfl) (by kernel_rfl) (fun _ _ _ h => h) (by rfl) (fun w' hS => by first | (go_simp; done) | (go_simp; exact wU4 _ (by omega))) trivial ?_
      simp only [Act.put, List.setIfInBounds_toArray, List.set_cons_zero, List.set_cons_succ]
      refine takeC (i := 14) (some 33) 55 #[.slice (some ⟨b, off + 16 * k + 14, none⟩) 2 (cc - 14)] (.int .u64 (M3 : Int)) (R := fun w' => w' = w1) rfl rfl (by kernel_rfl) (by rfl) (by go_simp) (K3.out w1 HR1.out) (fun _ _ => trivial) (fun w8 hw _ => ?_)
      subst w8
      simp only [Act.put, List.setIfInBounds_toArray, List.set_cons_zero, List.set_cons_succ]
      refine takeY (i := 15) (some 34) (v := .int .u16 (M3 : Int)) rfl rfl (by kernel_rfl) (by kernel_rfl) (by kernel_rfl) (fun _ _ _ h => h) (by rfl) (fun w' hS => by first | (go_simp; done) | (go_simp; exact wU2 _ (by omega))) trivial ?_
      simp only [Act.put, List.setIfInBounds_toArray, List.set_cons_zero, List.set_cons_succ]
      have HR1' := HO1.out
      refine takeY (i := 16) (some 35) (v := .agg (enC (gEn zk))) rfl rfl (by kernel_rfl) (by kernel_rfl) (by kernel_rfl) (fun _ _ _ h => h) (by rfl) (fun w' hS => by rw [HEn.out]; exact build_en _ _ _ _ _ _ rfl ⟨fun j => zk (2 + j), M2, (M1 : Int), M3⟩ rfl rfl rfl rfl w') trivial ?_
      simp only [Act.put, List.setIfInBounds_toArray, List.set_cons_zero, List.set_cons_succ]
      refine takeV (i := 17) (some 36) (v := .slice (some ⟨w1.heap.size, 0, none⟩) 1 1) (w' := w1.alloc (.cells (enC (gEn zk)) 96)) rfl rfl (by kernel_rfl) (by rfl) (build_slice_en w1 _ _ rfl _ rfl) trivial ?_
      simp only [Act.put, List.setIfInBounds_toArray, List.set_cons_zero, List.set_cons_succ]
      refine takeAN (i := 18) (some 37) (.tmp 19) (.tmp 36) rfl rfl (by kernel_rfl) (by rfl) rfl w u4 k F rfl (HO1.out.alloc _) (HB1.out.alloc HB1.out.size _) ⟨w1.heap.size, 0, none⟩ 1 (enC (gEn zk)) rfl (rdR_one' (heap_alloc_new _ _)) (fun _ => ⟨rfl, enC_one _⟩) (by have := Hkk.out.2.2; omega) (fun v2 w2 ho2 hb2 hs2 => ⟨trivial, ?_⟩)
      simp only [Act.put, List.setIfInBounds_toArray, List.set_cons_zero, List.set_cons_succ]
      have HO2 := Lib.hid ho2
      have HB2 := Lib.hid hb2
      clear ho2 hb2 hs2
      refine takeY (i := 19) (some 4) (v := v2) rfl rfl (by kernel_rfl) (by kernel_rfl) (by kernel_rfl) (fun _ _ _ h => h) (by rfl) (fun w' hS => by go_simp) trivial ?_
      simp only [Act.put, List.setIfInBounds_toArray, List.set_cons_zero, List.set_cons_succ]
      refine wpAnyH_done (by kernel_rfl) ?_ _
      have HOF : Hid (w2.ownsRow w.heap.size 96 11 v2 (k + 1) (cellsR (nC z) (k + 1))) := Lib.hid (by have h := HO2.out; rw [← HnC.out, HCell.out] at h; exact h)
      have l16 : ¬ (L : Int) < 16 := by omega
      by_cases h16 : cc = 16
      · have hq0 : Hid (q' = 0) := Lib.hid (by have := hLq.out; omega)
        go_wp2_with fail
        go_roundw
        case rel => exact ⟨k + 1, q', cc - 16, some ⟨b, off + 16 * k, none⟩, Hkk.out.1, Hkk.out.2.1, by rw [← hLq.out, h16], Lib.hid (fun h => by have := hq0.out; omega), HOF, HB2⟩
        case measure => simp only [lenV]; omega
      · go_wp2_with fail
        go_roundw
        case rel => exact ⟨k + 1, q', cc - 16, some ⟨b, off + 16 * k + 16, none⟩, Hkk.out.1, Hkk.out.2.1, by rw [← hLq.out], Lib.hid (fun h => by rw [show off + 16 * k + 16 = off + 16 * (k + 1) by omega]), HOF, HB2⟩
        case measure => simp only [lenV]; omega
end Go.Proofs.Ytfojfdlapekjoaa

/- Cells that came in as an argument. Each theorem states its conditions. -/
namespace Go.Proofs.Ytfojfdlapekjoaa
open Go.RowKit Go.ChangeShapes Go.WideShapes
set_option linter.unusedVariables false

theorem numZ_congr (z z' : Nat → Int) (k : Nat) (h : ∀ j, j < k → z j = z' j) : numZ z 0 k = numZ z' 0 k := by
  induction k with
  | zero => rfl
  | succ k ih =>
    show numZ z 0 k * 256 + z (0 + k) = numZ z' 0 k * 256 + z' (0 + k)
    rw [ih fun j hj => h j (by omega), Nat.zero_add, h k (by omega)]
theorem tol (A : Array Value) (i : Nat) : A.toList[i]? = A[i]? := by simp
section
variable {H : Type} {enc : TypeId × Value → H} {w : World} {base : Nat} {spare : Nat → Bool} {held : Bool} {m : Nat} {cs : List Value} {x : DataW H × List MemPlace}
theorem cell_u8 {k : Nat} {o : Option (DataW H × List MemPlace)} (h : DataW.trod enc Try.prog w base spare held m 5 ((cs.drop k).take 1) = o) (ho : o.isSome = true) : ∃ a : Int, cs[k]? = some (.int .u8 a) ∧ 0 ≤ a ∧ a ≤ 255 := by
  obtain ⟨y, rfl⟩ := Option.isSome_iff_exists.1 ho
  obtain ⟨a, ea, _, wa⟩ := DataW.trod_int Try.underlying5 h
  refine ⟨a, ?_, wf_u8 wa⟩
  have := congrArg (·[0]?) ea
  simpa [List.getElem?_take, List.getElem?_drop] using this
theorem bytes_run {n e : Nat} {t : TypeId} (ht : Try.prog.underlying t = some (.array n 5)) {o : Option (DataW H × List MemPlace)} (h : DataW.trod enc Try.prog w base spare held m t ((cs.drop e).take n) = o) (ho : o.isSome = true) :
    ∃ z : Nat → Int, (∀ i, i < n → cs[e + i]? = some (.int .u8 (z i))) ∧ ∀ i, 0 ≤ z i ∧ z i ≤ 255 := by
  obtain ⟨y, rfl⟩ := Option.isSome_iff_exists.1 ho
  have hc1 : Try.prog.cellsOf 5 = 1 := by kernel_rfl
  obtain ⟨ys, m2, _, _, _, hn2, hel2⟩ := DataW.trod_array ht h
  have one : ∀ i, i < n → ∃ a : Int, cs[e + i]? = some (.int .u8 a) ∧ 0 ≤ a ∧ a ≤ 255 := by
    intro i hi
    have he := hel2 i hi
    rw [hc1, Nat.mul_one] at he
    obtain ⟨a, ha, hb⟩ := cell_u8 he (by rw [List.getElem?_eq_getElem (by omega)]; rfl)
    refine ⟨a, ?_, hb⟩
    rwa [List.getElem?_take, if_pos hi, List.getElem?_drop] at ha
  refine ⟨fun i => if h : i < n then (one i h).choose else 0, fun i hi => ?_, fun i => ?_⟩
  · simp only [dif_pos hi]
    exact (one i hi).choose_spec.1
  · by_cases h : i < n
    · simp only [dif_pos h]
      exact (one i h).choose_spec.2
    · simp only [dif_neg h]
      exact ⟨Int.le_refl 0, by decide⟩
end
end Go.Proofs.Ytfojfdlapekjoaa

/- Structs in memory: what is stored into one of them. Each theorem states its conditions. -/
namespace Go.Proofs.Ytfojfdlapekjoaa
open Go.RowKit
set_option linter.unusedVariables false

def putMany (cur : Array Value) : Nat → List Value → Array Value
  | _, [] => cur
  | o, v :: r => putMany (cur.setIfInBounds o v) (o + 1) r
theorem heap_setMany (b : Nat) (t : TypeId) : ∀ (vs : List Value) (o : Nat) (w : World) (cur : Array Value), w.heap[b]? = some (.cells cur t (0, 0)) → (w.setCells b o vs).heap[b]? = some (.cells (putMany cur o vs) t (0, 0)) := by
  intro vs
  induction vs with
  | nil => intro o w cur h; exact h
  | cons v r ih =>
    intro o w cur h
    refine ih (o + 1) _ _ ?_
    simp [World.setCell, Array.getElem?_modify, h]
theorem below_setMany (b : Nat) : ∀ (vs : List Value) (o : Nat) (w : World) (B : Nat), B ≤ b → Below B w (w.setCells b o vs) := by
  intro vs
  induction vs with
  | nil => intro o w B _; exact Below.refl _ _
  | cons v r ih =>
    intro o w B hB
    exact ((Below.refl B w).setCell (p := ⟨b, o, none⟩) hB v).trans (ih (o + 1) _ B hB)
theorem other_setMany (b k : Nat) (hk : k ≠ b) : ∀ (vs : List Value) (o : Nat) (w : World), (w.setCells b o vs).heap[k]? = w.heap[k]? := by
  intro vs
  induction vs with
  | nil => intro o w; rfl
  | cons v r ih =>
    intro o w
    exact (ih (o + 1) _).trans (Below.heap_setCell w ⟨b, o, none⟩ v k hk)
/-- what a store into block b leaves -/
def Stored (w w' : World) (b : Nat) (C : Array Value) (t : TypeId) : Prop := w'.heap[b]? = some (.cells C t (0, 0)) ∧ (∀ B, B ≤ b → Below B w w') ∧ ∀ k, k ≠ b → w'.heap[k]? = w.heap[k]?
theorem run_store_blk (o : Oper) (e : Operand → Value) {w : World} (ty : TypeId) (x y : Operand) (ho : o.op = .store ty x y) (b off : Nat) (hx : e x = .pointer (some ⟨b, off, none⟩)) (v : Value) (cells : Array Value) (hy : e y = v) (hv : v.cells = cells)
    (hi : (Try.prog.info? ty).map (·.size) = some cells.size) (h1 : cells.all (·.oneCell') = true) {C C' : Array Value} {t : TypeId} (hg : w.heap[b]? = some (.cells C t (0, 0))) (hfit : off + cells.size ≤ C.size) (hC : putMany C off cells.toList = C') :
    ∃ w', (execOp e o).run Try.prog w = .ok .skip w' ∧ Stored w w' b C' t := by
  subst hC
  have hthere : ∀ j, j < cells.size → (w.cell? ⟨b, off + j, none⟩).isSome = true ∧ w.frozen? ⟨b, off + j, none⟩ = false := fun j hj => by
    refine ⟨?_, by simp [World.frozen?, hg]⟩
    rw [cell_of_row w b (off + j) _ _ _ hg, Array.getElem?_eq_getElem (by omega)]
    rfl
  have hrun : (storeVar ty ⟨b, off, none⟩ v).run Try.prog w = .ok () (w.setCells b off cells.toList) := by
    have := run_storeCells_cells (P := Try.prog) b off cells.toList 0 w (fun j hj => by simpa using (hthere j (by simpa using hj)).1) (fun j hj => by simpa using (hthere j (by simpa using hj)).2)
      (fun v hv => (Array.all_eq_true_iff_forall_mem.1 h1) v (by simpa using hv))
    cases hq : Try.prog.info? ty with
    | none => simp [hq] at hi
    | some i =>
      have hs : cells.size = i.size := by simp [hq] at hi; omega
      simp only [Nat.add_zero] at this
      simp [storeVar, sizeOf, typeInfo, hq, hv, hs, this]
  refine ⟨_, ?_, heap_setMany b t cells.toList off w C hg, fun B hB => below_setMany b _ off w B hB, fun k hk => other_setMany b k hk _ off w⟩
  unfold execOp
  simp only [ho, hx, hy, Instr.storeAt, Instr.sureAddr, Sem.run_bind, Sem.run_pure, Result.andThen_ok, hrun]
section
variable {ops : Array Oper} {Q : Exit → Act → World → Prop}
/-- a store, in the order of the text -/
theorem wpList_st {rest : List Oper} {op : Oper} {a : Act} {w : World} (hgd : op.guard = none) (ty : TypeId) (x y : Operand) (ho : op.op = .store ty x y) (b off : Nat) (hx : a.eval x = .pointer (some ⟨b, off, none⟩)) (v : Value) (cells : Array Value) (hy : a.eval y = v) (hv : v.cells = cells)
    (hi : (Try.prog.info? ty).map (·.size) = some cells.size) (h1 : cells.all (·.oneCell') = true) {C C' : Array Value} {t : TypeId} (hg : w.heap[b]? = some (.cells C t (0, 0))) (hfit : off + cells.size ≤ C.size) (hC : putMany C off cells.toList = C')
    (h : ∀ w', Stored w w' b C' t → wpList Try.prog ops Q rest (a.put op.dst undef) w') : wpList Try.prog ops Q (op :: rest) a w := by
  obtain ⟨w', hr, hs⟩ := run_store_blk op a.eval ty x y ho b off hx v cells hy hv hi h1 hg hfit hC
  refine wpList_plain hgd fun K hK => ?_
  unfold Oper.wp
  rw [hr, Oper.upon_skip]
  exact hK _ _ (h w' hs)
variable {md : Region.Mode} {S : World → Prop}
/-- a store, where it alone may come up -/
theorem takeSt {i : Nat} {oi : Oper} {fuel : Nat} {listed : Array Bool} {a : Act} {w : World} (ty : TypeId) (x y : Operand) (b off : Nat) (v : Value) (cells : Array Value) {C : Array Value} (C' : Array Value) {t : TypeId} (hi : ops[i]? = some oi) (hd : oi.dst = none)
    (hr : Region.ready md ops listed = [i]) (hw : Region.wanted oi (yielded ops a.tmps) = true) (ho : oi.op = .store ty x y) (hx : a.eval x = .pointer (some ⟨b, off, none⟩)) (hy : a.eval y = v) (hv : v.cells = cells)
    (hz : (Try.prog.info? ty).map (·.size) = some cells.size) (h1 : cells.all (·.oneCell') = true) (hg : w.heap[b]? = some (.cells C t (0, 0))) (hfit : off + cells.size ≤ C.size) (hC : putMany C off cells.toList = C')
    (h : ∀ w', Stored w w' b C' t → S w' ∧ wpAnyH Try.prog md ops Q S fuel (listed.setIfInBounds i true) (a.put none undef) w') : wpAnyH Try.prog md ops Q S (fuel + 1) listed a w := by
  obtain ⟨w', hx', hs⟩ := run_store_blk oi a.eval ty x y ho b off hx v cells hy hv hz h1 hg hfit hC
  exact takeW hi hd hr hw hx' (h w' hs).1 (h w' hs).2
end
/-- a packet of either type lies at g -/
def PdT (t : TypeId) (w : World) (g : Nat) (p : Pd) : Prop := w.heap[g]? = some (.cells (pdC p) t (0, 0))
section
variable {t : TypeId} {w w' : World} {g : Nat} {p : Pd}
theorem PdT.lt (h : PdT t w g p) : g < w.heap.size := (Array.getElem?_eq_some_iff.1 h).1
theorem PdT.below {B : Nat} (h : PdT t w g p) (hb : Below B w w') (hB : g < B) : PdT t w' g p := (hb.block g hB).trans h
theorem PdT.cell (h : PdT t w g p) (i : Nat) : w.cell? ⟨g, i, none⟩ = (pdC p)[i]? := cell_of_row w g i _ _ _ h
theorem PdT.range (h : PdT t w g p) {o : Nat} {cs : List Value} (hs : ∀ j, j < cs.length → (pdC p)[o + j]? = cs[j]?) : w.rangeAt g o cs := blk_range h hs
theorem PdT.far {b : Nat} {C : Array Value} {u : TypeId} (h : PdT t w g p) (hs : Stored w w' b C u) (hk : g ≠ b) : PdT t w' g p := (hs.2.2 g hk).trans h
theorem seven {P : Nat → Prop} (h : P 0 ∧ P 1 ∧ P 2 ∧ P 3 ∧ P 4 ∧ P 5 ∧ P 6) (j : Nat) (hj : j < 7) : P j := by
  rcases (by omega : j = 0 ∨ j = 1 ∨ j = 2 ∨ j = 3 ∨ j = 4 ∨ j = 5 ∨ j = 6) with rfl | rfl | rfl | rfl | rfl | rfl | rfl <;> simp_all
theorem eight {P : Nat → Prop} (h : P 0 ∧ P 1 ∧ P 2 ∧ P 3 ∧ P 4 ∧ P 5 ∧ P 6 ∧ P 7) (j : Nat) (hj : j < 8) : P j := by
  rcases (by omega : j = 0 ∨ j = 1 ∨ j = 2 ∨ j = 3 ∨ j = 4 ∨ j = 5 ∨ j = 6 ∨ j = 7) with rfl | rfl | rfl | rfl | rfl | rfl | rfl | rfl <;> simp_all
/-- six bytes -/
def syC (z : Nat → Int) : Array Value := #[.int .u8 (z 0), .int .u8 (z 1), .int .u8 (z 2), .int .u8 (z 3), .int .u8 (z 4), .int .u8 (z 5)]
theorem PdT.sys (h : PdT t w g p) : w.rangeAt g 2 (syC p.so).toList := h.range fun j hj => by
  rcases (by have : j < 6 := hj; omega : j = 0 ∨ j = 1 ∨ j = 2 ∨ j = 3 ∨ j = 4 ∨ j = 5) with rfl | rfl | rfl | rfl | rfl | rfl <;> rfl
theorem PdT.so (h : PdT t w g p) : w.rangeAt g 2 (ndC p.so).toList := h.range (seven ⟨rfl, rfl, rfl, rfl, rfl, rfl, rfl⟩)
theorem PdT.la (h : PdT t w g p) : w.rangeAt g 12 (ndC p.la).toList := h.range (seven ⟨rfl, rfl, rfl, rfl, rfl, rfl, rfl⟩)
theorem PdT.id (h : PdT t w g p) : w.rangeAt g 20 (idC p.id).toList := h.range (eight ⟨rfl, rfl, rfl, rfl, rfl, rfl, rfl, rfl⟩)
theorem PdT.st (h : PdT t w g p) : w.rangeAt g 30 (idC p.st).toList := h.range (eight ⟨rfl, rfl, rfl, rfl, rfl, rfl, rfl, rfl⟩)
theorem PdT.en (h : PdT t w g p) : w.rangeAt g 38 (idC p.en).toList := h.range (eight ⟨rfl, rfl, rfl, rfl, rfl, rfl, rfl, rfl⟩)
theorem PdT.all (h : PdT t w g p) : w.rangeAt g 0 (pdC p).toList := h.range fun j hj => by rw [Nat.zero_add, Array.getElem?_toList]
end
theorem info_sys : (Try.prog.info? 23).map (·.size) = some 6 := by kernel_rfl
theorem info_pdR : (Try.prog.info? 31).map (·.size) = some 47 := by kernel_rfl
theorem info_pdP : (Try.prog.info? 33).map (·.size) = some 47 := by kernel_rfl
theorem sy_one (z : Nat → Int) : (syC z).all (·.oneCell') = true := by kernel_rfl
theorem results_R {fn : Func} {q : Tmp} (h : fn.results = #[.cell q 31]) (tmps : Array Value) (W : World) (g : Nat) (p : Pd)
    (hp : tmps.getD q undef = .pointer (some ⟨g, 0, none⟩)) (hg : PdT 31 W g p) : (results fn tmps).run Try.prog W = .ok (.agg (pdC p)) W := by
  have h1 := run_loadVar_row (P := Try.prog) W g 31 31 (pdC p) (0, 0) _ hg Try.underlying31 rfl info_pdR
  have hp' : (tmps[q]?).getD undef = .pointer (some ⟨g, 0, none⟩) := by simpa using hp
  simp only [results, h]
  simp [hp', asAddr, h1]
def z0 : Nat → Int := fun _ => 0
/-- nothing but a kind and TLVs -/
def pdK (p : Pd) : Pd := ⟨p.kd, 0, z0, 0, 0, 0, z0, 0, z0, 0, 0, z0, z0, p.A, p.m, p.c⟩
def pd0 : Pd := ⟨0, 0, z0, 0, 0, 0, z0, 0, z0, 0, 0, z0, z0, none, 0, 0⟩
theorem alloc_R (o : Oper) (e : Operand → Value) (ho : o.op = .alloc 31) (W : World) : (execOp e o).run Try.prog W = .ok (.value (.pointer (some ⟨W.heap.size, 0, none⟩))) (W.alloc (.cells (pdC pd0) 31)) := by
  unfold execOp
  simp only [ho]
  kernel_rfl
theorem alloc_P (o : Oper) (e : Operand → Value) (ho : o.op = .alloc 33) (W : World) : (execOp e o).run Try.prog W = .ok (.value (.pointer (some ⟨W.heap.size, 0, none⟩))) (W.alloc (.cells (pdC pd0) 33)) := by
  unfold execOp
  simp only [ho]
  kernel_rfl
theorem build_K (o : Oper) (e : Operand → Value) (x0 x1 : Operand) (ho : o.op = .build 31 #[(0, x0), (13, x1)]) (p : Pd) (h0 : e x0 = .int .u8 p.kd) (h1 : e x1 = .slice p.A p.m p.c) (W : World) :
    (execOp e o).run Try.prog W = .ok (.value (.agg (pdC (pdK p)))) W := by
  unfold execOp
  simp only [ho]
  simp only [List.map_toArray, List.map_cons, List.map_nil, h0, h1]
  kernel_rfl
theorem pd_all (p q : Pd) : putMany (pdC p) 0 (pdC q).toList = pdC q := by kernel_rfl
theorem pdC_kd (p : Pd) : (pdC p)[0]? = some (.int .u8 p.kd) := rfl
theorem pdC_tl (p : Pd) : (pdC p)[46]? = some (.slice p.A p.m p.c) := rfl
section
variable {ops : Array Oper} {Q : Exit → Act → World → Prop}
/-- an operation that yields v -/
theorem wpList_v {rest : List Oper} {op : Oper} {a : Act} {w w' : World} (hgd : op.guard = none) (v : Value) (hx : (execOp a.eval op).run Try.prog w = .ok (.value v) w') (h : wpList Try.prog ops Q rest (a.put op.dst v) w') : wpList Try.prog ops Q (op :: rest) a w := by
  refine wpList_plain hgd fun K hK => ?_
  unfold Oper.wp
  rw [hx, Oper.upon_value]
  exact hK _ _ h
end
end Go.Proofs.Ytfojfdlapekjoaa

/- The document's Plain: a packet with the fields alone that its kind has. Each theorem states its conditions. -/
namespace Go.Proofs.Ytfojfdlapekjoaa
open Go.RowKit
set_option linter.unusedVariables false

theorem alloc_R' (o : Oper) (e : Operand → Value) (ho : o.op = .alloc 31) (W W' : World) (n : Nat) (hn : W.heap.size = n) (hW : W.alloc (.cells (pdC pd0) 31) = W') : (execOp e o).run Try.prog W = .ok (.value (.pointer (some ⟨n, 0, none⟩))) W' := by
  subst hn hW
  exact alloc_R o e ho W
theorem hello_yes (k : Int) (h : k = 15 ∨ k = 16 ∨ k = 17) (w : World) : Calls Try.prog 28 #[.int .u8 k] w fun e w' => e = .returned (.bool true) ∧ w = w' := by
  rcases h with rfl | rfl | rfl <;>
  · go_enter Try.func28, Try.ntmps28
    go_wp2
    go_ret
    exact ⟨rfl, rfl⟩
theorem hello_no (k : Int) (h : ¬ (k = 15 ∨ k = 16 ∨ k = 17)) (w : World) : Calls Try.prog 28 #[.int .u8 k] w fun e w' => e = .returned (.bool false) ∧ w = w' := by
  have h1 : (k == 15) = false := by simp; omega
  have h2 : (k == 16) = false := by simp; omega
  have h3 : (k == 17) = false := by simp; omega
  clear h
  go_enter Try.func28, Try.ntmps28
  go_wp2
  go_ret
  exact ⟨rfl, rfl⟩
theorem lsp_yes (k : Int) (h : k = 18 ∨ k = 20) (w : World) : Calls Try.prog 29 #[.int .u8 k] w fun e w' => e = .returned (.bool true) ∧ w = w' := by
  rcases h with rfl | rfl <;>
  · go_enter Try.func29, Try.ntmps29
    go_wp2
    go_ret
    exact ⟨rfl, rfl⟩
theorem lsp_no (k : Int) (h : ¬ (k = 18 ∨ k = 20)) (w : World) : Calls Try.prog 29 #[.int .u8 k] w fun e w' => e = .returned (.bool false) ∧ w = w' := by
  have h1 : (k == 18) = false := by simp; omega
  have h2 : (k == 20) = false := by simp; omega
  clear h
  go_enter Try.func29, Try.ntmps29
  go_wp2
  go_ret
  exact ⟨rfl, rfl⟩
/-- Plain of the classes -/
def pl0 (x : Pd) : Pd := ⟨x.kd, x.ci, cutSys x.so, x.ho, x.nu, 0, z0, 0, z0, 0, 0, z0, z0, x.A, x.m, x.c⟩
def pl1 (x : Pd) : Pd := ⟨x.kd, x.ci, cutSys x.so, x.ho, 0, x.pr, x.la, 0, z0, 0, 0, z0, z0, x.A, x.m, x.c⟩
def pl2 (x : Pd) : Pd := ⟨x.kd, 0, z0, 0, 0, 0, z0, x.li, x.id, x.sq, x.bi, z0, z0, x.A, x.m, x.c⟩
def pl3 (x : Pd) : Pd := ⟨x.kd, 0, x.so, 0, 0, 0, z0, 0, z0, 0, 0, x.st, x.en, x.A, x.m, x.c⟩
def pl4 (x : Pd) : Pd := ⟨x.kd, 0, x.so, 0, 0, 0, z0, 0, z0, 0, 0, z0, z0, x.A, x.m, x.c⟩
set_option maxHeartbeats 4000000 in
set_option maxRecDepth 100000 in
theorem plain_0 (x : Pd) (hk : x.kd = 17) (w : World) :
    Calls Try.prog 18 #[.agg (pdC x)] w fun e w' => e = .returned (.agg (pdC (pl0 x))) ∧ Below w.heap.size w w' := by
  have a0 := pdC_kd x
  have a46 := pdC_tl x
  have HH := Lib.hid (hello_yes x.kd (.inr (.inr hk)))
  have h17 : (x.kd == 17) = true := by simpa using hk
  clear hk
  obtain ⟨W1, hW1⟩ : ∃ W1, w.alloc (.cells (pdC x) 31) = W1 := ⟨_, rfl⟩
  obtain ⟨W2, hW2⟩ : ∃ W2, W1.alloc (.cells (pdC pd0) 31) = W2 := ⟨_, rfl⟩
  obtain ⟨W3, hW3⟩ : ∃ W3, W2.alloc (.cells (pdC pd0) 31) = W3 := ⟨_, rfl⟩
  have hs1 : W1.heap.size = w.heap.size + 1 := by rw [← hW1]; simp
  have hs2 : W2.heap.size = w.heap.size + 2 := by rw [← hW2]; simp [hs1]
  have hx1 : PdT 31 W1 w.heap.size x := by rw [← hW1]; exact heap_alloc_new w _
  have hx2 : PdT 31 W2 w.heap.size x := by rw [← hW2]; exact (Below.heap_alloc _ _ _ (by omega)).trans hx1
  have hx3 : PdT 31 W3 w.heap.size x := by rw [← hW3]; exact (Below.heap_alloc _ _ _ (by omega)).trans hx2
  have hr2 : PdT 31 W2 (w.heap.size + 1) pd0 := by rw [← hW2, ← hs1]; exact heap_alloc_new W1 _
  have hr3 : PdT 31 W3 (w.heap.size + 1) pd0 := by rw [← hW3]; exact (Below.heap_alloc _ _ _ (by omega)).trans hr2
  have hq3 : PdT 31 W3 (w.heap.size + 2) pd0 := by rw [← hW3, ← hs2]; exact heap_alloc_new W2 _
  have hb3 : Below w.heap.size w W3 := by rw [← hW3, ← hW2, ← hW1]; exact (((bself w).alloc (Nat.le_refl _) _).alloc (by simp) _).alloc (by simp; omega) _
  have HW1 := Lib.hid hW1
  have HW2 := Lib.hid hW2
  have HW3 := Lib.hid hW3
  have HS1 := Lib.hid hs1
  have HS2 := Lib.hid hs2
  have HX3 := Lib.hid hx3
  have HR3 := Lib.hid hr3
  have HQ3 := Lib.hid hq3
  have HB3 := Lib.hid hb3
  obtain ⟨X, hX⟩ : ∃ X, w.heap.size = X := ⟨_, rfl⟩
  have c0 : W2.cell? ⟨w.heap.size, 0, none⟩ = some (.int .u8 x.kd) := (hx2.cell 0).trans a0
  have c46 : W2.cell? ⟨w.heap.size, 46, none⟩ = some (.slice x.A x.m x.c) := (hx2.cell 46).trans a46
  clear hW1 hW2 hW3 hs1 hs2 hx1 hx2 hx3 hr2 hr3 hq3 hb3
  go_enter Try.func18, Try.ntmps18
  rw [hX] at c0 c46 HS1 HS2 HX3 HR3 HQ3
  have HXX := Lib.hid hX
  clear hX
  go_wp2_with (first
    | (refine wpList_v (op := ⟨some 2, _, _, _, _, _⟩) rfl _ (alloc_R' _ _ rfl _ W2 (X + 1) (by rw [HW1.out]; exact HS1.out) (by rw [HW1.out]; exact HW2.out)) ?_; rw [HXX.out])
    | (refine wpList_v rfl _ (build_K _ _ (.tmp 5) (.tmp 7) rfl x rfl rfl _) ?_)
    | (refine wpList_v (op := ⟨some 3, _, _, _, _, _⟩) rfl _ (alloc_R' _ _ rfl _ W3 (X + 2) HS2.out HW3.out) ?_)
    | (refine wpList_st rfl 31 (.tmp 3) (.tmp 8) rfl (X + 2) 0 rfl (.agg (pdC (pdK x))) (pdC (pdK x)) rfl rfl info_pdR (pdC_one _) HQ3.out (Nat.le_of_ble_eq_true rfl) (pd_all _ _) ?_; intro w1 hst1; refine Hid.out ?_))
  refine Lib.hid ?_
  have HX : Hid (PdT 31 w1 X x) := Lib.hid (PdT.far HX3.out hst1 (by omega))
  have HR : Hid (PdT 31 w1 (X + 1) pd0) := Lib.hid (PdT.far HR3.out hst1 (by omega))
  have HQ : Hid (PdT 31 w1 (X + 2) (pdK x)) := Lib.hid hst1.1
  have HBx : Hid (Below (X + 2) w1 w1) := Lib.hid (Below.refl _ _)
  have HB1 : Hid (Below w.heap.size w w1) := Lib.hid (HB3.out.trans (hst1.2.1 _ (by rw [HXX.out]; omega)))
  have hne : X ≠ X + 2 := by omega
  have hBQ : X + 2 ≤ X + 2 := Nat.le_refl _
  have c0 : w1.cell? ⟨X, 0, none⟩ = some (.int .u8 x.kd) := (HX.out.cell 0).trans a0
  clear hst1 HX3 HR3 HQ3 HB3
  go_wp2_with fail
  refine (HH.out _).mono ?_
  rintro e w2 ⟨rfl, rfl⟩
  go_wp2_with fail
  refine wp_region_held_drew (S := fun w' => PdT 31 w' X x) (by kernel_rfl) HX.out (fun hS0 => ?_)
  refine takeY (i := 0) (some 25) (v := .pointer (some ⟨X, 1, none⟩)) rfl rfl (by kernel_rfl) (by kernel_rfl) (by kernel_rfl) (fun _ _ _ h => h) (by rfl) (fun w' hS => by go_simp) hS0 ?_
  simp only [Act.put, List.setIfInBounds_toArray, List.set_cons_zero, List.set_cons_succ]
  refine takeY (i := 1) (some 26) (v := .int .u8 x.ci) rfl rfl (by kernel_rfl) (by kernel_rfl) (by kernel_rfl) (fun _ _ _ h => h) (by rfl) (fun w' hS => by have c9 : w'.cell? ⟨X, 1, none⟩ = some (.int .u8 x.ci) := (hS.cell 1).trans rfl; clear hS; go_simp) hS0 ?_
  simp only [Act.put, List.setIfInBounds_toArray, List.set_cons_zero, List.set_cons_succ]
  refine takeY (i := 2) (some 27) (v := .pointer (some ⟨X, 2, none⟩)) rfl rfl (by kernel_rfl) (by kernel_rfl) (by kernel_rfl) (fun _ _ _ h => h) (by rfl) (fun w' hS => by go_simp) hS0 ?_
  simp only [Act.put, List.setIfInBounds_toArray, List.set_cons_zero, List.set_cons_succ]
  refine takeY (i := 3) (some 28) (v := .pointer (some ⟨X, 2, none⟩)) rfl rfl (by kernel_rfl) (by kernel_rfl) (by kernel_rfl) (fun _ _ _ h => h) (by rfl) (fun w' hS => by go_simp) hS0 ?_
  simp only [Act.put, List.setIfInBounds_toArray, List.set_cons_zero, List.set_cons_succ]
  refine takeL (i := 4) (some 29) 23 (.tmp 28) X 2 (syC x.so) _ rfl rfl (by kernel_rfl) (by kernel_rfl) (by kernel_rfl) (fun _ _ _ h => h) (by rfl) rfl rfl (fun w' hS => hS.sys) Try.underlying23 rfl info_sys hS0 ?_
  simp only [Act.put, List.setIfInBounds_toArray, List.set_cons_zero, List.set_cons_succ]
  refine takeY (i := 5) (some 30) (v := .pointer (some ⟨X, 9, none⟩)) rfl rfl (by kernel_rfl) (by kernel_rfl) (by kernel_rfl) (fun _ _ _ h => h) (by rfl) (fun w' hS => by go_simp) hS0 ?_
  simp only [Act.put, List.setIfInBounds_toArray, List.set_cons_zero, List.set_cons_succ]
  refine takeY (i := 6) (some 31) (v := .int .i64 x.ho) rfl rfl (by kernel_rfl) (by kernel_rfl) (by kernel_rfl) (fun _ _ _ h => h) (by rfl) (fun w' hS => by have c9 : w'.cell? ⟨X, 9, none⟩ = some (.int .i64 x.ho) := (hS.cell 9).trans rfl; clear hS; go_simp) hS0 ?_
  simp only [Act.put, List.setIfInBounds_toArray, List.set_cons_zero, List.set_cons_succ]
  have HS0 := Lib.hid hS0
  have HQ0 := HQ
  have HBx0 := Lib.hid (HBx.out.drew)
  clear hS0
  have hSn := HS0.out
  refine takeY (i := 7) (some 32) (v := .pointer (some ⟨(X + 2), 1, none⟩)) rfl rfl (by kernel_rfl) (by kernel_rfl) (by kernel_rfl) (fun _ _ _ h => h) (by rfl) (fun w' hS => by go_simp) hSn ?_
  simp only [Act.put, List.setIfInBounds_toArray, List.set_cons_zero, List.set_cons_succ]
  clear hSn
  refine takeSt (i := 8) 5 (.tmp 32) (.tmp 26) (X + 2) 1 (.int .u8 x.ci) #[.int .u8 x.ci] (pdC (⟨x.kd, x.ci, z0, 0, 0, 0, z0, 0, z0, 0, 0, z0, z0, x.A, x.m, x.c⟩)) rfl rfl (by kernel_rfl) (by rfl) rfl rfl rfl rfl (by kernel_rfl) (by kernel_rfl) HQ0.out (Nat.le_of_ble_eq_true rfl) (by kernel_rfl) (fun w1' hst1 => ⟨PdT.far HS0.out hst1 hne, ?_⟩)
  have HS1 := Lib.hid (PdT.far HS0.out hst1 hne)
  have HQ1 : Hid (PdT 31 w1' (X + 2) (⟨x.kd, x.ci, z0, 0, 0, 0, z0, 0, z0, 0, 0, z0, z0, x.A, x.m, x.c⟩)) := Lib.hid hst1.1
  have HBx1 := Lib.hid (HBx0.out.trans (hst1.2.1 _ hBQ))
  clear hst1
  have hSn := HS1.out
  refine takeY (i := 9) (some 33) (v := .pointer (some ⟨(X + 2), 2, none⟩)) rfl rfl (by kernel_rfl) (by kernel_rfl) (by kernel_rfl) (fun _ _ _ h => h) (by rfl) (fun w' hS => by go_simp) hSn ?_
  simp only [Act.put, List.setIfInBounds_toArray, List.set_cons_zero, List.set_cons_succ]
  refine takeY (i := 10) (some 34) (v := .pointer (some ⟨(X + 2), 2, none⟩)) rfl rfl (by kernel_rfl) (by kernel_rfl) (by kernel_rfl) (fun _ _ _ h => h) (by rfl) (fun w' hS => by go_simp) hSn ?_
  simp only [Act.put, List.setIfInBounds_toArray, List.set_cons_zero, List.set_cons_succ]
  clear hSn
  refine takeSt (i := 11) 23 (.tmp 34) (.tmp 29) (X + 2) 2 (.agg (syC x.so)) (syC x.so) (pdC (⟨x.kd, x.ci, cutSys x.so, 0, 0, 0, z0, 0, z0, 0, 0, z0, z0, x.A, x.m, x.c⟩)) rfl rfl (by kernel_rfl) (by rfl) rfl rfl rfl rfl info_sys (sy_one _) HQ1.out (Nat.le_of_ble_eq_true rfl) (by kernel_rfl) (fun w2' hst2 => ⟨PdT.far HS1.out hst2 hne, ?_⟩)
  have HS2 := Lib.hid (PdT.far HS1.out hst2 hne)
  have HQ2 : Hid (PdT 31 w2' (X + 2) (⟨x.kd, x.ci, cutSys x.so, 0, 0, 0, z0, 0, z0, 0, 0, z0, z0, x.A, x.m, x.c⟩)) := Lib.hid hst2.1
  have HBx2 := Lib.hid (HBx1.out.trans (hst2.2.1 _ hBQ))
  clear hst2
  have hSn := HS2.out
  refine takeY (i := 12) (some 35) (v := .pointer (some ⟨(X + 2), 9, none⟩)) rfl rfl (by kernel_rfl) (by kernel_rfl) (by kernel_rfl) (fun _ _ _ h => h) (by rfl) (fun w' hS => by go_simp) hSn ?_
  simp only [Act.put, List.setIfInBounds_toArray, List.set_cons_zero, List.set_cons_succ]
  clear hSn
  refine takeSt (i := 13) 3 (.tmp 35) (.tmp 31) (X + 2) 9 (.int .i64 x.ho) #[.int .i64 x.ho] (pdC (⟨x.kd, x.ci, cutSys x.so, x.ho, 0, 0, z0, 0, z0, 0, 0, z0, z0, x.A, x.m, x.c⟩)) rfl rfl (by kernel_rfl) (by rfl) rfl rfl rfl rfl (by kernel_rfl) (by kernel_rfl) HQ2.out (Nat.le_of_ble_eq_true rfl) (by kernel_rfl) (fun w3' hst3 => ⟨PdT.far HS2.out hst3 hne, ?_⟩)
  have HS3 := Lib.hid (PdT.far HS2.out hst3 hne)
  have HQ3 : Hid (PdT 31 w3' (X + 2) (⟨x.kd, x.ci, cutSys x.so, x.ho, 0, 0, z0, 0, z0, 0, 0, z0, z0, x.A, x.m, x.c⟩)) := Lib.hid hst3.1
  have HBx3 := Lib.hid (HBx2.out.trans (hst3.2.1 _ hBQ))
  clear hst3
  refine wpAnyH_done (by kernel_rfl) ?_ _
  have HX' := HS3
  have HQ' := HQ3
  have HBx' := HBx3
  clear HX HQ HBx HQ0 HS0 HBx0 HS1 HQ1 HBx1 HS2 HQ2 HBx2 HS3 HQ3 HBx3
  have c0' : w3'.cell? ⟨X, 0, none⟩ = some (.int .u8 x.kd) := (HX'.out.cell 0).trans a0
  have c10 : w3'.cell? ⟨X, 10, none⟩ = some (.int .u8 x.nu) := (HX'.out.cell 10).trans rfl
  go_wp2_with (refine wpList_st rfl 5 (.tmp 41) (.tmp 40) rfl (X + 2) 10 rfl (.int .u8 x.nu) #[.int .u8 x.nu] rfl rfl (by kernel_rfl) (by kernel_rfl) HQ'.out (Nat.le_of_ble_eq_true rfl) (C' := pdC (pl0 x)) (by kernel_rfl) ?_; intro w4' hst; refine Hid.out ?_)
  refine Lib.hid ?_
  have HQ2 : Hid (PdT 31 w4' (X + 2) (pl0 x)) := Lib.hid hst.1
  have HBx2 := Lib.hid (HBx'.out.trans (hst.2.1 _ hBQ))
  clear hst c0' c10 HQ' HX' HBx' c0
  have HQ' := HQ2
  have HBx' := HBx2
  have HR8 : Hid (PdT 31 w4' (X + 1) pd0) := Lib.hid (HR.out.below HBx'.out (by omega))
  have HB8 : Hid (Below w.heap.size w w4') := Lib.hid (HB1.out.trans (HBx'.out.mono (by rw [HXX.out]; omega)))
  go_wp2_with (first
    | (refine wpList_load_mid rfl 31 (.tmp 3) rfl (X + 2) 0 rfl (pdC (pl0 x)).toList _ HQ'.out.all Try.underlying31 rfl info_pdR ?_)
    | (refine wpList_st rfl 31 (.tmp 2) (.tmp 64) rfl (X + 1) 0 rfl (.agg (pdC (pl0 x))) (pdC (pl0 x)) rfl rfl info_pdR (pdC_one _) HR8.out (Nat.le_of_ble_eq_true rfl) (pd_all _ _) ?_; intro w9 hst9; refine Hid.out ?_))
  refine Lib.hid ?_
  have HR9 : Hid (PdT 31 w9 (X + 1) (pl0 x)) := Lib.hid hst9.1
  have HB9 := Lib.hid (HB8.out.trans (hst9.2.1 _ (by rw [HXX.out]; omega)))
  clear hst9
  go_wp2_with fail
  refine bodyPost_ret (results_R rfl _ w9 (X + 1) _ rfl HR9.out) rfl ⟨rfl, HB9.out⟩
set_option maxHeartbeats 4000000 in
set_option maxRecDepth 100000 in
theorem plain_1 (x : Pd) (hk : x.kd = 15 ∨ x.kd = 16) (w : World) :
    Calls Try.prog 18 #[.agg (pdC x)] w fun e w' => e = .returned (.agg (pdC (pl1 x))) ∧ Below w.heap.size w w' := by
  have a0 := pdC_kd x
  have a46 := pdC_tl x
  have HH := Lib.hid (hello_yes x.kd (by omega))
  have h17 : (x.kd == 17) = false := by simp; omega
  clear hk
  obtain ⟨W1, hW1⟩ : ∃ W1, w.alloc (.cells (pdC x) 31) = W1 := ⟨_, rfl⟩
  obtain ⟨W2, hW2⟩ : ∃ W2, W1.alloc (.cells (pdC pd0) 31) = W2 := ⟨_, rfl⟩
  obtain ⟨W3, hW3⟩ : ∃ W3, W2.alloc (.cells (pdC pd0) 31) = W3 := ⟨_, rfl⟩
  have hs1 : W1.heap.size = w.heap.size + 1 := by rw [← hW1]; simp
  have hs2 : W2.heap.size = w.heap.size + 2 := by rw [← hW2]; simp [hs1]
  have hx1 : PdT 31 W1 w.heap.size x := by rw [← hW1]; exact heap_alloc_new w _
  have hx2 : PdT 31 W2 w.heap.size x := by rw [← hW2]; exact (Below.heap_alloc _ _ _ (by omega)).trans hx1
  have hx3 : PdT 31 W3 w.heap.size x := by rw [← hW3]; exact (Below.heap_alloc _ _ _ (by omega)).trans hx2
  have hr2 : PdT 31 W2 (w.heap.size + 1) pd0 := by rw [← hW2, ← hs1]; exact heap_alloc_new W1 _
  have hr3 : PdT 31 W3 (w.heap.size + 1) pd0 := by rw [← hW3]; exact (Below.heap_alloc _ _ _ (by omega)).trans hr2
  have hq3 : PdT 31 W3 (w.heap.size + 2) pd0 := by rw [← hW3, ← hs2]; exact heap_alloc_new W2 _
  have hb3 : Below w.heap.size w W3 := by rw [← hW3, ← hW2, ← hW1]; exact (((bself w).alloc (Nat.le_refl _) _).alloc (by simp) _).alloc (by simp; omega) _
  have HW1 := Lib.hid hW1
  have HW2 := Lib.hid hW2
  have HW3 := Lib.hid hW3
  have HS1 := Lib.hid hs1
  have HS2 := Lib.hid hs2
  have HX3 := Lib.hid hx3
  have HR3 := Lib.hid hr3
  have HQ3 := Lib.hid hq3
  have HB3 := Lib.hid hb3
  obtain ⟨X, hX⟩ : ∃ X, w.heap.size = X := ⟨_, rfl⟩
  have c0 : W2.cell? ⟨w.heap.size, 0, none⟩ = some (.int .u8 x.kd) := (hx2.cell 0).trans a0
  have c46 : W2.cell? ⟨w.heap.size, 46, none⟩ = some (.slice x.A x.m x.c) := (hx2.cell 46).trans a46
  clear hW1 hW2 hW3 hs1 hs2 hx1 hx2 hx3 hr2 hr3 hq3 hb3
  go_enter Try.func18, Try.ntmps18
  rw [hX] at c0 c46 HS1 HS2 HX3 HR3 HQ3
  have HXX := Lib.hid hX
  clear hX
  go_wp2_with (first
    | (refine wpList_v (op := ⟨some 2, _, _, _, _, _⟩) rfl _ (alloc_R' _ _ rfl _ W2 (X + 1) (by rw [HW1.out]; exact HS1.out) (by rw [HW1.out]; exact HW2.out)) ?_; rw [HXX.out])
    | (refine wpList_v rfl _ (build_K _ _ (.tmp 5) (.tmp 7) rfl x rfl rfl _) ?_)
    | (refine wpList_v (op := ⟨some 3, _, _, _, _, _⟩) rfl _ (alloc_R' _ _ rfl _ W3 (X + 2) HS2.out HW3.out) ?_)
    | (refine wpList_st rfl 31 (.tmp 3) (.tmp 8) rfl (X + 2) 0 rfl (.agg (pdC (pdK x))) (pdC (pdK x)) rfl rfl info_pdR (pdC_one _) HQ3.out (Nat.le_of_ble_eq_true rfl) (pd_all _ _) ?_; intro w1 hst1; refine Hid.out ?_))
  refine Lib.hid ?_
  have HX : Hid (PdT 31 w1 X x) := Lib.hid (PdT.far HX3.out hst1 (by omega))
  have HR : Hid (PdT 31 w1 (X + 1) pd0) := Lib.hid (PdT.far HR3.out hst1 (by omega))
  have HQ : Hid (PdT 31 w1 (X + 2) (pdK x)) := Lib.hid hst1.1
  have HBx : Hid (Below (X + 2) w1 w1) := Lib.hid (Below.refl _ _)
  have HB1 : Hid (Below w.heap.size w w1) := Lib.hid (HB3.out.trans (hst1.2.1 _ (by rw [HXX.out]; omega)))
  have hne : X ≠ X + 2 := by omega
  have hBQ : X + 2 ≤ X + 2 := Nat.le_refl _
  have c0 : w1.cell? ⟨X, 0, none⟩ = some (.int .u8 x.kd) := (HX.out.cell 0).trans a0
  clear hst1 HX3 HR3 HQ3 HB3
  go_wp2_with fail
  refine (HH.out _).mono ?_
  rintro e w2 ⟨rfl, rfl⟩
  go_wp2_with fail
  refine wp_region_held_drew (S := fun w' => PdT 31 w' X x) (by kernel_rfl) HX.out (fun hS0 => ?_)
  refine takeY (i := 0) (some 25) (v := .pointer (some ⟨X, 1, none⟩)) rfl rfl (by kernel_rfl) (by kernel_rfl) (by kernel_rfl) (fun _ _ _ h => h) (by rfl) (fun w' hS => by go_simp) hS0 ?_
  simp only [Act.put, List.setIfInBounds_toArray, List.set_cons_zero, List.set_cons_succ]
  refine takeY (i := 1) (some 26) (v := .int .u8 x.ci) rfl rfl (by kernel_rfl) (by kernel_rfl) (by kernel_rfl) (fun _ _ _ h => h) (by rfl) (fun w' hS => by have c9 : w'.cell? ⟨X, 1, none⟩ = some (.int .u8 x.ci) := (hS.cell 1).trans rfl; clear hS; go_simp) hS0 ?_
  simp only [Act.put, List.setIfInBounds_toArray, List.set_cons_zero, List.set_cons_succ]
  refine takeY (i := 2) (some 27) (v := .pointer (some ⟨X, 2, none⟩)) rfl rfl (by kernel_rfl) (by kernel_rfl) (by kernel_rfl) (fun _ _ _ h => h) (by rfl) (fun w' hS => by go_simp) hS0 ?_
  simp only [Act.put, List.setIfInBounds_toArray, List.set_cons_zero, List.set_cons_succ]
  refine takeY (i := 3) (some 28) (v := .pointer (some ⟨X, 2, none⟩)) rfl rfl (by kernel_rfl) (by kernel_rfl) (by kernel_rfl) (fun _ _ _ h => h) (by rfl) (fun w' hS => by go_simp) hS0 ?_
  simp only [Act.put, List.setIfInBounds_toArray, List.set_cons_zero, List.set_cons_succ]
  refine takeL (i := 4) (some 29) 23 (.tmp 28) X 2 (syC x.so) _ rfl rfl (by kernel_rfl) (by kernel_rfl) (by kernel_rfl) (fun _ _ _ h => h) (by rfl) rfl rfl (fun w' hS => hS.sys) Try.underlying23 rfl info_sys hS0 ?_
  simp only [Act.put, List.setIfInBounds_toArray, List.set_cons_zero, List.set_cons_succ]
  refine takeY (i := 5) (some 30) (v := .pointer (some ⟨X, 9, none⟩)) rfl rfl (by kernel_rfl) (by kernel_rfl) (by kernel_rfl) (fun _ _ _ h => h) (by rfl) (fun w' hS => by go_simp) hS0 ?_
  simp only [Act.put, List.setIfInBounds_toArray, List.set_cons_zero, List.set_cons_succ]
  refine takeY (i := 6) (some 31) (v := .int .i64 x.ho) rfl rfl (by kernel_rfl) (by kernel_rfl) (by kernel_rfl) (fun _ _ _ h => h) (by rfl) (fun w' hS => by have c9 : w'.cell? ⟨X, 9, none⟩ = some (.int .i64 x.ho) := (hS.cell 9).trans rfl; clear hS; go_simp) hS0 ?_
  simp only [Act.put, List.setIfInBounds_toArray, List.set_cons_zero, List.set_cons_succ]
  have HS0 := Lib.hid hS0
  have HQ0 := HQ
  have HBx0 := Lib.hid (HBx.out.drew)
  clear hS0
  have hSn := HS0.out
  refine takeY (i := 7) (some 32) (v := .pointer (some ⟨(X + 2), 1, none⟩)) rfl rfl (by kernel_rfl) (by kernel_rfl) (by kernel_rfl) (fun _ _ _ h => h) (by rfl) (fun w' hS => by go_simp) hSn ?_
  simp only [Act.put, List.setIfInBounds_toArray, List.set_cons_zero, List.set_cons_succ]
  clear hSn
  refine takeSt (i := 8) 5 (.tmp 32) (.tmp 26) (X + 2) 1 (.int .u8 x.ci) #[.int .u8 x.ci] (pdC (⟨x.kd, x.ci, z0, 0, 0, 0, z0, 0, z0, 0, 0, z0, z0, x.A, x.m, x.c⟩)) rfl rfl (by kernel_rfl) (by rfl) rfl rfl rfl rfl (by kernel_rfl) (by kernel_rfl) HQ0.out (Nat.le_of_ble_eq_true rfl) (by kernel_rfl) (fun w1' hst1 => ⟨PdT.far HS0.out hst1 hne, ?_⟩)
  have HS1 := Lib.hid (PdT.far HS0.out hst1 hne)
  have HQ1 : Hid (PdT 31 w1' (X + 2) (⟨x.kd, x.ci, z0, 0, 0, 0, z0, 0, z0, 0, 0, z0, z0, x.A, x.m, x.c⟩)) := Lib.hid hst1.1
  have HBx1 := Lib.hid (HBx0.out.trans (hst1.2.1 _ hBQ))
  clear hst1
  have hSn := HS1.out
  refine takeY (i := 9) (some 33) (v := .pointer (some ⟨(X + 2), 2, none⟩)) rfl rfl (by kernel_rfl) (by kernel_rfl) (by kernel_rfl) (fun _ _ _ h => h) (by rfl) (fun w' hS => by go_simp) hSn ?_
  simp only [Act.put, List.setIfInBounds_toArray, List.set_cons_zero, List.set_cons_succ]
  refine takeY (i := 10) (some 34) (v := .pointer (some ⟨(X + 2), 2, none⟩)) rfl rfl (by kernel_rfl) (by kernel_rfl) (by kernel_rfl) (fun _ _ _ h => h) (by rfl) (fun w' hS => by go_simp) hSn ?_
  simp only [Act.put, List.setIfInBounds_toArray, List.set_cons_zero, List.set_cons_succ]
  clear hSn
  refine takeSt (i := 11) 23 (.tmp 34) (.tmp 29) (X + 2) 2 (.agg (syC x.so)) (syC x.so) (pdC (⟨x.kd, x.ci, cutSys x.so, 0, 0, 0, z0, 0, z0, 0, 0, z0, z0, x.A, x.m, x.c⟩)) rfl rfl (by kernel_rfl) (by rfl) rfl rfl rfl rfl info_sys (sy_one _) HQ1.out (Nat.le_of_ble_eq_true rfl) (by kernel_rfl) (fun w2' hst2 => ⟨PdT.far HS1.out hst2 hne, ?_⟩)
  have HS2 := Lib.hid (PdT.far HS1.out hst2 hne)
  have HQ2 : Hid (PdT 31 w2' (X + 2) (⟨x.kd, x.ci, cutSys x.so, 0, 0, 0, z0, 0, z0, 0, 0, z0, z0, x.A, x.m, x.c⟩)) := Lib.hid hst2.1
  have HBx2 := Lib.hid (HBx1.out.trans (hst2.2.1 _ hBQ))
  clear hst2
  have hSn := HS2.out
  refine takeY (i := 12) (some 35) (v := .pointer (some ⟨(X + 2), 9, none⟩)) rfl rfl (by kernel_rfl) (by kernel_rfl) (by kernel_rfl) (fun _ _ _ h => h) (by rfl) (fun w' hS => by go_simp) hSn ?_
  simp only [Act.put, List.setIfInBounds_toArray, List.set_cons_zero, List.set_cons_succ]
  clear hSn
  refine takeSt (i := 13) 3 (.tmp 35) (.tmp 31) (X + 2) 9 (.int .i64 x.ho) #[.int .i64 x.ho] (pdC (⟨x.kd, x.ci, cutSys x.so, x.ho, 0, 0, z0, 0, z0, 0, 0, z0, z0, x.A, x.m, x.c⟩)) rfl rfl (by kernel_rfl) (by rfl) rfl rfl rfl rfl (by kernel_rfl) (by kernel_rfl) HQ2.out (Nat.le_of_ble_eq_true rfl) (by kernel_rfl) (fun w3' hst3 => ⟨PdT.far HS2.out hst3 hne, ?_⟩)
  have HS3 := Lib.hid (PdT.far HS2.out hst3 hne)
  have HQ3 : Hid (PdT 31 w3' (X + 2) (⟨x.kd, x.ci, cutSys x.so, x.ho, 0, 0, z0, 0, z0, 0, 0, z0, z0, x.A, x.m, x.c⟩)) := Lib.hid hst3.1
  have HBx3 := Lib.hid (HBx2.out.trans (hst3.2.1 _ hBQ))
  clear hst3
  refine wpAnyH_done (by kernel_rfl) ?_ _
  have HX' := HS3
  have HQ' := HQ3
  have HBx' := HBx3
  clear HX HQ HBx HQ0 HS0 HBx0 HS1 HQ1 HBx1 HS2 HQ2 HBx2 HS3 HQ3 HBx3
  have c0' : w3'.cell? ⟨X, 0, none⟩ = some (.int .u8 x.kd) := (HX'.out.cell 0).trans a0
  clear c0
  go_wp2_with fail
  clear c0'
  have HX := HX'
  have HQ := HQ'
  have HBx := HBx'
  clear HX' HQ' HBx'
  refine wp_region_held_drew (S := fun w' => PdT 31 w' X x) (by kernel_rfl) HX.out (fun hS0 => ?_)
  refine takeY (i := 0) (some 42) (v := .pointer (some ⟨X, 11, none⟩)) rfl rfl (by kernel_rfl) (by kernel_rfl) (by kernel_rfl) (fun _ _ _ h => h) (by rfl) (fun w' hS => by go_simp) hS0 ?_
  simp only [Act.put, List.setIfInBounds_toArray, List.set_cons_zero, List.set_cons_succ]
  refine takeY (i := 1) (some 43) (v := .int .u8 x.pr) rfl rfl (by kernel_rfl) (by kernel_rfl) (by kernel_rfl) (fun _ _ _ h => h) (by rfl) (fun w' hS => by have c9 : w'.cell? ⟨X, 11, none⟩ = some (.int .u8 x.pr) := (hS.cell 11).trans rfl; clear hS; go_simp) hS0 ?_
  simp only [Act.put, List.setIfInBounds_toArray, List.set_cons_zero, List.set_cons_succ]
  refine takeY (i := 2) (some 44) (v := .pointer (some ⟨X, 12, none⟩)) rfl rfl (by kernel_rfl) (by kernel_rfl) (by kernel_rfl) (fun _ _ _ h => h) (by rfl) (fun w' hS => by go_simp) hS0 ?_
  simp only [Act.put, List.setIfInBounds_toArray, List.set_cons_zero, List.set_cons_succ]
  refine takeL (i := 3) (some 45) 25 (.tmp 44) X 12 (ndC x.la) _ rfl rfl (by kernel_rfl) (by kernel_rfl) (by kernel_rfl) (fun _ _ _ h => h) (by rfl) rfl rfl (fun w' hS => hS.la) Try.underlying25 rfl info_node hS0 ?_
  simp only [Act.put, List.setIfInBounds_toArray, List.set_cons_zero, List.set_cons_succ]
  have HS0 := Lib.hid hS0
  have HQ0 := HQ
  have HBx0 := Lib.hid (HBx.out.drew)
  clear hS0
  have hSn := HS0.out
  refine takeY (i := 4) (some 46) (v := .pointer (some ⟨(X + 2), 11, none⟩)) rfl rfl (by kernel_rfl) (by kernel_rfl) (by kernel_rfl) (fun _ _ _ h => h) (by rfl) (fun w' hS => by go_simp) hSn ?_
  simp only [Act.put, List.setIfInBounds_toArray, List.set_cons_zero, List.set_cons_succ]
  clear hSn
  refine takeSt (i := 5) 5 (.tmp 46) (.tmp 43) (X + 2) 11 (.int .u8 x.pr) #[.int .u8 x.pr] (pdC (⟨x.kd, x.ci, cutSys x.so, x.ho, 0, x.pr, z0, 0, z0, 0, 0, z0, z0, x.A, x.m, x.c⟩)) rfl rfl (by kernel_rfl) (by rfl) rfl rfl rfl rfl (by kernel_rfl) (by kernel_rfl) HQ0.out (Nat.le_of_ble_eq_true rfl) (by kernel_rfl) (fun v1' hst1 => ⟨PdT.far HS0.out hst1 hne, ?_⟩)
  have HS1 := Lib.hid (PdT.far HS0.out hst1 hne)
  have HQ1 : Hid (PdT 31 v1' (X + 2) (⟨x.kd, x.ci, cutSys x.so, x.ho, 0, x.pr, z0, 0, z0, 0, 0, z0, z0, x.A, x.m, x.c⟩)) := Lib.hid hst1.1
  have HBx1 := Lib.hid (HBx0.out.trans (hst1.2.1 _ hBQ))
  clear hst1
  have hSn := HS1.out
  refine takeY (i := 6) (some 47) (v := .pointer (some ⟨(X + 2), 12, none⟩)) rfl rfl (by kernel_rfl) (by kernel_rfl) (by kernel_rfl) (fun _ _ _ h => h) (by rfl) (fun w' hS => by go_simp) hSn ?_
  simp only [Act.put, List.setIfInBounds_toArray, List.set_cons_zero, List.set_cons_succ]
  clear hSn
  refine takeSt (i := 7) 25 (.tmp 47) (.tmp 45) (X + 2) 12 (.agg (ndC x.la)) (ndC x.la) (pdC (⟨x.kd, x.ci, cutSys x.so, x.ho, 0, x.pr, x.la, 0, z0, 0, 0, z0, z0, x.A, x.m, x.c⟩)) rfl rfl (by kernel_rfl) (by rfl) rfl rfl rfl rfl info_node (nd_all _) HQ1.out (Nat.le_of_ble_eq_true rfl) (by kernel_rfl) (fun v2' hst2 => ⟨PdT.far HS1.out hst2 hne, ?_⟩)
  have HS2 := Lib.hid (PdT.far HS1.out hst2 hne)
  have HQ2 : Hid (PdT 31 v2' (X + 2) (⟨x.kd, x.ci, cutSys x.so, x.ho, 0, x.pr, x.la, 0, z0, 0, 0, z0, z0, x.A, x.m, x.c⟩)) := Lib.hid hst2.1
  have HBx2 := Lib.hid (HBx1.out.trans (hst2.2.1 _ hBQ))
  clear hst2
  refine wpAnyH_done (by kernel_rfl) ?_ _
  have HX' := HS2
  have HQ' := HQ2
  have HBx' := HBx2
  clear HX HQ HBx HQ0 HS0 HBx0 HS1 HQ1 HBx1 HS2 HQ2 HBx2
  have HR8 : Hid (PdT 31 v2' (X + 1) pd0) := Lib.hid (HR.out.below HBx'.out (by omega))
  have HB8 : Hid (Below w.heap.size w v2') := Lib.hid (HB1.out.trans (HBx'.out.mono (by rw [HXX.out]; omega)))
  go_wp2_with (first
    | (refine wpList_load_mid rfl 31 (.tmp 3) rfl (X + 2) 0 rfl (pdC (pl1 x)).toList _ HQ'.out.all Try.underlying31 rfl info_pdR ?_)
    | (refine wpList_st rfl 31 (.tmp 2) (.tmp 64) rfl (X + 1) 0 rfl (.agg (pdC (pl1 x))) (pdC (pl1 x)) rfl rfl info_pdR (pdC_one _) HR8.out (Nat.le_of_ble_eq_true rfl) (pd_all _ _) ?_; intro w9 hst9; refine Hid.out ?_))
  refine Lib.hid ?_
  have HR9 : Hid (PdT 31 w9 (X + 1) (pl1 x)) := Lib.hid hst9.1
  have HB9 := Lib.hid (HB8.out.trans (hst9.2.1 _ (by rw [HXX.out]; omega)))
  clear hst9
  go_wp2_with fail
  refine bodyPost_ret (results_R rfl _ w9 (X + 1) _ rfl HR9.out) rfl ⟨rfl, HB9.out⟩
set_option maxHeartbeats 4000000 in
set_option maxRecDepth 100000 in
theorem plain_2 (x : Pd) (hk : x.kd = 18 ∨ x.kd = 20) (w : World) :
    Calls Try.prog 18 #[.agg (pdC x)] w fun e w' => e = .returned (.agg (pdC (pl2 x))) ∧ Below w.heap.size w w' := by
  have a0 := pdC_kd x
  have a46 := pdC_tl x
  have HH := Lib.hid (hello_no x.kd (by omega))
  have HH2 := Lib.hid (lsp_yes x.kd hk)
  clear hk
  obtain ⟨W1, hW1⟩ : ∃ W1, w.alloc (.cells (pdC x) 31) = W1 := ⟨_, rfl⟩
  obtain ⟨W2, hW2⟩ : ∃ W2, W1.alloc (.cells (pdC pd0) 31) = W2 := ⟨_, rfl⟩
  obtain ⟨W3, hW3⟩ : ∃ W3, W2.alloc (.cells (pdC pd0) 31) = W3 := ⟨_, rfl⟩
  have hs1 : W1.heap.size = w.heap.size + 1 := by rw [← hW1]; simp
  have hs2 : W2.heap.size = w.heap.size + 2 := by rw [← hW2]; simp [hs1]
  have hx1 : PdT 31 W1 w.heap.size x := by rw [← hW1]; exact heap_alloc_new w _
  have hx2 : PdT 31 W2 w.heap.size x := by rw [← hW2]; exact (Below.heap_alloc _ _ _ (by omega)).trans hx1
  have hx3 : PdT 31 W3 w.heap.size x := by rw [← hW3]; exact (Below.heap_alloc _ _ _ (by omega)).trans hx2
  have hr2 : PdT 31 W2 (w.heap.size + 1) pd0 := by rw [← hW2, ← hs1]; exact heap_alloc_new W1 _
  have hr3 : PdT 31 W3 (w.heap.size + 1) pd0 := by rw [← hW3]; exact (Below.heap_alloc _ _ _ (by omega)).trans hr2
  have hq3 : PdT 31 W3 (w.heap.size + 2) pd0 := by rw [← hW3, ← hs2]; exact heap_alloc_new W2 _
  have hb3 : Below w.heap.size w W3 := by rw [← hW3, ← hW2, ← hW1]; exact (((bself w).alloc (Nat.le_refl _) _).alloc (by simp) _).alloc (by simp; omega) _
  have HW1 := Lib.hid hW1
  have HW2 := Lib.hid hW2
  have HW3 := Lib.hid hW3
  have HS1 := Lib.hid hs1
  have HS2 := Lib.hid hs2
  have HX3 := Lib.hid hx3
  have HR3 := Lib.hid hr3
  have HQ3 := Lib.hid hq3
  have HB3 := Lib.hid hb3
  obtain ⟨X, hX⟩ : ∃ X, w.heap.size = X := ⟨_, rfl⟩
  have c0 : W2.cell? ⟨w.heap.size, 0, none⟩ = some (.int .u8 x.kd) := (hx2.cell 0).trans a0
  have c46 : W2.cell? ⟨w.heap.size, 46, none⟩ = some (.slice x.A x.m x.c) := (hx2.cell 46).trans a46
  clear hW1 hW2 hW3 hs1 hs2 hx1 hx2 hx3 hr2 hr3 hq3 hb3
  go_enter Try.func18, Try.ntmps18
  rw [hX] at c0 c46 HS1 HS2 HX3 HR3 HQ3
  have HXX := Lib.hid hX
  clear hX
  go_wp2_with (first
    | (refine wpList_v (op := ⟨some 2, _, _, _, _, _⟩) rfl _ (alloc_R' _ _ rfl _ W2 (X + 1) (by rw [HW1.out]; exact HS1.out) (by rw [HW1.out]; exact HW2.out)) ?_; rw [HXX.out])
    | (refine wpList_v rfl _ (build_K _ _ (.tmp 5) (.tmp 7) rfl x rfl rfl _) ?_)
    | (refine wpList_v (op := ⟨some 3, _, _, _, _, _⟩) rfl _ (alloc_R' _ _ rfl _ W3 (X + 2) HS2.out HW3.out) ?_)
    | (refine wpList_st rfl 31 (.tmp 3) (.tmp 8) rfl (X + 2) 0 rfl (.agg (pdC (pdK x))) (pdC (pdK x)) rfl rfl info_pdR (pdC_one _) HQ3.out (Nat.le_of_ble_eq_true rfl) (pd_all _ _) ?_; intro w1 hst1; refine Hid.out ?_))
  refine Lib.hid ?_
  have HX : Hid (PdT 31 w1 X x) := Lib.hid (PdT.far HX3.out hst1 (by omega))
  have HR : Hid (PdT 31 w1 (X + 1) pd0) := Lib.hid (PdT.far HR3.out hst1 (by omega))
  have HQ : Hid (PdT 31 w1 (X + 2) (pdK x)) := Lib.hid hst1.1
  have HBx : Hid (Below (X + 2) w1 w1) := Lib.hid (Below.refl _ _)
  have HB1 : Hid (Below w.heap.size w w1) := Lib.hid (HB3.out.trans (hst1.2.1 _ (by rw [HXX.out]; omega)))
  have hne : X ≠ X + 2 := by omega
  have hBQ : X + 2 ≤ X + 2 := Nat.le_refl _
  have c0 : w1.cell? ⟨X, 0, none⟩ = some (.int .u8 x.kd) := (HX.out.cell 0).trans a0
  clear hst1 HX3 HR3 HQ3 HB3
  go_wp2_with fail
  refine (HH.out _).mono ?_
  rintro e w2 ⟨rfl, rfl⟩
  go_wp2_with fail
  refine (HH2.out _).mono ?_
  rintro e w2 ⟨rfl, rfl⟩
  go_wp2_with fail
  refine wp_region_held_drew (S := fun w' => PdT 31 w' X x) (by kernel_rfl) HX.out (fun hS0 => ?_)
  refine takeY (i := 0) (some 52) (v := .pointer (some ⟨X, 19, none⟩)) rfl rfl (by kernel_rfl) (by kernel_rfl) (by kernel_rfl) (fun _ _ _ h => h) (by rfl) (fun w' hS => by go_simp) hS0 ?_
  simp only [Act.put, List.setIfInBounds_toArray, List.set_cons_zero, List.set_cons_succ]
  refine takeY (i := 1) (some 53) (v := .int .i64 x.li) rfl rfl (by kernel_rfl) (by kernel_rfl) (by kernel_rfl) (fun _ _ _ h => h) (by rfl) (fun w' hS => by have c9 : w'.cell? ⟨X, 19, none⟩ = some (.int .i64 x.li) := (hS.cell 19).trans rfl; clear hS; go_simp) hS0 ?_
  simp only [Act.put, List.setIfInBounds_toArray, List.set_cons_zero, List.set_cons_succ]
  refine takeY (i := 2) (some 54) (v := .pointer (some ⟨X, 20, none⟩)) rfl rfl (by kernel_rfl) (by kernel_rfl) (by kernel_rfl) (fun _ _ _ h => h) (by rfl) (fun w' hS => by go_simp) hS0 ?_
  simp only [Act.put, List.setIfInBounds_toArray, List.set_cons_zero, List.set_cons_succ]
  refine takeL (i := 3) (some 55) 27 (.tmp 54) X 20 (idC x.id) _ rfl rfl (by kernel_rfl) (by kernel_rfl) (by kernel_rfl) (fun _ _ _ h => h) (by rfl) rfl rfl (fun w' hS => hS.id) Try.underlying27 rfl info_id hS0 ?_
  simp only [Act.put, List.setIfInBounds_toArray, List.set_cons_zero, List.set_cons_succ]
  refine takeY (i := 4) (some 56) (v := .pointer (some ⟨X, 28, none⟩)) rfl rfl (by kernel_rfl) (by kernel_rfl) (by kernel_rfl) (fun _ _ _ h => h) (by rfl) (fun w' hS => by go_simp) hS0 ?_
  simp only [Act.put, List.setIfInBounds_toArray, List.set_cons_zero, List.set_cons_succ]
  refine takeY (i := 5) (some 57) (v := .int .u32 (x.sq : Int)) rfl rfl (by kernel_rfl) (by kernel_rfl) (by kernel_rfl) (fun _ _ _ h => h) (by rfl) (fun w' hS => by have c9 : w'.cell? ⟨X, 28, none⟩ = some (.int .u32 (x.sq : Int)) := (hS.cell 28).trans rfl; clear hS; go_simp) hS0 ?_
  simp only [Act.put, List.setIfInBounds_toArray, List.set_cons_zero, List.set_cons_succ]
  refine takeY (i := 6) (some 58) (v := .pointer (some ⟨X, 29, none⟩)) rfl rfl (by kernel_rfl) (by kernel_rfl) (by kernel_rfl) (fun _ _ _ h => h) (by rfl) (fun w' hS => by go_simp) hS0 ?_
  simp only [Act.put, List.setIfInBounds_toArray, List.set_cons_zero, List.set_cons_succ]
  refine takeY (i := 7) (some 59) (v := .int .u8 x.bi) rfl rfl (by kernel_rfl) (by kernel_rfl) (by kernel_rfl) (fun _ _ _ h => h) (by rfl) (fun w' hS => by have c9 : w'.cell? ⟨X, 29, none⟩ = some (.int .u8 x.bi) := (hS.cell 29).trans rfl; clear hS; go_simp) hS0 ?_
  simp only [Act.put, List.setIfInBounds_toArray, List.set_cons_zero, List.set_cons_succ]
  have HS0 := Lib.hid hS0
  have HQ0 := HQ
  have HBx0 := Lib.hid (HBx.out.drew)
  clear hS0
  have hSn := HS0.out
  refine takeY (i := 8) (some 60) (v := .pointer (some ⟨(X + 2), 19, none⟩)) rfl rfl (by kernel_rfl) (by kernel_rfl) (by kernel_rfl) (fun _ _ _ h => h) (by rfl) (fun w' hS => by go_simp) hSn ?_
  simp only [Act.put, List.setIfInBounds_toArray, List.set_cons_zero, List.set_cons_succ]
  clear hSn
  refine takeSt (i := 9) 3 (.tmp 60) (.tmp 53) (X + 2) 19 (.int .i64 x.li) #[.int .i64 x.li] (pdC (⟨x.kd, 0, z0, 0, 0, 0, z0, x.li, z0, 0, 0, z0, z0, x.A, x.m, x.c⟩)) rfl rfl (by kernel_rfl) (by rfl) rfl rfl rfl rfl (by kernel_rfl) (by kernel_rfl) HQ0.out (Nat.le_of_ble_eq_true rfl) (by kernel_rfl) (fun w1' hst1 => ⟨PdT.far HS0.out hst1 hne, ?_⟩)
  have HS1 := Lib.hid (PdT.far HS0.out hst1 hne)
  have HQ1 : Hid (PdT 31 w1' (X + 2) (⟨x.kd, 0, z0, 0, 0, 0, z0, x.li, z0, 0, 0, z0, z0, x.A, x.m, x.c⟩)) := Lib.hid hst1.1
  have HBx1 := Lib.hid (HBx0.out.trans (hst1.2.1 _ hBQ))
  clear hst1
  have hSn := HS1.out
  refine takeY (i := 10) (some 61) (v := .pointer (some ⟨(X + 2), 20, none⟩)) rfl rfl (by kernel_rfl) (by kernel_rfl) (by kernel_rfl) (fun _ _ _ h => h) (by rfl) (fun w' hS => by go_simp) hSn ?_
  simp only [Act.put, List.setIfInBounds_toArray, List.set_cons_zero, List.set_cons_succ]
  clear hSn
  refine takeSt (i := 11) 27 (.tmp 61) (.tmp 55) (X + 2) 20 (.agg (idC x.id)) (idC x.id) (pdC (⟨x.kd, 0, z0, 0, 0, 0, z0, x.li, x.id, 0, 0, z0, z0, x.A, x.m, x.c⟩)) rfl rfl (by kernel_rfl) (by rfl) rfl rfl rfl rfl info_id (id_all _) HQ1.out (Nat.le_of_ble_eq_true rfl) (by kernel_rfl) (fun w2' hst2 => ⟨PdT.far HS1.out hst2 hne, ?_⟩)
  have HS2 := Lib.hid (PdT.far HS1.out hst2 hne)
  have HQ2 : Hid (PdT 31 w2' (X + 2) (⟨x.kd, 0, z0, 0, 0, 0, z0, x.li, x.id, 0, 0, z0, z0, x.A, x.m, x.c⟩)) := Lib.hid hst2.1
  have HBx2 := Lib.hid (HBx1.out.trans (hst2.2.1 _ hBQ))
  clear hst2
  have hSn := HS2.out
  refine takeY (i := 12) (some 62) (v := .pointer (some ⟨(X + 2), 28, none⟩)) rfl rfl (by kernel_rfl) (by kernel_rfl) (by kernel_rfl) (fun _ _ _ h => h) (by rfl) (fun w' hS => by go_simp) hSn ?_
  simp only [Act.put, List.setIfInBounds_toArray, List.set_cons_zero, List.set_cons_succ]
  clear hSn
  refine takeSt (i := 13) 28 (.tmp 62) (.tmp 57) (X + 2) 28 (.int .u32 (x.sq : Int)) #[.int .u32 (x.sq : Int)] (pdC (⟨x.kd, 0, z0, 0, 0, 0, z0, x.li, x.id, x.sq, 0, z0, z0, x.A, x.m, x.c⟩)) rfl rfl (by kernel_rfl) (by rfl) rfl rfl rfl rfl (by kernel_rfl) (by kernel_rfl) HQ2.out (Nat.le_of_ble_eq_true rfl) (by kernel_rfl) (fun w3' hst3 => ⟨PdT.far HS2.out hst3 hne, ?_⟩)
  have HS3 := Lib.hid (PdT.far HS2.out hst3 hne)
  have HQ3 : Hid (PdT 31 w3' (X + 2) (⟨x.kd, 0, z0, 0, 0, 0, z0, x.li, x.id, x.sq, 0, z0, z0, x.A, x.m, x.c⟩)) := Lib.hid hst3.1
  have HBx3 := Lib.hid (HBx2.out.trans (hst3.2.1 _ hBQ))
  clear hst3
  have hSn := HS3.out
  refine takeY (i := 14) (some 63) (v := .pointer (some ⟨(X + 2), 29, none⟩)) rfl rfl (by kernel_rfl) (by kernel_rfl) (by kernel_rfl) (fun _ _ _ h => h) (by rfl) (fun w' hS => by go_simp) hSn ?_
  simp only [Act.put, List.setIfInBounds_toArray, List.set_cons_zero, List.set_cons_succ]
  clear hSn
  refine takeSt (i := 15) 5 (.tmp 63) (.tmp 59) (X + 2) 29 (.int .u8 x.bi) #[.int .u8 x.bi] (pdC (⟨x.kd, 0, z0, 0, 0, 0, z0, x.li, x.id, x.sq, x.bi, z0, z0, x.A, x.m, x.c⟩)) rfl rfl (by kernel_rfl) (by rfl) rfl rfl rfl rfl (by kernel_rfl) (by kernel_rfl) HQ3.out (Nat.le_of_ble_eq_true rfl) (by kernel_rfl) (fun w4' hst4 => ⟨PdT.far HS3.out hst4 hne, ?_⟩)
  have HS4 := Lib.hid (PdT.far HS3.out hst4 hne)
  have HQ4 : Hid (PdT 31 w4' (X + 2) (⟨x.kd, 0, z0, 0, 0, 0, z0, x.li, x.id, x.sq, x.bi, z0, z0, x.A, x.m, x.c⟩)) := Lib.hid hst4.1
  have HBx4 := Lib.hid (HBx3.out.trans (hst4.2.1 _ hBQ))
  clear hst4
  refine wpAnyH_done (by kernel_rfl) ?_ _
  have HX' := HS4
  have HQ' := HQ4
  have HBx' := HBx4
  clear HX HQ HBx HQ0 HS0 HBx0 HS1 HQ1 HBx1 HS2 HQ2 HBx2 HS3 HQ3 HBx3 HS4 HQ4 HBx4
  have HR8 : Hid (PdT 31 w4' (X + 1) pd0) := Lib.hid (HR.out.below HBx'.out (by omega))
  have HB8 : Hid (Below w.heap.size w w4') := Lib.hid (HB1.out.trans (HBx'.out.mono (by rw [HXX.out]; omega)))
  go_wp2_with (first
    | (refine wpList_load_mid rfl 31 (.tmp 3) rfl (X + 2) 0 rfl (pdC (pl2 x)).toList _ HQ'.out.all Try.underlying31 rfl info_pdR ?_)
    | (refine wpList_st rfl 31 (.tmp 2) (.tmp 64) rfl (X + 1) 0 rfl (.agg (pdC (pl2 x))) (pdC (pl2 x)) rfl rfl info_pdR (pdC_one _) HR8.out (Nat.le_of_ble_eq_true rfl) (pd_all _ _) ?_; intro w9 hst9; refine Hid.out ?_))
  refine Lib.hid ?_
  have HR9 : Hid (PdT 31 w9 (X + 1) (pl2 x)) := Lib.hid hst9.1
  have HB9 := Lib.hid (HB8.out.trans (hst9.2.1 _ (by rw [HXX.out]; omega)))
  clear hst9
  go_wp2_with fail
  refine bodyPost_ret (results_R rfl _ w9 (X + 1) _ rfl HR9.out) rfl ⟨rfl, HB9.out⟩
set_option maxHeartbeats 4000000 in
set_option maxRecDepth 100000 in
theorem plain_4 (x : Pd) (h1 : ¬ (x.kd = 15 ∨ x.kd = 16 ∨ x.kd = 17)) (h2 : ¬ (x.kd = 18 ∨ x.kd = 20)) (h26 : 26 ≤ x.kd) (w : World) :
    Calls Try.prog 18 #[.agg (pdC x)] w fun e w' => e = .returned (.agg (pdC (pl4 x))) ∧ Below w.heap.size w w' := by
  have a0 := pdC_kd x
  have a46 := pdC_tl x
  have HH := Lib.hid (hello_no x.kd h1)
  have HH2 := Lib.hid (lsp_no x.kd h2)
  clear h1 h2
  obtain ⟨W1, hW1⟩ : ∃ W1, w.alloc (.cells (pdC x) 31) = W1 := ⟨_, rfl⟩
  obtain ⟨W2, hW2⟩ : ∃ W2, W1.alloc (.cells (pdC pd0) 31) = W2 := ⟨_, rfl⟩
  obtain ⟨W3, hW3⟩ : ∃ W3, W2.alloc (.cells (pdC pd0) 31) = W3 := ⟨_, rfl⟩
  have hs1 : W1.heap.size = w.heap.size + 1 := by rw [← hW1]; simp
  have hs2 : W2.heap.size = w.heap.size + 2 := by rw [← hW2]; simp [hs1]
  have hx1 : PdT 31 W1 w.heap.size x := by rw [← hW1]; exact heap_alloc_new w _
  have hx2 : PdT 31 W2 w.heap.size x := by rw [← hW2]; exact (Below.heap_alloc _ _ _ (by omega)).trans hx1
  have hx3 : PdT 31 W3 w.heap.size x := by rw [← hW3]; exact (Below.heap_alloc _ _ _ (by omega)).trans hx2
  have hr2 : PdT 31 W2 (w.heap.size + 1) pd0 := by rw [← hW2, ← hs1]; exact heap_alloc_new W1 _
  have hr3 : PdT 31 W3 (w.heap.size + 1) pd0 := by rw [← hW3]; exact (Below.heap_alloc _ _ _ (by omega)).trans hr2
  have hq3 : PdT 31 W3 (w.heap.size + 2) pd0 := by rw [← hW3, ← hs2]; exact heap_alloc_new W2 _
  have hb3 : Below w.heap.size w W3 := by rw [← hW3, ← hW2, ← hW1]; exact (((bself w).alloc (Nat.le_refl _) _).alloc (by simp) _).alloc (by simp; omega) _
  have HW1 := Lib.hid hW1
  have HW2 := Lib.hid hW2
  have HW3 := Lib.hid hW3
  have HS1 := Lib.hid hs1
  have HS2 := Lib.hid hs2
  have HX3 := Lib.hid hx3
  have HR3 := Lib.hid hr3
  have HQ3 := Lib.hid hq3
  have HB3 := Lib.hid hb3
  obtain ⟨X, hX⟩ : ∃ X, w.heap.size = X := ⟨_, rfl⟩
  have c0 : W2.cell? ⟨w.heap.size, 0, none⟩ = some (.int .u8 x.kd) := (hx2.cell 0).trans a0
  have c46 : W2.cell? ⟨w.heap.size, 46, none⟩ = some (.slice x.A x.m x.c) := (hx2.cell 46).trans a46
  clear hW1 hW2 hW3 hs1 hs2 hx1 hx2 hx3 hr2 hr3 hq3 hb3
  go_enter Try.func18, Try.ntmps18
  rw [hX] at c0 c46 HS1 HS2 HX3 HR3 HQ3
  have HXX := Lib.hid hX
  clear hX
  go_wp2_with (first
    | (refine wpList_v (op := ⟨some 2, _, _, _, _, _⟩) rfl _ (alloc_R' _ _ rfl _ W2 (X + 1) (by rw [HW1.out]; exact HS1.out) (by rw [HW1.out]; exact HW2.out)) ?_; rw [HXX.out])
    | (refine wpList_v rfl _ (build_K _ _ (.tmp 5) (.tmp 7) rfl x rfl rfl _) ?_)
    | (refine wpList_v (op := ⟨some 3, _, _, _, _, _⟩) rfl _ (alloc_R' _ _ rfl _ W3 (X + 2) HS2.out HW3.out) ?_)
    | (refine wpList_st rfl 31 (.tmp 3) (.tmp 8) rfl (X + 2) 0 rfl (.agg (pdC (pdK x))) (pdC (pdK x)) rfl rfl info_pdR (pdC_one _) HQ3.out (Nat.le_of_ble_eq_true rfl) (pd_all _ _) ?_; intro w1 hst1; refine Hid.out ?_))
  refine Lib.hid ?_
  have HX : Hid (PdT 31 w1 X x) := Lib.hid (PdT.far HX3.out hst1 (by omega))
  have HR : Hid (PdT 31 w1 (X + 1) pd0) := Lib.hid (PdT.far HR3.out hst1 (by omega))
  have HQ : Hid (PdT 31 w1 (X + 2) (pdK x)) := Lib.hid hst1.1
  have HBx : Hid (Below (X + 2) w1 w1) := Lib.hid (Below.refl _ _)
  have HB1 : Hid (Below w.heap.size w w1) := Lib.hid (HB3.out.trans (hst1.2.1 _ (by rw [HXX.out]; omega)))
  have hne : X ≠ X + 2 := by omega
  have hBQ : X + 2 ≤ X + 2 := Nat.le_refl _
  have c0 : w1.cell? ⟨X, 0, none⟩ = some (.int .u8 x.kd) := (HX.out.cell 0).trans a0
  clear hst1 HX3 HR3 HQ3 HB3
  go_wp2_with fail
  refine (HH.out _).mono ?_
  rintro e w2 ⟨rfl, rfl⟩
  go_wp2_with fail
  refine (HH2.out _).mono ?_
  rintro e w2 ⟨rfl, rfl⟩
  have c1 := HX.out.so
  have HC1 := Lib.hid c1
  clear c1
  go_wp2_with (first
    | (refine wpList_load_mid rfl 25 (.tmp 9) rfl X 2 rfl (ndC x.so).toList _ HC1.out Try.underlying25 rfl info_node ?_)
    | (refine wpList_st rfl 25 (.tmp 11) (.tmp 10) rfl (X + 2) 2 rfl (.agg (ndC x.so)) (ndC x.so) rfl rfl info_node (nd_all _) HQ.out (Nat.le_of_ble_eq_true rfl) (C' := pdC (pl4 x)) (by kernel_rfl) ?_; intro w3' hst; refine Hid.out ?_))
  refine Lib.hid ?_
  have HQ2 : Hid (PdT 31 w3' (X + 2) (pl4 x)) := Lib.hid hst.1
  have HX2 : Hid (PdT 31 w3' X x) := Lib.hid (HX.out.far hst hne)
  have HBx2 := Lib.hid (HBx.out.trans (hst.2.1 _ hBQ))
  have c0' : w3'.cell? ⟨X, 0, none⟩ = some (.int .u8 x.kd) := (HX2.out.cell 0).trans a0
  clear hst HQ HX HBx c0 HC1
  have HQ' := HQ2
  have HBx' := HBx2
  have HR8 : Hid (PdT 31 w3' (X + 1) pd0) := Lib.hid (HR.out.below HBx'.out (by omega))
  have HB8 : Hid (Below w.heap.size w w3') := Lib.hid (HB1.out.trans (HBx'.out.mono (by rw [HXX.out]; omega)))
  go_wp2_with (first
    | (refine wpList_load_mid rfl 31 (.tmp 3) rfl (X + 2) 0 rfl (pdC (pl4 x)).toList _ HQ'.out.all Try.underlying31 rfl info_pdR ?_)
    | (refine wpList_st rfl 31 (.tmp 2) (.tmp 64) rfl (X + 1) 0 rfl (.agg (pdC (pl4 x))) (pdC (pl4 x)) rfl rfl info_pdR (pdC_one _) HR8.out (Nat.le_of_ble_eq_true rfl) (pd_all _ _) ?_; intro w9 hst9; refine Hid.out ?_))
  refine Lib.hid ?_
  have HR9 : Hid (PdT 31 w9 (X + 1) (pl4 x)) := Lib.hid hst9.1
  have HB9 := Lib.hid (HB8.out.trans (hst9.2.1 _ (by rw [HXX.out]; omega)))
  clear hst9
  go_wp2_with fail
  refine bodyPost_ret (results_R rfl _ w9 (X + 1) _ rfl HR9.out) rfl ⟨rfl, HB9.out⟩
set_option maxHeartbeats 4000000 in
set_option maxRecDepth 100000 in
theorem plain_3 (x : Pd) (h1 : ¬ (x.kd = 15 ∨ x.kd = 16 ∨ x.kd = 17)) (h2 : ¬ (x.kd = 18 ∨ x.kd = 20)) (h26 : x.kd < 26) (w : World) :
    Calls Try.prog 18 #[.agg (pdC x)] w fun e w' => e = .returned (.agg (pdC (pl3 x))) ∧ Below w.heap.size w w' := by
  have a0 := pdC_kd x
  have a46 := pdC_tl x
  have HH := Lib.hid (hello_no x.kd h1)
  have HH2 := Lib.hid (lsp_no x.kd h2)
  clear h1 h2
  obtain ⟨W1, hW1⟩ : ∃ W1, w.alloc (.cells (pdC x) 31) = W1 := ⟨_, rfl⟩
  obtain ⟨W2, hW2⟩ : ∃ W2, W1.alloc (.cells (pdC pd0) 31) = W2 := ⟨_, rfl⟩
  obtain ⟨W3, hW3⟩ : ∃ W3, W2.alloc (.cells (pdC pd0) 31) = W3 := ⟨_, rfl⟩
  have hs1 : W1.heap.size = w.heap.size + 1 := by rw [← hW1]; simp
  have hs2 : W2.heap.size = w.heap.size + 2 := by rw [← hW2]; simp [hs1]
  have hx1 : PdT 31 W1 w.heap.size x := by rw [← hW1]; exact heap_alloc_new w _
  have hx2 : PdT 31 W2 w.heap.size x := by rw [← hW2]; exact (Below.heap_alloc _ _ _ (by omega)).trans hx1
  have hx3 : PdT 31 W3 w.heap.size x := by rw [← hW3]; exact (Below.heap_alloc _ _ _ (by omega)).trans hx2
  have hr2 : PdT 31 W2 (w.heap.size + 1) pd0 := by rw [← hW2, ← hs1]; exact heap_alloc_new W1 _
  have hr3 : PdT 31 W3 (w.heap.size + 1) pd0 := by rw [← hW3]; exact (Below.heap_alloc _ _ _ (by omega)).trans hr2
  have hq3 : PdT 31 W3 (w.heap.size + 2) pd0 := by rw [← hW3, ← hs2]; exact heap_alloc_new W2 _
  have hb3 : Below w.heap.size w W3 := by rw [← hW3, ← hW2, ← hW1]; exact (((bself w).alloc (Nat.le_refl _) _).alloc (by simp) _).alloc (by simp; omega) _
  have HW1 := Lib.hid hW1
  have HW2 := Lib.hid hW2
  have HW3 := Lib.hid hW3
  have HS1 := Lib.hid hs1
  have HS2 := Lib.hid hs2
  have HX3 := Lib.hid hx3
  have HR3 := Lib.hid hr3
  have HQ3 := Lib.hid hq3
  have HB3 := Lib.hid hb3
  obtain ⟨X, hX⟩ : ∃ X, w.heap.size = X := ⟨_, rfl⟩
  have c0 : W2.cell? ⟨w.heap.size, 0, none⟩ = some (.int .u8 x.kd) := (hx2.cell 0).trans a0
  have c46 : W2.cell? ⟨w.heap.size, 46, none⟩ = some (.slice x.A x.m x.c) := (hx2.cell 46).trans a46
  clear hW1 hW2 hW3 hs1 hs2 hx1 hx2 hx3 hr2 hr3 hq3 hb3
  go_enter Try.func18, Try.ntmps18
  rw [hX] at c0 c46 HS1 HS2 HX3 HR3 HQ3
  have HXX := Lib.hid hX
  clear hX
  go_wp2_with (first
    | (refine wpList_v (op := ⟨some 2, _, _, _, _, _⟩) rfl _ (alloc_R' _ _ rfl _ W2 (X + 1) (by rw [HW1.out]; exact HS1.out) (by rw [HW1.out]; exact HW2.out)) ?_; rw [HXX.out])
    | (refine wpList_v rfl _ (build_K _ _ (.tmp 5) (.tmp 7) rfl x rfl rfl _) ?_)
    | (refine wpList_v (op := ⟨some 3, _, _, _, _, _⟩) rfl _ (alloc_R' _ _ rfl _ W3 (X + 2) HS2.out HW3.out) ?_)
    | (refine wpList_st rfl 31 (.tmp 3) (.tmp 8) rfl (X + 2) 0 rfl (.agg (pdC (pdK x))) (pdC (pdK x)) rfl rfl info_pdR (pdC_one _) HQ3.out (Nat.le_of_ble_eq_true rfl) (pd_all _ _) ?_; intro w1 hst1; refine Hid.out ?_))
  refine Lib.hid ?_
  have HX : Hid (PdT 31 w1 X x) := Lib.hid (PdT.far HX3.out hst1 (by omega))
  have HR : Hid (PdT 31 w1 (X + 1) pd0) := Lib.hid (PdT.far HR3.out hst1 (by omega))
  have HQ : Hid (PdT 31 w1 (X + 2) (pdK x)) := Lib.hid hst1.1
  have HBx : Hid (Below (X + 2) w1 w1) := Lib.hid (Below.refl _ _)
  have HB1 : Hid (Below w.heap.size w w1) := Lib.hid (HB3.out.trans (hst1.2.1 _ (by rw [HXX.out]; omega)))
  have hne : X ≠ X + 2 := by omega
  have hBQ : X + 2 ≤ X + 2 := Nat.le_refl _
  have c0 : w1.cell? ⟨X, 0, none⟩ = some (.int .u8 x.kd) := (HX.out.cell 0).trans a0
  clear hst1 HX3 HR3 HQ3 HB3
  go_wp2_with fail
  refine (HH.out _).mono ?_
  rintro e w2 ⟨rfl, rfl⟩
  go_wp2_with fail
  refine (HH2.out _).mono ?_
  rintro e w2 ⟨rfl, rfl⟩
  have c1 := HX.out.so
  have HC1 := Lib.hid c1
  clear c1
  go_wp2_with (first
    | (refine wpList_load_mid rfl 25 (.tmp 9) rfl X 2 rfl (ndC x.so).toList _ HC1.out Try.underlying25 rfl info_node ?_)
    | (refine wpList_st rfl 25 (.tmp 11) (.tmp 10) rfl (X + 2) 2 rfl (.agg (ndC x.so)) (ndC x.so) rfl rfl info_node (nd_all _) HQ.out (Nat.le_of_ble_eq_true rfl) (C' := pdC (pl4 x)) (by kernel_rfl) ?_; intro w3' hst; refine Hid.out ?_))
  refine Lib.hid ?_
  have HQ2 : Hid (PdT 31 w3' (X + 2) (pl4 x)) := Lib.hid hst.1
  have HX2 : Hid (PdT 31 w3' X x) := Lib.hid (HX.out.far hst hne)
  have HBx2 := Lib.hid (HBx.out.trans (hst.2.1 _ hBQ))
  have c0' : w3'.cell? ⟨X, 0, none⟩ = some (.int .u8 x.kd) := (HX2.out.cell 0).trans a0
  clear hst HQ HX HBx c0 HC1
  have HQ' := HQ2
  have HBx' := HBx2
  go_wp2_with fail
  have HX := HX2
  have HQ := HQ'
  have HBx := HBx'
  clear HX2 HQ' HBx' HQ2 HBx2 c0'
  refine wp_region_held_drew (S := fun w' => PdT 31 w' X x) (by kernel_rfl) HX.out (fun hS0 => ?_)
  refine takeY (i := 0) (some 15) (v := .pointer (some ⟨X, 30, none⟩)) rfl rfl (by kernel_rfl) (by kernel_rfl) (by kernel_rfl) (fun _ _ _ h => h) (by rfl) (fun w' hS => by go_simp) hS0 ?_
  simp only [Act.put, List.setIfInBounds_toArray, List.set_cons_zero, List.set_cons_succ]
  refine takeL (i := 1) (some 16) 27 (.tmp 15) X 30 (idC x.st) _ rfl rfl (by kernel_rfl) (by kernel_rfl) (by kernel_rfl) (fun _ _ _ h => h) (by rfl) rfl rfl (fun w' hS => hS.st) Try.underlying27 rfl info_id hS0 ?_
  simp only [Act.put, List.setIfInBounds_toArray, List.set_cons_zero, List.set_cons_succ]
  refine takeY (i := 2) (some 17) (v := .pointer (some ⟨X, 38, none⟩)) rfl rfl (by kernel_rfl) (by kernel_rfl) (by kernel_rfl) (fun _ _ _ h => h) (by rfl) (fun w' hS => by go_simp) hS0 ?_
  simp only [Act.put, List.setIfInBounds_toArray, List.set_cons_zero, List.set_cons_succ]
  refine takeL (i := 3) (some 18) 27 (.tmp 17) X 38 (idC x.en) _ rfl rfl (by kernel_rfl) (by kernel_rfl) (by kernel_rfl) (fun _ _ _ h => h) (by rfl) rfl rfl (fun w' hS => hS.en) Try.underlying27 rfl info_id hS0 ?_
  simp only [Act.put, List.setIfInBounds_toArray, List.set_cons_zero, List.set_cons_succ]
  have HS0 := Lib.hid hS0
  have HQ0 := HQ
  have HBx0 := Lib.hid (HBx.out.drew)
  clear hS0
  have hSn := HS0.out
  refine takeY (i := 4) (some 19) (v := .pointer (some ⟨(X + 2), 30, none⟩)) rfl rfl (by kernel_rfl) (by kernel_rfl) (by kernel_rfl) (fun _ _ _ h => h) (by rfl) (fun w' hS => by go_simp) hSn ?_
  simp only [Act.put, List.setIfInBounds_toArray, List.set_cons_zero, List.set_cons_succ]
  clear hSn
  refine takeSt (i := 5) 27 (.tmp 19) (.tmp 16) (X + 2) 30 (.agg (idC x.st)) (idC x.st) (pdC (⟨x.kd, 0, x.so, 0, 0, 0, z0, 0, z0, 0, 0, x.st, z0, x.A, x.m, x.c⟩)) rfl rfl (by kernel_rfl) (by rfl) rfl rfl rfl rfl info_id (id_all _) HQ0.out (Nat.le_of_ble_eq_true rfl) (by kernel_rfl) (fun v1' hst1 => ⟨PdT.far HS0.out hst1 hne, ?_⟩)
  have HS1 := Lib.hid (PdT.far HS0.out hst1 hne)
  have HQ1 : Hid (PdT 31 v1' (X + 2) (⟨x.kd, 0, x.so, 0, 0, 0, z0, 0, z0, 0, 0, x.st, z0, x.A, x.m, x.c⟩)) := Lib.hid hst1.1
  have HBx1 := Lib.hid (HBx0.out.trans (hst1.2.1 _ hBQ))
  clear hst1
  have hSn := HS1.out
  refine takeY (i := 6) (some 20) (v := .pointer (some ⟨(X + 2), 38, none⟩)) rfl rfl (by kernel_rfl) (by kernel_rfl) (by kernel_rfl) (fun _ _ _ h => h) (by rfl) (fun w' hS => by go_simp) hSn ?_
  simp only [Act.put, List.setIfInBounds_toArray, List.set_cons_zero, List.set_cons_succ]
  clear hSn
  refine takeSt (i := 7) 27 (.tmp 20) (.tmp 18) (X + 2) 38 (.agg (idC x.en)) (idC x.en) (pdC (⟨x.kd, 0, x.so, 0, 0, 0, z0, 0, z0, 0, 0, x.st, x.en, x.A, x.m, x.c⟩)) rfl rfl (by kernel_rfl) (by rfl) rfl rfl rfl rfl info_id (id_all _) HQ1.out (Nat.le_of_ble_eq_true rfl) (by kernel_rfl) (fun v2' hst2 => ⟨PdT.far HS1.out hst2 hne, ?_⟩)
  have HS2 := Lib.hid (PdT.far HS1.out hst2 hne)
  have HQ2 : Hid (PdT 31 v2' (X + 2) (⟨x.kd, 0, x.so, 0, 0, 0, z0, 0, z0, 0, 0, x.st, x.en, x.A, x.m, x.c⟩)) := Lib.hid hst2.1
  have HBx2 := Lib.hid (HBx1.out.trans (hst2.2.1 _ hBQ))
  clear hst2
  refine wpAnyH_done (by kernel_rfl) ?_ _
  have HX' := HS2
  have HQ' := HQ2
  have HBx' := HBx2
  clear HX HQ HBx HQ0 HS0 HBx0 HS1 HQ1 HBx1 HS2 HQ2 HBx2
  have HR8 : Hid (PdT 31 v2' (X + 1) pd0) := Lib.hid (HR.out.below HBx'.out (by omega))
  have HB8 : Hid (Below w.heap.size w v2') := Lib.hid (HB1.out.trans (HBx'.out.mono (by rw [HXX.out]; omega)))
  go_wp2_with (first
    | (refine wpList_load_mid rfl 31 (.tmp 3) rfl (X + 2) 0 rfl (pdC (pl3 x)).toList _ HQ'.out.all Try.underlying31 rfl info_pdR ?_)
    | (refine wpList_st rfl 31 (.tmp 2) (.tmp 64) rfl (X + 1) 0 rfl (.agg (pdC (pl3 x))) (pdC (pl3 x)) rfl rfl info_pdR (pdC_one _) HR8.out (Nat.le_of_ble_eq_true rfl) (pd_all _ _) ?_; intro w9 hst9; refine Hid.out ?_))
  refine Lib.hid ?_
  have HR9 : Hid (PdT 31 w9 (X + 1) (pl3 x)) := Lib.hid hst9.1
  have HB9 := Lib.hid (HB8.out.trans (hst9.2.1 _ (by rw [HXX.out]; omega)))
  clear hst9
  go_wp2_with fail
  refine bodyPost_ret (results_R rfl _ w9 (X + 1) _ rfl HR9.out) rfl ⟨rfl, HB9.out⟩
end Go.Proofs.Ytfojfdlapekjoaa

/- A packet that came in as an argument can be read. No condition. -/
namespace Go.Proofs.Ytfojfdlapekjoaa
open Go.RowKit Go.ChangeShapes Go.WideShapes
set_option linter.unusedVariables false

section
variable {H : Type} {enc : TypeId × Value → H} {w : World} {base : Nat} {spare : Nat → Bool} {held : Bool} {m : Nat} {cs : List Value}
theorem cell_i64 {k : Nat} {o : Option (DataW H × List MemPlace)} (h : DataW.trod enc Try.prog w base spare held m 3 ((cs.drop k).take 1) = o) (ho : o.isSome = true) : ∃ a : Int, cs[k]? = some (.int .i64 a) ∧ -9223372036854775808 ≤ a ∧ a ≤ 9223372036854775807 := by
  obtain ⟨y, rfl⟩ := Option.isSome_iff_exists.1 ho
  obtain ⟨a, ea, _, wa⟩ := DataW.trod_int Try.underlying3 h
  refine ⟨a, ?_, wf_i64 wa⟩
  have := congrArg (·[0]?) ea
  simpa [List.getElem?_take, List.getElem?_drop] using this
theorem cell_u32 {k : Nat} {o : Option (DataW H × List MemPlace)} (h : DataW.trod enc Try.prog w base spare held m 28 ((cs.drop k).take 1) = o) (ho : o.isSome = true) : ∃ a : Int, cs[k]? = some (.int .u32 a) ∧ 0 ≤ a ∧ a ≤ 4294967295 := by
  obtain ⟨y, rfl⟩ := Option.isSome_iff_exists.1 ho
  obtain ⟨a, ea, _, wa⟩ := DataW.trod_int Try.underlying28 h
  refine ⟨a, ?_, wf_u32 wa⟩
  have := congrArg (·[0]?) ea
  simpa [List.getElem?_take, List.getElem?_drop] using this
theorem cut_at {α : Type} (cs : List α) (e n k i : Nat) (hi : k + i < n) : (((cs.drop e).take n).drop k)[i]? = cs[e + (k + i)]? := by
  rw [List.getElem?_drop, List.getElem?_take, if_pos hi, List.getElem?_drop]
theorem node_run {e : Nat} {o : Option (DataW H × List MemPlace)} (h : DataW.trod enc Try.prog w base spare held m 25 ((cs.drop e).take 7) = o) (ho : o.isSome = true) : ∃ z : Nat → Int, (∀ i, i < 7 → cs[e + i]? = some (.int .u8 (z i))) ∧ ∀ i, 0 ≤ z i ∧ z i ≤ 255 := by
  obtain ⟨y, rfl⟩ := Option.isSome_iff_exists.1 ho
  have hc6 : Try.prog.cellsOf 23 = 6 := by kernel_rfl
  have hc1 : Try.prog.cellsOf 5 = 1 := by kernel_rfl
  obtain ⟨ys, m2, _, _, _, hny, hey⟩ := DataW.trod_struct Try.underlying25 h
  have hny : ys.length = 2 := hny
  have f0 : DataW.trod enc Try.prog w base spare held m2 23 ((((cs.drop e).take 7).drop 0).take (Try.prog.cellsOf 23)) = ys[0]? := hey 0 _ rfl
  have f1 : DataW.trod enc Try.prog w base spare held m2 5 ((((cs.drop e).take 7).drop 6).take (Try.prog.cellsOf 5)) = ys[1]? := hey 1 _ rfl
  rw [hc6] at f0
  rw [hc1] at f1
  obtain ⟨z, hz, hzb⟩ := bytes_run Try.underlying23 f0 (by rw [List.getElem?_eq_getElem (by omega)]; rfl)
  obtain ⟨p, hp, hpb⟩ := cell_u8 f1 (by rw [List.getElem?_eq_getElem (by omega)]; rfl)
  refine ⟨fun i => if i = 6 then p else z i, fun i hi => ?_, fun i => ?_⟩
  · by_cases e6 : i = 6
    · subst e6
      rw [List.getElem?_take, if_pos (by omega), List.getElem?_drop] at hp
      simpa using hp
    · have := hz i (by omega)
      rw [Nat.zero_add, List.getElem?_take, if_pos (by omega), List.getElem?_drop] at this
      simpa [e6] using this
  · show 0 ≤ (if i = 6 then p else z i) ∧ (if i = 6 then p else z i) ≤ 255
    split
    · exact hpb
    · exact hzb i
theorem id_run {e : Nat} {o : Option (DataW H × List MemPlace)} (h : DataW.trod enc Try.prog w base spare held m 27 ((cs.drop e).take 8) = o) (ho : o.isSome = true) : ∃ z : Nat → Int, (∀ i, i < 8 → cs[e + i]? = some (.int .u8 (z i))) ∧ ∀ i, 0 ≤ z i ∧ z i ≤ 255 := by
  obtain ⟨y, rfl⟩ := Option.isSome_iff_exists.1 ho
  have hc7 : Try.prog.cellsOf 25 = 7 := by kernel_rfl
  have hc1 : Try.prog.cellsOf 5 = 1 := by kernel_rfl
  obtain ⟨ys, m2, _, _, _, hny, hey⟩ := DataW.trod_struct Try.underlying27 h
  have hny : ys.length = 2 := hny
  have f0 : DataW.trod enc Try.prog w base spare held m2 25 ((((cs.drop e).take 8).drop 0).take (Try.prog.cellsOf 25)) = ys[0]? := hey 0 _ rfl
  have f1 : DataW.trod enc Try.prog w base spare held m2 5 ((((cs.drop e).take 8).drop 7).take (Try.prog.cellsOf 5)) = ys[1]? := hey 1 _ rfl
  rw [hc7] at f0
  rw [hc1] at f1
  obtain ⟨z, hz, hzb⟩ := node_run f0 (by rw [List.getElem?_eq_getElem (by omega)]; rfl)
  obtain ⟨p, hp, hpb⟩ := cell_u8 f1 (by rw [List.getElem?_eq_getElem (by omega)]; rfl)
  refine ⟨fun i => if i = 7 then p else z i, fun i hi => ?_, fun i => ?_⟩
  · by_cases e6 : i = 7
    · subst e6
      rw [List.getElem?_take, if_pos (by omega), List.getElem?_drop] at hp
      simpa using hp
    · have := hz i (by omega)
      rw [Nat.zero_add, List.getElem?_take, if_pos (by omega), List.getElem?_drop] at this
      simpa [e6] using this
  · show 0 ≤ (if i = 7 then p else z i) ∧ (if i = 7 then p else z i) ≤ 255
    split
    · exact hpb
    · exact hzb i
end
/-- a packet as an argument -/
def InP (w : World) (p : Pd) (L : Nat → It) : Prop := PdOk p ∧ RdT w p.A p.m L ∧ (p.A = none → p.m = 0 ∧ p.c = 0) ∧ p.m ≤ p.c ∧ p.c * 32 ≤ 140737488351232
set_option maxRecDepth 100000 in
set_option maxHeartbeats 2000000 in
theorem open_pdu {H : Type} {enc : TypeId × Value → H} {w : World} {base : Nat} {held : Bool} {r : Reach} {b0 : Nat} {v : Value} {d : DataW H} {ps : List MemPlace}
    (hv : Value.okWide Try.prog w r b0 31 v) (h : DataW.Trod enc Try.prog w base (fun _ => true) held 31 v d ps) (hsz : ∀ n ∈ d.weights Try.prog 31, n ≤ 140737488351232) :
    ∃ p L, v = .agg (pdC p) ∧ InP w p L := by
  simp only [Value.okWide, Try.underlying31] at hv
  obtain ⟨ca, rfl, hca, _⟩ := hv
  obtain ⟨fuel, hf⟩ := h
  have hcc : (Value.agg ca).cells.toList = ca.toList := rfl
  rw [hcc] at hf
  obtain ⟨cs, hcs⟩ : ∃ cs, ca.toList = cs := ⟨_, rfl⟩
  rw [hcs] at hf
  obtain ⟨xs, m1, _, hxd, hl, hn, hel⟩ := DataW.trod_struct Try.underlying31 hf
  have hn : xs.length = 14 := hn
  have hl : cs.length = 47 := by rw [hl]; kernel_rfl
  have hd : d = .agg (xs.map (·.1)) := by have := congrArg Prod.fst hxd; simpa using this
  have hc_b : Try.prog.cellsOf 5 = 1 := by kernel_rfl
  have hc_n : Try.prog.cellsOf 25 = 7 := by kernel_rfl
  have hc_i : Try.prog.cellsOf 3 = 1 := by kernel_rfl
  have hc_d : Try.prog.cellsOf 27 = 8 := by kernel_rfl
  have hc_u : Try.prog.cellsOf 28 = 1 := by kernel_rfl
  have hc_t : Try.prog.cellsOf 29 = 1 := by kernel_rfl
  have e0 : DataW.trod enc Try.prog w base (fun _ => true) held m1 5 ((cs.drop 0).take (Try.prog.cellsOf 5)) = xs[0]? := hel 0 _ rfl
  rw [hc_b] at e0
  obtain ⟨kd, hkd, bkd⟩ := cell_u8 e0 (by rw [List.getElem?_eq_getElem (by omega)]; rfl)
  have e1 : DataW.trod enc Try.prog w base (fun _ => true) held m1 5 ((cs.drop 1).take (Try.prog.cellsOf 5)) = xs[1]? := hel 1 _ rfl
  rw [hc_b] at e1
  obtain ⟨ci, hci, bci⟩ := cell_u8 e1 (by rw [List.getElem?_eq_getElem (by omega)]; rfl)
  have e2 : DataW.trod enc Try.prog w base (fun _ => true) held m1 25 ((cs.drop 2).take (Try.prog.cellsOf 25)) = xs[2]? := hel 2 _ rfl
  rw [hc_n] at e2
  obtain ⟨so, hso, bso⟩ := node_run e2 (by rw [List.getElem?_eq_getElem (by omega)]; rfl)
  have e3 : DataW.trod enc Try.prog w base (fun _ => true) held m1 3 ((cs.drop 9).take (Try.prog.cellsOf 3)) = xs[3]? := hel 3 _ rfl
  rw [hc_i] at e3
  obtain ⟨ho, hho, bho⟩ := cell_i64 e3 (by rw [List.getElem?_eq_getElem (by omega)]; rfl)
  have e4 : DataW.trod enc Try.prog w base (fun _ => true) held m1 5 ((cs.drop 10).take (Try.prog.cellsOf 5)) = xs[4]? := hel 4 _ rfl
  rw [hc_b] at e4
  obtain ⟨nu, hnu, bnu⟩ := cell_u8 e4 (by rw [List.getElem?_eq_getElem (by omega)]; rfl)
  have e5 : DataW.trod enc Try.prog w base (fun _ => true) held m1 5 ((cs.drop 11).take (Try.prog.cellsOf 5)) = xs[5]? := hel 5 _ rfl
  rw [hc_b] at e5
  obtain ⟨pr, hpr, bpr⟩ := cell_u8 e5 (by rw [List.getElem?_eq_getElem (by omega)]; rfl)
  have e6 : DataW.trod enc Try.prog w base (fun _ => true) held m1 25 ((cs.drop 12).take (Try.prog.cellsOf 25)) = xs[6]? := hel 6 _ rfl
  rw [hc_n] at e6
  obtain ⟨la, hla, bla⟩ := node_run e6 (by rw [List.getElem?_eq_getElem (by omega)]; rfl)
  have e7 : DataW.trod enc Try.prog w base (fun _ => true) held m1 3 ((cs.drop 19).take (Try.prog.cellsOf 3)) = xs[7]? := hel 7 _ rfl
  rw [hc_i] at e7
  obtain ⟨li, hli, bli⟩ := cell_i64 e7 (by rw [List.getElem?_eq_getElem (by omega)]; rfl)
  have e8 : DataW.trod enc Try.prog w base (fun _ => true) held m1 27 ((cs.drop 20).take (Try.prog.cellsOf 27)) = xs[8]? := hel 8 _ rfl
  rw [hc_d] at e8
  obtain ⟨id, hid, bid⟩ := id_run e8 (by rw [List.getElem?_eq_getElem (by omega)]; rfl)
  have e9 : DataW.trod enc Try.prog w base (fun _ => true) held m1 28 ((cs.drop 28).take (Try.prog.cellsOf 28)) = xs[9]? := hel 9 _ rfl
  rw [hc_u] at e9
  obtain ⟨sq, hsq, bsq⟩ := cell_u32 e9 (by rw [List.getElem?_eq_getElem (by omega)]; rfl)
  have e10 : DataW.trod enc Try.prog w base (fun _ => true) held m1 5 ((cs.drop 29).take (Try.prog.cellsOf 5)) = xs[10]? := hel 10 _ rfl
  rw [hc_b] at e10
  obtain ⟨bi, hbi, bbi⟩ := cell_u8 e10 (by rw [List.getElem?_eq_getElem (by omega)]; rfl)
  have e11 : DataW.trod enc Try.prog w base (fun _ => true) held m1 27 ((cs.drop 30).take (Try.prog.cellsOf 27)) = xs[11]? := hel 11 _ rfl
  rw [hc_d] at e11
  obtain ⟨st, hst, bst⟩ := id_run e11 (by rw [List.getElem?_eq_getElem (by omega)]; rfl)
  have e12 : DataW.trod enc Try.prog w base (fun _ => true) held m1 27 ((cs.drop 38).take (Try.prog.cellsOf 27)) = xs[12]? := hel 12 _ rfl
  rw [hc_d] at e12
  obtain ⟨en, hen, ben⟩ := id_run e12 (by rw [List.getElem?_eq_getElem (by omega)]; rfl)
  have e13 : DataW.trod enc Try.prog w base (fun _ => true) held m1 29 ((cs.drop 46).take (Try.prog.cellsOf 29)) = xs[13]? := hel 13 _ rfl
  rw [hc_t] at e13
  have hx13 : xs[13]? = some xs[13] := List.getElem?_eq_getElem (by omega)
  rw [hx13] at e13
  have hsl : ∃ a len cap, cs[46]? = some (.slice a len cap) := by
    have hone : (cs.drop 46).take 1 = [cs[46]] := by
      rw [List.drop_eq_getElem_cons (by omega), List.take_succ_cons, List.take_zero]
    rcases Deep.open_slice_pairs Try.underlying29 Try.underlying53 (by kernel_rfl) rfl rfl (by kernel_rfl) (by kernel_rfl) e13 with ⟨hcs', _⟩ | ⟨x, l, c, _, _, _, _, _, _, _, _, hcs', _⟩
    · rw [hone] at hcs'
      injection hcs' with hcs' _
      exact ⟨_, _, _, by rw [List.getElem?_eq_getElem (by omega), hcs']⟩
    · rw [hone] at hcs'
      injection hcs' with hcs' _
      exact ⟨_, _, _, by rw [List.getElem?_eq_getElem (by omega), hcs']⟩
  obtain ⟨a, len, cap, htl⟩ := hsl
  have h13 : DataW.Trod enc Try.prog w base (fun _ => true) held 29 (.slice a len cap) xs[13].1 xs[13].2 := by
    refine ⟨m1, ?_⟩
    have hone : (cs.drop 46).take 1 = [.slice a len cap] := by
      rw [List.drop_eq_getElem_cons (by omega), List.take_succ_cons, List.take_zero]
      rw [List.getElem?_eq_getElem (by omega)] at htl
      injection htl with htl
      rw [htl]
    rw [hone] at e13
    exact e13
  obtain ⟨L, hL1, hL2, hL3, hL4⟩ := open_tlvs h13 (fun n hn' => hsz n (by
    rw [hd]
    simp only [DataW.weights, Try.underlying31]
    exact DataW.weights_mem_each (j := 13) (t := 29) (d := xs[13].1) rfl (by simp [hx13]) n hn'))
  refine ⟨⟨kd, ci, so, ho, nu, pr, la, li, id, sq.toNat, bi, st, en, a, len, cap⟩, L, ?_, ⟨⟨bkd, bci, bso, bho, bnu, bpr, bla⟩, bli, bid, (by show sq.toNat ≤ _; omega), bbi, bst, ben⟩, hL1, hL2, hL3, hL4⟩
  congr 1
  apply Array.ext_getElem?
  intro i
  rw [← Array.getElem?_toList, hcs]
  rcases Nat.lt_or_ge i 47 with h | h
  · rcases (by omega : i = 0 ∨ i = 1 ∨ i = 2 ∨ i = 3 ∨ i = 4 ∨ i = 5 ∨ i = 6 ∨ i = 7 ∨ i = 8 ∨ i = 9 ∨ i = 10 ∨ i = 11 ∨ i = 12 ∨ i = 13 ∨ i = 14 ∨ i = 15 ∨ i = 16 ∨ i = 17 ∨ i = 18 ∨ i = 19 ∨ i = 20 ∨ i = 21 ∨ i = 22 ∨ i = 23 ∨ i = 24 ∨ i = 25 ∨ i = 26 ∨ i = 27 ∨ i = 28 ∨ i = 29 ∨ i = 30 ∨ i = 31 ∨ i = 32 ∨ i = 33 ∨ i = 34 ∨ i = 35 ∨ i = 36 ∨ i = 37 ∨ i = 38 ∨ i = 39 ∨ i = 40 ∨ i = 41 ∨ i = 42 ∨ i = 43 ∨ i = 44 ∨ i = 45 ∨ i = 46) with rfl | rfl | rfl | rfl | rfl | rfl | rfl | rfl | rfl | rfl | rfl | rfl | rfl | rfl | rfl | rfl | rfl | rfl | rfl | rfl | rfl | rfl | rfl | rfl | rfl | rfl | rfl | rfl | rfl | rfl | rfl | rfl | rfl | rfl | rfl | rfl | rfl | rfl | rfl | rfl | rfl | rfl | rfl | rfl | rfl | rfl | rfl
    · exact hkd
    · exact hci
    · exact hso 0 (by omega)
    · exact hso 1 (by omega)
    · exact hso 2 (by omega)
    · exact hso 3 (by omega)
    · exact hso 4 (by omega)
    · exact hso 5 (by omega)
    · exact hso 6 (by omega)
    · exact hho
    · exact hnu
    · exact hpr
    · exact hla 0 (by omega)
    · exact hla 1 (by omega)
    · exact hla 2 (by omega)
    · exact hla 3 (by omega)
    · exact hla 4 (by omega)
    · exact hla 5 (by omega)
    · exact hla 6 (by omega)
    · exact hli
    · exact hid 0 (by omega)
    · exact hid 1 (by omega)
    · exact hid 2 (by omega)
    · exact hid 3 (by omega)
    · exact hid 4 (by omega)
    · exact hid 5 (by omega)
    · exact hid 6 (by omega)
    · exact hid 7 (by omega)
    · rw [hsq]
      show _ = some (Value.int .u32 ((sq.toNat : Nat) : Int))
      rw [Int.toNat_of_nonneg bsq.1]
    · exact hbi
    · exact hst 0 (by omega)
    · exact hst 1 (by omega)
    · exact hst 2 (by omega)
    · exact hst 3 (by omega)
    · exact hst 4 (by omega)
    · exact hst 5 (by omega)
    · exact hst 6 (by omega)
    · exact hst 7 (by omega)
    · exact hen 0 (by omega)
    · exact hen 1 (by omega)
    · exact hen 2 (by omega)
    · exact hen 3 (by omega)
    · exact hen 4 (by omega)
    · exact hen 5 (by omega)
    · exact hen 6 (by omega)
    · exact hen 7 (by omega)
    · exact htl
  · rw [List.getElem?_eq_none (by omega), Array.getElem?_eq_none (by rw [pdC_size]; exact h)]
end Go.Proofs.Ytfojfdlapekjoaa

/- pdu.GetEntries and the document's: no bytes, too many, not whole entries. Each theorem states its conditions. -/
namespace Go.Proofs.Ytfojfdlapekjoaa
open Go.RowKit
set_option linter.unusedVariables false

theorem getEntries_long (A : Option Addr) (n c : Nat) (w : World) (hn : 255 < n) :
    Calls Try.prog 24 #[.slice A n c] w fun e w' => e = .returned (.tuple #[.slice none 0 0, .int .i64 2]) ∧ w' = w := by
  have h1 : (255 : Int) < (n : Int) := by omega
  go_enter Try.func24, Try.ntmps24
  go_wp2
  go_ret2
  exact ⟨rfl, rfl⟩
theorem getEntries_form (A : Option Addr) (n c : Nat) (w : World) (hn : n ≤ 255) (hm : n % 16 ≠ 0) :
    Calls Try.prog 24 #[.slice A n c] w fun e w' => e = .returned (.tuple #[.slice none 0 0, .int .i64 3]) ∧ w' = w := by
  have h1 : ¬ (255 : Int) < (n : Int) := by omega
  have h2 : ¬ (n : Int) % 16 = 0 := by omega
  clear hm
  go_enter Try.func24, Try.ntmps24
  go_wp2
  go_ret2
  exact ⟨rfl, rfl⟩
theorem getEntries_nil (A : Option Addr) (c : Nat) (w : World) :
    Calls Try.prog 24 #[.slice A 0 c] w fun e w' => e = .returned (.tuple #[.slice none 0 0, .int .i64 0]) ∧ w' = w := by
  go_enter Try.func24, Try.ntmps24
  go_wp2
  refine wp_loop_rounds 1 ?_
  rw [rounds_succ]
  go_wp2
  go_ret2
  exact ⟨rfl, rfl⟩
theorem docGetEntries_long (A : Option Addr) (n c : Nat) (w : World) (hn : 255 < n) :
    Calls Try.prog 26 #[.slice A n c] w fun e w' => e = .returned (.tuple #[.slice none 0 0, .int .i64 2]) ∧ w' = w := by
  have h1 : (255 : Int) < (n : Int) := by omega
  go_enter Try.func26, Try.ntmps26
  go_wp2
  go_ret2
  exact ⟨rfl, rfl⟩
theorem docGetEntries_form (A : Option Addr) (n c : Nat) (w : World) (hn : n ≤ 255) (hm : n % 16 ≠ 0) :
    Calls Try.prog 26 #[.slice A n c] w fun e w' => e = .returned (.tuple #[.slice none 0 0, .int .i64 3]) ∧ w' = w := by
  have h1 : ¬ (255 : Int) < (n : Int) := by omega
  have h2 : ¬ (n : Int) % 16 = 0 := by omega
  clear hm
  go_enter Try.func26, Try.ntmps26
  go_wp2
  go_ret2
  exact ⟨rfl, rfl⟩
theorem docGetEntries_nil (A : Option Addr) (c : Nat) (w : World) :
    Calls Try.prog 26 #[.slice A 0 c] w fun e w' => e = .returned (.tuple #[.slice none 0 0, .int .i64 0]) ∧ w' = w := by
  go_enter Try.func26, Try.ntmps26
  go_wp2
  refine wp_loop_rounds 1 ?_
  rw [rounds_succ]
  go_wp2
  go_ret2
  exact ⟨rfl, rfl⟩
theorem two_own (w : World) (N : Nat) (h : N ≤ 65535) : Own8 (w.alloc (.cells #[.int .u8 ((N : Int) / 256), .int .u8 ((N : Int) % 256)] 5)) w.heap.size 2 2 (putZ N 2) := by
  have e0 : putZ N 2 0 = (N : Int) / 256 := by
    show ((N / 256 ^ 1 % 256 : Nat) : Int) = _
    rw [show (256 : Nat) ^ 1 = 256 from rfl]
    omega
  have e1 : putZ N 2 1 = (N : Int) % 256 := by
    show ((N / 256 ^ 0 % 256 : Nat) : Int) = _
    rw [show (256 : Nat) ^ 0 = 1 from rfl]
    omega
  refine ⟨⟨_, heap_alloc_new w _, Nat.le_refl _, by decide, rfl, fun j hj => ?_⟩, putZ_bd _ _⟩
  rcases (by omega : j = 0 ∨ j = 1) with rfl | rfl
  · rw [e0]; rfl
  · rw [e1]; rfl
/-- a number as two bytes -/
theorem two_any (N : Nat) (w : World) (h : N ≤ 65535) :
    Calls Try.prog 61 #[.int .i64 (N : Int)] w fun e w' => ∃ g, e = .returned (.slice (some ⟨g, 0, none⟩) 2 2) ∧ w.heap.size ≤ g ∧ Own8 w' g 2 2 (putZ N 2) ∧ Below w.heap.size w w' := by
  go_enter Try.func61, Try.ntmps61
  go_wp2_with fail
  go_ret
  exact ⟨_, rfl, Nat.le_refl _, two_own w N h, (bself w).alloc (Nat.le_refl _) _⟩
theorem sys_idx' (z : Nat → Int) (i : Nat) (hi : i < 6) (w : World) : (Instr.index 23 (.agg #[.int .u8 (z 0), .int .u8 (z 1), .int .u8 (z 2), .int .u8 (z 3), .int .u8 (z 4), .int .u8 (z 5)]) (.int .i64 (i : Int))).run Try.prog w = .ok (.int .u8 (z i)) w := by
  rcases (by omega : i = 0 ∨ i = 1 ∨ i = 2 ∨ i = 3 ∨ i = 4 ∨ i = 5) with rfl | rfl | rfl | rfl | rfl | rfl <;> kernel_rfl
set_option maxHeartbeats 2000000 in
set_option maxRecDepth 100000 in
theorem refNode_any (z : Nat → Int) (w : World) (hz : ∀ j, 0 ≤ z j ∧ z j ≤ 255) :
    Calls Try.prog 62 #[.agg (ndC z)] w fun e w' => ∃ v, e = .returned v ∧ OwnB w' w.heap.size v 7 z ∧ Below w.heap.size w w' := by
  have HZ := Lib.hid hz
  have HX := Lib.hid (heap_alloc_new w (.cells (ndC z) 25))
  have HB := Lib.hid ((bself w).alloc (Nat.le_refl _) (.cells (ndC z) 25))
  have hXI := Lib.hid (fun i hi w => sys_idx' z i hi w)
  clear hz
  unfold ndC at *
  go_enter Try.func62, Try.ntmps62
  go_wp2_with fail
  go_loopw [3, 8] (fun p t wr => ∃ i : Nat, i ≤ 6 ∧ t = .int .i64 i ∧ Hid (OwnB wr w.heap.size p i z) ∧ Hid (Below w.heap.size w wr) ∧ Hid (wr.heap[w.heap.size]? = some (.cells (ndC z) 25 (0, 0))) ∧ Hid (p.ownBlock ≠ some w.heap.size))
    (fun _ t _ => 6 - (intOf t).toNat)
  case atStart => exact ⟨0, by omega, rfl, Lib.hid (OwnB.nil _ _ HZ.out), HB, HX, Lib.hid (fun e => by simp [Value.ownBlock] at e)⟩
  case round =>
    obtain ⟨i, hi, rfl, HO, HW, HN, HF⟩ := hrel
    have hTs : w.heap.size < wr.heap.size := (Array.getElem?_eq_some_iff.1 HN.out).1
    by_cases hi6 : i < 6
    · have hx := hXI.out i hi6
      have hi6' : (i : Int) < 6 := by omega
      go_wp2_with (first | (at_builtin; refine app_s rfl (.tmp 11) (.tmp 13) rfl w u3 i _ rfl (HO.out.1.alloc _) (HW.out.alloc HW.out.size _) ⟨wr.heap.size, 0, none⟩ 1 1 [.int .u8 (z i)] rfl rfl (cell_one_new wr _ _) (u8_one _) (by omega) ?_; intro v3 w3 ho3 hb3 hs3 hk3; have hk4 := Lib.hid (hk3 w.heap.size (by simp; omega) HF.out)))
      rw [vals_snoc] at ho3
      have HO3 : Hid (OwnB w3 w.heap.size v3 (i + 1) z) := Lib.hid ⟨ho3, HZ.out⟩
      have HB3 := Lib.hid hb3
      clear ho3 hb3 hs3 hk3 hx
      go_wp2_with fail
      go_roundw
      case rel => exact ⟨i + 1, by omega, by go_num, HO3, HB3, Lib.hid (hk4.out.1.trans ((Below.heap_alloc wr _ _ hTs).trans HN.out)), Lib.hid hk4.out.2⟩
      case measure => simp only [intOf]; omega
    · obtain rfl : i = 6 := by omega
      have d6 : wr.cell? ⟨w.heap.size, 6, none⟩ = some (.int .u8 (z 6)) := (cell_of_row wr _ 6 _ _ _ HN.out).trans rfl
      go_wp2_with (first
        | (at_builtin; refine app_s rfl (.tmp 16) (.tmp 19) rfl w u3 6 _ rfl (HO.out.1.alloc _) (HW.out.alloc HW.out.size _) ⟨wr.heap.size, 0, none⟩ 1 1 [.int .u8 (z 6)] rfl rfl (cell_one_new wr _ _) (u8_one _) (by omega) ?_; intro v3 w3 ho3 hb3 hs3 hk3))
      rw [vals_snoc] at ho3
      go_ret
      exact ⟨_, rfl, ⟨ho3, HZ.out⟩, hb3⟩
end Go.Proofs.Ytfojfdlapekjoaa

/- The document's ID writes an ID. Each theorem states its conditions. -/
namespace Go.Proofs.Ytfojfdlapekjoaa
open Go.RowKit
set_option linter.unusedVariables false
set_option maxHeartbeats 2000000 in
set_option maxRecDepth 100000 in
/-- an ID's eight bytes -/
theorem refID_any (z : Nat → Int) (w : World) (hz : ∀ j, 0 ≤ z j ∧ z j ≤ 255) :
    Calls Try.prog 63 #[.agg (idC z)] w fun e w' => ∃ v, e = .returned v ∧ OwnB w' w.heap.size v 8 z ∧ Below w.heap.size w w' := by
  have HZ := Lib.hid hz
  have HX := Lib.hid (heap_alloc_new w (.cells (idC z) 27))
  have HB := Lib.hid ((bself w).alloc (Nat.le_refl _) (.cells (idC z) 27))
  clear hz
  unfold idC at *
  go_enter Try.func63, Try.ntmps63
  go_wp2_with fail
  refine wp_region_held_drew (S := fun w' => w'.heap[w.heap.size]? = some (.cells (idC z) 27 (0, 0)) ∧ Below w.heap.size w w') (by kernel_rfl) ⟨HX.out, HB.out.drew⟩ (fun hS0 => ?_)
  refine takeY (i := 0) (some 3) (v := .pointer (some ⟨w.heap.size, 0, none⟩)) rfl rfl (by kernel_rfl) (by kernel_rfl) (by kernel_rfl) (fun _ _ _ h => h) (by rfl) (fun w' hS => by go_simp) hS0 ?_
  simp only [Act.put, List.setIfInBounds_toArray, List.set_cons_zero, List.set_cons_succ]
  refine takeL (i := 1) (some 4) 25 (.tmp 3) w.heap.size 0 (ndC z) _ rfl rfl (by kernel_rfl) (by kernel_rfl) (by kernel_rfl) (fun _ _ _ h => h) (by rfl) rfl rfl (fun w' hS => id_range hS.1) Try.underlying25 rfl hi_nd hS0 ?_
  simp only [Act.put, List.setIfInBounds_toArray, List.set_cons_zero, List.set_cons_succ]
  refine takeY (i := 3) (some 6) (v := .pointer (some ⟨w.heap.size, 7, none⟩)) rfl rfl (by kernel_rfl) (by kernel_rfl) (by kernel_rfl) (fun _ _ _ h => h) (by rfl) (fun w' hS => by go_simp) hS0 ?_
  simp only [Act.put, List.setIfInBounds_toArray, List.set_cons_zero, List.set_cons_succ]
  refine takeY (i := 4) (some 7) (v := .int .u8 (z 7)) rfl rfl (by kernel_rfl) (by kernel_rfl) (by kernel_rfl) (fun _ _ _ h => h) (by rfl) (fun w' hS => by have c6 : w'.cell? ⟨w.heap.size, 7, none⟩ = some (.int .u8 (z 7)) := (cell_of_row w' _ 7 _ _ _ hS.1).trans rfl; clear hS; go_simp) hS0 ?_
  simp only [Act.put, List.setIfInBounds_toArray, List.set_cons_zero, List.set_cons_succ]
  obtain ⟨W0, hW0⟩ : ∃ W0, (w.alloc (.cells #[.int .u8 (z 0), .int .u8 (z 1), .int .u8 (z 2), .int .u8 (z 3), .int .u8 (z 4), .int .u8 (z 5), .int .u8 (z 6), .int .u8 (z 7)] 27)).drew = W0 := ⟨_, rfl⟩
  have hsz : W0.heap.size = w.heap.size + 1 := by rw [← hW0]; simp
  rw [hW0] at hS0
  rw [hW0]
  have HS0 := Lib.hid hS0
  clear hS0 hW0 HX HB
  refine wpAnyH_ready (rs := [2, 5]) (by kernel_rfl) (by simp) (consCE (i := 2) (some 5) 62 #[.agg (ndC z)] (R := fun v w' => OwnB w' W0.heap.size v 7 z ∧ Below W0.heap.size W0 w') rfl rfl (by rfl) (by go_simp) (refNode_any z _ HZ.out) (fun v w' h => ⟨(h.2.block _ (by omega)).trans HS0.out.1, HS0.out.2.trans (h.2.mono HS0.out.2.size)⟩) (fun v1 w1 h1 hS1 => ?_) (consVW (i := 5) (some 8) (v := .slice (some ⟨W0.heap.size, 0, none⟩) 1 1) (w' := W0.alloc (.cells #[.int .u8 (z 7)] 5)) rfl rfl (by rfl) (by go_simp) ⟨(Below.heap_alloc W0 _ _ (by omega)).trans HS0.out.1, HS0.out.2.alloc HS0.out.2.size _⟩ ?_ AllReadyH.nil))
  · simp only [Act.put, List.setIfInBounds_toArray, List.set_cons_zero, List.set_cons_succ]
    have hw1 := h1.2.size
    refine takeV (i := 5) (some 8) (v := .slice (some ⟨w1.heap.size, 0, none⟩) 1 1) (w' := w1.alloc (.cells #[.int .u8 (z 7)] 5)) rfl rfl (by kernel_rfl) (by rfl) (by clear h1 hS1; go_simp) ⟨(Below.heap_alloc w1 _ _ (by omega)).trans hS1.1, hS1.2.alloc hS1.2.size _⟩ ?_
    have HO1 := Lib.hid ((ownsRow_mono h1.1.1 HS0.out.2.size).alloc (.cells #[.int .u8 (z 7)] 5))
    have HB1 := Lib.hid (hS1.2.alloc hS1.2.size (.cells #[.int .u8 (z 7)] 5))
    have HC1 := Lib.hid (cell_one_new w1 (.int .u8 (z 7)) 5)
    have HL1 : Hid (w.heap.size < (w1.alloc (.cells #[.int .u8 (z 7)] 5)).heap.size) := Lib.hid (by simp; omega)
    have HF1 : Hid (v1.ownBlock ≠ some w.heap.size) := Lib.hid (fun e => by have := (h1.1.1.lt _ e).1; omega)
    have HN1 := Lib.hid ((Below.heap_alloc w1 (.cells #[.int .u8 (z 7)] 5) _ (by omega)).trans hS1.1)
    clear h1 hS1
    simp only [Act.put, List.setIfInBounds_toArray, List.set_cons_zero, List.set_cons_succ]
    refine takeA (i := 6) (some 9) (.tmp 5) (.tmp 8) rfl rfl (by kernel_rfl) (by rfl) rfl w v1 7 (vals z 7) rfl HO1.out HB1.out ⟨w1.heap.size, 0, none⟩ 1 1 [.int .u8 (z 7)] rfl rfl HC1.out (u8_one _) (by omega) (fun v2 w2 ho2 hb2 hs2 hk2 => ⟨⟨(hk2 w.heap.size HL1.out HF1.out).1.trans HN1.out, hb2⟩, ?_⟩)
    have HO2 : Hid (OwnB w2 w.heap.size v2 8 z) := Lib.hid ⟨by rw [vals_snoc] at ho2; exact ho2, HZ.out⟩
    have HB2 := Lib.hid hb2
    have HS2 : w2.heap[w.heap.size]? = some (.cells (idC z) 27 (0, 0)) ∧ Below w.heap.size w w2 := ⟨(hk2 w.heap.size HL1.out HF1.out).1.trans HN1.out, hb2⟩
    clear ho2 hb2 hs2 hk2
    simp only [Act.put, List.setIfInBounds_toArray, List.set_cons_zero, List.set_cons_succ]
    refine takeY (i := 7) (some 2) (v := v2) rfl rfl (by kernel_rfl) (by kernel_rfl) (by kernel_rfl) (fun _ _ _ h => h) (by rfl) (fun w' hS => by go_simp) HS2 ?_
    simp only [Act.put, List.setIfInBounds_toArray, List.set_cons_zero, List.set_cons_succ]
    refine wpAnyH_done (by kernel_rfl) ?_ _
    go_wp2_with fail
    go_ret
    exact ⟨_, rfl, HO2.out, HB2.out⟩
  · simp only [Act.put, List.setIfInBounds_toArray, List.set_cons_zero, List.set_cons_succ]
    have HS1 : Hid ((W0.alloc (.cells #[.int .u8 (z 7)] 5)).heap[w.heap.size]? = some (.cells (idC z) 27 (0, 0)) ∧ Below w.heap.size w (W0.alloc (.cells #[.int .u8 (z 7)] 5))) := Lib.hid ⟨(Below.heap_alloc W0 _ _ (by omega)).trans HS0.out.1, HS0.out.2.alloc HS0.out.2.size _⟩
    have HC0 := Lib.hid (cell_one_new W0 (.int .u8 (z 7)) 5)
    have hsz2 : (W0.alloc (.cells #[.int .u8 (z 7)] 5)).heap.size = w.heap.size + 2 := by simp; omega
    have hsB : W0.heap.size < (W0.alloc (.cells #[.int .u8 (z 7)] 5)).heap.size := by omega
    obtain ⟨B, hB⟩ : ∃ B, W0.heap.size = B := ⟨_, rfl⟩
    rw [hB] at HC0 hsB ⊢
    obtain ⟨W1, hW1⟩ : ∃ W1, W0.alloc (.cells #[.int .u8 (z 7)] 5) = W1 := ⟨_, rfl⟩
    rw [hW1] at HS1 HC0 hsz2 hsB ⊢
    clear hW1
    refine takeCE (i := 2) (some 5) 62 #[.agg (ndC z)] (R := fun v w' => OwnB w' W1.heap.size v 7 z ∧ Below W1.heap.size W1 w') rfl rfl (by kernel_rfl) (by rfl) (by go_simp) (refNode_any z _ HZ.out) (fun v w' h => ⟨(h.2.block _ (by omega)).trans HS1.out.1, HS1.out.2.trans (h.2.mono HS1.out.2.size)⟩) (fun v1 w1 h1 hS1 => ?_)
    have hw1 := h1.2.size
    have HO1 := Lib.hid (ownsRow_mono h1.1.1 HS1.out.2.size)
    have HB1 := Lib.hid hS1.2
    have HC1 : Hid (∀ j u, [Value.int .u8 (z 7)][j]? = some u → w1.cell? ((⟨B, 0, none⟩ : Addr).add j) = some u) := Lib.hid (fun j u hj => by have := HC0.out j u hj; rw [add_none] at this ⊢; rw [← this]; exact h1.2.cell hsB)
    have HL1 : Hid (w.heap.size < w1.heap.size) := Lib.hid (by omega)
    have HF1 : Hid (v1.ownBlock ≠ some w.heap.size) := Lib.hid (fun e => by have := (h1.1.1.lt _ e).1; omega)
    have HN1 := Lib.hid hS1.1
    clear h1 hS1
    simp only [Act.put, List.setIfInBounds_toArray, List.set_cons_zero, List.set_cons_succ]
    refine takeA (i := 6) (some 9) (.tmp 5) (.tmp 8) rfl rfl (by kernel_rfl) (by rfl) rfl w v1 7 (vals z 7) rfl HO1.out HB1.out ⟨B, 0, none⟩ 1 1 [.int .u8 (z 7)] rfl rfl HC1.out (u8_one _) (by omega) (fun v2 w2 ho2 hb2 hs2 hk2 => ⟨⟨(hk2 w.heap.size HL1.out HF1.out).1.trans HN1.out, hb2⟩, ?_⟩)
    have HO2 : Hid (OwnB w2 w.heap.size v2 8 z) := Lib.hid ⟨by rw [vals_snoc] at ho2; exact ho2, HZ.out⟩
    have HB2 := Lib.hid hb2
    have HS2 : w2.heap[w.heap.size]? = some (.cells (idC z) 27 (0, 0)) ∧ Below w.heap.size w w2 := ⟨(hk2 w.heap.size HL1.out HF1.out).1.trans HN1.out, hb2⟩
    clear ho2 hb2 hs2 hk2
    simp only [Act.put, List.setIfInBounds_toArray, List.set_cons_zero, List.set_cons_succ]
    refine takeY (i := 7) (some 2) (v := v2) rfl rfl (by kernel_rfl) (by kernel_rfl) (by kernel_rfl) (fun _ _ _ h => h) (by rfl) (fun w' hS => by go_simp) HS2 ?_
    simp only [Act.put, List.setIfInBounds_toArray, List.set_cons_zero, List.set_cons_succ]
    refine wpAnyH_done (by kernel_rfl) ?_ _
    go_wp2_with fail
    go_ret
    exact ⟨_, rfl, HO2.out, HB2.out⟩
end Go.Proofs.Ytfojfdlapekjoaa
