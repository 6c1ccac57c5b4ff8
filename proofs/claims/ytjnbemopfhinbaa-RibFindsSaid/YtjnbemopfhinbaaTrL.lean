/- longest of the program's trie. Each theorem states its conditions. -/
import Derived.Test.YtjnbemopfhinbaaTrD
import Derived.Deep.LoopGhost
namespace Go.Proofs.Ytjnbemopfhinbaa
open Go.RowKit
set_option linter.unusedVariables false
set_option linter.unusedSimpArgs false

/-- a node under which something stands -/
structure Fd where
  g : Nat
  n : Nat
  z : Nat → Int
  v : Int
def fptr : Option Fd → Value
  | none => .pointer none
  | some f => .pointer (some ⟨f.g, 0, none⟩)
def fbit (f : Option Fd) : Option (List Bool × Int) := f.map fun f => (btP f.n f.z, f.v)
def FdAt (w : World) (fam : Int) (f : Fd) : Prop := Bytes f.z ∧ Form fam f.n f.z ∧ ∃ a b, Blk 106 w f.g (ndC fam f.n f.z true f.v a b)
theorem FdAt.below {w w' : World} {fam : Int} {f : Fd} (h : FdAt w fam f) {B : Nat} (hb : Below B w w') (hB : f.g < B) : FdAt w' fam f := by
  obtain ⟨h1, h2, a, b, h3⟩ := h
  exact ⟨h1, h2, a, b, h3.below hb hB⟩
theorem FdAt.lt {w : World} {fam : Int} {f : Fd} (h : FdAt w fam f) : f.g < w.heap.size := by
  obtain ⟨_, _, _, _, h3⟩ := h
  exact h3.lt
/-- what longest leaves -/
def LongP (w : World) (fam : Int) (R : Option (List Bool × Int)) (e : Ending) (w' : World) : Prop :=
  ∃ f : Option Fd, e = .returned (fptr f) ∧ Below w.heap.size w w' ∧ fbit f = R ∧ ∀ x, f = some x → FdAt w fam x
def Ht.sz : Ht → Nat
  | .nil => 0
  | .nd _ _ _ _ l r => l.sz + r.sz + 1
theorem neq_nil (o : Oper) (e : Operand → Value) (x : Operand) (ho : o.op = .binOp .neq 87 x (.const (.pointer none)) 87) (g : Nat) (W : World) (hx : e x = .pointer (some ⟨g, 0, none⟩)) (hc : e (.const (.pointer none)) = .pointer none) : (execOp e o).run Try.prog W = .ok (.value (.bool true)) W := by
  unfold execOp
  simp only [ho, hx, hc]
  simp [go_sem]
set_option maxHeartbeats 16000000 in
set_option maxRecDepth 100000 in
theorem longest_any (fam : Int) (n : Nat) (z : Nat → Int) (hz : Bytes z) (hf : Form fam n z) (t : Ht) (w : World) (ht : t.At w fam) :
    Calls Try.prog 53 #[t.root, .agg (pvC fam n z)] w (LongP w fam (Tr.lng (btP n z) t.bits none)) := by
  have HZ := Lib.hid hz
  have HF := Lib.hid hf
  have HN := Lib.hid (form_len hf)
  have HT := Lib.hid ht
  clear hz hf ht
  obtain ⟨R, hR⟩ : ∃ R, Tr.lng (btP n z) t.bits none = R := ⟨_, rfl⟩
  rw [hR]
  have HR := Lib.hid hR
  clear hR
  go_enter Try.func53, Try.ntmps53
  have HB := Lib.hid (Below.refl w.heap.size w)
  obtain ⟨N1, hN1⟩ : ∃ N, w.heap.size = N := ⟨_, rfl⟩
  have HN1 := Lib.hid hN1
  clear hN1
  go_wp2_with (refine wpList_box (op := ⟨some 3, _, _, _, _, _⟩) rfl 32 (.tmp 1) rfl (pvC fam n z) rfl N1 HN1.out ?_; intro w1 k1 b1 s1; refine Hid.out ?_)
  refine Lib.hid ?_
  have K3 := Lib.hid k1
  clear k1
  have le_HB_N1 : w.heap.size ≤ N1 := by rw [← HN1.out]; exact HB.out.size
  have HBn := Lib.hid (HB.out.trans (b1.mono HB.out.size))
  clear HB
  have HB := HBn
  clear HBn
  clear b1 HN1
  go_wp2_with fail
  have HX3 : Hid (w.heap.size ≤ N1) := Lib.hid le_HB_N1
  go_loopg [0, 5] t.sz (fun k t0 t5 wr => ∃ (s : Ht) (f : Option Fd), t0 = s.root ∧ t5 = fptr f ∧ k = s.sz ∧ Hid (s.At w fam) ∧ Hid (Tr.lng (btP n z) s.bits (fbit f) = R) ∧ Hid (∀ x, f = some x → FdAt w fam x) ∧ Hid (Below w.heap.size w wr) ∧ Hid (Blk 32 wr N1 (pvC fam n z)))
  case atStart => exact ⟨t, none, rfl, rfl, rfl, HT, HR, Lib.hid (fun x hx => by cases hx), HB, K3⟩
  case round =>
    obtain ⟨s, f, rfl, rfl, hk0, hs, hr, hfd, hb, k3⟩ := hrel
    clear HB K3 HT HR
    have HB := hb
    have K3 := k3
    have HS := hs
    have HR := hr
    have HFD := hfd
    have HK := Lib.hid hk0
    clear hb k3 hs hr hfd hk0
    cases s with
    | nil =>
      have e0 : Ht.nil.root = .pointer none := rfl
      rw [e0]
      clear e0
      go_wp2
      first | (refine bodyPost_ret (v := fptr (f)) (by simp [results, Try.f53, go_sem, fptr]) rfl ?_; exact ⟨f, rfl, HB.out, HR.out, HFD.out⟩) | (exact ⟨fptr (f), by simp [results, Try.f53, go_sem, fptr], f, rfl, HB.out, HR.out, HFD.out⟩)
    | nd g0 n' z' v' l r =>
      have e0 : (Ht.nd g0 n' z' v' l r).root = .pointer (some ⟨g0, 0, none⟩) := rfl
      rw [e0]
      clear e0
      obtain ⟨hk, hz', hf', hl, hr'⟩ := HS.out
      have KN0 := Lib.hid hk
      have HZ' := Lib.hid hz'
      have HF' := Lib.hid hf'
      have HN' := Lib.hid (form_len hf')
      have HL := Lib.hid hl
      have HRR := Lib.hid hr'
      have KN := Lib.hid (hk.below HB.out hk.lt)
      have HG0 : Hid (g0 < w.heap.size) := Lib.hid hk.lt
      clear hk hz' hf' hl hr'
      go_wp2_with (refine wpList_v (op := ⟨some 7, _, _, _, _, _⟩) rfl (.bool true) (neq_nil _ _ _ rfl g0 _ rfl rfl) ?_; refine Hid.out ?_)
      refine Lib.hid ?_
      go_wp2_with (refine wpList_ld (op := ⟨some 10, _, _, _, _, _⟩) (by rfl) 32 (.tmp 3) rfl N1 0 rfl (pvC fam n z) _ K3.out.all Try.underlying32 rfl (hi_pv fam (n : Int) z) ?_; refine Hid.out ?_)
      refine Lib.hid ?_
      have HC := Lib.hid (fun W hk => covers_nd g0 fam fam (v'.getD 0) n' n z' z v'.isSome l.root r.root HZ'.out HZ.out HN'.out HN.out W hk)
      go_wp2_with fail
      refine (HC.out _ KN.out).mono ?_
      rintro e w2 ⟨rfl, b1⟩
      have K3n := Lib.hid (K3.out.below b1 K3.out.lt)
      clear K3
      have K3 := K3n
      clear K3n
      have KNn := Lib.hid (KN.out.below b1 KN.out.lt)
      clear KN
      have KN := KNn
      clear KNn
      have HBn := Lib.hid (HB.out.trans (b1.mono HB.out.size))
      clear HB
      have HB := HBn
      clear HBn
      clear b1 HC
      by_cases hc : btP n' z' <+: btP n z
      · skip
        rw [show decide (btP n' z' <+: btP n z) = true from decide_eq_true hc]
        have HC := Lib.hid hc
        clear hc
        cases v' with
        | none =>
          have KN9 : Hid (Blk 106 w2 g0 (ndC fam n' z' false 0 l.root r.root)) := KN
          clear KN
          have KN := KN9
          clear KN9
          have c18 : w2.cell? ⟨g0, 18, none⟩ = some (.bool false) := (KN.out.cell 18).trans rfl
          go_wp2_with fail
          clear c18
          have HFD2 := HFD
          have HOR : Hid (Tr.orF (btP n' z') none (fbit f) = fbit (f)) := Lib.hid rfl
          by_cases he : n = n'
          · skip
            have HE := Lib.hid he
            clear he
            refine wp_region_held_drew (S := fun w' => Blk 32 w' N1 (pvC fam n z) ∧ Blk 106 w' g0 (ndC fam n' z' false 0 l.root r.root) ∧ Below w.heap.size w w') (by kernel_rfl) ⟨K3.out, KN.out, HB.out.drew⟩ (fun hS => ?_)
            generalize hW3 : w2.drew = W3 at hS  ⊢
            clear hW3
            clear K3
            clear KN
            clear HB
            have K3 := Lib.hid hS.1
            have KN := Lib.hid hS.2.1
            have HB := Lib.hid hS.2.2
            refine takeY (i := 0) (some 18) (v := .pointer (some ⟨g0, 0, none⟩)) rfl rfl (by kernel_rfl) (by kernel_rfl) (by kernel_rfl) (fun _ _ _ h => h) (by rfl) (fun w' hS => by clear hS; go_simp) hS ?_
            simp only [Act.put, List.setIfInBounds_toArray, List.set_cons_zero, List.set_cons_succ]
            refine takeY (i := 1) (some 19) (v := .pointer (some ⟨g0, 0, none⟩)) rfl rfl (by kernel_rfl) (by kernel_rfl) (by kernel_rfl) (fun _ _ _ h => h) (by rfl) (fun w' hS => by clear hS; go_simp) hS ?_
            simp only [Act.put, List.setIfInBounds_toArray, List.set_cons_zero, List.set_cons_succ]
            refine takeY (i := 2) (some 20) (v := .pointer (some ⟨g0, 0, none⟩)) rfl rfl (by kernel_rfl) (by kernel_rfl) (by kernel_rfl) (fun _ _ _ h => h) (by rfl) (fun w' hS => by clear hS; go_simp) hS ?_
            simp only [Act.put, List.setIfInBounds_toArray, List.set_cons_zero, List.set_cons_succ]
            refine takeY (i := 3) (some 21) (v := .pointer (some ⟨g0, 1, none⟩)) rfl rfl (by kernel_rfl) (by kernel_rfl) (by kernel_rfl) (fun _ _ _ h => h) (by rfl) (fun w' hS => by clear hS; go_simp) hS ?_
            simp only [Act.put, List.setIfInBounds_toArray, List.set_cons_zero, List.set_cons_succ]
            refine takeY (i := 4) (some 22) (v := (.int .i64 (n' : Int))) rfl rfl (by kernel_rfl) (by kernel_rfl) (by kernel_rfl) (fun _ _ _ h => h) (by rfl) (fun w' hS => by (have c9 : w'.cell? ⟨g0, 1, none⟩ = some ((.int .i64 (n' : Int))) := (hS.2.1.cell 1).trans rfl; clear hS; go_simp)) hS ?_
            simp only [Act.put, List.setIfInBounds_toArray, List.set_cons_zero, List.set_cons_succ]
            refine takeY (i := 5) (some 23) (v := .pointer (some ⟨N1, 1, none⟩)) rfl rfl (by kernel_rfl) (by kernel_rfl) (by kernel_rfl) (fun _ _ _ h => h) (by rfl) (fun w' hS => by clear hS; go_simp) hS ?_
            simp only [Act.put, List.setIfInBounds_toArray, List.set_cons_zero, List.set_cons_succ]
            refine takeY (i := 6) (some 24) (v := (.int .i64 (n : Int))) rfl rfl (by kernel_rfl) (by kernel_rfl) (by kernel_rfl) (fun _ _ _ h => h) (by rfl) (fun w' hS => by (have c9 : w'.cell? ⟨N1, 1, none⟩ = some ((.int .i64 (n : Int))) := (hS.1.cell 1).trans rfl; clear hS; go_simp)) hS ?_
            simp only [Act.put, List.setIfInBounds_toArray, List.set_cons_zero, List.set_cons_succ]
            refine takeY (i := 7) (some 25) (v := .bool true) rfl rfl (by kernel_rfl) (by kernel_rfl) (by kernel_rfl) (fun _ _ _ h => h) (by rfl) (fun w' hS => by clear hS; refine (eqN_run _ _ _ _ rfl n' n rfl rfl _).trans ?_; rw [show decide (n' = n) = true from decide_eq_true HE.out.symm]) hS ?_
            simp only [Act.put, List.setIfInBounds_toArray, List.set_cons_zero, List.set_cons_succ]
            clear hS
            refine wpAnyH_done (by kernel_rfl) ?_ _
            have hfin : fbit (f) = R := by
              have h1 := HR.out
              rw [Ht.bits, Tr.lng, if_pos HC.out, if_pos (by rw [btP_len, btP_len]; exact HE.out.symm), HOR.out] at h1
              exact h1
            have HFIN := Lib.hid hfin
            clear hfin
            go_wp2
            first | (refine bodyPost_ret (v := fptr (f)) (by simp [results, Try.f53, go_sem, fptr]) rfl ?_; exact ⟨f, rfl, HB.out, HFIN.out, HFD2.out⟩) | (exact ⟨fptr (f), by simp [results, Try.f53, go_sem, fptr], f, rfl, HB.out, HFIN.out, HFD2.out⟩)
          · skip
            have HE := Lib.hid he
            clear he
            refine wp_region_held_drew (S := fun w' => Blk 32 w' N1 (pvC fam n z) ∧ Blk 106 w' g0 (ndC fam n' z' false 0 l.root r.root) ∧ Below w.heap.size w w') (by kernel_rfl) ⟨K3.out, KN.out, HB.out.drew⟩ (fun hS => ?_)
            generalize hW3 : w2.drew = W3 at hS  ⊢
            clear hW3
            clear K3
            clear KN
            clear HB
            have K3 := Lib.hid hS.1
            have KN := Lib.hid hS.2.1
            have HB := Lib.hid hS.2.2
            refine takeY (i := 0) (some 18) (v := .pointer (some ⟨g0, 0, none⟩)) rfl rfl (by kernel_rfl) (by kernel_rfl) (by kernel_rfl) (fun _ _ _ h => h) (by rfl) (fun w' hS => by clear hS; go_simp) hS ?_
            simp only [Act.put, List.setIfInBounds_toArray, List.set_cons_zero, List.set_cons_succ]
            refine takeY (i := 1) (some 19) (v := .pointer (some ⟨g0, 0, none⟩)) rfl rfl (by kernel_rfl) (by kernel_rfl) (by kernel_rfl) (fun _ _ _ h => h) (by rfl) (fun w' hS => by clear hS; go_simp) hS ?_
            simp only [Act.put, List.setIfInBounds_toArray, List.set_cons_zero, List.set_cons_succ]
            refine takeY (i := 2) (some 20) (v := .pointer (some ⟨g0, 0, none⟩)) rfl rfl (by kernel_rfl) (by kernel_rfl) (by kernel_rfl) (fun _ _ _ h => h) (by rfl) (fun w' hS => by clear hS; go_simp) hS ?_
            simp only [Act.put, List.setIfInBounds_toArray, List.set_cons_zero, List.set_cons_succ]
            refine takeY (i := 3) (some 21) (v := .pointer (some ⟨g0, 1, none⟩)) rfl rfl (by kernel_rfl) (by kernel_rfl) (by kernel_rfl) (fun _ _ _ h => h) (by rfl) (fun w' hS => by clear hS; go_simp) hS ?_
            simp only [Act.put, List.setIfInBounds_toArray, List.set_cons_zero, List.set_cons_succ]
            refine takeY (i := 4) (some 22) (v := (.int .i64 (n' : Int))) rfl rfl (by kernel_rfl) (by kernel_rfl) (by kernel_rfl) (fun _ _ _ h => h) (by rfl) (fun w' hS => by (have c9 : w'.cell? ⟨g0, 1, none⟩ = some ((.int .i64 (n' : Int))) := (hS.2.1.cell 1).trans rfl; clear hS; go_simp)) hS ?_
            simp only [Act.put, List.setIfInBounds_toArray, List.set_cons_zero, List.set_cons_succ]
            refine takeY (i := 5) (some 23) (v := .pointer (some ⟨N1, 1, none⟩)) rfl rfl (by kernel_rfl) (by kernel_rfl) (by kernel_rfl) (fun _ _ _ h => h) (by rfl) (fun w' hS => by clear hS; go_simp) hS ?_
            simp only [Act.put, List.setIfInBounds_toArray, List.set_cons_zero, List.set_cons_succ]
            refine takeY (i := 6) (some 24) (v := (.int .i64 (n : Int))) rfl rfl (by kernel_rfl) (by kernel_rfl) (by kernel_rfl) (fun _ _ _ h => h) (by rfl) (fun w' hS => by (have c9 : w'.cell? ⟨N1, 1, none⟩ = some ((.int .i64 (n : Int))) := (hS.1.cell 1).trans rfl; clear hS; go_simp)) hS ?_
            simp only [Act.put, List.setIfInBounds_toArray, List.set_cons_zero, List.set_cons_succ]
            refine takeY (i := 7) (some 25) (v := .bool false) rfl rfl (by kernel_rfl) (by kernel_rfl) (by kernel_rfl) (fun _ _ _ h => h) (by rfl) (fun w' hS => by clear hS; refine (eqN_run _ _ _ _ rfl n' n rfl rfl _).trans ?_; rw [show decide (n' = n) = false from decide_eq_false (fun e => HE.out e.symm)]) hS ?_
            simp only [Act.put, List.setIfInBounds_toArray, List.set_cons_zero, List.set_cons_succ]
            clear hS
            refine wpAnyH_done (by kernel_rfl) ?_ _
            have hlt : n' < n := by have := HC.out.length_le; rw [btP_len, btP_len] at this; have := HE.out; omega
            have HSD := Lib.hid (fun W hk => side_nd g0 fam fam (0) n' n z' z false l.root r.root HZ.out hlt HN.out W hk)
            clear hlt
            cases hsd : Tr.side (btP n z) n' with
            | false =>
              rw [hsd] at HSD
              have HSS := Lib.hid hsd
              clear hsd
              go_wp2_with fail
              refine wp_region_held_drew (S := fun w' => Blk 32 w' N1 (pvC fam n z) ∧ Blk 106 w' g0 (ndC fam n' z' false 0 l.root r.root) ∧ Below w.heap.size w w') (by kernel_rfl) ⟨K3.out, KN.out, HB.out.drew⟩ (fun hS => ?_)
              generalize hW4 : W3.drew = W4 at hS  ⊢
              clear hW4
              clear K3
              clear KN
              clear HB
              have K3 := Lib.hid hS.1
              have KN := Lib.hid hS.2.1
              have HB := Lib.hid hS.2.2
              refine takeY (i := 0) (some 26) (v := .pointer (some ⟨g0, 0, none⟩)) rfl rfl (by kernel_rfl) (by kernel_rfl) (by kernel_rfl) (fun _ _ _ h => h) (by rfl) (fun w' hS => by clear hS; go_simp) hS ?_
              simp only [Act.put, List.setIfInBounds_toArray, List.set_cons_zero, List.set_cons_succ]
              refine takeY (i := 1) (some 27) (v := .pointer (some ⟨g0, 0, none⟩)) rfl rfl (by kernel_rfl) (by kernel_rfl) (by kernel_rfl) (fun _ _ _ h => h) (by rfl) (fun w' hS => by clear hS; go_simp) hS ?_
              simp only [Act.put, List.setIfInBounds_toArray, List.set_cons_zero, List.set_cons_succ]
              refine takeL (i := 2) (some 28) 32 (.tmp 3) N1 0 (pvC fam n z) _ rfl rfl (by kernel_rfl) (by kernel_rfl) (by kernel_rfl) (fun _ _ _ h => h) (by rfl) rfl rfl (fun w' hS => hS.1.all) Try.underlying32 rfl (hi_pv fam (n : Int) z) hS ?_
              simp only [Act.put, List.setIfInBounds_toArray, List.set_cons_zero, List.set_cons_succ]
              refine takeY (i := 4) (some 30) (v := .pointer (some ⟨g0, 0, none⟩)) rfl rfl (by kernel_rfl) (by kernel_rfl) (by kernel_rfl) (fun _ _ _ h => h) (by rfl) (fun w' hS => by clear hS; go_simp) hS ?_
              simp only [Act.put, List.setIfInBounds_toArray, List.set_cons_zero, List.set_cons_succ]
              refine takeY (i := 5) (some 31) (v := .pointer (some ⟨g0, 20, none⟩)) rfl rfl (by kernel_rfl) (by kernel_rfl) (by kernel_rfl) (fun _ _ _ h => h) (by rfl) (fun w' hS => by clear hS; go_simp) hS ?_
              simp only [Act.put, List.setIfInBounds_toArray, List.set_cons_zero, List.set_cons_succ]
              refine takeC (i := 3) (some 29) 74 #[.pointer (some ⟨g0, 0, none⟩), .agg (pvC fam n z)] (.int .u8 0) (R := fun w' => Below W4.heap.size W4 w') rfl rfl (by kernel_rfl) (by rfl) (by go_simp) (HSD.out _ KN.out) (fun w' hb => ⟨hS.1.below hb hS.1.lt, hS.2.1.below hb hS.2.1.lt, hS.2.2.trans (hb.mono hS.2.2.size)⟩) (fun W5 hb1 hS2 => ?_)
              simp only [Act.put, List.setIfInBounds_toArray, List.set_cons_zero, List.set_cons_succ]
              clear K3
              clear KN
              clear HB
              clear hS hb1
              have hS := hS2
              clear hS2
              have K3 := Lib.hid hS.1
              have KN := Lib.hid hS.2.1
              have HB := Lib.hid hS.2.2
              refine takeY (i := 6) (some 32) (v := .pointer (some ⟨g0, 20, none⟩)) rfl rfl (by kernel_rfl) (by kernel_rfl) (by kernel_rfl) (fun _ _ _ h => h) (by rfl) (fun w' hS => by clear hS; go_simp) hS ?_
              simp only [Act.put, List.setIfInBounds_toArray, List.set_cons_zero, List.set_cons_succ]
              refine takeY (i := 7) (some 33) (v := l.root) rfl rfl (by kernel_rfl) (by kernel_rfl) (by kernel_rfl) (fun _ _ _ h => h) (by rfl) (fun w' hS => by (refine load_ptr _ _ _ rfl g0 20 rfl l ?_; exact (hS.2.1.cell 20).trans rfl)) hS ?_
              simp only [Act.put, List.setIfInBounds_toArray, List.set_cons_zero, List.set_cons_succ]
              refine takeY (i := 8) (some 0) (v := l.root) rfl rfl (by kernel_rfl) (by kernel_rfl) (by kernel_rfl) (fun _ _ _ h => h) (by rfl) (fun w' hS => by clear hS; go_simp) hS ?_
              simp only [Act.put, List.setIfInBounds_toArray, List.set_cons_zero, List.set_cons_succ]
              clear hS
              refine wpAnyH_done (by kernel_rfl) ?_ _
              have hfin : Tr.lng (btP n z) l.bits (fbit (f)) = R := by
                have h1 := HR.out
                rw [Ht.bits, Tr.lng, if_pos HC.out, if_neg (by rw [btP_len, btP_len]; exact fun e => HE.out e.symm), btP_len, if_neg (by rw [HSS.out]; decide), HOR.out] at h1
                exact h1
              have HFIN := Lib.hid hfin
              clear hfin
              go_wp2
              go_roundg l.sz
              case measure => rw [HK.out, Ht.sz]; omega
              case rel => exact ⟨l, f, rfl, rfl, rfl, HL, HFIN, HFD2, HB, K3⟩
            | true =>
              rw [hsd] at HSD
              have HSS := Lib.hid hsd
              clear hsd
              go_wp2_with fail
              refine wp_region_held_drew (S := fun w' => Blk 32 w' N1 (pvC fam n z) ∧ Blk 106 w' g0 (ndC fam n' z' false 0 l.root r.root) ∧ Below w.heap.size w w') (by kernel_rfl) ⟨K3.out, KN.out, HB.out.drew⟩ (fun hS => ?_)
              generalize hW4 : W3.drew = W4 at hS  ⊢
              clear hW4
              clear K3
              clear KN
              clear HB
              have K3 := Lib.hid hS.1
              have KN := Lib.hid hS.2.1
              have HB := Lib.hid hS.2.2
              refine takeY (i := 0) (some 26) (v := .pointer (some ⟨g0, 0, none⟩)) rfl rfl (by kernel_rfl) (by kernel_rfl) (by kernel_rfl) (fun _ _ _ h => h) (by rfl) (fun w' hS => by clear hS; go_simp) hS ?_
              simp only [Act.put, List.setIfInBounds_toArray, List.set_cons_zero, List.set_cons_succ]
              refine takeY (i := 1) (some 27) (v := .pointer (some ⟨g0, 0, none⟩)) rfl rfl (by kernel_rfl) (by kernel_rfl) (by kernel_rfl) (fun _ _ _ h => h) (by rfl) (fun w' hS => by clear hS; go_simp) hS ?_
              simp only [Act.put, List.setIfInBounds_toArray, List.set_cons_zero, List.set_cons_succ]
              refine takeL (i := 2) (some 28) 32 (.tmp 3) N1 0 (pvC fam n z) _ rfl rfl (by kernel_rfl) (by kernel_rfl) (by kernel_rfl) (fun _ _ _ h => h) (by rfl) rfl rfl (fun w' hS => hS.1.all) Try.underlying32 rfl (hi_pv fam (n : Int) z) hS ?_
              simp only [Act.put, List.setIfInBounds_toArray, List.set_cons_zero, List.set_cons_succ]
              refine takeY (i := 4) (some 30) (v := .pointer (some ⟨g0, 0, none⟩)) rfl rfl (by kernel_rfl) (by kernel_rfl) (by kernel_rfl) (fun _ _ _ h => h) (by rfl) (fun w' hS => by clear hS; go_simp) hS ?_
              simp only [Act.put, List.setIfInBounds_toArray, List.set_cons_zero, List.set_cons_succ]
              refine takeY (i := 5) (some 31) (v := .pointer (some ⟨g0, 20, none⟩)) rfl rfl (by kernel_rfl) (by kernel_rfl) (by kernel_rfl) (fun _ _ _ h => h) (by rfl) (fun w' hS => by clear hS; go_simp) hS ?_
              simp only [Act.put, List.setIfInBounds_toArray, List.set_cons_zero, List.set_cons_succ]
              refine takeC (i := 3) (some 29) 74 #[.pointer (some ⟨g0, 0, none⟩), .agg (pvC fam n z)] (.int .u8 1) (R := fun w' => Below W4.heap.size W4 w') rfl rfl (by kernel_rfl) (by rfl) (by go_simp) (HSD.out _ KN.out) (fun w' hb => ⟨hS.1.below hb hS.1.lt, hS.2.1.below hb hS.2.1.lt, hS.2.2.trans (hb.mono hS.2.2.size)⟩) (fun W5 hb1 hS2 => ?_)
              simp only [Act.put, List.setIfInBounds_toArray, List.set_cons_zero, List.set_cons_succ]
              clear K3
              clear KN
              clear HB
              clear hS hb1
              have hS := hS2
              clear hS2
              have K3 := Lib.hid hS.1
              have KN := Lib.hid hS.2.1
              have HB := Lib.hid hS.2.2
              refine takeY (i := 6) (some 32) (v := .pointer (some ⟨g0, 21, none⟩)) rfl rfl (by kernel_rfl) (by kernel_rfl) (by kernel_rfl) (fun _ _ _ h => h) (by rfl) (fun w' hS => by clear hS; go_simp) hS ?_
              simp only [Act.put, List.setIfInBounds_toArray, List.set_cons_zero, List.set_cons_succ]
              refine takeY (i := 7) (some 33) (v := r.root) rfl rfl (by kernel_rfl) (by kernel_rfl) (by kernel_rfl) (fun _ _ _ h => h) (by rfl) (fun w' hS => by (refine load_ptr _ _ _ rfl g0 21 rfl r ?_; exact (hS.2.1.cell 21).trans rfl)) hS ?_
              simp only [Act.put, List.setIfInBounds_toArray, List.set_cons_zero, List.set_cons_succ]
              refine takeY (i := 8) (some 0) (v := r.root) rfl rfl (by kernel_rfl) (by kernel_rfl) (by kernel_rfl) (fun _ _ _ h => h) (by rfl) (fun w' hS => by clear hS; go_simp) hS ?_
              simp only [Act.put, List.setIfInBounds_toArray, List.set_cons_zero, List.set_cons_succ]
              clear hS
              refine wpAnyH_done (by kernel_rfl) ?_ _
              have hfin : Tr.lng (btP n z) r.bits (fbit (f)) = R := by
                have h1 := HR.out
                rw [Ht.bits, Tr.lng, if_pos HC.out, if_neg (by rw [btP_len, btP_len]; exact fun e => HE.out e.symm), btP_len, if_pos HSS.out, HOR.out] at h1
                exact h1
              have HFIN := Lib.hid hfin
              clear hfin
              go_wp2
              go_roundg r.sz
              case measure => rw [HK.out, Ht.sz]; omega
              case rel => exact ⟨r, f, rfl, rfl, rfl, HRR, HFIN, HFD2, HB, K3⟩
        | some x =>
          have KN9 : Hid (Blk 106 w2 g0 (ndC fam n' z' true x l.root r.root)) := KN
          clear KN
          have KN := KN9
          clear KN9
          have c18 : w2.cell? ⟨g0, 18, none⟩ = some (.bool true) := (KN.out.cell 18).trans rfl
          go_wp2_with fail
          clear c18
          have HFD2 : Hid (∀ y, (some (⟨g0, n', z', x⟩ : Fd)) = some y → FdAt w fam y) := Lib.hid (fun y hy => by cases hy; exact ⟨HZ'.out, HF'.out, _, _, KN0.out⟩)
          have HOR : Hid (Tr.orF (btP n' z') (some x) (fbit f) = fbit (some ⟨g0, n', z', x⟩)) := Lib.hid rfl
          by_cases he : n = n'
          · skip
            have HE := Lib.hid he
            clear he
            refine wp_region_held_drew (S := fun w' => Blk 32 w' N1 (pvC fam n z) ∧ Blk 106 w' g0 (ndC fam n' z' true x l.root r.root) ∧ Below w.heap.size w w') (by kernel_rfl) ⟨K3.out, KN.out, HB.out.drew⟩ (fun hS => ?_)
            generalize hW3 : w2.drew = W3 at hS  ⊢
            clear hW3
            clear K3
            clear KN
            clear HB
            have K3 := Lib.hid hS.1
            have KN := Lib.hid hS.2.1
            have HB := Lib.hid hS.2.2
            refine takeY (i := 0) (some 18) (v := .pointer (some ⟨g0, 0, none⟩)) rfl rfl (by kernel_rfl) (by kernel_rfl) (by kernel_rfl) (fun _ _ _ h => h) (by rfl) (fun w' hS => by clear hS; go_simp) hS ?_
            simp only [Act.put, List.setIfInBounds_toArray, List.set_cons_zero, List.set_cons_succ]
            refine takeY (i := 1) (some 19) (v := .pointer (some ⟨g0, 0, none⟩)) rfl rfl (by kernel_rfl) (by kernel_rfl) (by kernel_rfl) (fun _ _ _ h => h) (by rfl) (fun w' hS => by clear hS; go_simp) hS ?_
            simp only [Act.put, List.setIfInBounds_toArray, List.set_cons_zero, List.set_cons_succ]
            refine takeY (i := 2) (some 20) (v := .pointer (some ⟨g0, 0, none⟩)) rfl rfl (by kernel_rfl) (by kernel_rfl) (by kernel_rfl) (fun _ _ _ h => h) (by rfl) (fun w' hS => by clear hS; go_simp) hS ?_
            simp only [Act.put, List.setIfInBounds_toArray, List.set_cons_zero, List.set_cons_succ]
            refine takeY (i := 3) (some 21) (v := .pointer (some ⟨g0, 1, none⟩)) rfl rfl (by kernel_rfl) (by kernel_rfl) (by kernel_rfl) (fun _ _ _ h => h) (by rfl) (fun w' hS => by clear hS; go_simp) hS ?_
            simp only [Act.put, List.setIfInBounds_toArray, List.set_cons_zero, List.set_cons_succ]
            refine takeY (i := 4) (some 22) (v := (.int .i64 (n' : Int))) rfl rfl (by kernel_rfl) (by kernel_rfl) (by kernel_rfl) (fun _ _ _ h => h) (by rfl) (fun w' hS => by (have c9 : w'.cell? ⟨g0, 1, none⟩ = some ((.int .i64 (n' : Int))) := (hS.2.1.cell 1).trans rfl; clear hS; go_simp)) hS ?_
            simp only [Act.put, List.setIfInBounds_toArray, List.set_cons_zero, List.set_cons_succ]
            refine takeY (i := 5) (some 23) (v := .pointer (some ⟨N1, 1, none⟩)) rfl rfl (by kernel_rfl) (by kernel_rfl) (by kernel_rfl) (fun _ _ _ h => h) (by rfl) (fun w' hS => by clear hS; go_simp) hS ?_
            simp only [Act.put, List.setIfInBounds_toArray, List.set_cons_zero, List.set_cons_succ]
            refine takeY (i := 6) (some 24) (v := (.int .i64 (n : Int))) rfl rfl (by kernel_rfl) (by kernel_rfl) (by kernel_rfl) (fun _ _ _ h => h) (by rfl) (fun w' hS => by (have c9 : w'.cell? ⟨N1, 1, none⟩ = some ((.int .i64 (n : Int))) := (hS.1.cell 1).trans rfl; clear hS; go_simp)) hS ?_
            simp only [Act.put, List.setIfInBounds_toArray, List.set_cons_zero, List.set_cons_succ]
            refine takeY (i := 7) (some 25) (v := .bool true) rfl rfl (by kernel_rfl) (by kernel_rfl) (by kernel_rfl) (fun _ _ _ h => h) (by rfl) (fun w' hS => by clear hS; refine (eqN_run _ _ _ _ rfl n' n rfl rfl _).trans ?_; rw [show decide (n' = n) = true from decide_eq_true HE.out.symm]) hS ?_
            simp only [Act.put, List.setIfInBounds_toArray, List.set_cons_zero, List.set_cons_succ]
            clear hS
            refine wpAnyH_done (by kernel_rfl) ?_ _
            have hfin : fbit (some ⟨g0, n', z', x⟩) = R := by
              have h1 := HR.out
              rw [Ht.bits, Tr.lng, if_pos HC.out, if_pos (by rw [btP_len, btP_len]; exact HE.out.symm), HOR.out] at h1
              exact h1
            have HFIN := Lib.hid hfin
            clear hfin
            go_wp2
            first | (refine bodyPost_ret (v := fptr (some ⟨g0, n', z', x⟩)) (by simp [results, Try.f53, go_sem, fptr]) rfl ?_; exact ⟨some ⟨g0, n', z', x⟩, rfl, HB.out, HFIN.out, HFD2.out⟩) | (exact ⟨fptr (some ⟨g0, n', z', x⟩), by simp [results, Try.f53, go_sem, fptr], some ⟨g0, n', z', x⟩, rfl, HB.out, HFIN.out, HFD2.out⟩)
          · skip
            have HE := Lib.hid he
            clear he
            refine wp_region_held_drew (S := fun w' => Blk 32 w' N1 (pvC fam n z) ∧ Blk 106 w' g0 (ndC fam n' z' true x l.root r.root) ∧ Below w.heap.size w w') (by kernel_rfl) ⟨K3.out, KN.out, HB.out.drew⟩ (fun hS => ?_)
            generalize hW3 : w2.drew = W3 at hS  ⊢
            clear hW3
            clear K3
            clear KN
            clear HB
            have K3 := Lib.hid hS.1
            have KN := Lib.hid hS.2.1
            have HB := Lib.hid hS.2.2
            refine takeY (i := 0) (some 18) (v := .pointer (some ⟨g0, 0, none⟩)) rfl rfl (by kernel_rfl) (by kernel_rfl) (by kernel_rfl) (fun _ _ _ h => h) (by rfl) (fun w' hS => by clear hS; go_simp) hS ?_
            simp only [Act.put, List.setIfInBounds_toArray, List.set_cons_zero, List.set_cons_succ]
            refine takeY (i := 1) (some 19) (v := .pointer (some ⟨g0, 0, none⟩)) rfl rfl (by kernel_rfl) (by kernel_rfl) (by kernel_rfl) (fun _ _ _ h => h) (by rfl) (fun w' hS => by clear hS; go_simp) hS ?_
            simp only [Act.put, List.setIfInBounds_toArray, List.set_cons_zero, List.set_cons_succ]
            refine takeY (i := 2) (some 20) (v := .pointer (some ⟨g0, 0, none⟩)) rfl rfl (by kernel_rfl) (by kernel_rfl) (by kernel_rfl) (fun _ _ _ h => h) (by rfl) (fun w' hS => by clear hS; go_simp) hS ?_
            simp only [Act.put, List.setIfInBounds_toArray, List.set_cons_zero, List.set_cons_succ]
            refine takeY (i := 3) (some 21) (v := .pointer (some ⟨g0, 1, none⟩)) rfl rfl (by kernel_rfl) (by kernel_rfl) (by kernel_rfl) (fun _ _ _ h => h) (by rfl) (fun w' hS => by clear hS; go_simp) hS ?_
            simp only [Act.put, List.setIfInBounds_toArray, List.set_cons_zero, List.set_cons_succ]
            refine takeY (i := 4) (some 22) (v := (.int .i64 (n' : Int))) rfl rfl (by kernel_rfl) (by kernel_rfl) (by kernel_rfl) (fun _ _ _ h => h) (by rfl) (fun w' hS => by (have c9 : w'.cell? ⟨g0, 1, none⟩ = some ((.int .i64 (n' : Int))) := (hS.2.1.cell 1).trans rfl; clear hS; go_simp)) hS ?_
            simp only [Act.put, List.setIfInBounds_toArray, List.set_cons_zero, List.set_cons_succ]
            refine takeY (i := 5) (some 23) (v := .pointer (some ⟨N1, 1, none⟩)) rfl rfl (by kernel_rfl) (by kernel_rfl) (by kernel_rfl) (fun _ _ _ h => h) (by rfl) (fun w' hS => by clear hS; go_simp) hS ?_
            simp only [Act.put, List.setIfInBounds_toArray, List.set_cons_zero, List.set_cons_succ]
            refine takeY (i := 6) (some 24) (v := (.int .i64 (n : Int))) rfl rfl (by kernel_rfl) (by kernel_rfl) (by kernel_rfl) (fun _ _ _ h => h) (by rfl) (fun w' hS => by (have c9 : w'.cell? ⟨N1, 1, none⟩ = some ((.int .i64 (n : Int))) := (hS.1.cell 1).trans rfl; clear hS; go_simp)) hS ?_
            simp only [Act.put, List.setIfInBounds_toArray, List.set_cons_zero, List.set_cons_succ]
            refine takeY (i := 7) (some 25) (v := .bool false) rfl rfl (by kernel_rfl) (by kernel_rfl) (by kernel_rfl) (fun _ _ _ h => h) (by rfl) (fun w' hS => by clear hS; refine (eqN_run _ _ _ _ rfl n' n rfl rfl _).trans ?_; rw [show decide (n' = n) = false from decide_eq_false (fun e => HE.out e.symm)]) hS ?_
            simp only [Act.put, List.setIfInBounds_toArray, List.set_cons_zero, List.set_cons_succ]
            clear hS
            refine wpAnyH_done (by kernel_rfl) ?_ _
            have hlt : n' < n := by have := HC.out.length_le; rw [btP_len, btP_len] at this; have := HE.out; omega
            have HSD := Lib.hid (fun W hk => side_nd g0 fam fam (x) n' n z' z true l.root r.root HZ.out hlt HN.out W hk)
            clear hlt
            cases hsd : Tr.side (btP n z) n' with
            | false =>
              rw [hsd] at HSD
              have HSS := Lib.hid hsd
              clear hsd
              go_wp2_with fail
              refine wp_region_held_drew (S := fun w' => Blk 32 w' N1 (pvC fam n z) ∧ Blk 106 w' g0 (ndC fam n' z' true x l.root r.root) ∧ Below w.heap.size w w') (by kernel_rfl) ⟨K3.out, KN.out, HB.out.drew⟩ (fun hS => ?_)
              generalize hW4 : W3.drew = W4 at hS  ⊢
              clear hW4
              clear K3
              clear KN
              clear HB
              have K3 := Lib.hid hS.1
              have KN := Lib.hid hS.2.1
              have HB := Lib.hid hS.2.2
              refine takeY (i := 0) (some 26) (v := .pointer (some ⟨g0, 0, none⟩)) rfl rfl (by kernel_rfl) (by kernel_rfl) (by kernel_rfl) (fun _ _ _ h => h) (by rfl) (fun w' hS => by clear hS; go_simp) hS ?_
              simp only [Act.put, List.setIfInBounds_toArray, List.set_cons_zero, List.set_cons_succ]
              refine takeY (i := 1) (some 27) (v := .pointer (some ⟨g0, 0, none⟩)) rfl rfl (by kernel_rfl) (by kernel_rfl) (by kernel_rfl) (fun _ _ _ h => h) (by rfl) (fun w' hS => by clear hS; go_simp) hS ?_
              simp only [Act.put, List.setIfInBounds_toArray, List.set_cons_zero, List.set_cons_succ]
              refine takeL (i := 2) (some 28) 32 (.tmp 3) N1 0 (pvC fam n z) _ rfl rfl (by kernel_rfl) (by kernel_rfl) (by kernel_rfl) (fun _ _ _ h => h) (by rfl) rfl rfl (fun w' hS => hS.1.all) Try.underlying32 rfl (hi_pv fam (n : Int) z) hS ?_
              simp only [Act.put, List.setIfInBounds_toArray, List.set_cons_zero, List.set_cons_succ]
              refine takeY (i := 4) (some 30) (v := .pointer (some ⟨g0, 0, none⟩)) rfl rfl (by kernel_rfl) (by kernel_rfl) (by kernel_rfl) (fun _ _ _ h => h) (by rfl) (fun w' hS => by clear hS; go_simp) hS ?_
              simp only [Act.put, List.setIfInBounds_toArray, List.set_cons_zero, List.set_cons_succ]
              refine takeY (i := 5) (some 31) (v := .pointer (some ⟨g0, 20, none⟩)) rfl rfl (by kernel_rfl) (by kernel_rfl) (by kernel_rfl) (fun _ _ _ h => h) (by rfl) (fun w' hS => by clear hS; go_simp) hS ?_
              simp only [Act.put, List.setIfInBounds_toArray, List.set_cons_zero, List.set_cons_succ]
              refine takeC (i := 3) (some 29) 74 #[.pointer (some ⟨g0, 0, none⟩), .agg (pvC fam n z)] (.int .u8 0) (R := fun w' => Below W4.heap.size W4 w') rfl rfl (by kernel_rfl) (by rfl) (by go_simp) (HSD.out _ KN.out) (fun w' hb => ⟨hS.1.below hb hS.1.lt, hS.2.1.below hb hS.2.1.lt, hS.2.2.trans (hb.mono hS.2.2.size)⟩) (fun W5 hb1 hS2 => ?_)
              simp only [Act.put, List.setIfInBounds_toArray, List.set_cons_zero, List.set_cons_succ]
              clear K3
              clear KN
              clear HB
              clear hS hb1
              have hS := hS2
              clear hS2
              have K3 := Lib.hid hS.1
              have KN := Lib.hid hS.2.1
              have HB := Lib.hid hS.2.2
              refine takeY (i := 6) (some 32) (v := .pointer (some ⟨g0, 20, none⟩)) rfl rfl (by kernel_rfl) (by kernel_rfl) (by kernel_rfl) (fun _ _ _ h => h) (by rfl) (fun w' hS => by clear hS; go_simp) hS ?_
              simp only [Act.put, List.setIfInBounds_toArray, List.set_cons_zero, List.set_cons_succ]
              refine takeY (i := 7) (some 33) (v := l.root) rfl rfl (by kernel_rfl) (by kernel_rfl) (by kernel_rfl) (fun _ _ _ h => h) (by rfl) (fun w' hS => by (refine load_ptr _ _ _ rfl g0 20 rfl l ?_; exact (hS.2.1.cell 20).trans rfl)) hS ?_
              simp only [Act.put, List.setIfInBounds_toArray, List.set_cons_zero, List.set_cons_succ]
              refine takeY (i := 8) (some 0) (v := l.root) rfl rfl (by kernel_rfl) (by kernel_rfl) (by kernel_rfl) (fun _ _ _ h => h) (by rfl) (fun w' hS => by clear hS; go_simp) hS ?_
              simp only [Act.put, List.setIfInBounds_toArray, List.set_cons_zero, List.set_cons_succ]
              clear hS
              refine wpAnyH_done (by kernel_rfl) ?_ _
              have hfin : Tr.lng (btP n z) l.bits (fbit (some ⟨g0, n', z', x⟩)) = R := by
                have h1 := HR.out
                rw [Ht.bits, Tr.lng, if_pos HC.out, if_neg (by rw [btP_len, btP_len]; exact fun e => HE.out e.symm), btP_len, if_neg (by rw [HSS.out]; decide), HOR.out] at h1
                exact h1
              have HFIN := Lib.hid hfin
              clear hfin
              go_wp2
              go_roundg l.sz
              case measure => rw [HK.out, Ht.sz]; omega
              case rel => exact ⟨l, some ⟨g0, n', z', x⟩, rfl, rfl, rfl, HL, HFIN, HFD2, HB, K3⟩
            | true =>
              rw [hsd] at HSD
              have HSS := Lib.hid hsd
              clear hsd
              go_wp2_with fail
              refine wp_region_held_drew (S := fun w' => Blk 32 w' N1 (pvC fam n z) ∧ Blk 106 w' g0 (ndC fam n' z' true x l.root r.root) ∧ Below w.heap.size w w') (by kernel_rfl) ⟨K3.out, KN.out, HB.out.drew⟩ (fun hS => ?_)
              generalize hW4 : W3.drew = W4 at hS  ⊢
              clear hW4
              clear K3
              clear KN
              clear HB
              have K3 := Lib.hid hS.1
              have KN := Lib.hid hS.2.1
              have HB := Lib.hid hS.2.2
              refine takeY (i := 0) (some 26) (v := .pointer (some ⟨g0, 0, none⟩)) rfl rfl (by kernel_rfl) (by kernel_rfl) (by kernel_rfl) (fun _ _ _ h => h) (by rfl) (fun w' hS => by clear hS; go_simp) hS ?_
              simp only [Act.put, List.setIfInBounds_toArray, List.set_cons_zero, List.set_cons_succ]
              refine takeY (i := 1) (some 27) (v := .pointer (some ⟨g0, 0, none⟩)) rfl rfl (by kernel_rfl) (by kernel_rfl) (by kernel_rfl) (fun _ _ _ h => h) (by rfl) (fun w' hS => by clear hS; go_simp) hS ?_
              simp only [Act.put, List.setIfInBounds_toArray, List.set_cons_zero, List.set_cons_succ]
              refine takeL (i := 2) (some 28) 32 (.tmp 3) N1 0 (pvC fam n z) _ rfl rfl (by kernel_rfl) (by kernel_rfl) (by kernel_rfl) (fun _ _ _ h => h) (by rfl) rfl rfl (fun w' hS => hS.1.all) Try.underlying32 rfl (hi_pv fam (n : Int) z) hS ?_
              simp only [Act.put, List.setIfInBounds_toArray, List.set_cons_zero, List.set_cons_succ]
              refine takeY (i := 4) (some 30) (v := .pointer (some ⟨g0, 0, none⟩)) rfl rfl (by kernel_rfl) (by kernel_rfl) (by kernel_rfl) (fun _ _ _ h => h) (by rfl) (fun w' hS => by clear hS; go_simp) hS ?_
              simp only [Act.put, List.setIfInBounds_toArray, List.set_cons_zero, List.set_cons_succ]
              refine takeY (i := 5) (some 31) (v := .pointer (some ⟨g0, 20, none⟩)) rfl rfl (by kernel_rfl) (by kernel_rfl) (by kernel_rfl) (fun _ _ _ h => h) (by rfl) (fun w' hS => by clear hS; go_simp) hS ?_
              simp only [Act.put, List.setIfInBounds_toArray, List.set_cons_zero, List.set_cons_succ]
              refine takeC (i := 3) (some 29) 74 #[.pointer (some ⟨g0, 0, none⟩), .agg (pvC fam n z)] (.int .u8 1) (R := fun w' => Below W4.heap.size W4 w') rfl rfl (by kernel_rfl) (by rfl) (by go_simp) (HSD.out _ KN.out) (fun w' hb => ⟨hS.1.below hb hS.1.lt, hS.2.1.below hb hS.2.1.lt, hS.2.2.trans (hb.mono hS.2.2.size)⟩) (fun W5 hb1 hS2 => ?_)
              simp only [Act.put, List.setIfInBounds_toArray, List.set_cons_zero, List.set_cons_succ]
              clear K3
              clear KN
              clear HB
              clear hS hb1
              have hS := hS2
              clear hS2
              have K3 := Lib.hid hS.1
              have KN := Lib.hid hS.2.1
              have HB := Lib.hid hS.2.2
              refine takeY (i := 6) (some 32) (v := .pointer (some ⟨g0, 21, none⟩)) rfl rfl (by kernel_rfl) (by kernel_rfl) (by kernel_rfl) (fun _ _ _ h => h) (by rfl) (fun w' hS => by clear hS; go_simp) hS ?_
              simp only [Act.put, List.setIfInBounds_toArray, List.set_cons_zero, List.set_cons_succ]
              refine takeY (i := 7) (some 33) (v := r.root) rfl rfl (by kernel_rfl) (by kernel_rfl) (by kernel_rfl) (fun _ _ _ h => h) (by rfl) (fun w' hS => by (refine load_ptr _ _ _ rfl g0 21 rfl r ?_; exact (hS.2.1.cell 21).trans rfl)) hS ?_
              simp only [Act.put, List.setIfInBounds_toArray, List.set_cons_zero, List.set_cons_succ]
              refine takeY (i := 8) (some 0) (v := r.root) rfl rfl (by kernel_rfl) (by kernel_rfl) (by kernel_rfl) (fun _ _ _ h => h) (by rfl) (fun w' hS => by clear hS; go_simp) hS ?_
              simp only [Act.put, List.setIfInBounds_toArray, List.set_cons_zero, List.set_cons_succ]
              clear hS
              refine wpAnyH_done (by kernel_rfl) ?_ _
              have hfin : Tr.lng (btP n z) r.bits (fbit (some ⟨g0, n', z', x⟩)) = R := by
                have h1 := HR.out
                rw [Ht.bits, Tr.lng, if_pos HC.out, if_neg (by rw [btP_len, btP_len]; exact fun e => HE.out e.symm), btP_len, if_pos HSS.out, HOR.out] at h1
                exact h1
              have HFIN := Lib.hid hfin
              clear hfin
              go_wp2
              go_roundg r.sz
              case measure => rw [HK.out, Ht.sz]; omega
              case rel => exact ⟨r, some ⟨g0, n', z', x⟩, rfl, rfl, rfl, HRR, HFIN, HFD2, HB, K3⟩
      · skip
        rw [show decide (btP n' z' <+: btP n z) = false from decide_eq_false hc]
        have hfin : fbit f = R := by
          have h1 := HR.out
          rw [Ht.bits, Tr.lng, if_neg hc] at h1
          exact h1
        have HFIN := Lib.hid hfin
        clear hfin hc
        go_wp2
        first | (refine bodyPost_ret (v := fptr (f)) (by simp [results, Try.f53, go_sem, fptr]) rfl ?_; exact ⟨f, rfl, HB.out, HFIN.out, HFD.out⟩) | (exact ⟨fptr (f), by simp [results, Try.f53, go_sem, fptr], f, rfl, HB.out, HFIN.out, HFD.out⟩)
end Go.Proofs.Ytjnbemopfhinbaa
