/- The program's trie: New, Len, Get, Find. Each theorem states its conditions. -/
import Derived.Test.YtjnbemopfhinbaaTrD
import Derived.Test.YtjnbemopfhinbaaTrR
namespace Go.Proofs.Ytjnbemopfhinbaa
open Go.RowKit
set_option linter.unusedVariables false
set_option linter.unusedSimpArgs false

/-- a trie's two trees -/
structure Ts where
  h4 : Ht
  h6 : Ht
def Ts.h (T : Ts) : Bool → Ht
  | false => T.h4
  | true => T.h6
def Ts.put (T : Ts) : Bool → Ht → Ts
  | false, t => ⟨t, T.h6⟩
  | true, t => ⟨T.h4, t⟩
def Ts.fp (T : Ts) : List Nat := T.h4.fp ++ T.h6.fp
def famB : Bool → Int
  | false => 4
  | true => 6
/-- what stands under which bits -/
def Ts.g (T : Ts) (pl : Bool) (x : List Bool) : Option Int := Tr.get (T.h pl).bits x
/-- how many -/
def Ts.cnt (T : Ts) : Nat := T.h4.bits.lst.length + T.h6.bits.lst.length
def tsC (T : Ts) : Array Value := #[T.h4.root, T.h6.root, .int .i64 (T.cnt : Int)]
structure TsOk (T : Ts) : Prop where
  o4 : Tr.Ok [] T.h4.bits
  o6 : Tr.Ok [] T.h6.bits
theorem TsOk.o {T : Ts} (h : TsOk T) : ∀ pl, Tr.Ok [] (T.h pl).bits
  | false => h.o4
  | true => h.o6
structure TsAt (w : World) (B s : Nat) (T : Ts) : Prop where
  blk : Blk 90 w s (tsC T)
  a4 : T.h4.At w 4
  a6 : T.h6.At w 6
  nd : T.fp.Nodup
  ns : s ∉ T.fp
  lo : ∀ k, k ∈ T.fp → B ≤ k
  bs : B ≤ s
  ok : TsOk T
section
variable {w w' : World} {B s : Nat} {T : Ts}
theorem TsAt.a (h : TsAt w B s T) : ∀ pl, (T.h pl).At w (famB pl)
  | false => h.a4
  | true => h.a6
theorem fp_sub (T : Ts) : ∀ pl k, k ∈ (T.h pl).fp → k ∈ T.fp
  | false, k, h => List.mem_append.2 (.inl h)
  | true, k, h => List.mem_append.2 (.inr h)
theorem TsAt.fpl (h : TsAt w B s T) : ∀ k, k ∈ T.fp → k < w.heap.size := fun k hk => by
  rcases List.mem_append.1 hk with h1 | h1
  · exact h.a4.lt k h1
  · exact h.a6.lt k h1
theorem TsAt.lt (h : TsAt w B s T) : s < w.heap.size := h.blk.lt
theorem TsAt.kp {S : List Nat} (h : TsAt w B s T) (k : Kp S w w') (hs : s ∉ S) (hd : ∀ x, x ∈ T.fp → x ∉ S) : TsAt w' B s T :=
  ⟨h.blk.kp k hs, h.a4.kp k (fun x hx => hd x (List.mem_append.2 (.inl hx))), h.a6.kp k (fun x hx => hd x (List.mem_append.2 (.inr hx))), h.nd, h.ns, h.lo, h.bs, h.ok⟩
theorem TsAt.below (h : TsAt w B s T) (hb : Below w.heap.size w w') (_ : s < w.heap.size) : TsAt w' B s T := h.kp (Kp.of_below [] hb) (by simp) (fun _ _ => by simp)
theorem TsAt.drew (h : TsAt w B s T) : TsAt w.drew B s T := ⟨h.blk, h.a4.drew, h.a6.drew, h.nd, h.ns, h.lo, h.bs, h.ok⟩
end
theorem form_pl {fam : Int} {n : Nat} {z : Nat → Int} (h : Form fam n z) : ∃ pl, fam = famB pl := by
  rcases h.1 with h1 | h1
  · exact ⟨false, by simpa [famB] using h1.1⟩
  · exact ⟨true, by simpa [famB] using h1.1⟩
theorem eql_nil (o : Oper) (e : Operand → Value) (x : Operand) (ho : o.op = .binOp .eql 25 x (.const (.pointer none)) 25) (g : Nat) (W : World) (hx : e x = .pointer (some ⟨g, 0, none⟩)) (hc : e (.const (.pointer none)) = .pointer none) : (execOp e o).run Try.prog W = .ok (.value (.bool false)) W := by
  unfold execOp
  simp only [ho, hx, hc]
  simp [go_sem]
def iB (pl : Bool) : Int := if pl then 1 else 0
theorem place_any (pl : Bool) (w : World) : Calls Try.prog 43 #[.int .u8 (famB pl)] w fun e w' => e = .returned (.int .i64 (iB pl)) ∧ w = w' := by
  cases pl with
  | false =>
    show Calls _ _ #[.int .u8 4] w fun e w' => e = .returned (.int .i64 0) ∧ w = w'
    go_enter Try.func43, Try.ntmps43
    go_wp2
    exact bodyPost_ret (v := .int .i64 0) (by simp [results, Try.f43, go_sem]) rfl ⟨rfl, rfl⟩
  | true =>
    show Calls _ _ #[.int .u8 6] w fun e w' => e = .returned (.int .i64 1) ∧ w = w'
    go_enter Try.func43, Try.ntmps43
    go_wp2
    exact bodyPost_ret (v := .int .i64 1) (by simp [results, Try.f43, go_sem]) rfl ⟨rfl, rfl⟩
/-- what lng finds is what stands under just these bits, if something does -/
theorem lng_get {t : Tr} {p : List Bool} (h : Tr.Ok [] t) : ∀ v, Tr.get t p = some v → Tr.lng p t none = some (p, v) := by
  intro v hv
  rcases Tr.lng_spec (p := p) none h with ⟨_, h2⟩ | ⟨x, v', h1, h2, h3, h4⟩
  · exact absurd (List.prefix_refl p) (h2 p (by rw [hv]; simp))
  · have h5 := h4 p (by rw [hv]; simp) (List.prefix_refl p)
    have h6 : x = p := h3.eq_of_length (Nat.le_antisymm h3.length_le h5)
    subst h6
    rw [hv] at h2
    rw [h1, Option.some.inj h2]
theorem lng_none {t : Tr} {p : List Bool} (h : Tr.Ok [] t) (hg : Tr.get t p = none) : ∀ x v, Tr.lng p t none = some (x, v) → x ≠ p := by
  rintro x v h1 rfl
  rcases Tr.lng_spec (p := x) none h with ⟨h2, _⟩ | ⟨x', v', h2, h3, _⟩
  · rw [h2] at h1; cases h1
  · rw [h2] at h1
    cases h1
    rw [hg] at h3; cases h3
def getV : Option Int → Value
  | some v => .tuple #[.int .i64 v, .bool true, .int .i64 0]
  | none => .tuple #[.int .i64 0, .bool false, .int .i64 0]
set_option maxHeartbeats 16000000 in
set_option maxRecDepth 100000 in
theorem new_any (w : World) : Calls Try.prog 13 #[] w fun e w' => e = .returned (.pointer (some ⟨w.heap.size, 0, none⟩)) ∧ TsAt w' w.heap.size w.heap.size ⟨.nil, .nil⟩ ∧ Below w.heap.size w w' := by
  go_enter Try.func13, Try.ntmps13
  go_wp2
  have hb : Below w.heap.size w (w.alloc (.cells (tsC ⟨.nil, .nil⟩) 90)) := (Below.refl _ _).alloc (Nat.le_refl _) _
  have ht : TsAt (w.alloc (.cells (tsC ⟨.nil, .nil⟩) 90)) w.heap.size w.heap.size ⟨.nil, .nil⟩ := ⟨heap_alloc_new w _, trivial, trivial, by simp [Ts.fp, Ht.fp], by simp [Ts.fp, Ht.fp], by simp [Ts.fp, Ht.fp], Nat.le_refl _, ⟨trivial, trivial⟩⟩
  first | (refine bodyPost_ret (v := .pointer (some ⟨w.heap.size, 0, none⟩)) (by simp [results, Try.f13, go_sem]) rfl ?_; exact ⟨rfl, ht, hb⟩) | (exact ⟨.pointer (some ⟨w.heap.size, 0, none⟩), by simp [results, Try.f13, go_sem], rfl, ht, hb⟩)
set_option maxHeartbeats 16000000 in
set_option maxRecDepth 100000 in
theorem get_bad (q : Option Addr) (fam n : Int) (z : Nat → Int) (hz : Bytes z) (hf : ¬ Form fam n z) (w : World) : Calls Try.prog 42 #[.pointer q, .agg (pvC fam n z)] w fun e w' => e = .returned (.tuple #[.int .i64 0, .bool false, .int .i64 3]) ∧ Below w.heap.size w w' := by
  have HCK := Lib.hid (fun W => check_any fam n z W hz)
  rw [show checkI fam n z = 3 by unfold checkI; exact if_neg hf] at HCK
  clear hz hf
  go_enter Try.func42, Try.ntmps42
  have HB := Lib.hid (Below.refl w.heap.size w)
  obtain ⟨N1, hN1⟩ : ∃ N, w.heap.size = N := ⟨_, rfl⟩
  have HN1 := Lib.hid hN1
  clear hN1
  go_wp2_with (refine wpList_box (op := ⟨some 3, _, _, _, _, _⟩) rfl 32 (.tmp 1) rfl (pvC fam n z) rfl N1 HN1.out ?_; intro w1 k1 b1 s1; refine Hid.out ?_)
  refine Lib.hid ?_
  have K3 := Lib.hid k1
  clear k1
  have le_HB_N1 : w.heap.size ≤ N1 := by rw [← HN1.out]; exact HB.out.size
  have HBn := Lib.hid (HB.out.trans (b1.mono HB.out.size))
  clear HB
  have HB := HBn
  clear HBn
  clear b1 HN1
  go_wp2_with (refine wpList_ld (op := ⟨some 9, _, _, _, _, _⟩) (by rfl) 32 (.tmp 3) rfl N1 0 rfl (pvC fam n z) _ K3.out.all Try.underlying32 rfl (hi_pv fam n z) ?_; refine Hid.out ?_)
  refine Lib.hid ?_
  go_wp2_with fail
  refine (HCK.out _).mono ?_
  rintro e w2 ⟨rfl, b1⟩
  have K3n := Lib.hid (K3.out.below b1 K3.out.lt)
  clear K3
  have K3 := K3n
  clear K3n
  have HBn := Lib.hid (HB.out.trans (b1.mono HB.out.size))
  clear HB
  have HB := HBn
  clear HBn
  clear b1
  go_wp2_with fail
  refine bodyPost_ret (v := .tuple #[.int .i64 0, .bool false, .int .i64 3]) (by simp [results, Try.f42, go_sem, getV]) rfl ?_
  exact ⟨rfl, HB.out⟩
set_option maxHeartbeats 16000000 in
set_option maxRecDepth 100000 in
theorem get_4 (B s n : Nat) (T : Ts) (z : Nat → Int) (hz : Bytes z) (hf : Form 4 n z) (w : World) (hT : TsAt w B s T) : Calls Try.prog 42 #[.pointer (some ⟨s, 0, none⟩), .agg (pvC 4 n z)] w fun e w' => e = .returned (getV (T.g false (btP n z))) ∧ Below w.heap.size w w' := by
  have HCK := Lib.hid (fun W => check_any 4 n z W hz)
  rw [show checkI 4 n z = 0 by unfold checkI; exact if_pos hf] at HCK
  have HPL := Lib.hid (fun W => place_any false W)
  have HLG := Lib.hid (fun W hW => longest_any 4 n z hz hf T.h4 W hW)
  have HG1 := Lib.hid (lng_get (t := T.h4.bits) (p := btP n z) hT.ok.o4)
  have HG0 := Lib.hid (lng_none (t := T.h4.bits) (p := btP n z) hT.ok.o4)
  obtain ⟨G, hG⟩ : ∃ G, T.g false (btP n z) = G := ⟨_, rfl⟩
  rw [hG]
  have HG := Lib.hid (show Tr.get T.h4.bits (btP n z) = G from hG)
  have HZ := Lib.hid hz
  have HF := Lib.hid hf
  have HT := Lib.hid hT
  clear hz hf hG hT
  go_enter Try.func42, Try.ntmps42
  have HB := Lib.hid (Below.refl w.heap.size w)
  obtain ⟨N1, hN1⟩ : ∃ N, w.heap.size = N := ⟨_, rfl⟩
  have HN1 := Lib.hid hN1
  clear hN1
  go_wp2_with (refine wpList_box (op := ⟨some 3, _, _, _, _, _⟩) rfl 32 (.tmp 1) rfl (pvC 4 n z) rfl N1 HN1.out ?_; intro w1 k1 b1 s1; refine Hid.out ?_)
  refine Lib.hid ?_
  have K3 := Lib.hid k1
  clear k1
  have le_HB_N1 : w.heap.size ≤ N1 := by rw [← HN1.out]; exact HB.out.size
  have HBn := Lib.hid (HB.out.trans (b1.mono HB.out.size))
  clear HB
  have HB := HBn
  clear HBn
  have HTn := Lib.hid (HT.out.below b1 HT.out.lt)
  clear HT
  have HT := HTn
  clear HTn
  clear b1 HN1
  go_wp2_with (refine wpList_ld (op := ⟨some 9, _, _, _, _, _⟩) (by rfl) 32 (.tmp 3) rfl N1 0 rfl (pvC 4 n z) _ K3.out.all Try.underlying32 rfl (hi_pv 4 (n : Int) z) ?_; refine Hid.out ?_)
  refine Lib.hid ?_
  go_wp2_with fail
  refine (HCK.out _).mono ?_
  rintro e w2 ⟨rfl, b1⟩
  have K3n := Lib.hid (K3.out.below b1 K3.out.lt)
  clear K3
  have K3 := K3n
  clear K3n
  have HBn := Lib.hid (HB.out.trans (b1.mono HB.out.size))
  clear HB
  have HB := HBn
  clear HBn
  have HTn := Lib.hid (HT.out.below b1 HT.out.lt)
  clear HT
  have HT := HTn
  clear HTn
  clear b1
  go_wp2_with (refine wpList_v (op := ⟨some 15, _, _, _, _, _⟩) rfl (.bool false) (eql_nil _ _ _ rfl s _ rfl rfl) ?_; refine Hid.out ?_)
  refine Lib.hid ?_
  go_wp2_with fail
  have KS := Lib.hid HT.out.blk
  have HTd := Lib.hid HT.out.drew
  clear HT
  refine wp_region_held_drew (S := fun w' => Blk 32 w' N1 (pvC 4 n z) ∧ Blk 90 w' s (tsC T) ∧ Below w.heap.size w w') (by kernel_rfl) ⟨K3.out, KS.out, HB.out.drew⟩ (fun hS => ?_)
  generalize hW3 : w2.drew = W3 at hS HTd ⊢
  clear hW3
  clear K3
  clear KS
  clear HB
  have HT := HTd
  clear HTd
  have K3 := Lib.hid hS.1
  have KS := Lib.hid hS.2.1
  have HB := Lib.hid hS.2.2
  refine takeY (i := 0) (some 16) (v := .pointer (some ⟨s, 0, none⟩)) rfl rfl (by kernel_rfl) (by kernel_rfl) (by kernel_rfl) (fun _ _ _ h => h) (by rfl) (fun w' hS => by clear hS; go_simp) hS ?_
  simp only [Act.put, List.setIfInBounds_toArray, List.set_cons_zero, List.set_cons_succ]
  refine takeY (i := 1) (some 17) (v := .pointer (some ⟨N1, 0, none⟩)) rfl rfl (by kernel_rfl) (by kernel_rfl) (by kernel_rfl) (fun _ _ _ h => h) (by rfl) (fun w' hS => by clear hS; go_simp) hS ?_
  simp only [Act.put, List.setIfInBounds_toArray, List.set_cons_zero, List.set_cons_succ]
  refine takeY (i := 2) (some 18) (v := .int .u8 4) rfl rfl (by kernel_rfl) (by kernel_rfl) (by kernel_rfl) (fun _ _ _ h => h) (by rfl) (fun w' hS => by (have c9 : w'.cell? ⟨N1, 0, none⟩ = some (.int .u8 4) := (hS.1.cell 0).trans rfl; clear hS; go_simp)) hS ?_
  simp only [Act.put, List.setIfInBounds_toArray, List.set_cons_zero, List.set_cons_succ]
  refine takeY (i := 4) (some 20) (v := .pointer (some ⟨s, 0, none⟩)) rfl rfl (by kernel_rfl) (by kernel_rfl) (by kernel_rfl) (fun _ _ _ h => h) (by rfl) (fun w' hS => by clear hS; go_simp) hS ?_
  simp only [Act.put, List.setIfInBounds_toArray, List.set_cons_zero, List.set_cons_succ]
  refine takeY (i := 5) (some 21) (v := .pointer (some ⟨s, 0, none⟩)) rfl rfl (by kernel_rfl) (by kernel_rfl) (by kernel_rfl) (fun _ _ _ h => h) (by rfl) (fun w' hS => by clear hS; go_simp) hS ?_
  simp only [Act.put, List.setIfInBounds_toArray, List.set_cons_zero, List.set_cons_succ]
  refine takeL (i := 8) (some 24) 32 (.tmp 3) N1 0 (pvC 4 n z) _ rfl rfl (by kernel_rfl) (by kernel_rfl) (by kernel_rfl) (fun _ _ _ h => h) (by rfl) rfl rfl (fun w' hS => hS.1.all) Try.underlying32 rfl (hi_pv 4 (n : Int) z) hS ?_
  simp only [Act.put, List.setIfInBounds_toArray, List.set_cons_zero, List.set_cons_succ]
  refine takeC (i := 3) (some 19) 43 #[.int .u8 4] (.int .i64 0) (R := fun w' => W3 = w') rfl rfl (by kernel_rfl) (by rfl) (by go_simp) (HPL.out _) (fun w' hb => hb ▸ hS) (fun W4 hb1 hS2 => ?_)
  subst hb1
  clear hS2
  simp only [Act.put, List.setIfInBounds_toArray, List.set_cons_zero, List.set_cons_succ]
  refine takeY (i := 6) (some 22) (v := .pointer (some ⟨s, 0, none⟩)) rfl rfl (by kernel_rfl) (by kernel_rfl) (by kernel_rfl) (fun _ _ _ h => h) (by rfl) (fun w' hS => by clear hS; go_simp) hS ?_
  simp only [Act.put, List.setIfInBounds_toArray, List.set_cons_zero, List.set_cons_succ]
  refine takeY (i := 7) (some 23) (v := T.h4.root) rfl rfl (by kernel_rfl) (by kernel_rfl) (by kernel_rfl) (fun _ _ _ h => h) (by rfl) (fun w' hS => by (refine load_ptr _ _ _ rfl s 0 rfl T.h4 ?_; exact (hS.2.1.cell 0).trans rfl)) hS ?_
  simp only [Act.put, List.setIfInBounds_toArray, List.set_cons_zero, List.set_cons_succ]
  have HT9 := Lib.hid HT.out.a4
  refine takeCE (i := 9) (some 25) 53 #[T.h4.root, .agg (pvC 4 n z)] (R := fun v w' => ∃ f : Option Fd, v = fptr f ∧ Below W3.heap.size W3 w' ∧ fbit f = Tr.lng (btP n z) T.h4.bits none ∧ ∀ x, f = some x → FdAt W3 4 x) rfl rfl (by kernel_rfl) (by rfl) (by go_simp) ((HLG.out W3 HT9.out).mono (by rintro e w9 ⟨f, rfl, h9⟩; exact ⟨_, rfl, f, rfl, h9⟩)) (fun v w' h => by obtain ⟨f, rfl, hb, h9⟩ := h; exact ⟨hS.1.below hb hS.1.lt, hS.2.1.below hb hS.2.1.lt, hS.2.2.trans (hb.mono hS.2.2.size)⟩) (fun v W5 h hS2 => ?_)
  obtain ⟨f, rfl, hb, hfb, hfd⟩ := h
  clear hS2
  simp only [Act.put, List.setIfInBounds_toArray, List.set_cons_zero, List.set_cons_succ]
  have HFB := Lib.hid hfb
  have HFD : Hid (∀ x, f = some x → FdAt W5 4 x) := Lib.hid (fun x hx => (hfd x hx).below hb (hfd x hx).lt)
  clear hfb hfd HT9
  have HTn := Lib.hid (HT.out.below hb HT.out.lt)
  clear HT
  have HT := HTn
  clear HTn
  have K3n := Lib.hid (K3.out.below hb K3.out.lt)
  clear K3
  have K3 := K3n
  clear K3n
  have KSn := Lib.hid (KS.out.below hb KS.out.lt)
  clear KS
  have KS := KSn
  clear KSn
  have HBn := Lib.hid (HB.out.trans (hb.mono HB.out.size))
  clear HB
  have HB := HBn
  clear HBn
  clear hb hS
  have hS := (And.intro K3.out (And.intro KS.out HB.out))
  refine takeY (i := 10) (some 8) (v := fptr f) rfl rfl (by kernel_rfl) (by kernel_rfl) (by kernel_rfl) (fun _ _ _ h => h) (by rfl) (fun w' hS => by clear hS; go_simp) hS ?_
  simp only [Act.put, List.setIfInBounds_toArray, List.set_cons_zero, List.set_cons_succ]
  clear hS
  refine wpAnyH_done (by kernel_rfl) ?_ _
  clear HT
  go_wp2_with fail
  cases f with
  | none =>
    have e8 : fptr none = .pointer none := rfl
    rw [e8]
    clear e8
    refine wp_region_held_drew (S := fun w' => Blk 32 w' N1 (pvC 4 n z) ∧ Blk 90 w' s (tsC T) ∧ Below w.heap.size w w') (by kernel_rfl) ⟨K3.out, KS.out, HB.out.drew⟩ (fun hS => ?_)
    generalize hW6 : W5.drew = W6 at hS  ⊢
    clear hW6
    clear K3
    clear KS
    clear HB
    have K3 := Lib.hid hS.1
    have KS := Lib.hid hS.2.1
    have HB := Lib.hid hS.2.2
    refine takeY (i := 0) (some 26) (v := .pointer none) rfl rfl (by kernel_rfl) (by kernel_rfl) (by kernel_rfl) (fun _ _ _ h => h) (by rfl) (fun w' hS => by clear hS; go_simp) hS ?_
    simp only [Act.put, List.setIfInBounds_toArray, List.set_cons_zero, List.set_cons_succ]
    refine takeY (i := 1) (some 27) (v := .bool true) rfl rfl (by kernel_rfl) (by kernel_rfl) (by kernel_rfl) (fun _ _ _ h => h) (by rfl) (fun w' hS => by clear hS; go_simp) hS ?_
    simp only [Act.put, List.setIfInBounds_toArray, List.set_cons_zero, List.set_cons_succ]
    refine takeY (i := 2) (some 28) (v := .bool true) rfl rfl (by kernel_rfl) (by kernel_rfl) (by kernel_rfl) (fun _ _ _ h => h) (by rfl) (fun w' hS => by clear hS; go_simp) hS ?_
    simp only [Act.put, List.setIfInBounds_toArray, List.set_cons_zero, List.set_cons_succ]
    refine takeN (i := 3) (some 29) rfl rfl (by kernel_rfl) (by kernel_rfl) (by kernel_rfl) (fun _ _ _ h => h) (by rfl) hS ?_
    simp only [Act.put, List.setIfInBounds_toArray, List.set_cons_zero, List.set_cons_succ]
    refine takeN (i := 4) (some 30) rfl rfl (by kernel_rfl) (by kernel_rfl) (by kernel_rfl) (fun _ _ _ h => h) (by rfl) hS ?_
    simp only [Act.put, List.setIfInBounds_toArray, List.set_cons_zero, List.set_cons_succ]
    refine takeN (i := 5) (some 31) rfl rfl (by kernel_rfl) (by kernel_rfl) (by kernel_rfl) (fun _ _ _ h => h) (by rfl) hS ?_
    simp only [Act.put, List.setIfInBounds_toArray, List.set_cons_zero, List.set_cons_succ]
    refine takeN (i := 6) (some 32) rfl rfl (by kernel_rfl) (by kernel_rfl) (by kernel_rfl) (fun _ _ _ h => h) (by rfl) hS ?_
    simp only [Act.put, List.setIfInBounds_toArray, List.set_cons_zero, List.set_cons_succ]
    refine takeN (i := 7) (some 33) rfl rfl (by kernel_rfl) (by kernel_rfl) (by kernel_rfl) (fun _ _ _ h => h) (by rfl) hS ?_
    simp only [Act.put, List.setIfInBounds_toArray, List.set_cons_zero, List.set_cons_succ]
    refine takeN (i := 8) (some 34) rfl rfl (by kernel_rfl) (by kernel_rfl) (by kernel_rfl) (fun _ _ _ h => h) (by rfl) hS ?_
    simp only [Act.put, List.setIfInBounds_toArray, List.set_cons_zero, List.set_cons_succ]
    refine takeY (i := 9) (some 35) (v := .bool true) rfl rfl (by kernel_rfl) (by kernel_rfl) (by kernel_rfl) (fun _ _ _ h => h) (by rfl) (fun w' hS => by clear hS; go_simp) hS ?_
    simp only [Act.put, List.setIfInBounds_toArray, List.set_cons_zero, List.set_cons_succ]
    clear hS
    refine wpAnyH_done (by kernel_rfl) ?_ _
    go_wp2_with fail
    refine bodyPost_ret (v := getV none) (by simp [results, Try.f42, go_sem, getV]) rfl ?_
    have e9 : G = none := by
      cases hG : G with
      | none => rfl
      | some v9 =>
        have h1 := HG1.out v9 (by rw [HG.out, hG])
        rw [← HFB.out] at h1
        cases h1
    exact ⟨by rw [e9], HB.out⟩
  | some x =>
    obtain ⟨xg, xn, xz, xv⟩ := x
    obtain ⟨fz, ff, fa, fb2, fk⟩ : Bytes xz ∧ Form 4 xn xz ∧ ∃ a b, Blk 106 W5 xg (ndC 4 xn xz true xv a b) := HFD.out _ rfl
    have KF := Lib.hid fk
    have HFZ := Lib.hid fz
    have HFF := Lib.hid ff
    clear fz ff fk HFD
    have e8 : fptr (some ⟨xg, xn, xz, xv⟩) = .pointer (some ⟨xg, 0, none⟩) := rfl
    rw [e8]
    clear e8
    have HX : Hid (Tr.lng (btP n z) T.h4.bits none = some (btP xn xz, xv)) := Lib.hid HFB.out.symm
    clear HFB
    by_cases hp : btP xn xz = btP n z
    · skip
      have HE : Hid (∀ f, f = (4 : Int) → decide (f = 4 ∧ (xn : Int) = (n : Int) ∧ Same16 xz z) = true) := Lib.hid (fun f hf => decide_eq_true (by
          obtain ⟨a1, a2⟩ := (btP_eq HFZ.out HZ.out HFF.out HF.out).1 hp
          exact ⟨hf, by rw [a1], a2⟩))
      have HP := Lib.hid hp
      clear hp
      refine wp_region_held_drew (S := fun w' => Blk 32 w' N1 (pvC 4 n z) ∧ Blk 90 w' s (tsC T) ∧ Blk 106 w' xg (ndC 4 xn xz true xv fa fb2) ∧ Below w.heap.size w w') (by kernel_rfl) ⟨K3.out, KS.out, KF.out, HB.out.drew⟩ (fun hS => ?_)
      generalize hW6 : W5.drew = W6 at hS  ⊢
      clear hW6
      clear K3
      clear KS
      clear KF
      clear HB
      have K3 := Lib.hid hS.1
      have KS := Lib.hid hS.2.1
      have KF := Lib.hid hS.2.2.1
      have HB := Lib.hid hS.2.2.2
      refine takeY (i := 0) (some 26) (v := .pointer (some ⟨xg, 0, none⟩)) rfl rfl (by kernel_rfl) (by kernel_rfl) (by kernel_rfl) (fun _ _ _ h => h) (by rfl) (fun w' hS => by clear hS; go_simp) hS ?_
      simp only [Act.put, List.setIfInBounds_toArray, List.set_cons_zero, List.set_cons_succ]
      refine takeY (i := 1) (some 27) (v := .bool false) rfl rfl (by kernel_rfl) (by kernel_rfl) (by kernel_rfl) (fun _ _ _ h => h) (by rfl) (fun w' hS => by clear hS; go_simp) hS ?_
      simp only [Act.put, List.setIfInBounds_toArray, List.set_cons_zero, List.set_cons_succ]
      refine takeY (i := 2) (some 28) (v := .bool false) rfl rfl (by kernel_rfl) (by kernel_rfl) (by kernel_rfl) (fun _ _ _ h => h) (by rfl) (fun w' hS => by clear hS; go_simp) hS ?_
      simp only [Act.put, List.setIfInBounds_toArray, List.set_cons_zero, List.set_cons_succ]
      refine takeY (i := 3) (some 29) (v := .pointer (some ⟨xg, 0, none⟩)) rfl rfl (by kernel_rfl) (by kernel_rfl) (by kernel_rfl) (fun _ _ _ h => h) (by rfl) (fun w' hS => by clear hS; go_simp) hS ?_
      simp only [Act.put, List.setIfInBounds_toArray, List.set_cons_zero, List.set_cons_succ]
      refine takeY (i := 4) (some 30) (v := .pointer (some ⟨xg, 0, none⟩)) rfl rfl (by kernel_rfl) (by kernel_rfl) (by kernel_rfl) (fun _ _ _ h => h) (by rfl) (fun w' hS => by clear hS; go_simp) hS ?_
      simp only [Act.put, List.setIfInBounds_toArray, List.set_cons_zero, List.set_cons_succ]
      refine takeY (i := 5) (some 31) (v := .pointer (some ⟨xg, 0, none⟩)) rfl rfl (by kernel_rfl) (by kernel_rfl) (by kernel_rfl) (fun _ _ _ h => h) (by rfl) (fun w' hS => by clear hS; go_simp) hS ?_
      simp only [Act.put, List.setIfInBounds_toArray, List.set_cons_zero, List.set_cons_succ]
      refine takeL (i := 6) (some 32) 32 (.tmp 31) xg 0 (pvC 4 xn xz) _ rfl rfl (by kernel_rfl) (by kernel_rfl) (by kernel_rfl) (fun _ _ _ h => h) (by rfl) rfl rfl (fun w' hS => hS.2.2.1.ndpv) Try.underlying32 rfl (hi_pv 4 (xn : Int) xz) hS ?_
      simp only [Act.put, List.setIfInBounds_toArray, List.set_cons_zero, List.set_cons_succ]
      refine takeL (i := 7) (some 33) 32 (.tmp 3) N1 0 (pvC 4 n z) _ rfl rfl (by kernel_rfl) (by kernel_rfl) (by kernel_rfl) (fun _ _ _ h => h) (by rfl) rfl rfl (fun w' hS => hS.1.all) Try.underlying32 rfl (hi_pv 4 (n : Int) z) hS ?_
      simp only [Act.put, List.setIfInBounds_toArray, List.set_cons_zero, List.set_cons_succ]
      refine takeY (i := 8) (some 34) (v := .bool false) rfl rfl (by kernel_rfl) (by kernel_rfl) (by kernel_rfl) (fun _ _ _ h => h) (by rfl) (fun w' hS => by clear hS; refine (neq_pv _ _ _ _ rfl 4 (xn : Int) xz 4 (n : Int) z HFZ.out HZ.out rfl rfl _).trans ?_; rw [HE.out 4 rfl]; rfl) hS ?_
      simp only [Act.put, List.setIfInBounds_toArray, List.set_cons_zero, List.set_cons_succ]
      refine takeY (i := 9) (some 35) (v := .bool false) rfl rfl (by kernel_rfl) (by kernel_rfl) (by kernel_rfl) (fun _ _ _ h => h) (by rfl) (fun w' hS => by clear hS; go_simp) hS ?_
      simp only [Act.put, List.setIfInBounds_toArray, List.set_cons_zero, List.set_cons_succ]
      clear hS
      refine wpAnyH_done (by kernel_rfl) ?_ _
      have c19 : W6.cell? ⟨xg, 19, none⟩ = some (.int .i64 xv) := (KF.out.cell 19).trans rfl
      go_wp2_with fail
      refine bodyPost_ret (v := getV (some xv)) (by simp [results, Try.f42, go_sem, getV]) rfl ?_
      have e9 : G = some xv := by
        cases hG : G with
        | none => exact absurd HP.out (HG0.out (by rw [HG.out, hG]) _ _ HX.out)
        | some v9 =>
          have h1 := HG1.out v9 (by rw [HG.out, hG])
          rw [HX.out] at h1
          injection h1 with h1
          rw [(Prod.mk.inj h1).2]
      exact ⟨by rw [e9], HB.out⟩
    · skip
      have HE : Hid (∀ f, f = (4 : Int) → decide (f = 4 ∧ (xn : Int) = (n : Int) ∧ Same16 xz z) = false) := Lib.hid (fun f hf => decide_eq_false (fun h9 => hp ((btP_eq HFZ.out HZ.out HFF.out HF.out).2 ⟨by omega, h9.2.2⟩)))
      have HP := Lib.hid hp
      clear hp
      refine wp_region_held_drew (S := fun w' => Blk 32 w' N1 (pvC 4 n z) ∧ Blk 90 w' s (tsC T) ∧ Blk 106 w' xg (ndC 4 xn xz true xv fa fb2) ∧ Below w.heap.size w w') (by kernel_rfl) ⟨K3.out, KS.out, KF.out, HB.out.drew⟩ (fun hS => ?_)
      generalize hW6 : W5.drew = W6 at hS  ⊢
      clear hW6
      clear K3
      clear KS
      clear KF
      clear HB
      have K3 := Lib.hid hS.1
      have KS := Lib.hid hS.2.1
      have KF := Lib.hid hS.2.2.1
      have HB := Lib.hid hS.2.2.2
      refine takeY (i := 0) (some 26) (v := .pointer (some ⟨xg, 0, none⟩)) rfl rfl (by kernel_rfl) (by kernel_rfl) (by kernel_rfl) (fun _ _ _ h => h) (by rfl) (fun w' hS => by clear hS; go_simp) hS ?_
      simp only [Act.put, List.setIfInBounds_toArray, List.set_cons_zero, List.set_cons_succ]
      refine takeY (i := 1) (some 27) (v := .bool false) rfl rfl (by kernel_rfl) (by kernel_rfl) (by kernel_rfl) (fun _ _ _ h => h) (by rfl) (fun w' hS => by clear hS; go_simp) hS ?_
      simp only [Act.put, List.setIfInBounds_toArray, List.set_cons_zero, List.set_cons_succ]
      refine takeY (i := 2) (some 28) (v := .bool false) rfl rfl (by kernel_rfl) (by kernel_rfl) (by kernel_rfl) (fun _ _ _ h => h) (by rfl) (fun w' hS => by clear hS; go_simp) hS ?_
      simp only [Act.put, List.setIfInBounds_toArray, List.set_cons_zero, List.set_cons_succ]
      refine takeY (i := 3) (some 29) (v := .pointer (some ⟨xg, 0, none⟩)) rfl rfl (by kernel_rfl) (by kernel_rfl) (by kernel_rfl) (fun _ _ _ h => h) (by rfl) (fun w' hS => by clear hS; go_simp) hS ?_
      simp only [Act.put, List.setIfInBounds_toArray, List.set_cons_zero, List.set_cons_succ]
      refine takeY (i := 4) (some 30) (v := .pointer (some ⟨xg, 0, none⟩)) rfl rfl (by kernel_rfl) (by kernel_rfl) (by kernel_rfl) (fun _ _ _ h => h) (by rfl) (fun w' hS => by clear hS; go_simp) hS ?_
      simp only [Act.put, List.setIfInBounds_toArray, List.set_cons_zero, List.set_cons_succ]
      refine takeY (i := 5) (some 31) (v := .pointer (some ⟨xg, 0, none⟩)) rfl rfl (by kernel_rfl) (by kernel_rfl) (by kernel_rfl) (fun _ _ _ h => h) (by rfl) (fun w' hS => by clear hS; go_simp) hS ?_
      simp only [Act.put, List.setIfInBounds_toArray, List.set_cons_zero, List.set_cons_succ]
      refine takeL (i := 6) (some 32) 32 (.tmp 31) xg 0 (pvC 4 xn xz) _ rfl rfl (by kernel_rfl) (by kernel_rfl) (by kernel_rfl) (fun _ _ _ h => h) (by rfl) rfl rfl (fun w' hS => hS.2.2.1.ndpv) Try.underlying32 rfl (hi_pv 4 (xn : Int) xz) hS ?_
      simp only [Act.put, List.setIfInBounds_toArray, List.set_cons_zero, List.set_cons_succ]
      refine takeL (i := 7) (some 33) 32 (.tmp 3) N1 0 (pvC 4 n z) _ rfl rfl (by kernel_rfl) (by kernel_rfl) (by kernel_rfl) (fun _ _ _ h => h) (by rfl) rfl rfl (fun w' hS => hS.1.all) Try.underlying32 rfl (hi_pv 4 (n : Int) z) hS ?_
      simp only [Act.put, List.setIfInBounds_toArray, List.set_cons_zero, List.set_cons_succ]
      refine takeY (i := 8) (some 34) (v := .bool true) rfl rfl (by kernel_rfl) (by kernel_rfl) (by kernel_rfl) (fun _ _ _ h => h) (by rfl) (fun w' hS => by clear hS; refine (neq_pv _ _ _ _ rfl 4 (xn : Int) xz 4 (n : Int) z HFZ.out HZ.out rfl rfl _).trans ?_; rw [HE.out 4 rfl]; rfl) hS ?_
      simp only [Act.put, List.setIfInBounds_toArray, List.set_cons_zero, List.set_cons_succ]
      refine takeY (i := 9) (some 35) (v := .bool true) rfl rfl (by kernel_rfl) (by kernel_rfl) (by kernel_rfl) (fun _ _ _ h => h) (by rfl) (fun w' hS => by clear hS; go_simp) hS ?_
      simp only [Act.put, List.setIfInBounds_toArray, List.set_cons_zero, List.set_cons_succ]
      clear hS
      refine wpAnyH_done (by kernel_rfl) ?_ _
      go_wp2_with fail
      refine bodyPost_ret (v := getV none) (by simp [results, Try.f42, go_sem, getV]) rfl ?_
      have e9 : G = none := by
        cases hG : G with
        | none => rfl
        | some v9 =>
          have h1 := HG1.out v9 (by rw [HG.out, hG])
          rw [HX.out] at h1
          injection h1 with h1
          exact absurd (Prod.mk.inj h1).1 HP.out
      exact ⟨by rw [e9], HB.out⟩
set_option maxHeartbeats 16000000 in
set_option maxRecDepth 100000 in
theorem get_6 (B s n : Nat) (T : Ts) (z : Nat → Int) (hz : Bytes z) (hf : Form 6 n z) (w : World) (hT : TsAt w B s T) : Calls Try.prog 42 #[.pointer (some ⟨s, 0, none⟩), .agg (pvC 6 n z)] w fun e w' => e = .returned (getV (T.g true (btP n z))) ∧ Below w.heap.size w w' := by
  have HCK := Lib.hid (fun W => check_any 6 n z W hz)
  rw [show checkI 6 n z = 0 by unfold checkI; exact if_pos hf] at HCK
  have HPL := Lib.hid (fun W => place_any true W)
  have HLG := Lib.hid (fun W hW => longest_any 6 n z hz hf T.h6 W hW)
  have HG1 := Lib.hid (lng_get (t := T.h6.bits) (p := btP n z) hT.ok.o6)
  have HG0 := Lib.hid (lng_none (t := T.h6.bits) (p := btP n z) hT.ok.o6)
  obtain ⟨G, hG⟩ : ∃ G, T.g true (btP n z) = G := ⟨_, rfl⟩
  rw [hG]
  have HG := Lib.hid (show Tr.get T.h6.bits (btP n z) = G from hG)
  have HZ := Lib.hid hz
  have HF := Lib.hid hf
  have HT := Lib.hid hT
  clear hz hf hG hT
  go_enter Try.func42, Try.ntmps42
  have HB := Lib.hid (Below.refl w.heap.size w)
  obtain ⟨N1, hN1⟩ : ∃ N, w.heap.size = N := ⟨_, rfl⟩
  have HN1 := Lib.hid hN1
  clear hN1
  go_wp2_with (refine wpList_box (op := ⟨some 3, _, _, _, _, _⟩) rfl 32 (.tmp 1) rfl (pvC 6 n z) rfl N1 HN1.out ?_; intro w1 k1 b1 s1; refine Hid.out ?_)
  refine Lib.hid ?_
  have K3 := Lib.hid k1
  clear k1
  have le_HB_N1 : w.heap.size ≤ N1 := by rw [← HN1.out]; exact HB.out.size
  have HBn := Lib.hid (HB.out.trans (b1.mono HB.out.size))
  clear HB
  have HB := HBn
  clear HBn
  have HTn := Lib.hid (HT.out.below b1 HT.out.lt)
  clear HT
  have HT := HTn
  clear HTn
  clear b1 HN1
  go_wp2_with (refine wpList_ld (op := ⟨some 9, _, _, _, _, _⟩) (by rfl) 32 (.tmp 3) rfl N1 0 rfl (pvC 6 n z) _ K3.out.all Try.underlying32 rfl (hi_pv 6 (n : Int) z) ?_; refine Hid.out ?_)
  refine Lib.hid ?_
  go_wp2_with fail
  refine (HCK.out _).mono ?_
  rintro e w2 ⟨rfl, b1⟩
  have K3n := Lib.hid (K3.out.below b1 K3.out.lt)
  clear K3
  have K3 := K3n
  clear K3n
  have HBn := Lib.hid (HB.out.trans (b1.mono HB.out.size))
  clear HB
  have HB := HBn
  clear HBn
  have HTn := Lib.hid (HT.out.below b1 HT.out.lt)
  clear HT
  have HT := HTn
  clear HTn
  clear b1
  go_wp2_with (refine wpList_v (op := ⟨some 15, _, _, _, _, _⟩) rfl (.bool false) (eql_nil _ _ _ rfl s _ rfl rfl) ?_; refine Hid.out ?_)
  refine Lib.hid ?_
  go_wp2_with fail
  have KS := Lib.hid HT.out.blk
  have HTd := Lib.hid HT.out.drew
  clear HT
  refine wp_region_held_drew (S := fun w' => Blk 32 w' N1 (pvC 6 n z) ∧ Blk 90 w' s (tsC T) ∧ Below w.heap.size w w') (by kernel_rfl) ⟨K3.out, KS.out, HB.out.drew⟩ (fun hS => ?_)
  generalize hW3 : w2.drew = W3 at hS HTd ⊢
  clear hW3
  clear K3
  clear KS
  clear HB
  have HT := HTd
  clear HTd
  have K3 := Lib.hid hS.1
  have KS := Lib.hid hS.2.1
  have HB := Lib.hid hS.2.2
  refine takeY (i := 0) (some 16) (v := .pointer (some ⟨s, 0, none⟩)) rfl rfl (by kernel_rfl) (by kernel_rfl) (by kernel_rfl) (fun _ _ _ h => h) (by rfl) (fun w' hS => by clear hS; go_simp) hS ?_
  simp only [Act.put, List.setIfInBounds_toArray, List.set_cons_zero, List.set_cons_succ]
  refine takeY (i := 1) (some 17) (v := .pointer (some ⟨N1, 0, none⟩)) rfl rfl (by kernel_rfl) (by kernel_rfl) (by kernel_rfl) (fun _ _ _ h => h) (by rfl) (fun w' hS => by clear hS; go_simp) hS ?_
  simp only [Act.put, List.setIfInBounds_toArray, List.set_cons_zero, List.set_cons_succ]
  refine takeY (i := 2) (some 18) (v := .int .u8 6) rfl rfl (by kernel_rfl) (by kernel_rfl) (by kernel_rfl) (fun _ _ _ h => h) (by rfl) (fun w' hS => by (have c9 : w'.cell? ⟨N1, 0, none⟩ = some (.int .u8 6) := (hS.1.cell 0).trans rfl; clear hS; go_simp)) hS ?_
  simp only [Act.put, List.setIfInBounds_toArray, List.set_cons_zero, List.set_cons_succ]
  refine takeY (i := 4) (some 20) (v := .pointer (some ⟨s, 0, none⟩)) rfl rfl (by kernel_rfl) (by kernel_rfl) (by kernel_rfl) (fun _ _ _ h => h) (by rfl) (fun w' hS => by clear hS; go_simp) hS ?_
  simp only [Act.put, List.setIfInBounds_toArray, List.set_cons_zero, List.set_cons_succ]
  refine takeY (i := 5) (some 21) (v := .pointer (some ⟨s, 0, none⟩)) rfl rfl (by kernel_rfl) (by kernel_rfl) (by kernel_rfl) (fun _ _ _ h => h) (by rfl) (fun w' hS => by clear hS; go_simp) hS ?_
  simp only [Act.put, List.setIfInBounds_toArray, List.set_cons_zero, List.set_cons_succ]
  refine takeL (i := 8) (some 24) 32 (.tmp 3) N1 0 (pvC 6 n z) _ rfl rfl (by kernel_rfl) (by kernel_rfl) (by kernel_rfl) (fun _ _ _ h => h) (by rfl) rfl rfl (fun w' hS => hS.1.all) Try.underlying32 rfl (hi_pv 6 (n : Int) z) hS ?_
  simp only [Act.put, List.setIfInBounds_toArray, List.set_cons_zero, List.set_cons_succ]
  refine takeC (i := 3) (some 19) 43 #[.int .u8 6] (.int .i64 1) (R := fun w' => W3 = w') rfl rfl (by kernel_rfl) (by rfl) (by go_simp) (HPL.out _) (fun w' hb => hb ▸ hS) (fun W4 hb1 hS2 => ?_)
  subst hb1
  clear hS2
  simp only [Act.put, List.setIfInBounds_toArray, List.set_cons_zero, List.set_cons_succ]
  refine takeY (i := 6) (some 22) (v := .pointer (some ⟨s, 1, none⟩)) rfl rfl (by kernel_rfl) (by kernel_rfl) (by kernel_rfl) (fun _ _ _ h => h) (by rfl) (fun w' hS => by clear hS; go_simp) hS ?_
  simp only [Act.put, List.setIfInBounds_toArray, List.set_cons_zero, List.set_cons_succ]
  refine takeY (i := 7) (some 23) (v := T.h6.root) rfl rfl (by kernel_rfl) (by kernel_rfl) (by kernel_rfl) (fun _ _ _ h => h) (by rfl) (fun w' hS => by (refine load_ptr _ _ _ rfl s 1 rfl T.h6 ?_; exact (hS.2.1.cell 1).trans rfl)) hS ?_
  simp only [Act.put, List.setIfInBounds_toArray, List.set_cons_zero, List.set_cons_succ]
  have HT9 := Lib.hid HT.out.a6
  refine takeCE (i := 9) (some 25) 53 #[T.h6.root, .agg (pvC 6 n z)] (R := fun v w' => ∃ f : Option Fd, v = fptr f ∧ Below W3.heap.size W3 w' ∧ fbit f = Tr.lng (btP n z) T.h6.bits none ∧ ∀ x, f = some x → FdAt W3 6 x) rfl rfl (by kernel_rfl) (by rfl) (by go_simp) ((HLG.out W3 HT9.out).mono (by rintro e w9 ⟨f, rfl, h9⟩; exact ⟨_, rfl, f, rfl, h9⟩)) (fun v w' h => by obtain ⟨f, rfl, hb, h9⟩ := h; exact ⟨hS.1.below hb hS.1.lt, hS.2.1.below hb hS.2.1.lt, hS.2.2.trans (hb.mono hS.2.2.size)⟩) (fun v W5 h hS2 => ?_)
  obtain ⟨f, rfl, hb, hfb, hfd⟩ := h
  clear hS2
  simp only [Act.put, List.setIfInBounds_toArray, List.set_cons_zero, List.set_cons_succ]
  have HFB := Lib.hid hfb
  have HFD : Hid (∀ x, f = some x → FdAt W5 6 x) := Lib.hid (fun x hx => (hfd x hx).below hb (hfd x hx).lt)
  clear hfb hfd HT9
  have HTn := Lib.hid (HT.out.below hb HT.out.lt)
  clear HT
  have HT := HTn
  clear HTn
  have K3n := Lib.hid (K3.out.below hb K3.out.lt)
  clear K3
  have K3 := K3n
  clear K3n
  have KSn := Lib.hid (KS.out.below hb KS.out.lt)
  clear KS
  have KS := KSn
  clear KSn
  have HBn := Lib.hid (HB.out.trans (hb.mono HB.out.size))
  clear HB
  have HB := HBn
  clear HBn
  clear hb hS
  have hS := (And.intro K3.out (And.intro KS.out HB.out))
  refine takeY (i := 10) (some 8) (v := fptr f) rfl rfl (by kernel_rfl) (by kernel_rfl) (by kernel_rfl) (fun _ _ _ h => h) (by rfl) (fun w' hS => by clear hS; go_simp) hS ?_
  simp only [Act.put, List.setIfInBounds_toArray, List.set_cons_zero, List.set_cons_succ]
  clear hS
  refine wpAnyH_done (by kernel_rfl) ?_ _
  clear HT
  go_wp2_with fail
  cases f with
  | none =>
    have e8 : fptr none = .pointer none := rfl
    rw [e8]
    clear e8
    refine wp_region_held_drew (S := fun w' => Blk 32 w' N1 (pvC 6 n z) ∧ Blk 90 w' s (tsC T) ∧ Below w.heap.size w w') (by kernel_rfl) ⟨K3.out, KS.out, HB.out.drew⟩ (fun hS => ?_)
    generalize hW6 : W5.drew = W6 at hS  ⊢
    clear hW6
    clear K3
    clear KS
    clear HB
    have K3 := Lib.hid hS.1
    have KS := Lib.hid hS.2.1
    have HB := Lib.hid hS.2.2
    refine takeY (i := 0) (some 26) (v := .pointer none) rfl rfl (by kernel_rfl) (by kernel_rfl) (by kernel_rfl) (fun _ _ _ h => h) (by rfl) (fun w' hS => by clear hS; go_simp) hS ?_
    simp only [Act.put, List.setIfInBounds_toArray, List.set_cons_zero, List.set_cons_succ]
    refine takeY (i := 1) (some 27) (v := .bool true) rfl rfl (by kernel_rfl) (by kernel_rfl) (by kernel_rfl) (fun _ _ _ h => h) (by rfl) (fun w' hS => by clear hS; go_simp) hS ?_
    simp only [Act.put, List.setIfInBounds_toArray, List.set_cons_zero, List.set_cons_succ]
    refine takeY (i := 2) (some 28) (v := .bool true) rfl rfl (by kernel_rfl) (by kernel_rfl) (by kernel_rfl) (fun _ _ _ h => h) (by rfl) (fun w' hS => by clear hS; go_simp) hS ?_
    simp only [Act.put, List.setIfInBounds_toArray, List.set_cons_zero, List.set_cons_succ]
    refine takeN (i := 3) (some 29) rfl rfl (by kernel_rfl) (by kernel_rfl) (by kernel_rfl) (fun _ _ _ h => h) (by rfl) hS ?_
    simp only [Act.put, List.setIfInBounds_toArray, List.set_cons_zero, List.set_cons_succ]
    refine takeN (i := 4) (some 30) rfl rfl (by kernel_rfl) (by kernel_rfl) (by kernel_rfl) (fun _ _ _ h => h) (by rfl) hS ?_
    simp only [Act.put, List.setIfInBounds_toArray, List.set_cons_zero, List.set_cons_succ]
    refine takeN (i := 5) (some 31) rfl rfl (by kernel_rfl) (by kernel_rfl) (by kernel_rfl) (fun _ _ _ h => h) (by rfl) hS ?_
    simp only [Act.put, List.setIfInBounds_toArray, List.set_cons_zero, List.set_cons_succ]
    refine takeN (i := 6) (some 32) rfl rfl (by kernel_rfl) (by kernel_rfl) (by kernel_rfl) (fun _ _ _ h => h) (by rfl) hS ?_
    simp only [Act.put, List.setIfInBounds_toArray, List.set_cons_zero, List.set_cons_succ]
    refine takeN (i := 7) (some 33) rfl rfl (by kernel_rfl) (by kernel_rfl) (by kernel_rfl) (fun _ _ _ h => h) (by rfl) hS ?_
    simp only [Act.put, List.setIfInBounds_toArray, List.set_cons_zero, List.set_cons_succ]
    refine takeN (i := 8) (some 34) rfl rfl (by kernel_rfl) (by kernel_rfl) (by kernel_rfl) (fun _ _ _ h => h) (by rfl) hS ?_
    simp only [Act.put, List.setIfInBounds_toArray, List.set_cons_zero, List.set_cons_succ]
    refine takeY (i := 9) (some 35) (v := .bool true) rfl rfl (by kernel_rfl) (by kernel_rfl) (by kernel_rfl) (fun _ _ _ h => h) (by rfl) (fun w' hS => by clear hS; go_simp) hS ?_
    simp only [Act.put, List.setIfInBounds_toArray, List.set_cons_zero, List.set_cons_succ]
    clear hS
    refine wpAnyH_done (by kernel_rfl) ?_ _
    go_wp2_with fail
    refine bodyPost_ret (v := getV none) (by simp [results, Try.f42, go_sem, getV]) rfl ?_
    have e9 : G = none := by
      cases hG : G with
      | none => rfl
      | some v9 =>
        have h1 := HG1.out v9 (by rw [HG.out, hG])
        rw [← HFB.out] at h1
        cases h1
    exact ⟨by rw [e9], HB.out⟩
  | some x =>
    obtain ⟨xg, xn, xz, xv⟩ := x
    obtain ⟨fz, ff, fa, fb2, fk⟩ : Bytes xz ∧ Form 6 xn xz ∧ ∃ a b, Blk 106 W5 xg (ndC 6 xn xz true xv a b) := HFD.out _ rfl
    have KF := Lib.hid fk
    have HFZ := Lib.hid fz
    have HFF := Lib.hid ff
    clear fz ff fk HFD
    have e8 : fptr (some ⟨xg, xn, xz, xv⟩) = .pointer (some ⟨xg, 0, none⟩) := rfl
    rw [e8]
    clear e8
    have HX : Hid (Tr.lng (btP n z) T.h6.bits none = some (btP xn xz, xv)) := Lib.hid HFB.out.symm
    clear HFB
    by_cases hp : btP xn xz = btP n z
    · skip
      have HE : Hid (∀ f, f = (6 : Int) → decide (f = 6 ∧ (xn : Int) = (n : Int) ∧ Same16 xz z) = true) := Lib.hid (fun f hf => decide_eq_true (by
          obtain ⟨a1, a2⟩ := (btP_eq HFZ.out HZ.out HFF.out HF.out).1 hp
          exact ⟨hf, by rw [a1], a2⟩))
      have HP := Lib.hid hp
      clear hp
      refine wp_region_held_drew (S := fun w' => Blk 32 w' N1 (pvC 6 n z) ∧ Blk 90 w' s (tsC T) ∧ Blk 106 w' xg (ndC 6 xn xz true xv fa fb2) ∧ Below w.heap.size w w') (by kernel_rfl) ⟨K3.out, KS.out, KF.out, HB.out.drew⟩ (fun hS => ?_)
      generalize hW6 : W5.drew = W6 at hS  ⊢
      clear hW6
      clear K3
      clear KS
      clear KF
      clear HB
      have K3 := Lib.hid hS.1
      have KS := Lib.hid hS.2.1
      have KF := Lib.hid hS.2.2.1
      have HB := Lib.hid hS.2.2.2
      refine takeY (i := 0) (some 26) (v := .pointer (some ⟨xg, 0, none⟩)) rfl rfl (by kernel_rfl) (by kernel_rfl) (by kernel_rfl) (fun _ _ _ h => h) (by rfl) (fun w' hS => by clear hS; go_simp) hS ?_
      simp only [Act.put, List.setIfInBounds_toArray, List.set_cons_zero, List.set_cons_succ]
      refine takeY (i := 1) (some 27) (v := .bool false) rfl rfl (by kernel_rfl) (by kernel_rfl) (by kernel_rfl) (fun _ _ _ h => h) (by rfl) (fun w' hS => by clear hS; go_simp) hS ?_
      simp only [Act.put, List.setIfInBounds_toArray, List.set_cons_zero, List.set_cons_succ]
      refine takeY (i := 2) (some 28) (v := .bool false) rfl rfl (by kernel_rfl) (by kernel_rfl) (by kernel_rfl) (fun _ _ _ h => h) (by rfl) (fun w' hS => by clear hS; go_simp) hS ?_
      simp only [Act.put, List.setIfInBounds_toArray, List.set_cons_zero, List.set_cons_succ]
      refine takeY (i := 3) (some 29) (v := .pointer (some ⟨xg, 0, none⟩)) rfl rfl (by kernel_rfl) (by kernel_rfl) (by kernel_rfl) (fun _ _ _ h => h) (by rfl) (fun w' hS => by clear hS; go_simp) hS ?_
      simp only [Act.put, List.setIfInBounds_toArray, List.set_cons_zero, List.set_cons_succ]
      refine takeY (i := 4) (some 30) (v := .pointer (some ⟨xg, 0, none⟩)) rfl rfl (by kernel_rfl) (by kernel_rfl) (by kernel_rfl) (fun _ _ _ h => h) (by rfl) (fun w' hS => by clear hS; go_simp) hS ?_
      simp only [Act.put, List.setIfInBounds_toArray, List.set_cons_zero, List.set_cons_succ]
      refine takeY (i := 5) (some 31) (v := .pointer (some ⟨xg, 0, none⟩)) rfl rfl (by kernel_rfl) (by kernel_rfl) (by kernel_rfl) (fun _ _ _ h => h) (by rfl) (fun w' hS => by clear hS; go_simp) hS ?_
      simp only [Act.put, List.setIfInBounds_toArray, List.set_cons_zero, List.set_cons_succ]
      refine takeL (i := 6) (some 32) 32 (.tmp 31) xg 0 (pvC 6 xn xz) _ rfl rfl (by kernel_rfl) (by kernel_rfl) (by kernel_rfl) (fun _ _ _ h => h) (by rfl) rfl rfl (fun w' hS => hS.2.2.1.ndpv) Try.underlying32 rfl (hi_pv 6 (xn : Int) xz) hS ?_
      simp only [Act.put, List.setIfInBounds_toArray, List.set_cons_zero, List.set_cons_succ]
      refine takeL (i := 7) (some 33) 32 (.tmp 3) N1 0 (pvC 6 n z) _ rfl rfl (by kernel_rfl) (by kernel_rfl) (by kernel_rfl) (fun _ _ _ h => h) (by rfl) rfl rfl (fun w' hS => hS.1.all) Try.underlying32 rfl (hi_pv 6 (n : Int) z) hS ?_
      simp only [Act.put, List.setIfInBounds_toArray, List.set_cons_zero, List.set_cons_succ]
      refine takeY (i := 8) (some 34) (v := .bool false) rfl rfl (by kernel_rfl) (by kernel_rfl) (by kernel_rfl) (fun _ _ _ h => h) (by rfl) (fun w' hS => by clear hS; refine (neq_pv _ _ _ _ rfl 6 (xn : Int) xz 6 (n : Int) z HFZ.out HZ.out rfl rfl _).trans ?_; rw [HE.out 6 rfl]; rfl) hS ?_
      simp only [Act.put, List.setIfInBounds_toArray, List.set_cons_zero, List.set_cons_succ]
      refine takeY (i := 9) (some 35) (v := .bool false) rfl rfl (by kernel_rfl) (by kernel_rfl) (by kernel_rfl) (fun _ _ _ h => h) (by rfl) (fun w' hS => by clear hS; go_simp) hS ?_
      simp only [Act.put, List.setIfInBounds_toArray, List.set_cons_zero, List.set_cons_succ]
      clear hS
      refine wpAnyH_done (by kernel_rfl) ?_ _
      have c19 : W6.cell? ⟨xg, 19, none⟩ = some (.int .i64 xv) := (KF.out.cell 19).trans rfl
      go_wp2_with fail
      refine bodyPost_ret (v := getV (some xv)) (by simp [results, Try.f42, go_sem, getV]) rfl ?_
      have e9 : G = some xv := by
        cases hG : G with
        | none => exact absurd HP.out (HG0.out (by rw [HG.out, hG]) _ _ HX.out)
        | some v9 =>
          have h1 := HG1.out v9 (by rw [HG.out, hG])
          rw [HX.out] at h1
          injection h1 with h1
          rw [(Prod.mk.inj h1).2]
      exact ⟨by rw [e9], HB.out⟩
    · skip
      have HE : Hid (∀ f, f = (6 : Int) → decide (f = 6 ∧ (xn : Int) = (n : Int) ∧ Same16 xz z) = false) := Lib.hid (fun f hf => decide_eq_false (fun h9 => hp ((btP_eq HFZ.out HZ.out HFF.out HF.out).2 ⟨by omega, h9.2.2⟩)))
      have HP := Lib.hid hp
      clear hp
      refine wp_region_held_drew (S := fun w' => Blk 32 w' N1 (pvC 6 n z) ∧ Blk 90 w' s (tsC T) ∧ Blk 106 w' xg (ndC 6 xn xz true xv fa fb2) ∧ Below w.heap.size w w') (by kernel_rfl) ⟨K3.out, KS.out, KF.out, HB.out.drew⟩ (fun hS => ?_)
      generalize hW6 : W5.drew = W6 at hS  ⊢
      clear hW6
      clear K3
      clear KS
      clear KF
      clear HB
      have K3 := Lib.hid hS.1
      have KS := Lib.hid hS.2.1
      have KF := Lib.hid hS.2.2.1
      have HB := Lib.hid hS.2.2.2
      refine takeY (i := 0) (some 26) (v := .pointer (some ⟨xg, 0, none⟩)) rfl rfl (by kernel_rfl) (by kernel_rfl) (by kernel_rfl) (fun _ _ _ h => h) (by rfl) (fun w' hS => by clear hS; go_simp) hS ?_
      simp only [Act.put, List.setIfInBounds_toArray, List.set_cons_zero, List.set_cons_succ]
      refine takeY (i := 1) (some 27) (v := .bool false) rfl rfl (by kernel_rfl) (by kernel_rfl) (by kernel_rfl) (fun _ _ _ h => h) (by rfl) (fun w' hS => by clear hS; go_simp) hS ?_
      simp only [Act.put, List.setIfInBounds_toArray, List.set_cons_zero, List.set_cons_succ]
      refine takeY (i := 2) (some 28) (v := .bool false) rfl rfl (by kernel_rfl) (by kernel_rfl) (by kernel_rfl) (fun _ _ _ h => h) (by rfl) (fun w' hS => by clear hS; go_simp) hS ?_
      simp only [Act.put, List.setIfInBounds_toArray, List.set_cons_zero, List.set_cons_succ]
      refine takeY (i := 3) (some 29) (v := .pointer (some ⟨xg, 0, none⟩)) rfl rfl (by kernel_rfl) (by kernel_rfl) (by kernel_rfl) (fun _ _ _ h => h) (by rfl) (fun w' hS => by clear hS; go_simp) hS ?_
      simp only [Act.put, List.setIfInBounds_toArray, List.set_cons_zero, List.set_cons_succ]
      refine takeY (i := 4) (some 30) (v := .pointer (some ⟨xg, 0, none⟩)) rfl rfl (by kernel_rfl) (by kernel_rfl) (by kernel_rfl) (fun _ _ _ h => h) (by rfl) (fun w' hS => by clear hS; go_simp) hS ?_
      simp only [Act.put, List.setIfInBounds_toArray, List.set_cons_zero, List.set_cons_succ]
      refine takeY (i := 5) (some 31) (v := .pointer (some ⟨xg, 0, none⟩)) rfl rfl (by kernel_rfl) (by kernel_rfl) (by kernel_rfl) (fun _ _ _ h => h) (by rfl) (fun w' hS => by clear hS; go_simp) hS ?_
      simp only [Act.put, List.setIfInBounds_toArray, List.set_cons_zero, List.set_cons_succ]
      refine takeL (i := 6) (some 32) 32 (.tmp 31) xg 0 (pvC 6 xn xz) _ rfl rfl (by kernel_rfl) (by kernel_rfl) (by kernel_rfl) (fun _ _ _ h => h) (by rfl) rfl rfl (fun w' hS => hS.2.2.1.ndpv) Try.underlying32 rfl (hi_pv 6 (xn : Int) xz) hS ?_
      simp only [Act.put, List.setIfInBounds_toArray, List.set_cons_zero, List.set_cons_succ]
      refine takeL (i := 7) (some 33) 32 (.tmp 3) N1 0 (pvC 6 n z) _ rfl rfl (by kernel_rfl) (by kernel_rfl) (by kernel_rfl) (fun _ _ _ h => h) (by rfl) rfl rfl (fun w' hS => hS.1.all) Try.underlying32 rfl (hi_pv 6 (n : Int) z) hS ?_
      simp only [Act.put, List.setIfInBounds_toArray, List.set_cons_zero, List.set_cons_succ]
      refine takeY (i := 8) (some 34) (v := .bool true) rfl rfl (by kernel_rfl) (by kernel_rfl) (by kernel_rfl) (fun _ _ _ h => h) (by rfl) (fun w' hS => by clear hS; refine (neq_pv _ _ _ _ rfl 6 (xn : Int) xz 6 (n : Int) z HFZ.out HZ.out rfl rfl _).trans ?_; rw [HE.out 6 rfl]; rfl) hS ?_
      simp only [Act.put, List.setIfInBounds_toArray, List.set_cons_zero, List.set_cons_succ]
      refine takeY (i := 9) (some 35) (v := .bool true) rfl rfl (by kernel_rfl) (by kernel_rfl) (by kernel_rfl) (fun _ _ _ h => h) (by rfl) (fun w' hS => by clear hS; go_simp) hS ?_
      simp only [Act.put, List.setIfInBounds_toArray, List.set_cons_zero, List.set_cons_succ]
      clear hS
      refine wpAnyH_done (by kernel_rfl) ?_ _
      go_wp2_with fail
      refine bodyPost_ret (v := getV none) (by simp [results, Try.f42, go_sem, getV]) rfl ?_
      have e9 : G = none := by
        cases hG : G with
        | none => rfl
        | some v9 =>
          have h1 := HG1.out v9 (by rw [HG.out, hG])
          rw [HX.out] at h1
          injection h1 with h1
          exact absurd (Prod.mk.inj h1).1 HP.out
      exact ⟨by rw [e9], HB.out⟩
end Go.Proofs.Ytjnbemopfhinbaa
