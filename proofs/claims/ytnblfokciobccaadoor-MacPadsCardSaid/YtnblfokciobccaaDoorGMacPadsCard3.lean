/- Texts of this claim put together; each theorem states its conditions. -/
import Derived.Test.YtnblfokciobccaaDoorGMacPadsCard2
import Derived.Lib.SlBytesConst
import Derived.Lib.AppendZerosOnto
import Derived.Test.YtnblfokciobccaaDoorCards
import Derived.Test.YtnblfokciobccaaDoorTie
import Derived.Test.YtnblfokciobccaaDoorGMacPadsCard1
import Derived.WalkKit
import Derived.ProofKit
import Derived.OpenShut
import Derived.LaidMore
import Derived.Deep.DeepHandedRow
import Derived.Deep.DeepWitnessRowRef
import Derived.Lib.LaidTab
import Derived.Stop.LaidErr
import Derived.ChangeOld
import Derived.SizedLaws
/- The example of mac's laws: it answers true. No condition but that the table lies as the text lays it. -/
namespace Go.Proofs.YtnblfokciobccaaDoor
open Go.RowKit
set_option linter.unusedVariables false

theorem abc_byt : (#[.int .u8 97, .int .u8 98, .int .u8 99] : Array Value) = bytC 3 abcZ := by kernel_rfl
theorem key_byt : (#[.int .u8 11, .int .u8 11, .int .u8 11, .int .u8 11, .int .u8 11, .int .u8 11, .int .u8 11, .int .u8 11, .int .u8 11, .int .u8 11, .int .u8 11, .int .u8 11, .int .u8 11, .int .u8 11, .int .u8 11, .int .u8 11, .int .u8 11, .int .u8 11, .int .u8 11, .int .u8 11] : Array Value) = bytC 20 keyE := by kernel_rfl
theorem msg_byt : (#[.int .u8 72, .int .u8 105, .int .u8 32, .int .u8 84, .int .u8 104, .int .u8 101, .int .u8 114, .int .u8 101] : Array Value) = bytC 8 msgE := by kernel_rfl
theorem lit_bd (l : List Int) (h : ∀ i, i < l.length → 0 ≤ l.getD i 0 ∧ l.getD i 0 ≤ 255) : ∀ j, 0 ≤ l.getD j 0 ∧ l.getD j 0 ≤ 255 := by
  intro j
  by_cases hj : j < l.length
  · exact h j hj
  · rw [List.getD_eq_getElem?_getD, List.getElem?_eq_none (by omega)]
    exact ⟨Int.le_refl 0, by show (0 : Int) ≤ 255; omega⟩
/-- '[]byte("..")': the row's bytes, in new memory -/
theorem wpList_cv {ops : Array Oper} {rest : List Oper} {op : Oper} {a : Act} {w : World} {Q : Exit → Act → World → Prop} (hgd : op.guard = none) (x : Operand) (ho : op.op = .convert 22 22 x) (w0 : World) (C : Array Value) (n c : Nat) (hw : w = w0.alloc (.cells C 5)) (hx : a.eval x = .slice (some ⟨w0.heap.size, 0, none⟩) n c) (N : Nat) (hN : w0.heap.size = N)
    (h : ∀ w', (∀ j, w'.cell? ⟨N, j, none⟩ = C[j]?) → Below w0.heap.size w0 w' → N < w'.heap.size → wpList Tryd.prog ops Q rest (a.put op.dst (.slice (some ⟨N, 0, none⟩) n c)) w') : wpList Tryd.prog ops Q (op :: rest) a w := by
  subst hw hN
  have hr := Lib.run_convert_bytes_const (P := Tryd.prog) w0 22 5 C n c Tryd.underlying22 Tryd.underlying5
  have hrun : (execOp a.eval op).run Tryd.prog (w0.alloc (.cells C 5)) = .ok (.value (.slice (some ⟨w0.heap.size, 0, none⟩) n c)) (w0.alloc (.cells C 5 (C.size, C.size + 1))) := by
    unfold execOp
    simp only [ho, hx, Sem.run_bind, Sem.run_pure, hr, Result.andThen_ok]
  refine wpList_plain hgd fun K hK => ?_
  unfold Oper.wp
  rw [hrun, Oper.upon_value]
  refine hK _ _ (h _ (fun j => ?_) ((bself w0).alloc (Nat.le_refl _) _) (by simp))
  exact cell_of_row _ _ j _ _ _ (show (w0.alloc (.cells C 5 (C.size, C.size + 1))).heap[w0.heap.size]? = some (.cells C 5 (C.size, C.size + 1)) from by show (w0.heap.push _)[w0.heap.size]? = _; rw [Array.getElem?_push, if_pos rfl])
theorem cell_rd {w : World} {g n : Nat} {z : Nat → Int} {C : Array Value} (h : ∀ j, w.cell? ⟨g, j, none⟩ = C[j]?) (hl : g < w.heap.size) (hC : C = bytC n z) (hz : ∀ j, 0 ≤ z j ∧ z j ≤ 255) : Rd w (some ⟨g, 0, none⟩) n z := by
  subst hC
  exact ⟨.inr ⟨g, 0, rfl, hl, fun j hj => by rw [Nat.zero_add, h]; exact byt_at _ _ hj, hz⟩, hz⟩
theorem abc_bd : ∀ j, 0 ≤ abcZ j ∧ abcZ j ≤ 255 := lit_bd _ (by decide +kernel)
theorem key_bdE : ∀ j, 0 ≤ keyE j ∧ keyE j ≤ 255 := lit_bd _ (by decide +kernel)
theorem msg_bd : ∀ j, 0 ≤ msgE j ∧ msgE j ≤ 255 := lit_bd _ (by decide +kernel)
set_option maxHeartbeats 8000000 in
set_option maxRecDepth 100000 in
theorem awakeH_any (w : World) (hg : Rts w 0) :
    Calls Tryd.prog 9 #[] w fun e w' => e = .returned (.bool true) ∧ Below w.heap.size w w' := by
  have RT := Lib.hid hg
  have hg9 := hg.2
  clear hg
  obtain ⟨d1, e1⟩ : ∃ s, shaZ abcZ 3 = s := ⟨_, rfl⟩
  obtain ⟨d2, e2⟩ : ∃ s, hmacZ keyE 20 msgE 8 = s := ⟨_, rfl⟩
  have x1 := ex_abc
  have x2 := ex_mac
  rw [e1] at x1
  rw [e2] at x2
  have HX := Lib.hid (And.intro x1 x2)
  have HE := Lib.hid (And.intro e1 e2)
  clear x1 x2 e1 e2
  go_enter Tryd.func9, Tryd.ntmps9
  have HB := Lib.hid (Below.refl w.heap.size w)
  obtain ⟨Na, hNa⟩ : ∃ N, w.heap.size = N := ⟨_, rfl⟩
  have HNa := Lib.hid hNa
  clear hNa
  go_wp2_with (refine wpList_cv rfl (.tmp 4) rfl w _ 3 3 rfl rfl Na HNa.out ?_; intro w1 k1 b1 s1; refine Hid.out ?_)
  refine Lib.hid ?_
  have KA := Lib.hid (cell_rd k1 s1 abc_byt abc_bd)
  clear k1 s1
  have RTn := Lib.hid (RT.out.below b1 RT.out.lt)
  clear RT
  have RT := RTn
  clear RTn
  have HBn := Lib.hid (HB.out.trans (b1.mono HB.out.size))
  clear HB
  have HB := HBn
  clear HBn
  clear b1
  go_wp2_with fail
  refine (sha_any _ 3 3 abcZ w1 KA.out (fun e => by cases e) ⟨Nat.le_refl _, by decide⟩ (by omega) RT.out).mono ?_
  rintro e w2 ⟨rfl, b1⟩
  clear KA
  have RTn := Lib.hid (RT.out.below b1 RT.out.lt)
  clear RT
  have RT := RTn
  clear RTn
  have HBn := Lib.hid (HB.out.trans (b1.mono HB.out.size))
  clear HB
  have HB := HBn
  clear HBn
  clear b1
  rw [HE.out.1]
  obtain ⟨N11, hN11⟩ : ∃ N, w2.heap.size = N := ⟨_, rfl⟩
  have HN11 := Lib.hid hN11
  clear hN11
  go_wp2_with (refine wpList_new (op := ⟨some 1, _, _, _, _, _⟩) rfl 26 rfl (bytC 32 fun _ => 0) zero_d N11 HN11.out ?_; intro w11 k1 b1 s1; refine Hid.out ?_)
  refine Lib.hid ?_
  have K1 := Lib.hid k1
  clear k1
  have lt_0_N11 : 0 < N11 := by rw [← HN11.out]; exact RT.out.lt
  have le_HB_N11 : w.heap.size ≤ N11 := by rw [← HN11.out]; exact HB.out.size
  have RTn := Lib.hid (RT.out.below b1 RT.out.lt)
  clear RT
  have RT := RTn
  clear RTn
  have HBn := Lib.hid (HB.out.trans (b1.mono HB.out.size))
  clear HB
  have HB := HBn
  clear HBn
  clear b1 HN11
  go_wp2_with (refine wpList_st rfl 26 (.tmp 1) (.tmp 6) rfl N11 0 rfl (.agg (bytC 32 d1)) (bytC 32 d1) rfl rfl (info_d _) (byt_one _ _) K1.out (byt_fit _ _ _) (C' := bytC 32 d1) (byt_all _ _ _) ?_; intro w20 q1; refine Hid.out ?_)
  refine Lib.hid ?_
  have RTn := Lib.hid (RT.out.far q1 (by omega))
  clear RT
  have RT := RTn
  clear RTn
  have HBn := Lib.hid (HB.out.trans (q1.2.1 _ (by omega)))
  clear HB
  have HB := HBn
  clear HBn
  have K1n : Hid (Blk 26 w20 N11 (bytC 32 d1)) := Lib.hid q1.1
  clear K1
  have K1 := K1n
  clear K1n q1
  obtain ⟨Nb, hNb⟩ : ∃ N, w20.heap.size = N := ⟨_, rfl⟩
  have HNb := Lib.hid hNb
  clear hNb
  go_wp2_with (refine wpList_cv rfl (.tmp 8) rfl w20 _ 20 20 rfl rfl Nb HNb.out ?_; intro w21 k1 b1 s1; refine Hid.out ?_)
  refine Lib.hid ?_
  have KK := Lib.hid (cell_rd k1 s1 key_byt key_bdE)
  clear k1 s1
  have RTn := Lib.hid (RT.out.below b1 RT.out.lt)
  clear RT
  have RT := RTn
  clear RTn
  have K1n := Lib.hid (K1.out.below b1 K1.out.lt)
  clear K1
  have K1 := K1n
  clear K1n
  have HBn := Lib.hid (HB.out.trans (b1.mono HB.out.size))
  clear HB
  have HB := HBn
  clear HBn
  clear b1
  obtain ⟨Nc, hNc⟩ : ∃ N, w21.heap.size = N := ⟨_, rfl⟩
  have HNc := Lib.hid hNc
  clear hNc
  go_wp2_with (refine wpList_cv rfl (.tmp 10) rfl w21 _ 8 8 rfl rfl Nc HNc.out ?_; intro w22 k1 b1 s1; refine Hid.out ?_)
  refine Lib.hid ?_
  have KM := Lib.hid (cell_rd k1 s1 msg_byt msg_bd)
  clear k1 s1
  have KKn := Lib.hid (KK.out.below b1 rfl)
  clear KK
  have KK := KKn
  clear KKn
  have RTn := Lib.hid (RT.out.below b1 RT.out.lt)
  clear RT
  have RT := RTn
  clear RTn
  have K1n := Lib.hid (K1.out.below b1 K1.out.lt)
  clear K1
  have K1 := K1n
  clear K1n
  have HBn := Lib.hid (HB.out.trans (b1.mono HB.out.size))
  clear HB
  have HB := HBn
  clear HBn
  clear b1
  go_wp2_with fail
  refine (hmac_any _ 20 20 keyE _ 8 8 msgE w22 KK.out (fun e => by cases e) KM.out (fun e => by cases e) (by omega) (by omega) RT.out).mono ?_
  rintro e w23 ⟨rfl, b1⟩
  clear KK KM
  have RTn := Lib.hid (RT.out.below b1 RT.out.lt)
  clear RT
  have RT := RTn
  clear RTn
  have K1n := Lib.hid (K1.out.below b1 K1.out.lt)
  clear K1
  have K1 := K1n
  clear K1n
  have HBn := Lib.hid (HB.out.trans (b1.mono HB.out.size))
  clear HB
  have HB := HBn
  clear HBn
  clear b1
  rw [HE.out.2]
  obtain ⟨N31, hN31⟩ : ∃ N, w23.heap.size = N := ⟨_, rfl⟩
  have HN31 := Lib.hid hN31
  clear hN31
  go_wp2_with (refine wpList_new (op := ⟨some 2, _, _, _, _, _⟩) rfl 26 rfl (bytC 32 fun _ => 0) zero_d N31 HN31.out ?_; intro w31 k1 b1 s1; refine Hid.out ?_)
  refine Lib.hid ?_
  have K2 := Lib.hid k1
  clear k1
  have lt_0_N31 : 0 < N31 := by rw [← HN31.out]; exact RT.out.lt
  have lt_N11_N31 : N11 < N31 := by rw [← HN31.out]; exact K1.out.lt
  have le_HB_N31 : w.heap.size ≤ N31 := by rw [← HN31.out]; exact HB.out.size
  have RTn := Lib.hid (RT.out.below b1 RT.out.lt)
  clear RT
  have RT := RTn
  clear RTn
  have K1n := Lib.hid (K1.out.below b1 K1.out.lt)
  clear K1
  have K1 := K1n
  clear K1n
  have HBn := Lib.hid (HB.out.trans (b1.mono HB.out.size))
  clear HB
  have HB := HBn
  clear HBn
  clear b1 HN31
  go_wp2_with (refine wpList_st rfl 26 (.tmp 2) (.tmp 13) rfl N31 0 rfl (.agg (bytC 32 d2)) (bytC 32 d2) rfl rfl (info_d _) (byt_one _ _) K2.out (byt_fit _ _ _) (C' := bytC 32 d2) (byt_all _ _ _) ?_; intro w40 q1; refine Hid.out ?_)
  refine Lib.hid ?_
  have RTn := Lib.hid (RT.out.far q1 (by omega))
  clear RT
  have RT := RTn
  clear RTn
  have K1n := Lib.hid (K1.out.far q1 (by omega))
  clear K1
  have K1 := K1n
  clear K1n
  have HBn := Lib.hid (HB.out.trans (q1.2.1 _ (by omega)))
  clear HB
  have HB := HBn
  clear HBn
  have K2n : Hid (Blk 26 w40 N31 (bytC 32 d2)) := Lib.hid q1.1
  clear K2
  have K2 := K2n
  clear K2n q1
  have cK10 : w40.cell? ⟨N11, 0, none⟩ = some (.int .u8 186) := (K1.out.cell 0).trans (by rw [byt_at _ _ (by omega), HX.out.1.1])
  have cK131 : w40.cell? ⟨N11, 31, none⟩ = some (.int .u8 173) := (K1.out.cell 31).trans (by rw [byt_at _ _ (by omega), HX.out.1.2])
  have cK20 : w40.cell? ⟨N31, 0, none⟩ = some (.int .u8 176) := (K2.out.cell 0).trans (by rw [byt_at _ _ (by omega), HX.out.2.1])
  have cK231 : w40.cell? ⟨N31, 31, none⟩ = some (.int .u8 247) := (K2.out.cell 31).trans (by rw [byt_at _ _ (by omega), HX.out.2.2])
  go_wp2_with fail
  go_ret
  exact ⟨rfl, HB.out⟩
end Go.Proofs.YtnblfokciobccaaDoor

/- 'append(p, make([]byte, k)...)': noughts behind bytes of the call's own. Each theorem states its conditions. -/
namespace Go.Proofs.YtnblfokciobccaaDoor
open Go.RowKit
set_option linter.unusedVariables false

def nou : Nat → Int := fun _ => 0
theorem zc (k : Nat) : Builtin.zeroCells (Value.cells (.int .u8 0)) k = (vals nou k).toArray := by
  apply Array.ext_getElem?
  intro j
  by_cases h : j < k
  · rw [show (vals nou k).toArray[j]? = (vals nou k)[j]? from by simp, vals_at _ _ _ h]
    simp [Builtin.zeroCells, Value.cells, h, Nat.mod_one, nou]
  · rw [Array.getElem?_eq_none (by rw [size_zeroCells]; simp [Value.cells]; omega), Array.getElem?_eq_none (by simp [vals_len]; omega)]
theorem run_zeros (base : Nat) (w : World) (ty : TypeId) (v : Value) (n : Nat) (xs : List Value) (hown : w.ownsRow base 5 1 v n xs) (k : Nat) (hn : n + k ≤ 140737488355328) (hbase : base ≤ w.heap.size) :
    ∃ v' w', (Builtin.append_ #[22, 3] ty #[v, .int .i64 (k : Int)]).run Tryd.prog w = .ok v' w' ∧ w'.ownsRow base 5 1 v' (n + k) (xs ++ vals nou k) ∧ w.grownBy w' v.ownBlock ∧ (v'.ownBlock = v.ownBlock ∨ v'.ownBlock = some w.heap.size) := by
  obtain ⟨i, hi, hz0, hz1, hz2⟩ := info_parts info_u8
  have ht := Tryd.underlying22
  have htn := Tryd.underlying3
  have hw : IntKind.i64.wrap (k : Int) = k := by rw [IntKind.wrap_i64]; omega
  have hneg : ¬ ((k : Int) < 0) := by omega
  have hlen : (xs ++ vals nou k).length = (n + k) * 1 := by rw [List.length_append, hown.1, vals_len, Nat.add_mul, Nat.mul_one k]
  have h48i : ¬ (281474976710656 < (k : Int) * (i.bytes : Int)) := by rw [hz2]; omega
  by_cases hk : k = 0
  · subst hk
    refine ⟨v, w, ?_, by simpa [vals] using hown, ⟨rfl, rfl, rfl, Nat.le_refl _, fun _ _ _ => rfl⟩, .inl rfl⟩
    rcases hown.2 with ⟨rfl, rfl⟩ | ⟨g, cap, cur, rfl, hbg, hg, hnc, hcm, hcs, htake⟩
    · simp [Builtin.append_, run_underlying ht, run_underlying htn, sizeOf, typeInfo, hi, asInt, asIntOf, IntKind.wrap_i64]
    · simp [Builtin.append_, run_underlying ht, run_underlying htn, sizeOf, typeInfo, hi, asInt, asIntOf, IntKind.wrap_i64, hnc, storeCells]
  · have grown : ∀ (old : Nat), ∀ (row : Option Nat),
      (w.drew.alloc (.cells (xs.toArray ++ (vals nou k).toArray ++ Builtin.zeroCells (Value.cells (.int .u8 0)) (grownCap w (n + k) old 5 - (n + k))) 5)).ownsRow base 5 1
        (.slice (some ⟨w.heap.size, 0, none⟩) (n + k) (grownCap w (n + k) old 5)) (n + k) (xs ++ vals nou k) ∧
      w.grownBy (w.drew.alloc (.cells (xs.toArray ++ (vals nou k).toArray ++ Builtin.zeroCells (Value.cells (.int .u8 0)) (grownCap w (n + k) old 5 - (n + k))) 5)) row := by
      intro old row
      have hge := grownCap_ge w (n + k) old 5
      have hcm : grownCap w (n + k) old 5 ≤ maxLen := grownCap_le_maxLen w (n + k) old 5 (by unfold maxLen; omega)
      refine ⟨⟨hlen, .inr ⟨w.heap.size, _, _, rfl, hbase, heap_alloc_new w.drew _, hge, hcm, ?_, ?_⟩⟩, ⟨rfl, rfl, rfl, by simp, fun k hk _ => heap_alloc_old w.drew _ hk⟩⟩
      · simp only [Array.size_append, List.size_toArray, size_zeroCells, hown.1, vals_len, Value.cells]
        simp
        omega
      · simp only [Array.toList_append, List.append_assoc]
        rw [← List.append_assoc, ← hlen]
        exact List.take_left
    rcases hown.2 with ⟨rfl, rfl⟩ | ⟨g, cap, cur, rfl, hbg, hg, hnc, hcm, hcs, htake⟩
    · have hx : xs = [] := List.eq_nil_of_length_eq_zero (by simpa using hown.1)
      subst hx
      have hr := Lib.run_append_nil_zeros (P := Tryd.prog) w 22 3 ty 5 i (.int .u8 0) .i64 .i64 ht htn hi hz0 k (by omega) (by omega) (by omega) (by rw [hz2]; omega)
      rw [zc k] at hr
      have hgr := grown 0 (Value.ownBlock (.slice none 0 0))
      simp only [Nat.zero_add, List.nil_append, Array.empty_append] at hgr ⊢
      exact ⟨_, _, hr, hgr.1, hgr.2, .inr rfl⟩
    · by_cases hroom : n + k ≤ cap
      · have hst := run_storeCells_at Tryd.prog g (n * 1) 5 (vals nou k) 0 cur w hg (by rw [vals_len]; omega) (vals_one _ _)
        simp only [Nat.add_zero, Nat.mul_one] at hst
        have hr : (Builtin.append_ #[22, 3] ty #[.slice (some ⟨g, 0, none⟩) n cap, .int .i64 (k : Int)]).run Tryd.prog w = .ok (.slice (some ⟨g, 0, none⟩) (n + k) cap) (w.setRow g (cur.toList.take n ++ vals nou k ++ cur.toList.drop (n + (vals nou k).length)).toArray) := by
          simp [Builtin.append_, run_underlying ht, run_underlying htn, sizeOf, typeInfo, hi, zeroValue, hz0, hz1, hz2, asInt, asIntOf, hw, hneg, hk, hroom, zc, Addr.add_lit, hst, show ¬ (281474976710656 < (k : Int)) from by omega]
        refine ⟨_, _, hr, ⟨hlen, .inr ⟨g, cap, _, rfl, hbg, setRow_heap w g cur _ _ _ hg, hroom, hcm, ?_, ?_⟩⟩, ⟨rfl, rfl, rfl, by simp, fun k _ hk => setRow_other w g k _ (fun e => hk (by simp [Value.ownBlock, e]))⟩, .inl rfl⟩
        · simp only [List.size_toArray, List.length_append, List.length_take, List.length_drop, Array.length_toList, vals_len]
          omega
        · rw [Nat.mul_one] at htake
          rw [htake, ← hlen]
          exact List.take_left
      · have holds : ∀ j u, xs[j]? = some u → w.cell? ((⟨g, 0, none⟩ : Addr).add j) = some u := hown.cells (g := g) rfl
        have hold := run_firstCells_some (P := Tryd.prog) w.drew i.size n ⟨g, 0, none⟩ n cap xs (by rw [hz1]; exact hown.1) (by simpa using holds)
        have hr := Lib.run_append_grow_zeros (P := Tryd.prog) w 22 3 ty 5 i (.int .u8 0) .i64 .i64 ht htn hi hz0 (some ⟨g, 0, none⟩) n cap xs hold k (by omega) (by omega) (by omega) (by omega) (by rw [hz2]; omega) (growslice_fits (by omega) (by rw [hz2]; omega))
        rw [zc k] at hr
        have hgr := grown cap (Value.ownBlock (.slice (some ⟨g, 0, none⟩) n cap))
        exact ⟨_, _, hr, hgr.1, hgr.2, .inr rfl⟩
/-- noughts behind bytes that grow -/
theorem hout_zeros {o : Oper} {a : Act} {w0 w : World} {v : Value} {n : Nat} {z : Nat → Int} {l : List (Nat × Obj)} (s x : Operand)
    (ho : o.op = .call { callee := .builtin .append, args := #[s, x], argTypes := #[22, 3] })
    (hs : a.eval s = v) (h : HOut w0 w v n z l) (k : Nat) (hx : a.eval x = .int .i64 (k : Int)) (hn : n + k ≤ 140737488355328) :
    ∃ v' w', (execOp a.eval o).run Tryd.prog w = .ok (.value v') w' ∧ HOut w0 w' v' (n + k) (catZ z n nou) l := by
  obtain ⟨v', w', hr, h2, h3, h5⟩ := run_zeros w0.heap.size w o.type v n _ h.1.1 k hn h.le
  refine ⟨v', w', ?_, ⟨⟨by rw [← hvals_cat]; exact h2, hcat_bd h.1.2 (fun _ => ⟨Int.le_refl 0, by show (0 : Int) ≤ 255; omega⟩) _⟩, h.2.1.grown h3 h.le (fun k e => (h.1.1.lt k e).1), fun p hp => ?_, fun p hp e => ?_⟩⟩
  · unfold execOp
    simp only [ho, resolve, invoke, builtin, Sem.run_bind, Sem.run_pure, Result.andThen_ok, List.map_toArray, List.map_cons, List.map_nil, hs, hx, hr]
  · exact (h3.block p.1 (Array.getElem?_eq_some_iff.1 (h.2.2.1 p hp)).1 (fun e => h.2.2.2 p hp e.symm)).trans (h.2.2.1 p hp)
  · rcases h5 with h5 | h5
    · rw [h5] at e; exact h.2.2.2 p hp e
    · rw [h5] at e
      injection e with e
      have := (Array.getElem?_eq_some_iff.1 (h.2.2.1 p hp)).1
      omega
/-- where it alone may come up -/
theorem takeHZ {ops : Array Oper} {Q : Exit → Act → World → Prop} {md : Region.Mode} {S : World → Prop} {i : Nat} {oi : Oper} (d : Option Tmp) {fuel : Nat} {listed : Array Bool} {a : Act} {w0 w : World} {v : Value} {n : Nat} {z : Nat → Int} {l : List (Nat × Obj)} (s x : Operand) (hi : ops[i]? = some oi) (hd : oi.dst = d)
    (hr : Region.ready md ops listed = [i]) (hw : Region.wanted oi (yielded ops a.tmps) = true)
    (ho : oi.op = .call { callee := .builtin .append, args := #[s, x], argTypes := #[22, 3] })
    (hs : a.eval s = v) (h : HOut w0 w v n z l) (k : Nat) (hx : a.eval x = .int .i64 (k : Int)) (hn : n + k ≤ 140737488355328)
    (H : ∀ v' w', HOut w0 w' v' (n + k) (catZ z n nou) l → S w' ∧ wpAnyH Tryd.prog md ops Q S fuel (listed.setIfInBounds i true) (a.put d v') w') :
    wpAnyH Tryd.prog md ops Q S (fuel + 1) listed a w := by
  obtain ⟨v', w', h2, h3⟩ := hout_zeros s x ho hs h k hx hn
  obtain ⟨h7, h8⟩ := H v' w' h3
  exact takeV d hi hd hr hw h2 h7 h8
end Go.Proofs.YtnblfokciobccaaDoor

/- The walk of MacPads: for every input the law returns true, and nothing that was there is written, if the table lies as the text lays it. -/
namespace Go.Proofs.YtnblfokciobccaaDoor
open Go.RowKit
set_option linter.unusedVariables false

theorem hmac_pads (z : Nat → Int) (m k : Nat) (p : Nat → Int) (n : Nat) : hmacZ (catZ z m nou) (m + k) p n = hmacZ z m p n := by
  have e : keyZ (catZ z m nou) (m + k) = keyZ z m := by
    funext j
    unfold keyZ catZ nou
    by_cases h : j < m
    · rw [if_pos (by omega), if_pos h]
    · rw [if_neg h]
      split <;> rfl
  unfold hmacZ
  rw [e]
theorem OwnB.shape3 {w : World} {base n : Nat} {v : Value} {z : Nat → Int} (h : OwnB w base v n z) : ∃ A c, v = .slice A n c ∧ n ≤ c ∧ c ≤ maxLen ∧ (A = none → n = 0 ∧ c = 0) ∧ Rd w A n z ∧ ∀ ad, A = some ad → ad.block < w.heap.size := by
  rcases h.1.2 with ⟨rfl, rfl⟩ | ⟨g, cap, cur, rfl, hb, hc, h1, h2, h3, h4⟩
  · exact ⟨none, 0, rfl, Nat.le_refl _, by decide, fun _ => ⟨rfl, rfl⟩, ⟨.inl rfl, h.2⟩, fun ad e => by cases e⟩
  · obtain ⟨A, c, he, a1, a2, a3, hR⟩ := h.shape
    injection he with e1 e2 e3
    subst e1 e3
    exact ⟨_, _, rfl, a1, a2, a3, hR, fun ad e => by injection e with e; subst e; exact (Array.getElem?_eq_some_iff.1 hc).1⟩
theorem min64 (n c : Nat) (h : n ≤ c) : ∃ k : Nat, (if 64 < (n : Int) then 64 else (n : Int)) = (k : Int) ∧ k ≤ 64 ∧ k ≤ n ∧ k ≤ c := by
  by_cases h3 : 64 < (n : Int)
  · exact ⟨64, by rw [if_pos h3]; rfl, by omega, by omega, by omega⟩
  · exact ⟨n, by rw [if_neg h3], by omega, by omega, h⟩
theorem isRow_cap {w : World} {A : Option Addr} {len cap : Nat} {zs : List Int} (h : IsRow .u8 w A len cap zs) : len ≤ cap := by
  rcases h with ⟨_, rfl, rfl, _⟩ | ⟨_, _, h1, h2, _⟩
  · exact Nat.le_refl _
  · exact h1
theorem run_rem64 (o : Oper) (e : Operand → Value) (x y : Operand) (t u : TypeId) (ho : o.op = .binOp .rem t x y u) (a b c : Nat) (h0 : e x = .int .i64 (a : Int)) (h1 : e y = .int .i64 (b : Int)) (hb : 0 < b) (hc : a % b = c) (hs : a ≤ 1000) (W : World) : (execOp e o).run Tryd.prog W = .ok (.value (.int .i64 (c : Int))) W := by
  subst hc
  unfold execOp
  simp only [ho, h0, h1]
  have e1 : Int.tmod (a : Int) (b : Int) = ((a % b : Nat) : Int) := by rw [Int.tmod_eq_emod_of_nonneg (by omega)]; rfl
  simp [go_sem, e1]
  omega
set_option maxHeartbeats 8000000 in
set_option maxRecDepth 100000 in
theorem walkMacPads (A : Option Addr) (n c : Nat) (zs : List Int) (B : Option Addr) (np cp : Nat) (ps : List Int) (nn : Int) (w : World) (h0 : IsRow .u8 w A n c zs) (s0 : c * 1 ≤ 140737488351232) (h1 : IsRow .u8 w B np cp ps) (s1 : cp * 1 ≤ 140737488351232) (h2 : (Lit.int .u8 nn).wf = true) (hg : Rts w 0) :
    Calls Tryd.prog 7 #[.slice A n c, .slice B np cp, .int .u8 nn] w fun e w' => e = .returned (.bool true) ∧ Below w.heap.size w w' := by
  obtain ⟨hk, hA⟩ := isRow_rd h0
  obtain ⟨hp, hB⟩ := isRow_rd h1
  have hc0 := isRow_cap h0
  have hc1 := isRow_cap h1
  obtain ⟨z, ez⟩ : ∃ z : Nat → Int, (fun j => zs.getD j 0) = z := ⟨_, rfl⟩
  obtain ⟨y, ey⟩ : ∃ z : Nat → Int, (fun j => ps.getD j 0) = z := ⟨_, rfl⟩
  rw [ez] at hk
  rw [ey] at hp
  have h2' := wf_u8 h2
  obtain ⟨q, rfl⟩ : ∃ q : Nat, nn = (q : Int) := ⟨nn.toNat, by omega⟩
  have hq255 : q ≤ 255 := by omega
  obtain ⟨m, hm, hm64, hmn, hmc⟩ := min64 n c hc0
  obtain ⟨k, ek⟩ : ∃ k, q % (65 - m) = k := ⟨_, rfl⟩
  have hkm : m + k ≤ 64 := by
    have : q % (65 - m) < 65 - m := Nat.mod_lt _ (by omega)
    omega
  have hnp : np ≤ 140737488355200 := by omega
  have hnA : A = none → m = 0 ∧ c = 0 := fun e => by have := hA e; omega
  have HK := Lib.hid (show Rd w A m z from hk.cut m hmn)
  have HA := Lib.hid hnA
  have HP := Lib.hid hp
  have HPB := Lib.hid hB
  have RT := Lib.hid hg
  have hg9 := hg.2
  have EK := Lib.hid ek
  obtain ⟨s, es⟩ : ∃ s, hmacZ z m y np = s := ⟨_, rfl⟩
  have HS := Lib.hid (show hmacZ (catZ z m nou) (m + k) y np = s from by rw [hmac_pads, es])
  have HSS := Lib.hid es
  have HSB : Hid (∀ j, 0 ≤ s j ∧ s j ≤ 255) := Lib.hid (by rw [← es]; exact dg_bd _)
  clear h0 h1 h2 hk hA hp hB hc0 hc1 ez ey h2' hg ek es s0 s1 hnA
  go_enter Tryd.func7, Tryd.ntmps7
  have HB := Lib.hid (Below.refl w.heap.size w)
  go_wp2_with fail
  refine (awakeH_any w RT.out).mono ?_
  rintro e w1 ⟨rfl, b1⟩
  have RTn := Lib.hid (RT.out.below b1 RT.out.lt)
  clear RT
  have RT := RTn
  clear RTn
  have HBn := Lib.hid (HB.out.trans (b1.mono HB.out.size))
  clear HB
  have HB := HBn
  clear HBn
  clear b1
  go_wp2_with fail
  refine wp_region_held_drew (S := fun w' => Rts w' 0  ∧ Below w.heap.size w w') (by kernel_rfl) ⟨RT.out, HB.out.drew⟩ (fun hS => ?_)
  generalize hW1 : w1.drew = W1 at hS ⊢
  clear hW1
  clear RT
  clear HB
  have RT := Lib.hid hS.1
  have HB := Lib.hid hS.2
  refine takeY (i := 0) (some 19) (v := .slice A m c) rfl rfl (by kernel_rfl) (by kernel_rfl) (by kernel_rfl) (fun _ _ _ h => h) (by rfl) (fun w' hS => by go_simp) hS ?_
  simp only [Act.put, List.setIfInBounds_toArray, List.set_cons_zero, List.set_cons_succ]
  refine takeY (i := 2) (some 21) (v := .int .u8 (q : Int)) rfl rfl (by kernel_rfl) (by kernel_rfl) (by kernel_rfl) (fun _ _ _ h => h) (by rfl) (fun w' hS => by go_simp) hS ?_
  simp only [Act.put, List.setIfInBounds_toArray, List.set_cons_zero, List.set_cons_succ]
  refine takeY (i := 3) (some 22) (v := .int .i64 (q : Int)) rfl rfl (by kernel_rfl) (by kernel_rfl) (by kernel_rfl) (fun _ _ _ h => h) (by rfl) (fun w' hS => by (go_simp; rw [IntKind.wrap_i64]; omega)) hS ?_
  simp only [Act.put, List.setIfInBounds_toArray, List.set_cons_zero, List.set_cons_succ]
  refine takeY (i := 4) (some 23) (v := .slice A m c) rfl rfl (by kernel_rfl) (by kernel_rfl) (by kernel_rfl) (fun _ _ _ h => h) (by rfl) (fun w' hS => by go_simp) hS ?_
  simp only [Act.put, List.setIfInBounds_toArray, List.set_cons_zero, List.set_cons_succ]
  refine takeY (i := 5) (some 24) (v := .int .i64 (m : Int)) rfl rfl (by kernel_rfl) (by kernel_rfl) (by kernel_rfl) (fun _ _ _ h => h) (by rfl) (fun w' hS => by go_simp) hS ?_
  simp only [Act.put, List.setIfInBounds_toArray, List.set_cons_zero, List.set_cons_succ]
  refine takeY (i := 6) (some 25) (v := .int .i64 ((65 - m : Nat) : Int)) rfl rfl (by kernel_rfl) (by kernel_rfl) (by kernel_rfl) (fun _ _ _ h => h) (by rfl) (fun w' hS => by exact run_sub64 _ _ _ _ _ _ rfl 65 (m : Int) _ rfl rfl (by omega) (by omega) _) hS ?_
  simp only [Act.put, List.setIfInBounds_toArray, List.set_cons_zero, List.set_cons_succ]
  refine takeY (i := 7) (some 26) (v := .int .i64 (k : Int)) rfl rfl (by kernel_rfl) (by kernel_rfl) (by kernel_rfl) (fun _ _ _ h => h) (by rfl) (fun w' hS => by exact run_rem64 _ _ _ _ _ _ rfl q (65 - m) k rfl rfl (by omega) EK.out (by omega) _) hS ?_
  simp only [Act.put, List.setIfInBounds_toArray, List.set_cons_zero, List.set_cons_succ]
  have HKW := Lib.hid (HK.out.below HB.out rfl)
  have RT0 := Lib.hid RT.out
  have HB0 := Lib.hid HB.out
  refine takeCE (i := 1) (some 20) 27 #[.slice A m c] (R := fun v w' => HOut W1 w' v m z []) rfl rfl (by kernel_rfl) (by rfl) (by go_simp) ((twin_any A m c z W1 HKW.out HA.out (by omega)).mono (fun e w' h => by obtain ⟨g, cap, h1, h2, h3, h4⟩ := h; exact ⟨_, h1, h3.ownB h2, h4, HKp.nil _, fun p hp => by cases hp⟩)) (fun v w' h => by have hb := h.2.1; exact ⟨hS.1.below hb hS.1.lt, hS.2.trans (hb.mono hS.2.size)⟩) (fun v3 W2 h hS2 => ?_)
  simp only [Act.put, List.setIfInBounds_toArray, List.set_cons_zero, List.set_cons_succ]
  have HO3 := Lib.hid h
  clear h hS HKW
  clear RT
  clear HB
  have hS := hS2
  clear hS2
  have RT := Lib.hid hS.1
  have HB := Lib.hid hS.2
  refine takeHZ (i := 8) (some 27) (.tmp 20) (.tmp 26) rfl rfl (by kernel_rfl) (by rfl) rfl rfl HO3.out k rfl (by omega) ?_
  intro v4 W3 ho4
  have hb4 := ho4.2.1
  refine ⟨⟨RT0.out.below hb4 RT0.out.lt, HB0.out.trans (hb4.mono HB0.out.size)⟩, ?_⟩
  simp only [Act.put, List.setIfInBounds_toArray, List.set_cons_zero, List.set_cons_succ]
  obtain ⟨A4, c4, rfl, h41, h42, h43, h44, h45⟩ := ho4.1.shape3
  have HM := Lib.hid h44
  have HMA := Lib.hid h43
  have HMF := Lib.hid h45
  clear HO3 hS h41 h42 h43 h44 h45
  clear RT
  clear HB
  have RT := Lib.hid (RT0.out.below hb4 RT0.out.lt)
  have HB := Lib.hid (HB0.out.trans (hb4.mono HB0.out.size))
  clear RT0 HB0 ho4 hb4
  have hS := (And.intro RT.out HB.out)
  refine takeY (i := 9) (some 7) (v := .slice A4 (m + k) c4) rfl rfl (by kernel_rfl) (by kernel_rfl) (by kernel_rfl) (fun _ _ _ h => h) (by rfl) (fun w' hS => by go_simp) hS ?_
  simp only [Act.put, List.setIfInBounds_toArray, List.set_cons_zero, List.set_cons_succ]
  clear hS
  refine wpAnyH_done (by kernel_rfl) ?_ _
  have HB4 := Lib.hid (Below.refl W3.heap.size W3)
  have HK1 := Lib.hid (HK.out.below HB.out rfl)
  have HP1 := Lib.hid (HP.out.below HB.out rfl)
  have HH := Lib.hid (hmac_any A m c z B np cp y W3 HK1.out HA.out HP1.out HPB.out hm64 hnp RT.out)
  rw [HSS.out] at HH
  go_wp2_with fail
  refine HH.out.mono ?_
  rintro e w30 ⟨rfl, b1⟩
  clear HH HK1 HP1
  have HMn := Lib.hid (HM.out.below b1 rfl)
  clear HM
  have HM := HMn
  clear HMn
  have RTn := Lib.hid (RT.out.below b1 RT.out.lt)
  clear RT
  have RT := RTn
  clear RTn
  have HBn := Lib.hid (HB.out.trans (b1.mono HB.out.size))
  clear HB
  have HB := HBn
  clear HBn
  have HB4n := Lib.hid (HB4.out.trans (b1.mono HB4.out.size))
  clear HB4
  have HB4 := HB4n
  clear HB4n
  clear b1
  obtain ⟨N41, hN41⟩ : ∃ N, w30.heap.size = N := ⟨_, rfl⟩
  have HN41 := Lib.hid hN41
  clear hN41
  go_wp2_with (refine wpList_new (op := ⟨some 8, _, _, _, _, _⟩) rfl 26 rfl (bytC 32 fun _ => 0) zero_d N41 HN41.out ?_; intro w41 k1 b1 s1; refine Hid.out ?_)
  refine Lib.hid ?_
  have K1 := Lib.hid k1
  clear k1
  have lt_0_N41 : 0 < N41 := by rw [← HN41.out]; exact RT.out.lt
  have le_HB_N41 : w.heap.size ≤ N41 := by rw [← HN41.out]; exact HB.out.size
  have le_HB4_N41 : W3.heap.size ≤ N41 := by rw [← HN41.out]; exact HB4.out.size
  have HMn := Lib.hid (HM.out.below b1 rfl)
  clear HM
  have HM := HMn
  clear HMn
  have RTn := Lib.hid (RT.out.below b1 RT.out.lt)
  clear RT
  have RT := RTn
  clear RTn
  have HBn := Lib.hid (HB.out.trans (b1.mono HB.out.size))
  clear HB
  have HB := HBn
  clear HBn
  have HB4n := Lib.hid (HB4.out.trans (b1.mono HB4.out.size))
  clear HB4
  have HB4 := HB4n
  clear HB4n
  clear b1 HN41
  go_wp2_with (refine wpList_st rfl 26 (.tmp 8) (.tmp 32) rfl N41 0 rfl (.agg (bytC 32 s)) (bytC 32 s) rfl rfl (info_d _) (byt_one _ _) K1.out (byt_fit _ _ _) (C' := bytC 32 s) (byt_all _ _ _) ?_; intro w50 q1; refine Hid.out ?_)
  refine Lib.hid ?_
  have HMn := Lib.hid (HM.out.far q1 (fun ad e => by have := HMF.out ad e; have := le_HB4_N41; omega))
  clear HM
  have HM := HMn
  clear HMn
  have RTn := Lib.hid (RT.out.far q1 (by omega))
  clear RT
  have RT := RTn
  clear RTn
  have HBn := Lib.hid (HB.out.trans (q1.2.1 _ (by omega)))
  clear HB
  have HB := HBn
  clear HBn
  have HB4n := Lib.hid (HB4.out.trans (q1.2.1 _ (by omega)))
  clear HB4
  have HB4 := HB4n
  clear HB4n
  have K1n : Hid (Blk 26 w50 N41 (bytC 32 s)) := Lib.hid q1.1
  clear K1
  have K1 := K1n
  clear K1n q1
  have HH := Lib.hid (hmac_any A4 (m + k) c4 (catZ z m nou) B np cp y w50 HM.out HMA.out (HP.out.below HB.out rfl) HPB.out hkm hnp RT.out)
  rw [HS.out] at HH
  go_wp2_with fail
  refine HH.out.mono ?_
  rintro e w60 ⟨rfl, b1⟩
  clear HH HM
  have RTn := Lib.hid (RT.out.below b1 RT.out.lt)
  clear RT
  have RT := RTn
  clear RTn
  have K1n := Lib.hid (K1.out.below b1 K1.out.lt)
  clear K1
  have K1 := K1n
  clear K1n
  have HBn := Lib.hid (HB.out.trans (b1.mono HB.out.size))
  clear HB
  have HB := HBn
  clear HBn
  have HB4n := Lib.hid (HB4.out.trans (b1.mono HB4.out.size))
  clear HB4
  have HB4 := HB4n
  clear HB4n
  clear b1
  obtain ⟨N71, hN71⟩ : ∃ N, w60.heap.size = N := ⟨_, rfl⟩
  have HN71 := Lib.hid hN71
  clear hN71
  go_wp2_with (refine wpList_new (op := ⟨some 10, _, _, _, _, _⟩) rfl 26 rfl (bytC 32 fun _ => 0) zero_d N71 HN71.out ?_; intro w71 k1 b1 s1; refine Hid.out ?_)
  refine Lib.hid ?_
  have K2 := Lib.hid k1
  clear k1
  have lt_0_N71 : 0 < N71 := by rw [← HN71.out]; exact RT.out.lt
  have lt_N41_N71 : N41 < N71 := by rw [← HN71.out]; exact K1.out.lt
  have le_HB_N71 : w.heap.size ≤ N71 := by rw [← HN71.out]; exact HB.out.size
  have le_HB4_N71 : W3.heap.size ≤ N71 := by rw [← HN71.out]; exact HB4.out.size
  have RTn := Lib.hid (RT.out.below b1 RT.out.lt)
  clear RT
  have RT := RTn
  clear RTn
  have K1n := Lib.hid (K1.out.below b1 K1.out.lt)
  clear K1
  have K1 := K1n
  clear K1n
  have HBn := Lib.hid (HB.out.trans (b1.mono HB.out.size))
  clear HB
  have HB := HBn
  clear HBn
  have HB4n := Lib.hid (HB4.out.trans (b1.mono HB4.out.size))
  clear HB4
  have HB4 := HB4n
  clear HB4n
  clear b1 HN71
  go_wp2_with (refine wpList_st rfl 26 (.tmp 10) (.tmp 38) rfl N71 0 rfl (.agg (bytC 32 s)) (bytC 32 s) rfl rfl (info_d _) (byt_one _ _) K2.out (byt_fit _ _ _) (C' := bytC 32 s) (byt_all _ _ _) ?_; intro w80 q1; refine Hid.out ?_)
  refine Lib.hid ?_
  have RTn := Lib.hid (RT.out.far q1 (by omega))
  clear RT
  have RT := RTn
  clear RTn
  have K1n := Lib.hid (K1.out.far q1 (by omega))
  clear K1
  have K1 := K1n
  clear K1n
  have HBn := Lib.hid (HB.out.trans (q1.2.1 _ (by omega)))
  clear HB
  have HB := HBn
  clear HBn
  have HB4n := Lib.hid (HB4.out.trans (q1.2.1 _ (by omega)))
  clear HB4
  have HB4 := HB4n
  clear HB4n
  have K2n : Hid (Blk 26 w80 N71 (bytC 32 s)) := Lib.hid q1.1
  clear K2
  have K2 := K2n
  clear K2n q1
  have hlen : (m : Int) + (k : Int) ≤ 64 := by omega
  go_wp2_with (first | (refine wpList_gv (op := ⟨some 47, _, _, _, _, _⟩) (.agg (bytC 32 s)) (by rfl) (load_rng _ _ 26 (.tmp 8) rfl N41 0 rfl (bytC 32 s).toList _ K1.out.all Tryd.underlying26 rfl (info_dL _)) ?_; refine Hid.out ?_))
  refine Lib.hid ?_
  go_wp2_with (first | (refine wpList_gv (op := ⟨some 48, _, _, _, _, _⟩) (.agg (bytC 32 s)) (by rfl) (load_rng _ _ 26 (.tmp 10) rfl N71 0 rfl (bytC 32 s).toList _ K2.out.all Tryd.underlying26 rfl (info_dL _)) ?_; refine Hid.out ?_))
  refine Lib.hid ?_
  go_wp2_with (first | (refine wpList_gv (op := ⟨some 49, _, _, _, _, _⟩) (.bool true) (by rfl) (eql_self _ _ _ _ _ _ rfl rfl (by kernel_rfl) (bytC 32 s) (self_bytes 9998 32 _ s HSB.out Tryd.underlying26) rfl rfl _) ?_; refine Hid.out ?_))
  refine Lib.hid ?_
  go_wp2_with fail
  go_ret
  exact ⟨rfl, HB.out⟩
end Go.Proofs.YtnblfokciobccaaDoor

/- What mac's rows have alike: the table of roots, out of the row's list; a start that meets the list. -/
namespace Go.Proofs.YtnblfokciobccaaDoor
open Go.ChangeShapes Go.WideShapes Go.ChangeAt Go.RowKit
set_option linter.unusedVariables false

theorem own : ownKnob Tryd.prog.godebug = none := by kernel_rfl
theorem laidOut : laidOutB Tryd.prog = true := by kernel_rfl
theorem gRoot : Tryd.prog.globalNamed "waymark/mac.roots" = some 0 := by kernel_rfl
theorem gRootT : (Tryd.prog.globals[0]?).map (·.type) = some 76 := by kernel_rfl
theorem gRootC : Tryd.prog.cellsOf 76 = 64 := by kernel_rfl
theorem cu32 : Tryd.prog.cellsOf 39 = 1 := by kernel_rfl
def rootI : List Int := rootL.map fun (n : Nat) => (n : Int)
/-- what the rows list -/
def laidL : List (String × DataW Unit) := Rows.macPadsRow.laid
theorem laidL_eq : laidL = [("waymark/mac.roots", Lib.tabData .u32 rootI)] := by kernel_rfl
theorem rts_of_laid {W : World} (h : laidMetH Tryd.prog laidL W) : Rts W 0 := by
  rw [laidL_eq] at h
  rw [MakeChecks.laidMetH_plain _ _ _ (by kernel_rfl)] at h
  have ht := Lib.tabIs_of_head gRoot gRootT Tryd.underlying76 Tryd.underlying39 cu32 gRootC h
  refine ⟨fun i hi => ?_, ?_⟩
  · rw [ht.cell gRoot i (by show i < 64; exact hi)]
    unfold rootI rootN
    rw [List.getD_eq_getElem?_getD, List.getD_eq_getElem?_getD, List.getElem?_map]
    have hl : rootL.length = 64 := rfl
    rw [List.getElem?_eq_getElem (by rw [hl]; exact hi)]
    rfl
  · have hc := ht.cell gRoot 0 (by decide)
    exact World.block_lt_of_cell? W _ hc
/-- A start for the witness: the door's own. -/
noncomputable def laidWorld (os : Os) : World := World.doorLaid Tryd.prog 72 os
theorem laid_met (os : Os) (args : Array Value) : laidMet Tryd.prog laidL ((laidWorld os).forCall (fun _ _ => 0) ⟨#[], args, []⟩).memory :=
  laidMet_of_run' 8 (by kernel_rfl) (by kernel_rfl)
end Go.Proofs.YtnblfokciobccaaDoor
