/- List of the program's trie. Each theorem states its conditions. -/
import Derived.Test.YtjnbemopfhinbaaTrT
namespace Go.Proofs.Ytjnbemopfhinbaa
open Go.RowKit
set_option linter.unusedVariables false
set_option linter.unusedSimpArgs false

/-- the trees so far -/
def Ts.upto (T : Ts) : Nat → List Pf
  | 0 => []
  | 1 => T.h4.hl 4
  | _ => T.h4.hl 4 ++ T.h6.hl 6
def Ts.all (T : Ts) : List Pf := T.h4.hl 4 ++ T.h6.hl 6
theorem ix_root (o : Oper) (e : Operand → Value) (x y : Operand) (ho : o.op = .index 88 x y) (T : Ts) (i : Nat) (hi : i < 2) (h0 : e x = .agg #[T.h4.root, T.h6.root]) (h1 : e y = .int .i64 (i : Int)) (W : World) : (execOp e o).run Try.prog W = .ok (.value (if i = 0 then T.h4.root else T.h6.root)) W := by
  have h2 := run_underlying Try.underlying88 W
  have h5 : (sizeOf 87).run Try.prog W = .ok 1 W := by kernel_rfl
  have h6 : ∀ W, (isAgg 87).run Try.prog W = .ok false W := fun W => by kernel_rfl
  rcases (by omega : i = 0 ∨ i = 1) with rfl | rfl
  · unfold execOp
    simp only [ho, h0, h1]
    simp [Instr.index, part, go_sem, h2, h5, h6]
  · unfold execOp
    simp only [ho, h0, h1]
    simp [Instr.index, part, go_sem, h2, h5, h6]
theorem Blk.roots {w : World} {s : Nat} {T : Ts} (h : Blk 90 w s (tsC T)) : w.rangeAt s 0 (#[T.h4.root, T.h6.root] : Array Value).toList := h.range fun j hj => by
  have hj' : j < 2 := hj
  rcases (by omega : j = 0 ∨ j = 1) with rfl | rfl <;> rfl
set_option maxHeartbeats 16000000 in
set_option maxRecDepth 100000 in
theorem tlist_any (B s : Nat) (T : Ts) (w : World) (hT : TsAt w B s T) (hs : T.h4.sz + T.h6.sz ≤ 100000) : Calls Try.prog 20 #[.pointer (some ⟨s, 0, none⟩)] w fun e w' => ∃ v, e = .returned v ∧ OwnR w' w.heap.size 32 18 v T.all.length (pfB T.all) ∧ Below w.heap.size w w' := by
  have HT := Lib.hid hT
  have HSZ := Lib.hid hs
  have KS := Lib.hid hT.blk
  clear hT hs
  go_enter Try.func20, Try.ntmps20
  have HB := Lib.hid (Below.refl w.heap.size w)
  go_wp2_with (refine wpList_v (op := ⟨some 7, _, _, _, _, _⟩) rfl (.bool false) (eql_nil _ _ _ rfl s _ rfl rfl) ?_; refine Hid.out ?_)
  refine Lib.hid ?_
  go_wp2_with (refine wpList_ld (op := ⟨some 11, _, _, _, _, _⟩) (by rfl) 88 (.tmp 10) rfl s 0 rfl (#[T.h4.root, T.h6.root]) _ KS.out.roots Try.underlying88 rfl (by kernel_rfl) ?_; refine Hid.out ?_)
  refine Lib.hid ?_
  go_wp2_with fail
  go_loopw [3, 12] (fun v t wr => ∃ i : Nat, i ≤ 2 ∧ t = .int .i64 i ∧ Hid (OwnR wr w.heap.size 32 18 v (T.upto i).length (pfB (T.upto i))) ∧ Hid (Below w.heap.size w wr)) (fun v t _ => 2 - (intOf t).toNat)
  case atStart => exact ⟨0, by omega, rfl, Lib.hid (OwnR.nil _ _ _ _ _), HB⟩
  case round =>
    obtain ⟨i, hi, rfl, ho, hb⟩ := hrel
    clear HB KS
    by_cases h2 : i < 2
    · skip
      have h2i : (i : Int) < 2 := by omega
      obtain ⟨rt, hrt⟩ : ∃ v, (if i = 0 then T.h4.root else T.h6.root) = v := ⟨_, rfl⟩
      have HRT := Lib.hid hrt
      clear hrt
      have hcall : Calls Try.prog 51 #[rt, u3] wr (fun e w' => ∃ v, e = .returned v ∧ OwnR w' w.heap.size 32 18 v (T.upto (i + 1)).length (pfB (T.upto (i + 1))) ∧ Below w.heap.size wr w') := by
        rw [← HRT.out]
        rcases (by omega : i = 0 ∨ i = 1) with rfl | rfl
        · rw [if_pos rfl]
          exact list_any 4 w.heap.size T.h4 _ [] wr (HT.out.a4.below hb.out HT.out.a4.lt) HT.out.a4.lt hb.out.size ho.out (by have := HSZ.out; simp; omega)
        · rw [if_neg (by decide)]
          exact list_any 6 w.heap.size T.h6 _ (T.h4.hl 4) wr (HT.out.a6.below hb.out HT.out.a6.lt) HT.out.a6.lt hb.out.size ho.out (by have := HSZ.out; have := Ht.hl_len 4 T.h4; omega)
      have HCALL := Lib.hid hcall
      clear hcall
      go_wp2_with (refine wpList_v (op := ⟨some 14, _, _, _, _, _⟩) rfl rt ((ix_root _ _ _ _ rfl T i h2 rfl rfl _).trans (by rw [HRT.out])) ?_; refine Hid.out ?_)
      refine Lib.hid ?_
      go_wp2_with fail
      refine HCALL.out.mono ?_
      clear HCALL
      rintro e w5 ⟨v5, rfl, ho5, hb5⟩
      have HO5 := Lib.hid ho5
      have HB5 := Lib.hid (hb.out.trans hb5)
      clear ho5 hb5 ho hb
      go_wp2
      go_roundw
      case rel => exact ⟨i + 1, by omega, by go_num, HO5, HB5⟩
      case measure => simp only [intOf]; omega
    · skip
      have HI := Lib.hid (show i = 2 by omega)
      have h2i : ¬ (i : Int) < 2 := by omega
      clear h2 hi
      go_wp2
      have e9 : T.upto i = T.all := by rw [HI.out]; rfl
      refine bodyPost_ret (v := u3) (by simp [results, Try.f20, go_sem]) rfl ?_
      exact ⟨_, rfl, e9 ▸ ho.out, hb.out⟩
end Go.Proofs.Ytjnbemopfhinbaa
