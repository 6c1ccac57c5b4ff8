/- The walk of DisHears: for every input the law returns true, and nothing that was there is written. No condition. -/
import Derived.Test.YtahflakanbhapaaIHeard
namespace Go.Proofs.Ytahflakanbhapaa
open Go.RowKit
set_option linter.unusedVariables false

theorem rd_same {w : World} {A : Option Addr} {n : Nat} {z z' : Nat → Int} (h : Rd w A n z') (he : ∀ j, j < n → z' j = z j) (hz : ∀ j, 0 ≤ z j ∧ z j ≤ 255) : Rd w A n z := by
  refine ⟨?_, hz⟩
  rcases h.1 with h0 | ⟨b, off, rfl, hr⟩
  · exact .inl h0
  · exact .inr ⟨b, off, rfl, hr.1, fun j hj => by rw [hr.2.1 j hj, he j hj], hz⟩
theorem bdrewN {B : Nat} {a w : World} (h : Below B a w) (m : Nat) : Below B a (w.drewN m) := ⟨h.os, h.tape, h.output, h.size, h.block⟩
theorem kept_b (g n cap : Nat) (A : Option Addr) (c : Nat) (z : Nat → Int) (w : World) (ho : Own8 w g (n + 3) cap (spZ z n)) (ha : Rd w A n z) (hm : n ≤ 140737488351232) :
    Calls Try.prog 17 #[.slice (some ⟨g, 0, none⟩) (n + 3) cap, .slice A n c] w fun e w' => e = .returned (.bool true) ∧ Below w.heap.size w w' :=
  (kept_yes g n cap A c z w ho ha hm).mono fun e w' ⟨h1, r, h2⟩ => ⟨h1, by rw [h2]; exact bdrewN (Below.refl _ _) r⟩
set_option maxHeartbeats 8000000 in
set_option maxRecDepth 100000 in
theorem hears_any (a : Nat → Int) (A : Option Addr) (n c : Nat) (z : Nat → Int) (w : World) (ha : byte6 a) (hr : Rd w A n z) (hA : A = none → n = 0 ∧ c = 0) (hc : n ≤ c) (hcm : c ≤ 140737488351232) :
    Calls Try.prog 4 #[.agg (syC a), .slice A n c] w fun e w' => e = .returned (.bool true) ∧ Below w.heap.size w w' := by
  have HR := Lib.hid hr
  have HA := Lib.hid hA
  clear hr hA
  go_enter Try.func4, Try.ntmps4
  have HB := Lib.hid (Below.refl w.heap.size w)
  obtain ⟨N1, hN1⟩ : ∃ N, w.heap.size = N := ⟨_, rfl⟩
  have HN1 := Lib.hid hN1
  clear hN1
  go_wp2_with (refine wpList_box (op := ⟨some 2, _, _, _, _, _⟩) rfl 36 (.tmp 0) rfl (syC a) rfl N1 HN1.out ?_; intro w1 k1 b1 s1; refine Hid.out ?_)
  refine Lib.hid ?_
  have K2 := Lib.hid k1
  clear k1
  have le_HB_N1 : w.heap.size ≤ N1 := by rw [← HN1.out]; exact HB.out.size
  have HBn := Lib.hid (HB.out.trans (b1.mono HB.out.size))
  clear HB
  have HB := HBn
  clear HBn
  clear b1 HN1
  go_wp2_with fail
  refine (awake_any _).mono ?_
  rintro e w2 ⟨rfl, b1⟩
  have K2n := Lib.hid (K2.out.below b1 K2.out.lt)
  clear K2
  have K2 := K2n
  clear K2n
  have HBn := Lib.hid (HB.out.trans (b1.mono HB.out.size))
  clear HB
  have HB := HBn
  clear HBn
  clear b1
  go_wp2_with fail
  refine (spare_any A n c z w2 (HR.out.below HB.out rfl) HA.out (by omega)).mono ?_
  rintro e w3 ⟨g, cap, rfl, hg, ho, b1⟩
  have K2n := Lib.hid (K2.out.below b1 K2.out.lt)
  clear K2
  have K2 := K2n
  clear K2n
  have HBn := Lib.hid (HB.out.trans (b1.mono HB.out.size))
  clear HB
  have HB := HBn
  clear HBn
  clear b1
  have HO := Lib.hid ho
  have hcap := ho.caps
  have HQ := Lib.hid (rd_same (ho.rd.cut n (by omega)) (fun j hj => spZ_in z n j hj) HR.out.2)
  unfold maxLen at hcap
  clear ho hg
  have HS := Lib.hid (Below.refl w3.heap.size w3)
  go_wp2_with (refine wpList_ld (op := ⟨some 19, _, _, _, _, _⟩) (by rfl) 36 (.tmp 2) rfl N1 0 rfl (syC a) _ K2.out.all Try.underlying36 rfl info_mac ?_; refine Hid.out ?_)
  refine Lib.hid ?_
  go_wp2_with fail
  refine (heard_any a (some ⟨g, 0, none⟩) n cap z w3 ha HQ.out (by omega) (by omega)).mono ?_
  rintro e w4 ⟨q, r, rfl, h1, b1⟩
  have K2n := Lib.hid (K2.out.below b1 K2.out.lt)
  clear K2
  have K2 := K2n
  clear K2n
  have HBn := Lib.hid (HB.out.trans (b1.mono HB.out.size))
  clear HB
  have HB := HBn
  clear HBn
  have HSn := Lib.hid (HS.out.trans (b1.mono HS.out.size))
  clear HS
  have HS := HSn
  clear HSn
  have H1 := Lib.hid h1
  clear b1 h1
  go_wp2_with (refine wpList_ld (op := ⟨some 25, _, _, _, _, _⟩) (by rfl) 36 (.tmp 2) rfl N1 0 rfl (syC a) _ K2.out.all Try.underlying36 rfl info_mac ?_; refine Hid.out ?_)
  refine Lib.hid ?_
  go_wp2_with fail
  refine (docHeard_any a A n c z w4 (HR.out.below HB.out rfl) hc (by omega)).mono ?_
  rintro e w5 ⟨q2, r2, rfl, h2, b1⟩
  have K2n := Lib.hid (K2.out.below b1 K2.out.lt)
  clear K2
  have K2 := K2n
  clear K2n
  have HBn := Lib.hid (HB.out.trans (b1.mono HB.out.size))
  clear HB
  have HB := HBn
  clear HBn
  have HSn := Lib.hid (HS.out.trans (b1.mono HS.out.size))
  clear HS
  have HS := HSn
  clear HSn
  clear b1
  obtain ⟨rfl, rfl⟩ := heaR_unique H1.out h2
  clear h2
  go_wp2_with fail
  refine (kept_b g n cap A c z w5 (HO.out.below HS.out HO.out.lt) (HR.out.below HB.out rfl) (by omega)).mono ?_
  rintro e w6 ⟨rfl, b1⟩
  have K2n := Lib.hid (K2.out.below b1 K2.out.lt)
  clear K2
  have K2 := K2n
  clear K2n
  have HBn := Lib.hid (HB.out.trans (b1.mono HB.out.size))
  clear HB
  have HB := HBn
  clear HBn
  have HSn := Lib.hid (HS.out.trans (b1.mono HS.out.size))
  clear HS
  have HS := HSn
  clear HSn
  clear b1
  go_wp2_with fail
  go_ret
  exact ⟨rfl, HB.out⟩
theorem walkDisHears (a : Nat → Int) (A : Option Addr) (n c : Nat) (zs : List Int) (w : World) (w0 : byte6 a) (w1 : IsRow .u8 w A n c zs) (s1 : c * 1 ≤ 140737488351232) :
    Calls Try.prog 4 #[.agg (syC a), .slice A n c] w fun e w' => e = .returned (.bool true) ∧ Below w.heap.size w w' := by
  obtain ⟨h1, h2⟩ := isRow_rd w1
  refine hears_any a A n c _ w w0 h1 h2 ?_ (by omega)
  rcases w1 with ⟨_, rfl, rfl, _⟩ | ⟨_, _, h, _⟩
  · exact Nat.le_refl _
  · exact h
end Go.Proofs.Ytahflakanbhapaa
