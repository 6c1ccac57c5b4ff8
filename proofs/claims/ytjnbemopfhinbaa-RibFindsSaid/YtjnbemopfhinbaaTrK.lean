/- Two texts put together; each theorem states its conditions. -/
import Derived.Test.YtjnbemopfhinbaaPKey
import Derived.Lib.BytesEntry
import Derived.Test.YtjnbemopfhinbaaTrB
/- prefix.Cmp. Each theorem states its conditions. -/
namespace Go.Proofs.Ytjnbemopfhinbaa
open Go.RowKit
set_option linter.unusedVariables false

section
variable {P : Program} {ops : Array Oper} {Q : Exit → Act → World → Prop} {md : Region.Mode} {S : World → Prop}
end

theorem nan_u8 (a : Int) (w : World) : Calls Try.prog 76 #[.int .u8 a] w fun e w' => e = .returned (.bool false) ∧ w = w' := by
  go_enter Try.func76, Try.ntmps76
  go_wp2
  go_ret
  exact ⟨rfl, rfl⟩
theorem nan_int (a : Int) (w : World) : Calls Try.prog 78 #[.int .i64 a] w fun e w' => e = .returned (.bool false) ∧ w = w' := by
  go_enter Try.func78, Try.ntmps78
  go_wp2
  go_ret
  exact ⟨rfl, rfl⟩
/-- the bytes of an address in a prefix's block -/
theorem addr_cells {w : World} {b : Nat} {fam len : Int} {z : Nat → Int} (h : IsPv w b fam len z) : ∀ j, j < 16 → w.cell? ⟨b, 2 + j, none⟩ = some (.int .u8 (z j)) := fun j hj => h.at j hj
theorem asBytes_of (z : Nat → Int) : Lib.bytesOf ((List.range 16).map z) = asBytes z := rfl
theorem run_bytes16 (P : Program) (w : World) (b cap : Nat) (z : Nat → Int) (hz : Bytes z) (h : ∀ j, j < 16 → w.cell? ⟨b, 2 + j, none⟩ = some (.int .u8 (z j))) :
    (Extern.Bytes.bytesOf (.slice (some ⟨b, 2, none⟩) 16 cap)).run P w = .ok ⟨(asBytes z).toArray⟩ w := by
  have := Lib.run_loadBytesX (P := P) w ((List.range 16).map z) ⟨b, 2, none⟩ .empty (fun j x hx => by
    have hj : j < 16 := by
      rcases Nat.lt_or_ge j 16 with h | h
      · exact h
      · rw [List.getElem?_eq_none (by simpa using h)] at hx; cases hx
    have hadd : (⟨b, 2, none⟩ : Addr).add j = ⟨b, 2 + j, none⟩ := by unfold Addr.add; split <;> simp_all
    rw [hadd, h j hj]
    simp [hj] at hx
    rw [hx])
  rw [asBytes_of] at this
  have e : (ByteArray.empty.data ++ (asBytes z).toArray) = (asBytes z).toArray := by show #[] ++ (asBytes z).toArray = _; simp
  rw [e] at this
  exact this
end Go.Proofs.Ytjnbemopfhinbaa
/- Two texts put together; each theorem states its conditions. -/
/- The document's Less and DocCmp. Each theorem states its conditions. -/
namespace Go.Proofs.Ytjnbemopfhinbaa
open Go.RowKit
set_option linter.unusedVariables false

theorem lt_fam {fam len fam' len' : Int} {z z' : Nat → Int} (hz : Bytes z) (hz' : Bytes z') (hl : 0 ≤ len ∧ len ≤ 128) (hl' : 0 ≤ len' ∧ len' ≤ 128) (h : fam < fam') : keyP fam len z < keyP fam' len' z' := by
  have h1 := keyZ_bd hz 16 0
  have h2 := keyZ_bd hz' 16 0
  unfold keyP
  exact cat_lt (cat_lt h h2.1 h1.2 (by decide)) (by omega) (by omega) (by decide)
theorem lt_addr {fam len len' : Int} {z z' : Nat → Int} (hl : 0 ≤ len ∧ len ≤ 128) (hl' : 0 ≤ len' ∧ len' ≤ 128) (h : keyZ z 0 16 < keyZ z' 0 16) : keyP fam len z < keyP fam len' z' := by
  unfold keyP
  exact cat_lt (by omega) (by omega) (by omega) (by decide)
theorem lt_len {fam len len' : Int} {z z' : Nat → Int} (hs : Same16 z z') : keyP fam len z < keyP fam len' z' ↔ len < len' := by
  unfold keyP
  rw [key_congr (z := z) (z' := z') 16 0 (fun j hj => by simpa using hs j hj)]
  omega
theorem lt_byte {fam len len' : Int} {z z' : Nat → Int} (hz : Bytes z) (hz' : Bytes z') (hl : 0 ≤ len ∧ len ≤ 128) (hl' : 0 ≤ len' ∧ len' ≤ 128) (k : Nat) (hk : k < 16) (hs : ∀ j, j < k → z j = z' j) (hn : ¬ z k = z' k) : keyP fam len z < keyP fam len' z' ↔ z k < z' k := by
  rcases Int.lt_trichotomy (z k) (z' k) with h | h | h
  · exact ⟨fun _ => h, fun _ => lt_addr hl hl' (key_first hz hz' 16 0 k hk (fun j hj => by simpa using hs j hj) (by simpa using h))⟩
  · exact absurd h hn
  · have h1 : keyP fam len' z' < keyP fam len z := lt_addr hl' hl (key_first hz' hz 16 0 k hk (fun j hj => by simpa using (hs j hj).symm) (by simpa using h))
    exact ⟨fun h2 => by omega, fun h2 => by omega⟩

set_option maxHeartbeats 1000000 in
set_option maxRecDepth 100000 in
theorem less_any (fam len : Int) (z : Nat → Int) (fam' len' : Int) (z' : Nat → Int) (w : World) (hz : Bytes z) (hz' : Bytes z') (hl : 0 ≤ len ∧ len ≤ 128) (hl' : 0 ≤ len' ∧ len' ≤ 128) :
    Calls Try.prog 47 #[.agg (pvC fam len z), .agg (pvC fam' len' z')] w fun e w' => e = .returned (.bool (decide (keyP fam len z < keyP fam' len' z'))) ∧ Below w.heap.size w w' := by
  have HP := Lib.hid (v2_p fam len z fam' len' z' w)
  have HQ := Lib.hid (v2_q fam len z fam' len' z' w)
  have hB := Lib.hid (v2_below fam len z fam' len' z' w)
  have f0 : ((w.alloc (.cells (pvC fam len z) 32)).alloc (.cells (pvC fam' len' z') 32)).cell? ⟨w.heap.size, 0, none⟩ = some (.int .u8 fam) := HP.out.fam
  have f1 : ((w.alloc (.cells (pvC fam len z) 32)).alloc (.cells (pvC fam' len' z') 32)).cell? ⟨w.heap.size + 1, 0, none⟩ = some (.int .u8 fam') := HQ.out.fam
  by_cases hfam : fam = fam'
  · subst hfam
    go_enter Try.func47, Try.ntmps47
    go_wp2_with fail
    go_loopw [16] (fun i wr => ∃ k : Nat, k ≤ 16 ∧ i = .int .i64 k ∧ (∀ j, j < k → z j = z' j) ∧ IsPv wr w.heap.size fam len z ∧ IsPv wr (w.heap.size + 1) fam len' z' ∧ Below w.heap.size w wr)
      (fun i _ => 16 - (intOf i).toNat)
    case atStart => exact ⟨0, by omega, rfl, fun j hj => by omega, HP.out, HQ.out, hB.out⟩
    case round =>
      obtain ⟨k, hk, rfl, hs, hp, hq, hb⟩ := hrel
      by_cases hk16 : k < 16
      · have c0 := hp.at k hk16
        have c1 := hq.at k hk16
        have HP2 := Lib.hid hp
        have HQ2 := Lib.hid hq
        have HB2 := Lib.hid hb
        have HS := Lib.hid hs
        clear hp hq hb hs f0 f1 HP HQ hB
        by_cases he : z k = z' k
        · have HS1 : Hid (∀ j, j < k + 1 → z j = z' j) := Lib.hid (fun j hj => by
            rcases Nat.lt_or_ge j k with h | h
            · exact HS.out j h
            · obtain rfl : j = k := by omega
              exact he)
          go_wp2_with fail
          go_region
          go_wp2
          go_roundw
          case rel => exact ⟨k + 1, by omega, by go_num, HS1.out, HP2.out, HQ2.out, HB2.out.drew⟩
          case measure => simp only [intOf]; omega
        · go_wp2_with fail
          go_region
          go_wp2_with fail
          go_region
          go_wp2
          go_ret
          refine ⟨?_, HB2.out.drew.drew⟩
          simp only [lt_byte hz hz' hl hl' k hk16 HS.out he]
          rfl
      · obtain rfl : k = 16 := by omega
        have c0 := hp.len
        have c1 := hq.len
        go_wp2
        go_ret
        refine ⟨?_, hb⟩
        simp only [lt_len (fam := fam) (len := len) (len' := len') (show Same16 z z' from hs)]
        rfl
  · go_enter Try.func47, Try.ntmps47
    go_wp2
    go_ret
    refine ⟨?_, hB.out⟩
    rcases Int.lt_trichotomy fam fam' with h | h | h
    · have h1 := lt_fam hz hz' hl hl' h
      simp [h, h1]
    · exact absurd h hfam
    · have h1 := lt_fam hz' hz hl' hl h
      have h2 : ¬ fam < fam' := by omega
      have h3 : ¬ keyP fam len z < keyP fam' len' z' := by omega
      simp [h2, h3]

end Go.Proofs.Ytjnbemopfhinbaa
/- Two texts put together; each theorem states its conditions. -/
/- What covers, as a test; what is cut and what it was, in the order. Each theorem states its conditions. -/
namespace Go.Proofs.Ytjnbemopfhinbaa
open Go.RowKit
set_option linter.unusedVariables false

/-- does the one cover the other? -/
def covB (fam len : Int) (z : Nat → Int) (fam' len' : Int) (z' : Nat → Int) : Bool := decide (fam = fam' ∧ len ≤ len' ∧ Same16 (firstZ z' len.toNat) z)
theorem cut_form' {fam : Int} {x l : Nat} {z : Nat → Int} (hz : Bytes z) (hf : Form fam (l : Int) z) (hx : x ≤ l) : Form fam (x : Int) (firstZ z x) :=
  (form_same fam x (firstZ z x)).2 ⟨sized_down hf.1 hx, first_first z hz x x (Nat.le_refl x)⟩
end Go.Proofs.Ytjnbemopfhinbaa
/- The order of prefixes is that of their bits. Plain facts. Each theorem states its conditions. -/
namespace Go.Proofs.Ytjnbemopfhinbaa
open Go.RowKit
set_option linter.unusedVariables false
set_option linter.unusedSimpArgs false

end Go.Proofs.Ytjnbemopfhinbaa
