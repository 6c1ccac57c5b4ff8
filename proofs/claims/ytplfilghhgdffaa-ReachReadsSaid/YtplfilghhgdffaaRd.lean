/- The reader of reach: take, byte, metric, skip. Each theorem states its conditions. -/
import Derived.Test.YtplfilghhgdffaaRec
import Derived.Test.YtplfilghhgdffaaPutB
import Derived.Test.YtplfilghhgdffaaNum
import Derived.Defers
import Derived.Recover
namespace Go.Proofs.Ytplfilghhgdffaa
open Go.RowKit
set_option linter.unusedVariables false

/-- what the reader gives up with -/
def flt : PanicEntry := { v := .iface 84 (.agg #[]), recovered := false }
/-- block R is a reader that stands at place p of the n bytes from ⟨b, off⟩ on -/
def RS (W : World) (R b off n c p : Nat) : Prop :=
  ∃ a, W.heap[R]? = some (.cells #[.slice (some a) (n - p) (c - p)] 88 (0, 0)) ∧ (p < n → a = ⟨b, off + p, none⟩)
theorem RS.lt {W : World} {R b off n c p : Nat} (h : RS W R b off n c p) : R < W.heap.size := by
  obtain ⟨a, h, _⟩ := h
  exact (Array.getElem?_eq_some_iff.1 h).1

theorem ends_panicked {P : Program} {fn : Func} {R : Ending → World → Prop} {chain : List PanicEntry} {a : Act} {w : World} (hd : a.defers = []) (h : R (.panicked chain) w) : bodyPost P fn R (.panic chain) a w := ⟨hd, h⟩
theorem own_cell (W : World) (R : Nat) (v : Value) : W.grownBy (W.setCell ⟨R, 0, none⟩ v) (some R) :=
  ⟨rfl, rfl, rfl, by simp, fun i hi hne => Below.heap_setCell W ⟨R, 0, none⟩ v i (fun e => hne (by rw [e]))⟩
theorem cell_own {W : World} {R : Nat} {u v : Value} {t : TypeId} (h : W.heap[R]? = some (.cells #[u] t (0, 0))) : (W.setCell ⟨R, 0, none⟩ v).heap[R]? = some (.cells #[v] t (0, 0)) := by
  simp [World.setCell, Array.getElem?_modify, h]
theorem Row8.grown {W W' : World} {b off n : Nat} {z : Nat → Int} {row : Option Nat} (h : Row8 W b off n z) (hg : W.grownBy W' row) (hne : some b ≠ row) : Row8 W' b off n z :=
  ⟨by have := hg.size; have := h.1; omega, fun j hj => (hg.cell_far ⟨b, off + j, none⟩ h.1 hne).trans (h.2.1 j hj), h.2.2⟩

theorem take_bad (R b off n c p k : Nat) (W : World) (h : RS W R b off n c p) (hp : p ≤ n) (hn : n ≤ c) (hc : c ≤ 9223372036854775807) (hk : n < p + k) (hk2 : k ≤ 255) :
    Calls Try.prog 42 #[.pointer (some ⟨R, 0, none⟩), .int .i64 k] W fun e W' => e = .panicked [flt] ∧ W' = W := by
  obtain ⟨a, hc0, _⟩ := h
  have c0 : W.cell? ⟨R, 0, none⟩ = some (.slice (some a) (n - p) (c - p)) := cell_of_row W R 0 _ _ _ hc0
  have q1 : ((n - p : Nat) : Int) < (k : Int) := by omega
  clear hc0
  generalize n - p = q at *
  generalize c - p = qc at *
  go_enter Try.func42, Try.ntmps42
  go_wp2
  exact ends_panicked rfl ⟨rfl, rfl⟩

theorem take_ok (R b off n c p k : Nat) (W : World) (h : RS W R b off n c p) (hp : p ≤ n) (hn : n ≤ c) (hc : c ≤ 9223372036854775807) (hk : p + k ≤ n) (hk2 : k ≤ 255) :
    Calls Try.prog 42 #[.pointer (some ⟨R, 0, none⟩), .int .i64 k] W fun e W' => ∃ a, e = .returned (.slice (some a) k (c - p)) ∧ (p < n → a = ⟨b, off + p, none⟩) ∧ RS W' R b off n c (p + k) ∧ W.grownBy W' (some R) := by
  obtain ⟨a, hc0, ha⟩ := h
  have c0 : W.cell? ⟨R, 0, none⟩ = some (.slice (some a) (n - p) (c - p)) := cell_of_row W R 0 _ _ _ hc0
  have f0 : W.frozen? ⟨R, 0, none⟩ = false := by simp [World.frozen?, hc0]
  have HC := Lib.hid hc0
  clear hc0
  obtain ⟨q, hq⟩ : ∃ q, n - p = q := ⟨_, rfl⟩
  obtain ⟨qc, hqc⟩ : ∃ q, c - p = q := ⟨_, rfl⟩
  rw [hq, hqc] at c0
  have q1 : (k : Int) ≤ (q : Int) := by omega
  have q2 : (q : Int) ≤ (qc : Int) := by omega
  have q3 : (k : Int) ≤ (qc : Int) := by omega
  have HQ := Lib.hid hq
  have HQC := Lib.hid hqc
  clear hq hqc
  by_cases he : qc = k
  · subst he
    go_enter Try.func42, Try.ntmps42
    go_wp2
    go_ret
    have e1 := HQ.out
    have e2 := HQC.out
    refine ⟨a, by rw [e2]; rfl, ha, ⟨a, ?_, fun h => by omega⟩, own_cell _ _ _⟩
    rw [show n - (p + qc) = q - qc by omega, show c - (p + qc) = 0 by omega]
    exact cell_own HC.out
  · have q4 : ¬ (qc : Int) = (k : Int) := by omega
    go_enter Try.func42, Try.ntmps42
    go_wp2
    go_ret
    have e1 := HQ.out
    have e2 := HQC.out
    refine ⟨a, by rw [e2]; rfl, ha, ⟨a.add k, ?_, fun h => by rw [ha (by omega), add_none, Nat.add_assoc]⟩, own_cell _ _ _⟩
    rw [show n - (p + k) = q - k by omega, show c - (p + k) = qc - k by omega]
    exact cell_own HC.out

theorem byte_ok (R b off n c p : Nat) (z : Nat → Int) (W : World) (h : RS W R b off n c p) (hr : Row8 W b off n z) (hbR : b ≠ R) (hn : n ≤ c) (hc : c ≤ 9223372036854775807) (hp : p + 1 ≤ n) :
    Calls Try.prog 43 #[.pointer (some ⟨R, 0, none⟩)] W fun e W' => e = .returned (.int .u8 (z p)) ∧ RS W' R b off n c (p + 1) ∧ W.grownBy W' (some R) := by
  have HT := Lib.hid (take_ok R b off n c p 1 W h (by omega) hn hc hp (by omega))
  have HR := Lib.hid hr
  clear h hr
  go_enter Try.func43, Try.ntmps43
  go_wp2_with fail
  refine HT.out.mono ?_
  rintro e W' ⟨a, rfl, ha, hs, hg⟩
  obtain rfl := ha (by omega)
  have c0 : W'.cell? ⟨b, off + p, none⟩ = some (.int .u8 (z p)) := (HR.out.grown hg (fun e => hbR (by injection e))).2.1 p (by omega)
  have HS := Lib.hid hs
  have HG := Lib.hid hg
  clear hs hg
  go_wp2
  go_ret
  exact ⟨rfl, HS.out, HG.out⟩

theorem byte_bad (R b off n c : Nat) (W : World) (h : RS W R b off n c n) (hn : n ≤ c) (hc : c ≤ 9223372036854775807) :
    Calls Try.prog 43 #[.pointer (some ⟨R, 0, none⟩)] W fun e W' => e = .panicked [flt] ∧ W' = W := by
  have HT := Lib.hid (take_bad R b off n c n 1 W h (by omega) hn hc (by omega) (by omega))
  clear h
  go_enter Try.func43, Try.ntmps43
  go_wp2_with fail
  refine HT.out.mono ?_
  rintro e W' ⟨rfl, rfl⟩
  go_wp2
  exact ends_panicked rfl ⟨rfl, rfl⟩

theorem metric_ok (R b off n c p k : Nat) (z : Nat → Int) (W : World) (h : RS W R b off n c p) (hr : Row8 W b off n z) (hbR : b ≠ R) (hn : n ≤ c) (hc : c ≤ 9223372036854775807) (hk1 : 1 ≤ k) (hk : k ≤ 4) (hp : p + k ≤ n) :
    Calls Try.prog 44 #[.pointer (some ⟨R, 0, none⟩), .int .i64 k] W fun e W' => e = .returned (.int .u32 (numZ (fun j => z (p + j)) 0 k)) ∧ RS W' R b off n c (p + k) ∧ W.grownBy W' (some R) := by
  have HT := Lib.hid (take_ok R b off n c p k W h (by omega) hn hc hp (by omega))
  have hz := hr.2.2
  have HN := Lib.hid (fun (W' : World) (hr' : Row8 W' b off n z) => num_ok b (off + p) k (c - p) (fun j => z (p + j)) 0 k W' (fun j => hz _) (by unfold maxLen; omega) (by omega) (fun j hj => by rw [Nat.add_assoc]; exact hr'.2.1 (p + j) (by omega)) (by omega) (by omega) (Int.le_refl 0) (by omega))
  have hb := numZ_lt (fun j => z (p + j)) 0 k (fun j => hz _)
  have h4 : (256 : Int) ^ k ≤ 256 ^ 4 := by
    rcases (by omega : k = 1 ∨ k = 2 ∨ k = 3 ∨ k = 4) with rfl | rfl | rfl | rfl <;> decide
  have hv : 0 ≤ numZ (fun j => z (p + j)) 0 k ∧ numZ (fun j => z (p + j)) 0 k ≤ 4294967295 := by
    have e : (256 : Int) ^ 4 = 4294967296 := by decide
    omega
  simp only [Int.toNat_zero, Int.toNat_natCast] at HN
  have HR := Lib.hid hr
  clear h hr hb h4
  generalize numZ (fun j => z (p + j)) 0 k = v at *
  go_enter Try.func44, Try.ntmps44
  go_wp2_with fail
  refine HT.out.mono ?_
  rintro e W' ⟨a, rfl, ha, hs, hg⟩
  obtain rfl := ha (by omega)
  have HS := Lib.hid hs
  have HG := Lib.hid hg
  have hr' := HR.out.grown hg (fun e => hbR (by injection e))
  have HN' := Lib.hid (HN.out W' hr')
  clear hs hg ha hr'
  go_wp2_with fail
  refine HN'.out.mono ?_
  rintro e W'' ⟨rfl, rfl⟩
  go_wp2
  go_ret
  exact ⟨rfl, HS.out, HG.out⟩

theorem metric_bad (R b off n c p k : Nat) (W : World) (h : RS W R b off n c p) (hp : p ≤ n) (hn : n ≤ c) (hc : c ≤ 9223372036854775807) (hk : n < p + k) (hk2 : k ≤ 255) :
    Calls Try.prog 44 #[.pointer (some ⟨R, 0, none⟩), .int .i64 k] W fun e W' => e = .panicked [flt] ∧ W' = W := by
  have HT := Lib.hid (take_bad R b off n c p k W h hp hn hc hk hk2)
  clear h
  go_enter Try.func44, Try.ntmps44
  go_wp2_with fail
  refine HT.out.mono ?_
  rintro e W' ⟨rfl, rfl⟩
  go_wp2
  exact ends_panicked rfl ⟨rfl, rfl⟩

theorem skip_ok (R b off n c p v : Nat) (z : Nat → Int) (W : World) (h : RS W R b off n c p) (hr : Row8 W b off n z) (hbR : b ≠ R) (hn : n ≤ c) (hc : c ≤ 9223372036854775807) (hv : z p = v) (hp : p + 1 + v ≤ n) :
    Calls Try.prog 45 #[.pointer (some ⟨R, 0, none⟩)] W fun e W' => e = .returned (.tuple #[]) ∧ RS W' R b off n c (p + 1 + v) ∧ W.grownBy W' (some R) := by
  have HT := Lib.hid (byte_ok R b off n c p z W h hr hbR hn hc (by omega))
  have hv2 : v ≤ 255 := by have := hr.2.2 p; omega
  rw [hv] at HT
  clear h hr
  go_enter Try.func45, Try.ntmps45
  go_wp2_with fail
  refine HT.out.mono ?_
  rintro e W' ⟨rfl, hs, hg⟩
  have HG := Lib.hid hg
  have HT2 := Lib.hid (take_ok R b off n c (p + 1) v W' hs (by omega) hn hc hp hv2)
  clear hs hg
  go_wp2_with fail
  refine HT2.out.mono ?_
  rintro e W'' ⟨a, rfl, ha, hs, hg⟩
  have HS := Lib.hid hs
  have HG2 := Lib.hid (HG.out.trans hg)
  clear hs hg
  go_wp2
  go_end0
  exact ⟨rfl, HS.out, HG2.out⟩

theorem skip_bad (R b off n c p v : Nat) (z : Nat → Int) (W : World) (h : RS W R b off n c p) (hr : Row8 W b off n z) (hbR : b ≠ R) (hn : n ≤ c) (hc : c ≤ 9223372036854775807) (hv : z p = v) (hp : p ≤ n) (hbad : n < p + 1 + v) :
    Calls Try.prog 45 #[.pointer (some ⟨R, 0, none⟩)] W fun e W' => e = .panicked [flt] ∧ W.grownBy W' (some R) := by
  have hv2 : v ≤ 255 := by have := hr.2.2 p; omega
  by_cases hpn : p = n
  · subst hpn
    have HT := Lib.hid (byte_bad R b off p c W h hn hc)
    clear h hr
    go_enter Try.func45, Try.ntmps45
    go_wp2_with fail
    refine HT.out.mono ?_
    rintro e W' ⟨rfl, rfl⟩
    go_wp2
    exact ends_panicked rfl ⟨rfl, ⟨rfl, rfl, rfl, Nat.le_refl _, fun _ _ _ => rfl⟩⟩
  · have HT := Lib.hid (byte_ok R b off n c p z W h hr hbR hn hc (by omega))
    rw [hv] at HT
    clear h hr
    go_enter Try.func45, Try.ntmps45
    go_wp2_with fail
    refine HT.out.mono ?_
    rintro e W' ⟨rfl, hs, hg⟩
    have HG := Lib.hid hg
    have HT2 := Lib.hid (take_bad R b off n c (p + 1) v W' hs (by omega) hn hc hbad hv2)
    clear hs hg
    go_wp2_with fail
    refine HT2.out.mono ?_
    rintro e W'' ⟨rfl, rfl⟩
    go_wp2
    exact ends_panicked rfl ⟨rfl, HG.out⟩
end Go.Proofs.Ytplfilghhgdffaa
