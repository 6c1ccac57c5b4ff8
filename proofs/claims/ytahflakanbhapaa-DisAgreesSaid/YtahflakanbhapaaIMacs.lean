/- dis.macs: MACs one behind the other, one at a time. Each theorem states its conditions. -/
import Derived.Test.YtahflakanbhapaaISys
import Derived.RangeFuncNested
import Derived.RangeFuncBound
import Derived.RangeFuncCalls
import Derived.RangeFuncLeaves
import Derived.Shelf.Abstract
import Derived.Shelf.RegionOpen
import Derived.WalkKit
import Derived.OwnWalkIn
import Derived.TacticsInMore
import Derived.LoopNIn
import Derived.LoopIn
namespace Go.Proofs.Ytahflakanbhapaa
open Go.RowKit Go.Shelf
set_option linter.unusedVariables false
attribute [local go_sem] Oper.semAt_some

def upto {α : Type} (f : Nat → α) (k : Nat) : List α := (List.range k).map f
theorem upto_succ {α : Type} (f : Nat → α) (k : Nat) : upto f (k + 1) = upto f k ++ [f k] := by simp [upto, List.range_succ]
theorem upto_length {α : Type} (f : Nat → α) (k : Nat) : (upto f k).length = k := by simp [upto]
theorem upto_mem {α : Type} (f : Nat → α) (k : Nat) (x : α) : x ∈ upto f k ↔ ∃ i, i < k ∧ f i = x := by simp [upto]
theorem upto_prefix {α : Type} (f : Nat → α) {k M : Nat} (h : k ≤ M) : upto f k <+: upto f M := by
  obtain ⟨d, rfl⟩ := Nat.exists_eq_add_of_le h
  exact ⟨(List.range d).map (fun j => f (k + j)), by simp [upto, List.range_add, Function.comp_def]⟩
/-- the MAC at place k -/
def mc (z : Nat → Int) (k : Nat) : Nat → Int := fun j => z (6 * k + j)
abbrev By := { x : Nat → Int // byte6 x }
def mcB (z : Nat → Int) (hz : byte6 z) (k : Nat) : By := ⟨mc z k, fun j => hz _⟩
def lenV : Value → Nat
  | .slice _ n _ => n
  | _ => 0
theorem arr_at (b O cc : Nat) (w : World) : Sem.run Try.prog (Instr.arrayAt 36 (.slice (some ⟨b, O, none⟩) 6 cc)) w = .ok (.pointer (some ⟨b, O, none⟩)) w := by
  simp [Instr.arrayAt, go_sem]
set_option maxRecDepth 100000 in
set_option maxHeartbeats 4000000 in
theorem macs1_in (F : Fence) (n : Nat) (h30 : F.fn 30) (hro : F.round = none) (hn : 1 ≤ n) (l Bs n₀ b off M c : Nat) (z : Nat → Int) (hz : byte6 z) (A : Option Addr) (hA0 : 0 < M → A = some ⟨b, off, none⟩ ∧ b < n₀) (hcM : 6 * M ≤ c) (hcm : c ≤ 9223372036854775807) (J Jx : List By → World → Prop)
    (hY : ∀ pre x W, J pre W → pre.length < M → YieldAt F (n - 1) Try.prog l #[.agg (syC x.1)] W fun e W' =>
      (e = .returned (.bool true) ∧ J (pre ++ [x]) W' ∧ Below n₀ W W') ∨ (e = .returned (.bool false) ∧ Jx (pre ++ [x]) W'))
    (W : World) (hBs : W.cell? ⟨Bs, 0, none⟩ = some (.slice A (6 * M) c)) (hc : ∀ j, j < 6 * M → W.cell? ⟨b, off + j, none⟩ = some (.int .u8 (z j))) (h0 : J [] W) :
    CallsIn F n Try.prog 30 #[.func (.yield l) #[] #[], .pointer (some ⟨Bs, 0, none⟩)] W fun e W' => (∃ v, e = .returned v) ∧
      ((∃ ys, ys = upto (mcB z hz) M ∧ J ys W') ∨ (∃ pre, (∃ k, k ≤ M ∧ pre = upto (mcB z hz) k) ∧ Jx pre W')) := by
  obtain ⟨T, hT⟩ : ∃ T, 6 * M = T := ⟨_, rfl⟩
  rw [hT] at hBs hc hcM
  have HT := Lib.hid hT
  clear hT
  refine callsIn_of_wp Try.func30 rfl h30 ?_ hro
  simp only [Try.ntmps30, List.size_toArray, List.length_cons, List.length_nil, Nat.reduceAdd, Nat.reduceSub, Array.replicate_succ, Array.replicate_zero, List.push_toArray, List.append_toArray, List.nil_append, List.cons_append]
  gi_wp2
  gi_loopw [3] (fun p wr => ∃ (k q cc L : Nat) (A' : Option Addr), k + q = M ∧ cc + 6 * k = c ∧ 6 * q = L ∧ p = .slice A' L cc ∧ Hid (0 < q → A' = some ⟨b, off + 6 * k, none⟩) ∧ J (upto (mcB z hz) k) wr ∧ Hid (Below n₀ W wr))
    (fun p _ => lenV p)
  case atStart => exact ⟨0, M, c, T, A, by omega, by omega, HT.out, rfl, Lib.hid (fun h => (hA0 h).1), h0, Lib.hid (Below.refl _ _)⟩
  case round =>
    obtain ⟨k, q, cc, L, A', hkq, hcc, hL, rfl, HA, hJs, HW⟩ := hrel
    by_cases hq : 0 < q
    · obtain rfl := HA.out hq
      obtain ⟨O, hO⟩ : ∃ O, off + 6 * k = O := ⟨_, rfl⟩
      obtain ⟨x, hx⟩ : ∃ x, mcB z hz k = x := ⟨_, rfl⟩
      have hcell : ∀ j, j < 6 → wr.cell? ⟨b, O + j, none⟩ = some (.int .u8 (x.1 j)) := by
        intro j hj
        rw [← hO, ← hx, Nat.add_assoc]
        exact (HW.out.cell (p := ⟨b, off + (6 * k + j), none⟩) (hA0 (by omega)).2).trans (hc (6 * k + j) (by have := HT.out; omega))
      have c0 : wr.cell? ⟨b, O, none⟩ = some (.int .u8 (x.1 0)) := hcell 0 (by omega)
      have c1 := hcell 1 (by omega)
      have c2 := hcell 2 (by omega)
      have c3 := hcell 3 (by omega)
      have c4 := hcell 4 (by omega)
      have c5 := hcell 5 (by omega)
      obtain ⟨fn, tmps, assign, body, hy, hR⟩ := hY _ x wr hJs (by rw [upto_length]; omega)
      dsimp only [syC] at hy
      have g0 : 0 < (L : Int) := by omega
      have g1 : ¬ (cc : Int) < 6 := by have := HT.out; omega
      have ha := fun w => arr_at b O cc w
      have g2 : ¬ (L : Int) < 6 := by omega
      rw [hO]
      have HO := Lib.hid hO
      have HX := Lib.hid hx
      have HL := Lib.hid hL
      clear hcell hO hx hL
      gi_wp2
      refine hR.mono ?_
      rintro e W3 (⟨rfl, hJ3, hk3⟩ | ⟨rfl, hJx3⟩)
      · clear c0 c1 c2 c3 c4 c5
        gi_wp2
        go_roundw
        case rel =>
          refine ⟨k + 1, q - 1, cc - 6, L - 6, _, by omega, by omega, by have := HL.out; omega, rfl, ?_, ?_, Lib.hid (HW.out.trans hk3)⟩
          · exact Lib.hid (fun h => by have h1 := HT.out; have h2 := HO.out; rw [if_neg (by omega), ← h2]; rfl)
          · rw [upto_succ, HX.out]; exact hJ3
        case measure => show L - 6 < L; omega
      · gi_wp2
        refine bodyPost_ret (results_none rfl _ _ _) rfl ?_
        exact ⟨⟨_, rfl⟩, .inr ⟨_, ⟨k + 1, by omega, rfl⟩, by rw [upto_succ, HX.out]; exact hJx3⟩⟩
    · obtain rfl : q = 0 := by omega
      obtain rfl : k = M := by omega
      obtain rfl : L = 0 := by omega
      gi_wp2
      go_end0
      first | exact ⟨⟨_, rfl⟩, .inl ⟨_, rfl, hJs⟩⟩ | exact ⟨⟨_, rfl⟩, .inl hJs⟩ | exact .inl hJs
theorem macs_in (F : Fence) (n : Nat) (h23 : F.fn 23) (hro : F.round = none) (A : Option Addr) (m c : Nat) (w : World) :
    CallsIn F n Try.prog 23 #[.slice A m c] w fun e w' => e = .returned (.func (.func 30) #[] #[.pointer (some ⟨w.heap.size, 0, none⟩)]) ∧ w' = w.alloc (.cells #[.slice A m c] 43) := by
  refine callsIn_of_wp Try.func23 rfl h23 ?_ hro
  simp only [Try.ntmps23, List.size_toArray, List.length_cons, List.length_nil, Nat.reduceAdd, Nat.reduceSub, Array.replicate_succ, Array.replicate_zero, List.push_toArray, List.append_toArray, List.nil_append, List.cons_append]
  gi_wp2
  go_ret
  exact ⟨rfl, rfl⟩
theorem macs_stops (F : Fence) (n : Nat) (h30 : F.fn 30) (hro : F.round = none) (hn : 1 ≤ n) (Bs n₀ b off M c : Nat) (z : Nat → Int) (hz : byte6 z) (A : Option Addr) (hA0 : 0 < M → A = some ⟨b, off, none⟩ ∧ b < n₀) (hcM : 6 * M ≤ c) (hcm : c ≤ 9223372036854775807) (w : World) (hBs : Bs < w.heap.size) (hn₀ : n₀ ≤ w.heap.size)
    (hcl : w.cell? ⟨Bs, 0, none⟩ = some (.slice A (6 * M) c)) (hc : ∀ j, j < 6 * M → w.cell? ⟨b, off + j, none⟩ = some (.int .u8 (z j))) :
    SeqStopsK F n Try.prog 30 #[.pointer (some ⟨Bs, 0, none⟩)] (fun x : By => #[Value.agg (syC x.1)]) (Below n₀) (fun ys => ys = upto (mcB z hz) M) (fun pre => pre <+: upto (mcB z hz) M) M w := fun l J Jx W hW _ _ hY h0 => by
  have hc' := (hW.cell (p := ⟨Bs, 0, none⟩) hBs).trans hcl
  have hcs : ∀ j, j < 6 * M → W.cell? ⟨b, off + j, none⟩ = some (.int .u8 (z j)) := fun j hj => (hW.cell (p := ⟨b, off + j, none⟩) (by have := (hA0 (by omega)).2; show b < _; omega)).trans (hc j hj)
  refine (macs1_in F n h30 hro hn l Bs n₀ b off M c z hz A hA0 hcM hcm J Jx hY W hc' hcs h0).mono ?_
  rintro e W' ⟨he, ⟨ys, rfl, hj⟩ | ⟨pre, ⟨k, hk, rfl⟩, hj⟩⟩
  · exact ⟨he, .inl ⟨_, rfl, hj⟩⟩
  · exact ⟨he, .inr ⟨_, upto_prefix _ hk, hj⟩⟩
end Go.Proofs.Ytahflakanbhapaa
