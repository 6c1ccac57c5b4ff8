/- Two texts put together; each theorem states its conditions. -/
import Derived.Shelf.SlSortCmp.WholeK
import Derived.Ground.SlsfProg
import Derived.Ground.NamesProg
import Derived.Test.YtjnbemopfhinbaaProg
import Derived.Test.YtjnbemopfhinbaaRbK
/- The library's sort, laid at this program: it is the library's text. No condition. -/
namespace Go.Proofs
open Go.Shelf
def Try.sortR_ren : Go.Shelf.Ren := ⟨fun | 6 => 62 | 15 => 80 | 14 => 79 | 28 => 93 | 29 => 94 | 20 => 85 | 21 => 86 | 22 => 87 | 23 => 88 | 24 => 89 | 25 => 90 | 26 => 91 | 27 => 92 | 46 => 96 | 47 => 97 | 48 => 98 | 49 => 99 | 50 => 100 | 57 => 102 | n => n, fun | 22 => 60 | 24 => 70 | 25 => 118 | 3 => 3 | 39 => 131 | 0 => 0 | 53 => 67 | 55 => 145 | 4 => 4 | 46 => 137 | 45 => 136 | 50 => 141 | 5 => 5 | 9 => 9 | 66 => 146 | 70 => 150 | 76 => 152 | 77 => 153 | n => n, fun | n => n⟩
theorem Try.sortR : Go.Proofs.SlLaysF0.n6 Try.prog Try.sortR_ren := {
  mixed := by kernel_rfl
  f6 := ⟨Try.f62.name, by decide, Try.func62.trans (congrArg some (by kernel_rfl))⟩
  f14 := ⟨Try.f79.name, by decide, Try.func79.trans (congrArg some (by kernel_rfl))⟩
  f15 := Try.func80.trans (congrArg some (by kernel_rfl))
  f20 := ⟨Try.f85.name, by decide, Try.func85.trans (congrArg some (by kernel_rfl))⟩
  f21 := ⟨Try.f86.name, by decide, Try.func86.trans (congrArg some (by kernel_rfl))⟩
  f22 := ⟨Try.f87.name, by decide, Try.func87.trans (congrArg some (by kernel_rfl))⟩
  f23 := ⟨Try.f88.name, by decide, Try.func88.trans (congrArg some (by kernel_rfl))⟩
  f24 := ⟨Try.f89.name, by decide, Try.func89.trans (congrArg some (by kernel_rfl))⟩
  f25 := ⟨Try.f90.name, by decide, Try.func90.trans (congrArg some (by kernel_rfl))⟩
  f26 := ⟨Try.f91.name, by decide, Try.func91.trans (congrArg some (by kernel_rfl))⟩
  f27 := ⟨Try.f92.name, by decide, Try.func92.trans (congrArg some (by kernel_rfl))⟩
  f28 := Try.func93.trans (congrArg some (by kernel_rfl))
  f29 := Try.func94.trans (congrArg some (by kernel_rfl))
  f46 := ⟨Try.f96.name, by decide, Try.func96.trans (congrArg some (by kernel_rfl))⟩
  f47 := Try.func97.trans (congrArg some (by kernel_rfl))
  f48 := Try.func98.trans (congrArg some (by kernel_rfl))
  f49 := ⟨Try.f99.name, by decide, Try.func99.trans (congrArg some (by kernel_rfl))⟩
  f50 := ⟨Try.f100.name, by decide, Try.func100.trans (congrArg some (by kernel_rfl))⟩
  f57 := ⟨Try.f102.name, by decide, Try.func102.trans (congrArg some (by kernel_rfl))⟩
  t0 := Try.underlying0
  a0 := Try.isAgg0
  z0 := Try.sizeOf0
  v0 := Try.zeroValue0
  t3 := Try.underlying3
  a3 := Try.isAgg3
  z3 := Try.sizeOf3
  v3 := Try.zeroValue3
  t4 := Try.underlying4
  a4 := Try.isAgg4
  z4 := Try.sizeOf4
  v4 := Try.zeroValue4
  t5 := Try.underlying5
  a5 := Try.isAgg5
  z5 := Try.sizeOf5
  v5 := Try.zeroValue5
  t9 := Try.underlying9
  a9 := Try.isAgg9
  z9 := Try.sizeOf9
  v9 := Try.zeroValue9
  t22 := Try.underlying60
  a22 := Try.isAgg60
  z22 := Try.sizeOf60
  v22 := Try.zeroValue60
  t25 := Try.underlying118
  a25 := Try.isAgg118
  z25 := Try.sizeOf118
  v25 := Try.zeroValue118
  t39 := Try.underlying131
  a39 := Try.isAgg131
  z39 := Try.sizeOf131
  v39 := Try.zeroValue131
  t45 := Try.underlying136
  a45 := Try.isAgg136
  z45 := Try.sizeOf136
  v45 := Try.zeroValue136
  t46 := Try.underlying137
  a46 := Try.isAgg137
  z46 := Try.sizeOf137
  v46 := Try.zeroValue137
  t50 := Try.underlying141
  a50 := Try.isAgg141
  z50 := Try.sizeOf141
  v50 := Try.zeroValue141
  t53 := Try.underlying67
  a53 := Try.isAgg67
  z53 := Try.sizeOf67
  v53 := Try.zeroValue67
  t55 := Try.underlying145
  a55 := Try.isAgg145
  z55 := Try.sizeOf145
  v55 := Try.zeroValue145
  t66 := Try.underlying146
  a66 := Try.isAgg146
  z66 := Try.sizeOf146
  v66 := Try.zeroValue146
  t70 := Try.underlying150
  a70 := Try.isAgg150
  z70 := Try.sizeOf150
  v70 := Try.zeroValue150
  t76 := Try.underlying152
  a76 := Try.isAgg152
  z76 := Try.sizeOf152
  v76 := Try.zeroValue152
  t77 := Try.underlying153
  a77 := Try.isAgg153
  z77 := Try.sizeOf153
  v77 := Try.zeroValue153 }
end Go.Proofs
/- Two texts put together; each theorem states its conditions. -/
/- The library's sort at routes, as Build calls it. Each theorem states its conditions. -/
namespace Go.Proofs.Ytjnbemopfhinbaa
open Go.RowKit Go.Sort
set_option linter.unusedVariables false
set_option linter.unusedSimpArgs false

theorem agg_rt (w : World) : (isAgg 70).run Try.prog w = .ok true w := by kernel_rfl
theorem sz_rt (w : World) : (Go.sizeOf 70).run Try.prog w = .ok 21 w := by kernel_rfl
theorem swo_rx : SWO (ltOf cfR) := by
  have e : ∀ x y, ltOf cfR x y = decide (idR x < idR y) := fun x y => cfR_lt x y
  refine ⟨fun x => ?_, fun x y z h1 h2 => ?_, fun x y z h1 h2 => ?_⟩
  · rw [e]; simp
  · rw [e] at h1 h2 ⊢
    have := of_decide_eq_true h1
    have := of_decide_eq_true h2
    exact decide_eq_true (by omega)
  · rw [e] at h1 h2 ⊢
    have := of_decide_eq_false h1
    have := of_decide_eq_false h2
    exact decide_eq_false (by omega)
theorem asc_ofR {T : List RxI} {n : Nat} (hn : T.length = n) (h : SortedIn (ltOf cfR) 0 n T.toArray) : AscI T := by
  intro i j hij hj
  have h9 := h i j (Nat.zero_le _) hij (by omega)
  have e : ∀ x y, ltOf cfR x y = decide (idR x < idR y) := fun x y => cfR_lt x y
  rw [e] at h9
  have h8 := of_decide_eq_false h9
  have g : ∀ k, k < T.length → T.toArray[k]! = T[k]?.getD default := fun k hk => by
    rw [getElem!_pos _ k (by simpa using hk), List.getElem?_eq_getElem hk]; simp
  rw [g i (by omega), g j hj] at h8
  omega
theorem sort_rowR (g cap : Nat) (S : List RxI) (w : World) (cur : Array Value) (hb : w.heap[g]? = some (.cells cur 70 (0, 0))) (ht : cur.toList.take (S.length * 21) = cellsR (rxIB S) S.length) (hn : S.length < 4611686018427387904) (u : Unit) :
    Calls Try.prog 62 #[.slice (some ⟨g, 0, none⟩) S.length cap, .func (.func 63) #[] #[]] w fun e w' => e = .returned (.tuple #[]) ∧ ∃ T n os, T.Perm S ∧ AscI T ∧ w' = grow (putRowK enc21 21 (Sort.ahead w n) g 0 T.toArray) os := by
  have eg : ∀ args w, (callFunc 63 args).run Try.prog w = .ok (.enter 63 args) w := enters_of Try.func63 (by kernel_rfl) rfl
  have hcon := AnyQ.slices_SortFunc Try.sortR 21 agg_rt sz_rt enc21 (fun _ => rfl) (fun x v hv => rxC_ones _ v hv) cfR swo_rx 63 #[] g 0 cap S.toArray w eg (fun m os dk _ x y => build1_any x.1 y.1 x.2 y.2 _) (holds_own hb ht) (Array.getElem?_eq_some_iff.1 hb).1 (by simpa using hn)
  have hc2 : S.toArray.size = S.length := by simp
  rw [hc2] at hcon
  change Calls Try.prog 62 #[.slice (some ⟨g, 0, none⟩) S.length cap, .func (.func 63) #[] #[]] w _ at hcon
  refine hcon.mono ?_
  rintro e w' ⟨he, d', n, os, h1, h2, h3⟩
  obtain ⟨T⟩ := d'
  have hl : T.length = S.length := by have := h1.1; simpa using this
  exact ⟨he, T, n, os, perm_all (by rw [hc2]; exact h1), asc_ofR hl h2, h3⟩
theorem ins_none (fv : Value) (w : World) : Calls Try.prog 85 #[.slice none 0 0, .int .i64 0, .int .i64 0, fv] w fun e w' => e = .returned (.tuple #[]) ∧ w' = w := by
  go_enter Try.func85, Try.ntmps85
  go_wp2
  refine wp_loop_rounds 1 ?_
  rw [rounds_succ]
  go_wp2
  go_end0
  exact ⟨rfl, rfl⟩
set_option maxHeartbeats 8000000 in
theorem pdq_none (lim : Int) (fv : Value) (w : World) : Calls Try.prog 79 #[.slice none 0 0, .int .i64 0, .int .i64 0, .int .i64 lim, fv] w fun e w' => e = .returned (.tuple #[]) ∧ w' = w := by
  have hi := fun W => ins_none fv W
  go_enter Try.func79, Try.ntmps79
  go_wp2
  refine wp_loop_rounds 1 ?_
  rw [rounds_succ]
  go_wp2_with (go_at_call 85; refine (hi _).mono ?_; rintro e w' ⟨rfl, rfl⟩)
  (try simp only [Exit.inBlock, Exit.then]); refine bodyPost_ret (results_none rfl _ _ _) rfl ?_
  exact ⟨rfl, rfl⟩
set_option maxHeartbeats 8000000 in
theorem sort_none (w : World) : Calls Try.prog 62 #[.slice none 0 0, .func (.func 63) #[] #[]] w fun e w' => e = .returned (.tuple #[]) ∧ w' = w := by
  have hp := fun lim fv W => pdq_none lim fv W
  go_enter Try.func62, Try.ntmps62
  go_wp2_with (first | (go_at_call 79; refine (hp _ _ _).mono ?_; rintro e w' ⟨rfl, rfl⟩) | go_in)
  go_end0
  exact ⟨rfl, rfl⟩
end Go.Proofs.Ytjnbemopfhinbaa
/- A copy of routes is sorted. Each theorem states its conditions. -/
namespace Go.Proofs.Ytjnbemopfhinbaa
open Go.RowKit Go.Sort
set_option linter.unusedVariables false
set_option linter.unusedSimpArgs false

def keyR (x : Rx) : Int := keyP x.r.p.fam x.r.p.len x.r.p.z
/-- in order -/
def AscX (S : List Rx) : Prop := ∀ i j, i < j → j < S.length → keyR (S.getD i rx0) ≤ keyR (S.getD j rx0)
/-- the routes with what is known of them -/
def toI (S : List Rx) (h : ∀ y, y ∈ S → RxOk y) : List RxI := S.attach.map fun y => ⟨y.1, h y.1 y.2⟩
theorem toI_len (S : List Rx) (h : ∀ y, y ∈ S → RxOk y) : (toI S h).length = S.length := by
  unfold toI
  rw [List.length_map, List.length_attach]
theorem toI_val (S : List Rx) (h : ∀ y, y ∈ S → RxOk y) : (toI S h).map (·.1) = S := by
  unfold toI
  rw [List.map_map]
  exact List.attach_map_subtype_val S
theorem rxI_at (I : List RxI) (j : Nat) (hj : j < I.length) : rxIB I j = rxB (I.map (·.1)) j := by
  unfold rxIB rxB
  rw [List.getD_eq_getElem?_getD, List.getElem?_map, List.getElem?_eq_getElem hj]
  rfl
theorem rxI_own {w : World} {B m : Nat} {v : Value} (I : List RxI) (hm : I.length = m) : OwnR w B 70 21 v m (rxIB I) ↔ OwnR w B 70 21 v m (rxB (I.map (·.1))) :=
  ⟨fun h => h.congr fun j hj => rxI_at I j (by omega), fun h => h.congr fun j hj => (rxI_at I j (by omega)).symm⟩
theorem sortB (S : List Rx) (A : Option Addr) (n c B : Nat) (w : World) (hn : S.length = n) (hl : n ≤ 1000) (hok : ∀ y, y ∈ S → RxOk y) (ho : OwnR w B 70 21 (.slice A n c) n (rxB S)) (u : Unit) :
    Calls Try.prog 62 #[.slice A n c, .func (.func 63) #[] #[]] w fun e w' => e = .returned (.tuple #[]) ∧ ∃ T : List Rx, T.Perm S ∧ AscX T ∧ OwnR w' B 70 21 (.slice A n c) n (rxB T) ∧ w.grownBy w' (Value.ownBlock (.slice A n c)) := by
  have hI := toI_val S hok
  have hL : (toI S hok).length = n := (toI_len S hok).trans hn
  obtain ⟨I, hIe⟩ : ∃ I, toI S hok = I := ⟨_, rfl⟩
  rw [hIe] at hI hL
  have hoI : OwnR w B 70 21 (.slice A n c) n (rxIB I) := (rxI_own I hL).2 (by rw [hI]; exact ho)
  rcases hoI with ⟨hl1, ⟨e1, e2⟩ | ⟨g, cap, cur, e1, h1, h2, h3, h4, h5, h6⟩⟩
  · cases e1
    have hS : S = [] := List.eq_nil_of_length_eq_zero hn
    refine (sort_none w).mono ?_
    rintro e w' ⟨rfl, rfl⟩
    refine ⟨rfl, S, List.Perm.refl _, fun i j h h' => ?_, ho, ⟨rfl, rfl, rfl, Nat.le_refl _, fun _ _ _ => rfl⟩⟩
    rw [hS] at h'; simp at h'
  · cases e1
    have hcon := sort_rowR g c I w cur h2 (by rw [hL]; exact h6) (by omega) u
    rw [hL] at hcon
    refine hcon.mono ?_
    rintro e w' ⟨rfl, T, k, os, hp, ha, rfl⟩
    have hTl : T.length = n := hp.length_eq.trans hL
    refine ⟨rfl, T.map (·.1), by rw [← hI]; exact hp.map _, fun i j hij hj => ?_, ?_, grownBy_sortedK T.toArray⟩
    · rw [List.length_map] at hj
      have h9 := ha i j hij hj
      have e : ∀ q, q < T.length → (T.map (·.1)).getD q rx0 = (T[q]?.getD default).1 := fun q hq => by
        rw [List.getD_eq_getElem?_getD, List.getElem?_map, List.getElem?_eq_getElem hq]; rfl
      rw [e i (by omega), e j hj]
      exact h9
    · have h9 := own_sorted (w := w) (n := k) (os := os) (S := I) (T := T) (by omega) h1 h2 (by omega) h4 h5
      rw [hL, hTl] at h9
      exact (rxI_own T hTl).1 h9
end Go.Proofs.Ytjnbemopfhinbaa
