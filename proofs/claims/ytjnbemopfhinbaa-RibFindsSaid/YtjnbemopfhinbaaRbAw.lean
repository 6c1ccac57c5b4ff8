/- Two texts put together; each theorem states its conditions. -/
import Derived.Test.YtjnbemopfhinbaaRbB
import Derived.Test.YtjnbemopfhinbaaRbSm
/- What a table of routes has: plain facts. Each theorem states its conditions. -/
namespace Go.Proofs.Ytjnbemopfhinbaa
open Go.RowKit
set_option linter.unusedVariables false
set_option linter.unusedSimpArgs false

section
variable {n : Nat} {X : Nat → Rx} {S : List Rx}
theorem PermX.len (h : PermX n X S) : S.length = n := by
  obtain ⟨R, h1, h2, _⟩ := h
  exact h1.length_eq.trans h2
theorem PermX.to (h : PermX n X S) : ∀ i, i < n → ∃ j, j < n ∧ (S.getD i rx0).r = (X j).r := fun i hi => by
  have hl := h.len
  obtain ⟨R, h1, h2, h3⟩ := h
  have hm := h1.mem_iff.1 (S_mem hl hi)
  obtain ⟨j, hj, e⟩ := List.getElem_of_mem hm
  refine ⟨j, by omega, ?_⟩
  have h4 := h3 j (by omega)
  rw [List.getD_eq_getElem?_getD, List.getElem?_eq_getElem hj, Option.getD_some, e] at h4
  exact h4
theorem PermX.of (h : PermX n X S) : ∀ j, j < n → ∃ i, i < n ∧ (S.getD i rx0).r = (X j).r := fun j hj => by
  have hl := h.len
  obtain ⟨R, h1, h2, h3⟩ := h
  have hm := h1.mem_iff.2 (S_mem (S := R) h2 hj)
  obtain ⟨i, hi, e⟩ := List.getElem_of_mem hm
  refine ⟨i, by omega, ?_⟩
  rw [List.getD_eq_getElem?_getD, List.getElem?_eq_getElem hi, Option.getD_some, e]
  exact h3 j hj
/-- no two of one prefix, in whatever order -/
theorem PermX.nodup (h : PermX n X S) (hx : ∀ i j, i < j → j < n → kyF (X i).r.p ≠ kyF (X j).r.p) : ∀ i j, i < j → j < n → kyF (S.getD i rx0).r.p ≠ kyF (S.getD j rx0).r.p := by
  have hl := h.len
  obtain ⟨R, h1, h2, h3⟩ := h
  have hR : R.Pairwise (fun x y => kyF x.r.p ≠ kyF y.r.p) := by
    rw [List.pairwise_iff_getElem]
    intro i j hi hj hij
    have e : ∀ q (hq : q < R.length), R[q].r = (X q).r := fun q hq => by
      have := h3 q (by omega)
      rw [List.getD_eq_getElem?_getD, List.getElem?_eq_getElem hq, Option.getD_some] at this
      exact this
    rw [e i hi, e j hj]
    exact hx i j hij (by omega)
  have hS : S.Pairwise (fun x y => kyF x.r.p ≠ kyF y.r.p) := (List.Perm.pairwise_iff (fun {x y} h => fun e => h e.symm) h1).2 hR
  intro i j hij hj
  rw [List.pairwise_iff_getElem] at hS
  have := hS i j (by omega) (by omega) hij
  rw [List.getD_eq_getElem?_getD, List.getD_eq_getElem?_getD, List.getElem?_eq_getElem (by omega : i < S.length), List.getElem?_eq_getElem (by omega : j < S.length)]
  exact this
end
/-- the places are told as by the last one of each prefix -/
theorem TabAt.lst {w : World} {t s n c : Nat} {A : Option Addr} {S : List Rx} {T : Ts} (h : TabAt w t s n A c S T) : Lst (fun i => (S.getD i rx0).r.p) n T := ⟨fun k v hg => by
  obtain ⟨i, h1, h2, h3⟩ := h.ix k v hg
  refine ⟨i, h2, h1, h3, fun j hij hj e => ?_⟩
  obtain ⟨k', h4, h5⟩ := h.all j hj
  have e9 : some k' = some k := h4.symm.trans e
  cases e9
  rw [hg, h1] at h5
  have := Int.ofNat.inj (Option.some.inj h5)
  omega, fun i hi k hk => by
  obtain ⟨k', h4, h5⟩ := h.all i hi
  have e9 : some k' = some k := h4.symm.trans hk
  cases e9
  rw [h5]; simp⟩
/-- what Find comes to: the longest that covers the address -/
theorem TabAt.fnd {w : World} {t s n c : Nat} {A : Option Addr} {S : List Rx} {T : Ts} (h : TabAt w t s n A c S T) (hb : ∀ i, Bytes (S.getD i rx0).r.p.z) (pl : Bool) {z : Nat → Int} (hz : Bytes z) : Fnd (fun i => (S.getD i rx0).r.p) n T pl z (T.FA (famB pl) z) := fnd_of h.lst h.tr.ok hb pl hz
end Go.Proofs.Ytjnbemopfhinbaa
/- The example of rib. No condition. -/
namespace Go.Proofs.Ytjnbemopfhinbaa
open Go.RowKit
set_option linter.unusedVariables false
set_option linter.unusedSimpArgs false

def adr (j : Nat) : Int := if j = 0 then 32 else if j = 1 then 1 else if j = 2 then 13 else if j = 3 then 184 else 0
def adr7 (j : Nat) : Int := if j = 0 then 32 else if j = 1 then 1 else if j = 2 then 13 else if j = 3 then 184 else if j = 7 then 1 else 0
def xa : Rx := ⟨⟨⟨6, 0, Z0⟩, 0, 1, 0, fun _ => hp0⟩, none, 0⟩
def xb : Rx := ⟨⟨⟨6, 32, adr⟩, 0, 2, 0, fun _ => hp0⟩, none, 0⟩
def x2 (j : Nat) : Rx := if j = 0 then xa else xb
theorem adr_b : Bytes adr := fun j => by unfold adr; (repeat' split) <;> omega
theorem adr7_b : Bytes adr7 := fun j => by unfold adr7; (repeat' split) <;> omega
theorem xa_f : Form 6 0 Z0 := (form_same 6 0 Z0).2 ⟨by unfold Sized; omega, fun j hj => by unfold firstZ Z0; simp⟩
theorem xb_f : Form 6 32 adr := by
  have h := (form_same 6 32 adr).2 ⟨by unfold Sized; omega, by
    have h9 : ∀ j : Fin 16, firstZ adr 32 j.1 = adr j.1 := by decide +kernel
    exact fun j hj => h9 ⟨j, hj⟩⟩
  exact h
section
variable {ops : Array Oper} {Q : Exit → Act → World → Prop} {rest : List Oper} {op : Oper} {a : Act} {w : World}
end
theorem rdR_two {w : World} {N : Nat} (h : Blk 70 w N (rxC xa ++ rxC xb)) : RdR w (some ⟨N, 0, none⟩) 2 21 (fun j => rxC (x2 j)) := by
  refine .inr ⟨N, 0, rfl, h.lt, fun j hj i u hu => ?_⟩
  rw [h.cell]
  have hi : i < 21 := (List.getElem?_eq_some_iff.1 hu).1
  rw [Array.getElem?_toList] at hu
  rcases (by omega : j = 0 ∨ j = 1) with rfl | rfl
  · rw [Nat.zero_mul, Nat.add_zero, Nat.zero_add, Array.getElem?_append_left (by exact hi)]
    exact hu
  · rw [show 0 + 1 * 21 + i = (rxC xa).size + i by show 0 + 1 * 21 + i = 21 + i; omega, Array.getElem?_append_right (by omega), Nat.add_sub_cancel_left]
    exact hu
theorem x2_hop (w : World) (j : Nat) : HopAt w (x2 j) := by
  unfold x2
  split
  · exact ⟨.inl rfl, by decide, fun _ => ⟨rfl, rfl⟩⟩
  · exact ⟨.inl rfl, by decide, fun _ => ⟨rfl, rfl⟩⟩
theorem x2_b (j : Nat) : Bytes (x2 j).r.p.z := by
  unfold x2
  split
  · exact fun j => show (0 : Int) ≤ 0 ∧ (0 : Int) ≤ 255 from by omega
  · exact adr_b
theorem x2_ne : ∀ i j, i < j → j < 2 → kyF (x2 i).r.p ≠ kyF (x2 j).r.p := fun i j hij hj e => by
  obtain ⟨rfl, rfl⟩ : i = 0 ∧ j = 1 := by omega
  obtain ⟨p1, _, e1⟩ := ky_yes (n := 0) (fam := 6) (z := Z0) xa_f
  obtain ⟨p2, _, e2⟩ := ky_yes (n := 32) (fam := 6) (z := adr) xb_f
  have h1 : kyF (x2 0).r.p = some (p1, btP 0 Z0) := e1
  have h2 : kyF (x2 1).r.p = some (p2, btP 32 adr) := e2
  rw [h1, h2] at e
  have h3 := congrArg (fun q => (q.map (fun k : Bool × List Bool => k.2.length)).getD 7) e
  simp only [Option.map_some, Option.getD_some, btP_len] at h3
  omega
theorem x2_cov : covB 6 (32 : Nat) adr (famB true) (lenB true : Nat) (whZ true adr7) = true := by
  unfold covB
  rw [decide_eq_true_iff]
  refine ⟨rfl, by decide, ?_⟩
  have h9 : ∀ j : Fin 16, firstZ (whZ true adr7) (32 : Int).toNat j.1 = adr j.1 := by decide +kernel
  exact fun j hj => h9 ⟨j, hj⟩
/-- the one that is found has the metric 2 -/
theorem x2_find {w : World} {t s c : Nat} {A : Option Addr} {S : List Rx} {T : Ts} (h : TabAt w t s 2 A c S T) (hp : PermX 2 x2 S) {Q : Pf × Int × Bool × Int} (hQ : T.FA 6 adr7 = Q) : ∃ (P : Pf) (i : Nat), Q = (P, (i : Int), true, 0) ∧ i < 2 ∧ (S.getD i rx0).r.m = 2 := by
  have hb : ∀ i, Bytes (S.getD i rx0).r.p.z := fun i => by
    rcases Nat.lt_or_ge i 2 with h1 | h1
    · obtain ⟨j, _, e⟩ := hp.to i h1
      rw [e]; exact x2_b j
    · rw [List.getD_eq_getElem?_getD, List.getElem?_eq_none (by rw [hp.len]; omega), Option.getD_none]
      exact fun j => show (0 : Int) ≤ 0 ∧ (0 : Int) ≤ 255 from by omega
  obtain ⟨k, hk, ek⟩ := hp.of 1 (by omega)
  have ek : (S.getD k rx0).r = xb.r := ek
  have hf := h.fnd hb true adr7_b
  rw [show famB true = 6 from rfl, hQ] at hf
  have hck : ∀ {q : Prop}, ((S.getD k rx0).r.p.len = ((32 : Nat) : Int) → Form (S.getD k rx0).r.p.fam ((32 : Nat) : Int) (S.getD k rx0).r.p.z → Bytes (S.getD k rx0).r.p.z → covB (S.getD k rx0).r.p.fam ((32 : Nat) : Int) (S.getD k rx0).r.p.z 6 (lenB true : Nat) (whZ true adr7) = true → q) → q := fun f => f (by rw [ek]; rfl) (by rw [ek]; exact xb_f) (hb k) (by rw [ek]; exact x2_cov)
  cases hf with
  | no _ hn =>
    exact hck (fun a1 a2 a3 a4 => by
      have := hn k hk 32 a1 a2 a3
      rw [show famB true = 6 from rfl] at this
      rw [this] at a4; cases a4)
  | yes x j e hj hc hff hw hn =>
    have hl : 32 ≤ x.length := hck (fun a1 a2 a3 a4 => (hn k hk 32 a1 a2 a3 a4).1)
    refine ⟨_, j, e, hj, ?_⟩
    obtain ⟨i, hi, ei⟩ := hp.to j hj
    rcases (by omega : i = 0 ∨ i = 1) with rfl | rfl
    · have ei : (S.getD j rx0).r = xa.r := ei
      have h9 := congrArg (fun C : Array Value => C[1]?) hc
      simp only [ei] at h9
      have h8 : (some (Value.int .i64 0) : Option Value) = some (Value.int .i64 (x.length : Int)) := h9
      injection h8 with h8
      injection h8 with _ h8
      omega
    · have ei : (S.getD j rx0).r = xb.r := ei
      rw [ei]; rfl
set_option maxHeartbeats 16000000 in
set_option maxRecDepth 100000 in
theorem awakeR_any (w : World) : Calls Try.prog 29 #[] w fun e w' => e = .returned (.bool true) ∧ Below w.heap.size w w' := by
  go_enter Try.func29, Try.ntmps29
  go_wp2_with fail
  refine (build_any x2 (some ⟨w.heap.size, 0, none⟩) 2 2 _ (rdR_two (show Blk 70 _ w.heap.size (rxC xa ++ rxC xb) from heap_alloc_new w _)) (fun j _ => x2_hop _ j) (fun j _ => x2_b j) (by omega)).mono ?_
  rintro e w2 ⟨b1, h⟩
  have HB : Hid (Below w.heap.size w w2) := Lib.hid (((Below.refl w.heap.size w).alloc (Nat.le_refl _) _).trans (b1.mono (by simp)))
  clear b1
  rcases h with ⟨⟨i, hi, hn⟩, _⟩ | ⟨_, S, hp, _, ⟨⟨i, j, h1, h2, h3⟩, _⟩ | ⟨t, s, A, c, T, ht, rfl, htab⟩⟩
  · exfalso
    rcases (by omega : i = 0 ∨ i = 1) with rfl | rfl
    · exact hn xa_f
    · exact hn xb_f
  · exact absurd h3 (hp.nodup x2_ne i j h1 h2)
  have HTB := Lib.hid htab
  have HPM := Lib.hid hp
  clear htab hp ht
  obtain ⟨Q, hQ⟩ : ∃ Q, T.FA 6 adr7 = Q := ⟨_, rfl⟩
  obtain ⟨P0, i0, hq, hi0, hm0⟩ := x2_find HTB.out HPM.out hQ
  have HM0 := Lib.hid hm0
  have HQ := Lib.hid (hQ.trans hq)
  clear hQ hq hi0 hm0
  go_wp2_with fail
  refine (show Calls Try.prog 34 #[.pointer (some ⟨t, 0, none⟩), .int .u8 6, .agg (agC adr7)] w2 _ from tfind_any t s 2 A c S T 6 adr7 adr7_b w2 HTB.out).mono ?_
  rintro e w3 ⟨b1, h⟩
  have HTB3 := Lib.hid (HTB.out.below b1)
  have HBn := Lib.hid (HB.out.trans (b1.mono HB.out.size))
  clear HB
  have HB := HBn
  clear HBn
  clear b1 HTB
  rw [HQ.out] at h
  rcases h with ⟨er, h9, _⟩ | ⟨P, i, y, h9, hy, ho, rfl⟩
  · cases h9
  have hii : i = i0 := by have := congrArg (fun q : Pf × Int × Bool × Int => q.2.1) h9; exact (Int.ofNat.inj this).symm
  have HYM : Hid (y.r.m = 2) := Lib.hid (by rw [hy, hii]; exact HM0.out)
  clear h9 hy ho hii
  have HB3 := Lib.hid (Below.refl w3.heap.size w3)
  obtain ⟨N1, hN1⟩ : ∃ N, w3.heap.size = N := ⟨_, rfl⟩
  have HN1 := Lib.hid hN1
  clear hN1
  go_wp2_with (refine wpList_new (op := ⟨some 4, _, _, _, _, _⟩) rfl 70 rfl (rxC rx0) zero_rt N1 HN1.out ?_; intro w1 k1 b1 s1; refine Hid.out ?_)
  refine Lib.hid ?_
  have K4 := Lib.hid k1
  clear k1
  have le_HB_N1 : w.heap.size ≤ N1 := by rw [← HN1.out]; exact HB.out.size
  have le_HB3_N1 : w3.heap.size ≤ N1 := by rw [← HN1.out]; exact HB3.out.size
  have HBn := Lib.hid (HB.out.trans (b1.mono HB.out.size))
  clear HB
  have HB := HBn
  clear HBn
  have HB3n := Lib.hid (HB3.out.trans (b1.mono HB3.out.size))
  clear HB3
  have HB3 := HB3n
  clear HB3n
  clear b1 HN1
  go_wp2_with (refine wpList_st rfl 70 (.tmp 4) (.tmp 28) rfl N1 0 rfl (.agg (rxC y)) (rxC y) rfl rfl info_rt (rx_one _) K4.out (Nat.le_of_ble_eq_true rfl) (C' := rxC y) (rx_over _ _) ?_; intro w2 q1; refine Hid.out ?_)
  refine Lib.hid ?_
  have HBn := Lib.hid (HB.out.trans (q1.2.1 _ (by omega)))
  clear HB
  have HB := HBn
  clear HBn
  have HB3n := Lib.hid (HB3.out.trans (q1.2.1 _ (by omega)))
  clear HB3
  have HB3 := HB3n
  clear HB3n
  have K4n : Hid (Blk 70 w2 N1 (rxC y)) := Lib.hid q1.1
  clear K4
  have K4 := K4n
  clear K4n q1
  have c19 : w2.cell? ⟨N1, 19, none⟩ = some (.int .u32 2) := by have h9 := (K4.out.cell 19).trans (show (rxC y)[19]? = some (.int .u32 y.r.m) from rfl); rw [HYM.out] at h9; exact h9
  go_wp2_with fail
  refine (tlistR_any t s 2 A c S T w2 (HTB3.out.below HB3.out)).mono ?_
  rintro e w9 ⟨v, R, rfl, hc, b1⟩
  have K4n := Lib.hid (K4.out.below b1 K4.out.lt)
  clear K4
  have K4 := K4n
  clear K4n
  have HBn := Lib.hid (HB.out.trans (b1.mono HB.out.size))
  clear HB
  have HB := HBn
  clear HBn
  have HB3n := Lib.hid (HB3.out.trans (b1.mono HB3.out.size))
  clear HB3
  have HB3 := HB3n
  clear HB3n
  obtain ⟨A9, c9, rfl, _, _, _, _⟩ := hc.own.shape (rxB_recs _) (by decide)
  clear b1 hc c19
  go_wp2
  first | (go_ret; exact ⟨rfl, HB.out⟩) | exact ⟨.bool true, by simp [results, Try.f29, go_sem], rfl, HB.out⟩ | exact bodyPost_ret (v := .bool true) (by simp [results, Try.f29, go_sem]) rfl ⟨rfl, HB.out⟩
end Go.Proofs.Ytjnbemopfhinbaa
