/- The difference of two lists of routes. Each theorem states its conditions. -/
import Derived.Test.YtjnbemopfhinbaaRbE
import Derived.Test.YtjnbemopfhinbaaRbCa
import Derived.Deep.DeepCutAuto
namespace Go.Proofs.Ytjnbemopfhinbaa
open Go.RowKit
set_option linter.unusedVariables false
set_option linter.unusedSimpArgs false

/-- the lesser of two errors, or the one that there is -/
def lstI (e f : Int) : Int := if e = 0 then f else if f = 0 then e else if e ≤ f then e else f
def Er (e : Int) : Prop := e = 0 ∨ e = 3 ∨ e = 7
set_option maxRecDepth 100000 in
theorem least_any (e f : Int) (he : Er e) (hf : Er f) (w : World) : Calls Try.prog 69 #[.int .i64 e, .int .i64 f] w fun x w' => x = .returned (.int .i64 (lstI e f)) ∧ w = w' := by
  rcases he with rfl | rfl | rfl <;> rcases hf with rfl | rfl | rfl <;>
    (go_enter Try.func69, Try.ntmps69
     go_wp2_with fail
     go_ret
     exact ⟨rfl, rfl⟩)
theorem lstI_ne {e f : Int} (he : Er e) (hf : Er f) (h : ¬ (e = 0 ∧ f = 0)) : lstI e f ≠ 0 := by
  unfold lstI Er at *
  split
  · omega
  · split
    · omega
    · split <;> omega
/-- two routes to one prefix are alike -/
def Alike (x y : Rt) : Prop := x.k = y.k ∧ x.m = y.m ∧ HopsEq x.n y.n x.h y.h
/-- what is gone: its prefix is not among the other's -/
def Gone (T : Ts) (y : Rx) : Prop := ∀ k, kyF y.r.p = some k → T.G k = none
/-- what is new or another -/
def Newer (S : List Rx) (T : Ts) (y : Rx) : Prop := ∀ k (i : Nat), kyF y.r.p = some k → T.G k = some (i : Int) → ¬ Alike (S.getD i rx0).r y.r
noncomputable def goneL (T : Ts) (L : List Rx) : List Rx := L.filter (fun y => @decide (Gone T y) (Classical.propDecidable _))
noncomputable def newL (S : List Rx) (T : Ts) (L : List Rx) : List Rx := L.filter (fun y => @decide (Newer S T y) (Classical.propDecidable _))
theorem take_more {S : List Rx} {i : Nat} (h : i < S.length) : S.take (i + 1) = S.take i ++ [S.getD i rx0] := by
  rw [List.take_add_one, List.getD_eq_getElem?_getD, List.getElem?_eq_getElem h]
  rfl
theorem filt_yes {p : Rx → Bool} {S : List Rx} {i : Nat} (h : i < S.length) (hg : p (S.getD i rx0) = true) : (S.take (i + 1)).filter p = (S.take i).filter p ++ [S.getD i rx0] := by
  rw [take_more h, List.filter_append, List.filter_cons_of_pos hg]
  rfl
theorem filt_no {p : Rx → Bool} {S : List Rx} {i : Nat} (h : i < S.length) (hg : ¬ p (S.getD i rx0) = true) : (S.take (i + 1)).filter p = (S.take i).filter p := by
  rw [take_more h, List.filter_append, List.filter_cons_of_neg hg, List.filter_nil, List.append_nil]
theorem goneL_yes {T : Ts} {S : List Rx} {i : Nat} (h : i < S.length) (hg : Gone T (S.getD i rx0)) : goneL T (S.take (i + 1)) = goneL T (S.take i) ++ [S.getD i rx0] := filt_yes h (@decide_eq_true _ (Classical.propDecidable _) hg)
theorem goneL_no {T : Ts} {S : List Rx} {i : Nat} (h : i < S.length) (hg : ¬ Gone T (S.getD i rx0)) : goneL T (S.take (i + 1)) = goneL T (S.take i) := filt_no h (fun h9 => hg (@of_decide_eq_true _ (Classical.propDecidable _) h9))
theorem newL_yes {S0 : List Rx} {T : Ts} {S : List Rx} {i : Nat} (h : i < S.length) (hg : Newer S0 T (S.getD i rx0)) : newL S0 T (S.take (i + 1)) = newL S0 T (S.take i) ++ [S.getD i rx0] := filt_yes h (@decide_eq_true _ (Classical.propDecidable _) hg)
theorem newL_no {S0 : List Rx} {T : Ts} {S : List Rx} {i : Nat} (h : i < S.length) (hg : ¬ Newer S0 T (S.getD i rx0)) : newL S0 T (S.take (i + 1)) = newL S0 T (S.take i) := filt_no h (fun h9 => hg (@of_decide_eq_true _ (Classical.propDecidable _) h9))
theorem goneL_len (T : Ts) (S : List Rx) (i : Nat) : (goneL T (S.take i)).length ≤ i := Nat.le_trans (List.length_filter_le _ _) (by rw [List.length_take]; omega)
theorem newL_len (S0 : List Rx) (T : Ts) (S : List Rx) (i : Nat) : (newL S0 T (S.take i)).length ≤ i := Nat.le_trans (List.length_filter_le _ _) (by rw [List.length_take]; omega)
/-- the prefixes of routes -/
def pfL (L : List Rx) : List Pf := L.map (fun y => y.r.p)
theorem pfL_len (L : List Rx) : (pfL L).length = L.length := List.length_map _
theorem pfL_snoc (L : List Rx) (y : Rx) : pfL (L ++ [y]) = pfL L ++ [y.r.p] := by unfold pfL; rw [List.map_append]; rfl
/-- what Build says of a list -/
def ErrX (n : Nat) (X : Nat → Rx) (e : Int) : Prop := (e = 3 ∧ ∃ i, i < n ∧ ¬ Form (X i).r.p.fam (X i).r.p.len (X i).r.p.z) ∨
  (e = 7 ∧ (∀ i, i < n → Form (X i).r.p.fam (X i).r.p.len (X i).r.p.z) ∧ ∃ i j, i < j ∧ j < n ∧ kyF (X i).r.p = kyF (X j).r.p) ∨
  (e = 0 ∧ (∀ i, i < n → Form (X i).r.p.fam (X i).r.p.len (X i).r.p.z) ∧ ∀ i j, i < j → j < n → kyF (X i).r.p ≠ kyF (X j).r.p)
theorem ErrX.er {n : Nat} {X : Nat → Rx} {e : Int} (h : ErrX n X e) : Er e := by
  rcases h with ⟨h, _⟩ | ⟨h, _⟩ | ⟨h, _⟩
  · exact .inr (.inl h)
  · exact .inr (.inr h)
  · exact .inl h
def BuildE (w : World) (n : Nat) (X : Nat → Rx) (e : Ending) (w' : World) : Prop := Below w.heap.size w w' ∧
  ((∃ e1 : Int, (e1 = 3 ∨ e1 = 7) ∧ ErrX n X e1 ∧ e = .returned (.tuple #[.pointer none, .int .i64 e1])) ∨
    ∃ (t s : Nat) (A : Option Addr) (c : Nat) (S : List Rx) (T : Ts), ErrX n X 0 ∧ e = .returned (.tuple #[.pointer (some ⟨t, 0, none⟩), .int .i64 0]) ∧ TabAt w' t s n A c S T ∧ PermX n X S ∧ AscX S ∧ HiT w' w.heap.size t s A n S)
theorem build_err (X : Nat → Rx) (A : Option Addr) (n c : Nat) (w : World) (hr : RdR w A n 21 (fun j => rxC (X j))) (hh : ∀ j, j < n → HopAt w (X j)) (hz : ∀ j, j < n → Bytes (X j).r.p.z) (hn : n ≤ 1000) : Calls Try.prog 31 #[.slice A n c] w (BuildE w n X) := by
  refine (build_any X A n c w hr hh hz hn).mono ?_
  rintro e w' ⟨b, h⟩
  refine ⟨b, ?_⟩
  rcases h with ⟨h1, e1⟩ | ⟨hf, S2, hp, ha, ⟨⟨i, j, hij, hj, he⟩, e1⟩ | ⟨t, s, A2, c2, T, hhi, e1, ht⟩⟩
  · exact .inl ⟨3, .inl rfl, .inl ⟨rfl, h1⟩, e1⟩
  · refine .inl ⟨7, .inr rfl, .inr (.inl ⟨rfl, hf, ?_⟩), e1⟩
    refine Classical.byContradiction fun hc => ?_
    exact hp.nodup (fun a b hab hb h9 => hc ⟨a, b, hab, hb, h9⟩) i j hij hj he
  · exact .inr ⟨t, s, A2, c2, S2, T, .inr (.inr ⟨rfl, hf, hp.back ht.nodup⟩), e1, ht, hp, ha, hhi⟩
theorem of_tab {w : World} {t s n c : Nat} {A : Option Addr} {S : List Rx} {T : Ts} (h : TabAt w t s n A c S T) (p : Pf) (hp : Bytes p.z) : Calls Try.prog 64 #[.pointer (some ⟨t, 0, none⟩), .agg (pfC p)] w fun e w' => ∃ (bk : Bool) (q : Rx), e = .returned (.tuple #[.agg (rxC q), .bool bk]) ∧ Below w.heap.size w w' ∧ (bk = false → ∀ k, kyF p = some k → T.G k = none) ∧ (bk = true → ∃ (k : Ky) (i : Nat), kyF p = some k ∧ i < n ∧ T.G k = some (i : Int) ∧ q = S.getD i rx0) := by
  refine (of_any t s n A c S T p hp w h.blk h.tr h.row h.le (fun k v hv => by obtain ⟨i, a, b, _⟩ := h.ix k v hv; exact ⟨i, a, b⟩)).mono ?_
  rintro e w' ⟨b, ⟨e1, h1⟩ | ⟨k, i, h1, h2, h3, e1⟩⟩
  · exact ⟨false, rx0, e1, b, fun _ => h1, (fun h => by cases h)⟩
  · exact ⟨true, S.getD i rx0, e1, b, (fun h => by cases h), fun _ => ⟨k, i, h1, h2, h3, rfl⟩⟩
theorem own_pf {w : World} {B : Nat} {v : Value} {G : List Pf} {p : Pf} (h : OwnR w B 32 18 v (G.length + 1) (catR (pfB G) G.length (fun _ => pfC p))) : OwnR w B 32 18 v (G ++ [p]).length (pfB (G ++ [p])) := by
  rw [List.length_append]
  exact h.congr (pf_snoc G p)
theorem own_rx {w : World} {B : Nat} {v : Value} {G : List Rx} {y : Rx} (h : OwnR w B 70 21 v (G.length + 1) (catR (rxB G) G.length (fun _ => rxC y))) : OwnR w B 70 21 v (G ++ [y]).length (rxB (G ++ [y])) := by
  rw [List.length_append]
  exact h.congr (rx_snoc G y)
/-- what Diff answers -/
def DiffQ (w : World) (n m : Nat) (X Y : Nat → Rx) (e : Ending) (w' : World) : Prop := Below w.heap.size w w' ∧
  ((∃ e1 e2 : Int, ErrX n X e1 ∧ ErrX m Y e2 ∧ ¬ (e1 = 0 ∧ e2 = 0) ∧ e = .returned (.tuple #[.slice none 0 0, .slice none 0 0, .int .i64 (lstI e1 e2)])) ∨
    ∃ (S S2 : List Rx) (T T2 : Ts) (v1 v2 : Value) (t s t2 s2 c c2 : Nat) (A A2 : Option Addr), ErrX n X 0 ∧ ErrX m Y 0 ∧ e = .returned (.tuple #[v1, v2, .int .i64 0]) ∧ TabAt w' t s n A c S T ∧ TabAt w' t2 s2 m A2 c2 S2 T2 ∧ PermX n X S ∧ AscX S ∧ PermX m Y S2 ∧ AscX S2 ∧ OwnR w' w.heap.size 32 18 v1 (pfL (goneL T2 S)).length (pfB (pfL (goneL T2 S))) ∧ OwnR w' w.heap.size 70 21 v2 (newL S T S2).length (rxB (newL S T S2)) ∧ ∀ y, y ∈ S2 → HopW w' w.heap.size y)
set_option maxHeartbeats 32000000 in
set_option maxRecDepth 100000 in
theorem diff_any (X Y : Nat → Rx) (A B : Option Addr) (n m cA cB : Nat) (w : World) (hr : RdR w A n 21 (fun j => rxC (X j))) (hh : ∀ j, j < n → HopAt w (X j)) (hz : ∀ j, j < n → RtB (X j).r) (hn : n ≤ 1000) (hr2 : RdR w B m 21 (fun j => rxC (Y j))) (hh2 : ∀ j, j < m → HopAt w (Y j)) (hz2 : ∀ j, j < m → RtB (Y j).r) (hm : m ≤ 1000) :
    Calls Try.prog 39 #[.slice A n cA, .slice B m cB] w (DiffQ w n m X Y) := by
  have HB1 := Lib.hid (fun W (_ : w = W) => build_err X A n cA w hr hh (fun j hj => (hz j hj).p) hn)
  have HB2 := Lib.hid (fun W (hW : Below w.heap.size w W) => build_err Y B m cB W (hr2.below hW rfl) (fun j hj => (hh2 j hj).below hW) (fun j hj => (hz2 j hj).p) hm)
  have HZ := Lib.hid hz
  have HZ2 := Lib.hid hz2
  have HN := Lib.hid hn
  have HM := Lib.hid hm
  have hnI : (n : Int) ≤ 9223372036854775807 := by omega
  have hmI : (m : Int) ≤ 9223372036854775807 := by omega
  clear hr hh hz hn hr2 hh2 hz2 hm
  go_enter Try.func39, Try.ntmps39
  go_wp2_with fail
  refine (HB1.out w rfl).mono ?_
  rintro e w1 ⟨b1, h1⟩
  have HB := Lib.hid b1
  clear b1
  rcases h1 with ⟨e1, he1, hx1, rfl⟩ | ⟨t, s, A1, c1, S, T, hx1, rfl, htb, hpm, hac⟩
  · have HX1 := Lib.hid hx1
    clear hx1
    go_wp2_with fail
    refine (HB2.out w1 HB.out).mono ?_
    rintro e w2 ⟨b1, h1⟩
    have HBB := Lib.hid (HB.out.trans (b1.mono HB.out.size))
    clear b1
    rcases h1 with ⟨e2, he2, hx2, rfl⟩ | ⟨t2, s2, A2, c2, S2, T2, hx2, rfl, htb2, hpm2, hac2⟩
    · have HX2 := Lib.hid hx2
      clear hx2
      rcases he1 with rfl | rfl <;> rcases he2 with rfl | rfl
      · go_wp2_with fail
        refine (least_any 3 3 HX1.out.er HX2.out.er _).mono ?_
        rintro e w3 ⟨rfl, rfl⟩
        go_wp2_with fail
        exact bodyPost_ret (v := .tuple #[.slice none 0 0, .slice none 0 0, .int .i64 (lstI 3 3)]) (by simp [results, Try.f39, go_sem]) rfl ⟨HBB.out, .inl ⟨3, 3, HX1.out, HX2.out, (fun h => by omega), rfl⟩⟩
      · go_wp2_with fail
        refine (least_any 3 7 HX1.out.er HX2.out.er _).mono ?_
        rintro e w3 ⟨rfl, rfl⟩
        go_wp2_with fail
        exact bodyPost_ret (v := .tuple #[.slice none 0 0, .slice none 0 0, .int .i64 (lstI 3 7)]) (by simp [results, Try.f39, go_sem]) rfl ⟨HBB.out, .inl ⟨3, 7, HX1.out, HX2.out, (fun h => by omega), rfl⟩⟩
      · go_wp2_with fail
        refine (least_any 7 3 HX1.out.er HX2.out.er _).mono ?_
        rintro e w3 ⟨rfl, rfl⟩
        go_wp2_with fail
        exact bodyPost_ret (v := .tuple #[.slice none 0 0, .slice none 0 0, .int .i64 (lstI 7 3)]) (by simp [results, Try.f39, go_sem]) rfl ⟨HBB.out, .inl ⟨7, 3, HX1.out, HX2.out, (fun h => by omega), rfl⟩⟩
      · go_wp2_with fail
        refine (least_any 7 7 HX1.out.er HX2.out.er _).mono ?_
        rintro e w3 ⟨rfl, rfl⟩
        go_wp2_with fail
        exact bodyPost_ret (v := .tuple #[.slice none 0 0, .slice none 0 0, .int .i64 (lstI 7 7)]) (by simp [results, Try.f39, go_sem]) rfl ⟨HBB.out, .inl ⟨7, 7, HX1.out, HX2.out, (fun h => by omega), rfl⟩⟩
    · have HX2 := Lib.hid hx2
      clear hx2
      rcases he1 with rfl | rfl
      · go_wp2_with fail
        refine (least_any 3 0 HX1.out.er HX2.out.er _).mono ?_
        rintro e w3 ⟨rfl, rfl⟩
        go_wp2_with fail
        exact bodyPost_ret (v := .tuple #[.slice none 0 0, .slice none 0 0, .int .i64 (lstI 3 0)]) (by simp [results, Try.f39, go_sem]) rfl ⟨HBB.out, .inl ⟨3, 0, HX1.out, HX2.out, (fun h => by omega), rfl⟩⟩
      · go_wp2_with fail
        refine (least_any 7 0 HX1.out.er HX2.out.er _).mono ?_
        rintro e w3 ⟨rfl, rfl⟩
        go_wp2_with fail
        exact bodyPost_ret (v := .tuple #[.slice none 0 0, .slice none 0 0, .int .i64 (lstI 7 0)]) (by simp [results, Try.f39, go_sem]) rfl ⟨HBB.out, .inl ⟨7, 0, HX1.out, HX2.out, (fun h => by omega), rfl⟩⟩
  · have HX1 := Lib.hid hx1
    have HTB := Lib.hid htb
    have HPM := Lib.hid hpm
    have HAC := Lib.hid hac
    clear hx1 htb hpm hac
    have HW1 := Lib.hid HB.out.size
    go_wp2_with fail
    refine (HB2.out w1 HB.out).mono ?_
    rintro e w2 ⟨b1, h1⟩
    have HBn := Lib.hid (HB.out.trans (b1.mono HB.out.size))
    clear HB
    have HB := HBn
    clear HBn
    have HTBn := Lib.hid (HTB.out.below b1)
    clear HTB
    have HTB := HTBn
    clear HTBn
    clear b1
    rcases h1 with ⟨e2, he2, hx2, rfl⟩ | ⟨t2, s2, A2, c2, S2, T2, hx2, rfl, htb2, hpm2, hac2⟩
    · have HX2 := Lib.hid hx2
      clear hx2
      rcases he2 with rfl | rfl
      · go_wp2_with fail
        refine (least_any 0 3 HX1.out.er HX2.out.er _).mono ?_
        rintro e w3 ⟨rfl, rfl⟩
        go_wp2_with fail
        exact bodyPost_ret (v := .tuple #[.slice none 0 0, .slice none 0 0, .int .i64 (lstI 0 3)]) (by simp [results, Try.f39, go_sem]) rfl ⟨HB.out, .inl ⟨0, 3, HX1.out, HX2.out, (fun h => by omega), rfl⟩⟩
      · go_wp2_with fail
        refine (least_any 0 7 HX1.out.er HX2.out.er _).mono ?_
        rintro e w3 ⟨rfl, rfl⟩
        go_wp2_with fail
        exact bodyPost_ret (v := .tuple #[.slice none 0 0, .slice none 0 0, .int .i64 (lstI 0 7)]) (by simp [results, Try.f39, go_sem]) rfl ⟨HB.out, .inl ⟨0, 7, HX1.out, HX2.out, (fun h => by omega), rfl⟩⟩
    · have HX2 := Lib.hid hx2
      have HTB2 := Lib.hid htb2
      have HPM2 := Lib.hid hpm2
      have HAC2 := Lib.hid hac2
      have HHW2 := Lib.hid (fun y hy => (hac2.2.hop y hy).mono HW1.out)
      clear hx2 htb2 hpm2 hac2
      obtain ⟨wo, hwo⟩ : ∃ x : World, x = w2 := ⟨_, rfl⟩
      subst hwo
      have HWO := Lib.hid HB.out.size
      have c0 : wo.cell? ⟨t, 0, none⟩ = some (.slice A1 n c1) := (HTB.out.blk.cell 0).trans rfl
      have HY1 : Hid (∀ i, i < n → RtB (S.getD i rx0).r) := Lib.hid (fun i hi => by obtain ⟨q, hq, e⟩ := HPM.out.to i hi; rw [e]; exact HZ.out q hq)
      have HY2 : Hid (∀ i, i < m → RtB (S2.getD i rx0).r) := Lib.hid (fun i hi => by obtain ⟨q, hq, e⟩ := HPM2.out.to i hi; rw [e]; exact HZ2.out q hq)
      go_wp2_with fail
      clear c0
      go_loopw [11, 45] (fun v t wr => ∃ j : Nat, j ≤ n ∧ t = .int .i64 j ∧ Hid (OwnR wr wo.heap.size 32 18 v (pfL (goneL T2 (S.take j))).length (pfB (pfL (goneL T2 (S.take j))))) ∧ Hid (Below wo.heap.size wo wr)) (fun _ t _ => n - (intOf t).toNat)
      case atStart => exact ⟨0, by omega, rfl, Lib.hid (by rw [List.take_zero]; exact OwnR.nil _ _ _ _ _), Lib.hid (Below.refl _ _)⟩
      case round =>
        obtain ⟨j, hj, rfl, HG, HBo⟩ := hrel
        by_cases hin : j < n
        · have HIN := Lib.hid hin
          have hii : (j : Int) < (n : Int) := by omega
          have hj0 : (0 : Int) ≤ (j : Int) := by omega
          clear hin hj
          obtain ⟨y, hy⟩ : ∃ y, S.getD j rx0 = y := ⟨_, rfl⟩
          have HYB : Hid (RtB y.r) := Lib.hid (by rw [← hy]; exact HY1.out j HIN.out)
          have HYH : Hid (HopAt wo y) := Lib.hid (by rw [← hy]; exact HTB.out.hop _ (S_mem HTB.out.len HIN.out))
          have hrow := HTB.out.row
          obtain ⟨b0, o0, rfl, r0⟩ := hrow.row (by have := HIN.out; omega)
          have R0 : Hid (wr.rangeAt b0 (o0 + j * 21) (rxC y).toList) := Lib.hid (by rw [← hy]; exact rangeAt_below (r0.2 j HIN.out) HBo.out r0.1)
          have HYE := Lib.hid hy
          clear r0 hrow hy
          go_wp2_with (refine wpList_ld (op := ⟨some 48, _, _, _, _, _⟩) (by rfl) 70 (.tmp 47) rfl b0 (o0 + j * 21) rfl (rxC y) _ R0.out Try.underlying70 rfl info_rt ?_; refine Hid.out ?_)
          refine Lib.hid ?_
          clear R0
          obtain ⟨NK1, hNK1⟩ : ∃ N, wr.heap.size = N := ⟨_, rfl⟩
          have HNK1 := Lib.hid hNK1
          clear hNK1
          go_wp2_with (refine wpList_new (op := ⟨some 13, _, _, _, _, _⟩) rfl 70 rfl (rxC rx0) zero_rt NK1 HNK1.out ?_; intro w11 k1 b1 s1; refine Hid.out ?_)
          refine Lib.hid ?_
          have KX := Lib.hid k1
          have BX := Lib.hid b1
          clear k1 b1 s1
          go_wp2_with (refine wpList_st rfl 70 (.tmp 13) (.tmp 48) rfl NK1 0 rfl (.agg (rxC y)) (rxC y) rfl rfl info_rt (rx_one _) KX.out (Nat.le_of_ble_eq_true rfl) (C' := rxC y) (rx_over _ _) ?_; intro w12 q1; refine Hid.out ?_)
          refine Lib.hid ?_
          have b1 : Below wr.heap.size wr w12 := BX.out.trans (q1.2.1 _ (by rw [HNK1.out]; exact Nat.le_refl _))
          have HBon := Lib.hid (HBo.out.trans (b1.mono HBo.out.size))
          clear HBo
          have HBo := HBon
          clear HBon
          have HGn := Lib.hid (HG.out.below b1)
          clear HG
          have HG := HGn
          clear HGn
          have K1 : Hid (Blk 70 w12 NK1 (rxC y)) := Lib.hid q1.1
          clear KX BX q1 b1 HNK1
          go_wp2_with (refine wpList_ld (op := ⟨some 52, _, _, _, _, _⟩) (by rfl) 32 (.tmp 51) rfl NK1 0 rfl (pfC y.r.p) _ K1.out.rxpf Try.underlying32 rfl (hi_pv _ _ _) ?_; refine Hid.out ?_)
          refine Lib.hid ?_
          go_wp2_with fail
          refine (of_tab (HTB2.out.below HBo.out) y.r.p HYB.out.p).mono ?_
          rintro e w13 ⟨bk, q, rfl, b1, hk0, hk1⟩
          have HBon := Lib.hid (HBo.out.trans (b1.mono HBo.out.size))
          clear HBo
          have HBo := HBon
          clear HBon
          have HGn := Lib.hid (HG.out.below b1)
          clear HG
          have HG := HGn
          clear HGn
          have K1n := Lib.hid (K1.out.below b1 K1.out.lt)
          clear K1
          have K1 := K1n
          clear K1n
          have HK0 := Lib.hid hk0
          have HK1 := Lib.hid hk1
          clear b1 hk0 hk1
          obtain ⟨NK2, hNK2⟩ : ∃ N, w13.heap.size = N := ⟨_, rfl⟩
          have HNK2 := Lib.hid hNK2
          clear hNK2
          go_wp2_with (refine wpList_new (op := ⟨some 14, _, _, _, _, _⟩) rfl 70 rfl (rxC rx0) zero_rt NK2 HNK2.out ?_; intro w14 k1 b1 s1; refine Hid.out ?_)
          refine Lib.hid ?_
          have KX := Lib.hid k1
          have BX := Lib.hid b1
          clear k1 b1 s1
          go_wp2_with (refine wpList_st rfl 70 (.tmp 14) (.tmp 54) rfl NK2 0 rfl (.agg (rxC q)) (rxC q) rfl rfl info_rt (rx_one _) KX.out (Nat.le_of_ble_eq_true rfl) (C' := rxC q) (rx_over _ _) ?_; intro w15 q1; refine Hid.out ?_)
          refine Lib.hid ?_
          have b1 : Below w13.heap.size w13 w15 := BX.out.trans (q1.2.1 _ (by rw [HNK2.out]; exact Nat.le_refl _))
          have HBon := Lib.hid (HBo.out.trans (b1.mono HBo.out.size))
          clear HBo
          have HBo := HBon
          clear HBon
          have HGn := Lib.hid (HG.out.below b1)
          clear HG
          have HG := HGn
          clear HGn
          have K1n := Lib.hid (K1.out.below b1 K1.out.lt)
          clear K1
          have K1 := K1n
          clear K1n
          have K2 : Hid (Blk 70 w15 NK2 (rxC q)) := Lib.hid q1.1
          clear KX BX q1 b1 HNK2
          have HSL : Hid (j < S.length) := Lib.hid (by rw [HTB.out.len]; exact HIN.out)
          have HGL : Hid ((pfL (goneL T2 (S.take j))).length ≤ 1000) := Lib.hid (by rw [pfL_len]; have := goneL_len T2 S j; have := HIN.out; have := HN.out; omega)
          cases bk with
          | false =>
            have HGO : Hid (Gone T2 (S.getD j rx0)) := Lib.hid (by rw [HYE.out]; exact HK0.out (by first | rfl | trivial))
            go_wp2_with (refine wpList_ld (op := ⟨some 60, _, _, _, _, _⟩) (by rfl) 32 (.tmp 59) rfl NK1 0 rfl (pfC y.r.p) _ K1.out.rxpf Try.underlying32 rfl (hi_pv _ _ _) ?_; refine Hid.out ?_)
            refine Lib.hid ?_
            obtain ⟨P1, hP1⟩ : ∃ N, w15.heap.size = N := ⟨_, rfl⟩
            have HP1 := Lib.hid hP1
            clear hP1
            go_wp2_with (refine wpList_bs (op := ⟨some 61, _, _, _, _, _⟩) rfl 32 (pfC y.r.p) (bs_pf _ _ _ rfl _ _ _ rfl) P1 HP1.out ?_; intro wa k1 b1 s9; refine Hid.out ?_)
            refine Lib.hid ?_
            have HRR : Hid (RdR wa (some ⟨P1, 0, none⟩) 1 18 (fun _ => pfC y.r.p)) := Lib.hid (rdR_blk k1)
            have HBon := Lib.hid (HBo.out.trans (b1.mono HBo.out.size))
            clear HBo
            have HBo := HBon
            clear HBon
            have HGn := Lib.hid (HG.out.below b1)
            clear HG
            have HG := HGn
            clear HGn
            have K1n := Lib.hid (K1.out.below b1 K1.out.lt)
            clear K1
            have K1 := K1n
            clear K1n
            have K2n := Lib.hid (K2.out.below b1 K2.out.lt)
            clear K2
            have K2 := K2n
            clear K2n
            clear k1 s9 b1 HP1
            have HZ := Lib.hid HBo.out.size
            go_wp2_with (refine app_Y (o := ⟨some 62, _, _, _, _, _⟩) 42 32 18 32 (.agg (pvC 0 0 Z0)) Try.underlying42 info_pfE rfl (by decide) rfl (.tmp 58) (.tmp 61) rfl _ _ _ _ rfl HG.out HZ.out ⟨P1, 0, none⟩ 1 1 (fun _ => pfC y.r.p) rfl HRR.out (pfC_recs _) (by have := HGL.out; unfold maxLen; omega) (by have := HGL.out; omega) ?_; intro vb wb ho9 hg9 hk9; refine Hid.out ?_)
            refine Lib.hid ?_
            have HBn := Lib.hid (HBo.out.trans (below_grown hg9 HZ.out hk9))
            clear HBo
            have HBo := HBn
            clear HBn
            have HGn : Hid (OwnR wb wo.heap.size 32 18 vb (pfL (goneL T2 (S.take (j + 1)))).length (pfB (pfL (goneL T2 (S.take (j + 1)))))) := Lib.hid (by rw [goneL_yes HSL.out HGO.out, pfL_snoc, HYE.out]; exact own_pf ho9)
            clear ho9 hg9 hk9 HRR HZ
            go_wp2_with fail
            go_roundw
            case rel => exact ⟨j + 1, HIN.out, by go_num, HGn, HBo⟩
            case measure => have := HIN.out; simp only [intOf]; omega
          | true =>
            have HGO : Hid (¬ Gone T2 (S.getD j rx0)) := Lib.hid (fun h => by obtain ⟨k, i, h1, _, h2, _⟩ := HK1.out (by first | rfl | trivial); rw [HYE.out] at h; have h3 := h k h1; rw [h2] at h3; cases h3)
            go_wp2_with fail
            go_roundw
            case rel => exact ⟨j + 1, HIN.out, by go_num, Lib.hid (by rw [goneL_no HSL.out HGO.out]; exact HG.out), HBo⟩
            case measure => have := HIN.out; simp only [intOf]; omega
        · obtain rfl : n = j := by omega
          have b1 := HBo.out
          clear HBo
          have HBn := Lib.hid (HB.out.trans (b1.mono HB.out.size))
          clear HB
          have HB := HBn
          clear HBn
          have HTBn := Lib.hid (HTB.out.below b1)
          clear HTB
          have HTB := HTBn
          clear HTBn
          have HTB2n := Lib.hid (HTB2.out.below b1)
          clear HTB2
          have HTB2 := HTB2n
          clear HTB2n
          have HHW2n := Lib.hid (fun y hy => (HHW2.out y hy).below b1)
          clear HHW2
          have HHW2 := HHW2n
          clear HHW2n
          clear b1
          obtain ⟨wp, hwp⟩ : ∃ x : World, x = wr := ⟨_, rfl⟩
          subst hwp
          have HWP := Lib.hid HB.out.size
          have c0 : wp.cell? ⟨t2, 0, none⟩ = some (.slice A2 m c2) := (HTB2.out.blk.cell 0).trans rfl
          have HGG := HG
          clear HG
          go_wp2_with fail
          clear c0
          go_loopw [16, 69] (fun v t wr => ∃ j : Nat, j ≤ m ∧ t = .int .i64 j ∧ Hid (OwnR wr wp.heap.size 70 21 v ((newL S T (S2.take j))).length (rxB ((newL S T (S2.take j))))) ∧ Hid (Below wp.heap.size wp wr)) (fun _ t _ => m - (intOf t).toNat)
          case atStart => exact ⟨0, by omega, rfl, Lib.hid (by rw [List.take_zero]; exact OwnR.nil _ _ _ _ _), Lib.hid (Below.refl _ _)⟩
          case round =>
            obtain ⟨j, hj, rfl, HG, HBo⟩ := hrel
            by_cases hin : j < m
            · have HIN := Lib.hid hin
              have hii : (j : Int) < (m : Int) := by omega
              have hj0 : (0 : Int) ≤ (j : Int) := by omega
              clear hin hj
              obtain ⟨y, hy⟩ : ∃ y, S2.getD j rx0 = y := ⟨_, rfl⟩
              have HYB : Hid (RtB y.r) := Lib.hid (by rw [← hy]; exact HY2.out j HIN.out)
              have HYH : Hid (HopAt wp y) := Lib.hid (by rw [← hy]; exact HTB2.out.hop _ (S_mem HTB2.out.len HIN.out))
              have hrow := HTB2.out.row
              obtain ⟨b0, o0, rfl, r0⟩ := hrow.row (by have := HIN.out; omega)
              have R0 : Hid (wr.rangeAt b0 (o0 + j * 21) (rxC y).toList) := Lib.hid (by rw [← hy]; exact rangeAt_below (r0.2 j HIN.out) HBo.out r0.1)
              have HYE := Lib.hid hy
              clear r0 hrow hy
              go_wp2_with (refine wpList_ld (op := ⟨some 72, _, _, _, _, _⟩) (by rfl) 70 (.tmp 71) rfl b0 (o0 + j * 21) rfl (rxC y) _ R0.out Try.underlying70 rfl info_rt ?_; refine Hid.out ?_)
              refine Lib.hid ?_
              clear R0
              obtain ⟨NK1, hNK1⟩ : ∃ N, wr.heap.size = N := ⟨_, rfl⟩
              have HNK1 := Lib.hid hNK1
              clear hNK1
              go_wp2_with (refine wpList_new (op := ⟨some 18, _, _, _, _, _⟩) rfl 70 rfl (rxC rx0) zero_rt NK1 HNK1.out ?_; intro w11 k1 b1 s1; refine Hid.out ?_)
              refine Lib.hid ?_
              have KX := Lib.hid k1
              have BX := Lib.hid b1
              clear k1 b1 s1
              go_wp2_with (refine wpList_st rfl 70 (.tmp 18) (.tmp 72) rfl NK1 0 rfl (.agg (rxC y)) (rxC y) rfl rfl info_rt (rx_one _) KX.out (Nat.le_of_ble_eq_true rfl) (C' := rxC y) (rx_over _ _) ?_; intro w12 q1; refine Hid.out ?_)
              refine Lib.hid ?_
              have b1 : Below wr.heap.size wr w12 := BX.out.trans (q1.2.1 _ (by rw [HNK1.out]; exact Nat.le_refl _))
              have HBon := Lib.hid (HBo.out.trans (b1.mono HBo.out.size))
              clear HBo
              have HBo := HBon
              clear HBon
              have HGn := Lib.hid (HG.out.below b1)
              clear HG
              have HG := HGn
              clear HGn
              have K1 : Hid (Blk 70 w12 NK1 (rxC y)) := Lib.hid q1.1
              clear KX BX q1 b1 HNK1
              go_wp2_with (refine wpList_ld (op := ⟨some 76, _, _, _, _, _⟩) (by rfl) 32 (.tmp 75) rfl NK1 0 rfl (pfC y.r.p) _ K1.out.rxpf Try.underlying32 rfl (hi_pv _ _ _) ?_; refine Hid.out ?_)
              refine Lib.hid ?_
              go_wp2_with fail
              refine (of_tab (HTB.out.below HBo.out) y.r.p HYB.out.p).mono ?_
              rintro e w13 ⟨bk, q, rfl, b1, hk0, hk1⟩
              have HBon := Lib.hid (HBo.out.trans (b1.mono HBo.out.size))
              clear HBo
              have HBo := HBon
              clear HBon
              have HGn := Lib.hid (HG.out.below b1)
              clear HG
              have HG := HGn
              clear HGn
              have K1n := Lib.hid (K1.out.below b1 K1.out.lt)
              clear K1
              have K1 := K1n
              clear K1n
              have HK0 := Lib.hid hk0
              have HK1 := Lib.hid hk1
              clear b1 hk0 hk1
              obtain ⟨NK2, hNK2⟩ : ∃ N, w13.heap.size = N := ⟨_, rfl⟩
              have HNK2 := Lib.hid hNK2
              clear hNK2
              go_wp2_with (refine wpList_new (op := ⟨some 19, _, _, _, _, _⟩) rfl 70 rfl (rxC rx0) zero_rt NK2 HNK2.out ?_; intro w14 k1 b1 s1; refine Hid.out ?_)
              refine Lib.hid ?_
              have KX := Lib.hid k1
              have BX := Lib.hid b1
              clear k1 b1 s1
              go_wp2_with (refine wpList_st rfl 70 (.tmp 19) (.tmp 78) rfl NK2 0 rfl (.agg (rxC q)) (rxC q) rfl rfl info_rt (rx_one _) KX.out (Nat.le_of_ble_eq_true rfl) (C' := rxC q) (rx_over _ _) ?_; intro w15 q1; refine Hid.out ?_)
              refine Lib.hid ?_
              have b1 : Below w13.heap.size w13 w15 := BX.out.trans (q1.2.1 _ (by rw [HNK2.out]; exact Nat.le_refl _))
              have HBon := Lib.hid (HBo.out.trans (b1.mono HBo.out.size))
              clear HBo
              have HBo := HBon
              clear HBon
              have HGn := Lib.hid (HG.out.below b1)
              clear HG
              have HG := HGn
              clear HGn
              have K1n := Lib.hid (K1.out.below b1 K1.out.lt)
              clear K1
              have K1 := K1n
              clear K1n
              have K2 : Hid (Blk 70 w15 NK2 (rxC q)) := Lib.hid q1.1
              clear KX BX q1 b1 HNK2
              have HSL : Hid (j < S2.length) := Lib.hid (by rw [HTB2.out.len]; exact HIN.out)
              have HGL : Hid ((newL S T (S2.take j)).length ≤ 1000) := Lib.hid (by have := newL_len S T S2 j; have := HIN.out; have := HM.out; omega)
              cases bk with
              | false =>
                have HNW : Hid (Newer S T (S2.getD j rx0)) := Lib.hid (fun k i h1 h2 => by rw [HYE.out] at h1; have h3 := HK0.out (by first | rfl | trivial) k h1; rw [h2] at h3; cases h3)
                go_wp2_with (refine wpList_ld (op := ⟨some 89, _, _, _, _, _⟩) (by rfl) 70 (.tmp 18) rfl NK1 0 rfl (rxC y) _ K1.out.all Try.underlying70 rfl info_rt ?_; refine Hid.out ?_)
                refine Lib.hid ?_
                obtain ⟨P1, hP1⟩ : ∃ N, w15.heap.size = N := ⟨_, rfl⟩
                have HP1 := Lib.hid hP1
                clear hP1
                go_wp2_with (refine wpList_bs (op := ⟨some 90, _, _, _, _, _⟩) rfl 70 (rxC y) (bs_rt _ _ _ rfl y rfl) P1 HP1.out ?_; intro wa k1 b1 s9; refine Hid.out ?_)
                refine Lib.hid ?_
                have HRR : Hid (RdR wa (some ⟨P1, 0, none⟩) 1 21 (fun _ => rxC y)) := Lib.hid (rdR_blk k1)
                have HBon := Lib.hid (HBo.out.trans (b1.mono HBo.out.size))
                clear HBo
                have HBo := HBon
                clear HBon
                have HGn := Lib.hid (HG.out.below b1)
                clear HG
                have HG := HGn
                clear HGn
                have K1n := Lib.hid (K1.out.below b1 K1.out.lt)
                clear K1
                have K1 := K1n
                clear K1n
                have K2n := Lib.hid (K2.out.below b1 K2.out.lt)
                clear K2
                have K2 := K2n
                clear K2n
                clear k1 s9 b1 HP1
                have HZ := Lib.hid HBo.out.size
                go_wp2_with (refine app_Y (o := ⟨some 91, _, _, _, _, _⟩) 60 70 21 72 (.agg (rxC rx0)) Try.underlying60 info_rtE rfl (by decide) rfl (.tmp 88) (.tmp 90) rfl _ _ _ _ rfl HG.out HZ.out ⟨P1, 0, none⟩ 1 1 (fun _ => rxC y) rfl HRR.out (recs_rx (fun _ => y)) (by have := HGL.out; unfold maxLen; omega) (by have := HGL.out; omega) ?_; intro vb wb ho9 hg9 hk9; refine Hid.out ?_)
                refine Lib.hid ?_
                have HBn := Lib.hid (HBo.out.trans (below_grown hg9 HZ.out hk9))
                clear HBo
                have HBo := HBn
                clear HBn
                have HGn : Hid (OwnR wb wp.heap.size 70 21 vb ((newL S T (S2.take (j + 1)))).length (rxB ((newL S T (S2.take (j + 1)))))) := Lib.hid (by rw [newL_yes HSL.out HNW.out, HYE.out]; exact own_rx ho9)
                clear ho9 hg9 hk9 HRR HZ
                go_wp2_with fail
                go_roundw
                case rel => exact ⟨j + 1, HIN.out, by go_num, HGn, HBo⟩
                case measure => have := HIN.out; simp only [intOf]; omega
              | true =>
                obtain ⟨kk, ii, hk1, hk2, hk3, rfl⟩ := HK1.out (by first | rfl | trivial)
                have HKK := Lib.hid hk1
                have HII := Lib.hid hk2
                have HGI := Lib.hid hk3
                clear hk1 hk2 hk3
                go_wp2_with (refine wpList_ld (op := ⟨some 83, _, _, _, _, _⟩) (by rfl) 70 (.tmp 19) rfl NK2 0 rfl (rxC (S.getD ii rx0)) _ K2.out.all Try.underlying70 rfl info_rt ?_; refine Hid.out ?_)
                refine Lib.hid ?_
                go_wp2_with (refine wpList_ld (op := ⟨some 84, _, _, _, _, _⟩) (by rfl) 70 (.tmp 18) rfl NK1 0 rfl (rxC y) _ K1.out.all Try.underlying70 rfl info_rt ?_; refine Hid.out ?_)
                refine Lib.hid ?_
                go_wp2_with fail
                refine (equal_any (S.getD ii rx0) y w15 ((HTB.out.hop _ (S_mem HTB.out.len HII.out)).below HBo.out) (HYH.out.below HBo.out) (HY1.out ii HII.out) HYB.out).mono ?_
                rintro e w16 ⟨rq, rfl, hrq, b1⟩
                have HBon := Lib.hid (HBo.out.trans (b1.mono HBo.out.size))
                clear HBo
                have HBo := HBon
                clear HBon
                have HGn := Lib.hid (HG.out.below b1)
                clear HG
                have HG := HGn
                clear HGn
                have K1n := Lib.hid (K1.out.below b1 K1.out.lt)
                clear K1
                have K1 := K1n
                clear K1n
                have K2n := Lib.hid (K2.out.below b1 K2.out.lt)
                clear K2
                have K2 := K2n
                clear K2n
                have HRQ := Lib.hid hrq
                clear b1 hrq
                cases rq with
                | false =>
                  have HNW : Hid (Newer S T (S2.getD j rx0)) := Lib.hid (fun k i h1 h2 hal => by rw [HYE.out] at h1 hal; rw [HKK.out] at h1; cases h1; rw [HGI.out] at h2; have h3 : ii = i := Int.ofNat.inj (Option.some.inj h2); subst h3; have h4 := HRQ.out; simp at h4; exact h4 hal.1 hal.2.1 hal.2.2)
                  go_wp2_with (refine wpList_ld (op := ⟨some 89, _, _, _, _, _⟩) (by rfl) 70 (.tmp 18) rfl NK1 0 rfl (rxC y) _ K1.out.all Try.underlying70 rfl info_rt ?_; refine Hid.out ?_)
                  refine Lib.hid ?_
                  obtain ⟨P1, hP1⟩ : ∃ N, w16.heap.size = N := ⟨_, rfl⟩
                  have HP1 := Lib.hid hP1
                  clear hP1
                  go_wp2_with (refine wpList_bs (op := ⟨some 90, _, _, _, _, _⟩) rfl 70 (rxC y) (bs_rt _ _ _ rfl y rfl) P1 HP1.out ?_; intro wa k1 b1 s9; refine Hid.out ?_)
                  refine Lib.hid ?_
                  have HRR : Hid (RdR wa (some ⟨P1, 0, none⟩) 1 21 (fun _ => rxC y)) := Lib.hid (rdR_blk k1)
                  have HBon := Lib.hid (HBo.out.trans (b1.mono HBo.out.size))
                  clear HBo
                  have HBo := HBon
                  clear HBon
                  have HGn := Lib.hid (HG.out.below b1)
                  clear HG
                  have HG := HGn
                  clear HGn
                  have K1n := Lib.hid (K1.out.below b1 K1.out.lt)
                  clear K1
                  have K1 := K1n
                  clear K1n
                  have K2n := Lib.hid (K2.out.below b1 K2.out.lt)
                  clear K2
                  have K2 := K2n
                  clear K2n
                  clear k1 s9 b1 HP1
                  have HZ := Lib.hid HBo.out.size
                  go_wp2_with (refine app_Y (o := ⟨some 91, _, _, _, _, _⟩) 60 70 21 72 (.agg (rxC rx0)) Try.underlying60 info_rtE rfl (by decide) rfl (.tmp 88) (.tmp 90) rfl _ _ _ _ rfl HG.out HZ.out ⟨P1, 0, none⟩ 1 1 (fun _ => rxC y) rfl HRR.out (recs_rx (fun _ => y)) (by have := HGL.out; unfold maxLen; omega) (by have := HGL.out; omega) ?_; intro vb wb ho9 hg9 hk9; refine Hid.out ?_)
                  refine Lib.hid ?_
                  have HBn := Lib.hid (HBo.out.trans (below_grown hg9 HZ.out hk9))
                  clear HBo
                  have HBo := HBn
                  clear HBn
                  have HGn : Hid (OwnR wb wp.heap.size 70 21 vb ((newL S T (S2.take (j + 1)))).length (rxB ((newL S T (S2.take (j + 1)))))) := Lib.hid (by rw [newL_yes HSL.out HNW.out, HYE.out]; exact own_rx ho9)
                  clear ho9 hg9 hk9 HRR HZ
                  go_wp2_with fail
                  go_roundw
                  case rel => exact ⟨j + 1, HIN.out, by go_num, HGn, HBo⟩
                  case measure => have := HIN.out; simp only [intOf]; omega
                | true =>
                  have HNW : Hid (¬ Newer S T (S2.getD j rx0)) := Lib.hid (fun h => by have h4 := HRQ.out; simp at h4; have h5 := h kk ii (by rw [HYE.out]; exact HKK.out) HGI.out; rw [HYE.out] at h5; exact h5 ⟨h4.1, h4.2.1, h4.2.2⟩)
                  go_wp2_with fail
                  go_roundw
                  case rel => exact ⟨j + 1, HIN.out, by go_num, Lib.hid (by rw [newL_no HSL.out HNW.out]; exact HG.out), HBo⟩
                  case measure => have := HIN.out; simp only [intOf]; omega
            · obtain rfl : m = j := by omega
              have b1 := HBo.out
              clear HBo
              have HBn := Lib.hid (HB.out.trans (b1.mono HB.out.size))
              clear HB
              have HB := HBn
              clear HBn
              have HTBn := Lib.hid (HTB.out.below b1)
              clear HTB
              have HTB := HTBn
              clear HTBn
              have HTB2n := Lib.hid (HTB2.out.below b1)
              clear HTB2
              have HTB2 := HTB2n
              clear HTB2n
              have HHW2n := Lib.hid (fun y hy => (HHW2.out y hy).below b1)
              clear HHW2
              have HHW2 := HHW2n
              clear HHW2n
              have HGGn := Lib.hid (HGG.out.below b1)
              clear HGG
              have HGG := HGGn
              clear HGGn
              clear b1
              have HSS : Hid (S2.take m = S2) := Lib.hid (List.take_of_length_le (by rw [HTB2.out.len]; exact Nat.le_refl _))
              have HS1 : Hid (S.take n = S) := Lib.hid (List.take_of_length_le (by rw [HTB.out.len]; exact Nat.le_refl _))
              go_wp2_with fail
              refine bodyPost_ret (v := .tuple #[_, _, .int .i64 0]) (by simp [results, Try.f39, go_sem]; exact ⟨rfl, rfl⟩) rfl ⟨HB.out, .inr ⟨S, S2, T, T2, _, _, t, s, t2, s2, c1, c2, _, _, HX1.out, HX2.out, rfl, HTB.out, HTB2.out, HPM.out, HAC.out.1, HPM2.out, HAC2.out.1, ?_, ?_, ?_⟩⟩
              · have h9 := HGG.out; rw [HS1.out] at h9; exact h9.mono HWO.out
              · have h9 := HG.out; rw [HSS.out] at h9; exact h9.mono HWP.out
              · exact fun y hy => HHW2.out y hy
end Go.Proofs.Ytjnbemopfhinbaa
