/- pdu.sign lays an LSP's check bytes. Each theorem states its conditions. -/
import Derived.Test.YtigkmcbkckfhbaaDFit
namespace Go.Proofs.Ytigkmcbkckfhbaa
open Go.RowKit
set_option linter.unusedVariables false

def ovr (z : Nat → Int) (off m : Nat) (y : Nat → Int) : Nat → Int := fun j => if off ≤ j ∧ j < off + m then y (j - off) else z j
theorem ovr_in (z y : Nat → Int) (off m j : Nat) (h : off ≤ j ∧ j < off + m) : ovr z off m y j = y (j - off) := if_pos h
theorem ovr_out (z y : Nat → Int) (off m j : Nat) (h : ¬ (off ≤ j ∧ j < off + m)) : ovr z off m y j = z j := if_neg h
/-- bytes are copied over some of a row of the call's own -/
theorem splice_own {w w' : World} {g n cap off m : Nat} {z y : Nat → Int} {cur : List Value} (hc : w.heap[g]? = some (.cells cur.toArray 5 (0, 0))) (h : Own8 w g n cap z) (hm : off + m ≤ n) (hy : ∀ j, 0 ≤ y j ∧ y j ≤ 255)
    (hw : w'.heap[g]? = some (.cells (splice cur off (vals y m)).toArray 5 (0, 0))) : Own8 w' g n cap (ovr z off m y) := by
  obtain ⟨⟨cur', hc', h1, h2, h3, h4⟩, h5⟩ := h
  rw [hc] at hc'
  injection hc' with hc'
  injection hc' with hc'
  subst hc'
  have hl : (vals y m).length = m := vals_len y m
  have h3' : cur.length = cap := by simpa using h3
  have h4' : ∀ j, j < n → cur[j]? = some (.int .u8 (z j)) := fun j hj => by simpa using h4 j hj
  have hs : (splice cur off (vals y m)).length = cur.length := length_splice _ _ _ (by rw [hl]; omega)
  refine ⟨⟨_, hw, h1, h2, by simpa using hs.trans h3', fun j hj => ?_⟩, fun j => ?_⟩
  · rw [List.getElem?_toArray]
    unfold splice
    by_cases hj1 : j < off
    · rw [ovr_out _ _ _ _ _ (by omega), List.getElem?_append_left (by rw [List.length_take]; omega), List.getElem?_take, if_pos hj1]
      exact h4' j hj
    · rw [List.getElem?_append_right (by rw [List.length_take]; omega), List.length_take, Nat.min_eq_left (by omega)]
      by_cases hj2 : j < off + m
      · rw [ovr_in _ _ _ _ _ ⟨by omega, hj2⟩, List.getElem?_append_left (by rw [hl]; omega)]
        exact vals_at y m (j - off) (by omega)
      · rw [ovr_out _ _ _ _ _ (by omega), List.getElem?_append_right (by rw [hl]; omega), hl, List.getElem?_drop]
        rw [show off + m + (j - off - m) = j by omega]
        exact h4' j hj
  · by_cases hj : off ≤ j ∧ j < off + m
    · rw [ovr_in _ _ _ _ _ hj]; exact hy _
    · rw [ovr_out _ _ _ _ _ hj]; exact h5 j
section
variable {P : Program} {ops : Array Oper} {Q : Exit → Act → World → Prop} {md : Region.Mode} {S : World → Prop}
/-- a copy alone may come up -/
theorem takeCp {i : Nat} {oi : Oper} (d : Option Tmp) {fuel : Nat} {listed : Array Bool} {a : Act} {w : World} (hi : ops[i]? = some oi) (hdd : oi.dst = d) (hr : Region.ready md ops listed = [i]) (hgd : oi.guard = none) (x s : Operand) (dT sT : TypeId)
    (ho : oi.op = .call { callee := .builtin .copy, args := #[x, s], argTypes := #[dT, sT] }) (elem : TypeId) (hu : P.underlying dT = some (.slice elem)) (hsz : (P.info? elem).map (·.size) = some 1)
    (dp sp : Option Addr) (dLen dCap sLen sCap : Nat) (hd : a.eval x = .slice dp dLen dCap) (hs : a.eval s = .slice sp sLen sCap)
    (g off : Nat) (cur : List Value) (t : TypeId) (hg : w.heap[g]? = some (.cells cur.toArray t (0, 0))) (cs : List Value) (hn : cs.length = Nat.min sLen dLen)
    (hpos : 0 < cs.length → dp = some ⟨g, off, none⟩ ∧ ∃ ad, sp = some ad ∧ ∀ j v, cs[j]? = some v → w.cell? (ad.add j) = some v)
    (hfit : off + cs.length ≤ cur.length) (h1 : ∀ v ∈ cs, v.oneCell' = true) (B : Nat) (w0 : World) (hb : RowKit.Below B w0 w) (hBg : B ≤ g)
    (h : ∀ w', w'.heap[g]? = some (.cells (splice cur off cs).toArray t (0, 0)) → RowKit.Below B w0 w' → S w' ∧ wpAnyH P md ops Q S fuel (listed.setIfInBounds i true) (a.put d (goInt cs.length)) w') : wpAnyH P md ops Q S (fuel + 1) listed a w := by
  subst hdd
  exact wpAnyH_ready hr (by simp) (AllReadyH.cons hi (fun K hK => step_copy_splice hgd x s dT sT ho elem hu hsz dp sp dLen dCap sLen sCap hd hs g off cur t hg cs hn hpos hfit h1 B w0 hb hBg (fun w' hc hb' => hK.out _ _ (h w' hc.out hb').1 (fun _ => (h w' hc.out hb').2))) AllReadyH.nil)
end
theorem chk_put (z : Nat → Int) (s n : Nat) (N : Nat) (h : chk z s n = (N : Int)) : putZ N 2 0 = chkX z s n ∧ putZ N 2 1 = chkY z s n := by
  have hb := chk_bd z s n
  have h0 : putZ N 2 0 = ((N / 256 % 256 : Nat) : Int) := by simp [putZ, qN]
  have h1 : putZ N 2 1 = ((N % 256 : Nat) : Int) := by simp [putZ, qN]
  rw [h0, h1]
  rw [h] at hb
  omega
theorem sg_eq (z : Nat → Int) (n N : Nat) (h : chk (fun i => z (12 + i)) 12 (n - 12) = (N : Int)) : ovr z 24 2 (putZ N 2) = sgZ z n := by
  obtain ⟨h0, h1⟩ := chk_put _ _ _ _ h
  funext j
  unfold sgZ ovr
  by_cases e : j = 24
  · subst e; simp [h0]
  · by_cases e1 : j = 25
    · subst e1; simp [h1]
    · rw [if_neg (by omega), if_neg e, if_neg e1]
set_option maxHeartbeats 2000000 in
set_option maxRecDepth 100000 in
theorem sign_any (g n cap : Nat) (z : Nat → Int) (w0 w : World) (ho : Own8 w g n cap z) (hn : 27 ≤ n) (hn2 : n ≤ 1492) (hb : Below w0.heap.size w0 w) (hg : w0.heap.size ≤ g) :
    Calls Try.prog 37 #[.slice (some ⟨g, 0, none⟩) n cap] w fun e w' => e = .returned (.tuple #[]) ∧ Own8 w' g n cap (sgZ z n) ∧ Below w0.heap.size w0 w' := by
  have hgl := ho.lt
  have hcap := ho.caps
  have hcm : cap ≤ 9223372036854775807 := hcap.2
  have hnc := hcap.1
  have HO := Lib.hid ho
  have hz := ho.2
  have HR := Lib.hid (ho.row.shift 12 (n - 12) (by omega))
  have HSum := Lib.hid (sum_ok g 12 (n - 12) (cap - 12) (fun j => z (12 + j)) 12 w (fun j => hz _) (by omega) (fun j hj => by have := HR.out.2.1 j hj; simpa using this) (by omega) (by omega))
  have hcb := chk_bd (fun j => z (12 + j)) 12 (n - 12)
  obtain ⟨N, hN⟩ : ∃ N : Nat, chk (fun j => z (12 + j)) 12 (n - 12) = (N : Int) := ⟨(chk (fun j => z (12 + j)) 12 (n - 12)).toNat, by omega⟩
  have HSum' : Hid (Calls Try.prog 59 #[.slice (some ⟨g, 12, none⟩) (n - 12) (cap - 12), .int .i64 12] w fun e w' => e = .returned (.tuple #[.int .u16 (N : Int), .int .i64 0]) ∧ w = w') := Lib.hid (by rw [← hN]; exact HSum.out)
  have HSG := Lib.hid (sg_eq z n N hN)
  have hN2 : N ≤ 65535 := by omega
  have HP := Lib.hid (fun W : World => putNumber_any N 2 W (by decide) (by decide) (by omega) (qN_fit _ _ (by omega)))
  have HS := Lib.hid (size_any 11 (by decide))
  have hw := wrapU N (by omega)
  have HW := Lib.hid hw
  have HB := Lib.hid hb
  have HGG := Lib.hid hg
  have hne12 : ¬ cap = 12 := by omega
  have hne24 : ¬ cap = 24 := by omega
  have hne24' : ¬ cap - 12 = 12 := by omega
  have q1 : ¬ n < 12 := by omega
  have q2 : ¬ cap < n := by omega
  obtain ⟨n1, hn1⟩ : ∃ n1, n - 12 = n1 := ⟨_, rfl⟩
  obtain ⟨c1, hc1⟩ : ∃ c1, cap - 12 = c1 := ⟨_, rfl⟩
  rw [hn1, hc1] at HSum'
  rw [hc1] at hne24'
  have q3 : ¬ n1 < 12 := by omega
  have q4 : ¬ c1 < n1 := by omega
  have q5 : ¬ c1 < 12 := by omega
  have q6 : n1 - 12 + 24 = n := by omega
  have q7 : 2 ≤ n1 - 12 := by omega
  have hn1l : n1 ≤ 1492 := by omega
  have hc1l : c1 ≤ 9223372036854775807 := by omega
  have HQ6 := Lib.hid q6
  have HN1 := Lib.hid hn1
  have HC1 := Lib.hid hc1
  clear ho hcap HR HSum hcb hN hw hb hg hz q6
  go_enter Try.func37, Try.ntmps37
  go_wp2_with fail
  refine HSum'.out.mono ?_
  rintro e w1 ⟨rfl, rfl⟩
  clear hn1 hc1 HN1 HC1
  go_wp2_with fail
  have q3i : ¬ (n1 : Int) < 12 := by omega
  have q5i : ¬ (c1 : Int) < 12 := by omega
  refine wp_region_held_drew (S := fun w' => True) (by kernel_rfl) trivial (fun hS0 => ?_)
  refine takeY (i := 0) (some 12) (v := .slice (some ⟨g, 12, none⟩) n1 c1) rfl rfl (by kernel_rfl) (by kernel_rfl) (by kernel_rfl) (fun _ _ _ h => h) (by rfl) (fun w' hS => by go_simp) hS0 ?_
  simp only [Act.put, List.setIfInBounds_toArray, List.set_cons_zero, List.set_cons_succ]
  refine takeY (i := 1) (some 13) (v := .slice (some ⟨g, 24, none⟩) (n1 - 12) (c1 - 12)) rfl rfl (by kernel_rfl) (by kernel_rfl) (by kernel_rfl) (fun _ _ _ h => h) (by rfl) (fun w' hS => by go_simp) hS0 ?_
  simp only [Act.put, List.setIfInBounds_toArray, List.set_cons_zero, List.set_cons_succ]
  refine takeY (i := 2) (some 14) (v := .int .u16 (N : Int)) rfl rfl (by kernel_rfl) (by kernel_rfl) (by kernel_rfl) (fun _ _ _ h => h) (by rfl) (fun w' hS => by go_simp) hS0 ?_
  simp only [Act.put, List.setIfInBounds_toArray, List.set_cons_zero, List.set_cons_succ]
  refine takeY (i := 3) (some 15) (v := .int .u64 (N : Int)) rfl rfl (by kernel_rfl) (by kernel_rfl) (by kernel_rfl) (fun _ _ _ h => h) (by rfl) (fun w' hS => by first | (go_simp; done) | (go_simp; exact HW.out)) hS0 ?_
  simp only [Act.put, List.setIfInBounds_toArray, List.set_cons_zero, List.set_cons_succ]
  refine takeC (i := 4) (some 16) 52 #[.int .i64 11] (.int .i64 2) (R := fun w' => w' = w.drew) rfl rfl (by kernel_rfl) (by rfl) (by go_simp) ((HS.out _).mono fun e w' h => ⟨h.1, h.2.symm⟩) (fun w' h => trivial) (fun w2 h2 hS2 => ?_)
  subst h2
  simp only [Act.put, List.setIfInBounds_toArray, List.set_cons_zero, List.set_cons_succ]
  refine takeCE (i := 5) (some 17) 51 #[.int .u64 (N : Int), .int .i64 2] (R := fun v w' => ∃ x, v = .slice (some ⟨x, 0, none⟩) 2 2 ∧ Own8 w' x 2 2 (putZ N 2) ∧ Below w.heap.size w w') rfl rfl (by kernel_rfl) (by rfl) (by go_simp) ((HP.out w.drew).mono fun e w' ⟨x, he, hx, ho, hb⟩ => ⟨_, he, x, rfl, ho, (bself w).drew.trans hb⟩) (fun _ _ _ => trivial) (fun v2 w2 h2 hS2 => ?_)
  obtain ⟨x, rfl, ho, hb⟩ := h2
  have hO2 := HO.out.below hb hgl
  have hB2 := HB.out.trans (hb.mono HB.out.size)
  obtain ⟨⟨cur, hc, k1, k2, k3, k4⟩, k5⟩ := id hO2
  simp only [Act.put, List.setIfInBounds_toArray, List.set_cons_zero, List.set_cons_succ]
  refine takeCp (i := 6) (some 18) rfl rfl (by kernel_rfl) rfl (.tmp 13) (.tmp 17) 35 35 rfl 5 Try.underlying35 info_u8s' (some ⟨g, 24, none⟩) (some ⟨x, 0, none⟩) (n1 - 12) (c1 - 12) 2 2 rfl rfl g 24 cur.toList 5 (by simpa using hc) (vals (putZ N 2) 2) (by rw [vals_len]; exact (Nat.min_eq_left q7).symm) (fun _ => ⟨rfl, _, rfl, rd_newsB ho.rd⟩) (by rw [vals_len, Array.length_toList]; have := HQ6.out; omega) (vals_one _ _) w0.heap.size w0 hB2 HGG.out (fun w3 hc3 hb3 => ⟨trivial, ?_⟩)
  have hO3 := splice_own (cur := cur.toList) (by simpa using hc) hO2 (by omega) (putZ_bd N 2) hc3
  rw [HSG.out] at hO3
  simp only [Act.put, List.setIfInBounds_toArray, List.set_cons_zero, List.set_cons_succ]
  refine wpAnyH_done (by kernel_rfl) ?_ _
  exact bodyPost_end (results_none rfl _ _ _) rfl ⟨rfl, hO3, hb3⟩
end Go.Proofs.Ytigkmcbkckfhbaa
