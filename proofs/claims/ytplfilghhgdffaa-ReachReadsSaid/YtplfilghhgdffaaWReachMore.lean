/- The walk of ReachMore: for every input the law returns true, and nothing that was there is written. No condition. -/
import Derived.Test.YtplfilghhgdffaaWReachCuts
namespace Go.Proofs.Ytplfilghhgdffaa
open Go.RowKit
set_option linter.unusedVariables false

theorem vals_congr {z z' : Nat → Int} {n : Nat} (h : ∀ j, j < n → z j = z' j) : vals z n = vals z' n := by
  unfold vals
  apply List.map_congr_left
  intro j hj
  rw [h j (by simpa using hj)]
theorem divmod (k W r : Nat) (h : r < W) : (k * W + r) / W = k ∧ (k * W + r) % W = r := by
  have h0 : 0 < W := by omega
  constructor
  · rw [Nat.mul_comm, Nat.mul_add_div h0, Nat.div_eq_of_lt h, Nat.add_zero]
  · rw [Nat.mul_comm, Nat.mul_add_mod, Nat.mod_eq_of_lt h]
/-- edges, behind each so many bytes that aren't looked at -/
def mZ (L : Nat → Ed) (nm : Nat) (zm : Nat → Int) : Nat → Int := fun j =>
  if j % (11 + nm) < 10 then edZ (fun _ => L (j / (11 + nm))) (j % (11 + nm)) else if j % (11 + nm) = 10 then (nm : Int) else zm (j % (11 + nm) - 11)
theorem mZ_at (L : Nat → Ed) (nm : Nat) (zm : Nat → Int) (k r : Nat) (h : r < 11 + nm) : mZ L nm zm (k * (11 + nm) + r) = if r < 10 then edZ (fun _ => L k) r else if r = 10 then (nm : Int) else zm (r - 11) := by
  obtain ⟨h1, h2⟩ := divmod k (11 + nm) r h
  unfold mZ
  rw [h1, h2]
theorem mZ_bd (L : Nat → Ed) (nm : Nat) (zm : Nat → Int) (hL : ∀ j, EdOk (L j)) (hn : nm ≤ 30) (hz : ∀ j, 0 ≤ zm j ∧ zm j ≤ 255) : ∀ j, 0 ≤ mZ L nm zm j ∧ mZ L nm zm j ≤ 255 := by
  intro j
  unfold mZ
  split
  · exact edZ_bd _ (fun _ => hL _) _
  · split
    · omega
    · exact hz _
theorem mZ_push (L : Nat → Ed) (nm : Nat) (zm : Nat → Int) (k : Nat) :
    vals (mZ L nm zm) (k * (11 + nm)) ++ vals (upd (edZ fun _ => L k) 10 (nm : Int)) 11 ++ vals zm nm = vals (mZ L nm zm) ((k + 1) * (11 + nm)) := by
  rw [show (k + 1) * (11 + nm) = k * (11 + nm) + 11 + nm by rw [Nat.succ_mul]; omega, vals_add, vals_add]
  congr 1
  · congr 1
    refine vals_congr fun j hj => ?_
    rw [mZ_at L nm zm k j (by omega)]
    unfold upd
    by_cases h : j = 10
    · rw [if_pos h, if_neg (by omega), if_pos h]
    · rw [if_neg h, if_pos (by omega)]
  · refine vals_congr fun j hj => ?_
    rw [Nat.add_assoc, mZ_at L nm zm k (11 + j) (by omega), if_neg (by omega), if_neg (by omega), Nat.add_sub_cancel_left]
theorem pos_mZ (L : Nat → Ed) (nm : Nat) (zm : Nat → Int) (k : Nat) : pos (eNx (mZ L nm zm)) k = k * (11 + nm) := by
  induction k with
  | zero => show 0 = _; omega
  | succ k ih =>
    show eNx (mZ L nm zm) (pos (eNx (mZ L nm zm)) k) = _
    rw [ih]
    unfold eNx
    rw [mZ_at L nm zm k 10 (by omega), if_neg (by omega), if_pos rfl, Nat.succ_mul]
    omega
theorem lends_mZ (L : Nat → Ed) (nm : Nat) (zm : Nat → Int) (m : Nat) : LEnds (eNx (mZ L nm zm)) (eOk (mZ L nm zm) (m * (11 + nm))) (m * (11 + nm)) m := by
  refine ⟨fun k hk => ?_, .inl (pos_mZ L nm zm m)⟩
  have h := pos_mZ L nm zm (k + 1)
  have h2 : (k + 1) * (11 + nm) ≤ m * (11 + nm) := Nat.mul_le_mul_right _ (by omega)
  refine ⟨by rw [pos_mZ]; rw [Nat.succ_mul] at h2; omega, ?_⟩
  unfold eOk
  show pos (eNx (mZ L nm zm)) (k + 1) ≤ _
  rw [h]; exact h2
theorem eC_mZ (L : Nat → Ed) (nm : Nat) (zm : Nat → Int) (k : Nat) (h : (L k).me ≤ 16777215) : eC (mZ L nm zm) (pos (eNx (mZ L nm zm)) k) = edA L k := by
  rw [pos_mZ]
  show _ = edC (L k)
  have e := gEd_edZ (fun _ => L k) 0 h
  rw [← e]
  have hz : ∀ i, i < 10 → mZ L nm zm (k * (11 + nm) + i) = edZ (fun _ => L k) (11 * 0 + i) := fun i hi => by
    rw [mZ_at L nm zm k i (by omega), if_pos hi, Nat.mul_zero, Nat.zero_add]
  have hm : numZ (fun j => mZ L nm zm (k * (11 + nm) + 7 + j)) 0 3 = numZ (fun j => edZ (fun _ => L k) (11 * 0 + 7 + j)) 0 3 := by
    have hj : ∀ j, j < 3 → mZ L nm zm (k * (11 + nm) + 7 + j) = edZ (fun _ => L k) (11 * 0 + 7 + j) := fun j hj => by
      rw [Nat.add_assoc, hz (7 + j) (by omega), Nat.add_assoc]
    simp only [numZ, Nat.zero_add, hj 0 (by omega), hj 1 (by omega), hj 2 (by omega)]
  unfold eC gEd edC
  simp only [hz 0 (by omega), hz 1 (by omega), hz 2 (by omega), hz 3 (by omega), hz 4 (by omega), hz 5 (by omega), hz 6 (by omega), hm]

/-- 'append(p, x...)' of bytes that can be read, none perhaps, to bytes of the call's own -/
theorem app_o {ops : Array Oper} {rest : List Oper} {o : Oper} {a : Act} {w : World} {Q : Exit → Act → World → Prop} (hgd : o.guard = none) (s x : Operand)
    (ho : o.op = .call { callee := .builtin .append, args := #[s, x], argTypes := #[31, 31] })
    (w0 : World) (v : Value) (n : Nat) (xs : List Value) (hs : a.eval s = v) (hown : w.ownsRow w0.heap.size 5 1 v n xs) (hb : Below w0.heap.size w0 w)
    (A : Option Addr) (m c : Nat) (z : Nat → Int) (hx : a.eval x = .slice A m c) (hR : Rd w A m z) (hA : A = none → m = 0 ∧ c = 0)
    (hn : n + m ≤ 140737488355328)
    (h : ∀ v' w', w'.ownsRow w0.heap.size 5 1 v' (n + m) (xs ++ vals z m) → Below w0.heap.size w0 w' → w.heap.size ≤ w'.heap.size → (∀ k, k < w.heap.size → v.ownBlock ≠ some k → w'.heap[k]? = w.heap[k]? ∧ v'.ownBlock ≠ some k) → wpList Try.prog ops Q rest (a.put o.dst v') w') :
    wpList Try.prog ops Q (o :: rest) a w := by
  rcases A with _ | ad
  · obtain ⟨rfl, rfl⟩ := hA rfl
    obtain ⟨i0, hi, hz0, hz1, hz2⟩ := info_parts info_u8
    refine wpList_append_own_none hgd s x _ ho w0.heap.size 5 i0 1 Try.underlying31 hi v n xs hs hown hx ?_
    exact h v w (by simpa [vals] using hown) hb (Nat.le_refl _) (fun k _ hne => ⟨rfl, hne⟩)
  · exact app_s hgd s x ho w0 v n xs hs hown hb ad m c (vals z m) hx (vals_len _ _) (rd_newsB hR) (vals_one _ _) hn h
set_option maxHeartbeats 4000000 in
set_option maxRecDepth 100000 in
theorem more_any (a0 : Option Addr) (len0 cap0 : Nat) (L0 : Nat → Ed) (a1 : Option Addr) (len1 cap1 : Nat) (z1 : Nat → Int) (m5 nm : Nat) (w : World) (w0 : InE w a0 len0 cap0 L0) (w1 : Rd w a1 len1 z1) (hA1 : a1 = none → len1 = 0 ∧ cap1 = 0) (hlc1 : len1 ≤ cap1) (hcm1 : cap1 ≤ 140737488351232)
    (hm5 : m5 = min len0 5) (hnm : nm = min len1 30) :
    Calls Try.prog 6 #[.slice a0 len0 cap0, .slice a1 len1 cap1] w fun e w' => e = .returned (.bool true) ∧ Below w.heap.size w w' := by
  obtain ⟨h1, h2, h3, h4, h5⟩ := w0
  have hm5' : m5 ≤ 5 ∧ m5 ≤ len0 := by omega
  have hnm' : nm ≤ 30 ∧ nm ≤ len1 := by omega
  have e5 : Hid ((if (5 : Int) < (len0 : Int) then 5 else (len0 : Int)) = (m5 : Int)) := Lib.hid (by split <;> omega)
  have hc5 : (m5 : Int) ≤ (cap0 : Int) := by omega
  have hc30 : (nm : Int) ≤ (cap1 : Int) := by omega
  have e30 : Hid ((if (30 : Int) < (len1 : Int) then 30 else (len1 : Int)) = (nm : Int)) := Lib.hid (by split <;> omega)
  have HR := Lib.hid (h1.cut m5 hm5'.2)
  have HOk := Lib.hid h2
  have HRd := Lib.hid (w1.cut nm hnm'.2)
  have HA1 : Hid (a1 = none → nm = 0 ∧ cap1 = 0) := Lib.hid (fun e => ⟨by have := (hA1 e).1; omega, (hA1 e).2⟩)
  have HZ := Lib.hid w1.2
  clear h1 h2 h3 hm5 hnm w1 hA1
  obtain ⟨q1, q2⟩ := hm5'
  obtain ⟨q3, q4⟩ := hnm'
  go_enter Try.func6, Try.ntmps6
  go_wp2_with fail
  refine (awake_any _).mono ?_
  rintro e wa ⟨rfl, hba⟩
  have HBa := Lib.hid hba.drew
  have HRa := Lib.hid (HR.out.below hba rfl)
  have HRda := Lib.hid (HRd.out.below hba rfl)
  clear hba
  go_wp2_with fail
  refine wp_region_held_drew (S := fun w' => True) (by kernel_rfl) trivial (fun _ => ?_)
  refine takeY (i := 0) (some 14) (v := .slice a0 len0 cap0) rfl rfl (by kernel_rfl) (by kernel_rfl) (by kernel_rfl) (fun _ _ _ h => h) (by rfl) (fun w' hS => by go_simp) trivial ?_
  simp only [Act.put, List.setIfInBounds_toArray, List.set_cons_zero, List.set_cons_succ]
  refine takeY (i := 1) (some 15) (v := .slice a0 len0 cap0) rfl rfl (by kernel_rfl) (by kernel_rfl) (by kernel_rfl) (fun _ _ _ h => h) (by rfl) (fun w' hS => by go_simp) trivial ?_
  simp only [Act.put, List.setIfInBounds_toArray, List.set_cons_zero, List.set_cons_succ]
  refine takeY (i := 2) (some 16) (v := .int .i64 len0) rfl rfl (by kernel_rfl) (by kernel_rfl) (by kernel_rfl) (fun _ _ _ h => h) (by rfl) (fun w' hS => by go_simp) trivial ?_
  simp only [Act.put, List.setIfInBounds_toArray, List.set_cons_zero, List.set_cons_succ]
  refine takeY (i := 3) (some 17) (v := .int .i64 m5) rfl rfl (by kernel_rfl) (by kernel_rfl) (by kernel_rfl) (fun _ _ _ h => h) (by rfl) (fun w' hS => by go_simp; exact e5.out) trivial ?_
  simp only [Act.put, List.setIfInBounds_toArray, List.set_cons_zero, List.set_cons_succ]
  refine takeY (i := 4) (some 18) (v := .slice a0 m5 cap0) rfl rfl (by kernel_rfl) (by kernel_rfl) (by kernel_rfl) (fun _ _ _ h => h) (by rfl) (fun w' hS => by go_simp) trivial ?_
  simp only [Act.put, List.setIfInBounds_toArray, List.set_cons_zero, List.set_cons_succ]
  refine takeY (i := 5) (some 19) (v := .slice a1 len1 cap1) rfl rfl (by kernel_rfl) (by kernel_rfl) (by kernel_rfl) (fun _ _ _ h => h) (by rfl) (fun w' hS => by go_simp) trivial ?_
  simp only [Act.put, List.setIfInBounds_toArray, List.set_cons_zero, List.set_cons_succ]
  refine takeY (i := 6) (some 20) (v := .slice a1 len1 cap1) rfl rfl (by kernel_rfl) (by kernel_rfl) (by kernel_rfl) (fun _ _ _ h => h) (by rfl) (fun w' hS => by go_simp) trivial ?_
  simp only [Act.put, List.setIfInBounds_toArray, List.set_cons_zero, List.set_cons_succ]
  refine takeY (i := 7) (some 21) (v := .int .i64 len1) rfl rfl (by kernel_rfl) (by kernel_rfl) (by kernel_rfl) (fun _ _ _ h => h) (by rfl) (fun w' hS => by go_simp) trivial ?_
  simp only [Act.put, List.setIfInBounds_toArray, List.set_cons_zero, List.set_cons_succ]
  refine takeY (i := 8) (some 22) (v := .int .i64 nm) rfl rfl (by kernel_rfl) (by kernel_rfl) (by kernel_rfl) (fun _ _ _ h => h) (by rfl) (fun w' hS => by go_simp; exact e30.out) trivial ?_
  simp only [Act.put, List.setIfInBounds_toArray, List.set_cons_zero, List.set_cons_succ]
  refine takeY (i := 9) (some 23) (v := .slice a1 nm cap1) rfl rfl (by kernel_rfl) (by kernel_rfl) (by kernel_rfl) (fun _ _ _ h => h) (by rfl) (fun w' hS => by go_simp) trivial ?_
  simp only [Act.put, List.setIfInBounds_toArray, List.set_cons_zero, List.set_cons_succ]
  refine takeY (i := 10) (some 0) (v := .slice a0 m5 cap0) rfl rfl (by kernel_rfl) (by kernel_rfl) (by kernel_rfl) (fun _ _ _ h => h) (by rfl) (fun w' hS => by go_simp) trivial ?_
  simp only [Act.put, List.setIfInBounds_toArray, List.set_cons_zero]
  refine takeY (i := 11) (some 1) (v := .slice a1 nm cap1) rfl rfl (by kernel_rfl) (by kernel_rfl) (by kernel_rfl) (fun _ _ _ h => h) (by rfl) (fun w' hS => by go_simp) trivial ?_
  simp only [Act.put, List.setIfInBounds_toArray, List.set_cons_zero, List.set_cons_succ]
  refine wpAnyH_done (by kernel_rfl) ?_ _
  go_wp2_with fail
  have HN := Lib.hid (show m5 * (11 + nm) ≤ 205 from Nat.le_trans (Nat.mul_le_mul q1 (show 11 + nm ≤ 41 by omega)) (by decide))
  have HmZ := Lib.hid (mZ_bd L0 nm z1 HOk.out q3 HZ.out)
  have q3' : (nm : Int) ≤ 30 := by omega
  clear HRa HRda e5 e30
  go_loopw [5, 26] (fun p i wr => ∃ k : Nat, k ≤ m5 ∧ i = .int .i64 k ∧ Hid (OwnB wr w.heap.size p (k * (11 + nm)) (mZ L0 nm z1)) ∧ Hid (Below w.heap.size w wr) ∧ Hid (∀ j, j < k → (L0 j).me ≤ 16777215))
    (fun _ i _ => m5 - (intOf i).toNat)
  case atStart => exact ⟨0, by omega, rfl, Lib.hid (by rw [Nat.zero_mul]; exact OwnB.nil _ _ HmZ.out), HBa, Lib.hid (fun j hj => by omega)⟩
  case round =>
    obtain ⟨k, hk, rfl, HO, HW, HE⟩ := hrel
    by_cases hkm : k < m5
    · obtain ⟨b, off, rfl, hr⟩ := (HR.out.below HW.out rfl).row (by omega)
      obtain ⟨⟨c0, c1, c2, c3⟩, c4, c5, c6, c7⟩ := edC_cells (hr.2 k hkm)
      clear hr
      have hEok := Lib.hid (HOk.out k)
      have hP := Lib.hid (mZ_push L0 nm z1 k)
      have hkN : Hid (k * (11 + nm) ≤ 205) := Lib.hid (Nat.le_trans (Nat.mul_le_mul_right _ (Nat.le_of_lt hkm)) HN.out)
      have hkS : Hid ((k + 1) * (11 + nm) = k * (11 + nm) + 11 + nm) := Lib.hid (by rw [Nat.succ_mul]; omega)
      obtain ⟨E, hE⟩ : ∃ E, L0 k = E := ⟨_, rfl⟩
      rw [hE] at c0 c1 c2 c3 c4 c5 c6 c7 hEok hP
      have HEE := Lib.hid hE
      clear hE
      have h0 : ((wr.alloc (.cells (edC E) 30)).alloc (.cells (edC E) 30)).heap[wr.heap.size + 1]? = some (.cells (edC E) 30 (0, 0)) := by
        have := heap_alloc_new (wr.alloc (.cells (edC E) 30)) (.cells (edC E) 30)
        rw [World.size_alloc] at this
        exact this
      have H0 := Lib.hid (rdR_one (s := 8) h0)
      have hb0 := Lib.hid (((bself wr).alloc (Nat.le_refl _) (.cells (edC E) 30)).alloc (by simp) (.cells (edC E) 30))
      have hsw := HW.out.size
      clear h0
      by_cases hme : E.me ≤ 16777215
      · have HME := Lib.hid hme
        clear hme
        go_wp2_with fail
        refine (putEdges_any (some ⟨wr.heap.size + 1, 0, none⟩) 1 1 1 (fun _ => E) _ H0.out (fun _ => hEok.out) (by omega) (by omega) (by omega) ⟨Nat.le_refl _, fun k hk => HME.out, .inl rfl⟩).mono ?_
        rintro e w2 (⟨_, v, rfl, ho, hb⟩ | ⟨h, _⟩)
        rotate_left
        · omega
        have ho' : OwnB w2 _ v 11 (edZ fun _ => E) := ho
        obtain ⟨g0, cap0', hv, _⟩ := ho'.1.form (by omega)
        obtain ⟨g, cap, rfl, hg, hog⟩ := own_of ho'.1 rfl (by rw [hv]; simp) ho'.2
        clear hv
        have hgs : wr.heap.size ≤ g := Nat.le_trans hb0.out.size hg
        have hbw2 := hb0.out.trans (hb.mono hb0.out.size)
        have c10 := own_at hog 10 (by omega)
        have f10 := hog.free 10
        have HG := Lib.hid (hog.put 10 (by omega) (nm : Int) (by omega))
        have hbw3 := hbw2.setCell (p := ⟨g, 10, none⟩) hgs (.int .u8 (nm : Int))
        have HO3 := Lib.hid (ownsRow_below' HO.out.1 hbw3)
        have HB3 := Lib.hid (HW.out.trans (hbw3.mono hsw))
        have HRd3 := Lib.hid (HRd.out.below HB3.out rfl)
        have hP1 := Lib.hid (hP.out)
        have hg2 : g < (w2.setCell ⟨g, 10, none⟩ (.int .u8 (nm : Int))).heap.size := HG.out.lt
        clear ho ho' hb hog hbw2 hbw3 c0 c1 c2 c3 c4 c5 c6 c7 H0 hP hg hgs
        have hc11 : (11 : Nat) ≤ cap := HG.out.caps.1
        go_wp2_with (first
          | (at_builtin; refine app_s rfl (.tmp 46) (.tmp 47) rfl w u5 (k * (11 + nm)) _ rfl HO3.out HB3.out ⟨g, 0, none⟩ 11 cap _ rfl (vals_len _ _) (rd_newsB HG.out.rd) (vals_one _ _) (by have := hkN.out; omega) ?_; intro v3 w3 ho3 hb3 hs3 hk3; have HRd4 : Hid (Rd w3 a1 nm z1) := Lib.hid (HRd.out.below hb3 rfl))
          | (at_builtin; refine app_o rfl (.tmp 48) (.tmp 49) rfl w v3 (k * (11 + nm) + 11) _ rfl ho3 hb3 a1 nm cap1 z1 rfl HRd4.out HA1.out (by have := hkN.out; omega) ?_; intro v4 w4 ho4 hb4 hs4 hk4))
        have HO4 := Lib.hid ho4
        have HB4 := Lib.hid hb4
        clear ho3 hb3 hs3 hk3 ho4 hb4 hs4 hk4 c10 f10 hg2
        go_wp2_with fail
        go_roundw
        case rel =>
          refine ⟨k + 1, by omega, by go_num, Lib.hid ⟨?_, HmZ.out⟩, HB4, Lib.hid (fun j hj => ?_)⟩
          · have h := HO4.out
            rw [hP1.out, ← hkS.out] at h
            exact h
          · by_cases e : j = k
            · subst e; rw [HEE.out]; exact HME.out
            · exact HE.out j (by omega)
        case measure => simp only [intOf]; omega
      · have HME := Lib.hid (show 16777215 < E.me by omega)
        clear hme
        go_wp2_with fail
        refine (putEdges_any (some ⟨wr.heap.size + 1, 0, none⟩) 1 1 0 (fun _ => E) _ H0.out (fun _ => hEok.out) (by omega) (by omega) (by omega) ⟨by omega, fun k hk => by omega, .inr ⟨by omega, HME.out⟩⟩).mono ?_
        rintro e w2 (⟨h, _⟩ | ⟨_, rfl, hb⟩)
        · omega
        have HB2 := Lib.hid (HW.out.trans ((hb0.out.trans (hb.mono hb0.out.size)).mono hsw))
        clear hb c0 c1 c2 c3 c4 c5 c6 c7
        go_wp2_with fail
        go_ret
        exact ⟨rfl, HB2.out⟩
    · obtain rfl : k = m5 := by omega
      obtain ⟨n, hn⟩ : ∃ n, k * (11 + nm) = n := ⟨_, rfl⟩
      have ho := HO.out
      have hnb := HN.out
      have hle := lends_mZ L0 nm z1 k
      rw [hn] at ho hnb hle
      obtain ⟨A, c, rfl, hc, hcm, _, hrd⟩ := ho.shape
      unfold maxLen at hcm
      have HRd2 := Lib.hid hrd
      have HLE := Lib.hid hle
      have HNN := Lib.hid hn
      clear ho hle hn hrd HO HN
      go_wp2_with fail
      refine (getEdges_any A n c k (mZ L0 nm z1) _ HRd2.out HLE.out (by omega) hc (by omega)).mono ?_
      rintro e w4 (⟨_, v4, rfl, ho4, hb4⟩ | ⟨hp, _⟩)
      rotate_left
      · rw [pos_mZ, HNN.out] at hp; omega
      have HB4 := Lib.hid (HW.out.trans (hb4.mono HW.out.size))
      have hR4 := HR.out.below HB4.out rfl
      obtain ⟨A4, c4, rfl, hc4, hm4, _, hl4⟩ := ownR_shape (fun j => recs_eC (mZ L0 nm z1) (pos (eNx (mZ L0 nm z1)) j)) (by decide) ho4
      have HL4 := Lib.hid (hl4.congr (C' := edA L0) fun j hj => eC_mZ L0 nm z1 j (HE.out j hj))
      have HR4 := Lib.hid hR4
      have HS := Lib.hid (fun (j : Nat) (hj : j < k) => self_ed 9996 (L0 j) (HOk.out j))
      clear ho4 hb4 hR4 hl4
      go_wp2_with fail
      refine (sameE_yes A4 a0 k c4 cap0 (edA L0) _ HL4.out HR4.out (fun j hj => HS.out j hj) (fun j => rfl) (by omega)).mono ?_
      rintro e w5 ⟨rfl, r, hw5⟩
      have HB5 : Hid (Below w.heap.size w w5) := Lib.hid (by rw [hw5]; exact bdrewN HB4.out r)
      clear hw5 HL4 HR4 HS
      go_wp2_with fail
      go_ret
      exact ⟨rfl, HB5.out⟩
theorem walkReachMore (a0 : Option Addr) (len0 cap0 : Nat) (L0 : Nat → Ed) (a1 : Option Addr) (len1 cap1 : Nat) (z1 : List Int) (w : World) (w0 : InE w a0 len0 cap0 L0) (w1 : IsRow .u8 w a1 len1 cap1 z1) (s1 : cap1 * 1 ≤ 140737488351232) :
    Calls Try.prog 6 #[.slice a0 len0 cap0, .slice a1 len1 cap1] w fun e w' => e = .returned (.bool true) ∧ Below w.heap.size w w' := by
  obtain ⟨hr, hA⟩ := isRow_rd w1
  have hlc : len1 ≤ cap1 := by
    rcases w1 with ⟨_, rfl, rfl, _⟩ | ⟨x, _, h, _⟩
    · exact Nat.le_refl _
    · exact h
  exact more_any a0 len0 cap0 L0 a1 len1 cap1 _ _ _ w w0 hr hA hlc (by omega) rfl rfl
end Go.Proofs.Ytplfilghhgdffaa
