/- pdu.get reads a field of a packet. Each theorem states its conditions. -/
import Derived.Test.YtigkmcbkckfhbaaDSt
import Derived.Test.YtigkmcbkckfhbaaDSign
import Derived.Test.YtigkmcbkckfhbaaDRegN
import Derived.Test.YtigkmcbkckfhbaaDGetN1
namespace Go.Proofs.Ytigkmcbkckfhbaa
open Go.RowKit
set_option linter.unusedVariables false

/-- the first six of one, the rest of another -/
def mixS (s t : Nat → Int) : Nat → Int := fun j => if j < 6 then s j else t j
theorem mixS_bd {s t : Nat → Int} (h : ∀ j, 0 ≤ s j ∧ s j ≤ 255) (h' : ∀ j, 0 ≤ t j ∧ t j ≤ 255) : ∀ j, 0 ≤ mixS s t j ∧ mixS s t j ≤ 255 := by
  intro j; unfold mixS; split
  · exact h j
  · exact h' j
/-- a field is set by its bytes -/
def getF (p : Pd) (y : Nat → Int) : Nat → Pd
  | 0 => ⟨p.kd, y 0, p.so, p.ho, p.nu, p.pr, p.la, p.li, p.id, p.sq, p.bi, p.st, p.en, p.A, p.m, p.c⟩
  | 1 => ⟨p.kd, p.ci, mixS y p.so, p.ho, p.nu, p.pr, p.la, p.li, p.id, p.sq, p.bi, p.st, p.en, p.A, p.m, p.c⟩
  | 2 => ⟨p.kd, p.ci, y, p.ho, p.nu, p.pr, p.la, p.li, p.id, p.sq, p.bi, p.st, p.en, p.A, p.m, p.c⟩
  | 3 => ⟨p.kd, p.ci, p.so, (((numZ y 0 2).toNat : Nat) : Int), p.nu, p.pr, p.la, p.li, p.id, p.sq, p.bi, p.st, p.en, p.A, p.m, p.c⟩
  | 5 => ⟨p.kd, p.ci, p.so, p.ho, y 0, p.pr, p.la, p.li, p.id, p.sq, p.bi, p.st, p.en, p.A, p.m, p.c⟩
  | 6 => ⟨p.kd, p.ci, p.so, p.ho, p.nu, y 0, p.la, p.li, p.id, p.sq, p.bi, p.st, p.en, p.A, p.m, p.c⟩
  | 7 => ⟨p.kd, p.ci, p.so, p.ho, p.nu, p.pr, y, p.li, p.id, p.sq, p.bi, p.st, p.en, p.A, p.m, p.c⟩
  | 8 => ⟨p.kd, p.ci, p.so, p.ho, p.nu, p.pr, p.la, (((numZ y 0 2).toNat : Nat) : Int), p.id, p.sq, p.bi, p.st, p.en, p.A, p.m, p.c⟩
  | 9 => ⟨p.kd, p.ci, p.so, p.ho, p.nu, p.pr, p.la, p.li, y, p.sq, p.bi, p.st, p.en, p.A, p.m, p.c⟩
  | 10 => ⟨p.kd, p.ci, p.so, p.ho, p.nu, p.pr, p.la, p.li, p.id, (numZ y 0 4).toNat, p.bi, p.st, p.en, p.A, p.m, p.c⟩
  | 12 => ⟨p.kd, p.ci, p.so, p.ho, p.nu, p.pr, p.la, p.li, p.id, p.sq, y 0, p.st, p.en, p.A, p.m, p.c⟩
  | 13 => ⟨p.kd, p.ci, p.so, p.ho, p.nu, p.pr, p.la, p.li, p.id, p.sq, p.bi, y, p.en, p.A, p.m, p.c⟩
  | 14 => ⟨p.kd, p.ci, p.so, p.ho, p.nu, p.pr, p.la, p.li, p.id, p.sq, p.bi, p.st, y, p.A, p.m, p.c⟩
  | _ => p
/-- what get leaves: the packet at g is another one -/
def GetPost (w : World) (g : Nat) (p : Pd) (e : Ending) (w' : World) : Prop := e = .returned (.tuple #[]) ∧ PdT 33 w' g p ∧ Below g w w' ∧ ∀ k, k < w.heap.size → k ≠ g → w'.heap[k]? = w.heap[k]?
/-- a copy into block g -/
theorem wpList_cp {ops : Array Oper} {Q : Exit → Act → World → Prop} {rest : List Oper} {o : Oper} {a : Act} {w : World} (hgd : o.guard = none) (d s : Operand) (dT sT : TypeId)
    (ho : o.op = .call { callee := .builtin .copy, args := #[d, s], argTypes := #[dT, sT] }) (elem : TypeId) (hu : Try.prog.underlying dT = some (.slice elem)) (hsz : (Try.prog.info? elem).map (·.size) = some 1)
    (g off dLen dCap : Nat) (ad : Addr) (sLen sCap : Nat) (hd : a.eval d = .slice (some ⟨g, off, none⟩) dLen dCap) (hs : a.eval s = .slice (some ad) sLen sCap)
    (cur : List Value) (t : TypeId) (hg : w.heap[g]? = some (.cells cur.toArray t (0, 0))) (cs : List Value) (hn : cs.length = Nat.min sLen dLen)
    (hsrc : ∀ j v, cs[j]? = some v → w.cell? (ad.add j) = some v) (hfit : off + cs.length ≤ cur.length) (h1 : ∀ v ∈ cs, v.oneCell' = true) {C' : Array Value} (hC : (splice cur off cs).toArray = C')
    (h : ∀ w', Stored w w' g C' t → wpList Try.prog ops Q rest (a.put o.dst (goInt cs.length)) w') : wpList Try.prog ops Q (o :: rest) a w := by
  subst hC
  refine wpList_plain hgd fun K hK => ?_
  have hrun := run_copy_row (P := Try.prog) w dT sT o.type elem g off dLen dCap ad sLen sCap cur.toArray t cs hu hsz hg hn hsrc (by simpa using hfit) h1
  unfold Oper.wp
  simp [execOp, ho, resolve, invoke, builtin, hd, hs, hrun, Result.andThen]
  exact hK _ _ (h _ ⟨(show _ = _ by simpa [splice] using setRow_heap w g _ _ t _ hg), fun B hB => ⟨rfl, rfl, rfl, by simp [World.setRow], fun k hk => setRow_other w g k _ (by omega)⟩, fun k hk => setRow_other w g k _ hk⟩)
set_option maxHeartbeats 2000000 in
set_option maxRecDepth 100000 in
theorem get_0 (p : Pd) (y : Nat → Int) (g b off c : Nat) (w : World) (hg : PdT 33 w g p) (hr : Row8 w b off (fsz 0) y) (hc : fsz 0 ≤ c) (hcm : c ≤ maxLen) :
    Calls Try.prog 67 #[.pointer (some ⟨g, 0, none⟩), .int .i64 0, .slice (some ⟨b, off, none⟩) (fsz 0) c] w (GetPost w g (getF p y 0)) := by
  rw [show fsz 0 = 1 from rfl] at *
  have c1 : w.cell? ⟨b, off, none⟩ = some (.int .u8 (y 0)) := hr.2.1 0 (by omega)
  have HG := Lib.hid hg
  clear hr hg
  go_enter Try.func67, Try.ntmps67
  go_wp2_with (refine wpList_st rfl 5 (.tmp 14) (.tmp 12) rfl g 1 rfl (.int .u8 (y 0)) #[.int .u8 (y 0)] rfl rfl (by kernel_rfl) (by kernel_rfl) HG.out (Nat.le_of_ble_eq_true rfl) (C' := pdC (getF p y 0)) (by kernel_rfl) ?_; intro w9 hst; refine Hid.out ?_)
  refine Lib.hid ?_
  have HE : Hid (GetPost w g (getF p y 0) (.returned (.tuple #[])) w9) := Lib.hid ⟨rfl, hst.1, hst.2.1 g (Nat.le_refl _), fun k hk hne => hst.2.2 k hne⟩
  clear hst
  go_wp2_with fail
  exact bodyPost_end (results_none rfl _ _ _) rfl HE.out
set_option maxHeartbeats 2000000 in
set_option maxRecDepth 100000 in
theorem get_5 (p : Pd) (y : Nat → Int) (g b off c : Nat) (w : World) (hg : PdT 33 w g p) (hr : Row8 w b off (fsz 5) y) (hc : fsz 5 ≤ c) (hcm : c ≤ maxLen) :
    Calls Try.prog 67 #[.pointer (some ⟨g, 0, none⟩), .int .i64 5, .slice (some ⟨b, off, none⟩) (fsz 5) c] w (GetPost w g (getF p y 5)) := by
  rw [show fsz 5 = 1 from rfl] at *
  have c1 : w.cell? ⟨b, off, none⟩ = some (.int .u8 (y 0)) := hr.2.1 0 (by omega)
  have HG := Lib.hid hg
  clear hr hg
  go_enter Try.func67, Try.ntmps67
  go_wp2_with (refine wpList_st rfl 5 (.tmp 46) (.tmp 44) rfl g 10 rfl (.int .u8 (y 0)) #[.int .u8 (y 0)] rfl rfl (by kernel_rfl) (by kernel_rfl) HG.out (Nat.le_of_ble_eq_true rfl) (C' := pdC (getF p y 5)) (by kernel_rfl) ?_; intro w9 hst; refine Hid.out ?_)
  refine Lib.hid ?_
  have HE : Hid (GetPost w g (getF p y 5) (.returned (.tuple #[])) w9) := Lib.hid ⟨rfl, hst.1, hst.2.1 g (Nat.le_refl _), fun k hk hne => hst.2.2 k hne⟩
  clear hst
  go_wp2_with fail
  exact bodyPost_end (results_none rfl _ _ _) rfl HE.out
set_option maxHeartbeats 2000000 in
set_option maxRecDepth 100000 in
theorem get_6 (p : Pd) (y : Nat → Int) (g b off c : Nat) (w : World) (hg : PdT 33 w g p) (hr : Row8 w b off (fsz 6) y) (hc : fsz 6 ≤ c) (hcm : c ≤ maxLen) :
    Calls Try.prog 67 #[.pointer (some ⟨g, 0, none⟩), .int .i64 6, .slice (some ⟨b, off, none⟩) (fsz 6) c] w (GetPost w g (getF p y 6)) := by
  rw [show fsz 6 = 1 from rfl] at *
  have c1 : w.cell? ⟨b, off, none⟩ = some (.int .u8 (y 0)) := hr.2.1 0 (by omega)
  have HG := Lib.hid hg
  clear hr hg
  go_enter Try.func67, Try.ntmps67
  go_wp2_with (refine wpList_st rfl 5 (.tmp 54) (.tmp 52) rfl g 11 rfl (.int .u8 (y 0)) #[.int .u8 (y 0)] rfl rfl (by kernel_rfl) (by kernel_rfl) HG.out (Nat.le_of_ble_eq_true rfl) (C' := pdC (getF p y 6)) (by kernel_rfl) ?_; intro w9 hst; refine Hid.out ?_)
  refine Lib.hid ?_
  have HE : Hid (GetPost w g (getF p y 6) (.returned (.tuple #[])) w9) := Lib.hid ⟨rfl, hst.1, hst.2.1 g (Nat.le_refl _), fun k hk hne => hst.2.2 k hne⟩
  clear hst
  go_wp2_with fail
  exact bodyPost_end (results_none rfl _ _ _) rfl HE.out
set_option maxHeartbeats 2000000 in
set_option maxRecDepth 100000 in
theorem get_12 (p : Pd) (y : Nat → Int) (g b off c : Nat) (w : World) (hg : PdT 33 w g p) (hr : Row8 w b off (fsz 12) y) (hc : fsz 12 ≤ c) (hcm : c ≤ maxLen) :
    Calls Try.prog 67 #[.pointer (some ⟨g, 0, none⟩), .int .i64 12, .slice (some ⟨b, off, none⟩) (fsz 12) c] w (GetPost w g (getF p y 12)) := by
  rw [show fsz 12 = 1 from rfl] at *
  have c1 : w.cell? ⟨b, off, none⟩ = some (.int .u8 (y 0)) := hr.2.1 0 (by omega)
  have HG := Lib.hid hg
  clear hr hg
  go_enter Try.func67, Try.ntmps67
  go_wp2_with (refine wpList_st rfl 5 (.tmp 92) (.tmp 90) rfl g 29 rfl (.int .u8 (y 0)) #[.int .u8 (y 0)] rfl rfl (by kernel_rfl) (by kernel_rfl) HG.out (Nat.le_of_ble_eq_true rfl) (C' := pdC (getF p y 12)) (by kernel_rfl) ?_; intro w9 hst; refine Hid.out ?_)
  refine Lib.hid ?_
  have HE : Hid (GetPost w g (getF p y 12) (.returned (.tuple #[])) w9) := Lib.hid ⟨rfl, hst.1, hst.2.1 g (Nat.le_refl _), fun k hk hne => hst.2.2 k hne⟩
  clear hst
  go_wp2_with fail
  exact bodyPost_end (results_none rfl _ _ _) rfl HE.out
set_option maxHeartbeats 2000000 in
set_option maxRecDepth 100000 in
theorem get_1 (p : Pd) (y : Nat → Int) (g b off c : Nat) (w : World) (hg : PdT 33 w g p) (hr : Row8 w b off (fsz 1) y) (hc : fsz 1 ≤ c) (hcm : c ≤ maxLen) :
    Calls Try.prog 67 #[.pointer (some ⟨g, 0, none⟩), .int .i64 1, .slice (some ⟨b, off, none⟩) (fsz 1) c] w (GetPost w g (getF p y 1)) := by
  rw [show fsz 1 = 6 from rfl] at *
  have HG := Lib.hid hg
  have HR : Hid (∀ j v, (vals y 6)[j]? = some v → w.cell? ((⟨b, off, none⟩ : Addr).add j) = some v) := Lib.hid (six_src hr (by omega))
  clear hr hg
  go_enter Try.func67, Try.ntmps67
  go_wp2_with (refine wpList_cp rfl (.tmp 21) (.tmp 22) 35 35 rfl 5 Try.underlying35 info_u8s' g 2 6 6 ⟨b, off, none⟩ 6 c rfl rfl (pdC p).toList 33 HG.out (vals y 6) (by rw [vals_len]; rfl) HR.out (show 2 + (vals y 6).length ≤ 47 by rw [vals_len]; decide) (vals_one _ _) (C' := pdC (getF p y 1)) (by kernel_rfl) ?_; intro w9 hst; refine Hid.out ?_)
  refine Lib.hid ?_
  have HE : Hid (GetPost w g (getF p y 1) (.returned (.tuple #[])) w9) := Lib.hid ⟨rfl, hst.1, hst.2.1 g (Nat.le_refl _), fun k hk hne => hst.2.2 k hne⟩
  clear hst
  go_wp2_with fail
  exact bodyPost_end (results_none rfl _ _ _) rfl HE.out
set_option maxHeartbeats 2000000 in
set_option maxRecDepth 100000 in
theorem get_2 (p : Pd) (y : Nat → Int) (g b off c : Nat) (w : World) (hg : PdT 33 w g p) (hr : Row8 w b off (fsz 2) y) (hc : fsz 2 ≤ c) (hcm : c ≤ maxLen) :
    Calls Try.prog 67 #[.pointer (some ⟨g, 0, none⟩), .int .i64 2, .slice (some ⟨b, off, none⟩) (fsz 2) c] w (GetPost w g (getF p y 2)) := by
  rw [show fsz 2 = 7 from rfl] at *
  have HG := Lib.hid hg
  have HK := Lib.hid (getNode_any b off 7 c y w hr (by omega) hc hcm)
  clear hr hg
  go_enter Try.func67, Try.ntmps67
  go_wp2_with fail
  refine HK.out.mono ?_
  rintro e w1 ⟨rfl, hb1⟩
  have HG1 := Lib.hid (HG.out.below hb1 HG.out.lt)
  have HB1 := Lib.hid (hb1.mono (Nat.le_of_lt HG.out.lt))
  have HO1 := Lib.hid (fun k (hk : k < w.heap.size) => hb1.block k hk)
  clear hb1
  go_wp2_with (refine wpList_st rfl 25 (.tmp 30) (.tmp 28) rfl g 2 rfl (.agg (ndC y)) (ndC y) rfl rfl info_node (nd_all _) HG1.out (Nat.le_of_ble_eq_true rfl) (C' := pdC (getF p y 2)) (by kernel_rfl) ?_; intro w9 hst; refine Hid.out ?_)
  refine Lib.hid ?_
  have HE : Hid (GetPost w g (getF p y 2) (.returned (.tuple #[])) w9) := Lib.hid ⟨rfl, hst.1, HB1.out.trans (hst.2.1 g (Nat.le_refl _)), fun k hk hne => (hst.2.2 k hne).trans (HO1.out k hk)⟩
  clear hst
  go_wp2_with fail
  exact bodyPost_end (results_none rfl _ _ _) rfl HE.out
set_option maxHeartbeats 2000000 in
set_option maxRecDepth 100000 in
theorem get_7 (p : Pd) (y : Nat → Int) (g b off c : Nat) (w : World) (hg : PdT 33 w g p) (hr : Row8 w b off (fsz 7) y) (hc : fsz 7 ≤ c) (hcm : c ≤ maxLen) :
    Calls Try.prog 67 #[.pointer (some ⟨g, 0, none⟩), .int .i64 7, .slice (some ⟨b, off, none⟩) (fsz 7) c] w (GetPost w g (getF p y 7)) := by
  rw [show fsz 7 = 7 from rfl] at *
  have HG := Lib.hid hg
  have HK := Lib.hid (getNode_any b off 7 c y w hr (by omega) hc hcm)
  clear hr hg
  go_enter Try.func67, Try.ntmps67
  go_wp2_with fail
  refine HK.out.mono ?_
  rintro e w1 ⟨rfl, hb1⟩
  have HG1 := Lib.hid (HG.out.below hb1 HG.out.lt)
  have HB1 := Lib.hid (hb1.mono (Nat.le_of_lt HG.out.lt))
  have HO1 := Lib.hid (fun k (hk : k < w.heap.size) => hb1.block k hk)
  clear hb1
  go_wp2_with (refine wpList_st rfl 25 (.tmp 61) (.tmp 59) rfl g 12 rfl (.agg (ndC y)) (ndC y) rfl rfl info_node (nd_all _) HG1.out (Nat.le_of_ble_eq_true rfl) (C' := pdC (getF p y 7)) (by kernel_rfl) ?_; intro w9 hst; refine Hid.out ?_)
  refine Lib.hid ?_
  have HE : Hid (GetPost w g (getF p y 7) (.returned (.tuple #[])) w9) := Lib.hid ⟨rfl, hst.1, HB1.out.trans (hst.2.1 g (Nat.le_refl _)), fun k hk hne => (hst.2.2 k hne).trans (HO1.out k hk)⟩
  clear hst
  go_wp2_with fail
  exact bodyPost_end (results_none rfl _ _ _) rfl HE.out
set_option maxHeartbeats 2000000 in
set_option maxRecDepth 100000 in
theorem get_9 (p : Pd) (y : Nat → Int) (g b off c : Nat) (w : World) (hg : PdT 33 w g p) (hr : Row8 w b off (fsz 9) y) (hc : fsz 9 ≤ c) (hcm : c ≤ maxLen) :
    Calls Try.prog 67 #[.pointer (some ⟨g, 0, none⟩), .int .i64 9, .slice (some ⟨b, off, none⟩) (fsz 9) c] w (GetPost w g (getF p y 9)) := by
  rw [show fsz 9 = 8 from rfl] at *
  have HG := Lib.hid hg
  have HK := Lib.hid (getID_any b off c y w hr hc hcm)
  clear hr hg
  go_enter Try.func67, Try.ntmps67
  go_wp2_with fail
  refine HK.out.mono ?_
  rintro e w1 ⟨rfl, hb1⟩
  have HG1 := Lib.hid (HG.out.below hb1 HG.out.lt)
  have HB1 := Lib.hid (hb1.mono (Nat.le_of_lt HG.out.lt))
  have HO1 := Lib.hid (fun k (hk : k < w.heap.size) => hb1.block k hk)
  clear hb1
  go_wp2_with (refine wpList_st rfl 27 (.tmp 76) (.tmp 74) rfl g 20 rfl (.agg (idC y)) (idC y) rfl rfl info_id (id_all _) HG1.out (Nat.le_of_ble_eq_true rfl) (C' := pdC (getF p y 9)) (by kernel_rfl) ?_; intro w9 hst; refine Hid.out ?_)
  refine Lib.hid ?_
  have HE : Hid (GetPost w g (getF p y 9) (.returned (.tuple #[])) w9) := Lib.hid ⟨rfl, hst.1, HB1.out.trans (hst.2.1 g (Nat.le_refl _)), fun k hk hne => (hst.2.2 k hne).trans (HO1.out k hk)⟩
  clear hst
  go_wp2_with fail
  exact bodyPost_end (results_none rfl _ _ _) rfl HE.out
set_option maxHeartbeats 2000000 in
set_option maxRecDepth 100000 in
theorem get_13 (p : Pd) (y : Nat → Int) (g b off c : Nat) (w : World) (hg : PdT 33 w g p) (hr : Row8 w b off (fsz 13) y) (hc : fsz 13 ≤ c) (hcm : c ≤ maxLen) :
    Calls Try.prog 67 #[.pointer (some ⟨g, 0, none⟩), .int .i64 13, .slice (some ⟨b, off, none⟩) (fsz 13) c] w (GetPost w g (getF p y 13)) := by
  rw [show fsz 13 = 8 from rfl] at *
  have HG := Lib.hid hg
  have HK := Lib.hid (getID_any b off c y w hr hc hcm)
  clear hr hg
  go_enter Try.func67, Try.ntmps67
  go_wp2_with fail
  refine HK.out.mono ?_
  rintro e w1 ⟨rfl, hb1⟩
  have HG1 := Lib.hid (HG.out.below hb1 HG.out.lt)
  have HB1 := Lib.hid (hb1.mono (Nat.le_of_lt HG.out.lt))
  have HO1 := Lib.hid (fun k (hk : k < w.heap.size) => hb1.block k hk)
  clear hb1
  go_wp2_with (refine wpList_st rfl 27 (.tmp 99) (.tmp 97) rfl g 30 rfl (.agg (idC y)) (idC y) rfl rfl info_id (id_all _) HG1.out (Nat.le_of_ble_eq_true rfl) (C' := pdC (getF p y 13)) (by kernel_rfl) ?_; intro w9 hst; refine Hid.out ?_)
  refine Lib.hid ?_
  have HE : Hid (GetPost w g (getF p y 13) (.returned (.tuple #[])) w9) := Lib.hid ⟨rfl, hst.1, HB1.out.trans (hst.2.1 g (Nat.le_refl _)), fun k hk hne => (hst.2.2 k hne).trans (HO1.out k hk)⟩
  clear hst
  go_wp2_with fail
  exact bodyPost_end (results_none rfl _ _ _) rfl HE.out
set_option maxHeartbeats 2000000 in
set_option maxRecDepth 100000 in
theorem get_14 (p : Pd) (y : Nat → Int) (g b off c : Nat) (w : World) (hg : PdT 33 w g p) (hr : Row8 w b off (fsz 14) y) (hc : fsz 14 ≤ c) (hcm : c ≤ maxLen) :
    Calls Try.prog 67 #[.pointer (some ⟨g, 0, none⟩), .int .i64 14, .slice (some ⟨b, off, none⟩) (fsz 14) c] w (GetPost w g (getF p y 14)) := by
  rw [show fsz 14 = 8 from rfl] at *
  have HG := Lib.hid hg
  have HK := Lib.hid (getID_any b off c y w hr hc hcm)
  clear hr hg
  go_enter Try.func67, Try.ntmps67
  go_wp2_with fail
  refine HK.out.mono ?_
  rintro e w1 ⟨rfl, hb1⟩
  have HG1 := Lib.hid (HG.out.below hb1 HG.out.lt)
  have HB1 := Lib.hid (hb1.mono (Nat.le_of_lt HG.out.lt))
  have HO1 := Lib.hid (fun k (hk : k < w.heap.size) => hb1.block k hk)
  clear hb1
  go_wp2_with (refine wpList_st rfl 27 (.tmp 106) (.tmp 104) rfl g 38 rfl (.agg (idC y)) (idC y) rfl rfl info_id (id_all _) HG1.out (Nat.le_of_ble_eq_true rfl) (C' := pdC (getF p y 14)) (by kernel_rfl) ?_; intro w9 hst; refine Hid.out ?_)
  refine Lib.hid ?_
  have HE : Hid (GetPost w g (getF p y 14) (.returned (.tuple #[])) w9) := Lib.hid ⟨rfl, hst.1, HB1.out.trans (hst.2.1 g (Nat.le_refl _)), fun k hk hne => (hst.2.2 k hne).trans (HO1.out k hk)⟩
  clear hst
  go_wp2_with fail
  exact bodyPost_end (results_none rfl _ _ _) rfl HE.out
set_option maxHeartbeats 2000000 in
set_option maxRecDepth 100000 in
theorem get_3 (p : Pd) (y : Nat → Int) (g b off c : Nat) (w : World) (hg : PdT 33 w g p) (hr : Row8 w b off (fsz 3) y) (hc : fsz 3 ≤ c) (hcm : c ≤ maxLen) :
    Calls Try.prog 67 #[.pointer (some ⟨g, 0, none⟩), .int .i64 3, .slice (some ⟨b, off, none⟩) (fsz 3) c] w (GetPost w g (getF p y 3)) := by
  rw [show fsz 3 = 2 from rfl] at *
  have HG := Lib.hid hg
  have hzb := numZ_lt y 0 2 hr.2.2
  have HK := Lib.hid (getNumber_any b off 2 c y w hr (by omega) (by omega) hc hcm)
  obtain ⟨N, hN⟩ : ∃ N, (numZ y 0 2).toNat = N := ⟨_, rfl⟩
  have hNb : N ≤ 65535 := by
    have e : (256 : Int) ^ 2 = 65536 := by decide
    omega
  have HW := Lib.hid (wI N hNb)
  have hw := HW.out
  rw [hN] at HK
  have HF : Hid (putMany (pdC p) 9 #[Value.int .i64 (N : Int)].toList = pdC (getF p y 3)) := Lib.hid (by rw [← hN]; kernel_rfl)
  clear hr hg hzb hN
  go_enter Try.func67, Try.ntmps67
  go_wp2_with fail
  refine HK.out.mono ?_
  rintro e w1 ⟨rfl, rfl⟩
  go_wp2_with (refine wpList_st rfl 3 (.tmp 38) (.tmp 36) rfl g 9 rfl (.int .i64 (N : Int)) #[.int .i64 (N : Int)] rfl rfl (by kernel_rfl) (by kernel_rfl) HG.out (Nat.le_of_ble_eq_true rfl) HF.out ?_; intro w9 hst; refine Hid.out ?_)
  refine Lib.hid ?_
  have HE : Hid (GetPost w1 g (getF p y 3) (.returned (.tuple #[])) w9) := Lib.hid ⟨rfl, hst.1, hst.2.1 g (Nat.le_refl _), fun k hk hne => hst.2.2 k hne⟩
  clear hst
  go_wp2_with fail
  exact bodyPost_end (results_none rfl _ _ _) rfl HE.out
set_option maxHeartbeats 2000000 in
set_option maxRecDepth 100000 in
theorem get_8 (p : Pd) (y : Nat → Int) (g b off c : Nat) (w : World) (hg : PdT 33 w g p) (hr : Row8 w b off (fsz 8) y) (hc : fsz 8 ≤ c) (hcm : c ≤ maxLen) :
    Calls Try.prog 67 #[.pointer (some ⟨g, 0, none⟩), .int .i64 8, .slice (some ⟨b, off, none⟩) (fsz 8) c] w (GetPost w g (getF p y 8)) := by
  rw [show fsz 8 = 2 from rfl] at *
  have HG := Lib.hid hg
  have hzb := numZ_lt y 0 2 hr.2.2
  have HK := Lib.hid (getNumber_any b off 2 c y w hr (by omega) (by omega) hc hcm)
  obtain ⟨N, hN⟩ : ∃ N, (numZ y 0 2).toNat = N := ⟨_, rfl⟩
  have hNb : N ≤ 65535 := by
    have e : (256 : Int) ^ 2 = 65536 := by decide
    omega
  have HW := Lib.hid (wI N hNb)
  have hw := HW.out
  rw [hN] at HK
  have HF : Hid (putMany (pdC p) 19 #[Value.int .i64 (N : Int)].toList = pdC (getF p y 8)) := Lib.hid (by rw [← hN]; kernel_rfl)
  clear hr hg hzb hN
  go_enter Try.func67, Try.ntmps67
  go_wp2_with fail
  refine HK.out.mono ?_
  rintro e w1 ⟨rfl, rfl⟩
  go_wp2_with (refine wpList_st rfl 3 (.tmp 69) (.tmp 67) rfl g 19 rfl (.int .i64 (N : Int)) #[.int .i64 (N : Int)] rfl rfl (by kernel_rfl) (by kernel_rfl) HG.out (Nat.le_of_ble_eq_true rfl) HF.out ?_; intro w9 hst; refine Hid.out ?_)
  refine Lib.hid ?_
  have HE : Hid (GetPost w1 g (getF p y 8) (.returned (.tuple #[])) w9) := Lib.hid ⟨rfl, hst.1, hst.2.1 g (Nat.le_refl _), fun k hk hne => hst.2.2 k hne⟩
  clear hst
  go_wp2_with fail
  exact bodyPost_end (results_none rfl _ _ _) rfl HE.out
set_option maxHeartbeats 2000000 in
set_option maxRecDepth 100000 in
theorem get_10 (p : Pd) (y : Nat → Int) (g b off c : Nat) (w : World) (hg : PdT 33 w g p) (hr : Row8 w b off (fsz 10) y) (hc : fsz 10 ≤ c) (hcm : c ≤ maxLen) :
    Calls Try.prog 67 #[.pointer (some ⟨g, 0, none⟩), .int .i64 10, .slice (some ⟨b, off, none⟩) (fsz 10) c] w (GetPost w g (getF p y 10)) := by
  rw [show fsz 10 = 4 from rfl] at *
  have HG := Lib.hid hg
  have hzb := numZ_lt y 0 4 hr.2.2
  have HK := Lib.hid (getNumber_any b off 4 c y w hr (by omega) (by omega) hc hcm)
  obtain ⟨N, hN⟩ : ∃ N, (numZ y 0 4).toNat = N := ⟨_, rfl⟩
  have hNb : N ≤ 4294967295 := by
    have e : (256 : Int) ^ 4 = 4294967296 := by decide
    omega
  have HW := Lib.hid (wU4 N hNb)
  have hw := HW.out
  rw [hN] at HK
  have HF : Hid (putMany (pdC p) 28 #[Value.int .u32 (N : Int)].toList = pdC (getF p y 10)) := Lib.hid (by rw [← hN]; kernel_rfl)
  clear hr hg hzb hN
  go_enter Try.func67, Try.ntmps67
  go_wp2_with fail
  refine HK.out.mono ?_
  rintro e w1 ⟨rfl, rfl⟩
  go_wp2_with (refine wpList_st rfl 28 (.tmp 84) (.tmp 82) rfl g 28 rfl (.int .u32 (N : Int)) #[.int .u32 (N : Int)] rfl rfl (by kernel_rfl) (by kernel_rfl) HG.out (Nat.le_of_ble_eq_true rfl) HF.out ?_; intro w9 hst; refine Hid.out ?_)
  refine Lib.hid ?_
  have HE : Hid (GetPost w1 g (getF p y 10) (.returned (.tuple #[])) w9) := Lib.hid ⟨rfl, hst.1, hst.2.1 g (Nat.le_refl _), fun k hk hne => hst.2.2 k hne⟩
  clear hst
  go_wp2_with fail
  exact bodyPost_end (results_none rfl _ _ _) rfl HE.out
set_option maxHeartbeats 2000000 in
set_option maxRecDepth 100000 in
theorem get_4 (p : Pd) (y : Nat → Int) (g b off c : Nat) (w : World) (hg : PdT 33 w g p) (hr : Row8 w b off (fsz 4) y) (hc : fsz 4 ≤ c) (hcm : c ≤ maxLen) :
    Calls Try.prog 67 #[.pointer (some ⟨g, 0, none⟩), .int .i64 4, .slice (some ⟨b, off, none⟩) (fsz 4) c] w (GetPost w g (getF p y 4)) := by
  rw [show fsz 4 = 2 from rfl] at *
  have HG := Lib.hid hg
  clear hr hg
  go_enter Try.func67, Try.ntmps67
  go_wp2_with fail
  exact bodyPost_end (results_none rfl _ _ _) rfl ⟨rfl, HG.out, Below.refl _ _, fun _ _ _ => rfl⟩
set_option maxHeartbeats 2000000 in
set_option maxRecDepth 100000 in
theorem get_11 (p : Pd) (y : Nat → Int) (g b off c : Nat) (w : World) (hg : PdT 33 w g p) (hr : Row8 w b off (fsz 11) y) (hc : fsz 11 ≤ c) (hcm : c ≤ maxLen) :
    Calls Try.prog 67 #[.pointer (some ⟨g, 0, none⟩), .int .i64 11, .slice (some ⟨b, off, none⟩) (fsz 11) c] w (GetPost w g (getF p y 11)) := by
  rw [show fsz 11 = 2 from rfl] at *
  have HG := Lib.hid hg
  clear hr hg
  go_enter Try.func67, Try.ntmps67
  go_wp2_with fail
  exact bodyPost_end (results_none rfl _ _ _) rfl ⟨rfl, HG.out, Below.refl _ _, fun _ _ _ => rfl⟩
theorem get_any (p : Pd) (y : Nat → Int) (g b off c f : Nat) (hf : f ≤ 14) (w : World) (hg : PdT 33 w g p) (hr : Row8 w b off (fsz f) y) (hc : fsz f ≤ c) (hcm : c ≤ maxLen) :
    Calls Try.prog 67 #[.pointer (some ⟨g, 0, none⟩), .int .i64 (f : Int), .slice (some ⟨b, off, none⟩) (fsz f) c] w (GetPost w g (getF p y f)) := by
  rcases (by omega : f = 0 ∨ f = 1 ∨ f = 2 ∨ f = 3 ∨ f = 4 ∨ f = 5 ∨ f = 6 ∨ f = 7 ∨ f = 8 ∨ f = 9 ∨ f = 10 ∨ f = 11 ∨ f = 12 ∨ f = 13 ∨ f = 14) with rfl | rfl | rfl | rfl | rfl | rfl | rfl | rfl | rfl | rfl | rfl | rfl | rfl | rfl | rfl
  · exact get_0 p y g b off c w hg hr hc hcm
  · exact get_1 p y g b off c w hg hr hc hcm
  · exact get_2 p y g b off c w hg hr hc hcm
  · exact get_3 p y g b off c w hg hr hc hcm
  · exact get_4 p y g b off c w hg hr hc hcm
  · exact get_5 p y g b off c w hg hr hc hcm
  · exact get_6 p y g b off c w hg hr hc hcm
  · exact get_7 p y g b off c w hg hr hc hcm
  · exact get_8 p y g b off c w hg hr hc hcm
  · exact get_9 p y g b off c w hg hr hc hcm
  · exact get_10 p y g b off c w hg hr hc hcm
  · exact get_11 p y g b off c w hg hr hc hcm
  · exact get_12 p y g b off c w hg hr hc hcm
  · exact get_13 p y g b off c w hg hr hc hcm
  · exact get_14 p y g b off c w hg hr hc hcm
end Go.Proofs.Ytigkmcbkckfhbaa
