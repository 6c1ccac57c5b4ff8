/- Texts of this claim put together; each theorem states its conditions. -/
import Derived.Test.YtccoicjmmeoggaaDoorGMacBackCard3
import Derived.Laws.IdiomStrings
import Derived.Test.YtccoicjmmeoggaaDoorGMacBackCard1
/- pdu.get reads a field of a packet. Each theorem states its conditions. -/
namespace Go.Proofs.YtccoicjmmeoggaaDoor
open Go.RowKit
set_option linter.unusedVariables false

/-- the first six of one, the rest of another -/
def mixS (s t : Nat → Int) : Nat → Int := fun j => if j < 6 then s j else t j
theorem mixS_bd {s t : Nat → Int} (h : ∀ j, 0 ≤ s j ∧ s j ≤ 255) (h' : ∀ j, 0 ≤ t j ∧ t j ≤ 255) : ∀ j, 0 ≤ mixS s t j ∧ mixS s t j ≤ 255 := by
  intro j; unfold mixS; split
  · exact h j
  · exact h' j
/-- a field is set by its bytes -/
def getF (p : Pd) (y : Nat → Int) : Nat → Pd
  | 0 => ⟨p.kd, y 0, p.so, p.ho, p.nu, p.pr, p.la, p.li, p.id, p.sq, p.bi, p.st, p.en, p.A, p.m, p.c⟩
  | 1 => ⟨p.kd, p.ci, mixS y p.so, p.ho, p.nu, p.pr, p.la, p.li, p.id, p.sq, p.bi, p.st, p.en, p.A, p.m, p.c⟩
  | 2 => ⟨p.kd, p.ci, y, p.ho, p.nu, p.pr, p.la, p.li, p.id, p.sq, p.bi, p.st, p.en, p.A, p.m, p.c⟩
  | 3 => ⟨p.kd, p.ci, p.so, (((numZ y 0 2).toNat : Nat) : Int), p.nu, p.pr, p.la, p.li, p.id, p.sq, p.bi, p.st, p.en, p.A, p.m, p.c⟩
  | 5 => ⟨p.kd, p.ci, p.so, p.ho, y 0, p.pr, p.la, p.li, p.id, p.sq, p.bi, p.st, p.en, p.A, p.m, p.c⟩
  | 6 => ⟨p.kd, p.ci, p.so, p.ho, p.nu, y 0, p.la, p.li, p.id, p.sq, p.bi, p.st, p.en, p.A, p.m, p.c⟩
  | 7 => ⟨p.kd, p.ci, p.so, p.ho, p.nu, p.pr, y, p.li, p.id, p.sq, p.bi, p.st, p.en, p.A, p.m, p.c⟩
  | 8 => ⟨p.kd, p.ci, p.so, p.ho, p.nu, p.pr, p.la, (((numZ y 0 2).toNat : Nat) : Int), p.id, p.sq, p.bi, p.st, p.en, p.A, p.m, p.c⟩
  | 9 => ⟨p.kd, p.ci, p.so, p.ho, p.nu, p.pr, p.la, p.li, y, p.sq, p.bi, p.st, p.en, p.A, p.m, p.c⟩
  | 10 => ⟨p.kd, p.ci, p.so, p.ho, p.nu, p.pr, p.la, p.li, p.id, (numZ y 0 4).toNat, p.bi, p.st, p.en, p.A, p.m, p.c⟩
  | 12 => ⟨p.kd, p.ci, p.so, p.ho, p.nu, p.pr, p.la, p.li, p.id, p.sq, y 0, p.st, p.en, p.A, p.m, p.c⟩
  | 13 => ⟨p.kd, p.ci, p.so, p.ho, p.nu, p.pr, p.la, p.li, p.id, p.sq, p.bi, y, p.en, p.A, p.m, p.c⟩
  | 14 => ⟨p.kd, p.ci, p.so, p.ho, p.nu, p.pr, p.la, p.li, p.id, p.sq, p.bi, p.st, y, p.A, p.m, p.c⟩
  | _ => p
/-- what get leaves: the packet at g is another one -/
def GetPost (w : World) (g : Nat) (p : Pd) (e : Ending) (w' : World) : Prop := e = .returned (.tuple #[]) ∧ PdT 46 w' g p ∧ Below g w w' ∧ ∀ k, k < w.heap.size → k ≠ g → w'.heap[k]? = w.heap[k]?
/-- a copy into block g -/
theorem dwpList_cp {ops : Array Oper} {Q : Exit → Act → World → Prop} {rest : List Oper} {o : Oper} {a : Act} {w : World} (hgd : o.guard = none) (d s : Operand) (dT sT : TypeId)
    (ho : o.op = .call { callee := .builtin .copy, args := #[d, s], argTypes := #[dT, sT] }) (elem : TypeId) (hu : Tryd.prog.underlying dT = some (.slice elem)) (hsz : (Tryd.prog.info? elem).map (·.size) = some 1)
    (g off dLen dCap : Nat) (ad : Addr) (sLen sCap : Nat) (hd : a.eval d = .slice (some ⟨g, off, none⟩) dLen dCap) (hs : a.eval s = .slice (some ad) sLen sCap)
    (cur : List Value) (t : TypeId) (hg : w.heap[g]? = some (.cells cur.toArray t (0, 0))) (cs : List Value) (hn : cs.length = Nat.min sLen dLen)
    (hsrc : ∀ j v, cs[j]? = some v → w.cell? (ad.add j) = some v) (hfit : off + cs.length ≤ cur.length) (h1 : ∀ v ∈ cs, v.oneCell' = true) {C' : Array Value} (hC : (splice cur off cs).toArray = C')
    (h : ∀ w', Stored w w' g C' t → wpList Tryd.prog ops Q rest (a.put o.dst (goInt cs.length)) w') : wpList Tryd.prog ops Q (o :: rest) a w := by
  subst hC
  refine wpList_plain hgd fun K hK => ?_
  have hrun := run_copy_row (P := Tryd.prog) w dT sT o.type elem g off dLen dCap ad sLen sCap cur.toArray t cs hu hsz hg hn hsrc (by simpa using hfit) h1
  unfold Oper.wp
  simp [execOp, ho, resolve, invoke, builtin, hd, hs, hrun, Result.andThen]
  exact hK _ _ (h _ ⟨(show _ = _ by simpa [splice] using setRow_heap w g _ _ t _ hg), fun B hB => ⟨rfl, rfl, rfl, by simp [World.setRow], fun k hk => setRow_other w g k _ (by omega)⟩, fun k hk => setRow_other w g k _ hk⟩)
set_option maxHeartbeats 2000000 in
set_option maxRecDepth 100000 in
theorem get_0 (p : Pd) (y : Nat → Int) (g b off c : Nat) (w : World) (hg : PdT 46 w g p) (hr : Row8 w b off (fsz 0) y) (hc : fsz 0 ≤ c) (hcm : c ≤ maxLen) :
    Calls Tryd.prog 98 #[.pointer (some ⟨g, 0, none⟩), .int .i64 0, .slice (some ⟨b, off, none⟩) (fsz 0) c] w (GetPost w g (getF p y 0)) := by
  rw [show fsz 0 = 1 from rfl] at *
  have c1 : w.cell? ⟨b, off, none⟩ = some (.int .u8 (y 0)) := hr.2.1 0 (by omega)
  have HG := Lib.hid hg
  clear hr hg
  go_enter Tryd.func98, Tryd.ntmps98
  go_wp2_with (refine wpList_st rfl 5 (.tmp 14) (.tmp 12) rfl g 1 rfl (.int .u8 (y 0)) #[.int .u8 (y 0)] rfl rfl (by kernel_rfl) (by kernel_rfl) HG.out (Nat.le_of_ble_eq_true rfl) (C' := pdC (getF p y 0)) (by kernel_rfl) ?_; intro w9 hst; refine Hid.out ?_)
  refine Lib.hid ?_
  have HE : Hid (GetPost w g (getF p y 0) (.returned (.tuple #[])) w9) := Lib.hid ⟨rfl, hst.1, hst.2.1 g (Nat.le_refl _), fun k hk hne => hst.2.2 k hne⟩
  clear hst
  go_wp2_with fail
  exact bodyPost_end (results_none rfl _ _ _) rfl HE.out
set_option maxHeartbeats 2000000 in
set_option maxRecDepth 100000 in
theorem get_5 (p : Pd) (y : Nat → Int) (g b off c : Nat) (w : World) (hg : PdT 46 w g p) (hr : Row8 w b off (fsz 5) y) (hc : fsz 5 ≤ c) (hcm : c ≤ maxLen) :
    Calls Tryd.prog 98 #[.pointer (some ⟨g, 0, none⟩), .int .i64 5, .slice (some ⟨b, off, none⟩) (fsz 5) c] w (GetPost w g (getF p y 5)) := by
  rw [show fsz 5 = 1 from rfl] at *
  have c1 : w.cell? ⟨b, off, none⟩ = some (.int .u8 (y 0)) := hr.2.1 0 (by omega)
  have HG := Lib.hid hg
  clear hr hg
  go_enter Tryd.func98, Tryd.ntmps98
  go_wp2_with (refine wpList_st rfl 5 (.tmp 46) (.tmp 44) rfl g 10 rfl (.int .u8 (y 0)) #[.int .u8 (y 0)] rfl rfl (by kernel_rfl) (by kernel_rfl) HG.out (Nat.le_of_ble_eq_true rfl) (C' := pdC (getF p y 5)) (by kernel_rfl) ?_; intro w9 hst; refine Hid.out ?_)
  refine Lib.hid ?_
  have HE : Hid (GetPost w g (getF p y 5) (.returned (.tuple #[])) w9) := Lib.hid ⟨rfl, hst.1, hst.2.1 g (Nat.le_refl _), fun k hk hne => hst.2.2 k hne⟩
  clear hst
  go_wp2_with fail
  exact bodyPost_end (results_none rfl _ _ _) rfl HE.out
set_option maxHeartbeats 2000000 in
set_option maxRecDepth 100000 in
theorem get_6 (p : Pd) (y : Nat → Int) (g b off c : Nat) (w : World) (hg : PdT 46 w g p) (hr : Row8 w b off (fsz 6) y) (hc : fsz 6 ≤ c) (hcm : c ≤ maxLen) :
    Calls Tryd.prog 98 #[.pointer (some ⟨g, 0, none⟩), .int .i64 6, .slice (some ⟨b, off, none⟩) (fsz 6) c] w (GetPost w g (getF p y 6)) := by
  rw [show fsz 6 = 1 from rfl] at *
  have c1 : w.cell? ⟨b, off, none⟩ = some (.int .u8 (y 0)) := hr.2.1 0 (by omega)
  have HG := Lib.hid hg
  clear hr hg
  go_enter Tryd.func98, Tryd.ntmps98
  go_wp2_with (refine wpList_st rfl 5 (.tmp 54) (.tmp 52) rfl g 11 rfl (.int .u8 (y 0)) #[.int .u8 (y 0)] rfl rfl (by kernel_rfl) (by kernel_rfl) HG.out (Nat.le_of_ble_eq_true rfl) (C' := pdC (getF p y 6)) (by kernel_rfl) ?_; intro w9 hst; refine Hid.out ?_)
  refine Lib.hid ?_
  have HE : Hid (GetPost w g (getF p y 6) (.returned (.tuple #[])) w9) := Lib.hid ⟨rfl, hst.1, hst.2.1 g (Nat.le_refl _), fun k hk hne => hst.2.2 k hne⟩
  clear hst
  go_wp2_with fail
  exact bodyPost_end (results_none rfl _ _ _) rfl HE.out
set_option maxHeartbeats 2000000 in
set_option maxRecDepth 100000 in
theorem get_12 (p : Pd) (y : Nat → Int) (g b off c : Nat) (w : World) (hg : PdT 46 w g p) (hr : Row8 w b off (fsz 12) y) (hc : fsz 12 ≤ c) (hcm : c ≤ maxLen) :
    Calls Tryd.prog 98 #[.pointer (some ⟨g, 0, none⟩), .int .i64 12, .slice (some ⟨b, off, none⟩) (fsz 12) c] w (GetPost w g (getF p y 12)) := by
  rw [show fsz 12 = 1 from rfl] at *
  have c1 : w.cell? ⟨b, off, none⟩ = some (.int .u8 (y 0)) := hr.2.1 0 (by omega)
  have HG := Lib.hid hg
  clear hr hg
  go_enter Tryd.func98, Tryd.ntmps98
  go_wp2_with (refine wpList_st rfl 5 (.tmp 92) (.tmp 90) rfl g 29 rfl (.int .u8 (y 0)) #[.int .u8 (y 0)] rfl rfl (by kernel_rfl) (by kernel_rfl) HG.out (Nat.le_of_ble_eq_true rfl) (C' := pdC (getF p y 12)) (by kernel_rfl) ?_; intro w9 hst; refine Hid.out ?_)
  refine Lib.hid ?_
  have HE : Hid (GetPost w g (getF p y 12) (.returned (.tuple #[])) w9) := Lib.hid ⟨rfl, hst.1, hst.2.1 g (Nat.le_refl _), fun k hk hne => hst.2.2 k hne⟩
  clear hst
  go_wp2_with fail
  exact bodyPost_end (results_none rfl _ _ _) rfl HE.out
set_option maxHeartbeats 2000000 in
set_option maxRecDepth 100000 in
theorem get_1 (p : Pd) (y : Nat → Int) (g b off c : Nat) (w : World) (hg : PdT 46 w g p) (hr : Row8 w b off (fsz 1) y) (hc : fsz 1 ≤ c) (hcm : c ≤ maxLen) :
    Calls Tryd.prog 98 #[.pointer (some ⟨g, 0, none⟩), .int .i64 1, .slice (some ⟨b, off, none⟩) (fsz 1) c] w (GetPost w g (getF p y 1)) := by
  rw [show fsz 1 = 6 from rfl] at *
  have HG := Lib.hid hg
  have HR : Hid (∀ j v, (vals y 6)[j]? = some v → w.cell? ((⟨b, off, none⟩ : Addr).add j) = some v) := Lib.hid (six_src hr (by omega))
  clear hr hg
  go_enter Tryd.func98, Tryd.ntmps98
  go_wp2_with (refine dwpList_cp rfl (.tmp 21) (.tmp 22) 22 22 rfl 5 Tryd.underlying22 info_u8s' g 2 6 6 ⟨b, off, none⟩ 6 c rfl rfl (pdC p).toList 46 HG.out (vals y 6) (by rw [vals_len]; rfl) HR.out (show 2 + (vals y 6).length ≤ 47 by rw [vals_len]; decide) (vals_one _ _) (C' := pdC (getF p y 1)) (by kernel_rfl) ?_; intro w9 hst; refine Hid.out ?_)
  refine Lib.hid ?_
  have HE : Hid (GetPost w g (getF p y 1) (.returned (.tuple #[])) w9) := Lib.hid ⟨rfl, hst.1, hst.2.1 g (Nat.le_refl _), fun k hk hne => hst.2.2 k hne⟩
  clear hst
  go_wp2_with fail
  exact bodyPost_end (results_none rfl _ _ _) rfl HE.out
set_option maxHeartbeats 2000000 in
set_option maxRecDepth 100000 in
theorem get_2 (p : Pd) (y : Nat → Int) (g b off c : Nat) (w : World) (hg : PdT 46 w g p) (hr : Row8 w b off (fsz 2) y) (hc : fsz 2 ≤ c) (hcm : c ≤ maxLen) :
    Calls Tryd.prog 98 #[.pointer (some ⟨g, 0, none⟩), .int .i64 2, .slice (some ⟨b, off, none⟩) (fsz 2) c] w (GetPost w g (getF p y 2)) := by
  rw [show fsz 2 = 7 from rfl] at *
  have HG := Lib.hid hg
  have HK := Lib.hid (getNode_any b off 7 c y w hr (by omega) hc hcm)
  clear hr hg
  go_enter Tryd.func98, Tryd.ntmps98
  go_wp2_with fail
  refine HK.out.mono ?_
  rintro e w1 ⟨rfl, hb1⟩
  have HG1 := Lib.hid (HG.out.below hb1 HG.out.lt)
  have HB1 := Lib.hid (hb1.mono (Nat.le_of_lt HG.out.lt))
  have HO1 := Lib.hid (fun k (hk : k < w.heap.size) => hb1.block k hk)
  clear hb1
  go_wp2_with (refine wpList_st rfl 36 (.tmp 30) (.tmp 28) rfl g 2 rfl (.agg (ndC y)) (ndC y) rfl rfl info_node (nd_all _) HG1.out (Nat.le_of_ble_eq_true rfl) (C' := pdC (getF p y 2)) (by kernel_rfl) ?_; intro w9 hst; refine Hid.out ?_)
  refine Lib.hid ?_
  have HE : Hid (GetPost w g (getF p y 2) (.returned (.tuple #[])) w9) := Lib.hid ⟨rfl, hst.1, HB1.out.trans (hst.2.1 g (Nat.le_refl _)), fun k hk hne => (hst.2.2 k hne).trans (HO1.out k hk)⟩
  clear hst
  go_wp2_with fail
  exact bodyPost_end (results_none rfl _ _ _) rfl HE.out
set_option maxHeartbeats 2000000 in
set_option maxRecDepth 100000 in
theorem get_7 (p : Pd) (y : Nat → Int) (g b off c : Nat) (w : World) (hg : PdT 46 w g p) (hr : Row8 w b off (fsz 7) y) (hc : fsz 7 ≤ c) (hcm : c ≤ maxLen) :
    Calls Tryd.prog 98 #[.pointer (some ⟨g, 0, none⟩), .int .i64 7, .slice (some ⟨b, off, none⟩) (fsz 7) c] w (GetPost w g (getF p y 7)) := by
  rw [show fsz 7 = 7 from rfl] at *
  have HG := Lib.hid hg
  have HK := Lib.hid (getNode_any b off 7 c y w hr (by omega) hc hcm)
  clear hr hg
  go_enter Tryd.func98, Tryd.ntmps98
  go_wp2_with fail
  refine HK.out.mono ?_
  rintro e w1 ⟨rfl, hb1⟩
  have HG1 := Lib.hid (HG.out.below hb1 HG.out.lt)
  have HB1 := Lib.hid (hb1.mono (Nat.le_of_lt HG.out.lt))
  have HO1 := Lib.hid (fun k (hk : k < w.heap.size) => hb1.block k hk)
  clear hb1
  go_wp2_with (refine wpList_st rfl 36 (.tmp 61) (.tmp 59) rfl g 12 rfl (.agg (ndC y)) (ndC y) rfl rfl info_node (nd_all _) HG1.out (Nat.le_of_ble_eq_true rfl) (C' := pdC (getF p y 7)) (by kernel_rfl) ?_; intro w9 hst; refine Hid.out ?_)
  refine Lib.hid ?_
  have HE : Hid (GetPost w g (getF p y 7) (.returned (.tuple #[])) w9) := Lib.hid ⟨rfl, hst.1, HB1.out.trans (hst.2.1 g (Nat.le_refl _)), fun k hk hne => (hst.2.2 k hne).trans (HO1.out k hk)⟩
  clear hst
  go_wp2_with fail
  exact bodyPost_end (results_none rfl _ _ _) rfl HE.out
set_option maxHeartbeats 2000000 in
set_option maxRecDepth 100000 in
theorem get_9 (p : Pd) (y : Nat → Int) (g b off c : Nat) (w : World) (hg : PdT 46 w g p) (hr : Row8 w b off (fsz 9) y) (hc : fsz 9 ≤ c) (hcm : c ≤ maxLen) :
    Calls Tryd.prog 98 #[.pointer (some ⟨g, 0, none⟩), .int .i64 9, .slice (some ⟨b, off, none⟩) (fsz 9) c] w (GetPost w g (getF p y 9)) := by
  rw [show fsz 9 = 8 from rfl] at *
  have HG := Lib.hid hg
  have HK := Lib.hid (getID_any b off c y w hr hc hcm)
  clear hr hg
  go_enter Tryd.func98, Tryd.ntmps98
  go_wp2_with fail
  refine HK.out.mono ?_
  rintro e w1 ⟨rfl, hb1⟩
  have HG1 := Lib.hid (HG.out.below hb1 HG.out.lt)
  have HB1 := Lib.hid (hb1.mono (Nat.le_of_lt HG.out.lt))
  have HO1 := Lib.hid (fun k (hk : k < w.heap.size) => hb1.block k hk)
  clear hb1
  go_wp2_with (refine wpList_st rfl 38 (.tmp 76) (.tmp 74) rfl g 20 rfl (.agg (idC y)) (idC y) rfl rfl info_id (id_all _) HG1.out (Nat.le_of_ble_eq_true rfl) (C' := pdC (getF p y 9)) (by kernel_rfl) ?_; intro w9 hst; refine Hid.out ?_)
  refine Lib.hid ?_
  have HE : Hid (GetPost w g (getF p y 9) (.returned (.tuple #[])) w9) := Lib.hid ⟨rfl, hst.1, HB1.out.trans (hst.2.1 g (Nat.le_refl _)), fun k hk hne => (hst.2.2 k hne).trans (HO1.out k hk)⟩
  clear hst
  go_wp2_with fail
  exact bodyPost_end (results_none rfl _ _ _) rfl HE.out
set_option maxHeartbeats 2000000 in
set_option maxRecDepth 100000 in
theorem get_13 (p : Pd) (y : Nat → Int) (g b off c : Nat) (w : World) (hg : PdT 46 w g p) (hr : Row8 w b off (fsz 13) y) (hc : fsz 13 ≤ c) (hcm : c ≤ maxLen) :
    Calls Tryd.prog 98 #[.pointer (some ⟨g, 0, none⟩), .int .i64 13, .slice (some ⟨b, off, none⟩) (fsz 13) c] w (GetPost w g (getF p y 13)) := by
  rw [show fsz 13 = 8 from rfl] at *
  have HG := Lib.hid hg
  have HK := Lib.hid (getID_any b off c y w hr hc hcm)
  clear hr hg
  go_enter Tryd.func98, Tryd.ntmps98
  go_wp2_with fail
  refine HK.out.mono ?_
  rintro e w1 ⟨rfl, hb1⟩
  have HG1 := Lib.hid (HG.out.below hb1 HG.out.lt)
  have HB1 := Lib.hid (hb1.mono (Nat.le_of_lt HG.out.lt))
  have HO1 := Lib.hid (fun k (hk : k < w.heap.size) => hb1.block k hk)
  clear hb1
  go_wp2_with (refine wpList_st rfl 38 (.tmp 99) (.tmp 97) rfl g 30 rfl (.agg (idC y)) (idC y) rfl rfl info_id (id_all _) HG1.out (Nat.le_of_ble_eq_true rfl) (C' := pdC (getF p y 13)) (by kernel_rfl) ?_; intro w9 hst; refine Hid.out ?_)
  refine Lib.hid ?_
  have HE : Hid (GetPost w g (getF p y 13) (.returned (.tuple #[])) w9) := Lib.hid ⟨rfl, hst.1, HB1.out.trans (hst.2.1 g (Nat.le_refl _)), fun k hk hne => (hst.2.2 k hne).trans (HO1.out k hk)⟩
  clear hst
  go_wp2_with fail
  exact bodyPost_end (results_none rfl _ _ _) rfl HE.out
set_option maxHeartbeats 2000000 in
set_option maxRecDepth 100000 in
theorem get_14 (p : Pd) (y : Nat → Int) (g b off c : Nat) (w : World) (hg : PdT 46 w g p) (hr : Row8 w b off (fsz 14) y) (hc : fsz 14 ≤ c) (hcm : c ≤ maxLen) :
    Calls Tryd.prog 98 #[.pointer (some ⟨g, 0, none⟩), .int .i64 14, .slice (some ⟨b, off, none⟩) (fsz 14) c] w (GetPost w g (getF p y 14)) := by
  rw [show fsz 14 = 8 from rfl] at *
  have HG := Lib.hid hg
  have HK := Lib.hid (getID_any b off c y w hr hc hcm)
  clear hr hg
  go_enter Tryd.func98, Tryd.ntmps98
  go_wp2_with fail
  refine HK.out.mono ?_
  rintro e w1 ⟨rfl, hb1⟩
  have HG1 := Lib.hid (HG.out.below hb1 HG.out.lt)
  have HB1 := Lib.hid (hb1.mono (Nat.le_of_lt HG.out.lt))
  have HO1 := Lib.hid (fun k (hk : k < w.heap.size) => hb1.block k hk)
  clear hb1
  go_wp2_with (refine wpList_st rfl 38 (.tmp 106) (.tmp 104) rfl g 38 rfl (.agg (idC y)) (idC y) rfl rfl info_id (id_all _) HG1.out (Nat.le_of_ble_eq_true rfl) (C' := pdC (getF p y 14)) (by kernel_rfl) ?_; intro w9 hst; refine Hid.out ?_)
  refine Lib.hid ?_
  have HE : Hid (GetPost w g (getF p y 14) (.returned (.tuple #[])) w9) := Lib.hid ⟨rfl, hst.1, HB1.out.trans (hst.2.1 g (Nat.le_refl _)), fun k hk hne => (hst.2.2 k hne).trans (HO1.out k hk)⟩
  clear hst
  go_wp2_with fail
  exact bodyPost_end (results_none rfl _ _ _) rfl HE.out
set_option maxHeartbeats 2000000 in
set_option maxRecDepth 100000 in
theorem get_3 (p : Pd) (y : Nat → Int) (g b off c : Nat) (w : World) (hg : PdT 46 w g p) (hr : Row8 w b off (fsz 3) y) (hc : fsz 3 ≤ c) (hcm : c ≤ maxLen) :
    Calls Tryd.prog 98 #[.pointer (some ⟨g, 0, none⟩), .int .i64 3, .slice (some ⟨b, off, none⟩) (fsz 3) c] w (GetPost w g (getF p y 3)) := by
  rw [show fsz 3 = 2 from rfl] at *
  have HG := Lib.hid hg
  have hzb := numZ_lt y 0 2 hr.2.2
  have HK := Lib.hid (getNumber_any b off 2 c y w hr (by omega) (by omega) hc hcm)
  obtain ⟨N, hN⟩ : ∃ N, (numZ y 0 2).toNat = N := ⟨_, rfl⟩
  have hNb : N ≤ 65535 := by
    have e : (256 : Int) ^ 2 = 65536 := by decide
    omega
  have HW := Lib.hid (wI N hNb)
  have hw := HW.out
  rw [hN] at HK
  have HF : Hid (putMany (pdC p) 9 #[Value.int .i64 (N : Int)].toList = pdC (getF p y 3)) := Lib.hid (by rw [← hN]; kernel_rfl)
  clear hr hg hzb hN
  go_enter Tryd.func98, Tryd.ntmps98
  go_wp2_with fail
  refine HK.out.mono ?_
  rintro e w1 ⟨rfl, rfl⟩
  go_wp2_with (refine wpList_st rfl 3 (.tmp 38) (.tmp 36) rfl g 9 rfl (.int .i64 (N : Int)) #[.int .i64 (N : Int)] rfl rfl (by kernel_rfl) (by kernel_rfl) HG.out (Nat.le_of_ble_eq_true rfl) HF.out ?_; intro w9 hst; refine Hid.out ?_)
  refine Lib.hid ?_
  have HE : Hid (GetPost w1 g (getF p y 3) (.returned (.tuple #[])) w9) := Lib.hid ⟨rfl, hst.1, hst.2.1 g (Nat.le_refl _), fun k hk hne => hst.2.2 k hne⟩
  clear hst
  go_wp2_with fail
  exact bodyPost_end (results_none rfl _ _ _) rfl HE.out
set_option maxHeartbeats 2000000 in
set_option maxRecDepth 100000 in
theorem get_8 (p : Pd) (y : Nat → Int) (g b off c : Nat) (w : World) (hg : PdT 46 w g p) (hr : Row8 w b off (fsz 8) y) (hc : fsz 8 ≤ c) (hcm : c ≤ maxLen) :
    Calls Tryd.prog 98 #[.pointer (some ⟨g, 0, none⟩), .int .i64 8, .slice (some ⟨b, off, none⟩) (fsz 8) c] w (GetPost w g (getF p y 8)) := by
  rw [show fsz 8 = 2 from rfl] at *
  have HG := Lib.hid hg
  have hzb := numZ_lt y 0 2 hr.2.2
  have HK := Lib.hid (getNumber_any b off 2 c y w hr (by omega) (by omega) hc hcm)
  obtain ⟨N, hN⟩ : ∃ N, (numZ y 0 2).toNat = N := ⟨_, rfl⟩
  have hNb : N ≤ 65535 := by
    have e : (256 : Int) ^ 2 = 65536 := by decide
    omega
  have HW := Lib.hid (wI N hNb)
  have hw := HW.out
  rw [hN] at HK
  have HF : Hid (putMany (pdC p) 19 #[Value.int .i64 (N : Int)].toList = pdC (getF p y 8)) := Lib.hid (by rw [← hN]; kernel_rfl)
  clear hr hg hzb hN
  go_enter Tryd.func98, Tryd.ntmps98
  go_wp2_with fail
  refine HK.out.mono ?_
  rintro e w1 ⟨rfl, rfl⟩
  go_wp2_with (refine wpList_st rfl 3 (.tmp 69) (.tmp 67) rfl g 19 rfl (.int .i64 (N : Int)) #[.int .i64 (N : Int)] rfl rfl (by kernel_rfl) (by kernel_rfl) HG.out (Nat.le_of_ble_eq_true rfl) HF.out ?_; intro w9 hst; refine Hid.out ?_)
  refine Lib.hid ?_
  have HE : Hid (GetPost w1 g (getF p y 8) (.returned (.tuple #[])) w9) := Lib.hid ⟨rfl, hst.1, hst.2.1 g (Nat.le_refl _), fun k hk hne => hst.2.2 k hne⟩
  clear hst
  go_wp2_with fail
  exact bodyPost_end (results_none rfl _ _ _) rfl HE.out
set_option maxHeartbeats 2000000 in
set_option maxRecDepth 100000 in
theorem get_10 (p : Pd) (y : Nat → Int) (g b off c : Nat) (w : World) (hg : PdT 46 w g p) (hr : Row8 w b off (fsz 10) y) (hc : fsz 10 ≤ c) (hcm : c ≤ maxLen) :
    Calls Tryd.prog 98 #[.pointer (some ⟨g, 0, none⟩), .int .i64 10, .slice (some ⟨b, off, none⟩) (fsz 10) c] w (GetPost w g (getF p y 10)) := by
  rw [show fsz 10 = 4 from rfl] at *
  have HG := Lib.hid hg
  have hzb := numZ_lt y 0 4 hr.2.2
  have HK := Lib.hid (getNumber_any b off 4 c y w hr (by omega) (by omega) hc hcm)
  obtain ⟨N, hN⟩ : ∃ N, (numZ y 0 4).toNat = N := ⟨_, rfl⟩
  have hNb : N ≤ 4294967295 := by
    have e : (256 : Int) ^ 4 = 4294967296 := by decide
    omega
  have HW := Lib.hid (wU4 N hNb)
  have hw := HW.out
  rw [hN] at HK
  have HF : Hid (putMany (pdC p) 28 #[Value.int .u32 (N : Int)].toList = pdC (getF p y 10)) := Lib.hid (by rw [← hN]; kernel_rfl)
  clear hr hg hzb hN
  go_enter Tryd.func98, Tryd.ntmps98
  go_wp2_with fail
  refine HK.out.mono ?_
  rintro e w1 ⟨rfl, rfl⟩
  go_wp2_with (refine wpList_st rfl 39 (.tmp 84) (.tmp 82) rfl g 28 rfl (.int .u32 (N : Int)) #[.int .u32 (N : Int)] rfl rfl (by kernel_rfl) (by kernel_rfl) HG.out (Nat.le_of_ble_eq_true rfl) HF.out ?_; intro w9 hst; refine Hid.out ?_)
  refine Lib.hid ?_
  have HE : Hid (GetPost w1 g (getF p y 10) (.returned (.tuple #[])) w9) := Lib.hid ⟨rfl, hst.1, hst.2.1 g (Nat.le_refl _), fun k hk hne => hst.2.2 k hne⟩
  clear hst
  go_wp2_with fail
  exact bodyPost_end (results_none rfl _ _ _) rfl HE.out
set_option maxHeartbeats 2000000 in
set_option maxRecDepth 100000 in
theorem get_4 (p : Pd) (y : Nat → Int) (g b off c : Nat) (w : World) (hg : PdT 46 w g p) (hr : Row8 w b off (fsz 4) y) (hc : fsz 4 ≤ c) (hcm : c ≤ maxLen) :
    Calls Tryd.prog 98 #[.pointer (some ⟨g, 0, none⟩), .int .i64 4, .slice (some ⟨b, off, none⟩) (fsz 4) c] w (GetPost w g (getF p y 4)) := by
  rw [show fsz 4 = 2 from rfl] at *
  have HG := Lib.hid hg
  clear hr hg
  go_enter Tryd.func98, Tryd.ntmps98
  go_wp2_with fail
  exact bodyPost_end (results_none rfl _ _ _) rfl ⟨rfl, HG.out, Below.refl _ _, fun _ _ _ => rfl⟩
set_option maxHeartbeats 2000000 in
set_option maxRecDepth 100000 in
theorem get_11 (p : Pd) (y : Nat → Int) (g b off c : Nat) (w : World) (hg : PdT 46 w g p) (hr : Row8 w b off (fsz 11) y) (hc : fsz 11 ≤ c) (hcm : c ≤ maxLen) :
    Calls Tryd.prog 98 #[.pointer (some ⟨g, 0, none⟩), .int .i64 11, .slice (some ⟨b, off, none⟩) (fsz 11) c] w (GetPost w g (getF p y 11)) := by
  rw [show fsz 11 = 2 from rfl] at *
  have HG := Lib.hid hg
  clear hr hg
  go_enter Tryd.func98, Tryd.ntmps98
  go_wp2_with fail
  exact bodyPost_end (results_none rfl _ _ _) rfl ⟨rfl, HG.out, Below.refl _ _, fun _ _ _ => rfl⟩
theorem get_any (p : Pd) (y : Nat → Int) (g b off c f : Nat) (hf : f ≤ 14) (w : World) (hg : PdT 46 w g p) (hr : Row8 w b off (fsz f) y) (hc : fsz f ≤ c) (hcm : c ≤ maxLen) :
    Calls Tryd.prog 98 #[.pointer (some ⟨g, 0, none⟩), .int .i64 (f : Int), .slice (some ⟨b, off, none⟩) (fsz f) c] w (GetPost w g (getF p y f)) := by
  rcases (by omega : f = 0 ∨ f = 1 ∨ f = 2 ∨ f = 3 ∨ f = 4 ∨ f = 5 ∨ f = 6 ∨ f = 7 ∨ f = 8 ∨ f = 9 ∨ f = 10 ∨ f = 11 ∨ f = 12 ∨ f = 13 ∨ f = 14) with rfl | rfl | rfl | rfl | rfl | rfl | rfl | rfl | rfl | rfl | rfl | rfl | rfl | rfl | rfl
  · exact get_0 p y g b off c w hg hr hc hcm
  · exact get_1 p y g b off c w hg hr hc hcm
  · exact get_2 p y g b off c w hg hr hc hcm
  · exact get_3 p y g b off c w hg hr hc hcm
  · exact get_4 p y g b off c w hg hr hc hcm
  · exact get_5 p y g b off c w hg hr hc hcm
  · exact get_6 p y g b off c w hg hr hc hcm
  · exact get_7 p y g b off c w hg hr hc hcm
  · exact get_8 p y g b off c w hg hr hc hcm
  · exact get_9 p y g b off c w hg hr hc hcm
  · exact get_10 p y g b off c w hg hr hc hcm
  · exact get_11 p y g b off c w hg hr hc hcm
  · exact get_12 p y g b off c w hg hr hc hcm
  · exact get_13 p y g b off c w hg hr hc hcm
  · exact get_14 p y g b off c w hg hr hc hcm
end Go.Proofs.YtccoicjmmeoggaaDoor

/- bytes.Equal and bytes.HasPrefix. Each theorem states its conditions. -/
namespace Go.Proofs.YtccoicjmmeoggaaDoor
open Go.RowKit
set_option linter.unusedVariables false

def bsL (z : Nat → Int) (n : Nat) : List UInt8 := (List.range n).map fun j => UInt8.ofNat (z j).toNat
def bsS (z : Nat → Int) (n : Nat) : ByteArray := ⟨(bsL z n).toArray⟩
theorem bsL_len (z : Nat → Int) (n : Nat) : (bsL z n).length = n := by simp [bsL]
theorem bsL_at (z : Nat → Int) (hz : ∀ j, 0 ≤ z j ∧ z j ≤ 255) (n j : Nat) (h : j < (bsL z n).length) : (((bsL z n)[j]).toNat : Int) = z j := by
  have := hz j
  simp [bsL]
  omega
theorem conv_row {w : World} {b off n : Nat} {z : Nat → Int} (h : Row8 w b off n z) (c : Nat) : (convert 22 9 (.slice (some ⟨b, off, none⟩) n c)).run Tryd.prog w = .ok (.string (bsS z n)) w := by
  have := run_convert_bytes_back (P := Tryd.prog) w 22 9 5 ⟨b, off, none⟩ c (bsL z n) Tryd.underlying22 Tryd.underlying5 Tryd.underlying9 (fun j hj => by
    rw [add_none, bsL_at z h.2.2 n j hj]
    exact h.2.1 j (by rwa [bsL_len] at hj))
  rw [bsL_len] at this
  exact this
theorem bsS_eq {z z' : Nat → Int} {n : Nat} (h : ∀ j, j < n → z j = z' j) : bsS z n = bsS z' n := by
  unfold bsS bsL
  congr 2
  apply List.map_congr_left
  intro j hj
  rw [h j (by simpa using hj)]
theorem bsS_inj {z z' : Nat → Int} {n : Nat} (hz : ∀ j, 0 ≤ z j ∧ z j ≤ 255) (hz' : ∀ j, 0 ≤ z' j ∧ z' j ≤ 255) (h : bsS z n = bsS z' n) : ∀ j, j < n → z j = z' j := by
  intro j hj
  have e : bsL z n = bsL z' n := by
    have := congrArg (fun s : ByteArray => s.data.toList) h
    simpa [bsS] using this
  have h1 := bsL_at z hz n j (by rw [bsL_len]; exact hj)
  have h2 := bsL_at z' hz' n j (by rw [bsL_len]; exact hj)
  rw [← h1, ← h2]
  simp only [e]
/-- the first n bytes are the same -/
def eqB (z z' : Nat → Int) (n : Nat) : Bool := bsL z n == bsL z' n
theorem eqB_list (z z' : Nat → Int) (n : Nat) : ((bsS z n).toList == (bsS z' n).toList) = eqB z z' n := by
  rw [ByteArray.toList_eq, ByteArray.toList_eq]
  rfl
theorem eqB_iff {z z' : Nat → Int} {n : Nat} (hz : ∀ j, 0 ≤ z j ∧ z j ≤ 255) (hz' : ∀ j, 0 ≤ z' j ∧ z' j ≤ 255) : eqB z z' n = true ↔ ∀ j, j < n → z j = z' j := by
  unfold eqB
  rw [beq_iff_eq]
  constructor
  · intro e
    exact bsS_inj hz hz' (by unfold bsS; rw [e])
  · intro h
    have := bsS_eq h
    unfold bsS at this
    have h2 := congrArg (fun s : ByteArray => s.data.toList) this
    simpa using h2
theorem equal_any (b off n c g off' c' : Nat) (z z' : Nat → Int) (r : Bool) (w : World) (h : Row8 w b off n z) (h' : Row8 w g off' n z') (hr : eqB z z' n = r) :
    Calls Tryd.prog 104 #[.slice (some ⟨b, off, none⟩) n c, .slice (some ⟨g, off', none⟩) n c'] w fun e w' => e = .returned (.bool r) ∧ w = w' := by
  have h1 := conv_row h c
  have h2 := conv_row h' c'
  rw [← eqB_list] at hr
  obtain ⟨s, hs⟩ : ∃ s, bsS z n = s := ⟨_, rfl⟩
  obtain ⟨t, ht⟩ : ∃ t, bsS z' n = t := ⟨_, rfl⟩
  rw [hs] at h1 hr
  rw [ht] at h2 hr
  have HR := Lib.hid hr
  clear h h' hs ht hr
  obtain ⟨q, hq⟩ : ∃ q, (s.toList == t.toList) = q := ⟨_, rfl⟩
  have HQ : Hid (q = r) := Lib.hid (by rw [← hq]; exact HR.out)
  clear HR
  go_enter Tryd.func104, Tryd.ntmps104
  go_wp2_with fail
  go_ret
  exact ⟨by rw [← HQ.out]; rfl, rfl⟩
theorem starts_any (b off n c g c' : Nat) (z z' : Nat → Int) (r : Bool) (w : World) (h : Row8 w b off n z) (h' : Row8 w g 0 8 z') (hr : eqB z z' 8 = r) (hn : 8 ≤ n) (hc : n ≤ c) (hcm : c ≤ 9223372036854775807) :
    Calls Tryd.prog 96 #[.slice (some ⟨b, off, none⟩) n c, .slice (some ⟨g, 0, none⟩) 8 c'] w fun e w' => e = .returned (.bool r) ∧ w = w' := by
  have HE := Lib.hid (equal_any b off 8 c g 0 c' z z' r w (h.cut 8 hn) h' hr)
  clear h h' hr
  go_enter Tryd.func96, Tryd.ntmps96
  go_wp2_with fail
  refine HE.out.mono ?_
  rintro e w1 ⟨rfl, rfl⟩
  go_wp2_with fail
  go_ret
  exact ⟨rfl, rfl⟩
end Go.Proofs.YtccoicjmmeoggaaDoor

/- pdu.Write writes a packet. Each theorem states its conditions. -/
namespace Go.Proofs.YtccoicjmmeoggaaDoor
open Go.RowKit
set_option linter.unusedVariables false

theorem pdC_0 (p : Pd) : (pdC p)[0]? = some (.int .u8 p.kd) := rfl
theorem pdC_46 (p : Pd) : (pdC p)[46]? = some (.slice p.A p.m p.c) := rfl
theorem sz_le (L : Nat → It) (m m0 : Nat) (h : JEnds L m m0) : sz L m0 ≤ 1492 := by
  rcases Nat.eq_zero_or_pos m0 with h0 | h0
  · subst h0; simp [sz]
  · have := h.2.1 (m0 - 1) (by omega)
    unfold bad at this
    rw [show m0 - 1 + 1 = m0 by omega] at this
    omega
/-- a packet that is written: where its TLVs lie -/
def PdIn (w : World) (p : Pd) (L : Nat → It) : Prop := RdT w p.A p.m L ∧ p.m ≤ p.c ∧ p.c ≤ 9223372036854775807
set_option maxRecDepth 100000 in
theorem write_5 (p : Pd) (hk : cls p.kd = 5) (w : World) : Calls Tryd.prog 28 #[.agg (pdC p)] w fun e w' => e = .returned (.tuple #[.slice none 0 0, .int .i64 1]) ∧ Below w.heap.size w w' := by
  have a0 := pdC_0 p
  have HF := Lib.hid (fields_none p.kd hk)
  have HB := Lib.hid ((bself w).alloc (Nat.le_refl _) (.cells (pdC p) 46))
  clear hk
  go_enter Tryd.func28, Tryd.ntmps28
  go_wp2_with fail
  refine (HF.out _).mono ?_
  rintro e w1 ⟨rfl, rfl⟩
  go_wp2_with fail
  go_ret2
  exact ⟨rfl, HB.out⟩
set_option maxHeartbeats 4000000 in
set_option maxRecDepth 100000 in
theorem write_nofit (p : Pd) (q : Nat) (hk : cls p.kd = q) (hq : q ≤ 4) (hp : PdOk p) (hfit : fitP p q = false) (w : World) : Calls Tryd.prog 28 #[.agg (pdC p)] w fun e w' => e = .returned (.tuple #[.slice none 0 0, .int .i64 1]) ∧ Below w.heap.size w w' := by
  have a0 := pdC_0 p
  have a46 := pdC_46 p
  have HF := Lib.hid (fields_any p.kd q hk hq)
  have hlen := fl_len q hq
  have HHD := Lib.hid (hdN_bd q hq)
  obtain ⟨n, hn⟩ : ∃ n, (flC q).length = n := ⟨_, rfl⟩
  have HN := Lib.hid hn
  rw [hn] at hlen HF
  have hn0 : ((n : Int) == 0) = false := by simp; omega
  have HX0 := Lib.hid (heap_alloc_new w (.cells (pdC p) 46))
  have HB0 := Lib.hid ((bself w).alloc (Nat.le_refl _) (.cells (pdC p) 46))
  have hs0 : (w.alloc (.cells (pdC p) 46)).heap.size = w.heap.size + 1 := by simp
  have HP := Lib.hid hp
  have HK := Lib.hid hk
  have HQ := Lib.hid hq
  have HFIT := Lib.hid hfit
  clear hfit
  clear hn hp hk hq
  go_enter Tryd.func28, Tryd.ntmps28
  go_wp2_with fail
  obtain ⟨W1, hW1⟩ : ∃ W1, w.alloc (.cells (pdC p) 46) = W1 := ⟨_, rfl⟩
  rw [hW1] at HX0 HB0 hs0 ⊢
  clear hW1
  refine (HF.out W1).mono ?_
  rintro e w1 ⟨rfl, hf1, hb1⟩
  have HFl : Hid (FlAt w1 W1.heap.size q) := Lib.hid hf1
  have HPd : Hid (PdAt w1 w.heap.size p) := Lib.hid ((hb1.block _ (by omega)).trans HX0.out)
  have HB1 : Hid (Below w.heap.size w w1) := Lib.hid (HB0.out.trans (hb1.mono (by omega)))
  have hs1 := hb1.size
  clear hf1 hb1 HX0
  obtain ⟨g1, hg1⟩ : ∃ g1, W1.heap.size = g1 := ⟨_, rfl⟩
  rw [hg1] at HFl hs0 hs1 ⊢
  clear hg1
  have HAF := Lib.hid (allFit_any p w.heap.size g1 q HQ.out w1 HPd.out HFl.out)
  have c46 : w1.cell? ⟨w.heap.size, 46, none⟩ = some (.slice p.A p.m p.c) := (HPd.out.cell 46).trans a46
  have c0 : w1.cell? ⟨w.heap.size, 0, none⟩ = some (.int .u8 p.kd) := (HPd.out.cell 0).trans a0
  have HC0 := Lib.hid c0
  rw [HN.out] at HAF
  rw [HFIT.out] at HAF
  clear HB0 hs0 HF a0 a46
  go_wp2_with fail
  refine HAF.out.mono ?_
  rintro e w2 ⟨rfl, rfl⟩
  go_wp2_with fail
  go_ret2
  exact ⟨rfl, HB1.out⟩
set_option maxHeartbeats 4000000 in
set_option maxRecDepth 100000 in
theorem write_join (p : Pd) (q : Nat) (hk : cls p.kd = q) (hq : q ≤ 4) (hp : PdOk p) (hfit : fitP p q = true) (L : Nat → It) (m0 : Nat) (hm : JEnds L p.m m0) (hlt : m0 < p.m) (w : World) (hin : PdIn w p L) : Calls Tryd.prog 28 #[.agg (pdC p)] w fun e w' => e = .returned (.tuple #[.slice none 0 0, .int .i64 2]) ∧ Below w.heap.size w w' := by
  have a0 := pdC_0 p
  have a46 := pdC_46 p
  have HF := Lib.hid (fields_any p.kd q hk hq)
  have hlen := fl_len q hq
  have HHD := Lib.hid (hdN_bd q hq)
  obtain ⟨n, hn⟩ : ∃ n, (flC q).length = n := ⟨_, rfl⟩
  have HN := Lib.hid hn
  rw [hn] at hlen HF
  have hn0 : ((n : Int) == 0) = false := by simp; omega
  have HX0 := Lib.hid (heap_alloc_new w (.cells (pdC p) 46))
  have HB0 := Lib.hid ((bself w).alloc (Nat.le_refl _) (.cells (pdC p) 46))
  have hs0 : (w.alloc (.cells (pdC p) 46)).heap.size = w.heap.size + 1 := by simp
  have HP := Lib.hid hp
  have HK := Lib.hid hk
  have HQ := Lib.hid hq
  have HFIT := Lib.hid hfit
  have HM := Lib.hid hm
  have HIN := Lib.hid hin
  clear hfit hm hin
  clear hn hp hk hq
  go_enter Tryd.func28, Tryd.ntmps28
  go_wp2_with fail
  obtain ⟨W1, hW1⟩ : ∃ W1, w.alloc (.cells (pdC p) 46) = W1 := ⟨_, rfl⟩
  rw [hW1] at HX0 HB0 hs0 ⊢
  clear hW1
  refine (HF.out W1).mono ?_
  rintro e w1 ⟨rfl, hf1, hb1⟩
  have HFl : Hid (FlAt w1 W1.heap.size q) := Lib.hid hf1
  have HPd : Hid (PdAt w1 w.heap.size p) := Lib.hid ((hb1.block _ (by omega)).trans HX0.out)
  have HB1 : Hid (Below w.heap.size w w1) := Lib.hid (HB0.out.trans (hb1.mono (by omega)))
  have hs1 := hb1.size
  clear hf1 hb1 HX0
  obtain ⟨g1, hg1⟩ : ∃ g1, W1.heap.size = g1 := ⟨_, rfl⟩
  rw [hg1] at HFl hs0 hs1 ⊢
  clear hg1
  have HAF := Lib.hid (allFit_any p w.heap.size g1 q HQ.out w1 HPd.out HFl.out)
  have c46 : w1.cell? ⟨w.heap.size, 46, none⟩ = some (.slice p.A p.m p.c) := (HPd.out.cell 46).trans a46
  have c0 : w1.cell? ⟨w.heap.size, 0, none⟩ = some (.int .u8 p.kd) := (HPd.out.cell 0).trans a0
  have HC0 := Lib.hid c0
  rw [HN.out] at HAF
  rw [HFIT.out] at HAF
  clear HB0 hs0 HF a0 a46
  go_wp2_with fail
  refine HAF.out.mono ?_
  rintro e w2 ⟨rfl, rfl⟩
  go_wp2_with fail
  have HJ := Lib.hid (join_any p.A p.m p.c m0 L w1 (HIN.out.1.below HB1.out) HIN.out.2.1 HIN.out.2.2 HM.out)
  refine HJ.out.mono ?_
  clear HJ
  rintro e w2 (⟨h, _⟩ | ⟨_, rfl, hb2⟩)
  · omega
  have HB2 := Lib.hid (HB1.out.trans (hb2.mono HB1.out.size))
  clear hb2
  go_wp2_with fail
  go_ret2
  exact ⟨rfl, HB2.out⟩
set_option maxHeartbeats 4000000 in
set_option maxRecDepth 100000 in
theorem write_long (p : Pd) (q : Nat) (hk : cls p.kd = q) (hq : q ≤ 4) (hp : PdOk p) (hfit : fitP p q = true) (L : Nat → It) (hm : JEnds L p.m p.m) (hlong : 1492 < hdN q + sz L p.m) (w : World) (hin : PdIn w p L) : Calls Tryd.prog 28 #[.agg (pdC p)] w fun e w' => e = .returned (.tuple #[.slice none 0 0, .int .i64 2]) ∧ Below w.heap.size w w' := by
  have a0 := pdC_0 p
  have a46 := pdC_46 p
  have HF := Lib.hid (fields_any p.kd q hk hq)
  have hlen := fl_len q hq
  have HHD := Lib.hid (hdN_bd q hq)
  obtain ⟨n, hn⟩ : ∃ n, (flC q).length = n := ⟨_, rfl⟩
  have HN := Lib.hid hn
  rw [hn] at hlen HF
  have hn0 : ((n : Int) == 0) = false := by simp; omega
  have HX0 := Lib.hid (heap_alloc_new w (.cells (pdC p) 46))
  have HB0 := Lib.hid ((bself w).alloc (Nat.le_refl _) (.cells (pdC p) 46))
  have hs0 : (w.alloc (.cells (pdC p) 46)).heap.size = w.heap.size + 1 := by simp
  have HP := Lib.hid hp
  have HK := Lib.hid hk
  have HQ := Lib.hid hq
  have HFIT := Lib.hid hfit
  have HM := Lib.hid hm
  have HIN := Lib.hid hin
  clear hfit hm hin
  clear hn hp hk hq
  go_enter Tryd.func28, Tryd.ntmps28
  go_wp2_with fail
  obtain ⟨W1, hW1⟩ : ∃ W1, w.alloc (.cells (pdC p) 46) = W1 := ⟨_, rfl⟩
  rw [hW1] at HX0 HB0 hs0 ⊢
  clear hW1
  refine (HF.out W1).mono ?_
  rintro e w1 ⟨rfl, hf1, hb1⟩
  have HFl : Hid (FlAt w1 W1.heap.size q) := Lib.hid hf1
  have HPd : Hid (PdAt w1 w.heap.size p) := Lib.hid ((hb1.block _ (by omega)).trans HX0.out)
  have HB1 : Hid (Below w.heap.size w w1) := Lib.hid (HB0.out.trans (hb1.mono (by omega)))
  have hs1 := hb1.size
  clear hf1 hb1 HX0
  obtain ⟨g1, hg1⟩ : ∃ g1, W1.heap.size = g1 := ⟨_, rfl⟩
  rw [hg1] at HFl hs0 hs1 ⊢
  clear hg1
  have HAF := Lib.hid (allFit_any p w.heap.size g1 q HQ.out w1 HPd.out HFl.out)
  have c46 : w1.cell? ⟨w.heap.size, 46, none⟩ = some (.slice p.A p.m p.c) := (HPd.out.cell 46).trans a46
  have c0 : w1.cell? ⟨w.heap.size, 0, none⟩ = some (.int .u8 p.kd) := (HPd.out.cell 0).trans a0
  have HC0 := Lib.hid c0
  rw [HN.out] at HAF
  rw [HFIT.out] at HAF
  clear HB0 hs0 HF a0 a46
  go_wp2_with fail
  refine HAF.out.mono ?_
  rintro e w2 ⟨rfl, rfl⟩
  go_wp2_with fail
  have HJ := Lib.hid (join_any p.A p.m p.c p.m L w1 (HIN.out.1.below HB1.out) HIN.out.2.1 HIN.out.2.2 HM.out)
  refine HJ.out.mono ?_
  clear HJ
  rintro e w2 (⟨_, gT, cT, rfl, hgT, hoT, hb2⟩ | ⟨h, _⟩)
  rotate_left
  · omega
  have HB2 := Lib.hid (HB1.out.trans (hb2.mono HB1.out.size))
  have HFl2 := Lib.hid (HFl.out.below hb2)
  have HPd2 := Lib.hid (HPd.out.below hb2 HPd.out.lt)
  have HT2 := Lib.hid hoT
  have HAH := Lib.hid (fun W h => ahead_any g1 q HQ.out W h)
  rw [HN.out] at HAH
  have hsz := sz_le L p.m p.m HM.out
  have HHD' := HHD.out
  obtain ⟨S, hS⟩ : ∃ S, sz L p.m = S := ⟨_, rfl⟩
  have HSS := Lib.hid hS
  obtain ⟨H, hH⟩ : ∃ H, hdN q = H := ⟨_, rfl⟩
  have HHH := Lib.hid hH
  rw [hS] at hsz HT2
  rw [hH] at HHD' HAH
  rw [hS, hH] at hlong
  rw [hS]
  clear hb2 hS hH hoT c46 HPd HFl HAF
  go_wp2_with fail
  refine (HAH.out _ HFl2.out).mono ?_
  rintro e w3 ⟨rfl, rfl⟩
  go_wp2_with fail
  go_ret2
  exact ⟨rfl, HB2.out⟩
set_option maxHeartbeats 4000000 in
set_option maxRecDepth 100000 in
theorem write_ok (p : Pd) (q : Nat) (hk : cls p.kd = q) (hq : q ≤ 4) (hp : PdOk p) (hfit : fitP p q = true) (L : Nat → It) (hm : JEnds L p.m p.m) (hlong : hdN q + sz L p.m ≤ 1492) (w : World) (hin : PdIn w p L) : Calls Tryd.prog 28 #[.agg (pdC p)] w fun e w' => ∃ v, e = .returned (.tuple #[v, .int .i64 0]) ∧ OwnB w' w.heap.size v (hdN q + sz L p.m) (pdZ p q L) ∧ Below w.heap.size w w' := by
  have a0 := pdC_0 p
  have a46 := pdC_46 p
  have HF := Lib.hid (fields_any p.kd q hk hq)
  have hlen := fl_len q hq
  have HHD := Lib.hid (hdN_bd q hq)
  obtain ⟨n, hn⟩ : ∃ n, (flC q).length = n := ⟨_, rfl⟩
  have HN := Lib.hid hn
  rw [hn] at hlen HF
  have hn0 : ((n : Int) == 0) = false := by simp; omega
  have HX0 := Lib.hid (heap_alloc_new w (.cells (pdC p) 46))
  have HB0 := Lib.hid ((bself w).alloc (Nat.le_refl _) (.cells (pdC p) 46))
  have hs0 : (w.alloc (.cells (pdC p) 46)).heap.size = w.heap.size + 1 := by simp
  have HP := Lib.hid hp
  have HK := Lib.hid hk
  have HQ := Lib.hid hq
  have HFIT := Lib.hid hfit
  have HM := Lib.hid hm
  have HIN := Lib.hid hin
  clear hfit hm hin
  clear hn hp hk hq
  go_enter Tryd.func28, Tryd.ntmps28
  go_wp2_with fail
  obtain ⟨W1, hW1⟩ : ∃ W1, w.alloc (.cells (pdC p) 46) = W1 := ⟨_, rfl⟩
  rw [hW1] at HX0 HB0 hs0 ⊢
  clear hW1
  refine (HF.out W1).mono ?_
  rintro e w1 ⟨rfl, hf1, hb1⟩
  have HFl : Hid (FlAt w1 W1.heap.size q) := Lib.hid hf1
  have HPd : Hid (PdAt w1 w.heap.size p) := Lib.hid ((hb1.block _ (by omega)).trans HX0.out)
  have HB1 : Hid (Below w.heap.size w w1) := Lib.hid (HB0.out.trans (hb1.mono (by omega)))
  have hs1 := hb1.size
  clear hf1 hb1 HX0
  obtain ⟨g1, hg1⟩ : ∃ g1, W1.heap.size = g1 := ⟨_, rfl⟩
  rw [hg1] at HFl hs0 hs1 ⊢
  clear hg1
  have HAF := Lib.hid (allFit_any p w.heap.size g1 q HQ.out w1 HPd.out HFl.out)
  have c46 : w1.cell? ⟨w.heap.size, 46, none⟩ = some (.slice p.A p.m p.c) := (HPd.out.cell 46).trans a46
  have c0 : w1.cell? ⟨w.heap.size, 0, none⟩ = some (.int .u8 p.kd) := (HPd.out.cell 0).trans a0
  have HC0 := Lib.hid c0
  rw [HN.out] at HAF
  rw [HFIT.out] at HAF
  clear HB0 hs0 HF a0 a46
  go_wp2_with fail
  refine HAF.out.mono ?_
  rintro e w2 ⟨rfl, rfl⟩
  go_wp2_with fail
  have HJ := Lib.hid (join_any p.A p.m p.c p.m L w1 (HIN.out.1.below HB1.out) HIN.out.2.1 HIN.out.2.2 HM.out)
  refine HJ.out.mono ?_
  clear HJ
  rintro e w2 (⟨_, gT, cT, rfl, hgT, hoT, hb2⟩ | ⟨h, _⟩)
  rotate_left
  · omega
  have HB2 := Lib.hid (HB1.out.trans (hb2.mono HB1.out.size))
  have HFl2 := Lib.hid (HFl.out.below hb2)
  have HPd2 := Lib.hid (HPd.out.below hb2 HPd.out.lt)
  have HT2 := Lib.hid hoT
  have HAH := Lib.hid (fun W h => ahead_any g1 q HQ.out W h)
  rw [HN.out] at HAH
  have hsz := sz_le L p.m p.m HM.out
  have HHD' := HHD.out
  obtain ⟨S, hS⟩ : ∃ S, sz L p.m = S := ⟨_, rfl⟩
  have HSS := Lib.hid hS
  obtain ⟨H, hH⟩ : ∃ H, hdN q = H := ⟨_, rfl⟩
  have HHH := Lib.hid hH
  rw [hS] at hsz HT2
  rw [hH] at HHD' HAH
  rw [hS, hH] at hlong
  rw [hS]
  clear hb2 hS hH hoT c46 HPd HFl HAF
  go_wp2_with fail
  refine (HAH.out _ HFl2.out).mono ?_
  rintro e w3 ⟨rfl, rfl⟩
  go_wp2_with fail
  obtain ⟨Wn, hWn⟩ : ∃ Wn, H + S = Wn := ⟨_, rfl⟩
  have e1 : (H : Int) + (S : Int) = (Wn : Int) := by omega
  have hWl : Wn ≤ 1492 := by omega
  have HWn := Lib.hid hWn
  rw [e1]
  clear e1 hWn c0
  have HHead := Lib.hid (head_any p.kd H HP.out.1.1 (by omega))
  refine wp_region_held_drew (S := fun w' => w'.cell? ⟨w.heap.size, 0, none⟩ = some (.int .u8 p.kd)) (by kernel_rfl) ((HPd2.out.cell 0).trans (pdC_0 p)) (fun hS0 => ?_)
  refine takeY (i := 0) (some 38) (v := .pointer (some ⟨w.heap.size, 0, none⟩)) rfl rfl (by kernel_rfl) (by kernel_rfl) (by kernel_rfl) (fun _ _ _ h => h) (by rfl) (fun w' hS => by go_simp) hS0 ?_
  simp only [Act.put, List.setIfInBounds_toArray, List.set_cons_zero, List.set_cons_succ]
  refine takeY (i := 1) (some 39) (v := .int .u8 p.kd) rfl rfl (by kernel_rfl) (by kernel_rfl) (by kernel_rfl) (fun _ _ _ h => h) (by rfl) (fun w' hS => by go_simp) hS0 ?_
  simp only [Act.put, List.setIfInBounds_toArray, List.set_cons_zero, List.set_cons_succ]
  refine takeY (i := 2) (some 40) (v := .slice (some ⟨g1, 0, none⟩) n n) rfl rfl (by kernel_rfl) (by kernel_rfl) (by kernel_rfl) (fun _ _ _ h => h) (by rfl) (fun w' hS => by go_simp) hS0 ?_
  simp only [Act.put, List.setIfInBounds_toArray, List.set_cons_zero, List.set_cons_succ]
  refine takeC (i := 3) (some 41) 54 #[.slice (some ⟨g1, 0, none⟩) n n] (.int .i64 (H : Int)) (R := fun w' => w' = w2.drew) rfl rfl (by kernel_rfl) (by rfl) (by go_simp) ((HAH.out w2.drew HFl2.out).mono fun e w' h => ⟨h.1, h.2.symm⟩) (fun w' h => by rw [h]; exact hS0) (fun w3 h3 hS3 => ?_)
  subst h3
  simp only [Act.put, List.setIfInBounds_toArray, List.set_cons_zero, List.set_cons_succ]
  refine takeCE (i := 4) (some 42) 55 #[.int .u8 p.kd, .int .i64 (H : Int)] (R := fun v w' => OwnB w' w2.heap.size v 8 (headZ p.kd H) ∧ Below w2.heap.size w2 w' ∧ w'.cell? ⟨w.heap.size, 0, none⟩ = some (.int .u8 p.kd)) rfl rfl (by kernel_rfl) (by rfl) (by go_simp) ((HHead.out w2.drew).mono fun e w' ⟨he, ho, hb⟩ => ⟨_, he, ho.ownB (Nat.le_refl _), (bself w2).drew.trans hb, (hb.cell HPd2.out.lt).trans hS3⟩) (fun v w' h => h.2.2) (fun v8 w3 h3 hS3 => ?_)
  obtain ⟨ho3, hb3, _⟩ := h3
  simp only [Act.put, List.setIfInBounds_toArray, List.set_cons_zero, List.set_cons_succ]
  refine takeY (i := 5) (some 8) (v := v8) rfl rfl (by kernel_rfl) (by kernel_rfl) (by kernel_rfl) (fun _ _ _ h => h) (by rfl) (fun w' hS => by go_simp) hS3 ?_
  simp only [Act.put, List.setIfInBounds_toArray, List.set_cons_zero, List.set_cons_succ]
  refine wpAnyH_done (by kernel_rfl) ?_ _
  have HO3 : Hid (OwnB w3 w2.heap.size v8 (accN q 0) (accZ p Wn q 0)) := Lib.hid (by show OwnB w3 w2.heap.size v8 8 (headZ p.kd (hdN q)); rw [HHH.out]; exact ho3)
  have HB3 := Lib.hid hb3
  clear ho3 hb3 hS3 hS0
  go_wp2_with fail
  go_loopw [8, 45] (fun v t wr => ∃ i : Nat, i ≤ n ∧ t = .int .i64 i ∧ Hid (OwnB wr w2.heap.size v (accN q i) (accZ p Wn q i)) ∧ Hid (Below w2.heap.size w2 wr)) (fun _ t _ => n - (intOf t).toNat)
  case atStart => exact ⟨0, Nat.zero_le _, rfl, HO3, HB3⟩
  case round =>
    clear HO3 HB3
    obtain ⟨i, hi, rfl, HO, HW⟩ := hrel
    by_cases hlt : i < n
    · have ci := (HFl2.out.below HW.out).cell (i := i) (by rw [HN.out]; exact hlt)
      have hf := fAt_le q i HQ.out
      have hfit := fitP_at HFIT.out i (by rw [HN.out]; exact hlt)
      have HPut := Lib.hid (putF_any p HP.out w.heap.size Wn (fAt q i) (by omega) hf hfit _ (HPd2.out.below HW.out HPd2.out.lt))
      have hfz := fsz_bd (fAt q i)
      have hab := accN_bd q i
      have HS1 : Hid (vals (accZ p Wn q i) (accN q i) ++ vals (fZ p Wn (fAt q i)) (fsz (fAt q i)) = vals (accZ p Wn q (i + 1)) (accN q (i + 1))) := Lib.hid (vals_cat _ _ _ _)
      have HS2 : Hid (accN q (i + 1) = accN q i + fsz (fAt q i)) := Lib.hid rfl
      have HS3 := Lib.hid (accZ_bd p Wn q HQ.out HP.out (i + 1))
      obtain ⟨f, hf'⟩ : ∃ f, fAt q i = f := ⟨_, rfl⟩
      rw [hf'] at ci HPut HS1 HS2 hfz
      clear hf' hf hfit
      have HO1 := Lib.hid HO.out.1
      obtain ⟨an, han⟩ : ∃ an, accN q i = an := ⟨_, rfl⟩
      rw [han] at HO1 HS1 HS2 hab
      clear HO han
      go_wp2_with fail
      refine HPut.out.mono ?_
      rintro e wA ⟨ad, cA, rfl, hrd, hbA⟩
      have HRD := Lib.hid hrd
      have HBA := Lib.hid (HW.out.trans (hbA.mono HW.out.size))
      have HOA := Lib.hid (ownsRow_below' HO1.out hbA)
      clear hrd hbA ci
      go_wp2_with (first
        | (at_builtin; refine app_s rfl (.tmp 49) (.tmp 52) rfl w2 u8 an (vals (accZ p Wn q i) an) rfl HOA.out HBA.out ad (fsz f) cA (vals (fZ p Wn f) (fsz f)) rfl (vals_len _ _) (rd_newsB HRD.out) (vals_one _ _) (by omega) ?_; intro v2 wB ho2 hb2 hs2 hk2))
      have HOB : Hid (OwnB wB w2.heap.size v2 (accN q (i + 1)) (accZ p Wn q (i + 1))) := Lib.hid ⟨by rw [HS2.out]; have := ho2; rw [HS1.out, HS2.out] at this; exact this, HS3.out⟩
      have HBB := Lib.hid hb2
      clear ho2 hb2 hs2 hk2
      go_wp2_with fail
      go_roundw
      case rel => exact ⟨i + 1, by omega, by go_num, HOB, HBB⟩
      case measure => simp only [intOf]; omega
    · obtain rfl : i = n := by omega
      have HOH : Hid (OwnB wr w2.heap.size u8 H (accZ p Wn q i)) := Lib.hid (by have := HO.out; rw [← HHH.out]; unfold hdN; rw [HN.out]; exact this)
      have HTr := Lib.hid (HT2.out.below HW.out HT2.out.lt)
      have HV : Hid (vals (accZ p Wn q i) H ++ vals (J L p.m) S = vals (wZ p q L) (H + S)) := Lib.hid (by
        rw [vals_cat]
        unfold wZ
        rw [HSS.out, HHH.out, HN.out, HWn.out])
      have HWB : Hid (∀ j, 0 ≤ wZ p q L j ∧ wZ p q L j ≤ 255) := Lib.hid (cat_bd (accZ_bd p _ q HQ.out HP.out _) HT2.out.2)
      clear HO
      go_wp2_with (first
        | (at_builtin; refine app_s rfl (.tmp 55) (.tmp 56) rfl w2 u8 H (vals (accZ p Wn q i) H) rfl HOH.out.1 HW.out ⟨gT, 0, none⟩ S cT (vals (J L p.m) S) rfl (vals_len _ _) (rd_newsB HTr.out.rd) (vals_one _ _) (by omega) ?_; intro v2 wB ho2 hb2 hs2 hk2; have c0 : wB.cell? ⟨w.heap.size, 0, none⟩ = some (.int .u8 p.kd) := (((HPd2.out.below hb2 HPd2.out.lt).cell 0).trans (pdC_0 p)); have HO2 := Lib.hid ho2; have HBB := Lib.hid hb2; have HI := Lib.hid (isState_any p.kd wB); clear ho2 hb2 hs2 hk2))
      refine HI.out.mono ?_
      rintro e w5 ⟨rfl, rfl⟩
      have HOW : Hid (OwnB wB w2.heap.size v2 Wn (wZ p q L)) := Lib.hid ⟨by have := HO2.out; rw [HV.out, HWn.out] at this; exact this, HWB.out⟩
      have HEnd : Hid (hdN q + sz L p.m = Wn) := Lib.hid (by rw [HSS.out, HHH.out, HWn.out])
      by_cases hq2 : q = 2
      · have hd : decide (cls p.kd = 2) = true := by rw [HK.out]; simpa using hq2
        have HPZ : Hid (pdZ p q L = sgZ (wZ p q L) Wn) := Lib.hid (by unfold pdZ; rw [if_pos hq2, HEnd.out])
        have h27 : 27 ≤ Wn := by
          have h1 : hdN q = 27 := by rw [hq2]; rfl
          have h2 := HHH.out
          have h3 := HWn.out
          omega
        obtain ⟨gW, cW, rfl, hgW, hoW⟩ := own_ofB HOW.out (by omega)
        have HSg := Lib.hid (sign_any gW Wn cW (wZ p q L) w2 wB hoW h27 hWl HBB.out hgW)
        have HgW := Lib.hid hgW
        rw [hd]
        clear hoW HO2 HOW hgW hq2 hd
        go_wp2_with fail
        refine HSg.out.mono ?_
        rintro e w6 ⟨rfl, ho6, hb6⟩
        have HO6 := Lib.hid ho6
        have HB6 := Lib.hid (HB2.out.trans (hb6.mono HB2.out.size))
        clear ho6 hb6 c0
        go_wp2_with fail
        go_ret2
        exact ⟨_, rfl, by rw [HEnd.out, HPZ.out]; exact HO6.out.ownB (by have := HgW.out; have := HB2.out.size; omega), HB6.out⟩
      · have hd : decide (cls p.kd = 2) = false := by rw [HK.out]; simpa using hq2
        have HPZ : Hid (pdZ p q L = wZ p q L) := Lib.hid (by unfold pdZ; rw [if_neg hq2])
        have HB6 := Lib.hid (HB2.out.trans (HBB.out.mono HB2.out.size))
        rw [hd]
        clear hq2 hd HO2
        go_wp2_with fail
        go_ret2
        exact ⟨_, rfl, by rw [HEnd.out, HPZ.out]; exact ⟨ownsRow_mono HOW.out.1 HB2.out.size, HOW.out.2⟩, HB6.out⟩
end Go.Proofs.YtccoicjmmeoggaaDoor

/- The document's example of pdu, run: waymarklaw06.awake returns true. No condition. -/
namespace Go.Proofs.YtccoicjmmeoggaaDoor
open Go.RowKit
set_option linter.unusedVariables false

theorem bdrewN {B : Nat} {a w : World} (h : Below B a w) (m : Nat) : Below B a (w.drewN m) := ⟨h.os, h.tape, h.output, h.size, h.block⟩
end Go.Proofs.YtccoicjmmeoggaaDoor

/- pdu.Write, all ways told as one. Each theorem states its conditions. -/
namespace Go.Proofs.YtccoicjmmeoggaaDoor
open Go.RowKit
set_option linter.unusedVariables false

/-- n bytes and a number -/
def WrP (w : World) (n : Nat) (X : Int) (z : Nat → Int) (e : Ending) (w' : World) : Prop :=
  ∃ A c, e = .returned (.tuple #[.slice A n c, .int .i64 X]) ∧ Rd w' A n z ∧ n ≤ c ∧ c ≤ maxLen ∧ Below w.heap.size w w' ∧ (X = 0 → ∃ g, A = some ⟨g, 0, none⟩ ∧ w.heap.size ≤ g ∧ Own8 w' g n c z)
/-- what Write says, how many bytes, which -/
def wrX (p : Pd) (L : Nat → It) (m0 : Nat) : Int := if cls p.kd = 5 ∨ fitP p (cls p.kd) = false then 1 else if m0 < p.m ∨ 1492 < hdN (cls p.kd) + sz L p.m then 2 else 0
def wrN (p : Pd) (L : Nat → It) (m0 : Nat) : Nat := if wrX p L m0 = 0 then hdN (cls p.kd) + sz L p.m else 0
def wrZ (p : Pd) (L : Nat → It) (m0 : Nat) : Nat → Int := if wrX p L m0 = 0 then pdZ p (cls p.kd) L else fun _ => 0
theorem cls_le (k : Int) : cls k ≤ 5 := by unfold cls; (repeat' split) <;> omega
theorem wr_none {w w' : World} {X : Int} {e : Ending} (hX : X ≠ 0) (he : e = .returned (.tuple #[.slice none 0 0, .int .i64 X])) (hb : Below w.heap.size w w') : WrP w 0 X (fun _ => 0) e w' :=
  ⟨none, 0, he, ⟨.inl rfl, fun _ => ⟨Int.le_refl 0, (by decide : (0 : Int) ≤ 255)⟩⟩, Nat.le_refl _, by decide, hb, fun h => absurd h hX⟩
theorem wr_1 (p : Pd) (L : Nat → It) (m0 : Nat) (h : cls p.kd = 5 ∨ fitP p (cls p.kd) = false) : wrX p L m0 = 1 ∧ wrN p L m0 = 0 ∧ wrZ p L m0 = fun _ => 0 := by
  have h1 : wrX p L m0 = 1 := if_pos h
  refine ⟨h1, ?_, ?_⟩
  · unfold wrN; rw [h1]; rfl
  · unfold wrZ; rw [h1]; rfl
theorem wr_2 (p : Pd) (L : Nat → It) (m0 : Nat) (h : ¬ (cls p.kd = 5 ∨ fitP p (cls p.kd) = false)) (h2 : m0 < p.m ∨ 1492 < hdN (cls p.kd) + sz L p.m) : wrX p L m0 = 2 ∧ wrN p L m0 = 0 ∧ wrZ p L m0 = fun _ => 0 := by
  have h1 : wrX p L m0 = 2 := by unfold wrX; rw [if_neg h, if_pos h2]
  refine ⟨h1, ?_, ?_⟩
  · unfold wrN; rw [h1]; rfl
  · unfold wrZ; rw [h1]; rfl
theorem wr_0 (p : Pd) (L : Nat → It) (m0 : Nat) (h : ¬ (cls p.kd = 5 ∨ fitP p (cls p.kd) = false)) (h2 : ¬ (m0 < p.m ∨ 1492 < hdN (cls p.kd) + sz L p.m)) : wrX p L m0 = 0 ∧ wrN p L m0 = hdN (cls p.kd) + sz L p.m ∧ wrZ p L m0 = pdZ p (cls p.kd) L := by
  have h1 : wrX p L m0 = 0 := by unfold wrX; rw [if_neg h, if_neg h2]
  refine ⟨h1, ?_, ?_⟩
  · unfold wrN; rw [if_pos h1]
  · unfold wrZ; rw [if_pos h1]
theorem wrN_le (p : Pd) (L : Nat → It) (m0 : Nat) : wrN p L m0 ≤ 1492 := by
  unfold wrN wrX
  by_cases h : cls p.kd = 5 ∨ fitP p (cls p.kd) = false
  · rw [if_pos h]; simp
  · rw [if_neg h]
    by_cases h2 : m0 < p.m ∨ 1492 < hdN (cls p.kd) + sz L p.m
    · rw [if_pos h2]; simp
    · rw [if_neg h2]; simp only [if_true]; omega
theorem wrX_bd (p : Pd) (L : Nat → It) (m0 : Nat) : 0 ≤ wrX p L m0 ∧ wrX p L m0 ≤ 2 := by
  unfold wrX; (repeat' split) <;> omega
theorem write_any (p : Pd) (hp : PdOk p) (L : Nat → It) (m0 : Nat) (hm : JEnds L p.m m0) (w : World) (hin : PdIn w p L) :
    Calls Tryd.prog 28 #[.agg (pdC p)] w (WrP w (wrN p L m0) (wrX p L m0) (wrZ p L m0)) := by
  have hc := cls_le p.kd
  by_cases h5 : cls p.kd = 5
  · obtain ⟨e1, e2, e3⟩ := wr_1 p L m0 (.inl h5)
    rw [e1, e2, e3]
    exact (write_5 p h5 w).mono fun e w' h => wr_none (by decide) h.1 h.2
  · have hq : cls p.kd ≤ 4 := by omega
    cases hf : fitP p (cls p.kd)
    · obtain ⟨e1, e2, e3⟩ := wr_1 p L m0 (.inr hf)
      rw [e1, e2, e3]
      exact (write_nofit p _ rfl hq hp hf w).mono fun e w' h => wr_none (by decide) h.1 h.2
    · have hn : ¬ (cls p.kd = 5 ∨ fitP p (cls p.kd) = false) := by rw [hf]; simpa using h5
      by_cases hlt : m0 < p.m
      · obtain ⟨e1, e2, e3⟩ := wr_2 p L m0 hn (.inl hlt)
        rw [e1, e2, e3]
        exact (write_join p _ rfl hq hp hf L m0 hm hlt w hin).mono fun e w' h => wr_none (by decide) h.1 h.2
      · obtain rfl : m0 = p.m := by have := hm.1; omega
        by_cases hl : 1492 < hdN (cls p.kd) + sz L p.m
        · obtain ⟨e1, e2, e3⟩ := wr_2 p L p.m hn (.inr hl)
          rw [e1, e2, e3]
          exact (write_long p _ rfl hq hp hf L hm hl w hin).mono fun e w' h => wr_none (by decide) h.1 h.2
        · obtain ⟨e1, e2, e3⟩ := wr_0 p L p.m hn (by omega)
          rw [e1, e2, e3]
          refine (write_ok p _ rfl hq hp hf L hm (by omega) w hin).mono fun e w' h => ?_
          obtain ⟨v, rfl, ho, hb⟩ := h
          have h17 := hdN_bd _ hq
          obtain ⟨g, cap, rfl, hg, hO⟩ := own_ofB ho (by omega)
          exact ⟨_, _, rfl, hO.rd, hO.caps.1, hO.caps.2, hb, fun _ => ⟨g, rfl, hg, hO⟩⟩
/-- packets that have the same in all fields of their kind -/
def PdLike (p p' : Pd) : Prop := p.kd = p'.kd ∧ p.m = p'.m ∧ ∀ i, i < (flC (cls p.kd)).length → fitB p (fAt (cls p.kd) i) = fitB p' (fAt (cls p.kd) i) ∧ ∀ W, fZ p W (fAt (cls p.kd) i) = fZ p' W (fAt (cls p.kd) i)
theorem accZ_congr {p p' : Pd} {q W : Nat} (hk : p.kd = p'.kd) (n : Nat) (h : ∀ i, i < n → fZ p W (fAt q i) = fZ p' W (fAt q i)) : accZ p W q n = accZ p' W q n := by
  induction n with
  | zero => simp only [accZ, hk]
  | succ n ih => simp only [accZ, ih fun i hi => h i (by omega), h n (by omega)]
theorem fitsTo_congr {p p' : Pd} {q : Nat} (n : Nat) (h : ∀ i, i < n → fitB p (fAt q i) = fitB p' (fAt q i)) : fitsTo p q n = fitsTo p' q n := by
  induction n with
  | zero => rfl
  | succ n ih => simp only [fitsTo, ih fun i hi => h i (by omega), h n (by omega)]
theorem pdZ_like {p p' : Pd} (h : PdLike p p') (L : Nat → It) : pdZ p (cls p.kd) L = pdZ p' (cls p'.kd) L := by
  obtain ⟨h1, h2, h3⟩ := h
  have hw : wZ p (cls p.kd) L = wZ p' (cls p.kd) L := by
    unfold wZ
    rw [h2, accZ_congr (p' := p') h1 _ fun i hi => (h3 i hi).2 _]
  unfold pdZ
  rw [← h1, hw, h2]
theorem wr_like {p p' : Pd} (h : PdLike p p') (L : Nat → It) (m0 : Nat) : wrX p L m0 = wrX p' L m0 ∧ wrN p L m0 = wrN p' L m0 ∧ wrZ p L m0 = wrZ p' L m0 := by
  have hz := pdZ_like h L
  obtain ⟨h1, h2, h3⟩ := h
  have hf : fitP p (cls p.kd) = fitP p' (cls p'.kd) := by
    rw [← h1]
    exact fitsTo_congr _ fun i hi => (h3 i hi).1
  have hX : wrX p L m0 = wrX p' L m0 := by
    unfold wrX
    rw [← hf, ← h1, h2]
  refine ⟨hX, ?_, ?_⟩
  · unfold wrN; rw [hX, ← h1, h2]
  · unfold wrZ; rw [hX, hz]
end Go.Proofs.YtccoicjmmeoggaaDoor

/- pdu.readFields reads what stands ahead of the TLVs. Each theorem states its conditions. -/
namespace Go.Proofs.YtccoicjmmeoggaaDoor
open Go.RowKit
set_option linter.unusedVariables false

theorem alloc_P' (o : Oper) (e : Operand → Value) (ho : o.op = .alloc 46) (W W' : World) (n : Nat) (hn : W.heap.size = n) (hW : W.alloc (.cells (pdC pd0) 46) = W') : (execOp e o).run Tryd.prog W = .ok (.value (.pointer (some ⟨n, 0, none⟩))) W' := by
  subst hn hW
  exact alloc_P o e ho W
theorem results_rf {fn : Func} {q u v : Tmp} (h : fn.results = #[.cell q 46, .tmp u, .tmp v]) (tmps : Array Value) (W : World) (g : Nat) (p : Pd) (x y : Value)
    (hp : tmps.getD q undef = .pointer (some ⟨g, 0, none⟩)) (hg : PdT 46 W g p) (hx : tmps.getD u undef = x) (hy : tmps.getD v undef = y) : (results fn tmps).run Tryd.prog W = .ok (.tuple #[.agg (pdC p), x, y]) W := by
  have h1 := run_loadVar_row (P := Tryd.prog) W g 46 46 (pdC p) (0, 0) _ hg Tryd.underlying46 rfl info_pdP
  have hp' : (tmps[q]?).getD undef = .pointer (some ⟨g, 0, none⟩) := by simpa using hp
  have hx' : (tmps[u]?).getD undef = x := by simpa using hx
  have hy' : (tmps[v]?).getD undef = y := by simpa using hy
  simp only [results, h]
  simp [hp', hx', hy', asAddr, h1]
/-- nothing but a kind -/
def kdP (k : Int) : Pd := ⟨k, 0, z0, 0, 0, 0, z0, 0, z0, 0, 0, z0, z0, none, 0, 0⟩
/-- what the first i fields are -/
def rdF (q : Nat) (z : Nat → Int) : Nat → Pd
  | 0 => kdP (z 4)
  | i + 1 => getF (rdF q z i) (fun j => z (accN q i + j)) (fAt q i)
def rdP (q : Nat) (z : Nat → Int) : Pd := rdF q z (flC q).length
theorem accN_mono (q i k : Nat) (h : i ≤ k) : accN q i ≤ accN q k := by
  induction k with
  | zero => obtain rfl : i = 0 := by omega
            exact Nat.le_refl _
  | succ k ih =>
    by_cases e : i = k + 1
    · subst e; exact Nat.le_refl _
    · have := ih (by omega); simp only [accN]; omega
theorem accN_hd (q i : Nat) (h : i < (flC q).length) : accN q i + fsz (fAt q i) ≤ hdN q := accN_mono q (i + 1) _ h
/-- the length that is told at field i -/
def toldN (q : Nat) (z : Nat → Int) (i : Nat) : Nat := (numZ (fun j => z (accN q i + j)) 0 2).toNat
/-- the first field that tells another length, or the end -/
def LEndsF (q : Nat) (z : Nat → Int) (n m : Nat) : Prop := m ≤ (flC q).length ∧ (∀ i, i < m → fAt q i = 4 → toldN q z i = n) ∧ (m = (flC q).length ∨ (m < (flC q).length ∧ fAt q m = 4 ∧ toldN q z m ≠ n))
end Go.Proofs.YtccoicjmmeoggaaDoor

/- pdu.readFields: the fields. Each theorem states its conditions. -/
namespace Go.Proofs.YtccoicjmmeoggaaDoor
open Go.RowKit
set_option linter.unusedVariables false

theorem run_from (W : World) (b off n c l : Nat) (h1 : l ≤ n) (h2 : n ≤ c) (hcm : c ≤ 9223372036854775807) :
    (Instr.sliceAt 22 (.slice (some ⟨b, off, none⟩) n c) (some (.int .i64 (l : Int))) none none).run Tryd.prog W = .ok (.slice (if c = l then some ⟨b, off, none⟩ else some ⟨b, off + l, none⟩) (n - l) (c - l)) W := by
  have hu := run_underlying (w := W) Tryd.underlying22
  obtain ⟨i0, hi, hz0, hz1, hz2⟩ := info_parts info_u8
  have g2 : (0 : Int) ≤ (l : Int) ∧ (l : Int) ≤ (n : Int) := by omega
  by_cases hc : c = l
  · simp [Instr.sliceAt, Instr.slice, Instr.sliceBounds, Instr.sliceBound, hu, go_sem, g2, Addr.add, hc]
    intro h3; omega
  · simp [Instr.sliceAt, Instr.slice, Instr.sliceBounds, Instr.sliceBound, hu, go_sem, g2, Addr.add, hc]
    rw [if_pos h1]
    by_cases h0 : l = 0
    · subst h0; simp
    · simp [h0]
theorem slice_op (o : Oper) (e : Operand → Value) (x y : Operand) (ho : o.op = .slice 22 x (some y) none none) (vx vy : Value) (hx : e x = vx) (hy : e y = vy) (v : Value) {W : World} (h : (Instr.sliceAt 22 vx (some vy) none none).run Tryd.prog W = .ok v W) :
    (execOp e o).run Tryd.prog W = .ok (.value v) W := by
  unfold execOp
  simp [ho, hx, hy, h, Result.andThen]
/-- the fields were read -/
def RfOk (w : World) (b off n c q : Nat) (z : Nat → Int) (r : Bool) (e : Ending) (w' : World) : Prop :=
  e = .returned (.tuple #[.agg (pdC (rdP q z)), .slice (if c = hdN q then some ⟨b, off, none⟩ else some ⟨b, off + hdN q, none⟩) (n - hdN q) (c - hdN q), .bool r]) ∧ Below w.heap.size w w'
set_option maxHeartbeats 4000000 in
set_option maxRecDepth 100000 in
theorem rf_ok (b off n c : Nat) (z : Nat → Int) (w : World) (hr : Row8 w b off n z) (hc : n ≤ c) (hcm : c ≤ maxLen) (h : 8 ≤ n) (q : Nat) (hk : cls (z 4) = q) (hq : q ≤ 4) (hh : hdN q ≤ n) (hn2 : n ≤ 1492) (hs : eqB z (headZ (z 4) (hdN q)) 8 = true) (m : Nat) (hm : LEndsF q z n m) (hend : m = (flC q).length) (r : Bool) (hft : fitP (rdP q z) q = r) : Calls Tryd.prog 70 #[.slice (some ⟨b, off, none⟩) n c] w (RfOk w b off n c q z r) := by
  have hbw := hr.1
  have hzz := hr.2.2
  have HCM := Lib.hid hcm
  have hn8 : (8 : Int) ≤ (n : Int) := by omega
  have HF := Lib.hid (fields_any (z 4) q hk hq)
  have hlen := fl_len q hq
  have hhd := hdN_bd q hq
  obtain ⟨k1, hk1⟩ : ∃ k1, (flC q).length = k1 := ⟨_, rfl⟩
  obtain ⟨H, hH⟩ : ∃ H, hdN q = H := ⟨_, rfl⟩
  rw [hk1] at hlen HF
  rw [hH] at hhd
  have HN := Lib.hid hk1
  have HH := Lib.hid hH
  have HK := Lib.hid hk
  have HQ := Lib.hid hq
  have hn0 : ((k1 : Int) == 0) = false := by simp; omega
  have HM := Lib.hid hm
  have hmk := hm.1
  rw [hk1] at hmk
  rw [hH] at hh hs
  have hhI : (H : Int) ≤ (n : Int) := by omega
  have HS := Lib.hid hs
  have hd8 : decide ((n : Int) < 8) = false := decide_eq_false (by omega)
  have hdH : decide (n < H) = false := decide_eq_false (by omega)
  have HFT := Lib.hid hft
  clear hft
  rw [hk1] at hend
  clear hk hq hk1 hH hs hm
  unfold maxLen at hcm
  obtain ⟨W1, hW1⟩ : ∃ W1, w.alloc (.cells (pdC pd0) 46) = W1 := ⟨_, rfl⟩
  obtain ⟨g, hg⟩ : ∃ g, w.heap.size = g := ⟨_, rfl⟩
  have HG1 : Hid (PdT 46 W1 g pd0) := Lib.hid (by rw [← hW1, ← hg]; exact heap_alloc_new w _)
  have HB1 : Hid (Below w.heap.size w W1) := Lib.hid (by rw [← hW1]; exact (bself w).alloc (Nat.le_refl _) _)
  have HR1 := Lib.hid (hr.below HB1.out hbw)
  have HW1 := Lib.hid hW1
  have HGG := Lib.hid hg
  rw [hg] at hbw
  clear hr hW1 hg
  go_enter Tryd.func70, Tryd.ntmps70
  have c4 : W1.cell? ⟨b, off + 4, none⟩ = some (.int .u8 (z 4)) := HR1.out.2.1 4 (by omega)
  go_wp2_with (first
    | (refine wpList_v (op := ⟨some 2, _, _, _, _, _⟩) rfl _ (alloc_P' _ _ rfl w W1 g HGG.out HW1.out) ?_)
    | (refine wpList_st rfl 5 (.tmp 18) (.tmp 17) rfl g 0 rfl (.int .u8 (z 4)) #[.int .u8 (z 4)] rfl rfl (by kernel_rfl) (by kernel_rfl) HG1.out (Nat.le_of_ble_eq_true rfl) (C' := pdC (kdP (z 4))) (by kernel_rfl) ?_; intro w2 hst2; refine Hid.out ?_))
  refine Lib.hid ?_
  have HG2 : Hid (PdT 46 w2 g (kdP (z 4))) := Lib.hid hst2.1
  have HB2 : Hid (Below w.heap.size w w2) := Lib.hid (HB1.out.trans (hst2.2.1 _ (by rw [HGG.out]; exact Nat.le_refl _)))
  have HR2 := Lib.hid (HR1.out.below (hst2.2.1 g (Nat.le_refl _)) hbw)
  have c0 : w2.cell? ⟨g, 0, none⟩ = some (.int .u8 (z 4)) := (HG2.out.cell 0).trans rfl
  clear hst2 HG1 HB1 HR1 c4
  go_wp2_with fail
  refine (HF.out _).mono ?_
  rintro e w3 ⟨rfl, hf3, hb3⟩
  have HFl3 : Hid (FlAt w3 w2.heap.size q) := Lib.hid hf3
  have HG3 := Lib.hid (HG2.out.below hb3 HG2.out.lt)
  have HR3 := Lib.hid (HR2.out.below hb3 HR2.out.1)
  have HB3 := Lib.hid (HB2.out.trans (hb3.mono HB2.out.size))
  have hgg : g < w2.heap.size := HG2.out.lt
  obtain ⟨g1, hg1⟩ : ∃ g1, w2.heap.size = g1 := ⟨_, rfl⟩
  rw [hg1] at HFl3 hgg ⊢
  clear hf3 hb3 hg1 c0
  have HAH := Lib.hid (ahead_any g1 q HQ.out w3 HFl3.out)
  rw [HN.out, HH.out] at HAH
  go_wp2_with fail
  refine HAH.out.mono ?_
  rintro e w4 ⟨rfl, rfl⟩
  have c0 : w3.cell? ⟨g, 0, none⟩ = some (.int .u8 (z 4)) := (HG3.out.cell 0).trans rfl
  have HHD := Lib.hid (head_any (z 4) H (hzz 4) (by omega))
  go_wp2_with fail
  refine (HHD.out _).mono ?_
  rintro e w5 ⟨rfl, ho5, hb5⟩
  have HG5 := Lib.hid (HG3.out.below hb5 HG3.out.lt)
  have HR5 := Lib.hid (HR3.out.below hb5 HR3.out.1)
  have HFl5 := Lib.hid (HFl3.out.below hb5)
  have HB5 := Lib.hid (HB3.out.trans (hb5.mono HB3.out.size))
  have HP := Lib.hid (starts_any b off n c w3.heap.size 8 z (headZ (z 4) H) _ w5 HR5.out ho5.row HS.out (by omega) hc hcm)
  have hg15 : g1 < w5.heap.size := (Array.getElem?_eq_some_iff.1 HFl5.out).1
  clear ho5 hb5 c0
  go_wp2_with fail
  refine HP.out.mono ?_
  rintro e w6 ⟨rfl, rfl⟩
  go_wp2_with fail
  go_loopw [7, 45] (fun at_ i wr => ∃ k : Nat, k ≤ m ∧ i = .int .i64 k ∧ at_ = .int .i64 (accN q k : Nat) ∧ Hid (PdT 46 wr g (rdF q z k)) ∧ Hid (FlAt wr g1 q) ∧ Hid (Row8 wr b off n z) ∧ Hid (Below w.heap.size w wr)) (fun _ i _ => k1 - (intOf i).toNat)
  case atStart => exact ⟨0, Nat.zero_le _, rfl, rfl, HG5, HFl5, HR5, HB5⟩
  case round =>
    clear HG5 HFl5 HR5 HB5 HG3 HFl3 HR3 HB3 HG2 HR2 HB2
    obtain ⟨k, hk, rfl, rfl, HG, HFl, HR, HB⟩ := hrel
    by_cases hlt : k < k1
    · have ci := HFl.out.cell (i := k) (by rw [HN.out]; exact hlt)
      have hf := fAt_le q k HQ.out
      have hah := accN_hd q k (by rw [HN.out]; exact hlt)
      have hfz := fsz_bd (fAt q k)
      have hab := accN_bd q k
      have HA1 : Hid (accN q (k + 1) = accN q k + fsz (fAt q k)) := Lib.hid rfl
      have HT : Hid (k < m → fAt q k = 4 → (numZ (fun j => z (accN q k + j)) 0 2).toNat = n) := Lib.hid (fun h1 h2 => HM.out.2.1 k h1 h2)
      have HT2 : Hid (k = m → fAt q k = 4 ∧ (numZ (fun j => z (accN q k + j)) 0 2).toNat ≠ n) := Lib.hid (fun e => by
        rcases HM.out.2.2 with h | h
        · rw [HN.out] at h; omega
        · rw [e]; exact h.2)
      have HRD : Hid (rdF q z (k + 1) = getF (rdF q z k) (fun j => z (accN q k + j)) (fAt q k)) := Lib.hid rfl
      rw [HH.out] at hah
      obtain ⟨f, hf'⟩ : ∃ f, fAt q k = f := ⟨_, rfl⟩
      rw [hf'] at ci hf hah hfz HA1 HT HT2 HRD
      obtain ⟨an, han⟩ : ∃ an, accN q k = an := ⟨_, rfl⟩
      rw [han] at hah hab HA1 HT HT2 HRD ⊢
      clear hf' han
      have HSZ := Lib.hid (size_any f hf)
      have HRow := Lib.hid (HR.out.shift an (fsz f) (by omega))
      have HGet := Lib.hid (get_any (rdF q z k) (fun j => z (an + j)) g b (off + an) (c - an) f hf wr HG.out HRow.out (by omega) (by have := HCM.out; omega))
      have hfzf : fsz f ≤ 8 := hfz.2
      obtain ⟨fs, hfs⟩ : ∃ fs, fsz f = fs := ⟨_, rfl⟩
      have HFS := Lib.hid hfs
      rw [hfs] at hah hfz HA1 HSZ HRow HGet hfzf
      clear hfs
      have e1 : ¬ c = an := by omega
      have e2 : ¬ (c : Int) < (an : Int) := by omega
      go_wp2_with fail
      refine (HSZ.out _).mono ?_
      rintro e w7 ⟨rfl, rfl⟩
      by_cases hkm : k < m
      · have hg1l : g1 < wr.heap.size := (Array.getElem?_eq_some_iff.1 HFl.out).1
        by_cases hf4 : f = 4
        · have hnum := HT.out hkm hf4
          obtain rfl : fs = 2 := by rw [← HFS.out, hf4]; rfl
          have HGN := Lib.hid (getNumber_any b (off + an) 2 (c - an) (fun j => z (an + j)) wr HRow.out (by omega) (by omega) (by omega) (by have := HCM.out; omega))
          rw [hnum] at HGN
          have h4 : ((f : Int) == 4) = true := by simp; omega
          have hw := wrapU n (by omega)
          clear hnum hf4
          go_wp2_with fail
          simp only [Nat.add_sub_cancel_left]
          refine HGN.out.mono ?_
          rintro e w7 ⟨rfl, rfl⟩
          go_wp2_with fail
          refine HGet.out.mono ?_
          rintro e w8 ⟨rfl, hg8, hb8, ho8⟩
          have HG8 : Hid (PdT 46 w8 g (rdF q z (k + 1))) := Lib.hid (by rw [HRD.out]; exact hg8)
          have HFl8 : Hid (FlAt w8 g1 q) := Lib.hid ((ho8 g1 hg1l (by omega)).trans HFl.out)
          have HR8 := Lib.hid (HR.out.below hb8 hbw)
          have HB8 : Hid (Below w.heap.size w w8) := Lib.hid (HB.out.trans (by rw [HGG.out]; exact hb8))
          clear hg8 hb8 ho8
          go_wp2_with fail
          go_roundw
          case rel => exact ⟨k + 1, by omega, by go_num, by rw [HA1.out]; go_num, HG8, HFl8, HR8, HB8⟩
          case measure => simp only [intOf]; omega
        · have h4 : ((f : Int) == 4) = false := by simp; omega
          clear hf4
          go_wp2_with fail
          simp only [Nat.add_sub_cancel_left]
          refine HGet.out.mono ?_
          rintro e w8 ⟨rfl, hg8, hb8, ho8⟩
          have HG8 : Hid (PdT 46 w8 g (rdF q z (k + 1))) := Lib.hid (by rw [HRD.out]; exact hg8)
          have HFl8 : Hid (FlAt w8 g1 q) := Lib.hid ((ho8 g1 hg1l (by omega)).trans HFl.out)
          have HR8 := Lib.hid (HR.out.below hb8 hbw)
          have HB8 : Hid (Below w.heap.size w w8) := Lib.hid (HB.out.trans (by rw [HGG.out]; exact hb8))
          clear hg8 hb8 ho8
          go_wp2_with fail
          go_roundw
          case rel => exact ⟨k + 1, by omega, by go_num, by rw [HA1.out]; go_num, HG8, HFl8, HR8, HB8⟩
          case measure => simp only [intOf]; omega
      · exfalso; omega
    · obtain rfl : k = k1 := by omega
      have HGF : Hid (PdT 46 wr g (rdP q z)) := Lib.hid (by unfold rdP; rw [HN.out]; exact HG.out)
      have HAL := Lib.hid (allFit_any (rdP q z) g g1 q HQ.out wr.drew HGF.out HFl.out)
      rw [HN.out, HFT.out] at HAL
      have eH1 : ¬ (n : Int) < (H : Int) := by omega
      have eH2 : (H : Int) ≤ (c : Int) := by omega
      have HRUN := Lib.hid (fun W => run_from W b off n c H (by omega) hc hcm)
      have HHH2 : Hid (hdN q = H) := HH
      obtain ⟨A', hA'⟩ : ∃ A' : Option Addr, (if c = H then some ⟨b, off, none⟩ else some ⟨b, off + H, none⟩) = A' := ⟨_, rfl⟩
      rw [hA'] at HRUN
      have HA' := Lib.hid hA'
      clear hA' HG
      obtain ⟨x, hx⟩ : ∃ x, rdP q z = x := ⟨_, rfl⟩
      rw [hx] at HGF
      have HXX := Lib.hid hx
      clear hx
      go_wp2_with fail
      refine wp_region_held_drew (S := fun w' => PdT 46 w' g x) (by kernel_rfl) HGF.out (fun hS0 => ?_)
      refine takeL (i := 0) (some 75) 46 (.tmp 2) g 0 (pdC x) _ rfl rfl (by kernel_rfl) (by kernel_rfl) (by kernel_rfl) (fun _ _ _ h => h) (by rfl) rfl rfl (fun w' hS => hS.all) Tryd.underlying46 rfl info_pdP hS0 ?_
      simp only [Act.put, List.setIfInBounds_toArray, List.set_cons_zero, List.set_cons_succ]
      refine takeY (i := 1) (some 76) (v := .slice (some ⟨b, off, none⟩) n c) rfl rfl (by kernel_rfl) (by kernel_rfl) (by kernel_rfl) (fun _ _ _ h => h) (by rfl) (fun w' hS => by go_simp) hS0 ?_
      simp only [Act.put, List.setIfInBounds_toArray, List.set_cons_zero, List.set_cons_succ]
      refine takeY (i := 2) (some 77) (v := .int .i64 (H : Int)) rfl rfl (by kernel_rfl) (by kernel_rfl) (by kernel_rfl) (fun _ _ _ h => h) (by rfl) (fun w' hS => by go_simp) hS0 ?_
      simp only [Act.put, List.setIfInBounds_toArray, List.set_cons_zero, List.set_cons_succ]
      refine takeY (i := 3) (some 78) (v := .slice A' (n - H) (c - H)) rfl rfl (by kernel_rfl) (by kernel_rfl) (by kernel_rfl) (fun _ _ _ h => h) (by rfl) (fun w' hS => by exact slice_op _ _ (.tmp 76) (.tmp 77) rfl (.slice (some ⟨b, off, none⟩) n c) (.int .i64 (H : Int)) rfl rfl _ (HRUN.out w')) hS0 ?_
      simp only [Act.put, List.setIfInBounds_toArray, List.set_cons_zero, List.set_cons_succ]
      refine takeY (i := 4) (some 79) (v := .slice (some ⟨g1, 0, none⟩) k k) rfl rfl (by kernel_rfl) (by kernel_rfl) (by kernel_rfl) (fun _ _ _ h => h) (by rfl) (fun w' hS => by go_simp) hS0 ?_
      simp only [Act.put, List.setIfInBounds_toArray, List.set_cons_zero, List.set_cons_succ]
      refine takeC (i := 5) (some 80) 52 #[.pointer (some ⟨g, 0, none⟩), .slice (some ⟨g1, 0, none⟩) k k] (.bool r) (R := fun w' => w' = wr.drew) rfl rfl (by kernel_rfl) (by rfl) (by go_simp) (HAL.out.mono fun e w' h => ⟨h.1, h.2.symm⟩) (fun w' h => by rw [h]; exact hS0) (fun w2' h2 hS2 => ?_)
      subst h2
      simp only [Act.put, List.setIfInBounds_toArray, List.set_cons_zero, List.set_cons_succ]
      refine takeSt (i := 6) 46 (.tmp 2) (.tmp 75) g 0 (.agg (pdC x)) (pdC x) (pdC x) rfl rfl (by kernel_rfl) (by rfl) rfl rfl rfl rfl info_pdP (pdC_one _) HGF.out (Nat.le_of_ble_eq_true rfl) (pd_all _ _) (fun w9 hst => ⟨hst.1, ?_⟩)
      have hS9 : PdT 46 w9 g x := hst.1
      refine takeY (i := 7) (some 3) (v := .slice A' (n - H) (c - H)) rfl rfl (by kernel_rfl) (by kernel_rfl) (by kernel_rfl) (fun _ _ _ h => h) (by rfl) (fun w' hS => by go_simp) hS9 ?_
      simp only [Act.put, List.setIfInBounds_toArray, List.set_cons_zero, List.set_cons_succ]
      refine takeY (i := 8) (some 4) (v := .bool r) rfl rfl (by kernel_rfl) (by kernel_rfl) (by kernel_rfl) (fun _ _ _ h => h) (by rfl) (fun w' hS => by go_simp) hS9 ?_
      simp only [Act.put, List.setIfInBounds_toArray, List.set_cons_zero, List.set_cons_succ]
      refine wpAnyH_done (by kernel_rfl) ?_ _
      have HS9 := Lib.hid hS9
      have HB9 : Hid (Below w.heap.size w w9) := Lib.hid (HB.out.drew.trans (hst.2.1 _ (by rw [HGG.out]; exact Nat.le_refl _)))
      have HE : Hid (RfOk w b off n c q z r (.returned (.tuple #[.agg (pdC x), .slice A' (n - H) (c - H), .bool r])) w9) := Lib.hid ⟨by rw [HXX.out, HHH2.out, HA'.out], HB9.out⟩
      clear hst hS9 hS2 hS0
      go_wp2_with fail
      exact bodyPost_ret (results_rf (u := 3) (v := 4) rfl _ w9 g _ (.slice A' (n - H) (c - H)) (.bool r) rfl HS9.out rfl rfl) rfl HE.out

end Go.Proofs.YtccoicjmmeoggaaDoor

/- pdu.readFields: another length is told. Each theorem states its conditions. -/
namespace Go.Proofs.YtccoicjmmeoggaaDoor
open Go.RowKit
set_option linter.unusedVariables false

end Go.Proofs.YtccoicjmmeoggaaDoor

/- pdu.Read reads a packet. Each theorem states its conditions. -/
namespace Go.Proofs.YtccoicjmmeoggaaDoor
open Go.RowKit
set_option linter.unusedVariables false

/-- the bytes are of the form of a kind, as far as the TLVs -/
def FormOk (z : Nat → Int) (n : Nat) : Prop := 8 ≤ n ∧ cls (z 4) ≤ 4 ∧ hdN (cls (z 4)) ≤ n ∧ eqB z (headZ (z 4) (hdN (cls (z 4)))) 8 = true ∧ ∀ i, i < (flC (cls (z 4))).length → fAt (cls (z 4)) i = 4 → toldN (cls (z 4)) z i = n
theorem rf_good (b off n c : Nat) (z : Nat → Int) (w : World) (hr : Row8 w b off n z) (hc : n ≤ c) (hcm : c ≤ maxLen) (hn2 : n ≤ 1492) (hf : FormOk z n) (r : Bool) (hft : fitP (rdP (cls (z 4)) z) (cls (z 4)) = r) :
    Calls Tryd.prog 70 #[.slice (some ⟨b, off, none⟩) n c] w (RfOk w b off n c (cls (z 4)) z r) := by
  obtain ⟨h1, h2, h3, h4, h5⟩ := hf
  exact rf_ok b off n c z w hr hc hcm h1 _ rfl h2 h3 hn2 h4 (flC (cls (z 4))).length ⟨Nat.le_refl _, h5, .inl rfl⟩ rfl r hft
/-- the TLVs' bytes -/
def tlZ (q : Nat) (z : Nat → Int) : Nat → Int := fun j => z (hdN q + j)
/-- a packet with these TLVs -/
def withT (p : Pd) (A : Option Addr) (m c : Nat) : Pd := ⟨p.kd, p.ci, p.so, p.ho, p.nu, p.pr, p.la, p.li, p.id, p.sq, p.bi, p.st, p.en, A, m, c⟩
theorem OwnT.far {w w' : World} {base m b : Nat} {v : Value} {L : Nat → It} {C : Array Value} {t : TypeId} (h : OwnT w base v m L) (hs : Stored w w' b C t) (hb : b < base) : OwnT w' base v m L := by
  refine ⟨⟨h.1.1, ?_⟩, fun j hj => ?_⟩
  · rcases h.1.2 with h1 | ⟨g, cap, cur, hv, hg, hc, r⟩
    · exact .inl h1
    · exact .inr ⟨g, cap, cur, hv, hg, (hs.2.2 g (by omega)).trans hc, r⟩
  · obtain ⟨h1, h2, g, h3, h4, h5⟩ := h.2 j hj
    exact ⟨h1, h2, g, h3, h4, h5.block (hs.2.2 g (by omega))⟩
theorem results_rd {fn : Func} {q u : Tmp} (h : fn.results = #[.cell q 46, .tmp u]) (tmps : Array Value) (W : World) (g : Nat) (p : Pd) (x : Value)
    (hp : tmps.getD q undef = .pointer (some ⟨g, 0, none⟩)) (hg : PdT 46 W g p) (hx : tmps.getD u undef = x) : (results fn tmps).run Tryd.prog W = .ok (.tuple #[.agg (pdC p), x]) W := by
  have h1 := run_loadVar_row (P := Tryd.prog) W g 46 46 (pdC p) (0, 0) _ hg Tryd.underlying46 rfl info_pdP
  have hp' : (tmps[q]?).getD undef = .pointer (some ⟨g, 0, none⟩) := by simpa using hp
  have hx' : (tmps[u]?).getD undef = x := by simpa using hx
  simp only [results, h]
  simp [hp', hx', asAddr, h1]
theorem isSigned_any (b off n c : Nat) (z : Nat → Int) (w : World) (r : Bool) (hr : Row8 w b off n z) (hn : 27 ≤ n) (hn2 : n ≤ 1492) (hc : n ≤ c) (hcm : c ≤ maxLen) (hq : rightB (fun j => z (12 + j)) 12 (n - 12) = r) :
    Calls Tryd.prog 72 #[.slice (some ⟨b, off, none⟩) n c] w fun e w' => e = .returned (.bool r) ∧ w = w' := by
  have HR := Lib.hid (right_ok b (off + 12) (n - 12) (c - 12) (fun j => z (12 + j)) 12 w (hr.shift 12 (n - 12) (by omega)) (by omega) (by omega) (by omega))
  rw [show (12 : Int).toNat = 12 from rfl, hq] at HR
  have hne12 : ¬ c = 12 := by omega
  have q1 : ¬ n < 12 := by omega
  obtain ⟨n1, hn1⟩ : ∃ n1, n - 12 = n1 := ⟨_, rfl⟩
  obtain ⟨c1, hc1⟩ : ∃ c1, c - 12 = c1 := ⟨_, rfl⟩
  rw [hn1, hc1] at HR
  unfold maxLen at hcm
  clear hr hq
  go_enter Tryd.func72, Tryd.ntmps72
  go_wp2_with fail
  refine HR.out.mono ?_
  rintro e w1 ⟨rfl, rfl⟩
  go_wp2_with fail
  go_ret
  exact ⟨rfl, rfl⟩
/-- what Read leaves where it refuses -/
def RdErr (w : World) (E : Int) (e : Ending) (w' : World) : Prop := e = .returned (.tuple #[.agg (pdC pd0), .int .i64 E]) ∧ Below w.heap.size w w'
/-- what Read leaves where it reads -/
def RdOk (w : World) (q : Nat) (z : Nat → Int) (m : Nat) (e : Ending) (w' : World) : Prop :=
  ∃ A c L, e = .returned (.tuple #[.agg (pdC (withT (rdP q z) A m c)), .int .i64 0]) ∧ OwnT w' w.heap.size (.slice A m c) m L ∧ IsItZ (tlZ q z) L m ∧ (A = none → m = 0 ∧ c = 0) ∧ m ≤ c ∧ c ≤ maxLen ∧ Below w.heap.size w w'
theorem getF_kd (p : Pd) (y : Nat → Int) (f : Nat) : (getF p y f).kd = p.kd := by unfold getF; split <;> rfl
theorem rdF_kd (q : Nat) (z : Nat → Int) (i : Nat) : (rdF q z i).kd = z 4 := by
  induction i with
  | zero => rfl
  | succ i ih => exact (getF_kd _ _ _).trans ih
theorem rdP_kd (q : Nat) (z : Nat → Int) : (rdP q z).kd = z 4 := rdF_kd q z _
set_option maxHeartbeats 4000000 in
set_option maxRecDepth 100000 in
theorem rd_state (b off n c : Nat) (z : Nat → Int) (w : World) (hr : Row8 w b off n z) (hc : n ≤ c) (hcm : c ≤ maxLen) (hn2 : n ≤ 1492) (q : Nat) (hq : cls (z 4) = q) (hf : FormOk z n) (hft : fitP (rdP q z) q = true) (m : Nat) (hm : Ends (tlZ q z) (n - hdN q) m) (hne : pos (tlZ q z) m = n - hdN q) (hq2 : q = 2) (hrb : rightB (fun j => z (12 + j)) 12 (n - 12) = true) : Calls Tryd.prog 45 #[.slice (some ⟨b, off, none⟩) n c] w (RdOk w q z m) := by
  have hbw := hr.1
  have hzz := hr.2.2
  have hHn : hdN q ≤ n := by rw [← hq]; exact hf.2.2.1
  have hq4 : q ≤ 4 := by rw [← hq]; exact hf.2.1
  have h17 := hdN_bd q hq4
  have HR := Lib.hid hr
  have HM := Lib.hid hm
  have HQ := Lib.hid hq
  have HCM := Lib.hid hcm
  obtain ⟨H, hH⟩ : ∃ H, hdN q = H := ⟨_, rfl⟩
  have HHH := Lib.hid hH
  obtain ⟨A', hA'⟩ : ∃ A' : Option Addr, (if c = H then some ⟨b, off, none⟩ else some ⟨b, off + H, none⟩) = A' := ⟨_, rfl⟩
  have HAA := Lib.hid hA'
  have HF : Hid (∀ W, Row8 W b off n z → Calls Tryd.prog 70 #[.slice (some ⟨b, off, none⟩) n c] W (fun e w' => e = .returned (.tuple #[.agg (pdC (rdP q z)), .slice A' (n - H) (c - H), .bool true]) ∧ Below W.heap.size W w')) := Lib.hid (fun W hW => by
    have := rf_good b off n c z W hW hc hcm hn2 hf true (by rw [hq]; exact hft)
    rw [hq] at this
    unfold RfOk at this
    rw [hH, hA'] at this
    exact this)
  rw [hH] at HM hHn h17
  have HK : Hid ((rdP q z).kd = z 4) := Lib.hid (rdP_kd q z)
  have HNE := Lib.hid hne
  have HRB := Lib.hid hrb
  have HQ2 := Lib.hid hq2
  clear hne hrb hq2
  clear hr hm hf hft hq hH hA'
  obtain ⟨W1, hW1⟩ : ∃ W1, w.alloc (.cells (pdC pd0) 46) = W1 := ⟨_, rfl⟩
  obtain ⟨g, hg⟩ : ∃ g, w.heap.size = g := ⟨_, rfl⟩
  have HG1 : Hid (PdT 46 W1 g pd0) := Lib.hid (by rw [← hW1, ← hg]; exact heap_alloc_new w _)
  have HB1 : Hid (Below w.heap.size w W1) := Lib.hid (by rw [← hW1]; exact (bself w).alloc (Nat.le_refl _) _)
  have HW1 := Lib.hid hW1
  have HGG := Lib.hid hg
  clear hW1 hg
  go_enter Tryd.func45, Tryd.ntmps45
  have HRF := Lib.hid (HF.out W1 (HR.out.below HB1.out hbw))
  go_wp2_with (refine wpList_v (op := ⟨some 2, _, _, _, _, _⟩) rfl _ (alloc_P' _ _ rfl w W1 g HGG.out HW1.out) ?_)
  refine HRF.out.mono ?_
  rintro e w3 ⟨rfl, hb3⟩
  have HG3 := Lib.hid (HG1.out.below hb3 HG1.out.lt)
  have HB3 := Lib.hid (HB1.out.trans (hb3.mono HB1.out.size))
  have hgl : g < w3.heap.size := HG3.out.lt
  obtain ⟨g4, hg4⟩ : ∃ g4, w3.heap.size = g4 := ⟨_, rfl⟩
  obtain ⟨W4, hW4⟩ : ∃ W4, w3.alloc (.cells (pdC pd0) 46) = W4 := ⟨_, rfl⟩
  rw [hg4] at hgl
  have HX4 : Hid (PdT 46 W4 g4 pd0) := Lib.hid (by rw [← hW4, ← hg4]; exact heap_alloc_new w3 _)
  have HG4 : Hid (PdT 46 W4 g pd0) := Lib.hid (by rw [← hW4]; exact (Below.heap_alloc _ _ _ HG3.out.lt).trans HG3.out)
  have HB4 : Hid (Below w.heap.size w W4) := Lib.hid (by rw [← hW4]; exact HB3.out.alloc HB3.out.size _)
  have HG44 := Lib.hid hg4
  have HW44 := Lib.hid hW4
  clear hb3 hg4 hW4
  go_wp2_with (first
    | (refine wpList_v (op := ⟨some 4, _, _, _, _, _⟩) rfl _ (alloc_P' _ _ rfl w3 W4 g4 HG44.out HW44.out) ?_)
    | (refine wpList_st rfl 46 (.tmp 4) (.tmp 16) rfl g4 0 rfl (.agg (pdC (rdP q z))) (pdC (rdP q z)) rfl rfl info_pdP (pdC_one _) HX4.out (Nat.le_of_ble_eq_true rfl) (pd_all _ _) ?_; intro w5 hst5; refine Hid.out ?_))
  refine Lib.hid ?_
  have HX5 : Hid (PdT 46 w5 g4 (rdP q z)) := Lib.hid hst5.1
  have HG5 : Hid (PdT 46 w5 g pd0) := Lib.hid (HG4.out.far hst5 (by omega))
  have HB5 : Hid (Below w.heap.size w w5) := Lib.hid (HB4.out.trans (hst5.2.1 _ (by rw [HGG.out]; omega)))
  clear hst5 HX4 HG4 HB4
  have hR5 : Row8 w5 b off n z := HR.out.below HB5.out hbw
  have HTl : Hid (Rd w5 A' (n - H) (tlZ q z)) := Lib.hid (by
    rw [← HAA.out]
    have e : tlZ q z = fun j => z (H + j) := by unfold tlZ; rw [HHH.out]
    rw [e]
    by_cases hcH : c = H
    · rw [if_pos hcH]
      exact ⟨.inl (by omega), fun j => hzz _⟩
    · rw [if_neg hcH]
      exact ⟨.inr ⟨b, off + H, rfl, hR5.shift H (n - H) (by omega)⟩, fun j => hzz _⟩)
  have HA0 : Hid (A' = none → n - H = 0 ∧ c - H = 0) := Lib.hid (fun e => by rw [← HAA.out] at e; split at e <;> cases e)
  have HSp := Lib.hid (split_any A' (n - H) (c - H) m (tlZ q z) w5 HTl.out HA0.out (by omega) (by omega) (by have := HCM.out; unfold maxLen at this; omega) HM.out)
  have HR5 := Lib.hid hR5
  have c0 : w5.cell? ⟨g4, 0, none⟩ = some (.int .u8 (z 4)) := (HX5.out.cell 0).trans ((pdC_kd _).trans (by rw [HK.out]))
  have hg45 : g4 < w5.heap.size := HX5.out.lt
  clear hR5
  go_wp2_with fail
  refine HSp.out.mono ?_
  rintro e w6 (⟨_, v6, L6, rfl, ho6, hi6, hb6⟩ | ⟨h, _⟩)
  rotate_left
  · exact absurd (by have := HNE.out; rw [HHH.out] at this; exact this) h
  obtain ⟨A6, c6, rfl, hmc, hmx, hA6, _⟩ := ho6.shape
  have HO6 := Lib.hid ho6
  have HI6 := Lib.hid hi6
  have HA6 := Lib.hid hA6
  have HMX := Lib.hid hmx
  have HG6 := Lib.hid (HG5.out.below hb6 HG5.out.lt)
  have HX6 := Lib.hid (HX5.out.below hb6 HX5.out.lt)
  have HB6 := Lib.hid (HB5.out.trans (hb6.mono HB5.out.size))
  have HR6 := Lib.hid (HR5.out.below hb6 HR5.out.1)
  have c0' : w6.cell? ⟨g4, 0, none⟩ = some (.int .u8 (z 4)) := (HX6.out.cell 0).trans ((pdC_kd _).trans (by rw [HK.out]))
  have HST := Lib.hid (isState_any (z 4) w6)
  clear ho6 hi6 hb6 hA6 hmx c0
  rw [show decide (cls (z 4) = 2) = true by rw [HQ.out, HQ2.out]; rfl] at HST
  have h27 : 27 ≤ n := by
    have h1 : H = 27 := by rw [← HHH.out, HQ2.out]; rfl
    omega
  have HSG := Lib.hid (isSigned_any b off n c z w6 true HR6.out h27 hn2 hc HCM.out HRB.out)
  go_wp2_with fail
  refine HST.out.mono ?_
  rintro e w7 ⟨rfl, rfl⟩
  go_wp2_with fail
  refine HSG.out.mono ?_
  rintro e w7 ⟨rfl, rfl⟩
  go_wp2_with (first
    | (refine wpList_st rfl 40 (.tmp 41) (.tmp 40) rfl g4 46 rfl (.slice A6 m c6) #[.slice A6 m c6] rfl rfl (by kernel_rfl) (by kernel_rfl) HX6.out (Nat.le_of_ble_eq_true rfl) (C' := pdC (withT (rdP q z) A6 m c6)) (by kernel_rfl) ?_; intro w8 hst8; refine Hid.out ?_))
  refine Lib.hid ?_
  have HX8 : Hid (PdT 46 w8 g4 (withT (rdP q z) A6 m c6)) := Lib.hid hst8.1
  have HG8 : Hid (PdT 46 w8 g pd0) := Lib.hid (HG6.out.far hst8 (by omega))
  have HB8 : Hid (Below w.heap.size w w8) := Lib.hid (HB6.out.trans (hst8.2.1 _ (by rw [HGG.out]; omega)))
  have HO8 := Lib.hid (HO6.out.far hst8 hg45)
  clear hst8 c0'
  go_wp2_with (first
    | (refine wpList_load_mid rfl 46 (.tmp 4) rfl g4 0 rfl (pdC (withT (rdP q z) A6 m c6)).toList _ HX8.out.all Tryd.underlying46 rfl info_pdP ?_)
    | (refine wpList_st rfl 46 (.tmp 2) (.tmp 42) rfl g 0 rfl (.agg (pdC (withT (rdP q z) A6 m c6))) (pdC (withT (rdP q z) A6 m c6)) rfl rfl info_pdP (pdC_one _) HG8.out (Nat.le_of_ble_eq_true rfl) (pd_all _ _) ?_; intro w9 hst9; refine Hid.out ?_))
  refine Lib.hid ?_
  have HG9 : Hid (PdT 46 w9 g (withT (rdP q z) A6 m c6)) := Lib.hid hst9.1
  have HB9 : Hid (Below w.heap.size w w9) := Lib.hid (HB8.out.trans (hst9.2.1 _ (by rw [HGG.out]; exact Nat.le_refl _)))
  have HO9 := Lib.hid (HO8.out.far hst9 (by omega))
  have HO9' : Hid (OwnT w9 w.heap.size (.slice A6 m c6) m L6) := Lib.hid ⟨ownsRow_mono HO9.out.1 HB5.out.size, fun j hj => (HO9.out.2 j hj).mono HB5.out.size⟩
  clear hst9
  go_wp2_with fail
  exact bodyPost_ret (results_rd (u := 3) rfl _ w9 g _ (.int .i64 0) rfl HG9.out rfl) rfl ⟨A6, c6, L6, rfl, HO9'.out, HI6.out, HA6.out, hmc, HMX.out, HB9.out⟩
set_option maxHeartbeats 4000000 in
set_option maxRecDepth 100000 in
theorem rd_plain (b off n c : Nat) (z : Nat → Int) (w : World) (hr : Row8 w b off n z) (hc : n ≤ c) (hcm : c ≤ maxLen) (hn2 : n ≤ 1492) (q : Nat) (hq : cls (z 4) = q) (hf : FormOk z n) (hft : fitP (rdP q z) q = true) (m : Nat) (hm : Ends (tlZ q z) (n - hdN q) m) (hne : pos (tlZ q z) m = n - hdN q) (hq2 : q ≠ 2) : Calls Tryd.prog 45 #[.slice (some ⟨b, off, none⟩) n c] w (RdOk w q z m) := by
  have hbw := hr.1
  have hzz := hr.2.2
  have hHn : hdN q ≤ n := by rw [← hq]; exact hf.2.2.1
  have hq4 : q ≤ 4 := by rw [← hq]; exact hf.2.1
  have h17 := hdN_bd q hq4
  have HR := Lib.hid hr
  have HM := Lib.hid hm
  have HQ := Lib.hid hq
  have HCM := Lib.hid hcm
  obtain ⟨H, hH⟩ : ∃ H, hdN q = H := ⟨_, rfl⟩
  have HHH := Lib.hid hH
  obtain ⟨A', hA'⟩ : ∃ A' : Option Addr, (if c = H then some ⟨b, off, none⟩ else some ⟨b, off + H, none⟩) = A' := ⟨_, rfl⟩
  have HAA := Lib.hid hA'
  have HF : Hid (∀ W, Row8 W b off n z → Calls Tryd.prog 70 #[.slice (some ⟨b, off, none⟩) n c] W (fun e w' => e = .returned (.tuple #[.agg (pdC (rdP q z)), .slice A' (n - H) (c - H), .bool true]) ∧ Below W.heap.size W w')) := Lib.hid (fun W hW => by
    have := rf_good b off n c z W hW hc hcm hn2 hf true (by rw [hq]; exact hft)
    rw [hq] at this
    unfold RfOk at this
    rw [hH, hA'] at this
    exact this)
  rw [hH] at HM hHn h17
  have HK : Hid ((rdP q z).kd = z 4) := Lib.hid (rdP_kd q z)
  have HNE := Lib.hid hne
  have HQ2 := Lib.hid hq2
  clear hne hq2
  clear hr hm hf hft hq hH hA'
  obtain ⟨W1, hW1⟩ : ∃ W1, w.alloc (.cells (pdC pd0) 46) = W1 := ⟨_, rfl⟩
  obtain ⟨g, hg⟩ : ∃ g, w.heap.size = g := ⟨_, rfl⟩
  have HG1 : Hid (PdT 46 W1 g pd0) := Lib.hid (by rw [← hW1, ← hg]; exact heap_alloc_new w _)
  have HB1 : Hid (Below w.heap.size w W1) := Lib.hid (by rw [← hW1]; exact (bself w).alloc (Nat.le_refl _) _)
  have HW1 := Lib.hid hW1
  have HGG := Lib.hid hg
  clear hW1 hg
  go_enter Tryd.func45, Tryd.ntmps45
  have HRF := Lib.hid (HF.out W1 (HR.out.below HB1.out hbw))
  go_wp2_with (refine wpList_v (op := ⟨some 2, _, _, _, _, _⟩) rfl _ (alloc_P' _ _ rfl w W1 g HGG.out HW1.out) ?_)
  refine HRF.out.mono ?_
  rintro e w3 ⟨rfl, hb3⟩
  have HG3 := Lib.hid (HG1.out.below hb3 HG1.out.lt)
  have HB3 := Lib.hid (HB1.out.trans (hb3.mono HB1.out.size))
  have hgl : g < w3.heap.size := HG3.out.lt
  obtain ⟨g4, hg4⟩ : ∃ g4, w3.heap.size = g4 := ⟨_, rfl⟩
  obtain ⟨W4, hW4⟩ : ∃ W4, w3.alloc (.cells (pdC pd0) 46) = W4 := ⟨_, rfl⟩
  rw [hg4] at hgl
  have HX4 : Hid (PdT 46 W4 g4 pd0) := Lib.hid (by rw [← hW4, ← hg4]; exact heap_alloc_new w3 _)
  have HG4 : Hid (PdT 46 W4 g pd0) := Lib.hid (by rw [← hW4]; exact (Below.heap_alloc _ _ _ HG3.out.lt).trans HG3.out)
  have HB4 : Hid (Below w.heap.size w W4) := Lib.hid (by rw [← hW4]; exact HB3.out.alloc HB3.out.size _)
  have HG44 := Lib.hid hg4
  have HW44 := Lib.hid hW4
  clear hb3 hg4 hW4
  go_wp2_with (first
    | (refine wpList_v (op := ⟨some 4, _, _, _, _, _⟩) rfl _ (alloc_P' _ _ rfl w3 W4 g4 HG44.out HW44.out) ?_)
    | (refine wpList_st rfl 46 (.tmp 4) (.tmp 16) rfl g4 0 rfl (.agg (pdC (rdP q z))) (pdC (rdP q z)) rfl rfl info_pdP (pdC_one _) HX4.out (Nat.le_of_ble_eq_true rfl) (pd_all _ _) ?_; intro w5 hst5; refine Hid.out ?_))
  refine Lib.hid ?_
  have HX5 : Hid (PdT 46 w5 g4 (rdP q z)) := Lib.hid hst5.1
  have HG5 : Hid (PdT 46 w5 g pd0) := Lib.hid (HG4.out.far hst5 (by omega))
  have HB5 : Hid (Below w.heap.size w w5) := Lib.hid (HB4.out.trans (hst5.2.1 _ (by rw [HGG.out]; omega)))
  clear hst5 HX4 HG4 HB4
  have hR5 : Row8 w5 b off n z := HR.out.below HB5.out hbw
  have HTl : Hid (Rd w5 A' (n - H) (tlZ q z)) := Lib.hid (by
    rw [← HAA.out]
    have e : tlZ q z = fun j => z (H + j) := by unfold tlZ; rw [HHH.out]
    rw [e]
    by_cases hcH : c = H
    · rw [if_pos hcH]
      exact ⟨.inl (by omega), fun j => hzz _⟩
    · rw [if_neg hcH]
      exact ⟨.inr ⟨b, off + H, rfl, hR5.shift H (n - H) (by omega)⟩, fun j => hzz _⟩)
  have HA0 : Hid (A' = none → n - H = 0 ∧ c - H = 0) := Lib.hid (fun e => by rw [← HAA.out] at e; split at e <;> cases e)
  have HSp := Lib.hid (split_any A' (n - H) (c - H) m (tlZ q z) w5 HTl.out HA0.out (by omega) (by omega) (by have := HCM.out; unfold maxLen at this; omega) HM.out)
  have HR5 := Lib.hid hR5
  have c0 : w5.cell? ⟨g4, 0, none⟩ = some (.int .u8 (z 4)) := (HX5.out.cell 0).trans ((pdC_kd _).trans (by rw [HK.out]))
  have hg45 : g4 < w5.heap.size := HX5.out.lt
  clear hR5
  go_wp2_with fail
  refine HSp.out.mono ?_
  rintro e w6 (⟨_, v6, L6, rfl, ho6, hi6, hb6⟩ | ⟨h, _⟩)
  rotate_left
  · exact absurd (by have := HNE.out; rw [HHH.out] at this; exact this) h
  obtain ⟨A6, c6, rfl, hmc, hmx, hA6, _⟩ := ho6.shape
  have HO6 := Lib.hid ho6
  have HI6 := Lib.hid hi6
  have HA6 := Lib.hid hA6
  have HMX := Lib.hid hmx
  have HG6 := Lib.hid (HG5.out.below hb6 HG5.out.lt)
  have HX6 := Lib.hid (HX5.out.below hb6 HX5.out.lt)
  have HB6 := Lib.hid (HB5.out.trans (hb6.mono HB5.out.size))
  have HR6 := Lib.hid (HR5.out.below hb6 HR5.out.1)
  have c0' : w6.cell? ⟨g4, 0, none⟩ = some (.int .u8 (z 4)) := (HX6.out.cell 0).trans ((pdC_kd _).trans (by rw [HK.out]))
  have HST := Lib.hid (isState_any (z 4) w6)
  clear ho6 hi6 hb6 hA6 hmx c0
  rw [show decide (cls (z 4) = 2) = false by rw [HQ.out]; exact decide_eq_false HQ2.out] at HST
  go_wp2_with fail
  refine HST.out.mono ?_
  rintro e w7 ⟨rfl, rfl⟩
  go_wp2_with (first
    | (refine wpList_st rfl 40 (.tmp 41) (.tmp 40) rfl g4 46 rfl (.slice A6 m c6) #[.slice A6 m c6] rfl rfl (by kernel_rfl) (by kernel_rfl) HX6.out (Nat.le_of_ble_eq_true rfl) (C' := pdC (withT (rdP q z) A6 m c6)) (by kernel_rfl) ?_; intro w8 hst8; refine Hid.out ?_))
  refine Lib.hid ?_
  have HX8 : Hid (PdT 46 w8 g4 (withT (rdP q z) A6 m c6)) := Lib.hid hst8.1
  have HG8 : Hid (PdT 46 w8 g pd0) := Lib.hid (HG6.out.far hst8 (by omega))
  have HB8 : Hid (Below w.heap.size w w8) := Lib.hid (HB6.out.trans (hst8.2.1 _ (by rw [HGG.out]; omega)))
  have HO8 := Lib.hid (HO6.out.far hst8 hg45)
  clear hst8 c0'
  go_wp2_with (first
    | (refine wpList_load_mid rfl 46 (.tmp 4) rfl g4 0 rfl (pdC (withT (rdP q z) A6 m c6)).toList _ HX8.out.all Tryd.underlying46 rfl info_pdP ?_)
    | (refine wpList_st rfl 46 (.tmp 2) (.tmp 42) rfl g 0 rfl (.agg (pdC (withT (rdP q z) A6 m c6))) (pdC (withT (rdP q z) A6 m c6)) rfl rfl info_pdP (pdC_one _) HG8.out (Nat.le_of_ble_eq_true rfl) (pd_all _ _) ?_; intro w9 hst9; refine Hid.out ?_))
  refine Lib.hid ?_
  have HG9 : Hid (PdT 46 w9 g (withT (rdP q z) A6 m c6)) := Lib.hid hst9.1
  have HB9 : Hid (Below w.heap.size w w9) := Lib.hid (HB8.out.trans (hst9.2.1 _ (by rw [HGG.out]; exact Nat.le_refl _)))
  have HO9 := Lib.hid (HO8.out.far hst9 (by omega))
  have HO9' : Hid (OwnT w9 w.heap.size (.slice A6 m c6) m L6) := Lib.hid ⟨ownsRow_mono HO9.out.1 HB5.out.size, fun j hj => (HO9.out.2 j hj).mono HB5.out.size⟩
  clear hst9
  go_wp2_with fail
  exact bodyPost_ret (results_rd (u := 3) rfl _ w9 g _ (.int .i64 0) rfl HG9.out rfl) rfl ⟨A6, c6, L6, rfl, HO9'.out, HI6.out, HA6.out, hmc, HMX.out, HB9.out⟩
end Go.Proofs.YtccoicjmmeoggaaDoor

/- The document's Same of two packets: packets that are alike are the same. Each theorem states its conditions. -/
namespace Go.Proofs.YtccoicjmmeoggaaDoor
open Go.RowKit
set_option linter.unusedVariables false

theorem guard_nd : Tryd.prog.eqGuardType Tryd.prog.depth 36 = false := by kernel_rfl
theorem guard_id : Tryd.prog.eqGuardType Tryd.prog.depth 38 = false := by kernel_rfl
theorem nd_self (s : Nat → Int) (hs : ∀ j, 0 ≤ s j ∧ s j ≤ 255) : SelfEq 10000 36 (.agg (ndC s)) := self_node 9997 s hs
theorem id_selfs (s : Nat → Int) (hs : ∀ j, 0 ≤ s j ∧ s j ≤ 255) : SelfEq 10000 38 (.agg (idC s)) := self_id 9996 s hs
set_option maxHeartbeats 4000000 in
set_option maxRecDepth 100000 in
theorem same_pd (p p' : Pd) (L L' : Nat → It) (w : World) (hp : PdOk p) (hpp : pdC p' = pdC (withT p p'.A p'.m p'.c)) (ha : RdT w p.A p.m L) (hb : RdT w p'.A p'.m L') (hm : p'.m = p.m) (hmm : p.m ≤ 9223372036854775807)
    (he : ∀ j, j < p.m → (L j).ty = (L' j).ty ∧ (L j).n = (L' j).n ∧ ∀ i, i < (L j).n → (L j).z i = (L' j).z i) :
    Calls Tryd.prog 24 #[.agg (pdC p), .agg (pdC p')] w fun e w' => e = .returned (.bool true) ∧ Below w.heap.size w w' := by
  obtain ⟨W1, hW1⟩ : ∃ W1, (w.alloc (.cells (pdC p) 42)).alloc (.cells (pdC (withT p p'.A p'.m p'.c)) 42) = W1 := ⟨_, rfl⟩
  obtain ⟨X, hX⟩ : ∃ X, w.heap.size = X := ⟨_, rfl⟩
  have hx1 : PdT 42 W1 X p := by rw [← hW1, ← hX]; exact (Below.heap_alloc _ _ _ (by simp)).trans (heap_alloc_new w _)
  have hy1 : PdT 42 W1 (X + 1) (withT p p'.A p'.m p'.c) := by
    have := heap_alloc_new (w.alloc (.cells (pdC p) 42)) (.cells (pdC (withT p p'.A p'.m p'.c)) 42)
    rw [hW1, World.size_alloc, hX] at this
    exact this
  have hb1 : Below w.heap.size w W1 := by rw [← hW1]; exact ((bself w).alloc (Nat.le_refl _) _).alloc (by simp) _
  have HX1 := Lib.hid hx1
  have HY1 := Lib.hid hy1
  have HB1 := Lib.hid hb1
  have HW1 := Lib.hid hW1
  have HXX := Lib.hid hX
  have HP := Lib.hid hp
  have HS := Lib.hid (sameL_yes p.A p'.A p.m p.c p'.c L L' W1 (ha.below hb1) (by rw [← hm]; exact hb.below hb1) he hmm)
  rw [hpp]
  obtain ⟨p'A, hpA⟩ : ∃ a, p'.A = a := ⟨_, rfl⟩
  obtain ⟨p'c, hpc⟩ : ∃ a, p'.c = a := ⟨_, rfl⟩
  rw [hpA, hm, hpc] at HY1 HW1 ⊢
  rw [hpA, hpc] at HS
  have x_kd : W1.cell? ⟨X, 0, none⟩ = some (.int .u8 p.kd) := (hx1.cell 0).trans rfl
  have y_kd : W1.cell? ⟨X + 1, 0, none⟩ = some (.int .u8 p.kd) := (hy1.cell 0).trans rfl
  have x_ci : W1.cell? ⟨X, 1, none⟩ = some (.int .u8 p.ci) := (hx1.cell 1).trans rfl
  have y_ci : W1.cell? ⟨X + 1, 1, none⟩ = some (.int .u8 p.ci) := (hy1.cell 1).trans rfl
  have x_ho : W1.cell? ⟨X, 9, none⟩ = some (.int .i64 p.ho) := (hx1.cell 9).trans rfl
  have y_ho : W1.cell? ⟨X + 1, 9, none⟩ = some (.int .i64 p.ho) := (hy1.cell 9).trans rfl
  have x_nu : W1.cell? ⟨X, 10, none⟩ = some (.int .u8 p.nu) := (hx1.cell 10).trans rfl
  have y_nu : W1.cell? ⟨X + 1, 10, none⟩ = some (.int .u8 p.nu) := (hy1.cell 10).trans rfl
  have x_pr : W1.cell? ⟨X, 11, none⟩ = some (.int .u8 p.pr) := (hx1.cell 11).trans rfl
  have y_pr : W1.cell? ⟨X + 1, 11, none⟩ = some (.int .u8 p.pr) := (hy1.cell 11).trans rfl
  have x_li : W1.cell? ⟨X, 19, none⟩ = some (.int .i64 p.li) := (hx1.cell 19).trans rfl
  have y_li : W1.cell? ⟨X + 1, 19, none⟩ = some (.int .i64 p.li) := (hy1.cell 19).trans rfl
  have x_sq : W1.cell? ⟨X, 28, none⟩ = some (.int .u32 (p.sq : Int)) := (hx1.cell 28).trans rfl
  have y_sq : W1.cell? ⟨X + 1, 28, none⟩ = some (.int .u32 (p.sq : Int)) := (hy1.cell 28).trans rfl
  have x_bi : W1.cell? ⟨X, 29, none⟩ = some (.int .u8 p.bi) := (hx1.cell 29).trans rfl
  have y_bi : W1.cell? ⟨X + 1, 29, none⟩ = some (.int .u8 p.bi) := (hy1.cell 29).trans rfl
  have x_tl : W1.cell? ⟨X, 46, none⟩ = some (.slice p.A p.m p.c) := (hx1.cell 46).trans rfl
  have y_tl : W1.cell? ⟨X + 1, 46, none⟩ = some (.slice p'A p.m p'c) := (HY1.out.cell 46).trans rfl
  clear hx1 hy1 hb1 hW1 hX hp ha hb he hpp hm hpA hpc
  go_enter Tryd.func24, Tryd.ntmps24
  go_wp2_with (rw [HW1.out, HXX.out]; refine Hid.out ?_)
  refine Lib.hid ?_
  go_wp2_with (refine wpList_gv (op := ⟨some 19, _, _, _, _, _⟩) _ (by rfl) (load_rng _ _ 36 _ rfl X 2 rfl (ndC p.so).toList _ HX1.out.so Tryd.underlying36 rfl info_node) ?_; refine Hid.out ?_)
  refine Lib.hid ?_
  go_wp2_with (refine wpList_gv (op := ⟨some 21, _, _, _, _, _⟩) _ (by rfl) (load_rng _ _ 36 _ rfl (X + 1) 2 rfl (ndC p.so).toList _ HY1.out.so Tryd.underlying36 rfl info_node) ?_; refine Hid.out ?_)
  refine Lib.hid ?_
  go_wp2_with (refine wpList_gv (op := ⟨some 22, _, _, _, _, _⟩) _ (by rfl) (neq_self _ _ _ _ _ _ rfl rfl guard_nd _ (nd_self p.so HP.out.1.2.2.1) rfl rfl _) ?_; refine Hid.out ?_)
  refine Lib.hid ?_
  go_wp2_with (refine wpList_gv (op := ⟨some 47, _, _, _, _, _⟩) _ (by rfl) (load_rng _ _ 36 _ rfl X 12 rfl (ndC p.la).toList _ HX1.out.la Tryd.underlying36 rfl info_node) ?_; refine Hid.out ?_)
  refine Lib.hid ?_
  go_wp2_with (refine wpList_gv (op := ⟨some 49, _, _, _, _, _⟩) _ (by rfl) (load_rng _ _ 36 _ rfl (X + 1) 12 rfl (ndC p.la).toList _ HY1.out.la Tryd.underlying36 rfl info_node) ?_; refine Hid.out ?_)
  refine Lib.hid ?_
  go_wp2_with (refine wpList_gv (op := ⟨some 50, _, _, _, _, _⟩) _ (by rfl) (neq_self _ _ _ _ _ _ rfl rfl guard_nd _ (nd_self p.la HP.out.1.2.2.2.2.2.2) rfl rfl _) ?_; refine Hid.out ?_)
  refine Lib.hid ?_
  go_wp2_with (refine wpList_gv (op := ⟨some 59, _, _, _, _, _⟩) _ (by rfl) (load_rng _ _ 38 _ rfl X 20 rfl (idC p.id).toList _ HX1.out.id Tryd.underlying38 rfl info_id) ?_; refine Hid.out ?_)
  refine Lib.hid ?_
  go_wp2_with (refine wpList_gv (op := ⟨some 61, _, _, _, _, _⟩) _ (by rfl) (load_rng _ _ 38 _ rfl (X + 1) 20 rfl (idC p.id).toList _ HY1.out.id Tryd.underlying38 rfl info_id) ?_; refine Hid.out ?_)
  refine Lib.hid ?_
  go_wp2_with (refine wpList_gv (op := ⟨some 62, _, _, _, _, _⟩) _ (by rfl) (eql_self _ _ _ _ _ _ rfl rfl guard_id _ (id_selfs p.id HP.out.2.2.1) rfl rfl _) ?_; refine Hid.out ?_)
  refine Lib.hid ?_
  go_wp2_with (refine wpList_gv (op := ⟨some 80, _, _, _, _, _⟩) _ (by rfl) (load_rng _ _ 38 _ rfl X 30 rfl (idC p.st).toList _ HX1.out.st Tryd.underlying38 rfl info_id) ?_; refine Hid.out ?_)
  refine Lib.hid ?_
  go_wp2_with (refine wpList_gv (op := ⟨some 82, _, _, _, _, _⟩) _ (by rfl) (load_rng _ _ 38 _ rfl (X + 1) 30 rfl (idC p.st).toList _ HY1.out.st Tryd.underlying38 rfl info_id) ?_; refine Hid.out ?_)
  refine Lib.hid ?_
  go_wp2_with (refine wpList_gv (op := ⟨some 83, _, _, _, _, _⟩) _ (by rfl) (eql_self _ _ _ _ _ _ rfl rfl guard_id _ (id_selfs p.st HP.out.2.2.2.2.2.1) rfl rfl _) ?_; refine Hid.out ?_)
  refine Lib.hid ?_
  go_wp2_with (refine wpList_gv (op := ⟨some 87, _, _, _, _, _⟩) _ (by rfl) (load_rng _ _ 38 _ rfl X 38 rfl (idC p.en).toList _ HX1.out.en Tryd.underlying38 rfl info_id) ?_; refine Hid.out ?_)
  refine Lib.hid ?_
  go_wp2_with (refine wpList_gv (op := ⟨some 89, _, _, _, _, _⟩) _ (by rfl) (load_rng _ _ 38 _ rfl (X + 1) 38 rfl (idC p.en).toList _ HY1.out.en Tryd.underlying38 rfl info_id) ?_; refine Hid.out ?_)
  refine Lib.hid ?_
  go_wp2_with (refine wpList_gv (op := ⟨some 90, _, _, _, _, _⟩) _ (by rfl) (eql_self _ _ _ _ _ _ rfl rfl guard_id _ (id_selfs p.en HP.out.2.2.2.2.2.2) rfl rfl _) ?_; refine Hid.out ?_)
  refine Lib.hid ?_
  go_wp2_with fail
  refine HS.out.mono ?_
  rintro e w2 ⟨rfl, k, rfl⟩
  go_wp2_with fail
  go_ret
  exact ⟨rfl, bdrewN HB1.out k⟩
end Go.Proofs.YtccoicjmmeoggaaDoor
