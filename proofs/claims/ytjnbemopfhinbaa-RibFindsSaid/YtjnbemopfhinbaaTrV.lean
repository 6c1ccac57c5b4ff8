/- The trie's calls, told by what stands under which bits. Each theorem states its conditions. -/
import Derived.Test.YtjnbemopfhinbaaTrI
import Derived.Test.YtjnbemopfhinbaaTrU
import Derived.Test.YtjnbemopfhinbaaTrLs
namespace Go.Proofs.Ytjnbemopfhinbaa
open Go.RowKit
set_option linter.unusedVariables false
set_option linter.unusedSimpArgs false

namespace Tr
def sz : Tr → Nat
  | nil => 0
  | nd _ _ l r => sz l + sz r + 1
theorem sz_ins (p : List Bool) (v : Int) : ∀ t : Tr, sz (ins p v t) ≤ sz t + 2
  | nil => by simp [ins, leaf, sz]
  | nd q h l r => by
    have h1 := sz_ins p v l
    have h2 := sz_ins p v r
    unfold ins
    split
    · simp [sz]
    split
    · split
      · simp only [sz]; omega
      · simp only [sz]; omega
    split
    · split <;> simp only [sz] <;> omega
    · split <;> simp only [sz, leaf] <;> omega
theorem lst_sz : ∀ t : Tr, (lst t).length ≤ sz t
  | nil => Nat.le_refl _
  | nd q h l r => by
    have h1 := lst_sz l
    have h2 := lst_sz r
    simp only [lst, sz, List.length_append]
    split <;> simp <;> omega
theorem pre_uniq {x y p : List Bool} (hx : x <+: p) (hy : y <+: p) (h : x.length = y.length) : x = y := by
  rw [List.prefix_iff_eq_take] at hx hy
  rw [hx, hy, h]
end Tr
def Ts.sz (T : Ts) : Nat := T.h4.bits.sz + T.h6.bits.sz
theorem Ts.cnt_sz (T : Ts) : T.cnt ≤ T.sz := Nat.add_le_add (Tr.lst_sz _) (Tr.lst_sz _)
/-- what stands under a key -/
def Ts.G (T : Ts) (k : Bool × List Bool) : Option Int := T.g k.1 k.2
def kyP (fam len : Int) (z : Nat → Int) : Option (Bool × List Bool) := if Form fam len z then some (decide (fam = 6), btP len.toNat z) else none
theorem ky_no {fam len : Int} {z : Nat → Int} (h : ¬ Form fam len z) : kyP fam len z = none := if_neg h
theorem form_nat {fam len : Int} {z : Nat → Int} (h : Form fam len z) : ∃ n : Nat, len = n ∧ n ≤ 128 := by
  have h1 : 0 ≤ len := by rcases h.1 with h1 | h1 <;> omega
  obtain ⟨n, rfl⟩ := Int.eq_ofNat_of_zero_le h1
  exact ⟨n, rfl, form_len h⟩
theorem ky_yes {fam : Int} {n : Nat} {z : Nat → Int} (h : Form fam n z) : ∃ pl, fam = famB pl ∧ kyP fam n z = some (pl, btP n z) := by
  obtain ⟨pl, rfl⟩ := form_pl h
  refine ⟨pl, rfl, ?_⟩
  unfold kyP
  rw [if_pos h, Int.toNat_natCast]
  cases pl <;> rfl
/-- what a call that makes something stand, or nothing any more, leaves -/
structure TsN (B s : Nat) (T T' : Ts) (k : Option (Bool × List Bool)) (x : Option Int) (w w' : World) : Prop where
  at_ : TsAt w' B s T'
  g : ∀ q, T'.G q = if k = some q then x else T.G q
  sz : T'.sz ≤ T.sz + 2
  kp : Kp (s :: T.fp) w w'
  fp : ∀ i, i ∈ T'.fp → i ∈ T.fp ∨ w.heap.size ≤ i
  cn : ∀ q, k = some q → T'.cnt + (if T.G q = none then 0 else 1) = T.cnt + (if x = none then 0 else 1)
theorem TsN.below {B s : Nat} {T T' : Ts} {k : Option (Bool × List Bool)} {x : Option Int} {w w' : World} (h : TsN B s T T' k x w w') (hT : TsAt w B s T) (hB : B ≤ w.heap.size) : Below B w w' :=
  h.kp.below (fun i hi => by rcases List.mem_cons.1 hi with h1 | h1; exact h1 ▸ hT.bs; exact hT.lo i h1) hB
theorem tsn_same {B s : Nat} {T : Ts} {k : Option (Bool × List Bool)} {x : Option Int} {w w' : World} (hT : TsAt w B s T) (hb : Below w.heap.size w w') (hk : ∀ q, k = some q → T.G q = x) : TsN B s T T k x w w' :=
  ⟨hT.below hb hT.lt, fun q => by split; exact hk q (by assumption); rfl, by omega, Kp.of_below _ hb, fun i hi => .inl hi, fun q hq => by rw [hk q hq]⟩
theorem tsn_set {B s : Nat} {T : Ts} {pl : Bool} {t' : Tr} {x : Option Int} {p : List Bool} {w w' : World} (hT : TsAt w B s T) (h : SetP B s T pl t' w w') (hg : ∀ y, Tr.get t' y = if y = p then x else Tr.get (T.h pl).bits y) (hs : t'.sz ≤ (T.h pl).bits.sz + 2) (hc : t'.lst.length + (if Tr.get (T.h pl).bits p = none then 0 else 1) = (T.h pl).bits.lst.length + (if x = none then 0 else 1)) : ∃ T', TsN B s T T' (some (pl, p)) x w w' := by
  obtain ⟨t, h1, h2, h3, h4⟩ := h
  refine ⟨T.put pl t, h2, ?_, ?_, ⟨h3.os, h3.tape, h3.output, h3.size, fun i hi hx => h3.block i hi (fun h9 => hx (by rcases List.mem_cons.1 h9 with h8 | h8; exact h8 ▸ List.mem_cons_self ..; exact List.mem_cons_of_mem _ (fp_sub T pl i h8)))⟩, ?_, ?_⟩
  · rintro ⟨q, y⟩
    show Tr.get ((T.put pl t).h q).bits y = if some (pl, p) = some (q, y) then x else Tr.get (T.h q).bits y
    by_cases e : q = pl
    · subst e
      rw [put_h, h1, hg]
      by_cases e2 : y = p
      · subst e2; rw [if_pos rfl, if_pos rfl]
      · rw [if_neg e2, if_neg (fun h9 => e2 (Prod.mk.inj (Option.some.inj h9)).2.symm)]
    · have e2 : q = !pl := by cases q <;> cases pl <;> simp_all
      rw [e2, put_o, if_neg (fun h9 => e (e2.trans (Prod.mk.inj (Option.some.inj h9)).1.symm))]
  · cases pl with
    | false => show t.bits.sz + T.h6.bits.sz ≤ T.h4.bits.sz + T.h6.bits.sz + 2; rw [h1]; have : t'.sz ≤ T.h4.bits.sz + 2 := hs; omega
    | true => show T.h4.bits.sz + t.bits.sz ≤ T.h4.bits.sz + T.h6.bits.sz + 2; rw [h1]; have : t'.sz ≤ T.h6.bits.sz + 2 := hs; omega
  · intro i hi
    cases pl with
    | false =>
      rcases List.mem_append.1 hi with h9 | h9
      · exact (h4 i h9).imp_left (fp_sub T false i)
      · exact .inl (fp_sub T true i h9)
    | true =>
      rcases List.mem_append.1 hi with h9 | h9
      · exact .inl (fp_sub T false i h9)
      · exact (h4 i h9).imp_left (fp_sub T true i)
  · intro q hq
    rw [← Option.some.inj hq]
    have hc' : t'.lst.length + (if T.G (pl, p) = none then 0 else 1) = (T.h pl).bits.lst.length + (if x = none then 0 else 1) := hc
    cases pl with
    | false => show t.bits.lst.length + T.h6.bits.lst.length + _ = T.h4.bits.lst.length + T.h6.bits.lst.length + _; rw [h1]; have h9 : (T.h false).bits = T.h4.bits := rfl; rw [h9] at hc'; omega
    | true => show T.h4.bits.lst.length + t.bits.lst.length + _ = T.h4.bits.lst.length + T.h6.bits.lst.length + _; rw [h1]; have h9 : (T.h true).bits = T.h6.bits := rfl; rw [h9] at hc'; omega
theorem ins_T (B s : Nat) (T : Ts) (fam len v : Int) (z : Nat → Int) (hz : Bytes z) (w : World) (hT : TsAt w B s T) (hB : B ≤ w.heap.size) (hs : T.sz ≤ 100000) :
    Calls Try.prog 14 #[.pointer (some ⟨s, 0, none⟩), .agg (pvC fam len z), .int .i64 v] w fun e w' => ∃ T', e = .returned (.int .i64 (if Form fam len z then 0 else 3)) ∧ TsN B s T T' (kyP fam len z) (some v) w w' := by
  by_cases hf : Form fam len z
  · rw [if_pos hf]
    obtain ⟨n, rfl, hn⟩ := form_nat hf
    obtain ⟨pl, rfl, hk⟩ := ky_yes hf
    rw [hk]
    have hc : T.cnt ≤ 100000 := Nat.le_trans T.cnt_sz hs
    have fin : ∀ w', SetP B s T pl (Tr.ins (btP n z) v (T.h pl).bits) w w' → ∃ T', TsN B s T T' (some (pl, btP n z)) (some v) w w' := fun w' h => tsn_set hT h (fun y => Tr.get_ins (hT.ok.o pl) List.nil_prefix y) (Tr.sz_ins _ _ _) (by rw [Tr.lst_ins (hT.ok.o pl), if_neg (show ¬ some v = none by simp)]; split <;> omega)
    cases pl with
    | false =>
      cases hg : T.g false (btP n z) with
      | none =>
        refine (insert_new_4 B s n v T z hz hf w hT hg hB hc).mono ?_
        rintro e w' ⟨rfl, h⟩
        obtain ⟨T', h9⟩ := fin w' h
        exact ⟨T', rfl, h9⟩
      | some v0 =>
        refine (insert_old_4 B s n v v0 T z hz hf w hT hg hB hc).mono ?_
        rintro e w' ⟨rfl, h⟩
        obtain ⟨T', h9⟩ := fin w' h
        exact ⟨T', rfl, h9⟩
    | true =>
      cases hg : T.g true (btP n z) with
      | none =>
        refine (insert_new_6 B s n v T z hz hf w hT hg hB hc).mono ?_
        rintro e w' ⟨rfl, h⟩
        obtain ⟨T', h9⟩ := fin w' h
        exact ⟨T', rfl, h9⟩
      | some v0 =>
        refine (insert_old_6 B s n v v0 T z hz hf w hT hg hB hc).mono ?_
        rintro e w' ⟨rfl, h⟩
        obtain ⟨T', h9⟩ := fin w' h
        exact ⟨T', rfl, h9⟩
  · rw [if_neg hf, ky_no hf]
    refine (insert_bad (some ⟨s, 0, none⟩) fam len v z hz hf w).mono ?_
    rintro e w' ⟨rfl, h⟩
    exact ⟨T, rfl, tsn_same hT h (fun q h9 => by cases h9)⟩
def getQ (T : Ts) : Option (Bool × List Bool) → Value
  | none => .tuple #[.int .i64 0, .bool false, .int .i64 3]
  | some k => getV (T.G k)
theorem get_T (B s : Nat) (T : Ts) (fam len : Int) (z : Nat → Int) (hz : Bytes z) (w : World) (hT : TsAt w B s T) :
    Calls Try.prog 42 #[.pointer (some ⟨s, 0, none⟩), .agg (pvC fam len z)] w fun e w' => e = .returned (getQ T (kyP fam len z)) ∧ Below w.heap.size w w' := by
  by_cases hf : Form fam len z
  · obtain ⟨n, rfl, hn⟩ := form_nat hf
    obtain ⟨pl, rfl, hk⟩ := ky_yes hf
    rw [hk]
    cases pl with
    | false => exact get_4 B s n T z hz hf w hT
    | true => exact get_6 B s n T z hz hf w hT
  · rw [ky_no hf]
    exact get_bad (some ⟨s, 0, none⟩) fam len z hz hf w
open Classical in
/-- the bytes of these bits -/
noncomputable def zOf (x : List Bool) : Nat → Int := if h : ∃ z : Nat → Int, Bytes z ∧ (∃ fam n, Form fam (n : Nat) z ∧ btP n z = x) then Classical.choose h else Z0
theorem pv_of {fam : Int} {n : Nat} {z : Nat → Int} (hz : Bytes z) (hf : Form fam n z) : pvC fam n z = pvC fam ((btP n z).length : Nat) (zOf (btP n z)) := by
  have hx : ∃ z' : Nat → Int, Bytes z' ∧ (∃ fam' n', Form fam' (n' : Nat) z' ∧ btP n' z' = btP n z) := ⟨z, hz, fam, n, hf, rfl⟩
  unfold zOf
  rw [dif_pos hx]
  obtain ⟨h1, fam', n', h2, h3⟩ := Classical.choose_spec hx
  obtain ⟨a1, a2⟩ := (btP_eq h1 hz h2 hf).1 h3
  rw [btP_len]
  have e : ∀ j, j < 16 → z j = Classical.choose hx j := fun j hj => (a2 j hj).symm
  unfold pvC
  rw [e 0 (by omega), e 1 (by omega), e 2 (by omega), e 3 (by omega), e 4 (by omega), e 5 (by omega), e 6 (by omega), e 7 (by omega), e 8 (by omega), e 9 (by omega), e 10 (by omega), e 11 (by omega), e 12 (by omega), e 13 (by omega), e 14 (by omega), e 15 (by omega)]
noncomputable def findQ (pl : Bool) : Option (List Bool × Int) → Value
  | none => .tuple #[.agg (pvC 0 0 Z0), .int .i64 0, .bool false, .int .i64 0]
  | some (x, v) => .tuple #[.agg (pvC (famB pl) (x.length : Nat) (zOf x)), .int .i64 v, .bool true, .int .i64 0]
/-- what is found for an address -/
def Ts.F (T : Ts) (pl : Bool) (z : Nat → Int) : Option (List Bool × Int) := Tr.lng (btP (lenB pl) (firstZ z (lenB pl))) (T.h pl).bits none
theorem find_q {pl : Bool} {f : Option Fd} {R : Option (List Bool × Int)} (h : fbit f = R) (hf : ∀ x, f = some x → Bytes x.z ∧ Form (famB pl) x.n x.z) : findV (famB pl) f = findQ pl R := by
  subst h
  cases f with
  | none => rfl
  | some x =>
    obtain ⟨h1, h2⟩ := hf x rfl
    show Value.tuple #[.agg (pvC (famB pl) x.n x.z), _, _, _] = Value.tuple #[.agg (pvC (famB pl) ((btP x.n x.z).length : Nat) (zOf (btP x.n x.z))), _, _, _]
    rw [pv_of h1 h2]
theorem find_T (B s : Nat) (T : Ts) (pl : Bool) (z : Nat → Int) (hz : Bytes z) (w : World) (hT : TsAt w B s T) :
    Calls Try.prog 23 #[.pointer (some ⟨s, 0, none⟩), .int .u8 (famB pl), .agg (agC z)] w fun e w' => e = .returned (findQ pl (T.F pl z)) ∧ Below w.heap.size w w' := by
  cases pl with
  | false =>
    refine (find_4 B s T z hz w hT).mono ?_
    rintro e w' ⟨f, rfl, h1, h2, h3⟩
    exact ⟨congrArg _ (find_q (pl := false) h2 h3), h1⟩
  | true =>
    refine (find_6 B s T z hz w hT).mono ?_
    rintro e w' ⟨f, rfl, h1, h2, h3⟩
    exact ⟨congrArg _ (find_q (pl := true) h2 h3), h1⟩
/-- what Find answers, at any family -/
noncomputable def faR (pl : Bool) : Option (List Bool × Int) → Pf × Int × Bool × Int
  | none => (pf0, 0, false, 0)
  | some (x, v) => (⟨famB pl, (x.length : Nat), zOf x⟩, v, true, 0)
noncomputable def Ts.FA (T : Ts) (fam : Int) (z : Nat → Int) : Pf × Int × Bool × Int := if fam = 4 then faR false (T.F false z) else if fam = 6 then faR true (T.F true z) else (pf0, 0, false, 1)
def faV (a : Pf × Int × Bool × Int) : Value := .tuple #[.agg (pfC a.1), .int .i64 a.2.1, .bool a.2.2.1, .int .i64 a.2.2.2]
theorem zOf_b (x : List Bool) : Bytes (zOf x) := by
  unfold zOf
  split
  · rename_i h; exact (Classical.choose_spec h).1
  · intro j; show (0 : Int) ≤ 0 ∧ (0 : Int) ≤ 255; omega
theorem find_A (B s : Nat) (T : Ts) (fam : Int) (z : Nat → Int) (hz : Bytes z) (w : World) (hT : TsAt w B s T) :
    Calls Try.prog 23 #[.pointer (some ⟨s, 0, none⟩), .int .u8 fam, .agg (agC z)] w fun e w' => e = .returned (faV (T.FA fam z)) ∧ Below w.heap.size w w' := by
  have hq : ∀ pl R, findQ pl R = faV (faR pl R) := fun pl R => by cases R with
    | none => rfl
    | some y => rfl
  unfold Ts.FA
  by_cases h4 : fam = 4
  · rw [if_pos h4, h4, ← hq]
    exact find_T B s T false z hz w hT
  rw [if_neg h4]
  by_cases h6 : fam = 6
  · rw [if_pos h6, h6, ← hq]
    exact find_T B s T true z hz w hT
  rw [if_neg h6]
  exact find_bad (some ⟨s, 0, none⟩) fam z ⟨h4, h6⟩ w
end Go.Proofs.Ytjnbemopfhinbaa
