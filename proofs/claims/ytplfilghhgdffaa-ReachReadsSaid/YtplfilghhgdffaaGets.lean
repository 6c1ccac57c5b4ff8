/- reach.GetEdges reads edges. Each theorem states its conditions. -/
import Derived.Test.YtplfilghhgdffaaListE
import Derived.Test.YtplfilghhgdffaaEPut
namespace Go.Proofs.Ytplfilghhgdffaa
open Go.RowKit
set_option linter.unusedVariables false

/-- where the next edge begins -/
def eNx (z : Nat → Int) (p : Nat) : Nat := p + 11 + (z (p + 10)).toNat
def eOk (z : Nat → Int) (n p : Nat) : Prop := eNx z p ≤ n
/-- the edge at p -/
def eC (z : Nat → Int) (p : Nat) : Array Value := edC (gEd z p)
theorem recs_eC (z : Nat → Int) : Recs 8 (eC z) := fun j => ⟨rfl, edC_one _⟩
theorem steps_e (z : Nat → Int) (n : Nat) : Steps1 (eNx z) (eOk z n) n := fun p hp ho => ⟨by unfold eNx; omega, ho⟩
theorem reads_e (b off n c : Nat) (z : Nat → Int) (hz : ∀ j, 0 ≤ z j ∧ z j ≤ 255) (hn : n ≤ c) (hc : c ≤ 9223372036854775807) : Reads 27 (eC z) (eNx z) (eOk z n) b off n c z := by
  intro R p W hR hr hbR hp
  refine (getEdge_any R b off n c p (z (p + 10)).toNat z W hR hr hbR hn hc (Int.toNat_of_nonneg (hz _).1).symm hp).mono ?_
  intro e W' h
  rcases h with ⟨h1, h2, h3, h4⟩ | ⟨h1, h2, h3⟩
  · exact .inl ⟨h1, h2, h3, h4⟩
  · exact .inr ⟨by unfold eOk eNx; omega, h2, h3⟩

theorem getEdges_long (A : Option Addr) (n c : Nat) (w : World) (hn : 255 < n) (hl : n ≤ 9223372036854775807) :
    Calls Try.prog 14 #[.slice A n c] w fun e w' => e = .returned (.tuple #[.slice none 0 0, .int .i64 2]) ∧ Below w.heap.size w w' := by
  have H := Lib.hid (list_longE A n c 27 w hn hl)
  go_enter Try.func14, Try.ntmps14
  go_wp2_with fail
  refine H.out.mono ?_
  rintro e w' ⟨rfl, hb⟩
  go_wp2
  go_ret2
  exact ⟨rfl, hb⟩
/-- what GetEdges leaves of 255 bytes or fewer -/
theorem getEdges_any (A : Option Addr) (n c m : Nat) (z : Nat → Int) (w : World) (h : Rd w A n z) (hm : LEnds (eNx z) (eOk z n) n m) (hn : n ≤ 255) (hc : n ≤ c) (hcm : c ≤ 9223372036854775807) :
    Calls Try.prog 14 #[.slice A n c] w (GLPostE w (eC z) (eNx z) n m) := by
  rcases Nat.eq_zero_or_pos n with rfl | h0
  · have hm0 : m = 0 := by
      rcases Nat.eq_zero_or_pos m with e | e
      · exact e
      · have := (hm.1 0 e).1; omega
    subst hm0
    have H := Lib.hid (list_nilE A c 27 w)
    go_enter Try.func14, Try.ntmps14
    go_wp2_with fail
    refine H.out.mono ?_
    rintro e w' ⟨rfl, hb⟩
    go_wp2
    go_ret2
    exact .inl ⟨rfl, _, rfl, World.ownsRow_nil _ _ _ _, hb⟩
  · obtain ⟨b, off, rfl, hr⟩ := h.row h0
    have H := Lib.hid (list_anyE 27 (eC z) (eNx z) (eOk z n) b off n c m z w (reads_e b off n c z hr.2.2 hc hcm) (fun _ _ => by kernel_rfl) (recs_eC z) (steps_e z n) hm hr h0 hn hc hcm)
    clear h hr hm
    go_enter Try.func14, Try.ntmps14
    go_wp2_with fail
    refine H.out.mono ?_
    rintro e w' (⟨h1, v, rfl, h2, h3⟩ | ⟨h1, rfl, h3⟩)
    · have h1 := Lib.hid h1
      go_wp2
      go_ret2
      exact .inl ⟨h1.out, v, rfl, h2, h3⟩
    · have h1 := Lib.hid h1
      go_wp2
      go_ret2
      exact .inr ⟨h1.out, rfl, h3⟩

/-- the bytes of edges are read as these -/
theorem pos_edZ (L : Nat → Ed) (k : Nat) : pos (eNx (edZ L)) k = 11 * k := by
  induction k with
  | zero => rfl
  | succ k ih =>
    show eNx (edZ L) (pos (eNx (edZ L)) k) = _
    rw [ih]
    unfold eNx
    rw [edZ_at L k 10 (by omega)]
    simp
    omega
theorem gEd_edZ (L : Nat → Ed) (k : Nat) (h : (L k).me ≤ 16777215) : eC (edZ L) (11 * k) = edC (L k) := by
  have hz : ∀ i, i < 7 → edZ L (11 * k + i) = (L k).s i := fun i hi => by rw [edZ_at L k i (by omega), if_pos hi]
  have hm : (numZ (fun j => edZ L (11 * k + 7 + j)) 0 3) = ((L k).me : Int) := by
    have e : numZ (fun j => edZ L (11 * k + 7 + j)) 0 3 = numZ (putZ (L k).me 3) 0 3 := by
      have hj : ∀ j, j < 3 → edZ L (11 * k + 7 + j) = putZ (L k).me 3 j := fun j hj => by
        rw [Nat.add_assoc, edZ_at L k (7 + j) (by omega), if_neg (by omega), if_pos (by omega), Nat.add_sub_cancel_left]
      simp only [numZ, Nat.zero_add, hj 0 (by omega), hj 1 (by omega), hj 2 (by omega)]
    rw [e, num_put, put_fits _ _ ((qN3 _).2 h)]
  unfold eC gEd edC
  simp only [hz 0 (by omega), hz 1 (by omega), hz 2 (by omega), hz 3 (by omega), hz 4 (by omega), hz 5 (by omega), hz 6 (by omega), hm]
  simp
theorem lends_edZ (L : Nat → Ed) (m : Nat) : LEnds (eNx (edZ L)) (eOk (edZ L) (11 * m)) (11 * m) m := by
  refine ⟨fun k hk => ?_, .inl (pos_edZ L m)⟩
  have h := pos_edZ L (k + 1)
  refine ⟨by rw [pos_edZ]; omega, ?_⟩
  unfold eOk
  show pos (eNx (edZ L)) (k + 1) ≤ _
  rw [h]; omega
end Go.Proofs.Ytplfilghhgdffaa
