/- Two texts put together; each theorem states its conditions. -/
import Derived.WalkKit
import Derived.Laws.BitsAllLaws
import Derived.Laws.BitsLemmas
import Derived.Below
import Derived.Test.YtjnbemopfhinbaaRows
import Derived.WalkLawsBesides
import Derived.WalkSpells
import Derived.IntWalk
import Derived.Outline
import Derived.Lib.Hide
import Derived.Maps.AppendAt
import Derived.Laws.AppendOwnNone
import Derived.OwnWalk
import Derived.LoopN
import Derived.RegionTactic
import Derived.ChangeAlike
/- Two texts put together; each theorem states its conditions. -/
/- Plain facts about numbers, bytes and check bytes, without any program. Each theorem states its conditions. -/
namespace Go.Proofs.Ytjnbemopfhinbaa
open Go.RowKit
set_option linter.unusedVariables false

theorem ret_bool {a b : Bool} (h : a = b) : Ending.returned (.bool a) = .returned (.bool b) := by rw [h]

theorem wf_u8 {n : Int} (h : (Lit.int .u8 n).wf = true) : 0 ≤ n ∧ n ≤ 255 := by
  simp [Lit.wf, IntKind.min, IntKind.max, IntKind.bits, IntKind.signed] at h; omega
theorem bself (w : World) : Below w.heap.size w w := Below.refl _ _

/-- a row of n bytes z(0), .. from ⟨b, off⟩ on -/
def Row8 (w : World) (b off n : Nat) (z : Nat → Int) : Prop :=
  b < w.heap.size ∧ (∀ j, j < n → w.cell? ⟨b, off + j, none⟩ = some (.int .u8 (z j))) ∧ ∀ j, 0 ≤ z j ∧ z j ≤ 255

theorem cell_lt {w : World} {p : Addr} {v : Value} (h : w.cell? p = some v) : p.block < w.heap.size := by
  rcases Nat.lt_or_ge p.block w.heap.size with hl | hg
  · exact hl
  · simp [World.cell?, Array.getElem?_eq_none hg] at h

theorem Row8.below {w w' : World} {b off n B : Nat} {z : Nat → Int} (h : Row8 w b off n z) (hb : Below B w w') (hB : b < B) : Row8 w' b off n z := by
  refine ⟨?_, fun j hj => (hb.cell (p := ⟨b, off + j, none⟩) hB).trans (h.2.1 j hj), h.2.2⟩
  have := hb.size
  have := h.1
  omega

end Go.Proofs.Ytjnbemopfhinbaa
/- Plain facts of addresses and their bits, without any program. Each theorem states its conditions. -/
namespace Go.Proofs.Ytjnbemopfhinbaa
open Go.RowKit
set_option linter.unusedVariables false

/-- an address of sixteen bytes, as a value's cells -/
def ag (z : Nat → Int) : Array Value := #[.int .u8 (z 0), .int .u8 (z 1), .int .u8 (z 2), .int .u8 (z 3), .int .u8 (z 4), .int .u8 (z 5), .int .u8 (z 6), .int .u8 (z 7), .int .u8 (z 8), .int .u8 (z 9), .int .u8 (z 10), .int .u8 (z 11), .int .u8 (z 12), .int .u8 (z 13), .int .u8 (z 14), .int .u8 (z 15)]
/-- the upper r bits of a byte -/
def keep (v : Int) (r : Nat) : Int := v / 2 ^ (8 - r) * 2 ^ (8 - r)
/-- the first c bits -/
def firstZ (z : Nat → Int) (c : Nat) : Nat → Int := fun j => if 8 * (j + 1) ≤ c then z j else if c ≤ 8 * j then 0 else keep (z j) (c - 8 * j)
/-- bit i -/
def bitZ (z : Nat → Int) (i : Nat) : Int := z (i / 8) / 2 ^ (7 - i % 8) % 2
/-- family and length are right -/
def Sized (fam len : Int) : Prop := (fam = 4 ∧ 0 ≤ len ∧ len ≤ 32) ∨ (fam = 6 ∧ 0 ≤ len ∧ len ≤ 128)
instance (fam len : Int) : Decidable (Sized fam len) := by unfold Sized; infer_instance
/-- in form -/
def Form (fam len : Int) (z : Nat → Int) : Prop := Sized fam len ∧ ∀ j, j < 16 → firstZ z len.toNat j = z j
instance (fam len : Int) (z : Nat → Int) : Decidable (Form fam len z) := by unfold Form; infer_instance
def Bytes (z : Nat → Int) : Prop := ∀ j, 0 ≤ z j ∧ z j ≤ 255

theorem keep_bd {v : Int} (h : 0 ≤ v ∧ v ≤ 255) (r : Nat) (hr : r ≤ 8) : 0 ≤ keep v r ∧ keep v r ≤ 255 := by
  unfold keep
  rcases (by omega : r = 0 ∨ r = 1 ∨ r = 2 ∨ r = 3 ∨ r = 4 ∨ r = 5 ∨ r = 6 ∨ r = 7 ∨ r = 8) with rfl | rfl | rfl | rfl | rfl | rfl | rfl | rfl | rfl <;> simp <;> omega
theorem firstZ_bd {z : Nat → Int} (h : Bytes z) (c : Nat) : Bytes (firstZ z c) := by
  intro j; unfold firstZ
  split
  · exact h j
  · split
    · omega
    · exact keep_bd (h j) _ (by omega)
/-- &^ with what a shift of ff leaves keeps the upper bits -/
theorem keep_andNot (v : Int) (h : 0 ≤ v ∧ v ≤ 255) (r : Nat) (h0 : 0 < r) (h1 : r < 8) : bits .andNot .u8 v (255 / 2 ^ r) = keep v r := by
  obtain ⟨n, rfl⟩ := Int.eq_ofNat_of_zero_le h.1
  have hn : n < 256 := by omega
  have key : ∀ r, r < 8 → ∀ n : Nat, n < 256 → bits .andNot .u8 (n : Int) (255 / 2 ^ r) = (n : Int) / 2 ^ (8 - r) * 2 ^ (8 - r) := by decide +kernel
  exact key r h1 n hn
/-- the upper r bits are all just if the bits behind them are nought -/
theorem keep_bits (v : Int) (h : 0 ≤ v ∧ v ≤ 255) (r : Nat) (h1 : r < 8) : keep v r = v ↔ ∀ i, i < 8 → r ≤ i → v / 2 ^ (7 - i) % 2 = 0 := by
  obtain ⟨n, rfl⟩ := Int.eq_ofNat_of_zero_le h.1
  have hn : n < 256 := by omega
  have key : ∀ r, r < 8 → ∀ n : Nat, n < 256 → ((n : Int) / 2 ^ (8 - r) * 2 ^ (8 - r) = (n : Int) ↔ ∀ i, i < 8 → r ≤ i → (n : Int) / 2 ^ (7 - i) % 2 = 0) := by decide +kernel
  exact key r h1 n hn
theorem firstZ_lo {z : Nat → Int} {c j : Nat} (h : 8 * (j + 1) ≤ c) : firstZ z c j = z j := by unfold firstZ; rw [if_pos h]
theorem firstZ_hi {z : Nat → Int} {c j : Nat} (h : c ≤ 8 * j) : firstZ z c j = 0 := by unfold firstZ; rw [if_neg (by omega), if_pos h]
theorem firstZ_mid {z : Nat → Int} {c j : Nat} (h : 8 * j < c) (h' : c < 8 * (j + 1)) : firstZ z c j = keep (z j) (c - 8 * j) := by unfold firstZ; rw [if_neg (by omega), if_neg (by omega)]
/-- in form just if all bits behind are nought -/
theorem form_bits (z : Nat → Int) (hz : Bytes z) (c : Nat) (hc : c ≤ 128) : (∀ j, j < 16 → firstZ z c j = z j) ↔ ∀ i, c ≤ i → i < 128 → bitZ z i = 0 := by
  constructor
  · intro h i h1 h2
    have hj := h (i / 8) (by omega)
    unfold bitZ
    by_cases e : c ≤ 8 * (i / 8)
    · rw [firstZ_hi e] at hj
      rw [← hj]; simp
    · rw [firstZ_mid (by omega) (by omega)] at hj
      exact (keep_bits _ (hz _) _ (by omega)).1 hj (i % 8) (by omega) (by omega)
  · intro h j hj
    by_cases e1 : 8 * (j + 1) ≤ c
    · exact firstZ_lo e1
    · by_cases e2 : c ≤ 8 * j
      · rw [firstZ_hi e2]
        have hk : keep (z j) 0 = z j := (keep_bits _ (hz j) 0 (by omega)).2 (fun i hi _ => by
          have := h (8 * j + i) (by omega) (by omega)
          unfold bitZ at this
          rwa [show (8 * j + i) / 8 = j by omega, show (8 * j + i) % 8 = i by omega] at this)
        rw [← hk]
        unfold keep
        have := hz j
        simp
        omega
      · rw [firstZ_mid (by omega) (by omega)]
        exact (keep_bits _ (hz j) _ (by omega)).2 (fun i hi hr => by
          have := h (8 * j + i) (by omega) (by omega)
          unfold bitZ at this
          rwa [show (8 * j + i) / 8 = j by omega, show (8 * j + i) % 8 = i by omega] at this)
end Go.Proofs.Ytjnbemopfhinbaa
/- Two texts put together; each theorem states its conditions. -/
/- Rows of bytes that a call reads or makes: what is known of them, and what becomes of it. Twin answers a row of its own. Each theorem states its conditions. -/
namespace Go.Proofs.Ytjnbemopfhinbaa
open Go.RowKit
set_option linter.unusedVariables false

/-- block g is a row of bytes of the call's own: cap cells, the first n are z(0), .. -/
def Own8 (w : World) (g n cap : Nat) (z : Nat → Int) : Prop :=
  (∃ cur : Array Value, w.heap[g]? = some (.cells cur 5 (0, 0)) ∧ n ≤ cap ∧ cap ≤ maxLen ∧ cur.size = cap ∧ ∀ j, j < n → cur[j]? = some (.int .u8 (z j))) ∧ ∀ j, 0 ≤ z j ∧ z j ≤ 255

/-- bytes that can be read: none, or a row -/
def Rd (w : World) (A : Option Addr) (n : Nat) (z : Nat → Int) : Prop :=
  (n = 0 ∨ ∃ b off, A = some ⟨b, off, none⟩ ∧ Row8 w b off n z) ∧ ∀ j, 0 ≤ z j ∧ z j ≤ 255

section
variable {w w' : World} {g n cap b off : Nat} {z : Nat → Int} {A : Option Addr}

theorem Own8.lt (h : Own8 w g n cap z) : g < w.heap.size := by
  obtain ⟨⟨cur, hg, _⟩, _⟩ := h
  exact (Array.getElem?_eq_some_iff.1 hg).1
theorem Own8.row (h : Own8 w g n cap z) : Row8 w g 0 n z := by
  refine ⟨h.lt, fun j hj => ?_, h.2⟩
  obtain ⟨⟨cur, hg, _, _, _, hc⟩, _⟩ := h
  rw [Nat.zero_add, cell_of_row w g j cur 5 (0, 0) hg]
  exact hc j hj
theorem Own8.free (h : Own8 w g n cap z) (j : Nat) : w.frozen? ⟨g, j, none⟩ = false := by
  obtain ⟨⟨cur, hg, _⟩, _⟩ := h
  simp [World.frozen?, hg]
theorem Own8.block (h : Own8 w g n cap z) (hb : w'.heap[g]? = w.heap[g]?) : Own8 w' g n cap z := by
  obtain ⟨⟨cur, hg, h1⟩, h2⟩ := h
  exact ⟨⟨cur, hb.trans hg, h1⟩, h2⟩
theorem Own8.below {B : Nat} (h : Own8 w g n cap z) (hb : Below B w w') (hB : g < B) : Own8 w' g n cap z := h.block (hb.block g hB)
theorem Own8.grown {row : Option Nat} (h : Own8 w g n cap z) (hb : w.grownBy w' row) (hne : some g ≠ row) : Own8 w' g n cap z := h.block (hb.block g h.lt hne)
theorem Own8.alloc (h : Own8 w g n cap z) (o : Obj) : Own8 (w.alloc o) g n cap z := h.block (Below.heap_alloc w o g h.lt)
theorem Own8.far (h : Own8 w g n cap z) {p : Addr} (hp : g ≠ p.block) (u : Value) : Own8 (w.setCell p u) g n cap z := h.block (Below.heap_setCell w p u g hp)
/-- a byte is written -/
def upd (z : Nat → Int) (k : Nat) (v : Int) : Nat → Int := fun j => if j = k then v else z j
theorem upd_same (z : Nat → Int) (k : Nat) (v : Int) : upd z k v k = v := by simp [upd]
theorem upd_other (z : Nat → Int) (k j : Nat) (v : Int) (h : j ≠ k) : upd z k v j = z j := by simp [upd, h]
theorem upd_bd (hz : ∀ j, 0 ≤ z j ∧ z j ≤ 255) (k : Nat) (v : Int) (hv : 0 ≤ v ∧ v ≤ 255) : ∀ j, 0 ≤ upd z k v j ∧ upd z k v j ≤ 255 := by
  intro j; unfold upd; split; exact hv; exact hz j
theorem Own8.put (h : Own8 w g n cap z) (k : Nat) (hk : k < n) (v : Int) (hv : 0 ≤ v ∧ v ≤ 255) : Own8 (w.setCell ⟨g, k, none⟩ (.int .u8 v)) g n cap (upd z k v) := by
  obtain ⟨⟨cur, hg, h1, h2, h3, h4⟩, h5⟩ := h
  refine ⟨⟨cur.setIfInBounds k (.int .u8 v), ?_, h1, h2, by simpa using h3, fun j hj => ?_⟩, upd_bd h5 k v hv⟩
  · simp [World.setCell, Array.getElem?_modify, hg]
  · rw [Array.getElem?_setIfInBounds]
    by_cases e : k = j
    · subst e
      rw [if_pos rfl, if_pos (by omega), upd_same]
    · rw [if_neg e, upd_other z k j v (fun x => e x.symm)]
      exact h4 j hj
theorem Own8.cut (h : Own8 w g n cap z) (m : Nat) (hm : m ≤ n) : Own8 w g m cap z := by
  obtain ⟨⟨cur, hg, h1, h2, h3, h4⟩, h5⟩ := h
  exact ⟨⟨cur, hg, by omega, h2, h3, fun j hj => h4 j (by omega)⟩, h5⟩
theorem Own8.rd (h : Own8 w g n cap z) : Rd w (some ⟨g, 0, none⟩) n z := ⟨.inr ⟨g, 0, rfl, h.row⟩, h.2⟩

theorem Rd.below {B : Nat} (h : Rd w A n z) (hb : Below B w w') (hB : B = w.heap.size) : Rd w' A n z := by
  refine ⟨?_, h.2⟩
  rcases h.1 with h0 | ⟨b, off, rfl, hr⟩
  · exact .inl h0
  · exact .inr ⟨b, off, rfl, hr.below hb (by have := hr.1; omega)⟩
theorem Rd.cut (h : Rd w A n z) (m : Nat) (hm : m ≤ n) : Rd w A m z := by
  refine ⟨?_, h.2⟩
  rcases h.1 with h0 | ⟨b, off, rfl, hr⟩
  · exact .inl (by omega)
  · exact .inr ⟨b, off, rfl, hr.1, fun j hj => hr.2.1 j (by omega), hr.2.2⟩
theorem Rd.row (h : Rd w A n z) (hn : 0 < n) : ∃ b off, A = some ⟨b, off, none⟩ ∧ Row8 w b off n z := by
  rcases h.1 with h0 | h1
  · omega
  · exact h1

end

/-- the bytes as a list of values -/
def vals (z : Nat → Int) (n : Nat) : List Value := (List.range n).map fun j => .int .u8 (z j)
theorem vals_at (z : Nat → Int) (n j : Nat) (h : j < n) : (vals z n)[j]? = some (.int .u8 (z j)) := by simp [vals, h]
theorem info_u8 : (Try.prog.info? 5).map (fun i => (i.zero, i.size, i.bytes)) = some (some (.int .u8 0), 1, 1) := by kernel_rfl

end Go.Proofs.Ytjnbemopfhinbaa
/- Spare answers a copy with marked room behind it; SameBytes and Kept answer true where nothing was turned. Each theorem states its conditions. -/
namespace Go.Proofs.Ytjnbemopfhinbaa
open Go.RowKit
set_option linter.unusedVariables false

end Go.Proofs.Ytjnbemopfhinbaa
