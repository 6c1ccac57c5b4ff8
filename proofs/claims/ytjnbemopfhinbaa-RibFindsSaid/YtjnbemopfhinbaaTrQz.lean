/- Two texts put together; each theorem states its conditions. -/
import Derived.Test.YtjnbemopfhinbaaTrRx
import Derived.Test.YtjnbemopfhinbaaTrQd
import Derived.Deep.DeepCutAuto
/- Two texts put together; each theorem states its conditions. -/
/- Nil tries, the program's and the document's, answer alike. Each theorem states its conditions. -/
namespace Go.Proofs.Ytjnbemopfhinbaa
open Go.RowKit
set_option linter.unusedVariables false
set_option linter.unusedSimpArgs false

def fN (fam : Int) : Int := if fam = 4 ∨ fam = 6 then 6 else 1
theorem findN (fam : Int) (z : Nat → Int) (hz : Bytes z) (w : World) : Calls Try.prog 23 #[.pointer none, .int .u8 fam, .agg (agC z)] w fun e w' => e = .returned (.tuple #[.agg (pvC 0 0 Z0), .int .i64 0, .bool false, .int .i64 (fN fam)]) ∧ Below w.heap.size w w' := by
  unfold fN
  by_cases h4 : fam = 4
  · rw [if_pos (.inl h4), h4]; exact find_nil4 z hz w
  by_cases h6 : fam = 6
  · rw [if_pos (.inr h6), h6]; exact find_nil6 z hz w
  rw [if_neg (fun h => h.elim h4 h6)]
  exact find_bad none fam z ⟨h4, h6⟩ w
section
variable {w : World} {g : Nat} {k v : Int} {p : Pf}
end
end Go.Proofs.Ytjnbemopfhinbaa
/- The document's calls over its list of a trie: check, without, DocGet, List. Each theorem states its conditions. -/
namespace Go.Proofs.Ytjnbemopfhinbaa
open Go.RowKit
set_option linter.unusedVariables false
set_option linter.unusedSimpArgs false

end Go.Proofs.Ytjnbemopfhinbaa
/- Two texts put together; each theorem states its conditions. -/
/- Two texts put together; each theorem states its conditions. -/
/- The document's DocInsert and DocRemove. Each theorem states its conditions. -/
namespace Go.Proofs.Ytjnbemopfhinbaa
open Go.RowKit
set_option linter.unusedVariables false
set_option linter.unusedSimpArgs false

/-- the document's trie, its list told -/
def DocA (w : World) (x : Nat) (D : List It) (A : Option Addr) (m c : Nat) : Prop := Blk 30 w x #[.slice A m c] ∧ RdR w A m 19 (itB D)
theorem DocA.lt {w : World} {x : Nat} {D : List It} {A : Option Addr} {m c : Nat} (h : DocA w x D A m c) : x < w.heap.size := h.1.lt
theorem DocA.below {w w' : World} {x : Nat} {D : List It} {A : Option Addr} {m c : Nat} (h : DocA w x D A m c) (hb : Below w.heap.size w w') (_ : x < w.heap.size) : DocA w' x D A m c := ⟨h.1.below hb h.1.lt, h.2.below hb rfl⟩
theorem DocA.drew {w : World} {x : Nat} {D : List It} {A : Option Addr} {m c : Nat} (h : DocA w x D A m c) : DocA w.drew x D A m c := ⟨h.1.drew, h.2.below ((Below.refl _ w).drew) rfl⟩
end Go.Proofs.Ytjnbemopfhinbaa
/- The document's DocFind. Each theorem states its conditions. -/
namespace Go.Proofs.Ytjnbemopfhinbaa
open Go.RowKit
set_option linter.unusedVariables false
set_option linter.unusedSimpArgs false

/-- an address's own key -/
def whK (pl : Bool) (z : Nat → Int) : Ky := (pl, btP (lenB pl) (whZ pl z))
theorem whK_ok {z : Nat → Int} (hz : Bytes z) (pl : Bool) : KOk (whK pl z) := ⟨lenB pl, whZ pl z, wh_b hz pl, wh_form hz pl, rfl⟩
theorem whK_pf {z : Nat → Int} (hz : Bytes z) (pl : Bool) : pvC (famB pl) (lenB pl : Nat) (whZ pl z) = pfC (kyPf (whK pl z)) := pv_of (wh_b hz pl) (wh_form hz pl)
theorem first_wh (pl : Bool) (z : Nat → Int) (hz : Bytes z) (W : World) : Calls Try.prog 67 #[.agg (pvC (famB pl) (lenB pl : Nat) z), .int .i64 (lenB pl : Int)] W fun e w' => e = .returned (.agg (pfC (kyPf (whK pl z)))) ∧ Below W.heap.size W w' := by
  have h := ref_first (famB pl) (lenB pl : Nat) (lenB pl) z W hz (by cases pl <;> decide)
  rw [show firstZ z (lenB pl) = whZ pl z from rfl, whK_pf hz] at h
  exact h
end Go.Proofs.Ytjnbemopfhinbaa
/- A trie looks as the document's does. Each theorem states its conditions. -/
namespace Go.Proofs.Ytjnbemopfhinbaa
open Go.RowKit
set_option linter.unusedVariables false
set_option linter.unusedSimpArgs false

theorem DocAt.drew {w : World} {x : Nat} {D : List It} (h : DocAt w x D) : DocAt w.drew x D := h.below ((Below.refl _ w).drew)
theorem DocAt.far {w w' : World} {x g : Nat} {t : TypeId} {D : List It} {C E : Array Value} (h : DocAt w x D) (hb : Blk t w g E) (h1 : t ≠ 30) (h2 : t ≠ 96) (q : Stored w w' g C t) : DocAt w' x D := by
  have ne : ∀ (t' : TypeId) (b : Nat) (cur : Array Value), Blk t' w b cur → t ≠ t' → b ≠ g := fun t' b cur hc hn e => by
    subst e
    have e1 : w.heap[b]? = _ := hb
    have e2 : w.heap[b]? = _ := hc
    rw [e1] at e2
    injection e2 with e2
    injection e2 with _ e2 _
    exact hn e2
  obtain ⟨A, c, hk, _⟩ := h.ex
  exact h.keep (q.2.2 x (ne _ x _ hk h1)) fun b cur hc => q.2.2 b (ne _ b cur hc h2)
end Go.Proofs.Ytjnbemopfhinbaa
