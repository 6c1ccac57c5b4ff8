/- reach.GetReach reads prefixes. Each theorem states its conditions. -/
import Derived.Test.YtplfilghhgdffaaListR
import Derived.Test.YtplfilghhgdffaaRGet
namespace Go.Proofs.Ytplfilghhgdffaa
open Go.RowKit
set_option linter.unusedVariables false

def rC (fam : Nat) (z : Nat → Int) (p : Nat) : Array Value := rcC (rRc fam z p)
theorem recs_rC (fam : Nat) (z : Nat → Int) : Recs 20 (rC fam z) := fun j => ⟨rfl, rcC_one _⟩
theorem steps_r (fam : Nat) (z : Nat → Int) (n : Nat) : Steps1 (rNx fam z) (rOk fam z n) n := fun p hp ho => ⟨by have := rnx_ge fam z p; unfold rHd at this; split at this <;> omega, ho.2⟩
theorem reads_4 (b off n c : Nat) (z : Nat → Int) (hn : n ≤ c) (hc : c ≤ 9223372036854775807) : Reads 34 (rC 4 z) (rNx 4 z) (rOk 4 z n) b off n c z :=
  fun R p W hR hr hbR hp => getFour_any R b off n c p z W hR hr hbR hn hc hp
theorem reads_6 (b off n c : Nat) (z : Nat → Int) (hn : n ≤ c) (hc : c ≤ 9223372036854775807) : Reads 35 (rC 6 z) (rNx 6 z) (rOk 6 z n) b off n c z :=
  fun R p W hR hr hbR hp => getSix_any R b off n c p z W hR hr hbR hn hc hp

theorem getReach_arg (fam : Int) (A : Option Addr) (n c : Nat) (w : World) (h4 : (fam == 4) = false) (h6 : (fam == 6) = false) :
    Calls Try.prog 18 #[.int .u8 fam, .slice A n c] w fun e w' => e = .returned (.tuple #[.slice none 0 0, .int .i64 1]) ∧ w' = w := by
  go_enter Try.func18, Try.ntmps18
  go_wp2
  go_ret2
  exact ⟨rfl, rfl⟩
theorem getReach_long (fam : Nat) (hf : fam = 4 ∨ fam = 6) (A : Option Addr) (n c : Nat) (w : World) (hn : 255 < n) (hl : n ≤ 9223372036854775807) :
    Calls Try.prog 18 #[.int .u8 (fam : Int), .slice A n c] w fun e w' => e = .returned (.tuple #[.slice none 0 0, .int .i64 2]) ∧ Below w.heap.size w w' := by
  rcases hf with rfl | rfl
  · have H := Lib.hid (list_longR A n c 34 w hn hl)
    go_enter Try.func18, Try.ntmps18
    go_wp2_with fail
    refine H.out.mono ?_
    rintro e w' ⟨rfl, hb⟩
    go_wp2
    go_ret2
    exact ⟨rfl, hb⟩
  · have H := Lib.hid (list_longR A n c 35 w hn hl)
    go_enter Try.func18, Try.ntmps18
    go_wp2_with fail
    refine H.out.mono ?_
    rintro e w' ⟨rfl, hb⟩
    go_wp2
    go_ret2
    exact ⟨rfl, hb⟩
theorem listR_any (fam : Nat) (f : FuncId) (A : Option Addr) (n c m : Nat) (z : Nat → Int) (w : World) (hR : ∀ b off, Reads f (rC fam z) (rNx fam z) (rOk fam z n) b off n c z) (hcf : ∀ (args : Array Value) (w : World), (callFunc f args).run Try.prog w = .ok (.enter f args) w)
    (h : Rd w A n z) (hm : LEnds (rNx fam z) (rOk fam z n) n m) (hn : n ≤ 255) (hc : n ≤ c) (hcm : c ≤ 9223372036854775807) :
    Calls Try.prog 33 #[.slice A n c, .func (.func f) #[] #[]] w (GLPostR w (rC fam z) (rNx fam z) n m) := by
  rcases Nat.eq_zero_or_pos n with rfl | h0
  · have hm0 : m = 0 := by
      rcases Nat.eq_zero_or_pos m with e | e
      · exact e
      · have := (hm.1 0 e).1; omega
    subst hm0
    exact (list_nilR A c f w).mono fun e w' ⟨h1, h2⟩ => .inl ⟨rfl, _, h1, World.ownsRow_nil _ _ _ _, h2⟩
  · obtain ⟨b, off, rfl, hr⟩ := h.row h0
    exact list_anyR f (rC fam z) (rNx fam z) (rOk fam z n) b off n c m z w (hR b off) hcf (recs_rC fam z) (steps_r fam z n) hm hr h0 hn hc hcm
theorem getReach_any (fam : Nat) (hf : fam = 4 ∨ fam = 6) (A : Option Addr) (n c m : Nat) (z : Nat → Int) (w : World) (h : Rd w A n z) (hm : LEnds (rNx fam z) (rOk fam z n) n m) (hn : n ≤ 255) (hc : n ≤ c) (hcm : c ≤ 9223372036854775807) :
    Calls Try.prog 18 #[.int .u8 (fam : Int), .slice A n c] w (GLPostR w (rC fam z) (rNx fam z) n m) := by
  rcases hf with rfl | rfl
  · have H := Lib.hid (listR_any 4 34 A n c m z w (fun b off => reads_4 b off n c z hc hcm) (fun _ _ => by kernel_rfl) h hm hn hc hcm)
    clear h hm
    go_enter Try.func18, Try.ntmps18
    go_wp2_with fail
    refine H.out.mono ?_
    rintro e w' (⟨h1, v, rfl, h2, h3⟩ | ⟨h1, rfl, h3⟩)
    · have h1 := Lib.hid h1
      go_wp2
      go_ret2
      exact .inl ⟨h1.out, v, rfl, h2, h3⟩
    · have h1 := Lib.hid h1
      go_wp2
      go_ret2
      exact .inr ⟨h1.out, rfl, h3⟩
  · have H := Lib.hid (listR_any 6 35 A n c m z w (fun b off => reads_6 b off n c z hc hcm) (fun _ _ => by kernel_rfl) h hm hn hc hcm)
    clear h hm
    go_enter Try.func18, Try.ntmps18
    go_wp2_with fail
    refine H.out.mono ?_
    rintro e w' (⟨h1, v, rfl, h2, h3⟩ | ⟨h1, rfl, h3⟩)
    · have h1 := Lib.hid h1
      go_wp2
      go_ret2
      exact .inl ⟨h1.out, v, rfl, h2, h3⟩
    · have h1 := Lib.hid h1
      go_wp2
      go_ret2
      exact .inr ⟨h1.out, rfl, h3⟩
end Go.Proofs.Ytplfilghhgdffaa
