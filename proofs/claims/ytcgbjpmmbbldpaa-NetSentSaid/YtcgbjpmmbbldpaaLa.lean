/- racelaw13's same and alike; what a told mail reads as. Conditions: none. -/
import Derived.Test.YtcgbjpmmbbldpaaN0
namespace Go.Proofs.Ytcgbjpmmbbldpaa
open Go.ChangeShapes Go.WideShapes Go.ChangeAt Go.RowKit Go.Deep
def sameM (m y : MV) : Bool := m.f == y.f && m.t == y.t && m.d == y.d
theorem sameM_iff {m y : MV} : sameM m y = true ↔ m = y := by
  obtain ⟨a, b, c⟩ := m
  obtain ⟨d, e, f⟩ := y
  unfold sameM
  simp [Bool.and_eq_true]
  constructor
  · rintro ⟨⟨h1, h2⟩, h3⟩; exact ⟨h1, h2, h3⟩
  · rintro ⟨h1, h2, h3⟩; exact ⟨⟨h1, h2⟩, h3⟩
theorem sameM_self (m : MV) : sameM m m = true := sameM_iff.2 rfl
theorem below2 (w : World) (o o' : Obj) : Below w.heap.size w ((w.alloc o).alloc o') := ((Below.refl _ _).alloc (Nat.le_refl _) o).alloc (by simp) o'
set_option maxRecDepth 100000 in
theorem same_any {D E : Nat → Prop} {w : World} {m y : MV} {ao bo : Option Addr} {n k cap bcap : Nat} (h1 : SB D w ao n cap m.d) (h2 : SB E w bo k bcap y.d) :
    Calls Try.prog 27 #[magg (m, .slice ao n cap), magg (y, .slice bo k bcap)] w fun e w' => e = .returned (.bool (sameM m y)) ∧ Below w.heap.size w w' := by
  obtain ⟨f, t, d⟩ := m
  obtain ⟨f', t', d'⟩ := y
  simp only at h1 h2
  have HB := fun w (h1 : SB D w ao n cap d) (h2 : SB E w bo k bcap d') => Lib.hid (bytes_any h1 h2)
  have H1 := Lib.hid (h1.below (below2 w (mobj 40 (⟨f, t, d⟩, .slice ao n cap)) (mobj 62 (⟨f', t', d'⟩, .slice bo k bcap))))
  have H2 := Lib.hid (h2.below (below2 w (mobj 40 (⟨f, t, d⟩, .slice ao n cap)) (mobj 62 (⟨f', t', d'⟩, .slice bo k bcap))))
  have e : sameM ⟨f, t, d⟩ ⟨f', t', d'⟩ = (f == f' && t == t' && d == d') := rfl
  rw [e]
  clear e h1 h2
  generalize hb : (d == d') = b at *
  clear hb
  cases hf : f == f'
  · go_enter Try.func27, Try.ntmps27
    go_wp2
    go_ret
    exact ⟨rfl, below2 _ _ _⟩
  · cases ht : t == t'
    · go_enter Try.func27, Try.ntmps27
      go_wp2
      go_ret
      exact ⟨rfl, below2 _ _ _⟩
    · go_enter Try.func27, Try.ntmps27
      go_wp2_with (go_at_call 22; refine (HB _ H1.out H2.out).out.mono ?_; rintro e w1 ⟨rfl, rfl⟩)
      go_ret
      exact ⟨by simp, below2 _ _ _⟩
end Go.Proofs.Ytcgbjpmmbbldpaa
