/- slices.SortFunc over ranges, by where they begin. Conditions: bits below 2^64. -/
import Derived.Shelf.SlSortCmp.WholeK
import Derived.Shelf.Lay
import Derived.Ground.SlsfProg
import Derived.Test.YtfdopinlmjbfaaaCh
namespace Go.Proofs
open Go.Shelf Go.RowKit Go.Lib Go.Sort
shelf_lay_g SlLaysF0.n6 Slsf 6 at Try 50 as Try.sortRanges
end Go.Proofs
namespace Go.Proofs.Ytfdopinlmjbfaaa
open Go.Shelf Go.RowKit Go.Lib Go.Sort
/-- A range of 64 bits a number. -/
abbrev WV := { r : RV // r.wf }
instance : Inhabited WV := ⟨⟨RV.zero, by unfold RV.wf RV.zero; decide⟩⟩
def encR (r : WV) : List Value := [.int .i64 r.1.i, .int .i64 r.1.e, .float .f64 r.1.lo, .float .f64 r.1.hi]
def cfR (a b : WV) : Int := cmpN (rankN a.1.lo) (rankN b.1.lo)
theorem closure_any (a b : RV) (ha : a.wf) (hb : b.wf) (w : World) : Calls Try.prog 51 #[ragg a, ragg b] w fun e w' => e = .returned (.int .i64 (cmpN (rankN a.lo) (rankN b.lo))) ∧ ∃ q os', w' = grow (w.drewN q) os' := by
  have hcon := fun w' => Lib.hid (compare_any a.lo b.lo w' ha.2.2.1 hb.2.2.1)
  generalize cmpN (rankN a.lo) (rankN b.lo) = r at hcon ⊢
  go_enter Try.func51, Try.ntmps51
  go_wp2_with (go_at_call 52; refine (hcon _).out.mono ?_; rintro e w' ⟨rfl, rfl⟩)
  go_ret
  exact ⟨rfl, 0, _, by rw [alloc_eq_grow, alloc_eq_grow, grow_grow]; rfl⟩
theorem cmpLays (blk off size : Nat) (w : World) : CmpLays Try.prog 51 #[] encR 4 cfR blk off size w :=
  fun _ _ _ _ x y => closure_any x.1 y.1 x.2 y.2 _
theorem ltR (x y : WV) : ltOf cfR x y = decide (rankN x.1.lo < rankN y.1.lo) := by
  unfold ltOf cfR cmpN
  by_cases h1 : rankN x.1.lo < rankN y.1.lo
  · simp [h1]
  · by_cases h2 : rankN y.1.lo < rankN x.1.lo <;> simp [h1, h2]
theorem swoR : SWO (ltOf cfR) where
  irrefl x := by rw [ltR]; simp
  trans x y z h1 h2 := by rw [ltR] at *; simp at *; omega
  ntrans x y z h1 h2 := by rw [ltR] at *; simp at *; omega

set_option maxHeartbeats 1000000 in
theorem sort_any (blk off cap : Nat) (d : Array WV) (w : World) (hH : HoldsK encR 4 w blk off d) (hblk : blk < w.heap.size) (hsz : d.size < 4611686018427387904) :
    Calls Try.prog 50 #[.slice (some ⟨blk, off, none⟩) d.size cap, .func (.func 51) #[] #[]] w fun e w' => e = .returned (.tuple #[]) ∧ ∃ d' n os, PermIn 0 d.size d d' ∧ SortedIn (ltOf cfR) 0 d.size d' ∧ w' = sortWorldK encR 4 w blk off n d' os := by
  have eg : ∀ args w, (callFunc 51 args).run Try.prog w = .ok (.enter 51 args) w := enters_of Try.func51 (by kernel_rfl) rfl
  exact AnyQ.slices_SortFunc Try.sortRanges 4 Try.isAgg34 Try.sizeOf34 encR (fun _ => rfl) (fun x v hv => by simp [encR] at hv; rcases hv with rfl | rfl | rfl | rfl <;> rfl) cfR swoR 51 #[] blk off cap d w eg (cmpLays blk off d.size w) hH hblk hsz
end Go.Proofs.Ytfdopinlmjbfaaa
