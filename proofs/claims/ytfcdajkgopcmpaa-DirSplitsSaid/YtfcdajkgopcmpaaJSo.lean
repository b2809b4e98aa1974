/- slices.SortFunc over ranges, by where they begin. Conditions: bits below 2^64. -/
import Derived.Shelf.SlSortCmp.WholeK
import Derived.Ground.SlsfProg
import Derived.Test.YtfcdajkgopcmpaaJMd
namespace Go.Proofs.Ytfcdajkgopcmpaa
open Go.Shelf Go.RowKit Go.Lib Go.Sort
def sortRanges_ren : Go.Shelf.Ren := ⟨fun | 6 => 55 | 15 => 65 | 14 => 64 | 28 => 78 | 29 => 79 | 20 => 70 | 21 => 71 | 22 => 72 | 23 => 73 | 24 => 74 | 25 => 75 | 26 => 76 | 27 => 77 | 46 => 91 | 47 => 92 | 48 => 93 | 49 => 94 | 50 => 95 | 57 => 101 | n => n, fun | 22 => 22 | 24 => 37 | 25 => 103 | 3 => 3 | 39 => 89 | 0 => 0 | 53 => 120 | 55 => 87 | 4 => 4 | 46 => 113 | 45 => 112 | 50 => 117 | 5 => 5 | 9 => 9 | 66 => 129 | 70 => 133 | 76 => 138 | 77 => 139 | n => n, fun | n => n⟩
theorem sortRanges : SlLaysF0.n6 Try.prog sortRanges_ren := {
  mixed := by kernel_rfl,
  f6 := ⟨Try.f55.name, by decide, Try.func55.trans (congrArg some (by kernel_rfl))⟩,
  f14 := ⟨Try.f64.name, by decide, Try.func64.trans (congrArg some (by kernel_rfl))⟩,
  f15 := Try.func65.trans (congrArg some (by kernel_rfl)),
  f20 := ⟨Try.f70.name, by decide, Try.func70.trans (congrArg some (by kernel_rfl))⟩,
  f21 := ⟨Try.f71.name, by decide, Try.func71.trans (congrArg some (by kernel_rfl))⟩,
  f22 := ⟨Try.f72.name, by decide, Try.func72.trans (congrArg some (by kernel_rfl))⟩,
  f23 := ⟨Try.f73.name, by decide, Try.func73.trans (congrArg some (by kernel_rfl))⟩,
  f24 := ⟨Try.f74.name, by decide, Try.func74.trans (congrArg some (by kernel_rfl))⟩,
  f25 := ⟨Try.f75.name, by decide, Try.func75.trans (congrArg some (by kernel_rfl))⟩,
  f26 := ⟨Try.f76.name, by decide, Try.func76.trans (congrArg some (by kernel_rfl))⟩,
  f27 := ⟨Try.f77.name, by decide, Try.func77.trans (congrArg some (by kernel_rfl))⟩,
  f28 := Try.func78.trans (congrArg some (by kernel_rfl)),
  f29 := Try.func79.trans (congrArg some (by kernel_rfl)),
  f46 := ⟨Try.f91.name, by decide, Try.func91.trans (congrArg some (by kernel_rfl))⟩,
  f47 := Try.func92.trans (congrArg some (by kernel_rfl)),
  f48 := Try.func93.trans (congrArg some (by kernel_rfl)),
  f49 := ⟨Try.f94.name, by decide, Try.func94.trans (congrArg some (by kernel_rfl))⟩,
  f50 := ⟨Try.f95.name, by decide, Try.func95.trans (congrArg some (by kernel_rfl))⟩,
  f57 := ⟨Try.f101.name, by decide, Try.func101.trans (congrArg some (by kernel_rfl))⟩,
  t0 := Try.underlying0,
  a0 := Try.isAgg0,
  z0 := Try.sizeOf0,
  v0 := Try.zeroValue0,
  t3 := Try.underlying3,
  a3 := Try.isAgg3,
  z3 := Try.sizeOf3,
  v3 := Try.zeroValue3,
  t4 := Try.underlying4,
  a4 := Try.isAgg4,
  z4 := Try.sizeOf4,
  v4 := Try.zeroValue4,
  t5 := Try.underlying5,
  a5 := Try.isAgg5,
  z5 := Try.sizeOf5,
  v5 := Try.zeroValue5,
  t9 := Try.underlying9,
  a9 := Try.isAgg9,
  z9 := Try.sizeOf9,
  v9 := Try.zeroValue9,
  t22 := Try.underlying22,
  a22 := Try.isAgg22,
  z22 := Try.sizeOf22,
  v22 := Try.zeroValue22,
  t25 := Try.underlying103,
  a25 := Try.isAgg103,
  z25 := Try.sizeOf103,
  v25 := Try.zeroValue103,
  t39 := Try.underlying89,
  a39 := Try.isAgg89,
  z39 := Try.sizeOf89,
  v39 := Try.zeroValue89,
  t45 := Try.underlying112,
  a45 := Try.isAgg112,
  z45 := Try.sizeOf112,
  v45 := Try.zeroValue112,
  t46 := Try.underlying113,
  a46 := Try.isAgg113,
  z46 := Try.sizeOf113,
  v46 := Try.zeroValue113,
  t50 := Try.underlying117,
  a50 := Try.isAgg117,
  z50 := Try.sizeOf117,
  v50 := Try.zeroValue117,
  t53 := Try.underlying120,
  a53 := Try.isAgg120,
  z53 := Try.sizeOf120,
  v53 := Try.zeroValue120,
  t55 := Try.underlying87,
  a55 := Try.isAgg87,
  z55 := Try.sizeOf87,
  v55 := Try.zeroValue87,
  t66 := Try.underlying129,
  a66 := Try.isAgg129,
  z66 := Try.sizeOf129,
  v66 := Try.zeroValue129,
  t70 := Try.underlying133,
  a70 := Try.isAgg133,
  z70 := Try.sizeOf133,
  v70 := Try.zeroValue133,
  t76 := Try.underlying138,
  a76 := Try.isAgg138,
  z76 := Try.sizeOf138,
  v76 := Try.zeroValue138,
  t77 := Try.underlying139,
  a77 := Try.isAgg139,
  z77 := Try.sizeOf139,
  v77 := Try.zeroValue139 }
/-- A range of 64 bits a number. -/
abbrev WV := { r : RV // r.wf }
instance : Inhabited WV := ⟨⟨RV.zero, by unfold RV.wf RV.zero; decide⟩⟩
def encR (r : WV) : List Value := [.int .i64 r.1.i, .int .i64 r.1.e, .float .f64 r.1.lo, .float .f64 r.1.hi]
def cfR (a b : WV) : Int := cmpN (rankN a.1.lo) (rankN b.1.lo)
theorem closure_any (a b : RV) (ha : a.wf) (hb : b.wf) (w : World) : Calls Try.prog 56 #[ragg a, ragg b] w fun e w' => e = .returned (.int .i64 (cmpN (rankN a.lo) (rankN b.lo))) ∧ ∃ q os', w' = grow (w.drewN q) os' := by
  have hcon := fun w' => Lib.hid (compare_any a.lo b.lo w' ha.2.2.1 hb.2.2.1)
  generalize cmpN (rankN a.lo) (rankN b.lo) = r at hcon ⊢
  go_enter Try.func56, Try.ntmps56
  go_wp2_with (go_at_call 57; refine (hcon _).out.mono ?_; rintro e w' ⟨rfl, rfl⟩)
  go_ret
  exact ⟨rfl, 0, _, by rw [alloc_eq_grow, alloc_eq_grow, grow_grow]; rfl⟩
theorem cmpLays (blk off size : Nat) (w : World) : CmpLays Try.prog 56 #[] encR 4 cfR blk off size w :=
  fun _ _ _ _ x y => closure_any x.1 y.1 x.2 y.2 _
theorem ltR (x y : WV) : ltOf cfR x y = decide (rankN x.1.lo < rankN y.1.lo) := by
  unfold ltOf cfR cmpN
  by_cases h1 : rankN x.1.lo < rankN y.1.lo
  · simp [h1]
  · by_cases h2 : rankN y.1.lo < rankN x.1.lo <;> simp [h1, h2]
theorem swoR : SWO (ltOf cfR) where
  irrefl x := by rw [ltR]; simp
  trans x y z h1 h2 := by rw [ltR] at *; simp at *; omega
  ntrans x y z h1 h2 := by rw [ltR] at *; simp at *; omega

set_option maxHeartbeats 1000000 in
theorem sort_any (blk off cap : Nat) (d : Array WV) (w : World) (hH : HoldsK encR 4 w blk off d) (hblk : blk < w.heap.size) (hsz : d.size < 4611686018427387904) :
    Calls Try.prog 55 #[.slice (some ⟨blk, off, none⟩) d.size cap, .func (.func 56) #[] #[]] w fun e w' => e = .returned (.tuple #[]) ∧ ∃ d' n os, PermIn 0 d.size d d' ∧ SortedIn (ltOf cfR) 0 d.size d' ∧ w' = sortWorldK encR 4 w blk off n d' os := by
  have eg : ∀ args w, (callFunc 56 args).run Try.prog w = .ok (.enter 56 args) w := enters_of Try.func56 (by kernel_rfl) rfl
  exact AnyQ.slices_SortFunc sortRanges 4 Try.isAgg37 Try.sizeOf37 encR (fun _ => rfl) (fun x v hv => by simp [encR] at hv; rcases hv with rfl | rfl | rfl | rfl <;> rfl) cfR swoR 56 #[] blk off cap d w eg (cmpLays blk off d.size w) hH hblk hsz
end Go.Proofs.Ytfcdajkgopcmpaa
