/- slices.SortFunc over ranges, by where they begin. Conditions: bits below 2^64. -/
import Derived.Shelf.SlSortCmp.WholeK
import Derived.Ground.SlsfProg
import Derived.Test.YtfdopinlmjbfaaaCh
namespace Go.Proofs.Ytfdopinlmjbfaaa
open Go.Shelf Go.RowKit Go.Lib Go.Sort
def sortRanges_ren : Go.Shelf.Ren := ⟨fun | 6 => 50 | 15 => 56 | 14 => 55 | 28 => 67 | 29 => 68 | 20 => 59 | 21 => 60 | 22 => 61 | 23 => 62 | 24 => 63 | 25 => 64 | 26 => 65 | 27 => 66 | 46 => 71 | 47 => 72 | 48 => 73 | 49 => 74 | 50 => 75 | 57 => 76 | n => n, fun | 22 => 41 | 24 => 34 | 25 => 71 | 3 => 3 | 39 => 58 | 0 => 0 | 53 => 85 | 55 => 25 | 4 => 4 | 46 => 78 | 45 => 77 | 50 => 82 | 5 => 5 | 9 => 9 | 66 => 88 | 70 => 92 | 76 => 94 | 77 => 95 | n => n, fun | n => n⟩
theorem sortRanges : SlLaysF0.n6 Try.prog sortRanges_ren := {
  mixed := by kernel_rfl,
  f6 := ⟨Try.f50.name, by decide, Try.func50.trans (congrArg some (by kernel_rfl))⟩,
  f14 := ⟨Try.f55.name, by decide, Try.func55.trans (congrArg some (by kernel_rfl))⟩,
  f15 := Try.func56.trans (congrArg some (by kernel_rfl)),
  f20 := ⟨Try.f59.name, by decide, Try.func59.trans (congrArg some (by kernel_rfl))⟩,
  f21 := ⟨Try.f60.name, by decide, Try.func60.trans (congrArg some (by kernel_rfl))⟩,
  f22 := ⟨Try.f61.name, by decide, Try.func61.trans (congrArg some (by kernel_rfl))⟩,
  f23 := ⟨Try.f62.name, by decide, Try.func62.trans (congrArg some (by kernel_rfl))⟩,
  f24 := ⟨Try.f63.name, by decide, Try.func63.trans (congrArg some (by kernel_rfl))⟩,
  f25 := ⟨Try.f64.name, by decide, Try.func64.trans (congrArg some (by kernel_rfl))⟩,
  f26 := ⟨Try.f65.name, by decide, Try.func65.trans (congrArg some (by kernel_rfl))⟩,
  f27 := ⟨Try.f66.name, by decide, Try.func66.trans (congrArg some (by kernel_rfl))⟩,
  f28 := Try.func67.trans (congrArg some (by kernel_rfl)),
  f29 := Try.func68.trans (congrArg some (by kernel_rfl)),
  f46 := ⟨Try.f71.name, by decide, Try.func71.trans (congrArg some (by kernel_rfl))⟩,
  f47 := Try.func72.trans (congrArg some (by kernel_rfl)),
  f48 := Try.func73.trans (congrArg some (by kernel_rfl)),
  f49 := ⟨Try.f74.name, by decide, Try.func74.trans (congrArg some (by kernel_rfl))⟩,
  f50 := ⟨Try.f75.name, by decide, Try.func75.trans (congrArg some (by kernel_rfl))⟩,
  f57 := ⟨Try.f76.name, by decide, Try.func76.trans (congrArg some (by kernel_rfl))⟩,
  t0 := Try.underlying0,
  a0 := Try.isAgg0,
  z0 := Try.sizeOf0,
  v0 := Try.zeroValue0,
  t3 := Try.underlying3,
  a3 := Try.isAgg3,
  z3 := Try.sizeOf3,
  v3 := Try.zeroValue3,
  t4 := Try.underlying4,
  a4 := Try.isAgg4,
  z4 := Try.sizeOf4,
  v4 := Try.zeroValue4,
  t5 := Try.underlying5,
  a5 := Try.isAgg5,
  z5 := Try.sizeOf5,
  v5 := Try.zeroValue5,
  t9 := Try.underlying9,
  a9 := Try.isAgg9,
  z9 := Try.sizeOf9,
  v9 := Try.zeroValue9,
  t22 := Try.underlying41,
  a22 := Try.isAgg41,
  z22 := Try.sizeOf41,
  v22 := Try.zeroValue41,
  t25 := Try.underlying71,
  a25 := Try.isAgg71,
  z25 := Try.sizeOf71,
  v25 := Try.zeroValue71,
  t39 := Try.underlying58,
  a39 := Try.isAgg58,
  z39 := Try.sizeOf58,
  v39 := Try.zeroValue58,
  t45 := Try.underlying77,
  a45 := Try.isAgg77,
  z45 := Try.sizeOf77,
  v45 := Try.zeroValue77,
  t46 := Try.underlying78,
  a46 := Try.isAgg78,
  z46 := Try.sizeOf78,
  v46 := Try.zeroValue78,
  t50 := Try.underlying82,
  a50 := Try.isAgg82,
  z50 := Try.sizeOf82,
  v50 := Try.zeroValue82,
  t53 := Try.underlying85,
  a53 := Try.isAgg85,
  z53 := Try.sizeOf85,
  v53 := Try.zeroValue85,
  t55 := Try.underlying25,
  a55 := Try.isAgg25,
  z55 := Try.sizeOf25,
  v55 := Try.zeroValue25,
  t66 := Try.underlying88,
  a66 := Try.isAgg88,
  z66 := Try.sizeOf88,
  v66 := Try.zeroValue88,
  t70 := Try.underlying92,
  a70 := Try.isAgg92,
  z70 := Try.sizeOf92,
  v70 := Try.zeroValue92,
  t76 := Try.underlying94,
  a76 := Try.isAgg94,
  z76 := Try.sizeOf94,
  v76 := Try.zeroValue94,
  t77 := Try.underlying95,
  a77 := Try.isAgg95,
  z77 := Try.sizeOf95,
  v77 := Try.zeroValue95 }
/-- A range of 64 bits a number. -/
abbrev WV := { r : RV // r.wf }
instance : Inhabited WV := ⟨⟨RV.zero, by unfold RV.wf RV.zero; decide⟩⟩
def encR (r : WV) : List Value := [.int .i64 r.1.i, .int .i64 r.1.e, .float .f64 r.1.lo, .float .f64 r.1.hi]
def cfR (a b : WV) : Int := cmpN (rankN a.1.lo) (rankN b.1.lo)
theorem closure_any (a b : RV) (ha : a.wf) (hb : b.wf) (w : World) : Calls Try.prog 51 #[ragg a, ragg b] w fun e w' => e = .returned (.int .i64 (cmpN (rankN a.lo) (rankN b.lo))) ∧ ∃ q os', w' = grow (w.drewN q) os' := by
  have hcon := fun w' => Lib.hid (compare_any a.lo b.lo w' ha.2.2.1 hb.2.2.1)
  generalize cmpN (rankN a.lo) (rankN b.lo) = r at hcon ⊢
  go_enter Try.func51, Try.ntmps51
  go_wp2_with (go_at_call 52; refine (hcon _).out.mono ?_; rintro e w' ⟨rfl, rfl⟩)
  go_ret
  exact ⟨rfl, 0, _, by rw [alloc_eq_grow, alloc_eq_grow, grow_grow]; rfl⟩
theorem cmpLays (blk off size : Nat) (w : World) : CmpLays Try.prog 51 #[] encR 4 cfR blk off size w :=
  fun _ _ _ _ x y => closure_any x.1 y.1 x.2 y.2 _
theorem ltR (x y : WV) : ltOf cfR x y = decide (rankN x.1.lo < rankN y.1.lo) := by
  unfold ltOf cfR cmpN
  by_cases h1 : rankN x.1.lo < rankN y.1.lo
  · simp [h1]
  · by_cases h2 : rankN y.1.lo < rankN x.1.lo <;> simp [h1, h2]
theorem swoR : SWO (ltOf cfR) where
  irrefl x := by rw [ltR]; simp
  trans x y z h1 h2 := by rw [ltR] at *; simp at *; omega
  ntrans x y z h1 h2 := by rw [ltR] at *; simp at *; omega

set_option maxHeartbeats 1000000 in
theorem sort_any (blk off cap : Nat) (d : Array WV) (w : World) (hH : HoldsK encR 4 w blk off d) (hblk : blk < w.heap.size) (hsz : d.size < 4611686018427387904) :
    Calls Try.prog 50 #[.slice (some ⟨blk, off, none⟩) d.size cap, .func (.func 51) #[] #[]] w fun e w' => e = .returned (.tuple #[]) ∧ ∃ d' n os, PermIn 0 d.size d d' ∧ SortedIn (ltOf cfR) 0 d.size d' ∧ w' = sortWorldK encR 4 w blk off n d' os := by
  have eg : ∀ args w, (callFunc 51 args).run Try.prog w = .ok (.enter 51 args) w := enters_of Try.func51 (by kernel_rfl) rfl
  exact AnyQ.slices_SortFunc sortRanges 4 Try.isAgg34 Try.sizeOf34 encR (fun _ => rfl) (fun x v hv => by simp [encR] at hv; rcases hv with rfl | rfl | rfl | rfl <;> rfl) cfR swoR 51 #[] blk off cap d w eg (cmpLays blk off d.size w) hH hblk hsz
end Go.Proofs.Ytfdopinlmjbfaaa
