/- raceref.Ranges of two rows of the same ranges. Conditions: none. -/
import Derived.Test.YtfcdajkgopcmpaaJFd
import Derived.Deep.RegionHeld
namespace Go.Proofs.Ytfcdajkgopcmpaa
open Go.ChangeShapes Go.WideShapes Go.ChangeAt Go.RowKit
set_option maxRecDepth 100000 in
theorem same_none (ao bo : Option Addr) (c1 c2 : Nat) (w : World) : Calls Try.prog 11 #[.slice ao 0 c1, .slice bo 0 c2] w fun e w' => e = .returned (.bool true) ∧ Below w.heap.size w w' := by
  go_enter Try.func11, Try.ntmps11
  go_wp2
  go_loopw [5] (fun vi wr => vi = .int .i64 0 ∧ Hid (Below w.heap.size w wr)) (fun _ _ => 0)
  case atStart => exact ⟨rfl, Lib.hid (Below.refl _ _)⟩
  case round =>
    obtain ⟨rfl, HW1⟩ := hrel
    go_wp2
    go_ret
    exact ⟨rfl, HW1.out⟩
set_option maxRecDepth 100000 in
theorem same_some (l : List RV) (n b o c1 g u c2 : Nat) (hn : l.length = n) (w : World) (hb : b < w.heap.size) (hg : g < w.heap.size) (hc1 : n ≤ c1) (hc2 : n ≤ c2) (hm : n ≤ 1000000) (hb1 : ∀ i, (h : i < l.length) → RAt w b (o + i * 4) l[i]) (hb2 : ∀ i, (h : i < l.length) → RAt w g (u + i * 4) l[i]) :
    Calls Try.prog 11 #[.slice (some ⟨b, o, none⟩) n c1, .slice (some ⟨g, u, none⟩) n c2] w fun e w' => e = .returned (.bool true) ∧ Below w.heap.size w w' := by
  have HC := Lib.hid hb1
  have HD := Lib.hid hb2
  have HB := Lib.hid hb
  have HG := Lib.hid hg
  clear hb1 hb2 hb hg
  go_enter Try.func11, Try.ntmps11
  go_wp2
  go_loopw [5] (fun vi wr => ∃ (k : Nat), vi = .int .i64 (k : Int) ∧ k ≤ n ∧ Hid (Below w.heap.size w wr)) (fun vi _ => n - (RowKit.intOf vi).toNat)
  case atStart => exact ⟨0, rfl, Nat.zero_le _, Lib.hid (Below.refl _ _)⟩
  case round =>
    obtain ⟨k, rfl, hk, HW1⟩ := hrel
    by_cases hlt : k < n
    · have hk' : k < l.length := by omega
      have HR := Lib.hid ((HC.out k hk').below HW1.out HB.out)
      have HS := Lib.hid ((HD.out k hk').below HW1.out HG.out)
      generalize l[k] = r at *
      have HI := fun w => Lib.hid (range_same r w)
      have hdr := Lib.hid ((Below.refl wr.heap.size wr).drew)
      go_wp2
      have HR := Lib.hid (HR.out.below hdr.out (Nat.lt_of_lt_of_le HB.out HW1.out.size))
      have HS := Lib.hid (HS.out.below hdr.out (Nat.lt_of_lt_of_le HG.out HW1.out.size))
      have r0 := HR.out.c0; have r1 := HR.out.c1; have r2 := HR.out.c2; have r3 := HR.out.c3
      have s0 := HS.out.c0; have s1 := HS.out.c1; have s2 := HS.out.c2; have s3 := HS.out.c3
      have HW1 := Lib.hid HW1.out.drew
      go_region_with (go_at_call 14; refine (HI _).out.mono ?_; rintro e w2 ⟨rfl, h2⟩; have HW2 := Lib.hid (HW1.out.trans (h2.mono HW1.out.size)); clear h2)
      all_goals go_wp2
      all_goals go_roundw
      all_goals first
        | exact ⟨k + 1, by go_num, by omega, HW2⟩
        | (simp [RowKit.intOf]; omega)
    · obtain rfl : k = n := by omega
      go_wp2
      go_ret
      exact ⟨rfl, HW1.out⟩
theorem ranges_same {P Q : Nat → Prop} {w : World} {v1 v2 : Value} {l : List RV} (h1 : HasR P w v1 l) (h2 : HasR Q w v2 l) (hm : l.length ≤ 1000000) :
    Calls Try.prog 11 #[v1, v2] w fun e w' => e = .returned (.bool true) ∧ Below w.heap.size w w' := by
  obtain ⟨ao, c1, rfl, a1, a2, a3, a4⟩ := h1
  obtain ⟨bo, c2, rfl, b1, b2, b3, b4⟩ := h2
  rcases a4 with rfl | ⟨b, o, rfl, _, a6, a7⟩
  · exact same_none ao bo c1 c2 w
  rcases b4 with rfl | ⟨g, u, rfl, _, b6, b7⟩
  · exact same_none _ bo c1 c2 w
  · exact same_some l _ b o c1 g u c2 rfl w a6 b6 a1 b1 hm a7 b7
end Go.Proofs.Ytfcdajkgopcmpaa
