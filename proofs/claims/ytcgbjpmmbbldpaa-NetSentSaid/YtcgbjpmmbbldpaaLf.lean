/- racelaw13.first. Conditions: none. -/
import Derived.Test.YtcgbjpmmbbldpaaLo
import Derived.Lib.SlBytesConst
namespace Go.Proofs.Ytcgbjpmmbbldpaa
open Go.ChangeShapes Go.WideShapes Go.ChangeAt Go.RowKit Go.Deep
theorem send_a {C : Nat → Prop} {w : World} {a : Nat} (h : NK C w a 2 []) {D : Nat → Prop} {ao : Option Addr} {cap : Nat} (hd : SB D w ao 1 cap [97]) : Calls Try.prog 14 #[ptr a, .int .i64 1, .int .i64 2, .slice ao 1 cap] w (NWent C w a 2 [⟨1, 2, [97]⟩] (.int .i64 0)) := by
  have := nsend_any h 1 2 (d := [97]) hd (by decide) (by decide)
  simpa using this
theorem send_b {C : Nat → Prop} {w : World} {a : Nat} (h : NK C w a 2 [⟨1, 2, [97]⟩]) {D : Nat → Prop} {ao : Option Addr} {cap : Nat} (hd : SB D w ao 1 cap [98]) : Calls Try.prog 14 #[ptr a, .int .i64 1, .int .i64 3, .slice ao 1 cap] w (NWent C w a 2 [⟨1, 2, [97]⟩, ⟨1, 3, [98]⟩] (.int .i64 0)) := by
  have := nsend_any h 1 3 (d := [98]) hd (by decide) (by decide)
  simpa using this
theorem send_c {C : Nat → Prop} {w : World} {a : Nat} (h : NK C w a 2 [⟨1, 2, [97]⟩, ⟨1, 3, [98]⟩]) {D : Nat → Prop} {ao : Option Addr} {cap : Nat} (hd : SB D w ao 1 cap [99]) : Calls Try.prog 14 #[ptr a, .int .i64 1, .int .i64 2, .slice ao 1 cap] w (NWent C w a 2 [⟨1, 2, [97]⟩, ⟨1, 3, [98]⟩] (.int .i64 11)) := by
  have := nsend_any h 1 2 (d := [99]) hd (by decide) (by decide)
  simpa using this
theorem move_ab {C : Nat → Prop} {w : World} {a : Nat} (h : NK C w a 2 [⟨1, 2, [97]⟩, ⟨1, 3, [98]⟩]) : Calls Try.prog 19 #[ptr a, .int .i64 1, .int .i64 (-3)] w (NWent C w a 2 [⟨1, 3, [98]⟩, ⟨1, 2, [97]⟩] (.bool true)) := by
  have := nmove_yes h (i := 1) (by decide) (by decide) (-3)
  exact this
theorem at_b {C : Nat → Prop} {w : World} {a : Nat} (h : NK C w a 2 [⟨1, 3, [98]⟩, ⟨1, 2, [97]⟩]) : Calls Try.prog 13 #[ptr a, .int .i64 0] w fun e w' => ∃ ao cap, e = .returned (.tuple #[.agg #[.int .i64 1, .int .i64 3, .slice ao 1 cap], .bool true]) ∧ SB (fun k => (Value.slice ao 1 cap).ownBlock = some k) w' ao 1 cap [98] ∧ Below w.heap.size w w' := by
  have := nat_yes h (i := 0) (by decide) (by decide)
  refine this.mono ?_
  rintro e w' ⟨ao, cap, rfl, ho, hb⟩
  exact ⟨ao, cap, rfl, own_sb ho, hb⟩
theorem count_ab {C : Nat → Prop} {w : World} {a : Nat} (h : NK C w a 2 [⟨1, 3, [98]⟩, ⟨1, 2, [97]⟩]) : Calls Try.prog 23 #[ptr a, .int .i64 2] w fun e w' => e = .returned (.int .i64 1) ∧ Below w.heap.size w w' := ncount_any h 2 (by decide)
theorem len_ab {C : Nat → Prop} {w : World} {a : Nat} (h : NK C w a 2 [⟨1, 3, [98]⟩, ⟨1, 2, [97]⟩]) : Calls Try.prog 21 #[ptr a] w fun e w' => e = .returned (.int .i64 2) ∧ Below w.heap.size w w' := nlen_any h
theorem sb97 (w : World) : SB (· = w.heap.size) (w.alloc (.cells #[.int .u8 97] 5 (1, 2))) (some ⟨w.heap.size, 0, none⟩) 1 1 [97] := sb_lit w [97] 1 (1, 2) rfl (by decide)
theorem hb97 (w : World) : Below w.heap.size w (w.alloc (.cells #[.int .u8 97] 5 (1, 2))) := below1 w _
theorem sb98 (w : World) : SB (· = w.heap.size) (w.alloc (.cells #[.int .u8 98] 5 (1, 2))) (some ⟨w.heap.size, 0, none⟩) 1 1 [98] := sb_lit w [98] 1 (1, 2) rfl (by decide)
theorem hb98 (w : World) : Below w.heap.size w (w.alloc (.cells #[.int .u8 98] 5 (1, 2))) := below1 w _
theorem sb99 (w : World) : SB (· = w.heap.size) (w.alloc (.cells #[.int .u8 99] 5 (1, 2))) (some ⟨w.heap.size, 0, none⟩) 1 1 [99] := sb_lit w [99] 1 (1, 2) rfl (by decide)
theorem hb99 (w : World) : Below w.heap.size w (w.alloc (.cells #[.int .u8 99] 5 (1, 2))) := below1 w _
/-- A call of a net that was made behind a world leaves what was there. -/
theorem way_low {C C' : Nat → Prop} {w0 w w' : World} (hl : ∀ k, C k → w0.heap.size ≤ k) (hb : Below w0.heap.size w0 w) (hw : Way C w C' w') : Below w0.heap.size w0 w' ∧ (∀ k, C' k → w0.heap.size ≤ k) :=
  ⟨hb.trans (hw.tn.below hb.size hl), fun k hk => by
    rcases hw.new k hk with h | h
    · exact hl k h
    · have := hb.size; omega⟩
set_option maxRecDepth 100000 in
set_option maxHeartbeats 4000000 in
theorem first13_any (w : World) : Calls Try.prog 7 #[] w fun e w' => e = .returned (.bool true) ∧ Below w.heap.size w w' := by
  have kc := fun (w : World) (C : Array Value) (n c : Nat) => Lib.run_convert_bytes_const (P := Try.prog) w 33 5 C n c (by kernel_rfl) (by kernel_rfl)
  have HNN := fun w => Lib.hid (nnew_yes 2 (by decide) (by decide) w)
  go_enter Try.func7, Try.ntmps7
  go_wp2_with (first
    | (go_at_call 8; refine (HNN _).out.mono ?_; rintro e w1 ⟨a, C1, rfl, hk, hc, hb⟩; have HK1 := Lib.hid hk; have HL1 := Lib.hid hc; have HB1 := Lib.hid hb; clear hk hc hb)
    | (go_at_call 14; first
      | (refine (send_c (HK3.out.below (hb99 w3)) (sb99 w3)).mono ?_; rintro e w4 ⟨rfl, C4, hk, hw⟩; have HK4 := Lib.hid hk; have HW4 := Lib.hid (way_low (HL3.out) (HB3.out.trans ((hb99 w3).mono HB3.out.size)) hw); have HB4 := Lib.hid HW4.out.1; have HL4 := Lib.hid HW4.out.2; clear hk hw)
      | (refine (send_b (HK2.out.below (hb98 w2)) (sb98 w2)).mono ?_; rintro e w3 ⟨rfl, C3, hk, hw⟩; have HK3 := Lib.hid hk; have HW3 := Lib.hid (way_low (HL2.out) (HB2.out.trans ((hb98 w2).mono HB2.out.size)) hw); have HB3 := Lib.hid HW3.out.1; have HL3 := Lib.hid HW3.out.2; clear hk hw)
      | (refine (send_a (HK1.out.below (hb97 w1)) (sb97 w1)).mono ?_; rintro e w2 ⟨rfl, C2, hk, hw⟩; have HK2 := Lib.hid hk; have HW2 := Lib.hid (way_low (HL1.out) (HB1.out.trans ((hb97 w1).mono HB1.out.size)) hw); have HB2 := Lib.hid HW2.out.1; have HL2 := Lib.hid HW2.out.2; clear hk hw))
    | (go_at_call 19; refine (move_ab HK4.out).mono ?_; rintro e w5 ⟨rfl, C5, hk, hw⟩; have HK5 := Lib.hid hk; have HW5 := Lib.hid (way_low HL4.out HB4.out hw); have HB5 := Lib.hid HW5.out.1; clear hk hw)
    | (go_at_call 13; refine (at_b HK5.out).mono ?_; rintro e w6 ⟨ao, cap, rfl, hs, hb⟩; have HK6 := Lib.hid (HK5.out.below hb); have HB6 := Lib.hid (HB5.out.trans (hb.mono HB5.out.size)); have cv := (hs.below (below1 w6 (.cells #[.int .i64 1, .int .i64 3, .slice ao 1 cap] 40))).conv; have HK7 := Lib.hid (HK6.out.below (below1 w6 (.cells #[.int .i64 1, .int .i64 3, .slice ao 1 cap] 40))); clear hs hb)
    | (go_at_call 23; refine (count_ab HK7.out).mono ?_; rintro e w8 ⟨rfl, hb⟩; have HK8 := Lib.hid (HK7.out.below hb); have HB8 := Lib.hid ((HB6.out.trans ((below1 w6 _).mono HB6.out.size)).trans (hb.mono (Nat.le_trans HB6.out.size (below1 w6 _).size))); clear hb)
    | (go_at_call 21; refine (len_ab HK8.out).mono ?_; rintro e w9 ⟨rfl, hb⟩; have HB9 := Lib.hid (HB8.out.trans (hb.mono HB8.out.size)); clear hb)
    | fail)
  go_ret
  exact ⟨rfl, HB9.out⟩
end Go.Proofs.Ytcgbjpmmbbldpaa
