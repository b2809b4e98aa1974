/- datum.Print. Conditions: bits below 2^64; the library's tables hold what their initialisers lay. -/
import Derived.Test.YtbgccaconhmbaaaGreatDoorJFi
import Derived.Test.YtbgccaconhmbaaaGreatDoorJQu
import Derived.Test.YtbgccaconhmbaaaGreatDoorJAg
namespace Go.Proofs.YtbgccaconhmbaaaGreatDoor
open Go.RowKit
/-- The text of a value. -/
def printV (v : DV) : List UInt8 := if mayV v = true then (if v.k = 1 then textN v.x else if v.k = 2 then quoteV v.s else [110, 111, 110, 101]) else [63]
theorem vprint_any (v : DV) (hx : v.x < 18446744073709551616) (w : World) (hT : Tabs w) : Calls Tryz.prog 101 #[vagg v] w fun e w' => e = .returned (.string ⟨(printV v).toArray⟩) ∧ Below w.heap.size w w' := by
  have HM := fun w => Lib.hid (may_any v w)
  have HT := Lib.hid hT
  have HX := Lib.hid hx
  have hb := fun h hk => may_bounds (v := v) h hk
  unfold printV
  obtain ⟨k, x, s⟩ := v
  have H1 := Lib.hid (below1 w (vobj ⟨k, x, s⟩))
  have HA := Lib.hid (at_new w ⟨k, x, s⟩)
  simp only at hb HX ⊢
  clear hx hT
  cases hm : mayV ⟨k, x, s⟩
  · rw [hm] at HM
    rw [if_neg (by simp)]
    clear hb hm
    go_enter Tryz.func101, Tryz.ntmps101
    go_wp2_with (first
      | (go_at_call 69; ((with_reducible refine (HM _).out.mono ?_); rintro e w1 ⟨rfl, hb⟩; have HB1 := Lib.hid (H1.out.trans (hb.mono H1.out.size)); clear hb)))
    go_ret
    exact ⟨rfl, HB1.out⟩
  · rw [if_pos rfl]
    have hb2 := hb hm
    rw [hm] at HM
    clear hb hm
    by_cases h1 : k = 1
    · subst h1
      rw [if_pos rfl]
      clear hb2
      go_enter Tryz.func101, Tryz.ntmps101
      go_wp2_with (first
        | (go_at_call 69; ((with_reducible refine (HM _).out.mono ?_); rintro e w1 ⟨rfl, hb⟩; have hz := HA.out.below hb HA.out.lt; have d3 := hz.c0; have d4 := hz.c1; have HB1 := Lib.hid (H1.out.trans (hb.mono H1.out.size)); clear hb hz))
        | (go_at_call 137; refine (print_any _ HX.out _ (HT.out.below HB1.out)).mono ?_; rintro e w2 ⟨rfl, hb⟩; have HB2 := Lib.hid (HB1.out.trans (hb.mono HB1.out.size)); clear hb))
      go_ret
      exact ⟨rfl, HB2.out⟩
    rw [if_neg h1]
    have b1 : (k == 1) = false := by rw [beq_eq_false_iff_ne]; exact h1
    by_cases h2 : k = 2
    · subst h2
      rw [if_pos rfl]
      have hsz : (⟨s.toArray⟩ : ByteArray).size ≤ 1099511627776 := by
        have : (⟨s.toArray⟩ : ByteArray).size = s.length := rfl
        have := hb2 rfl
        omega
      have HQ := fun w => Lib.hid (quote_any ⟨s.toArray⟩ hsz w)
      rw [show (⟨s.toArray⟩ : ByteArray).data.toList = s from rfl] at HQ
      clear hb2 hsz h1
      go_enter Tryz.func101, Tryz.ntmps101
      go_wp2_with (first
        | (go_at_call 69; ((with_reducible refine (HM _).out.mono ?_); rintro e w1 ⟨rfl, hb⟩; have hz := HA.out.below hb HA.out.lt; have d3 := hz.c0; have d4 := hz.c2; have HB1 := Lib.hid (H1.out.trans (hb.mono H1.out.size)); clear hb hz))
        | (go_at_call 100; with_reducible refine (HQ _).out.mono ?_; rintro e w2 ⟨rfl, hb⟩; have HB2 := Lib.hid (HB1.out.trans (hb.mono HB1.out.size)); clear hb))
      go_ret
      exact ⟨rfl, HB2.out⟩
    rw [if_neg h2]
    have b2 : (k == 2) = false := by rw [beq_eq_false_iff_ne]; exact h2
    clear hb2 h1 h2
    go_enter Tryz.func101, Tryz.ntmps101
    go_wp2_with (first
      | (go_at_call 69; ((with_reducible refine (HM _).out.mono ?_); rintro e w1 ⟨rfl, hb⟩; have hz := HA.out.below hb HA.out.lt; have d3 := hz.c0; have HB1 := Lib.hid (H1.out.trans (hb.mono H1.out.size)); clear hb hz)))
    go_ret
    exact ⟨rfl, HB1.out⟩
end Go.Proofs.YtbgccaconhmbaaaGreatDoor
