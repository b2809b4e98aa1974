/- What the chapter's examples fix: racelaw3's first answers true. Conditions: the library's tables hold what their initialisers lay. -/
import Derived.Test.YtjkfcmadoeifgaaGreatDoorFi
namespace Go.Proofs.YtjkfcmadoeifgaaGreatDoor
open Go.RowKit
theorem eq_zero_float (W : World) : (Op.equalIn 9999 22 (.float .f64 0) (.float .f64 0)).run Tryz.prog W = .ok true W := by
  unfold Op.equalIn
  simp [run_underlying Tryz.underlying22, go_sem]
  decide +kernel
set_option maxRecDepth 100000 in
theorem first_ex (w : World) (hT : Tabs w) : Calls Tryz.prog 6 #[] w fun e w' => e = .returned (.bool true) ∧ Below w.heap.size w w' := by
  have hst := run_stf
  have heq := eq_zero_float
  have HP := fun w => Lib.hid (parse_quoted ⟨#[34, 97, 34]⟩ (by decide) (by decide) w)
  rw [show (⟨#[34, 97, 34]⟩ : ByteArray).data.toList = [34, 97, 34] from rfl, ex_parse] at HP
  have HN := fun w => Lib.hid (number_any 4611686018427387904 w)
  rw [show canon 4611686018427387904 = 4611686018427387904 by decide +kernel] at HN
  have HL := fun w => Lib.hid (plus_any DV.none ⟨1, 4611686018427387904, []⟩ w)
  rw [ex_plus] at HL
  have HV := fun w => Lib.hid (value_any ⟨1, 4611686018427387904, []⟩ ⟨1, 4611686018427387904, []⟩ w)
  rw [show sameV ⟨1, 4611686018427387904, []⟩ ⟨1, 4611686018427387904, []⟩ = true by decide] at HV
  have HR := fun w hT => Lib.hid (print_number 4611686018427387904 (by decide) (by decide +kernel) w hT)
  rw [ex_text] at HR
  have HK := fun w => Lib.hid (key_any [107] w)
  rw [show keyV [107] = true by decide] at HK
  have HK0 := fun w => Lib.hid (key_any [] w)
  rw [show keyV [] = false by decide] at HK0
  have HT := Lib.hid hT
  clear hT
  go_enter Tryz.func6, Tryz.ntmps6
  go_wp2_with (first
    | (go_at_call 27; refine (HP _).out.mono ?_; rintro e w1 ⟨rfl, hb⟩; have HB1 := Lib.hid hb; have HA1 := Lib.hid (at_new w1 ⟨2, 0, [97]⟩); have HC1 := Lib.hid ((hb.alloc hb.size (vobj ⟨2, 0, [97]⟩))); clear hb)
    | (go_at_call 30; refine (HN _).out.mono ?_; rintro e w2 ⟨rfl, hb⟩; have HA2 := Lib.hid (HA1.out.below hb HA1.out.lt); have HC2 := Lib.hid (HC1.out.trans (hb.mono HC1.out.size)); clear hb)
    | (go_at_call 8; refine (HL _).out.mono ?_; rintro e w3 ⟨rfl, hb⟩; have HC3 := Lib.hid (HC2.out.trans (hb.mono HC2.out.size)); have hA4 := (HA2.out.below hb HA2.out.lt).alloc (vobj ⟨1, 4611686018427387904, []⟩); have d0 : (w3.alloc (.cells #[.int .i64 1, .float .f64 4611686018427387904, .string ⟨#[]⟩] 24)).cell? ⟨w1.heap.size, 0, none⟩ = some (.int .i64 2) := hA4.c0; have d1 : (w3.alloc (.cells #[.int .i64 1, .float .f64 4611686018427387904, .string ⟨#[]⟩] 24)).cell? ⟨w1.heap.size, 1, none⟩ = some (.float .f64 0) := hA4.c1; have d2 : (w3.alloc (.cells #[.int .i64 1, .float .f64 4611686018427387904, .string ⟨#[]⟩] 24)).cell? ⟨w1.heap.size, 2, none⟩ = some (.string ⟨#[97]⟩) := hA4.c2; have HA3 := Lib.hid (at_new w3 ⟨1, 4611686018427387904, []⟩); have HC4 := Lib.hid (HC3.out.alloc HC3.out.size (vobj ⟨1, 4611686018427387904, []⟩)); clear hb hA4)
    | (go_at_call 14; refine (HV _).out.mono ?_; rintro e w4 ⟨rfl, hb⟩; have hz := HA3.out.below hb HA3.out.lt; have e0 : w4.cell? ⟨w3.heap.size, 0, none⟩ = some (.int .i64 1) := hz.c0; have e1 : w4.cell? ⟨w3.heap.size, 1, none⟩ = some (.float .f64 4611686018427387904) := hz.c1; have e2 : w4.cell? ⟨w3.heap.size, 2, none⟩ = some (.string ⟨#[]⟩) := hz.c2; have HB4 := Lib.hid (HC4.out.trans (hb.mono HC4.out.size)); clear hb hz)
    | (go_at_call 28; refine (HR _ (HT.out.below HB4.out)).out.mono ?_; rintro e w5 ⟨rfl, hb⟩; have HB5 := Lib.hid (HB4.out.trans (hb.mono HB4.out.size)); clear hb)
    | (go_at_call 31; with_reducible refine (HK _).out.mono ?_; rintro e w6 ⟨rfl, rfl⟩)
    | (go_at_call 31; with_reducible refine (HK0 _).out.mono ?_; rintro e w6 ⟨rfl, rfl⟩))
  go_ret
  exact ⟨rfl, HB5.out⟩
end Go.Proofs.YtjkfcmadoeifgaaGreatDoor
