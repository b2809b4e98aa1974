/- racelaw14.DirPlays where it asks for too much, or the ranges are no cover. Conditions: none of its own. -/
import Derived.Test.YtfcdajkgopcmpaaJEe
import Derived.Test.YtfcdajkgopcmpaaJEh
namespace Go.Proofs.Ytfcdajkgopcmpaa
open Go.ChangeShapes Go.WideShapes Go.ChangeAt Go.RowKit Go.Deep
set_option maxRecDepth 100000 in
theorem plays_out (w : World) (bo : Option Addr) (m bc : Nat) (mo : Option Addr) (mn mc : Nat) (ko : Option Addr) (kn kcap : Nat) (ks : List Str) (hk : KS w.heap.size w ko kn kcap ks) (hn : ¬ (m ≤ 100 ∧ PK ks)) :
    Calls Try.prog 3 #[.slice bo m bc, .slice mo mn mc, .slice ko kn kcap] w fun e w' => e = .returned (.bool true) ∧ Below w.heap.size w w' := by
  have HF := fun w => Lib.hid (first14_any w)
  have HKK := Lib.hid hk
  have HFW := fun (w' : World) (hb : Below w.heap.size w w') => Lib.hid (few14_no (HKK.out.below hb) bo m bc hn)
  clear hk hn
  go_enter Try.func3, Try.ntmps3
  go_wp2_with (first
    | (go_at_call 7; first
      | (refine (HF w1).out.mono ?_; rintro e w9 ⟨rfl, hb⟩; have HB9 := Lib.hid (HB1.out.trans (hb.mono HB1.out.size)); clear hb)
      | (refine (HF _).out.mono ?_; rintro e w1 ⟨rfl, hb⟩; have HB1 := Lib.hid hb; clear hb))
    | (go_at_call 8; refine (HFW w1 HB1.out).out.mono ?_; rintro e w2 ⟨rfl, rfl⟩)
    | fail)
  go_ret
  exact ⟨rfl, HB9.out⟩
set_option maxRecDepth 100000 in
theorem plays_many (w : World) (bo : Option Addr) (m bc : Nat) (mo : Option Addr) (mn mc : Nat) (hm : 40 < mn) (h63 : mn ≤ 9223372036854775807) (ko : Option Addr) (kn kcap : Nat) (ks : List Str) (hk : KS w.heap.size w ko kn kcap ks) :
    Calls Try.prog 3 #[.slice bo m bc, .slice mo mn mc, .slice ko kn kcap] w fun e w' => e = .returned (.bool true) ∧ Below w.heap.size w w' := by
  have HF := fun w => Lib.hid (first14_any w)
  have HKK := Lib.hid hk
  have HFW := fun (w' : World) (hb : Below w.heap.size w w') => Lib.hid (few14_any (HKK.out.below hb) bo m bc)
  have hm2 : (40 : Int) < (mn : Int) := by omega
  clear hk
  go_enter Try.func3, Try.ntmps3
  go_wp2_with (first
    | (go_at_call 7; first
      | (refine (HF w1).out.mono ?_; rintro e w9 ⟨rfl, hb⟩; have HB9 := Lib.hid (HB1.out.trans (hb.mono HB1.out.size)); clear hb)
      | (refine (HF _).out.mono ?_; rintro e w1 ⟨rfl, hb⟩; have HB1 := Lib.hid hb; clear hb))
    | (go_at_call 8; refine (HFW w1 HB1.out).out.mono ?_; rintro e w2 ⟨b, rfl, hb, rfl⟩; clear hb)
    | fail)
  all_goals go_ret
  all_goals exact ⟨rfl, HB9.out⟩
set_option maxRecDepth 100000 in
set_option maxHeartbeats 4000000 in
theorem plays_no (w : World) {lv : Value} {l : List RV} (hv : HasR (fun k => k < w.heap.size) w lv l) (hw : ∀ r ∈ l, r.wf) (hl : l.length ≤ 100) (mo : Option Addr) (mn mc : Nat) (h40 : mn ≤ 40)
    (ko : Option Addr) (kn kcap : Nat) (ks : List Str) (hk : KS w.heap.size w ko kn kcap ks) (hC : checkV l ≠ 0) :
    Calls Try.prog 3 #[lv, .slice mo mn mc, .slice ko kn kcap] w fun e w' => e = .returned (.bool true) ∧ Below w.heap.size w w' := by
  have hst := run_stf
  have HF := fun w => Lib.hid (first14_any w)
  obtain ⟨vo, vc, rfl, hcp, hcm⟩ := hasR_len hv
  have HV := Lib.hid hv
  have HKK := Lib.hid hk
  have HFW := fun (w' : World) (hb : Below w.heap.size w w') => Lib.hid (few14_any (HKK.out.below hb) vo l.length vc)
  have HNA := fun (w' : World) (P : Nat → Prop) v (hh : HasR P w' v l) => Lib.hid (dnew_no hh hw hC)
  have HNB := fun (w' : World) (P : Nat → Prop) v (hh : HasR P w' v l) => Lib.hid (rnew14_no hh hw hC)
  have HSM := fun (w' : World) (P Q : Nat → Prop) v1 v2 (h1 : HasR P w' v1 l) (h2 : HasR Q w' v2 l) => Lib.hid (ranges_same h1 h2 (by omega))
  have hmn2 : ¬ (40 : Int) < (mn : Int) := by omega
  clear hv hw hk hC
  generalize checkV l = c at *
  have hcc : (c != c) = false := by simp
  obtain ⟨m, hm⟩ : ∃ m, l.length = m := ⟨_, rfl⟩
  have HM := Lib.hid hm
  rw [hm] at HFW HV hcp hl ⊢
  clear hm
  go_enter Try.func3, Try.ntmps3
  go_wp2_with (first
    | (go_at_call 7; first
      | (have hx0 := HB5; refine (HF _).out.mono ?_; rintro e w9 ⟨rfl, hb⟩; have HB9 := Lib.hid (HB5.out.trans (hb.mono HB5.out.size)); clear hb)
      | (refine (HF w1).out.mono ?_; rintro e w9 ⟨rfl, hb⟩; have HB9 := Lib.hid (HB1.out.trans (hb.mono HB1.out.size)); clear hb)
      | (refine (HF _).out.mono ?_; rintro e w1 ⟨rfl, hb⟩; have HB1 := Lib.hid hb; clear hb))
    | (go_at_call 8; refine (HFW w1 HB1.out).out.mono ?_; rintro e w2 ⟨b, rfl, hb, rfl⟩; clear hb)
    | (at_builtin; refine wpList_append_ranges (wanted_none rfl _) (.tmp 38) (.tmp 39) rfl (B := w.heap.size) (M := []) (n := 0) rfl (own_mono (World.ownsRow_made _ #[] 0 (Nat.le_refl _) (Nat.zero_le _) (by simp)) HB1.out.size) (by have := HB1.out.size; simp; omega) rfl ((HV.out.low HB1.out).below (below1 _ _)) (by omega) ?_; intro v2 w2 ho2 hg2; obtain ⟨io, ic, e2⟩ := own_slice ho2; subst e2; have HI2 := Lib.hid ho2; have HB2 := Lib.hid ((HB1.out.alloc HB1.out.size (.cells #[] 37)).grown hg2 (by have := HB1.out.size; simp; omega) (fun k hk => by cases hk; exact HB1.out.size)); clear ho2 hg2)
    | (go_at_call 9; refine (HNA w2 _ _ (own_ranges (l := l) (by rw [HM.out]; simpa using HI2.out))).out.mono ?_; rintro e w3 ⟨rfl, hb⟩; have HB3 := Lib.hid (HB2.out.trans (hb.mono HB2.out.size)); have HI3 := Lib.hid (own_below HI2.out hb); clear hb)
    | (go_at_call 10; refine (HNB w3 _ _ (HV.out.low HB3.out)).out.mono ?_; rintro e w4 ⟨rfl, hb⟩; have HB4 := Lib.hid (HB3.out.trans (hb.mono HB3.out.size)); have HI4 := Lib.hid (own_below HI3.out hb); clear hb)
    | (go_at_call 11; refine (HSM w4 _ _ _ _ (own_ranges (l := l) (by rw [HM.out]; simpa using HI4.out)) (HV.out.low HB4.out)).out.mono ?_; rintro e w5 ⟨rfl, hb⟩; have HB5 := Lib.hid (HB4.out.trans (hb.mono HB4.out.size)); clear hb)
    | fail)
  all_goals go_ret
  all_goals exact ⟨rfl, HB9.out⟩
end Go.Proofs.Ytfcdajkgopcmpaa
