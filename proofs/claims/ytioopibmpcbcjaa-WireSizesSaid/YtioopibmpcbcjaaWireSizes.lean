/- A number takes as many bytes as its amount asks for, a text as many more, a float eight, a bool one: racelaw2.WireSizes answers true and leaves its arguments as they were. Conditions: none. -/
import Derived.Test.YtioopibmpcbcjaaZ
import Derived.Test.YtioopibmpcbcjaaI
namespace Go.Proofs.Ytioopibmpcbcjaa
open Go.ChangeShapes Go.WideShapes Go.ChangeAt Go.RowKit
/-- How many groups follow the first. -/
def cv (u : Nat) : Nat := if u = 0 then 0 else (vb u).length
theorem cv_step {u : Nat} (h : 0 < u) : cv u = 1 + cv (u / 128) := by
  unfold cv
  rw [if_neg (by omega)]
  by_cases h1 : u < 128
  · rw [vb_lo h1, if_pos (by omega)]; rfl
  · rw [vb_hi (by omega), if_neg (by omega), List.length_cons]; omega
theorem vb_cv (u : Nat) : (vb u).length = 1 + cv (u / 128) := by
  by_cases h : 0 < u
  · rw [← cv_step h]; unfold cv; rw [if_neg (by omega)]
  · obtain rfl : u = 0 := by omega
    rw [vb_lo (by decide)]; rfl
theorem cv_le (u : Nat) (h : u < 18446744073709551616) : cv u ≤ 10 := by
  unfold cv; split
  · omega
  · exact vb_len_le u h
/-- What is written of a number: its amount. -/
def amount (n : Int) : Nat := if n < 0 then (-n - 1).toNat else n.toNat
theorem amount_fold (n : Int) : foldN n / 128 = amount n / 64 := by
  unfold foldN amount; split <;> omega
set_option maxRecDepth 100000 in
theorem wireSizes_long (n : Int) (s : List UInt8) (x : Nat) (hs : 20000 < s.length) (hs2 : s.length ≤ 9223372036854775807) (w : World) :
    Calls Try.prog 8 #[.int .i64 n, .string ⟨s.toArray⟩, .float .f64 x] w fun e w' => e = .returned (.bool true) ∧ Below w.heap.size w w' := by
  have HB := Lib.hid (Below.refl w.heap.size w)
  go_enter Try.func8, Try.ntmps8
  go_wp2_with (first
    | (go_at_call 11; refine (first_any _).mono ?_; rintro e w1 ⟨rfl, hb1⟩; have HB := Lib.hid (HB.out.trans (hb1.mono HB.out.size)); clear hb1))
  go_ret
  exact ⟨rfl, HB.out⟩
set_option maxRecDepth 100000 in
theorem wireSizes_short (n : Int) (s : List UInt8) (x : Nat) (hn1 : -9223372036854775808 ≤ n) (hn2 : n < 9223372036854775808) (hx : x < 18446744073709551616) (hs : s.length ≤ 20000) (w : World) :
    Calls Try.prog 8 #[.int .i64 n, .string ⟨s.toArray⟩, .float .f64 x] w fun e w' => e = .returned (.bool true) ∧ Below w.heap.size w w' := by
  have HB := Lib.hid (Below.refl w.heap.size w)
  have hvl := vb_len_le _ (foldN_lt hn1 hn2)
  have hvt := vb_len_le _ (foldN_lt (n := (s.length : Int)) (by omega) (by omega))
  have hcv := vb_cv (foldN n)
  rw [amount_fold] at hcv
  have hmv := vb_cv (foldN (s.length : Int))
  rw [amount_fold, show amount (s.length : Int) = s.length by unfold amount; rw [if_neg (by omega)]; rfl] at hmv
  have hA : amount n < 9223372036854775808 := by unfold amount; split <;> omega
  have HCV := Lib.hid hcv
  have HMV := Lib.hid hmv
  have HK : Hid (∃ K, (vb (foldN n)).length = K) := ⟨_, rfl⟩
  obtain ⟨K, hK⟩ := HK.out
  obtain ⟨M, hM⟩ : ∃ M, (vb (foldN (s.length : Int))).length = M := ⟨_, rfl⟩
  rw [hK] at HCV hvl
  rw [hM] at HMV hvt
  have hK1 : 1 ≤ K := by have := HCV.out; omega
  have hM1 : 1 ≤ M := by have := HMV.out; omega
  have HK := Lib.hid hK
  have HM := Lib.hid hM
  clear hcv hK hmv hM
  by_cases hneg : n < 0
  · have hx1 : bits .xor .u64 IntKind.u64.max (IntKind.u64.wrap n) = ((amount n : Nat) : Int) := by
      have e1 : IntKind.u64.wrap n = ((18446744073709551616 + n).toNat : Int) := by rw [IntKind.wrap_u64]; omega
      rw [e1, bnot (by omega)]
      unfold amount; rw [if_pos hneg]; omega
    generalize amount n = A at *
    go_enter Try.func8, Try.ntmps8
    go_wp2_with (first
      | (go_at_call 11; refine (first_any _).mono ?_; rintro e w1 ⟨rfl, hb1⟩; have HB := Lib.hid (HB.out.trans (hb1.mono HB.out.size)); clear hb1)
      | (go_at_call 13; refine (newWriterB (B := w.heap.size) _ HB.out.size).mono ?_; rintro e w1 ⟨p, rfl, hx1, hb1⟩; have HB := Lib.hid (HB.out.trans (hb1.mono HB.out.size)); have HX := Lib.hid hx1; clear hb1 hx1)
      | (go_at_call 35; refine (HX.out.int n hn1 hn2 (by simp)).mono ?_; rintro e w1 ⟨rfl, hx1, hb1⟩; obtain ⟨L1, hN⟩ : ∃ L, L = [] ++ vb (foldN n) := ⟨_, rfl⟩; rw [← hN] at hx1; have hL1 : L1.length = K := (by rw [hN]; simp [HK.out]); have HB := Lib.hid (HB.out.trans hb1); have HX := Lib.hid hx1; clear hb1 hx1 hN))
    go_loop [8, 9] (fun u k => ∃ U kk : Nat, u = .int .u64 U ∧ k = .int .i64 kk ∧ U < 18446744073709551616 ∧ kk ≤ K ∧ Hid (kk + cv U = K)) (fun u _ => (intOf u).toNat)
    case atStart => exact ⟨A / 64, 1, by first | rfl | (simp; done) | (rw [show ((A : Int) / 64) = ((A / 64 : Nat) : Int) by simp, wrap_nat (by omega)]), rfl, by omega, by omega, by have := HCV.out; show _ = _; omega⟩
    case round =>
      obtain ⟨U, kk, rfl, rfl, hU, hkk, HI⟩ := hrel
      by_cases hpos : 0 < U
      · have hst := cv_step hpos
        have hc0 := HI.out
        have HI2 : Hid (kk + 1 + cv (U / 128) = K) := by show _ = _; omega
        have hk1 : kk + 1 ≤ K := by omega
        clear hst hc0
        go_wp2
        exact ⟨⟨U / 128, kk + 1, by simp, by simp, by omega, hk1, HI2⟩, by simp [intOf]; omega⟩
      · obtain rfl : U = 0 := by omega
        obtain rfl : K = kk := by have := HI.out; have e : cv 0 = 0 := rfl; omega
        clear hkk HI
        go_wp2_with (first
          | (go_at_call 16; refine (HX.out.bytes (by omega)).mono ?_; rintro e w1 ⟨v1, rfl, ho, hb1⟩; obtain ⟨ao, cap, rfl⟩ := own_slice ho; have HX := Lib.hid (HX.out.below hb1 (Nat.le_refl _)); have HB := Lib.hid (HB.out.trans (hb1.mono HB.out.size)); clear ho hb1)
          | (go_at_call 36; refine (HX.out.float x hx (by omega)).mono ?_; rintro e w1 ⟨rfl, hx1, hb1⟩; obtain ⟨L2, hN⟩ : ∃ L, L = L1 ++ w8 8 (canon x) := ⟨_, rfl⟩; rw [← hN] at hx1; have hL2 : L2.length = K + 8 := (by rw [hN, List.length_append, w8_length, hL1]); have HB := Lib.hid (HB.out.trans hb1); have HX := Lib.hid hx1; clear hb1 hx1 hN)
          | (go_at_call 37; refine (HX.out.flag true (by omega)).mono ?_; rintro e w1 ⟨rfl, hx1, hb1⟩; obtain ⟨L3, hN⟩ : ∃ L, L = L2 ++ [bif true then 1 else 0] := ⟨_, rfl⟩; rw [← hN] at hx1; have hL3 : L3.length = K + 9 := (by rw [hN, List.length_append, hL2]; rfl); have HB := Lib.hid (HB.out.trans hb1); have HX := Lib.hid hx1; clear hb1 hx1 hN)
          | (go_at_call 38; refine (HX.out.text s (by omega)).mono ?_; rintro e w1 ⟨rfl, hx1, hb1⟩; obtain ⟨L4, hN⟩ : ∃ L, L = L3 ++ (vb (foldN (s.length : Int)) ++ s) := ⟨_, rfl⟩; rw [← hN] at hx1; have hL4 : L4.length = K + 9 + M + s.length := (by rw [hN, List.length_append, List.length_append, HM.out, hL3]; omega); have HB := Lib.hid (HB.out.trans hb1); have HX := Lib.hid hx1; clear hb1 hx1 hN))
        go_loopw [10, 11] (fun k u wr => ∃ U kk : Nat, u = .int .i64 U ∧ k = .int .i64 kk ∧ U < 9223372036854775808 ∧ kk ≤ M ∧ Hid (kk + cv U = M) ∧ wr = w1) (fun _ u _ => (intOf u).toNat)
        case atStart => exact ⟨s.length / 64, 1, by simp, rfl, by omega, by omega, by have := HMV.out; show _ = _; omega, rfl⟩
        case round =>
          obtain ⟨U, kk, rfl, rfl, hU, hkk, HI, rfl⟩ := hrel
          by_cases hpos : 0 < U
          · have hst := cv_step hpos
            have hc0 := HI.out
            have HI2 : Hid (kk + 1 + cv (U / 128) = M) := by show _ = _; omega
            have hk1 : kk + 1 ≤ M := by omega
            clear hst hc0
            go_wp2
            exact ⟨⟨U / 128, kk + 1, by simp, by simp, by omega, hk1, HI2, trivial⟩, by simp [intOf]; omega⟩
          · obtain rfl : U = 0 := by omega
            obtain rfl : M = kk := by have := HI.out; have e : cv 0 = 0 := rfl; omega
            clear hkk HI
            go_wp2_with (first
              | (go_at_call 11; refine (first_any _).mono ?_; rintro e w1 ⟨rfl, hb1⟩; have HX := Lib.hid (HX.out.below hb1 (Nat.le_refl _)); have HB := Lib.hid (HB.out.trans (hb1.mono HB.out.size)); clear hb1)
              | (go_at_call 16; refine (HX.out.bytes (by omega)).mono ?_; rintro e w1 ⟨v1, rfl, ho, hb1⟩; obtain ⟨ao, cap, rfl⟩ := own_slice ho; have HX := Lib.hid (HX.out.below hb1 (Nat.le_refl _)); have HB := Lib.hid (HB.out.trans (hb1.mono HB.out.size)); clear ho hb1)
              | go_quiet (fail))
            go_ret
            exact ⟨rfl, HB.out⟩
  · obtain ⟨A, hA2⟩ : ∃ A : Nat, n = A := ⟨n.toNat, by omega⟩
    have e : amount n = A := by unfold amount; rw [if_neg hneg]; omega
    rw [e] at hA HCV
    clear e
    have HA := Lib.hid hA2
    clear hA2
    go_enter Try.func8, Try.ntmps8
    go_wp2_with (first
      | (go_at_call 11; refine (first_any _).mono ?_; rintro e w1 ⟨rfl, hb1⟩; have HB := Lib.hid (HB.out.trans (hb1.mono HB.out.size)); clear hb1)
      | (go_at_call 13; refine (newWriterB (B := w.heap.size) _ HB.out.size).mono ?_; rintro e w1 ⟨p, rfl, hx1, hb1⟩; have HB := Lib.hid (HB.out.trans (hb1.mono HB.out.size)); have HX := Lib.hid hx1; clear hb1 hx1)
      | (go_at_call 35; refine (HX.out.int n hn1 hn2 (by simp)).mono ?_; rintro e w1 ⟨rfl, hx1, hb1⟩; obtain ⟨L1, hN⟩ : ∃ L, L = [] ++ vb (foldN n) := ⟨_, rfl⟩; rw [← hN] at hx1; have hL1 : L1.length = K := (by rw [hN]; simp [HK.out]); have HB := Lib.hid (HB.out.trans hb1); have HX := Lib.hid hx1; clear hb1 hx1 hN))
    go_loop [8, 9] (fun u k => ∃ U kk : Nat, u = .int .u64 U ∧ k = .int .i64 kk ∧ U < 18446744073709551616 ∧ kk ≤ K ∧ Hid (kk + cv U = K)) (fun u _ => (intOf u).toNat)
    case atStart => exact ⟨A / 64, 1, by rw [HA.out]; simp, rfl, by omega, by omega, by have := HCV.out; show _ = _; omega⟩
    case round =>
      obtain ⟨U, kk, rfl, rfl, hU, hkk, HI⟩ := hrel
      by_cases hpos : 0 < U
      · have hst := cv_step hpos
        have hc0 := HI.out
        have HI2 : Hid (kk + 1 + cv (U / 128) = K) := by show _ = _; omega
        have hk1 : kk + 1 ≤ K := by omega
        clear hst hc0
        go_wp2
        exact ⟨⟨U / 128, kk + 1, by simp, by simp, by omega, hk1, HI2⟩, by simp [intOf]; omega⟩
      · obtain rfl : U = 0 := by omega
        obtain rfl : K = kk := by have := HI.out; have e : cv 0 = 0 := rfl; omega
        clear hkk HI
        go_wp2_with (first
          | (go_at_call 16; refine (HX.out.bytes (by omega)).mono ?_; rintro e w1 ⟨v1, rfl, ho, hb1⟩; obtain ⟨ao, cap, rfl⟩ := own_slice ho; have HX := Lib.hid (HX.out.below hb1 (Nat.le_refl _)); have HB := Lib.hid (HB.out.trans (hb1.mono HB.out.size)); clear ho hb1)
          | (go_at_call 36; refine (HX.out.float x hx (by omega)).mono ?_; rintro e w1 ⟨rfl, hx1, hb1⟩; obtain ⟨L2, hN⟩ : ∃ L, L = L1 ++ w8 8 (canon x) := ⟨_, rfl⟩; rw [← hN] at hx1; have hL2 : L2.length = K + 8 := (by rw [hN, List.length_append, w8_length, hL1]); have HB := Lib.hid (HB.out.trans hb1); have HX := Lib.hid hx1; clear hb1 hx1 hN)
          | (go_at_call 37; refine (HX.out.flag true (by omega)).mono ?_; rintro e w1 ⟨rfl, hx1, hb1⟩; obtain ⟨L3, hN⟩ : ∃ L, L = L2 ++ [bif true then 1 else 0] := ⟨_, rfl⟩; rw [← hN] at hx1; have hL3 : L3.length = K + 9 := (by rw [hN, List.length_append, hL2]; rfl); have HB := Lib.hid (HB.out.trans hb1); have HX := Lib.hid hx1; clear hb1 hx1 hN)
          | (go_at_call 38; refine (HX.out.text s (by omega)).mono ?_; rintro e w1 ⟨rfl, hx1, hb1⟩; obtain ⟨L4, hN⟩ : ∃ L, L = L3 ++ (vb (foldN (s.length : Int)) ++ s) := ⟨_, rfl⟩; rw [← hN] at hx1; have hL4 : L4.length = K + 9 + M + s.length := (by rw [hN, List.length_append, List.length_append, HM.out, hL3]; omega); have HB := Lib.hid (HB.out.trans hb1); have HX := Lib.hid hx1; clear hb1 hx1 hN))
        go_loopw [10, 11] (fun k u wr => ∃ U kk : Nat, u = .int .i64 U ∧ k = .int .i64 kk ∧ U < 9223372036854775808 ∧ kk ≤ M ∧ Hid (kk + cv U = M) ∧ wr = w1) (fun _ u _ => (intOf u).toNat)
        case atStart => exact ⟨s.length / 64, 1, by simp, rfl, by omega, by omega, by have := HMV.out; show _ = _; omega, rfl⟩
        case round =>
          obtain ⟨U, kk, rfl, rfl, hU, hkk, HI, rfl⟩ := hrel
          by_cases hpos : 0 < U
          · have hst := cv_step hpos
            have hc0 := HI.out
            have HI2 : Hid (kk + 1 + cv (U / 128) = M) := by show _ = _; omega
            have hk1 : kk + 1 ≤ M := by omega
            clear hst hc0
            go_wp2
            exact ⟨⟨U / 128, kk + 1, by simp, by simp, by omega, hk1, HI2, trivial⟩, by simp [intOf]; omega⟩
          · obtain rfl : U = 0 := by omega
            obtain rfl : M = kk := by have := HI.out; have e : cv 0 = 0 := rfl; omega
            clear hkk HI
            go_wp2_with (first
              | (go_at_call 11; refine (first_any _).mono ?_; rintro e w1 ⟨rfl, hb1⟩; have HX := Lib.hid (HX.out.below hb1 (Nat.le_refl _)); have HB := Lib.hid (HB.out.trans (hb1.mono HB.out.size)); clear hb1)
              | (go_at_call 16; refine (HX.out.bytes (by omega)).mono ?_; rintro e w1 ⟨v1, rfl, ho, hb1⟩; obtain ⟨ao, cap, rfl⟩ := own_slice ho; have HX := Lib.hid (HX.out.below hb1 (Nat.le_refl _)); have HB := Lib.hid (HB.out.trans (hb1.mono HB.out.size)); clear ho hb1)
              | go_quiet (fail))
            go_ret
            exact ⟨rfl, HB.out⟩
theorem wireSizes_walk (w : World) (n : Int) (hn1 : -9223372036854775808 ≤ n) (hn2 : n < 9223372036854775808) (s : List UInt8) (hs : s.length ≤ 9223372036854775807) (x : Nat) (hx : x < 18446744073709551616) :
    Calls Try.prog 8 #[.int .i64 n, .string ⟨s.toArray⟩, .float .f64 x] w fun e w' => e = .returned (.bool true) ∧ Below w.heap.size w w' := by
  by_cases h : s.length ≤ 20000
  · exact wireSizes_short n s x hn1 hn2 hx h w
  · exact wireSizes_long n s x (by omega) hs w

set_option maxRecDepth 100000 in
theorem wireSizes_lifted (os : Os) (started : os.Started) (H : Type) (enc : TypeId × Value → H) :
    ReturnsInHanded {} Try.checked os 8 .any (Rows.wireSizesSpec.pre6 enc Try.prog Try.f8 [] false) (Rows.wireSizesSpec.post enc Try.prog Try.f8 false true false false) := by
  refine returnsInHanded_of_change (C := Try.checked) own started (by kernel_rfl) Try.func8
    (ChangeSpec.witness6 (enc := enc) (C := Try.checked) false ⟨#[], #[.int .i64 0, .string ⟨#[]⟩, .float .f64 0], []⟩ 8 (by kernel_rfl) (by kernel_rfl) (by kernel_rfl) (by kernel_rfl)) ?_
  intro W base args ds gs before hval0 hW _ _
  have hval : ∀ (j : Nat) t v, Try.f8.params[j]? = some t → args[j]? = some v → Value.okWide Try.prog W .any base t v := hval0
  have hW' := hW
  obtain ⟨p, q, hA0, hV, rfl, hfz, hnd⟩ := hW
  have hA : DataW.TrodAll enc Try.prog W 0 (fun _ => true) true Try.f8.params.toList args.toList ds p := hA0
  rw [Try.params8] at hA hval
  obtain ⟨v0, v1, v2, d0, d1, d2, p0, p1, p2, rfl, rfl, rfl, h0, h1, h2⟩ := trodAll_three hA
  obtain ⟨a0, rfl, rfl, rfl, wf0⟩ := open_int Try.underlying3 (hval 0 3 v0 rfl rfl) h0
  obtain ⟨s1, rfl, rfl, rfl, wf1⟩ := ChangeMaps.open_string Try.underlying9 (hval 1 9 v1 rfl rfl) h1
  obtain ⟨a2, rfl, rfl, rfl, wf2⟩ := open_float Try.underlying28 (hval 2 28 v2 rfl rfl) h2
  obtain ⟨rfl, rfl⟩ := trodVars_none hV
  clear hA0 hval0
  simp only [List.append_nil] at hW'
  have hwf0 := wf0
  simp [Lit.wf, IntKind.min, IntKind.max, IntKind.signed, IntKind.bits] at hwf0
  have hwf1 : s1.data.toList.length ≤ 9223372036854775807 := by
    have e : s1.data.toList.length = s1.size := by rw [Array.length_toList]; rfl
    rw [e]; unfold maxLen at wf1; omega
  have hwf2 := wf2
  simp [Lit.wf] at hwf2
  refine Calls.mono (?walk : Calls _ _ _ _ fun e w' => e = .returned (.bool true) ∧ Below W.heap.size W w') fun e W' ⟨he, hw⟩ => ?_
  case walk =>
    rw [← bytes_self s1]
    exact wireSizes_walk W a0 (by omega) (by omega) s1.data.toList hwf1 a2 (by omega)
  subst he
  exact ⟨_, rfl, post_of_below (pa := [] ++ ([] ++ [])) (pv := []) hW' (fun _ _ _ => trodAll_mk1 (shut_bool Try.underlying4 _)) (fun sp hsp => trodAll_mk3 (shut_int Try.underlying3 wf0) (ChangeMaps.shut_string Try.underlying9 wf1) (shut_float Try.underlying28 wf2)) (fun _ _ => rfl) (by simp) hw (ok_one (by kernel_rfl) rfl (okWide_bool_mk Try.underlying4 _))⟩
/-- THE ROW. -/
theorem wireSizes_holds : Rows.WireSizesSaid :=
  OpenClaim.holds_of_wide 8 Try.f8 rfl rfl rfl rfl rfl rfl rfl ⟨rfl, rfl, rfl, rfl, rfl⟩ rfl rfl rfl rfl rfl (by kernel_rfl) Try.func8 (by kernel_rfl)
    (of_decide_eq_true (by kernel_rfl)) (by unfold Func.isWrapper; first | (rw [if_pos (by decide +kernel)]; kernel_rfl) | (rw [if_neg (by decide +kernel)]; exact ⟨rfl, rfl⟩))
    (fun os started H enc _ => wireSizes_lifted os started H enc)
#print axioms wireSizes_holds
end Go.Proofs.Ytioopibmpcbcjaa
