/- A piece between two points that is halved again and again, whichever half is kept, has no point between at last, below 1100 times: racelaw4.PlaceNarrows answers true and leaves its arguments as they were. Conditions: none. -/
import Derived.Test.YtfdopinlmjbfaaaFi
import Derived.Test.YtfdopinlmjbfaaaNw
import Derived.Test.YtfdopinlmjbfaaaZ
import Derived.Deep.Grids
namespace Go.Proofs.Ytfdopinlmjbfaaa
open Go.ChangeShapes Go.WideShapes Go.ChangeAt Go.RowKit
/-- A row of bools that came in. -/
def HasBs (w : World) (v : Value) (xs : List Bool) : Prop :=
  xs.length ≤ maxLen ∧ ((xs = [] ∧ ∃ ao cap, v = .slice ao 0 cap) ∨ 0 < xs.length ∧ ∃ b off cap, v = .slice (some ⟨b, off, none⟩) xs.length cap ∧ xs.length ≤ cap ∧ ∀ i, i < xs.length → w.cell? ⟨b, off + i, none⟩ = some (.bool (xs.getD i false)))
theorem open_boolrow {H : Type} {enc : TypeId × Value → H} {w : World} {base : Nat} {held : Bool} {fuel : Nat} {v : Value} {x : DataW H × List MemPlace} (h : DataW.trod enc Try.prog w base (fun _ => true) held fuel 54 [v] = some x) : ∃ xs, HasBs w v xs := by
  rcases Go.Deep.open_bools Try.underlying54 Try.underlying4 (by kernel_rfl) h with ⟨h0, _⟩ | ⟨a, len, cap, B, h0, _, hl, hm, _, hc⟩
  · exact ⟨[], Nat.zero_le _, .inl ⟨rfl, none, 0, by simpa using h0⟩⟩
  · have hv : v = .slice (some a) len cap := by simpa using h0
    by_cases hz : len = 0
    · subst hz
      exact ⟨[], Nat.zero_le _, .inl ⟨rfl, some a, cap, hv⟩⟩
    obtain ⟨b, off, spot⟩ := a
    have h00 := hc 0 (by omega)
    have hspot : spot = none := by simpa [Addr.add] using World.cell?_spot h00
    subst hspot
    refine ⟨(List.range len).map B, by simp; omega, .inr ⟨by simp; omega, b, off, cap, by simpa using hv, by simpa using hl, fun i hi => ?_⟩⟩
    have hi' : i < len := by simpa using hi
    have h2 := hc i (by omega)
    rw [Addr.add_lit] at h2
    rw [h2]
    simp [hi']
theorem point_fits {b : Nat} (h : (pointV b).2 = 0) : (pointV b).1 ≤ oneB := by
  unfold pointV at h ⊢
  split
  · exact Nat.zero_le _
  · rename_i h0
    rw [if_neg h0] at h
    split
    · rename_i h1; exact of_decide_eq_true h1
    · rename_i h1
      rw [if_neg h1] at h
      cases h
theorem mid_pts {x y : Nat} (h : x < y) (hy : y ≤ oneB) : midV x y = if betB x (midN x y) y = true then (midN x y, 0) else (0, 24) := by
  unfold midV
  exact if_pos ⟨decide_eq_true (by omega), decide_eq_true hy, h⟩
theorem gt_test {r q : Nat} (hr : r < infR) (hq : q < infR) (h : q < r) : (FloatKind.f64.format.order r q == some .gt) = true := order_gt_t hr hq h
set_option maxRecDepth 100000 in
theorem narrows_out (W : World) (a : Nat) (ha : a < 18446744073709551616) (b : Nat) (hb : b < 18446744073709551616) (v : Value) (hn : ¬ ((pointV a).2 = 0 ∧ (pointV b).2 = 0 ∧ (pointV a).1 < (pointV b).1)) : Calls Try.prog 9 #[.float .f64 a, .float .f64 b, v] W fun e w' => e = .returned (.bool true) ∧ Below W.heap.size W w' := by
  have H1 := fun w => Lib.hid (point_any a ha w)
  have H2 := fun w => Lib.hid (point_any b hb w)
  have hpa := fun h => point_fits (b := a) h
  have hpb := fun h => point_fits (b := b) h
  clear ha hb
  generalize (pointV a).1 = x at *
  generalize (pointV a).2 = e at *
  generalize (pointV b).1 = y at *
  generalize (pointV b).2 = f at *
  by_cases he : e = 0
  · by_cases hf : f = 0
    · have hlt : (FloatKind.f64.format.order x y == some .lt) = decide (x < y) := by
        have h1 := hpa he
        have h2 := hpb hf
        have h3 := one_fin
        exact lt_test (by omega) (by omega)
      rw [decide_eq_false (fun h => hn ⟨he, hf, h⟩)] at hlt
      subst he hf
      clear hn hpa hpb
      go_enter Try.func9, Try.ntmps9
      go_wp2_with (first
        | (go_at_call 12; ((with_reducible refine (first_any _).mono ?_); rintro e w' ⟨rfl, rfl⟩))
        | (go_at_call 18; first | ((with_reducible refine (H1 _).out.mono ?_); rintro e w' ⟨rfl, rfl⟩) | ((with_reducible refine (H2 _).out.mono ?_); rintro e w' ⟨rfl, rfl⟩)))
      go_ret
      exact ⟨rfl, Below.refl _ _⟩
    · have hf' : (f != 0) = true := by rw [bne_iff_ne]; exact hf
      subst he
      clear hn hpa hpb hf
      go_enter Try.func9, Try.ntmps9
      go_wp2_with (first
        | (go_at_call 12; ((with_reducible refine (first_any _).mono ?_); rintro e w' ⟨rfl, rfl⟩))
        | (go_at_call 18; first | ((with_reducible refine (H1 _).out.mono ?_); rintro e w' ⟨rfl, rfl⟩) | ((with_reducible refine (H2 _).out.mono ?_); rintro e w' ⟨rfl, rfl⟩)))
      go_ret
      exact ⟨rfl, Below.refl _ _⟩
  · have he' : (e != 0) = true := by rw [bne_iff_ne]; exact he
    clear hn hpa hpb he
    go_enter Try.func9, Try.ntmps9
    go_wp2_with (first
      | (go_at_call 12; ((with_reducible refine (first_any _).mono ?_); rintro e w' ⟨rfl, rfl⟩))
      | (go_at_call 18; first | ((with_reducible refine (H1 _).out.mono ?_); rintro e w' ⟨rfl, rfl⟩) | ((with_reducible refine (H2 _).out.mono ?_); rintro e w' ⟨rfl, rfl⟩)))
    go_ret
    exact ⟨rfl, Below.refl _ _⟩
set_option maxRecDepth 100000 in
theorem narrows_in (W : World) (a : Nat) (ha : a < 18446744073709551616) (b : Nat) (hb : b < 18446744073709551616) (v : Value) (xs : List Bool) (hv : HasBs W v xs) (hn : (pointV a).2 = 0 ∧ (pointV b).2 = 0 ∧ (pointV a).1 < (pointV b).1) : Calls Try.prog 9 #[.float .f64 a, .float .f64 b, v] W fun e w' => e = .returned (.bool true) ∧ Below W.heap.size W w' := by
  have H1 := fun w => Lib.hid (point_any a ha w)
  have H2 := fun w => Lib.hid (point_any b hb w)
  have hpa := point_fits hn.1
  have hpb := point_fits hn.2.1
  obtain ⟨n1, n2, n3⟩ := hn
  rw [n1] at H1
  rw [n2] at H2
  clear ha hb n1 n2
  have hst := rk_start (n := 0) rfl n3 hpb
  have hlt : (FloatKind.f64.format.order (pointV a).1 (pointV b).1 == some .lt) = true := by
    have h3 := one_fin
    rw [lt_test (by omega) (by omega), decide_eq_true n3]
  generalize (pointV a).1 = x at *
  generalize (pointV b).1 = y at *
  have HST := Lib.hid hst
  clear n3 hpa hpb hst
  obtain ⟨hml, hv⟩ := hv
  unfold maxLen at hml
  rcases hv with ⟨rfl, ao, cap, rfl⟩ | ⟨hpos, blk, off, cap, rfl, hcap, hc⟩
  · clear hml
    go_enter Try.func9, Try.ntmps9
    go_wp2_with (first
      | (go_at_call 12; ((with_reducible refine (first_any _).mono ?_); rintro e w' ⟨rfl, rfl⟩))
      | (go_at_call 18; first | ((with_reducible refine (H1 _).out.mono ?_); rintro e w' ⟨rfl, rfl⟩) | ((with_reducible refine (H2 _).out.mono ?_); rintro e w' ⟨rfl, rfl⟩)))
    clear hlt
    go_loop [7, 9, 11] (fun p q n => ∃ (k u t : Nat), n = .int .i64 k ∧ p = .float .f64 u ∧ q = .float .f64 t ∧ Hid (Rk k u t)) (fun _ _ n => 1100 - (intOf n).toNat)
    case atStart => exact ⟨0, x, y, rfl, rfl, rfl, HST.out⟩
    case round =>
      obtain ⟨k, u, t, rfl, rfl, rfl, HK⟩ := hrel
      have hk := rk_lt HK.out
      have hk' : (k : Int) < 1100 := by omega
      have hu := HK.out.1
      have ht := HK.out.2.1
      have h3 := one_fin
      have HM : ∀ w, Hid (Calls Try.prog 20 #[.float .f64 u, .float .f64 t] w fun e w' => e = .returned (.tuple #[.float .f64 (midV u t).1, .int .i64 (midV u t).2]) ∧ w = w') := fun w => mid_any u t (by unfold infR at h3; omega) (by unfold infR at h3; omega) w
      rw [mid_pts hu ht] at HM
      have hmf := mid_fin hu ht
      have hb := mid_between HK.out
      cases hbt : betB u (midN u t) t
      · rw [hbt, if_neg (by simp)] at HM
        simp only at HM
        clear hu ht h3 hmf hb hbt hk
        go_wp2_with (first
          | (go_at_call 12; ((with_reducible refine (first_any _).mono ?_); rintro e w' ⟨rfl, rfl⟩))
          | (go_at_call 20; ((with_reducible refine (HM _).out.mono ?_); rintro e w' ⟨rfl, rfl⟩)))
        go_ret
        exact ⟨rfl, Below.refl _ _⟩
      · rw [hbt, if_pos rfl] at HM
        simp only at HM
        unfold betB at hbt
        rw [Bool.and_eq_true, decide_eq_true_eq, decide_eq_true_eq] at hbt
        obtain ⟨b1, b2⟩ := hbt
        obtain ⟨r1, r2⟩ := hb b1 b2
        have g1 := gt_test (r := midN u t) (q := u) hmf (by omega) b1
        have g2 : (FloatKind.f64.format.order (midN u t) t == some .lt) = true := by rw [lt_test hmf (by omega), decide_eq_true b2]
        have R1 := Lib.hid r1
        have R2 := Lib.hid r2
        generalize midN u t = m at *
        clear hu ht h3 hmf hb b1 b2 r1 r2 hk
        go_wp2_with (first
          | (go_at_call 20; ((with_reducible refine (HM _).out.mono ?_); rintro e w' ⟨rfl, rfl⟩)))
        refine ⟨⟨k + 1, u, m, by simp, rfl, rfl, R1.out⟩, by simp [intOf]; omega⟩
  · go_enter Try.func9, Try.ntmps9
    go_wp2_with (first
      | (go_at_call 12; ((with_reducible refine (first_any _).mono ?_); rintro e w' ⟨rfl, rfl⟩))
      | (go_at_call 18; first | ((with_reducible refine (H1 _).out.mono ?_); rintro e w' ⟨rfl, rfl⟩) | ((with_reducible refine (H2 _).out.mono ?_); rintro e w' ⟨rfl, rfl⟩)))
    clear hlt
    have HC := Lib.hid hc
    clear hc
    go_loop [7, 9, 11] (fun p q n => ∃ (k u t : Nat), n = .int .i64 k ∧ p = .float .f64 u ∧ q = .float .f64 t ∧ Hid (Rk k u t)) (fun _ _ n => 1100 - (intOf n).toNat)
    case atStart => exact ⟨0, x, y, rfl, rfl, rfl, HST.out⟩
    case round =>
      obtain ⟨k, u, t, rfl, rfl, rfl, HK⟩ := hrel
      have hk := rk_lt HK.out
      have hk' : (k : Int) < 1100 := by omega
      have hu := HK.out.1
      have ht := HK.out.2.1
      have h3 := one_fin
      have HM : ∀ w, Hid (Calls Try.prog 20 #[.float .f64 u, .float .f64 t] w fun e w' => e = .returned (.tuple #[.float .f64 (midV u t).1, .int .i64 (midV u t).2]) ∧ w = w') := fun w => mid_any u t (by unfold infR at h3; omega) (by unfold infR at h3; omega) w
      rw [mid_pts hu ht] at HM
      have hmf := mid_fin hu ht
      have hb := mid_between HK.out
      cases hbt : betB u (midN u t) t
      · rw [hbt, if_neg (by simp)] at HM
        simp only at HM
        clear hu ht h3 hmf hb hbt hk
        go_wp2_with (first
          | (go_at_call 12; ((with_reducible refine (first_any _).mono ?_); rintro e w' ⟨rfl, rfl⟩))
          | (go_at_call 20; ((with_reducible refine (HM _).out.mono ?_); rintro e w' ⟨rfl, rfl⟩)))
        go_ret
        exact ⟨rfl, Below.refl _ _⟩
      · rw [hbt, if_pos rfl] at HM
        simp only at HM
        unfold betB at hbt
        rw [Bool.and_eq_true, decide_eq_true_eq, decide_eq_true_eq] at hbt
        obtain ⟨b1, b2⟩ := hbt
        obtain ⟨r1, r2⟩ := hb b1 b2
        have g1 := gt_test (r := midN u t) (q := u) hmf (by omega) b1
        have g2 : (FloatKind.f64.format.order (midN u t) t == some .lt) = true := by rw [lt_test hmf (by omega), decide_eq_true b2]
        have R1 := Lib.hid r1
        have R2 := Lib.hid r2
        generalize midN u t = m at *
        clear hu ht h3 hmf hb b1 b2 r1 r2 hk
        have hi1 : (0 : Int) < (xs.length : Int) := by omega
        have hmod : k % xs.length < xs.length := Nat.mod_lt _ hpos
        have hc := HC.out (k % xs.length) hmod
        have hi2 : (0 : Int) ≤ (k : Int) % (xs.length : Int) := by omega
        have hi3 : (k : Int) % (xs.length : Int) < (xs.length : Int) := by omega
        have hi4 : ((k : Int) % (xs.length : Int)).toNat = k % xs.length := by omega
        cases hbo : xs.getD (k % xs.length) false
        · rw [hbo] at hc
          clear hbo hmod
          go_wp2_with (first
            | (go_at_call 20; ((with_reducible refine (HM _).out.mono ?_); rintro e w' ⟨rfl, rfl⟩)))
          refine ⟨⟨k + 1, u, m, by simp, rfl, rfl, R1.out⟩, by simp [intOf]; omega⟩
        · rw [hbo] at hc
          clear hbo hmod
          go_wp2_with (first
            | (go_at_call 20; ((with_reducible refine (HM _).out.mono ?_); rintro e w' ⟨rfl, rfl⟩)))
          refine ⟨⟨k + 1, m, t, by simp, rfl, rfl, R2.out⟩, by simp [intOf]; omega⟩
theorem placeNarrows_walk (W : World) (a : Nat) (ha : a < 18446744073709551616) (b : Nat) (hb : b < 18446744073709551616) (v : Value) (xs : List Bool) (hv : HasBs W v xs) : Calls Try.prog 9 #[.float .f64 a, .float .f64 b, v] W fun e w' => e = .returned (.bool true) ∧ Below W.heap.size W w' := by
  by_cases hn : (pointV a).2 = 0 ∧ (pointV b).2 = 0 ∧ (pointV a).1 < (pointV b).1
  · exact narrows_in W a ha b hb v xs hv hn
  · exact narrows_out W a ha b hb v hn

set_option maxRecDepth 100000 in
theorem placeNarrows_lifted (os : Os) (started : os.Started) (H : Type) (enc : TypeId × Value → H) :
    ReturnsInHanded {} Try.checked os 9 .any (Rows.placeNarrowsSpec.pre6 enc Try.prog Try.f9 [] false) (Rows.placeNarrowsSpec.post enc Try.prog Try.f9 false true false false) := by
  refine returnsInHanded_of_change (C := Try.checked) own started (by kernel_rfl) Try.func9
    (ChangeSpec.witness6 (enc := enc) (C := Try.checked) false ⟨#[], #[.float .f64 0, .float .f64 0, .slice none 0 0], []⟩ 8 (by kernel_rfl) (by kernel_rfl) (by kernel_rfl) (by kernel_rfl)) ?_
  intro W base args ds gs before hval0 hW _ _
  have hval : ∀ (j : Nat) t v, Try.f9.params[j]? = some t → args[j]? = some v → Value.okWide Try.prog W .any base t v := hval0
  have hW' := hW
  obtain ⟨p, q, hA0, hV, rfl, hfz, hnd⟩ := hW
  have hA : DataW.TrodAll enc Try.prog W 0 (fun _ => true) true Try.f9.params.toList args.toList ds p := hA0
  rw [Try.params9] at hA hval
  obtain ⟨v0, v1, v2, d0, d1, d2, p0, p1, p2, rfl, rfl, rfl, h0, h1, h2⟩ := trodAll_three hA
  obtain ⟨a0, rfl, rfl, rfl, wf0⟩ := open_float Try.underlying23 (hval 0 23 v0 rfl rfl) h0
  obtain ⟨a1, rfl, rfl, rfl, wf1⟩ := open_float Try.underlying23 (hval 1 23 v1 rfl rfl) h1
  obtain ⟨b2, len2, cap2, rfl⟩ := okWide_slice Try.underlying54 (hval 2 54 v2 rfl rfl)
  have k2 := h2
  obtain ⟨fuel2, g2⟩ := h2
  obtain ⟨rfl, rfl⟩ := trodVars_none hV
  clear hA0 hval0
  simp only [List.append_nil] at hW'
  have hlt : ∀ x ∈ [] ++ [] ++ p2, x.block < W.heap.size := fun x hx => hW'.lt x (by simpa using hx)
  have hwf0 := wf0
  simp [Lit.wf] at hwf0
  have hwf1 := wf1
  simp [Lit.wf] at hwf1
  obtain ⟨xs2, r2⟩ := open_boolrow g2
  refine Calls.mono (?walk : Calls _ _ _ _ fun e w' => e = .returned (.bool true) ∧ Below W.heap.size W w') fun e W' ⟨he, hw⟩ => ?_
  case walk =>
    exact placeNarrows_walk W a0 (by omega) a1 (by omega) _ xs2 r2
  subst he
  exact ⟨_, rfl, post_of_below (pa := [] ++ ([] ++ p2)) (pv := []) hW' (fun _ _ _ => trodAll_mk1 (shut_bool Try.underlying4 _)) (fun sp hsp => trodAll_mk3 (shut_float Try.underlying23 wf0) (shut_float Try.underlying23 wf1) (WideElems.Trod_stays laidOut (by kernel_rfl) (of_decide_eq_true (by kernel_rfl)) k2 (fun x hx => hw.same (hlt x (by simp [hx]))) (fun x hx => hsp x (by simp [hx])))) (fun _ _ => rfl) (by simp) hw (ok_one (by kernel_rfl) rfl (okWide_bool_mk Try.underlying4 _))⟩
/-- THE ROW. -/
theorem placeNarrows_holds : Rows.PlaceNarrowsSaid :=
  OpenClaim.holds_of_wide 9 Try.f9 rfl rfl rfl rfl rfl rfl rfl ⟨rfl, rfl, rfl, rfl, rfl⟩ rfl rfl rfl rfl rfl (by kernel_rfl) Try.func9 (by kernel_rfl)
    (of_decide_eq_true (by kernel_rfl)) (by unfold Func.isWrapper; first | (rw [if_pos (by decide +kernel)]; kernel_rfl) | (rw [if_neg (by decide +kernel)]; exact ⟨rfl, rfl⟩))
    (fun os started H enc _ => placeNarrows_lifted os started H enc)
#print axioms placeNarrows_holds
end Go.Proofs.Ytfdopinlmjbfaaa
