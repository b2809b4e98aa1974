/- Bytes up to the limit are framed, one more are not: racelaw5.FrameLong answers true. Conditions: none. -/
import Derived.Test.YtcpncmdnefemmaaW
import Derived.Test.YtcpncmdnefemmaaZ
namespace Go.Proofs.Ytcpncmdnefemmaa
open Go.ChangeShapes Go.WideShapes Go.ChangeAt Go.RowKit
theorem bys_set (l : List UInt8) (i : Nat) (y : UInt8) : bys (l.set i y) = (bys l).set i (.int .u8 (y.toNat : Int)) := by
  unfold bys; rw [List.map_set]
set_option maxHeartbeats 1000000 in
set_option maxRecDepth 100000 in
theorem frameLong_at (w : World) (a x : Int) (y : UInt8) (hy : x = (y.toNat : Int)) (k : Nat) (hk : k ≤ 4) (hm : Int.tmod a 5 = (k : Int) ∨ Int.tmod a 5 = -(k : Int)) :
    Calls Try.prog 4 #[.int .i64 a, .int .u8 x] w fun e w' => e = .returned (.bool true) ∧ Below w.heap.size w w' := by
  obtain ⟨i0, hi, hz0, hz1, hz2⟩ := info_parts info5
  subst hy
  have HB := Lib.hid (Below.refl w.heap.size w)
  have HL : ∀ l : List UInt8, Hid ((frameV l).length = l.length + 12) := fun l => frame_length l
  have hm2 : (0 < k ∧ Int.tmod a 5 = -(k : Int)) ∨ Int.tmod a 5 = (k : Int) := by omega
  clear hm
  obtain ⟨N, hNN⟩ : ∃ N : Nat, N = 262142 + k := ⟨_, rfl⟩
  have hmk : ∀ w : World, ∃ w', (Instr.makeSlice 22 (.int .i64 (262142 + (k : Int))) (.int .i64 (262142 + (k : Int)))).run Try.prog w = .ok (.slice (some ⟨w.heap.size, 0, none⟩) N N) w' ∧ w'.ownsRow w.heap.size 5 1 (.slice (some ⟨w.heap.size, 0, none⟩) N N) N (bys (List.replicate N 0)) ∧ Below w.heap.size w w' := by
    intro w
    obtain ⟨w', h1, h2, h3⟩ := run_make_full (P := Try.prog) w w.heap.size 22 5 i0 (.int .u8 0) 1 under22 hi hz0 hz1 .i64 .i64 N (by rw [hz2]; omega) (by unfold maxLen; omega) (Nat.le_refl _)
    refine ⟨w', ?_, ?_, (Below.refl _ _).grown h3 (Nat.le_refl _) (fun k hk => by cases hk)⟩
    · rw [show ((262142 : Int) + (k : Int)) = (N : Int) by omega]; exact h1
    · have e : (madeCells (Value.int .u8 0).cells (N * 1)).toList = bys (List.replicate N 0) := by
        rw [show (Value.int IntKind.u8 0).cells = #[.int .u8 0] from rfl, toList_madeCells_one, Nat.mul_one]
        simp [bys]
      rw [e] at h2
      exact h2
  have HMK := Lib.hid hmk
  have hN1 : N ≤ 262146 := by omega
  clear hmk hNN
  rcases hm2 with ⟨hk0, e1⟩ | e1
  all_goals
    go_enter Try.func4, Try.ntmps4
    go_wp2_with (first
      | (go_at_call 10; (with_reducible refine (first_any _).mono ?_); rintro e w1 ⟨rfl, hb⟩; have HB := Lib.hid hb; clear hb))
    obtain ⟨w2, hr, ho2, hb2⟩ := HMK.out w1
    have HO := Lib.hid ho2
    have HB2 := Lib.hid hb2
    clear ho2 hb2
    rw [hr]
    go_wp2
    generalize hg : w1.heap.size = g at *
    go_loopw [7] (fun i wr => ∃ (j : Nat) (L : List UInt8), j ≤ N ∧ i = .int .i64 j ∧ Hid (L.length = N) ∧ Hid (wr.ownsRow g 5 1 (.slice (some ⟨g, 0, none⟩) N N) N (bys L)) ∧ Hid (Below g w1 wr)) (fun i _ => N - (intOf i).toNat)
    case atStart => exact ⟨0, _, Nat.zero_le _, rfl, List.length_replicate, HO, HB2⟩
    case round =>
      obtain ⟨j, L, hj, rfl, HL1, HO, HW⟩ := hrel
      by_cases hjN : j < N
      · have fr := HO.out.frozenAt j
        have hc := HO.out.cellAt j (by omega)
        obtain ⟨z, hz⟩ : ∃ z, (bys L)[j]? = some z := ⟨_, List.getElem?_eq_getElem (by rw [bys_length, HL1.out]; exact hjN)⟩
        rw [hz] at hc
        clear hz
        go_wp2
        exact ⟨⟨j + 1, L.set j y, by omega, by go_num, by rw [List.length_set]; exact HL1.out, by rw [bys_set]; exact (HO.out.stored j _).1, HW.out.setCell (p := ⟨g, j, none⟩) (Nat.le_refl _) _⟩, by simp [intOf]; omega⟩
      · obtain rfl : N = j := by omega
        have HS := Lib.hid (own_sb HO.out)
        have HBW := Lib.hid (HB.out.trans (HW.out.mono (by rw [← hg]; exact HB.out.size)))
        by_cases hbig : 262144 < N
        · have hbl : (262144 : Int) < (N : Int) := by omega
          go_wp2_with (first
            | (go_at_call 12; (with_reducible refine (frame_long HS.out (by rw [HL1.out]; exact hbig)).mono ?_); rintro e w3 ⟨rfl, rfl⟩)
            | (go_at_call 10; (with_reducible refine (first_any _).mono ?_); rintro e w4 ⟨rfl, hb⟩; have HBW := Lib.hid (HBW.out.trans (hb.mono HBW.out.size)); clear hb))
          go_ret
          exact ⟨rfl, HBW.out⟩
        · have hbl : ¬ (262144 : Int) < (N : Int) := by omega
          go_wp2_with (first
            | (go_at_call 12; (with_reducible refine (frame_any HS.out (by rw [HL1.out]; omega)).mono ?_); rintro e w3 ⟨f, rfl, ho, hb⟩; rw [(HL L).out, HL1.out] at ho; obtain ⟨fo, fc, rfl⟩ := own_slice ho; have HBW := Lib.hid (HBW.out.trans (hb.mono HBW.out.size)); clear ho hb)
            | (go_at_call 10; (with_reducible refine (first_any _).mono ?_); rintro e w4 ⟨rfl, hb⟩; have HBW := Lib.hid (HBW.out.trans (hb.mono HBW.out.size)); clear hb))
          go_ret
          exact ⟨rfl, HBW.out⟩
theorem frameLong_walk (w : World) (a : Int) (_ : -9223372036854775808 ≤ a) (_ : a ≤ 9223372036854775807) (x : Int) (hx1 : 0 ≤ x) (hx2 : x ≤ 255) :
    Calls Try.prog 4 #[.int .i64 a, .int .u8 x] w fun e w' => e = .returned (.bool true) ∧ Below w.heap.size w w' := by
  have h1 : (UInt8.ofNat x.toNat).toNat = x.toNat := ofNat_toNat (by omega)
  have h2 : Int.tmod a 5 = Int.tmod a 5 := rfl
  have h3 := Int.tmod_lt_of_pos a (show (0 : Int) < 5 by decide)
  have h4 := Int.lt_tmod_of_pos a (show (0 : Int) < 5 by decide)
  by_cases h : 0 ≤ Int.tmod a 5
  · exact frameLong_at w a x _ (by rw [h1]; omega) (Int.tmod a 5).toNat (by omega) (.inl (by omega))
  · exact frameLong_at w a x _ (by rw [h1]; omega) (-(Int.tmod a 5)).toNat (by omega) (.inr (by omega))

set_option maxRecDepth 100000 in
theorem frameLong_lifted (os : Os) (started : os.Started) (H : Type) (enc : TypeId × Value → H) :
    ReturnsInHanded {} Try.checked os 4 .any (Rows.frameLongSpec.pre6 enc Try.prog Try.f4 [] false) (Rows.frameLongSpec.post enc Try.prog Try.f4 false true false false) := by
  refine returnsInHanded_of_change (C := Try.checked) own started (by kernel_rfl) Try.func4
    (ChangeSpec.witness6 (enc := enc) (C := Try.checked) false ⟨#[], #[.int .i64 0, .int .u8 0], []⟩ 8 (by kernel_rfl) (by kernel_rfl) (by kernel_rfl) (by kernel_rfl)) ?_
  intro W base args ds gs before hval0 hW _ _
  have hval : ∀ (j : Nat) t v, Try.f4.params[j]? = some t → args[j]? = some v → Value.okWide Try.prog W .any base t v := hval0
  have hW' := hW
  obtain ⟨p, q, hA0, hV, rfl, hfz, hnd⟩ := hW
  have hA : DataW.TrodAll enc Try.prog W 0 (fun _ => true) true Try.f4.params.toList args.toList ds p := hA0
  rw [Try.params4] at hA hval
  obtain ⟨v0, v1, d0, d1, p0, p1, rfl, rfl, rfl, h0, h1⟩ := trodAll_two hA
  obtain ⟨a0, rfl, rfl, rfl, wf0⟩ := open_int Try.underlying3 (hval 0 3 v0 rfl rfl) h0
  obtain ⟨a1, rfl, rfl, rfl, wf1⟩ := open_int Try.underlying5 (hval 1 5 v1 rfl rfl) h1
  obtain ⟨rfl, rfl⟩ := trodVars_none hV
  clear hA0 hval0
  simp only [List.append_nil] at hW'
  have hwf0 := wf0
  simp [Lit.wf, IntKind.min, IntKind.max, IntKind.signed, IntKind.bits] at hwf0
  have hwf1 := wf1
  simp [Lit.wf, IntKind.min, IntKind.max, IntKind.signed, IntKind.bits] at hwf1
  refine Calls.mono (?walk : Calls _ _ _ _ fun e w' => e = .returned (.bool true) ∧ Below W.heap.size W w') fun e W' ⟨he, hw⟩ => ?_
  case walk =>
    exact frameLong_walk W a0 (by omega) (by omega) a1 (by omega) (by omega)
  subst he
  exact ⟨_, rfl, post_of_below (pa := [] ++ []) (pv := []) hW' (fun _ _ _ => trodAll_mk1 (shut_bool Try.underlying4 _)) (fun sp hsp => trodAll_mk2 (shut_int Try.underlying3 wf0) (shut_int Try.underlying5 wf1)) (fun _ _ => rfl) (by simp) hw (ok_one (by kernel_rfl) rfl (okWide_bool_mk Try.underlying4 _))⟩
/-- THE ROW. -/
theorem frameLong_holds : Rows.FrameLongSaid :=
  OpenClaim.holds_of_wide 4 Try.f4 rfl rfl rfl rfl rfl rfl rfl ⟨rfl, rfl, rfl, rfl, rfl⟩ rfl rfl rfl rfl rfl (by kernel_rfl) Try.func4 (by kernel_rfl)
    (of_decide_eq_true (by kernel_rfl)) (by unfold Func.isWrapper; first | (rw [if_pos (by decide +kernel)]; kernel_rfl) | (rw [if_neg (by decide +kernel)]; exact ⟨rfl, rfl⟩))
    (fun os started H enc _ => frameLong_lifted os started H enc)
#print axioms frameLong_holds
end Go.Proofs.Ytcpncmdnefemmaa
