/- racelaw14.DirSplits' walk: a key that is asked for between. Conditions: none of its own. -/
import Derived.Test.YtfcdajkgopcmpaaJDxc
namespace Go.Proofs.Ytfcdajkgopcmpaa
open Go.ChangeShapes Go.WideShapes Go.ChangeAt Go.RowKit
set_option maxRecDepth 100000 in
set_option maxHeartbeats 100000000 in
theorem splits_d : splitsC.1.1 := by
  intro w
  set_option tactic.hygienic false in intros
  have hjk2 : (j : Int) < (kn : Int) := by omega
  obtain ⟨kb, koff, rfl, ck⟩ := (HKK.out.below HSQ5.out.lo).at_ hjk
  replace ck : wr.cell? ⟨kb, koff + j, none⟩ = some (.string (ks.getD j ⟨⟨#[]⟩, by decide⟩).1) := ck
  have hsz := (ks.getD j ⟨⟨#[]⟩, by decide⟩).2
  generalize (ks.getD j ⟨⟨#[]⟩, by decide⟩).1 = s at *
  unfold maxLen at hsz
  have hkb := World.block_lt_of_cell? _ _ ck
  have HCK : Hid (∀ wz, Below wr.heap.size wr wz → wz.cell? ⟨kb, koff + j, none⟩ = some (.string s)) := Lib.hid (fun wz hb => (hb.cell (p := ⟨kb, koff + j, none⟩) hkb).trans ck)
  have HB0 := Lib.hid (HpB.out.below HBq.out HpB.out.lt)
  have HBB : Hid (∀ wz, Below wr.heap.size wr wz → At wz bb ⟨(m : Int) + 1, 0, x, rh⟩) := Lib.hid (fun wz hb => HB0.out.below hb HB0.out.lt)
  have HRO : Hid (∀ wz, Below wr.heap.size wr wz → Calls Try.prog 12 #[ptr a, .string s] wz fun e w' => e = .returned (.tuple #[ragg (routeL N1 s).1, .bool (routeL N1 s).2]) ∧ Below wz.heap.size wz w') := Lib.hid (fun wz hb => droute_any ⟨mb, (HSQ5.out.below hb).d⟩ s hsz)
  have HOF := fun w => Lib.hid (rof_any s hsz w)
  have hX := (of_spec s.data.toList).2
  have HRX := Lib.hid (HRT.out _ hX)
  have HRE : Hid (routeL N1 s = if keyB s = true then lastIn N1 (ofH s.data.toList) else (RV.zero, false)) := Lib.hid rfl
  have HIN := fun w => Lib.hid (rin_any ⟨(m : Int) + 1, 0, x, rh⟩ (ofH s.data.toList) w)
  generalize ofH s.data.toList = X at *
  have HKZ := Lib.hid (key_size (s := s))
  clear hX hkb HB0
  go_upto_region 28 with fail
  go_cut [23] (fun v9 wz => v9 = .bool (inV ⟨(m : Int) + 1, 0, x, rh⟩ X) ∧ Hid (Below wr.heap.size wr wz))
  case first =>
    have HBz := Lib.hid ((Below.refl wr.heap.size wr).drew)
    go_region_held (fun w' => w'.cell? ⟨bb, 0, none⟩ = some (.int .i64 ((m : Int) + 1)) ∧ w'.cell? ⟨bb, 1, none⟩ = some (.int .i64 0) ∧ w'.cell? ⟨bb, 2, none⟩ = some (.float .f64 x) ∧ w'.cell? ⟨bb, 3, none⟩ = some (.float .f64 rh) ∧ w'.cell? ⟨kb, koff + j, none⟩ = some (.string s)) (exact ⟨(HBB.out _ HBz.out).c0, (HBB.out _ HBz.out).c1, (HBB.out _ HBz.out).c2, (HBB.out _ HBz.out).c3, HCK.out _ HBz.out⟩)
      ((first
        | (go_at_call 24; refine (HOF _).out.mono ?_; rintro e w5 ⟨rfl, rfl⟩)
        | (go_at_call 23; refine (HIN _).out.mono ?_; rintro e w6 ⟨rfl, hb⟩; have HBz := Lib.hid (HBz.out.trans (hb.mono HBz.out.size)); clear hb)))
    go_wp2_with (fail)
    go_meet
    case rel => exact ⟨rfl, HBz⟩
  case rest =>
  obtain ⟨rfl, HBz⟩ := hcut
  have ck := HCK.out _ HBz.out
  clear HIN HOF
  cases hkey : keyB s with
  | false =>
    have HP9 : Hid (routeL N1 s = (⟨0, 0, 0, 0⟩, false)) := Lib.hid (by rw [HRE.out, hkey]; rfl)
    rw [HP9.out] at HRO
    obtain ⟨r1, r2, r3, r4, hr1, hr2, hr3, hr4⟩ : ∃ r1 : Int, ∃ r2 : Int, ∃ r3 : Nat, ∃ r4 : Nat, 0 = r1 ∧ 0 = r2 ∧ 0 = r3 ∧ 0 = r4 := ⟨0, 0, 0, 0, rfl, rfl, rfl, rfl⟩
    have HRO : Hid (∀ wz, Below wr.heap.size wr wz → Calls Try.prog 12 #[ptr a, .string s] wz fun e w' => e = .returned (.tuple #[ragg ⟨r1, r2, r3, r4⟩, .bool false]) ∧ Below wz.heap.size wz w') := by rw [← hr1, ← hr2, ← hr3, ← hr4]; exact HRO
    clear hr1 hr2 hr3 hr4
    have hks : s.size < 1 ∨ 24 < s.size := by
      rcases Nat.lt_or_ge s.size 1 with h1 | h1
      · exact .inl h1
      · rcases Nat.lt_or_ge 24 s.size with h2 | h2
        · exact .inr h2
        · have := HKZ.out.2 ⟨h1, h2⟩; rw [hkey] at this; cases this
    generalize inV ⟨(m : Int) + 1, 0, x, rh⟩ X = iv9 at *
    clear hkey HRX HP9 HRE
    rcases Nat.lt_or_ge s.size 1 with h1 | h1
    · have h2 : (s.size : Int) < 1 := by omega
      go_wp2_with (first
        | (go_at_call 12; refine (HRO.out _ HBz.out).mono ?_; rintro e w9 ⟨rfl, hb⟩; have HBz := Lib.hid ((HBz.out.trans (hb.mono HBz.out.size)).alloc (Nat.le_trans HBz.out.size hb.size) (robj ⟨r1, r2, r3, r4⟩)); have HR := Lib.hid (at_new w9 ⟨r1, r2, r3, r4⟩); have t0 := HR.out.c0; have b0 := (HBB.out _ HBz.out).c0; have ck := HCK.out _ HBz.out; dsimp only [robj] at t0 b0 ck; clear hb)
        | fail)
      go_roundw
      case rel => exact ⟨j + 1, by go_num, by omega, Lib.hid (HBq.out.trans (HBz.out.mono HBq.out.size))⟩
      case measure => simp [intOf]; omega
    · have h2 : ¬ (s.size : Int) < 1 := by omega
      have h3 : (24 : Int) < (s.size : Int) := by omega
      go_wp2_with (first
        | (go_at_call 12; refine (HRO.out _ HBz.out).mono ?_; rintro e w9 ⟨rfl, hb⟩; have HBz := Lib.hid ((HBz.out.trans (hb.mono HBz.out.size)).alloc (Nat.le_trans HBz.out.size hb.size) (robj ⟨r1, r2, r3, r4⟩)); have HR := Lib.hid (at_new w9 ⟨r1, r2, r3, r4⟩); have t0 := HR.out.c0; have b0 := (HBB.out _ HBz.out).c0; have ck := HCK.out _ HBz.out; dsimp only [robj] at t0 b0 ck; clear hb)
        | fail)
      go_roundw
      case rel => exact ⟨j + 1, by go_num, by omega, Lib.hid (HBq.out.trans (HBz.out.mono HBq.out.size))⟩
      case measure => simp [intOf]; omega
  | true =>
    obtain ⟨h1, h3⟩ := HKZ.out.1 hkey
    have h2 : ¬ (s.size : Int) < 1 := by omega
    have h4 : ¬ (24 : Int) < (s.size : Int) := by omega
    rw [HRE.out, hkey, if_pos rfl] at HRO
    cases hin : inV ⟨(m : Int) + 1, 0, x, rh⟩ X with
    | false =>
      generalize lastIn N1 X = p9 at *
      obtain ⟨⟨r1, r2, r3, r4⟩, ok9⟩ := p9
      clear hkey hin HRX HRE
      go_wp2_with (first
        | (go_at_call 12; refine (HRO.out _ HBz.out).mono ?_; rintro e w9 ⟨rfl, hb⟩; have HBz := Lib.hid ((HBz.out.trans (hb.mono HBz.out.size)).alloc (Nat.le_trans HBz.out.size hb.size) (robj ⟨r1, r2, r3, r4⟩)); have HR := Lib.hid (at_new w9 ⟨r1, r2, r3, r4⟩); have t0 := HR.out.c0; have b0 := (HBB.out _ HBz.out).c0; have ck := HCK.out _ HBz.out; dsimp only [robj] at t0 b0 ck; clear hb)
        | fail)
      go_roundw
      case rel => exact ⟨j + 1, by go_num, by omega, Lib.hid (HBq.out.trans (HBz.out.mono HBq.out.size))⟩
      case measure => simp [intOf]; omega
    | true =>
      rw [HRX.out hin] at HRO
      clear hkey hin HRX HRE
      cases P
      · rw [if_neg (by decide)] at HRO
        obtain ⟨r1, hr1⟩ : ∃ r1 : Int, (m : Int) + 1 = r1 := ⟨_, rfl⟩
        obtain ⟨r2, hr2⟩ : ∃ r2 : Int, (0 : Int) = r2 := ⟨_, rfl⟩
        obtain ⟨r3, hr3⟩ : ∃ r3 : Nat, x = r3 := ⟨_, rfl⟩
        obtain ⟨r4, hr4⟩ : ∃ r4 : Nat, rh = r4 := ⟨_, rfl⟩
        have HRO : Hid (∀ wz, Below wr.heap.size wr wz → Calls Try.prog 12 #[ptr a, .string s] wz fun e w' => e = .returned (.tuple #[ragg ⟨r1, r2, r3, r4⟩, .bool true]) ∧ Below wz.heap.size wz w') := by rw [← hr1, ← hr2, ← hr3, ← hr4]; exact HRO
        have hr5 : (r1 != (m : Int) + 1) = false := by rw [hr1]; simp
        clear hr1 hr2 hr3 hr4
        go_wp2_with (first
          | (go_at_call 12; refine (HRO.out _ HBz.out).mono ?_; rintro e w9 ⟨rfl, hb⟩; have HBz := Lib.hid ((HBz.out.trans (hb.mono HBz.out.size)).alloc (Nat.le_trans HBz.out.size hb.size) (robj ⟨r1, r2, r3, r4⟩)); have HR := Lib.hid (at_new w9 ⟨r1, r2, r3, r4⟩); have t0 := HR.out.c0; have b0 := (HBB.out _ HBz.out).c0; have ck := HCK.out _ HBz.out; dsimp only [robj] at t0 b0 ck; clear hb)
          | fail)
        go_roundw
        case rel => exact ⟨j + 1, by go_num, by omega, Lib.hid (HBq.out.trans (HBz.out.mono HBq.out.size))⟩
        case measure => simp [intOf]; omega
      · rw [if_pos rfl] at HRO
        obtain ⟨r1, r2, r3, r4, hr1, hr2, hr3, hr4⟩ : ∃ r1 : Int, ∃ r2 : Int, ∃ r3 : Nat, ∃ r4 : Nat, 0 = r1 ∧ 0 = r2 ∧ 0 = r3 ∧ 0 = r4 := ⟨0, 0, 0, 0, rfl, rfl, rfl, rfl⟩
        have HRO : Hid (∀ wz, Below wr.heap.size wr wz → Calls Try.prog 12 #[ptr a, .string s] wz fun e w' => e = .returned (.tuple #[ragg ⟨r1, r2, r3, r4⟩, .bool false]) ∧ Below wz.heap.size wz w') := by rw [← hr1, ← hr2, ← hr3, ← hr4]; exact HRO
        clear hr1 hr2 hr3 hr4
        go_wp2_with (first
          | (go_at_call 12; refine (HRO.out _ HBz.out).mono ?_; rintro e w9 ⟨rfl, hb⟩; have HBz := Lib.hid ((HBz.out.trans (hb.mono HBz.out.size)).alloc (Nat.le_trans HBz.out.size hb.size) (robj ⟨r1, r2, r3, r4⟩)); have HR := Lib.hid (at_new w9 ⟨r1, r2, r3, r4⟩); have t0 := HR.out.c0; have b0 := (HBB.out _ HBz.out).c0; have ck := HCK.out _ HBz.out; dsimp only [robj] at t0 b0 ck; clear hb)
          | fail)
        go_roundw
        case rel => exact ⟨j + 1, by go_num, by omega, Lib.hid (HBq.out.trans (HBz.out.mono HBq.out.size))⟩
        case measure => simp [intOf]; omega
end Go.Proofs.Ytfcdajkgopcmpaa
