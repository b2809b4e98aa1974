/- racelaw14.DirSplits' walk: its last loop. Conditions: none of its own. -/
import Derived.Test.YtfcdajkgopcmpaaJDxa
namespace Go.Proofs.Ytfcdajkgopcmpaa
open Go.ChangeShapes Go.WideShapes Go.ChangeAt Go.RowKit
set_option maxRecDepth 100000 in
set_option maxHeartbeats 100000000 in
theorem splits_b : splitsA.1.2.1 := by
  intro w
  set_option tactic.hygienic false in intros
  go_wp2
  go_loopw [26] (fun vj wq => ∃ j : Nat, vj = .int .i64 j ∧ j ≤ kn ∧ Hid (Below wb.heap.size wb wq)) (fun vj _ => kn - (intOf vj).toNat)
  case atStart => exact ⟨0, rfl, Nat.zero_le _, Below.refl _ _⟩
  case round =>
    obtain ⟨j, rfl, hj, HBq⟩ := hrel
    have HSQ5 := Lib.hid (HSQ.out.below HBq.out)
    by_cases hjk : j < kn
    · have hjk2 : (j : Int) < (kn : Int) := by omega
      obtain ⟨kb, koff, rfl, ck⟩ := (HKK.out.below HSQ5.out.lo).at_ hjk
      replace ck : wr.cell? ⟨kb, koff + j, none⟩ = some (.string (ks.getD j ⟨⟨#[]⟩, by decide⟩).1) := ck
      have hsz := (ks.getD j ⟨⟨#[]⟩, by decide⟩).2
      generalize (ks.getD j ⟨⟨#[]⟩, by decide⟩).1 = s at *
      unfold maxLen at hsz
      have hkb := World.block_lt_of_cell? _ _ ck
      have HCK : Hid (∀ wz, Below wr.heap.size wr wz → wz.cell? ⟨kb, koff + j, none⟩ = some (.string s)) := Lib.hid (fun wz hb => (hb.cell (p := ⟨kb, koff + j, none⟩) hkb).trans ck)
      have HRO : Hid (∀ wz, Below wr.heap.size wr wz → Calls Try.prog 12 #[ptr a, .string s] wz fun e w' => e = .returned (.tuple #[ragg (routeL M s).1, .bool (routeL M s).2]) ∧ Below wz.heap.size wz w') := Lib.hid (fun wz hb => droute_any ⟨mb, (HSQ5.out.below hb).d⟩ s hsz)
      have HOF := fun w => Lib.hid (rof_any s hsz w)
      have hX := (of_spec s.data.toList).2
      have HRX := Lib.hid (HRT _ hX).out
      have HRE : Hid (routeL M s = if keyB s = true then lastIn M (ofH s.data.toList) else (RV.zero, false)) := Lib.hid rfl
      generalize ofH s.data.toList = X at *
      have HFI : Hid (∀ wz, Below wr.heap.size wr wz → Calls Try.prog 26 #[.slice (some ⟨g, 0, none⟩) m c, .float .f64 X] wz fun e w' => e = .returned (.tuple #[ragg (findV M X).1, .bool (findV M X).2]) ∧ Below wz.heap.size wz w') := Lib.hid (fun wz hb => rfind_any X (own_ranges (l := M) (by rw [HML.out]; exact (HSQ5.out.below hb).row)) (by rw [HML.out]; omega))
      have HKZ := Lib.hid (key_size (s := s))
      obtain ⟨⟨r1, r2, r3, r4⟩, hf, hl⟩ := HRX.out
      rw [hf] at HFI
      simp only at HFI
      have HBz := Lib.hid (Below.refl wr.heap.size wr)
      clear hX hkb HRX hf HSQ5
      cases hkey : keyB s with
      | true =>
        obtain ⟨h1, h3⟩ := HKZ.out.1 hkey
        have h2 : ¬ (s.size : Int) < 1 := by omega
        have h4 : ¬ (24 : Int) < (s.size : Int) := by omega
        rw [HRE.out, hkey, if_pos rfl, hl] at HRO
        simp only at HRO
        clear hkey HRE hl HKZ
        go_upto_region 47 with (first
          | (go_at_call 12; refine (HRO.out _ HBz.out).mono ?_; rintro e w9 ⟨rfl, hb⟩; have HBz := Lib.hid ((HBz.out.trans (hb.mono HBz.out.size)).alloc (Nat.le_trans HBz.out.size hb.size) (robj ⟨r1, r2, r3, r4⟩)); have HX27 := Lib.hid (at_new w9 ⟨r1, r2, r3, r4⟩); have ck := HCK.out _ HBz.out; dsimp only [robj] at ck; clear hb)
          | (go_at_call 24; refine (HOF _).out.mono ?_; rintro e w5 ⟨rfl, rfl⟩)
          | (go_at_call 26; refine (HFI.out _ HBz.out).mono ?_; rintro e w10 ⟨rfl, hb⟩; have HB10 := Lib.hid (HBz.out.trans (hb.mono HBz.out.size)); have HBz := Lib.hid ((HBz.out.trans (hb.mono HBz.out.size)).alloc (Nat.le_trans HBz.out.size hb.size) (robj ⟨r1, r2, r3, r4⟩)); have HX27 := Lib.hid (HX27.out.below hb HX27.out.lt); have HX10 := HX27; have HNE := Lib.hid (show w10.heap.size ≠ w9.heap.size from fun e => by have := HX27.out.lt; omega); have HX27 := Lib.hid (HX27.out.alloc (robj ⟨r1, r2, r3, r4⟩)); have HX29 := Lib.hid (at_new w10 ⟨r1, r2, r3, r4⟩); have ck := HCK.out _ HBz.out; have s0 := HX29.out.c0; have s1 := HX29.out.c1; have s2 := HX29.out.c2; have s3 := HX29.out.c3; have f0 := HX29.out.f0; have f1 := HX29.out.f1; have f2 := HX29.out.f2; have f3 := HX29.out.f3; dsimp only [robj] at ck s0 s1 s2 s3 f0 f1 f2 f3; clear hb)
          | fail)
        clear s0 s1 s2 s3 f0 f1 f2 f3 ck
        dsimp only [robj] at HX27 HX29 HBz
        generalize w10.alloc (.cells #[.int .i64 r1, .int .i64 r2, .float .f64 r3, .float .f64 r4] 37) = w12 at *
        have t0 := HX27.out.c0; have t1 := HX27.out.c1; have t2 := HX27.out.c2; have t3 := HX27.out.c3
        have s0 := HX29.out.c0; have s1 := HX29.out.c1; have s2 := HX29.out.c2; have s3 := HX29.out.c3
        simp only at t0 t1 t2 t3 s0 s1 s2 s3
        go_wp2_with (first
          | (go_at_call 14; refine (range_same ⟨r1, r2, r3, r4⟩ _).mono ?_; rintro e w11 ⟨rfl, hb⟩; have HBz := Lib.hid (HBz.out.trans (hb.mono HBz.out.size)); clear hb)
          | fail)
        go_roundw
        case rel => exact ⟨j + 1, by go_num, by omega, Lib.hid (HBq.out.trans (HBz.out.mono HBq.out.size))⟩
        case measure => simp [intOf]; omega
      | false =>
        have HP9 : Hid (routeL M s = (⟨0, 0, 0, 0⟩, false)) := Lib.hid (by rw [HRE.out, hkey]; rfl)
        rw [HP9.out] at HRO
        simp only at HRO
        have hks : s.size < 1 ∨ 24 < s.size := by
          rcases Nat.lt_or_ge s.size 1 with h1 | h1
          · exact .inl h1
          · rcases Nat.lt_or_ge 24 s.size with h2 | h2
            · exact .inr h2
            · have := HKZ.out.2 ⟨h1, h2⟩; rw [hkey] at this; cases this
        clear hkey HP9 HRE hl HKZ
        rcases Nat.lt_or_ge s.size 1 with h1 | h1
        · have h2 : (s.size : Int) < 1 := by omega
          go_upto_region 47 with (first
            | (go_at_call 12; refine (HRO.out _ HBz.out).mono ?_; rintro e w9 ⟨rfl, hb⟩; have HBz := Lib.hid ((HBz.out.trans (hb.mono HBz.out.size)).alloc (Nat.le_trans HBz.out.size hb.size) (robj ⟨0, 0, 0, 0⟩)); have HX27 := Lib.hid (at_new w9 ⟨0, 0, 0, 0⟩); have ck := HCK.out _ HBz.out; dsimp only [robj] at ck; clear hb)
            | (go_at_call 24; refine (HOF _).out.mono ?_; rintro e w5 ⟨rfl, rfl⟩)
            | (go_at_call 26; refine (HFI.out _ HBz.out).mono ?_; rintro e w10 ⟨rfl, hb⟩; have HB10 := Lib.hid (HBz.out.trans (hb.mono HBz.out.size)); have HBz := Lib.hid ((HBz.out.trans (hb.mono HBz.out.size)).alloc (Nat.le_trans HBz.out.size hb.size) (robj ⟨r1, r2, r3, r4⟩)); have HX27 := Lib.hid (HX27.out.below hb HX27.out.lt); have HX10 := HX27; have HNE := Lib.hid (show w10.heap.size ≠ w9.heap.size from fun e => by have := HX27.out.lt; omega); have HX27 := Lib.hid (HX27.out.alloc (robj ⟨r1, r2, r3, r4⟩)); have HX29 := Lib.hid (at_new w10 ⟨r1, r2, r3, r4⟩); have ck := HCK.out _ HBz.out; have s0 := HX29.out.c0; have s1 := HX29.out.c1; have s2 := HX29.out.c2; have s3 := HX29.out.c3; have f0 := HX29.out.f0; have f1 := HX29.out.f1; have f2 := HX29.out.f2; have f3 := HX29.out.f3; dsimp only [robj] at ck s0 s1 s2 s3 f0 f1 f2 f3; clear hb)
            | fail)
          clear s0 s1 s2 s3 f0 f1 f2 f3 ck
          have HX7 := Lib.hid (HX10.out.alloc (robj RV.zero))
          have HX9 := Lib.hid (at_new w10 RV.zero)
          have HBz := Lib.hid (HB10.out.alloc HB10.out.size (robj RV.zero))
          dsimp only [robj, RV.zero] at HX7 HX9 HBz
          clear HX27 HX29 HX10 HB10
          generalize w10.alloc (.cells #[.int .i64 0, .int .i64 0, .float .f64 0, .float .f64 0] 37) = w12 at *
          have t0 := HX7.out.c0; have t1 := HX7.out.c1; have t2 := HX7.out.c2; have t3 := HX7.out.c3
          have s0 := HX9.out.c0; have s1 := HX9.out.c1; have s2 := HX9.out.c2; have s3 := HX9.out.c3
          simp only at t0 t1 t2 t3 s0 s1 s2 s3
          go_wp2_with (first
            | (go_at_call 14; refine (range_same ⟨0, 0, 0, 0⟩ _).mono ?_; rintro e w11 ⟨rfl, hb⟩; have HBz := Lib.hid (HBz.out.trans (hb.mono HBz.out.size)); clear hb)
            | fail)
          go_roundw
          case rel => exact ⟨j + 1, by go_num, by omega, Lib.hid (HBq.out.trans (HBz.out.mono HBq.out.size))⟩
          case measure => simp [intOf]; omega
        · have h2 : ¬ (s.size : Int) < 1 := by omega
          have h3 : (24 : Int) < (s.size : Int) := by omega
          go_upto_region 47 with (first
            | (go_at_call 12; refine (HRO.out _ HBz.out).mono ?_; rintro e w9 ⟨rfl, hb⟩; have HBz := Lib.hid ((HBz.out.trans (hb.mono HBz.out.size)).alloc (Nat.le_trans HBz.out.size hb.size) (robj ⟨0, 0, 0, 0⟩)); have HX27 := Lib.hid (at_new w9 ⟨0, 0, 0, 0⟩); have ck := HCK.out _ HBz.out; dsimp only [robj] at ck; clear hb)
            | (go_at_call 24; refine (HOF _).out.mono ?_; rintro e w5 ⟨rfl, rfl⟩)
            | (go_at_call 26; refine (HFI.out _ HBz.out).mono ?_; rintro e w10 ⟨rfl, hb⟩; have HB10 := Lib.hid (HBz.out.trans (hb.mono HBz.out.size)); have HBz := Lib.hid ((HBz.out.trans (hb.mono HBz.out.size)).alloc (Nat.le_trans HBz.out.size hb.size) (robj ⟨r1, r2, r3, r4⟩)); have HX27 := Lib.hid (HX27.out.below hb HX27.out.lt); have HX10 := HX27; have HNE := Lib.hid (show w10.heap.size ≠ w9.heap.size from fun e => by have := HX27.out.lt; omega); have HX27 := Lib.hid (HX27.out.alloc (robj ⟨r1, r2, r3, r4⟩)); have HX29 := Lib.hid (at_new w10 ⟨r1, r2, r3, r4⟩); have ck := HCK.out _ HBz.out; have s0 := HX29.out.c0; have s1 := HX29.out.c1; have s2 := HX29.out.c2; have s3 := HX29.out.c3; have f0 := HX29.out.f0; have f1 := HX29.out.f1; have f2 := HX29.out.f2; have f3 := HX29.out.f3; dsimp only [robj] at ck s0 s1 s2 s3 f0 f1 f2 f3; clear hb)
            | fail)
          clear s0 s1 s2 s3 f0 f1 f2 f3 ck
          have HX7 := Lib.hid (HX10.out.alloc (robj RV.zero))
          have HX9 := Lib.hid (at_new w10 RV.zero)
          have HBz := Lib.hid (HB10.out.alloc HB10.out.size (robj RV.zero))
          dsimp only [robj, RV.zero] at HX7 HX9 HBz
          clear HX27 HX29 HX10 HB10
          generalize w10.alloc (.cells #[.int .i64 0, .int .i64 0, .float .f64 0, .float .f64 0] 37) = w12 at *
          have t0 := HX7.out.c0; have t1 := HX7.out.c1; have t2 := HX7.out.c2; have t3 := HX7.out.c3
          have s0 := HX9.out.c0; have s1 := HX9.out.c1; have s2 := HX9.out.c2; have s3 := HX9.out.c3
          simp only at t0 t1 t2 t3 s0 s1 s2 s3
          go_wp2_with (first
            | (go_at_call 14; refine (range_same ⟨0, 0, 0, 0⟩ _).mono ?_; rintro e w11 ⟨rfl, hb⟩; have HBz := Lib.hid (HBz.out.trans (hb.mono HBz.out.size)); clear hb)
            | fail)
          go_roundw
          case rel => exact ⟨j + 1, by go_num, by omega, Lib.hid (HBq.out.trans (HBz.out.mono HBq.out.size))⟩
          case measure => simp [intOf]; omega
    · obtain rfl : j = kn := by omega
      have HSQ6 := Lib.hid (HSQ.out.below HBq.out)
      go_wp2_with (first
        | (go_at_call 7; refine (HF _).out.mono ?_; rintro e w9 ⟨rfl, hb⟩; have HSQ7 := Lib.hid (HSQ6.out.below hb); clear hb)
        | fail)
      go_ret
      exact ⟨rfl, HSQ7.out.lo⟩
end Go.Proofs.Ytfcdajkgopcmpaa
