/- The contract of wire.Writer's Float. Conditions: no more than 2^47 bytes in all. -/
import Derived.Test.YtioopibmpcbcjaaW2
import Derived.Test.YtioopibmpcbcjaaR7
namespace Go.Proofs.Ytioopibmpcbcjaa
open Go.RowKit
set_option maxRecDepth 100000 in
theorem wfloat_any {w : World} {p : Nat} {v : Value} {l : List UInt8} (h : Wr w p v l) (x : Nat) (hx : x < 18446744073709551616) (hroom : l.length + 8 ≤ 140737488355328) :
    Calls Try.prog 36 #[.pointer (some ⟨p, 0, none⟩), .float .f64 x] w fun e w' => e = .returned (.tuple #[]) ∧ ∃ v', Wr w' p v' (l ++ w8 8 (canon x)) ∧ Fr (foot p v) w w' ∧ Moved w v v' := by
  obtain ⟨i0, hi, hz0, hz1, hz2⟩ := info_parts info5
  have H := Lib.hid h; clear h
  have hU64 := canon_lt hx
  have hb := bits_any x
  generalize hU : canon x = U at *
  have HB := Lib.hid hb; clear hb
  clear hU
  go_enter Try.func36, Try.ntmps36
  go_wp2_with (go_at_call 58; refine (HB.out _).mono ?_; rintro x w ⟨rfl, rfl⟩)
  go_loopw [5] (fun i wr => ∃ (k : Nat) (l' : List UInt8) (v' : Value), i = .int .i64 (k * 8 : Nat) ∧ k ≤ 8 ∧ Hid (Wr wr p v' l') ∧ Hid (l' ++ w8 (8 - k) (U / 2 ^ (k * 8)) = l ++ w8 8 U ∧ l'.length = l.length + k) ∧ Hid (Fr (foot p v) w wr) ∧ Hid (Moved w v v')) (fun i _ => 8 - (intOf i).toNat / 8)
  case atStart => exact ⟨0, l, v, rfl, by decide, H.out, ⟨by simp, rfl⟩, Fr.refl _ _, .inl rfl⟩
  case round =>
    obtain ⟨k, l', v', rfl, hk, HW, HE, HF, HM⟩ := hrel
    by_cases hlt : k < 8
    · have c0 := cell_in (o := 0) HW.out.cell rfl
      have f0 := free_in HW.out.cell 0
      have ca : ∀ X : Obj, (wr.alloc X).cell? ⟨p, 0, none⟩ = some v' := fun X => (World.cell?_of_block (a := ⟨p, 0, none⟩) (Below.heap_alloc wr X p HW.out.lt)).trans c0
      have ho := HW.out.own
      have hlen : l'.length + 1 ≤ 140737488355328 := by have := HE.out.2; omega
      generalize hs : k * 8 = s at *
      have hs63 : s ≤ 56 := by omega
      have HS8 := Lib.hid hs
      have hw8 : w8 (8 - k) (U / 2 ^ s) = UInt8.ofNat (U / 2 ^ s % 256) :: w8 (8 - (k + 1)) (U / 2 ^ (s + 8)) := by
        rw [show 8 - k = (8 - (k + 1)) + 1 by omega, w8, Nat.pow_add, ← Nat.div_div_eq_div_mul]
      have HW8 := Lib.hid hw8
      obtain ⟨y, hy⟩ : ∃ y, y = UInt8.ofNat (U / 2 ^ s % 256) := ⟨_, rfl⟩
      have hwr : IntKind.u8.wrap ((U : Int) / 2 ^ s) = (y.toNat : Int) := by
        rw [hy, ofNat_toNat (by omega), show ((U : Int) / 2 ^ s) = ((U / 2 ^ s : Nat) : Int) by simp]
        simp [IntKind.wrap, IntKind.bits, IntKind.signed]
      have HY := Lib.hid hy
      clear hs hw8 hy
      go_wp2
      go_region_law (refine step_append_at rfl (.tmp 16) (.tmp 21) 31 rfl 0 5 i0 (.int .u8 0) 1 1 under31 hi hz0 hz1 hz2 rfl (by decide) _ _ _ (by simp [Act.eval]) (Fr.own (((Fr.refl (fun _ => False) wr).drew).alloc _) ho (fun _ _ h => h)) ⟨wr.heap.size, 0, none⟩ 1 1 (bys [y]) (by simp [Act.eval]) rfl (cell_one_new wr _ _) (by intro u hu; simp [bys] at hu; subst hu; rfl) (by unfold maxLen; omega) (by omega) (Nat.zero_le _) ?_; intro v2 w2 hown' hgrow hat; obtain ⟨g2, cap2, rfl⟩ := own_shape hown' (by omega); have hs := HW.out.step (m := [y]) ((fr_alloc wr _).drew) hown' hgrow hat; have HS := Lib.hid hs; have e0 := cell_in (o := 0) hs.1 rfl; have ff0 := free_in hs.1 0; clear hs hown' hgrow hat)
      all_goals go_wp2
      all_goals (refine ⟨⟨k + 1, l' ++ [y], _, by rw [← HS8.out]; simp; omega, by omega, HS.out.2.1, ⟨?_, ?_⟩, HF.out.again HS.out.2.2.1 HM.out, HM.out.trans HS.out.2.2.2 HF.out.size⟩, ?_⟩)
      all_goals have h8 := HS8.out
      all_goals first
        | (simp [intOf]; omega)
        | (rw [List.length_append, HE.out.2]; simp; omega)
        | (have e := HE.out.1
           rw [HW8.out, ← HY.out] at e
           rw [List.append_assoc, List.singleton_append, show (k + 1) * 8 = s + 8 by omega]
           exact e)
    · obtain rfl : k = 8 := by omega
      have hfin : Hid (l' = l ++ w8 8 U) := by
        have := HE.out.1
        show l' = _
        simpa [w8] using this
      go_wp2
      go_returns
      refine ⟨rfl, v', ?_, HF.out, HM.out⟩
      rw [← hfin.out]
      exact HW.out
end Go.Proofs.Ytioopibmpcbcjaa
