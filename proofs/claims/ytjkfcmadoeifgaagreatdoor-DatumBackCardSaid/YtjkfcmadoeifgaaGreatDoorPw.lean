/- datum.Put, and raceref3.Put. Conditions: no more than 2^46 bytes. -/
import Derived.Test.YtjkfcmadoeifgaaGreatDoorWf
import Derived.Test.YtjkfcmadoeifgaaGreatDoorAg
import Derived.Test.YtjkfcmadoeifgaaGreatDoorVc
namespace Go.Proofs.YtjkfcmadoeifgaaGreatDoor
open Go.RowKit
/-- A value's bytes. -/
def putV (v : DV) : List UInt8 := if mayV v = true then (if v.k = 1 then vb (foldN 1) ++ w8 8 (canon v.x) else if v.k = 2 then vb (foldN 2) ++ (vb (foldN (v.s.length : Int)) ++ v.s) else vb (foldN 0)) else vb (foldN 0)
/-- A value in a block of its own stays. -/
theorem At.fr {S : Nat → Prop} {w w' : World} {b : Nat} {v : DV} (h : At w b v) (hf : Fr S w w') (hb : ¬ S b) : At w' b v := by
  have e := hf.block b h.lt hb
  have hc : ∀ o, w'.cell? ⟨b, o, none⟩ = w.cell? ⟨b, o, none⟩ := fun o => World.cell?_of_block (a := ⟨b, o, none⟩) e
  have hz : ∀ o, w'.frozen? ⟨b, o, none⟩ = w.frozen? ⟨b, o, none⟩ := fun o => by simp only [World.frozen?, e]
  exact ⟨Nat.lt_of_lt_of_le h.lt hf.size, (hc 0).trans h.c0, (hc 1).trans h.c1, (hc 2).trans h.c2, (hz 0).trans h.f0, (hz 1).trans h.f1, (hz 2).trans h.f2⟩
theorem may_shape {v : DV} (h : mayV v = true) : (v.k = 0 ∨ v.k = 1 ∨ v.k = 2) ∧ v.s.length ≤ 64 := by
  unfold mayV at h
  by_cases h0 : v.k = 0
  · rw [if_pos h0] at h; simp at h; exact ⟨.inl h0, by rw [h.2]; simp⟩
  · rw [if_neg h0] at h
    by_cases h1 : v.k = 1
    · rw [if_pos h1] at h; simp at h; exact ⟨.inr (.inl h1), by rw [h.2]; simp⟩
    · rw [if_neg h1] at h
      by_cases h2 : v.k = 2
      · rw [if_pos h2] at h; simp at h; exact ⟨.inr (.inr h2), h.2⟩
      · rw [if_neg h2] at h; cases h
/-- A Writer and a box beside it, on the way. -/
structure PS (C p b : Nat) (w0 w : World) (v : Value) (l : List UInt8) : Prop where
  wr : Wr w p v l
  own : ∀ k, v.ownBlock = some k → k ≠ b ∧ C ≤ k
  bp : b ≠ p
  bs : b < w.heap.size
  cs : C ≤ w.heap.size
  fr : Fr (fun k => k = p ∨ C ≤ k) w0 w
theorem PS.start {C p : Nat} {w w' : World} {l : List UInt8} (h : WrX C w p l) (hb : Below w.heap.size w w') (hs : w.heap.size < w'.heap.size) : ∃ v, PS C p w.heap.size w w' v l := by
  obtain ⟨v, h1, h2, h3⟩ := h
  have hf : Fr (fun k => w.heap.size ≤ k) w w' := Fr.of_below hb (fun _ _ h => h)
  have hlt := h1.lt
  refine ⟨v, h1.fr hf (by omega) (fun k hk h => by have := (h1.own.lt k hk).2; omega), fun k hk => ⟨by have := (h1.own.lt k hk).2; omega, h3 k hk⟩, by omega, hs, Nat.le_trans h2 hb.size, hf.mono (fun k _ h => .inr (by omega))⟩
theorem PS.step {C p b : Nat} {w0 w w' : World} {v v' : Value} {l m : List UInt8} (h : PS C p b w0 w v l) (hw : Wr w' p v' m) (hf : Fr (foot p v) w w') (hm : Moved w v v') : PS C p b w0 w' v' m ∧ ∀ r, At w b r → At w' b r := by
  have hcs := h.cs
  have hbs := h.bs
  refine ⟨⟨hw, fun k hk => ?_, h.bp, Nat.lt_of_lt_of_le h.bs hf.size, Nat.le_trans h.cs hf.size, h.fr.trans hf (fun i _ hi => ?_)⟩, fun r hr => hr.fr hf (fun hi => ?_)⟩
  · rcases hm with hm | hm
    · exact h.own k (by rw [← hm]; exact hk)
    · have := hm k hk; exact ⟨by omega, by omega⟩
  · rcases hi with hi | hi
    · exact .inl hi
    · exact .inr (h.own i hi).2
  · rcases hi with hi | hi
    · exact h.bp hi
    · exact (h.own b hi).1 rfl
theorem PS.int {C p b : Nat} {w0 w : World} {l : List UInt8} (h : ∃ v, PS C p b w0 w v l) (n : Int) (h1 : -9223372036854775808 ≤ n) (h2 : n < 9223372036854775808) (hroom : l.length + 10 ≤ 140737488355328) :
    Calls Tryz.prog 43 #[.pointer (some ⟨p, 0, none⟩), .int .i64 n] w fun e w' => e = .returned (.tuple #[]) ∧ (∃ v', PS C p b w0 w' v' (l ++ vb (foldN n))) ∧ ∀ r, At w b r → At w' b r := by
  obtain ⟨v, h⟩ := h
  exact (wint_any h.wr n h1 h2 hroom).mono fun e w' ⟨he, v', hw', hf, hm⟩ => ⟨he, ⟨v', (h.step hw' hf hm).1⟩, (h.step hw' hf hm).2⟩
theorem PS.float {C p b : Nat} {w0 w : World} {l : List UInt8} (h : ∃ v, PS C p b w0 w v l) (x : Nat) (hx : x < 18446744073709551616) (hroom : l.length + 8 ≤ 140737488355328) :
    Calls Tryz.prog 44 #[.pointer (some ⟨p, 0, none⟩), .float .f64 x] w fun e w' => e = .returned (.tuple #[]) ∧ (∃ v', PS C p b w0 w' v' (l ++ w8 8 (canon x))) ∧ ∀ r, At w b r → At w' b r := by
  obtain ⟨v, h⟩ := h
  exact (wfloat_any h.wr x hx hroom).mono fun e w' ⟨he, v', hw', hf, hm⟩ => ⟨he, ⟨v', (h.step hw' hf hm).1⟩, (h.step hw' hf hm).2⟩
theorem PS.text {C p b : Nat} {w0 w : World} {l : List UInt8} (h : ∃ v, PS C p b w0 w v l) (s : List UInt8) (hroom : l.length + 10 + s.length ≤ 140737488355328) :
    Calls Tryz.prog 45 #[.pointer (some ⟨p, 0, none⟩), .string ⟨s.toArray⟩] w fun e w' => e = .returned (.tuple #[]) ∧ (∃ v', PS C p b w0 w' v' (l ++ (vb (foldN (s.length : Int)) ++ s))) ∧ ∀ r, At w b r → At w' b r := by
  obtain ⟨v, h⟩ := h
  exact (wtext_any h.wr s hroom).mono fun e w' ⟨he, v', hw', hf, hm⟩ => ⟨he, ⟨v', (h.step hw' hf hm).1⟩, (h.step hw' hf hm).2⟩
theorem PS.ends {C p b : Nat} {w0 w : World} {l : List UInt8} (h : ∃ v, PS C p b w0 w v l) : WrX C w p l ∧ Fr (fun k => k = p ∨ C ≤ k) w0 w := by
  obtain ⟨v, h⟩ := h
  exact ⟨⟨v, h.wr, h.cs, fun k hk => (h.own k hk).2⟩, h.fr⟩
/-- The Writer behind a Put. -/
theorem dput_any {C p : Nat} {w : World} {l : List UInt8} (h : WrX C w p l) (v : DV) (hx : v.x < 18446744073709551616) (hroom : l.length ≤ 70368744177664) :
    Calls Tryz.prog 17 #[.pointer (some ⟨p, 0, none⟩), vagg v] w fun e w' => e = .returned (.tuple #[]) ∧ WrX C w' p (l ++ putV v) ∧ Fr (fun k => k = p ∨ C ≤ k) w w' := by
  have hst := run_stf
  have HM := fun w => Lib.hid (may_any v w)
  have hsh := fun h => may_shape (v := v) h
  have HX := Lib.hid h
  have hvl : ∀ n : Int, -9223372036854775808 ≤ n → n < 9223372036854775808 → (vb (foldN n)).length ≤ 10 := fun n h1 h2 => vb_len_le _ (foldN_lt h1 h2)
  unfold putV
  obtain ⟨k, x, s⟩ := v
  have HA := Lib.hid (at_new w ⟨k, x, s⟩)
  have H1 := Lib.hid (below1 w (vobj ⟨k, x, s⟩))
  clear h
  simp only at hx hsh ⊢
  cases hm : mayV ⟨k, x, s⟩
  · rw [hm] at HM
    rw [if_neg (by simp)]
    clear hm hsh hx hvl
    go_enter Tryz.func17, Tryz.ntmps17
    go_wp2_with (first
      | (go_at_call 29; ((with_reducible refine (HM _).out.mono ?_); rintro e w1 ⟨rfl, hb⟩; have HA1 := Lib.hid (HA.out.below hb HA.out.lt); have HB1 := Lib.hid (H1.out.trans (hb.mono H1.out.size)); have az := HA1.out.lt; have a0 := HA1.out.c0; have a1 := HA1.out.c1; have a2 := HA1.out.c2; have f0 := HA1.out.f0; have f1 := HA1.out.f1; have f2 := HA1.out.f2; dsimp only at a0 a1 a2; have HS1 := Lib.hid (PS.start HX.out (below_set3 (b := w.heap.size) HB1.out (Nat.le_refl _) (.int .i64 0) (.float .f64 0) (.string ⟨#[]⟩)) (by simp; exact az)); have HA2 := Lib.hid (HA1.out.setAll ⟨0, 0, []⟩); clear hb))
      | (go_at_call 43; ((with_reducible refine (PS.int HS1.out 0 (by omega) (by omega) (by omega)).mono ?_); rintro e w2 ⟨rfl, hs, hk⟩; have HS2 := Lib.hid hs; have HA3 := Lib.hid (hk _ HA2.out); have b0 := HA3.out.c0; dsimp only at b0; clear hs hk)))
    go_end0
    exact ⟨rfl, PS.ends HS2.out⟩
  · rw [hm] at HM
    rw [if_pos rfl]
    obtain ⟨hk, hl⟩ := hsh hm
    clear hm hsh
    have hv2 := hvl (s.length : Int) (by omega) (by omega)
    rcases hk with rfl | rfl | rfl
    · rw [if_neg (by decide), if_neg (by decide)]
      clear hvl hv2
      go_enter Tryz.func17, Tryz.ntmps17
      go_wp2_with (first
        | (go_at_call 29; ((with_reducible refine (HM _).out.mono ?_); rintro e w1 ⟨rfl, hb⟩; have HA1 := Lib.hid (HA.out.below hb HA.out.lt); have HB1 := Lib.hid (H1.out.trans (hb.mono H1.out.size)); have az := HA1.out.lt; have a0 := HA1.out.c0; have a1 := HA1.out.c1; have a2 := HA1.out.c2; have f0 := HA1.out.f0; have f1 := HA1.out.f1; have f2 := HA1.out.f2; dsimp only at a0 a1 a2; clear hb))
        | (go_at_call 43; with_reducible refine (PS.int (PS.start HX.out HB1.out az) 0 (by omega) (by omega) (by omega)).mono ?_; rintro e w2 ⟨rfl, hs, hk⟩; have HS2 := Lib.hid hs; have HA2 := Lib.hid (hk _ HA1.out); have a0 := HA2.out.c0; have a1 := HA2.out.c1; have a2 := HA2.out.c2; dsimp only at a0 a1 a2; clear hs hk))
      go_end0
      exact ⟨rfl, PS.ends HS2.out⟩
    · rw [if_pos rfl]
      have hv1 := hvl 1 (by omega) (by omega)
      have hlen : (l ++ vb (foldN 1)).length + 8 ≤ 140737488355328 := by rw [List.length_append]; omega
      clear hvl hv2
      go_enter Tryz.func17, Tryz.ntmps17
      go_wp2_with (first
        | (go_at_call 29; ((with_reducible refine (HM _).out.mono ?_); rintro e w1 ⟨rfl, hb⟩; have HA1 := Lib.hid (HA.out.below hb HA.out.lt); have HB1 := Lib.hid (H1.out.trans (hb.mono H1.out.size)); have az := HA1.out.lt; have a0 := HA1.out.c0; have a1 := HA1.out.c1; have a2 := HA1.out.c2; have f0 := HA1.out.f0; have f1 := HA1.out.f1; have f2 := HA1.out.f2; dsimp only at a0 a1 a2; clear hb))
        | (go_at_call 43; with_reducible refine (PS.int (PS.start HX.out HB1.out az) 1 (by omega) (by omega) (by omega)).mono ?_; rintro e w2 ⟨rfl, hs, hk⟩; have HS2 := Lib.hid hs; have HA2 := Lib.hid (hk _ HA1.out); have a0 := HA2.out.c0; have a1 := HA2.out.c1; have a2 := HA2.out.c2; dsimp only at a0 a1 a2; clear hs hk)
        | (go_at_call 44; with_reducible refine (PS.float HS2.out x hx hlen).mono ?_; rintro e w3 ⟨rfl, hs, hk⟩; have HS3 := Lib.hid hs; have HA3 := Lib.hid (hk _ HA2.out); have b0 := HA3.out.c0; dsimp only at b0; clear hs hk))
      go_end0
      rw [← List.append_assoc]
      exact ⟨rfl, PS.ends HS3.out⟩
    · rw [if_neg (by decide), if_pos rfl]
      have hv1 := hvl 2 (by omega) (by omega)
      have hlen : (l ++ vb (foldN 2)).length + 10 + s.length ≤ 140737488355328 := by rw [List.length_append]; omega
      clear hvl hv2
      go_enter Tryz.func17, Tryz.ntmps17
      go_wp2_with (first
        | (go_at_call 29; ((with_reducible refine (HM _).out.mono ?_); rintro e w1 ⟨rfl, hb⟩; have HA1 := Lib.hid (HA.out.below hb HA.out.lt); have HB1 := Lib.hid (H1.out.trans (hb.mono H1.out.size)); have az := HA1.out.lt; have a0 := HA1.out.c0; have a1 := HA1.out.c1; have a2 := HA1.out.c2; have f0 := HA1.out.f0; have f1 := HA1.out.f1; have f2 := HA1.out.f2; dsimp only at a0 a1 a2; clear hb))
        | (go_at_call 43; with_reducible refine (PS.int (PS.start HX.out HB1.out az) 2 (by omega) (by omega) (by omega)).mono ?_; rintro e w2 ⟨rfl, hs, hk⟩; have HS2 := Lib.hid hs; have HA2 := Lib.hid (hk _ HA1.out); have a0 := HA2.out.c0; have a1 := HA2.out.c1; have a2 := HA2.out.c2; dsimp only at a0 a1 a2; clear hs hk)
        | (go_at_call 45; with_reducible refine (PS.text HS2.out s hlen).mono ?_; rintro e w3 ⟨rfl, hs, hk⟩; have HS3 := Lib.hid hs; have HA3 := Lib.hid (hk _ HA2.out); have b0 := HA3.out.c0; dsimp only at b0; clear hs hk))
      go_end0
      rw [← List.append_assoc]
      exact ⟨rfl, PS.ends HS3.out⟩
end Go.Proofs.YtjkfcmadoeifgaaGreatDoor
