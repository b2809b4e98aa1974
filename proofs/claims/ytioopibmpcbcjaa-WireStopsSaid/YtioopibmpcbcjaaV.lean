/- racelaw2's reads: are the items what is read? Conditions: the reader's own bytes; the items lie elsewhere. -/
import Derived.Test.YtioopibmpcbcjaaU
import Derived.Deep.RegionWith
namespace Go.Proofs.Ytioopibmpcbcjaa
open Go.RowKit
/-- raceref.Bits. -/
theorem bitsame_any (a b : Nat) (w : World) : Calls Try.prog 34 #[.float .f64 a, .float .f64 b] w fun e w' => e = .returned (.bool (a == b)) ∧ w = w' := by
  have hf := run_tobits
  have HE : Hid ((((a : Nat) : Int) == ((b : Nat) : Int)) = (a == b)) := by
    show _ = _
    by_cases h : a = b
    · subst h; simp
    · rw [beq_eq_false_iff_ne.2 h, beq_eq_false_iff_ne]; omega
  go_enter Try.func34, Try.ntmps34
  go_wp2
  go_ret
  rw [← HE.out]
  exact ⟨rfl, rfl⟩
set_option maxRecDepth 100000 in
set_option maxHeartbeats 4000000 in
theorem reads_any {K : Nat → Prop} {w : World} {p : Nat} {v : Value} {s : Rst} (h : Rd 71 K w p v s) (ao : Option Addr) (cap : Nat) (xs : List It) (hm : xs.length ≤ 9223372036854775807)
    (hI : ∀ w', Fr (fun k => k = p) w w' → HasI w' ao xs) :
    Calls Try.prog 22 #[.pointer (some ⟨p, 0, none⟩), .slice ao xs.length cap] w fun x w' => x = .returned (.bool (goes xs s).1) ∧ Rd 71 K w' p v (goes xs s).2 ∧ Fr (fun k => k = p) w w' := by
  have H := Lib.hid h
  have HI := Lib.hid hI
  clear h hI
  go_enter Try.func22, Try.ntmps22
  go_wp2
  go_loopw [5] (fun i wr => ∃ (k : Nat) (s' : Rst), i = .int .i64 k ∧ k ≤ xs.length ∧ Hid (goes xs s = goes (xs.drop k) s') ∧ Hid (Rd 71 K wr p v s') ∧ Hid (Fr (fun k => k = p) w wr)) (fun i _ => xs.length - (intOf i).toNat)
  case atStart => exact ⟨0, s, rfl, Nat.zero_le _, rfl, H.out, Fr.refl _ _⟩
  case round =>
    obtain ⟨k, s', rfl, hk, HG, HR, HF⟩ := hrel
    by_cases hlt : k < xs.length
    · have hstep := HG.out
      rw [drop_it hlt] at hstep
      have hA : ∃ b off, ao = some ⟨b, off, none⟩ := by
        rcases HI.out w (Fr.refl _ _) with h0 | ⟨b, off, e, _⟩
        · rw [h0] at hlt; simp at hlt
        · exact ⟨b, off, e⟩
      obtain ⟨b, off, rfl⟩ := hA
      have HT : Hid (∀ w', Fr (fun k => k = p) w w' → ItAt w' b (off + k * 5) (xs.getD k default)) := fun w' hf => by
        rcases HI.out w' hf with h0 | ⟨b', off', e, _, hc⟩
        · rw [h0] at hlt; simp at hlt
        · simp at e
          obtain ⟨rfl, rfl⟩ := e
          exact hc k hlt
      generalize xs.getD k default = t at *
      have HST := Lib.hid hstep
      clear hstep HG
      have i0 := (HT.out _ HF.out).c0
      have HS1 : Hid (okI t s' = true → goes xs s = goes (xs.drop (k + 1)) (stI t s')) := fun h => by
        rw [HST.out]; show (if okI t s' = true then _ else _) = _; rw [if_pos h]
      have HS0 : Hid (okI t s' = false → goes xs s = (false, stI t s')) := fun h => by
        rw [HST.out]; show (if okI t s' = true then _ else _) = _; rw [if_neg (by simp [h])]
      by_cases h0 : t.k = 0
      · rw [h0] at i0
        have i1 := (HT.out _ HF.out).c1
        have hok : Hid (okI t s' = ((rInt s').1 == t.n)) := by show _ = _; unfold okI; rw [if_pos h0]
        have hst : Hid (stI t s' = (rInt s').2) := by show _ = _; unfold stI; rw [if_pos h0]
        clear h0
        go_wp2
        go_region_with (first
          | (go_at_call 26; refine (int_any (Rd.drew HR.out)).mono ?_; rintro e w1 ⟨rfl, h1, f1⟩; have HR1 := Lib.hid h1; have HF1 := Lib.hid ((HF.out.drew).same f1); have i1' := (HT.out _ HF1.out).c1; clear h1 f1))
        all_goals go_wp2
        all_goals first
          | (have ht : (!((rInt s').1 == t.n)) = false := by assumption
             exact ⟨⟨k + 1, stI t s', by simp, by omega, HS1.out (by rw [hok.out]; simpa using ht), by rw [hst.out]; exact HR1.out, HF1.out⟩, by simp [intOf]; omega⟩)
          | (have ht : (!((rInt s').1 == t.n)) = true := by assumption
             go_ret
             rw [HS0.out (by rw [hok.out]; simpa using ht), hst.out]
             exact ⟨rfl, HR1.out, HF1.out⟩)
      by_cases h1 : t.k = 1
      · rw [h1] at i0
        have i1 := (HT.out _ HF.out).c2
        have hok : Hid (okI t s' = ((rFlag s').1 == t.b)) := by show _ = _; unfold okI; rw [if_neg h0, if_pos h1]
        have hst : Hid (stI t s' = (rFlag s').2) := by show _ = _; unfold stI; rw [if_neg h0, if_pos h1]
        clear h1
        go_wp2
        go_region_with (first
          | (go_at_call 27; refine (flag_any (Rd.drew HR.out)).mono ?_; rintro e w1 ⟨rfl, h1, f1⟩; have HR1 := Lib.hid h1; have HF1 := Lib.hid ((HF.out.drew).same f1); have i1' := (HT.out _ HF1.out).c2; clear h1 f1))
        all_goals go_wp2
        all_goals first
          | (have ht : (!((rFlag s').1 == t.b)) = false := by assumption
             exact ⟨⟨k + 1, stI t s', by simp, by omega, HS1.out (by rw [hok.out]; simpa using ht), by rw [hst.out]; exact HR1.out, HF1.out⟩, by simp [intOf]; omega⟩)
          | (have ht : (!((rFlag s').1 == t.b)) = true := by assumption
             go_ret
             rw [HS0.out (by rw [hok.out]; simpa using ht), hst.out]
             exact ⟨rfl, HR1.out, HF1.out⟩)
      by_cases h2 : t.k = 2
      · rw [h2] at i0
        have i1 := (HT.out _ HF.out).c3
        have hok : Hid (okI t s' = ((rFloat s').1 == canon t.x)) := by show _ = _; unfold okI; rw [if_neg h0, if_neg h1, if_pos h2]
        have hst : Hid (stI t s' = (rFloat s').2) := by show _ = _; unfold stI; rw [if_neg h0, if_neg h1, if_pos h2]
        clear h2
        go_wp2
        go_region_with (first
          | (go_at_call 28; refine (float_any (Rd.drew HR.out)).mono ?_; rintro e w1 ⟨rfl, h1, f1⟩; have HR1 := Lib.hid h1; have HF1 := Lib.hid ((HF.out.drew).same f1); have i1' := (HT.out _ HF1.out).c3; clear h1 f1)
          | (go_at_call 53; refine (rcanon_any _ _).mono ?_; rintro e w2 ⟨rfl, rfl⟩)
          | (go_at_call 34; refine (bitsame_any _ _ _).mono ?_; rintro e w2 ⟨rfl, rfl⟩))
        all_goals go_wp2
        all_goals first
          | (have ht : (!((rFloat s').1 == canon t.x)) = false := by assumption
             exact ⟨⟨k + 1, stI t s', by simp, by omega, HS1.out (by rw [hok.out]; simpa using ht), by rw [hst.out]; exact HR1.out, HF1.out⟩, by simp [intOf]; omega⟩)
          | (have ht : (!((rFloat s').1 == canon t.x)) = true := by assumption
             go_ret
             rw [HS0.out (by rw [hok.out]; simpa using ht), hst.out]
             exact ⟨rfl, HR1.out, HF1.out⟩)
      by_cases h3 : t.k = 3
      · rw [h3] at i0
        have i1 := (HT.out _ HF.out).c4
        have hok : Hid (okI t s' = ((rText 20000 s').1 == t.s)) := by show _ = _; unfold okI; rw [if_neg h0, if_neg h1, if_neg h2, if_pos h3]
        have hst : Hid (stI t s' = (rText 20000 s').2) := by show _ = _; unfold stI; rw [if_neg h0, if_neg h1, if_neg h2, if_pos h3]
        clear h3
        go_wp2
        go_region_with (first
          | (go_at_call 29; refine (text_any (Rd.drew HR.out) 20000).mono ?_; rintro e w1 ⟨rfl, h1, f1⟩; have HR1 := Lib.hid h1; have HF1 := Lib.hid ((HF.out.drew).same f1); have i1' := (HT.out _ HF1.out).c4; clear h1 f1))
        all_goals go_wp2
        all_goals first
          | (have ht : (!((rText 20000 s').1 == t.s)) = false := by assumption
             exact ⟨⟨k + 1, stI t s', by simp, by omega, HS1.out (by rw [hok.out]; simpa using ht), by rw [hst.out]; exact HR1.out, HF1.out⟩, by simp [intOf]; omega⟩)
          | (have ht : (!((rText 20000 s').1 == t.s)) = true := by assumption
             go_ret
             rw [HS0.out (by rw [hok.out]; simpa using ht), hst.out]
             exact ⟨rfl, HR1.out, HF1.out⟩)
      have b0 : (t.k == 0) = false := by rw [beq_eq_false_iff_ne]; exact h0
      have b1 : (t.k == 1) = false := by rw [beq_eq_false_iff_ne]; exact h1
      have b2 : (t.k == 2) = false := by rw [beq_eq_false_iff_ne]; exact h2
      have b3 : (t.k == 3) = false := by rw [beq_eq_false_iff_ne]; exact h3
      have hok : okI t s' = true := by unfold okI; rw [if_neg h0, if_neg h1, if_neg h2, if_neg h3]
      have hst : stI t s' = s' := by unfold stI; rw [if_neg h0, if_neg h1, if_neg h2, if_neg h3]
      have HG2 := Lib.hid (HS1.out hok)
      rw [hst] at HG2
      clear hok hst h0 h1 h2 h3
      go_wp2
      exact ⟨⟨k + 1, s', by simp, by omega, HG2, HR, HF⟩, by simp [intOf]; omega⟩
    · obtain rfl : k = xs.length := by omega
      have HG2 : Hid (goes xs s = (true, s')) := by
        have := HG.out
        rwa [List.drop_length] at this
      clear HG
      go_wp2
      go_ret
      rw [HG2.out]
      exact ⟨rfl, HR.out, HF.out⟩
end Go.Proofs.Ytioopibmpcbcjaa
