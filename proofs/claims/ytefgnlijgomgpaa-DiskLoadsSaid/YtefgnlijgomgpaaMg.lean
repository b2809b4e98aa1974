/- raceref6.Disk: Remove. Conditions: none of its own. -/
import Derived.Test.YtefgnlijgomgpaaMf
namespace Go.Proofs.Ytefgnlijgomgpaa
open Go.RowKit
section
variable {C D S : Nat → Prop} {w w' : World} {a : Nat} {d : Dk} {v : Value} {us : List (Nm × Value × Int)} {s : Nm} {x : Fi}
set_option maxRecDepth 100000 in
set_option maxHeartbeats 2000000 in
theorem rremove_any (h : RAt C w a d v us) (s : Nm) (hd : d.done < 9223372036854775807) : Calls Try.prog 42 #[ptr a, nmv s] w (RWrote C w a (d.remove s)) := by
  have H := Lib.hid h
  have HD := Lib.hid hd
  have c1 := h.c1
  cases hx : get d.f s with
  | none =>
    have HX := Lib.hid hx
    cases ho : d.off with
    | true =>
      have e : d.remove s = (d, 12) := by unfold Dk.remove; rw [if_pos ho]
      rw [e]
      rw [ho] at c1
      clear h hx e ho hd
      go_enter Try.func42, Try.ntmps42
      go_wp2_with (go_at_call 49; (with_reducible refine (rat_none H.out HX.out).mono ?_); rintro e w' ⟨rfl, rfl⟩)
      go_ret
      exact rwrote_same (r := (d, 12)) H.out (Tn.refl _ _) H.out.lt
    | false =>
      have e : d.remove s = (d, 8) := by unfold Dk.remove; rw [ho, has_get, hx]; rfl
      rw [e]
      rw [ho] at c1
      clear h hx e ho hd
      go_enter Try.func42, Try.ntmps42
      go_wp2_with (go_at_call 49; (with_reducible refine (rat_none H.out HX.out).mono ?_); rintro e w' ⟨rfl, rfl⟩)
      go_ret
      exact rwrote_same (r := (d, 8)) H.out (Tn.refl _ _) H.out.lt
  | some x =>
    obtain ⟨k, hk, hs, hne⟩ := get_pos h.ok.rising hx
    have HN := Lib.hid hne
    have HS := Lib.hid hs
    have HX := Lib.hid hx
    cases ho : d.off with
    | true =>
      have e : d.remove s = (d, 12) := by unfold Dk.remove; rw [if_pos ho]
      rw [e]
      rw [ho] at c1
      clear h hx e ho hd hs hne
      go_enter Try.func42, Try.ntmps42
      go_wp2_with (go_at_call 49; (with_reducible refine (rat_some H.out hk HS.out HN.out).mono ?_); rintro e w' ⟨rfl, rfl⟩)
      go_ret
      exact rwrote_same (r := (d, 12)) H.out (Tn.refl _ _) H.out.lt
    | false =>
      rw [ho] at c1
      cases hq : d.spend.2 with
      | false =>
        have e : d.remove s = (d.spend.1, 12) := by unfold Dk.remove; rw [ho, has_get, hx, hq]; rfl
        rw [e]
        have HQ := Lib.hid hq
        clear h ho e hx hq hne hs hd
        go_enter Try.func42, Try.ntmps42
        go_wp2_with (first
          | (go_at_call 49; (with_reducible refine (rat_some H.out hk HS.out HN.out).mono ?_); rintro e w' ⟨rfl, rfl⟩)
          | (go_at_call 60; (with_reducible refine (falls_any H.out HD.out).mono ?_); rw [HQ.out]; rintro e w1 ⟨rfl, h1, ht⟩; have H1 := Lib.hid h1; have HT := Lib.hid ht; clear h1 ht))
        go_ret
        exact rwrote_same (r := (d.spend.1, 12)) H1.out (H.out.tna HT.out) H.out.lt
      | true =>
        have e : d.remove s = ({ d.spend.1 with f := del d.f s }, 0) := by unfold Dk.remove; rw [ho, has_get, hx, hq]; rfl
        have HQ := Lib.hid hq
        have HE := Lib.hid e
        obtain ⟨hk1, hs1⟩ := at_spend hk hs
        have HS1 := Lib.hid hs1
        clear h ho e hx hq hne hs hs1 hd
        go_enter Try.func42, Try.ntmps42
        go_wp2_with (first
          | (go_at_call 49; (with_reducible refine (rat_some H.out hk HS.out HN.out).mono ?_); rintro e w' ⟨rfl, rfl⟩)
          | (go_at_call 60; (with_reducible refine (falls_any H.out HD.out).mono ?_); rw [HQ.out]; rintro e w1 ⟨rfl, h1, ht⟩; have H1 := Lib.hid h1; have HT := Lib.hid ht; clear h1 ht)
          | (go_at_call 61; (with_reducible refine (rdrop_any H1.out hk1 HS1.out).mono ?_); rintro e w2 ⟨rfl, h2, ht⟩; have H2 := Lib.hid h2; have HT2 := Lib.hid ht; clear h2 ht))
        go_ret
        have h2 := H2.out
        rw [spend_f] at h2
        have h3 : Tn C w w2 := (H.out.tna HT.out).trans HT2.out (fun _ _ h => h)
        obtain ⟨v2, us2, h4⟩ := h2
        rw [HE.out]
        exact ⟨rfl, ⟨v2, us2, h4.grow (fun j hj => by
          rcases hj with hj | hj
          · exact .inl hj
          · exact .inr ⟨Nat.le_trans HT.out.size hj.1, hj.2⟩) (fun j hj => Gw.size h3.size H.out.lt hj)⟩, h3⟩
end
end Go.Proofs.Ytefgnlijgomgpaa
