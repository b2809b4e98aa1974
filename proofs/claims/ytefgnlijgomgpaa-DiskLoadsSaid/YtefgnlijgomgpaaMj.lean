/- raceref6.Disk: Create, Rename. Conditions: none of its own. -/
import Derived.Test.YtefgnlijgomgpaaMi
namespace Go.Proofs.Ytefgnlijgomgpaa
open Go.RowKit
section
variable {C D S : Nat → Prop} {w w' : World} {a : Nat} {d : Dk} {v : Value} {us : List (Nm × Value × Int)} {s : Nm} {x : Fi}
theorem lt_fvs {f : Ent Fi} {k : Nat} (h : k < f.length) : k < (fvs f).length := by rw [fvs_length]; exact h
theorem rput_new (h : RAt C w a d v us) (hn : get d.f s = none) (hok : Okr { d with f := put d.f s ⟨[], 0⟩ }) :
    Calls Try.prog 53 #[ptr a, .agg #[nmv s, .slice none 0 0, .int .i64 0]] w fun e w' => e = .returned (.tuple #[]) ∧ RK (Gw C w w') w' a { d with f := put d.f s ⟨[], 0⟩ } ∧ Tn C w w' := by
  refine (rput_any (u := .slice none 0 0) (x := ⟨[], 0⟩) h hn ⟨rfl, .inl ⟨rfl, rfl⟩⟩ hok).mono ?_
  rintro e w' ⟨rfl, ⟨v2, us2, h2⟩, h3⟩
  refine ⟨rfl, ⟨v2, us2, h2.grow (fun k hk => ?_) (fun k hk => Gw.size h3.size h.lt hk)⟩, h3⟩
  rcases hk with (hk | hk) | hk
  · exact .inl hk
  · cases hk
  · exact .inr hk
set_option maxRecDepth 100000 in
set_option maxHeartbeats 2000000 in
theorem rcreate_any (h : RAt C w a d v us) (s : Nm) (hl : s.length ≤ maxLen) (hd : d.done < 9223372036854775807) : Calls Try.prog 37 #[ptr a, nmv s] w (RWrote C w a (d.create s)) := by
  have H := Lib.hid h
  have HD := Lib.hid hd
  have HL := Lib.hid hl
  have c1 := h.c1
  have c0 := h.c0
  obtain ⟨vo, vc, rfl⟩ := own_slice h.fo.own
  have hfl := fvs_length d.f
  rw [hfl] at c0
  cases ho : d.off with
  | true =>
    have e : d.create s = (d, 12) := by unfold Dk.create; rw [if_pos ho]
    rw [e]
    rw [ho] at c1
    clear h e ho hd hl
    go_enter Try.func37, Try.ntmps37
    go_wp2
    go_ret
    exact rwrote_same (r := (d, 12)) H.out (Tn.refl _ _) H.out.lt
  | false =>
  rw [ho] at c1
  cases hn : isNm s with
  | false =>
    have e : d.create s = (d, 10) := by unfold Dk.create; rw [ho, hn]; rfl
    rw [e]
    have HN := Lib.hid hn
    clear h e ho hd hl hn
    go_enter Try.func37, Try.ntmps37
    go_wp2_with (first
      | (go_at_call 52; (with_reducible refine (rname_any _ _ HL.out).mono ?_); rw [HN.out]; rintro e w' ⟨rfl, rfl⟩))
    go_ret
    exact rwrote_same (r := (d, 10)) H.out (Tn.refl _ _) H.out.lt
  | true =>
  have HN := Lib.hid hn
  cases hx : get d.f s with
  | some x =>
    have e : d.create s = (d, 9) := by unfold Dk.create; rw [ho, hn, has_get, hx]; rfl
    rw [e]
    obtain ⟨k, hk, hs, hne⟩ := get_pos h.ok.rising hx
    have HNE := Lib.hid hne
    have HS := Lib.hid hs
    clear h e ho hd hl hn hne hs hx
    go_enter Try.func37, Try.ntmps37
    go_wp2_with (first
      | (go_at_call 52; (with_reducible refine (rname_any _ _ HL.out).mono ?_); rw [HN.out]; rintro e w' ⟨rfl, rfl⟩)
      | (go_at_call 49; (with_reducible refine (rat_some H.out hk HS.out HNE.out).mono ?_); rintro e w' ⟨rfl, rfl⟩))
    go_ret
    exact rwrote_same (r := (d, 9)) H.out (Tn.refl _ _) H.out.lt
  | none =>
  have HX := Lib.hid hx
  by_cases hf : 64 ≤ d.f.length
  · have e : d.create s = (d, 3) := by unfold Dk.create; rw [ho, hn, has_get, hx]; simp [hf]
    rw [e]
    clear h e ho hd hl hn hx
    go_enter Try.func37, Try.ntmps37
    go_wp2_with (first
      | (go_at_call 52; (with_reducible refine (rname_any _ _ HL.out).mono ?_); rw [HN.out]; rintro e w' ⟨rfl, rfl⟩)
      | (go_at_call 49; (with_reducible refine (rat_none H.out HX.out).mono ?_); rintro e w' ⟨rfl, rfl⟩))
    go_ret
    exact rwrote_same (r := (d, 3)) H.out (Tn.refl _ _) H.out.lt
  cases hq : d.spend.2 with
  | false =>
    have e : d.create s = (d.spend.1, 12) := by unfold Dk.create; rw [ho, hn, has_get, hx, hq]; simp [hf]
    rw [e]
    have HQ := Lib.hid hq
    clear h e ho hd hl hn hx hq
    go_enter Try.func37, Try.ntmps37
    go_wp2_with (first
      | (go_at_call 52; (with_reducible refine (rname_any _ _ HL.out).mono ?_); rw [HN.out]; rintro e w' ⟨rfl, rfl⟩)
      | (go_at_call 49; (with_reducible refine (rat_none H.out HX.out).mono ?_); rintro e w' ⟨rfl, rfl⟩)
      | (go_at_call 60; (with_reducible refine (falls_any H.out HD.out).mono ?_); rw [HQ.out]; rintro e w1 ⟨rfl, h1, ht⟩; have H1 := Lib.hid h1; have HT := Lib.hid ht; clear h1 ht))
    go_ret
    exact rwrote_same (r := (d.spend.1, 12)) H1.out (H.out.tna HT.out) H.out.lt
  | true =>
    have e : d.create s = ({ d.spend.1 with f := put d.f s ⟨[], 0⟩ }, 0) := by unfold Dk.create; rw [ho, hn, has_get, hx, hq]; simp [hf]
    have HQ := Lib.hid hq
    have HE := Lib.hid e
    have hok := h.ok.create (s := s)
    rw [e] at hok
    have HOK : Hid (Okr { d.spend.1 with f := put d.spend.1.f s ⟨[], 0⟩ }) := by rw [spend_f]; exact hok
    have HX1 : Hid (get d.spend.1.f s = none) := by rw [spend_f]; exact hx
    clear h e ho hd hl hn hx hq hok
    go_enter Try.func37, Try.ntmps37
    go_wp2_with (first
      | (go_at_call 52; (with_reducible refine (rname_any _ _ HL.out).mono ?_); rw [HN.out]; rintro e w' ⟨rfl, rfl⟩)
      | (go_at_call 49; (with_reducible refine (rat_none H.out HX.out).mono ?_); rintro e w' ⟨rfl, rfl⟩)
      | (go_at_call 60; (with_reducible refine (falls_any H.out HD.out).mono ?_); rw [HQ.out]; rintro e w1 ⟨rfl, h1, ht⟩; have H1 := Lib.hid h1; have HT := Lib.hid ht; clear h1 ht)
      | (go_at_call 53; (refine (rput_new H1.out HX1.out HOK.out).mono ?_); rintro e w2 ⟨rfl, h2, ht⟩; have H2 := Lib.hid h2; have HT2 := Lib.hid ht; clear h2 ht))
    go_ret
    have h2 := H2.out
    rw [spend_f] at h2
    have h3 : Tn C w w2 := (H.out.tna HT.out).trans HT2.out (fun _ _ h => h)
    obtain ⟨v2, us2, h4⟩ := h2
    rw [HE.out]
    exact ⟨rfl, ⟨v2, us2, h4.grow (fun j hj => by
      rcases hj with hj | hj
      · exact .inl hj
      · exact .inr ⟨Nat.le_trans HT.out.size hj.1, hj.2⟩) (fun j hj => Gw.size h3.size H.out.lt hj)⟩, h3⟩
theorem move_self {f : Ent Fi} (hr : Rising f) (hx : get f s = some x) : move f s s = f := by
  unfold move
  rw [hx]
  show put (del f s) s x = f
  refine rising_ext ((hr.del s).put s x) hr fun t => ?_
  by_cases e : t = s
  · subst e; rw [get_put_same (hr.del _), hx]
  · rw [get_put_other (hr.del s) x e, get_del_other hr e]
theorem RAt.box_lt (h : RAt C w a d v us) : a < w.heap.size := h.lt a h.ca
theorem ne_of_box {n : Nat} (h : a < n) : ¬ n = a := by omega
theorem box_cells {b : Nat} {v0 v1 v2 : Value} (h : w.heap[b]? = some (.cells #[v0, v1, v2] 43 (0, 0))) : w.cell? ⟨b, 0, none⟩ = some v0 ∧ w.cell? ⟨b, 1, none⟩ = some v1 ∧ w.cell? ⟨b, 2, none⟩ = some v2 := by
  refine ⟨?_, ?_, ?_⟩ <;> simp [World.cell?, h]
theorem own_ne {u : Value} {n : Nat} {xs : List Value} (h : RAt C w a d v us) (hu : w.ownsRow 0 5 1 u n xs) {j : Nat} (hj : u.ownBlock = some j) : ¬ j = a := by
  obtain ⟨cur, hc⟩ := own_at hu hj
  intro e
  subst e
  rw [h.box] at hc
  simp at hc
/-- Blocks that two, three steps may have turned. -/
theorem gw2 {P : Nat → Prop} {w w1 wB w2 w3 : World} (h1 : w.heap.size ≤ w1.heap.size) (h2 : w1.heap.size ≤ wB.heap.size) (h3 : wB.heap.size ≤ w2.heap.size) (h4 : w2.heap.size ≤ w3.heap.size) (hP : ∀ j, P j → C j) {j : Nat} (hj : Gw (fun k => Gw C wB w2 k ∨ P k) w2 w3 j) : Gw C w w3 j := by
  rcases hj with (hj | hj) | hj
  · rcases hj with hj | hj
    · exact .inl hj
    · exact .inr ⟨by omega, by omega⟩
  · exact .inl (hP j hj)
  · exact .inr ⟨by omega, hj.2⟩
theorem gw3 {P : Nat → Prop} {w w1 wB w2 w3 w5 : World} (h1 : w.heap.size ≤ w1.heap.size) (h2 : w1.heap.size ≤ wB.heap.size) (h3 : wB.heap.size ≤ w2.heap.size) (h4 : w2.heap.size ≤ w5.heap.size) (h5 : w5.heap.size ≤ w3.heap.size) (hP : ∀ j, P j → C j) {j : Nat} (hj : Gw (fun k => Gw (Gw C wB w2) w2 w5 k ∨ P k) w5 w3 j) : Gw C w w3 j := by
  rcases hj with (((hj | hj) | hj) | hj) | hj
  · exact .inl hj
  · exact .inr ⟨by omega, by omega⟩
  · exact .inr ⟨by omega, by omega⟩
  · exact .inl (hP j hj)
  · exact .inr ⟨by omega, hj.2⟩
theorem tn2 {w w1 wB w2 w3 : World} (t2 : Tn C w w2) (h1 : w.heap.size ≤ w1.heap.size) (h2 : w1.heap.size ≤ wB.heap.size) (h : Tn (Gw C wB w2) w2 w3) : Tn C w w3 := t2.trans h (fun j hj e => by
  rcases e with e | e
  · exact e
  · omega)
theorem tn3 {w w1 wB w2 w5 w3 : World} (t5 : Tn C w w5) (h1 : w.heap.size ≤ w1.heap.size) (h2 : w1.heap.size ≤ wB.heap.size) (h3 : wB.heap.size ≤ w2.heap.size) (h : Tn (Gw (Gw C wB w2) w2 w5) w5 w3) : Tn C w w3 := t5.trans h (fun j hj e => by
  rcases e with (e | e) | e
  · exact e
  · omega
  · omega)
theorem put_del (f : Ent Fi) (s : Nm) (x : Fi) : put (del f s) s x = put f s x := by unfold put; rw [del_of_none (get_del_same f s)]
set_option maxRecDepth 100000 in
set_option maxHeartbeats 4000000 in
theorem rrename_any (h : RAt C w a d v us) (s t : Nm) (hl : t.length ≤ maxLen) (hd : d.done < 9223372036854775807) : Calls Try.prog 41 #[ptr a, nmv s, nmv t] w (RWrote C w a (d.rename s t)) := by
  have HL := Lib.hid hl
  clear hl
  have H := Lib.hid h
  have HD := Lib.hid hd
  have c1 := h.c1
  cases hx : get d.f s with
  | none =>
    have HX := Lib.hid hx
    cases ho : d.off with
    | true =>
      have e : d.rename s t = (d, 12) := by unfold Dk.rename; rw [if_pos ho]
      rw [e]
      rw [ho] at c1
      clear h hx e ho hd
      go_enter Try.func41, Try.ntmps41
      go_wp2_with (go_at_call 49; (with_reducible refine (rat_none H.out HX.out).mono ?_); rintro e w' ⟨rfl, rfl⟩)
      go_ret
      exact rwrote_same (r := (d, 12)) H.out (Tn.refl _ _) H.out.lt
    | false =>
      have e : d.rename s t = (d, 8) := by unfold Dk.rename; rw [ho, has_get, hx]; rfl
      rw [e]
      rw [ho] at c1
      clear h hx e ho hd
      go_enter Try.func41, Try.ntmps41
      go_wp2_with (go_at_call 49; (with_reducible refine (rat_none H.out HX.out).mono ?_); rintro e w' ⟨rfl, rfl⟩)
      go_ret
      exact rwrote_same (r := (d, 8)) H.out (Tn.refl _ _) H.out.lt
  | some x =>
    obtain ⟨k, hk, hs, hne⟩ := get_pos h.ok.rising hx
    have HNE := Lib.hid hne
    have HS := Lib.hid hs
    have HX := Lib.hid hx
    cases ho : d.off with
    | true =>
      have e : d.rename s t = (d, 12) := by unfold Dk.rename; rw [if_pos ho]
      rw [e]
      rw [ho] at c1
      clear h hx e ho hd hs hne
      go_enter Try.func41, Try.ntmps41
      go_wp2_with (go_at_call 49; (with_reducible refine (rat_some H.out hk HS.out HNE.out).mono ?_); rintro e w' ⟨rfl, rfl⟩)
      go_ret
      exact rwrote_same (r := (d, 12)) H.out (Tn.refl _ _) H.out.lt
    | false =>
      rw [ho] at c1
      cases hm : isNm t with
      | false =>
        have e : d.rename s t = (d, 10) := by unfold Dk.rename; rw [ho, has_get, hx, hm]; rfl
        rw [e]
        have HM := Lib.hid hm
        clear h e ho hd hx hm hs hne
        go_enter Try.func41, Try.ntmps41
        go_wp2_with (first
          | (go_at_call 49; (with_reducible refine (rat_some H.out hk HS.out HNE.out).mono ?_); rintro e w' ⟨rfl, rfl⟩)
          | (go_at_call 52; (with_reducible refine (rname_any _ _ HL.out).mono ?_); rw [HM.out]; rintro e w' ⟨rfl, rfl⟩))
        go_ret
        exact rwrote_same (r := (d, 10)) H.out (Tn.refl _ _) H.out.lt
      | true =>
      have HM := Lib.hid hm
      cases hq : d.spend.2 with
      | false =>
        have e : d.rename s t = (d.spend.1, 12) := by unfold Dk.rename; rw [ho, has_get, hx, hm, hq]; rfl
        rw [e]
        have HQ := Lib.hid hq
        clear h ho e hx hq hne hs hd hm
        go_enter Try.func41, Try.ntmps41
        go_wp2_with (first
          | (go_at_call 49; (with_reducible refine (rat_some H.out hk HS.out HNE.out).mono ?_); rintro e w' ⟨rfl, rfl⟩)
          | (go_at_call 52; (with_reducible refine (rname_any _ _ HL.out).mono ?_); rw [HM.out]; rintro e w' ⟨rfl, rfl⟩)
          | (go_at_call 60; (with_reducible refine (falls_any H.out HD.out).mono ?_); rw [HQ.out]; rintro e w1 ⟨rfl, h1, ht⟩; have H1 := Lib.hid h1; have HT := Lib.hid ht; clear h1 ht))
        go_ret
        exact rwrote_same (r := (d.spend.1, 12)) H1.out (H.out.tna HT.out) H.out.lt
      | true =>
        have e : d.rename s t = ({ d.spend.1 with f := move d.f s t }, 0) := by unfold Dk.rename; rw [ho, has_get, hx, hm, hq]; rfl
        have HQ := Lib.hid hq
        have HE := Lib.hid e
        have hok := h.ok.rename (s := s) (t := t)
        rw [e] at hok
        by_cases hst : s = t
        · have e1 : d.rename s t = (d.spend.1, 0) := by
            subst hst
            rw [e, move_self h.ok.rising hx]
            have hf := spend_f (d := d)
            generalize d.spend.1 = q at *
            rw [← hf]
          rw [e1]
          have hb : (s == t) = true := by simpa using hst
          clear h ho e hx hq hne hs hd hm e1 hst hok HE
          go_enter Try.func41, Try.ntmps41
          go_wp2_with (first
            | (go_at_call 49; (with_reducible refine (rat_some H.out hk HS.out HNE.out).mono ?_); rintro e w' ⟨rfl, rfl⟩)
            | (go_at_call 52; (with_reducible refine (rname_any _ _ HL.out).mono ?_); rw [HM.out]; rintro e w' ⟨rfl, rfl⟩)
            | (go_at_call 60; (with_reducible refine (falls_any H.out HD.out).mono ?_); rw [HQ.out]; rintro e w1 ⟨rfl, h1, ht⟩; have H1 := Lib.hid h1; have HT := Lib.hid ht; clear h1 ht))
          go_ret
          exact rwrote_same (r := (d.spend.1, 0)) H1.out (H.out.tna HT.out) H.out.lt
        have hb : (s == t) = false := by simpa using hst
        have HST := Lib.hid hst
        obtain ⟨hk1, hs1⟩ := at_spend hk hs
        have HS1 := Lib.hid hs1
        have HOK := Lib.hid hok
        clear h ho e hx hq hne hs hd hm hst hok hs1
        have hfe := spend_f (d := d)
        have hok2 : Okr { d.spend.1 with f := put (del d.spend.1.f s) t x } := by
          have hmv : move d.f s t = put (del d.f s) t x := by unfold move; rw [HX.out]
          rw [hfe, ← hmv]; exact HOK.out
        have HOK2 := Lib.hid hok2
        have HFE := Lib.hid hfe
        have HMV : Hid (move d.f s t = put (del d.spend.1.f s) t x) := by
          have hmv : move d.f s t = put (del d.f s) t x := by unfold move; rw [HX.out]
          rw [hfe]; exact hmv
        have hr1 : Rising d.spend.1.f := by rw [hfe]; exact H.out.ok.rising
        have hr2 := hr1.del s
        clear hok2 hfe hr1
        cases hty : get (del d.spend.1.f s) t with
        | none =>
          have HTY := Lib.hid hty
          clear hty hr2
          go_enter Try.func41, Try.ntmps41
          go_wp2_with (first
            | (go_at_call 49; (with_reducible refine (rat_some H.out hk HS.out HNE.out).mono ?_); rintro e w' ⟨rfl, rfl⟩)
            | (go_at_call 52; (with_reducible refine (rname_any _ _ HL.out).mono ?_); rw [HM.out]; rintro e w' ⟨rfl, rfl⟩)
            | (go_at_call 60; (with_reducible refine (falls_any H.out HD.out).mono ?_); rw [HQ.out]; rintro e w1 ⟨rfl, h1, ht⟩; obtain ⟨g, cap, bo, bc, hv, g0, g1, g2, hu, hCu⟩ := h1.elem hk1 HS1.out; subst hv; have c0 := h1.c0; have hkl := lt_fvs hk1; have H1 := Lib.hid h1; have HT := Lib.hid ht; have HU := Lib.hid hu; have HCU := Lib.hid hCu; clear h1 ht hu hCu)
            | (go_at_call 61; (refine (rdrop_a (H1.out.below (below1 w1 _)) hk1 HS1.out).mono ?_); rintro e w2 ⟨rfl, ⟨v2, us2, h2⟩, ht2⟩; have hab := H1.out.box_lt; have bx := ht2.at_ (heap_alloc_new w1 (.cells #[nmv t, .slice bo x.data.length bc, .int .i64 (x.safe : Int)] 43)) (ne_of_box hab); obtain ⟨b0, b1, b2⟩ := box_cells bx; have HU2 := Lib.hid (own_tn (own_below HU.out (below1 w1 (.cells #[nmv t, .slice bo x.data.length bc, .int .i64 (x.safe : Int)] 43))) ht2 (fun j hj => own_ne (H1.out.below (below1 w1 (.cells #[nmv t, .slice bo x.data.length bc, .int .i64 (x.safe : Int)] 43))) (own_below HU.out (below1 w1 (.cells #[nmv t, .slice bo x.data.length bc, .int .i64 (x.safe : Int)] 43))) hj)); have H2 := Lib.hid h2; have HT2 := Lib.hid ht2; have HBX := Lib.hid bx; clear h2 ht2 hab bx)
            | (go_at_call 49; (with_reducible refine (rat_none H2.out HTY.out).mono ?_); rintro e w' ⟨rfl, rfl⟩)
            | (go_at_call 53; (refine (rput_any H2.out HTY.out HU2.out HOK2.out).mono ?_); rintro e w3 ⟨rfl, h3, ht3⟩; have H3 := Lib.hid h3; have HT3 := Lib.hid ht3; clear h3 ht3))
          go_ret
          rw [HE.out, HMV.out]
          have t2 : Tn C w w2 := ((H.out.tna HT.out).trans (Tn.of_below (S := C) (below1 w1 _)) (fun _ _ h => h)).trans HT2.out (fun j _ e => e ▸ H.out.ca)
          have t3 : Tn C w w3 := tn2 t2 HT.out.size (below1 w1 _).size HT3.out
          obtain ⟨v4, us4, h4⟩ := H3.out
          exact ⟨rfl, ⟨v4, us4, h4.grow (fun j hj => gw2 HT.out.size (below1 w1 _).size HT2.out.size HT3.out.size HCU.out hj) (fun j hj => Gw.size t3.size H.out.lt hj)⟩, t3⟩
        | some y =>
          obtain ⟨k2, hk2, hs2, hne2⟩ := get_pos hr2 hty
          have HS2 := Lib.hid hs2
          have HNE2 := Lib.hid hne2
          have HOK3 : Hid (Okr { d.spend.1 with f := put (del (del d.spend.1.f s) t) t x }) := by
            have h1 := HOK2.out
            rw [← put_del] at h1
            exact h1
          have HG3 : Hid (get (del (del d.spend.1.f s) t) t = none) := get_del_same _ _
          have HMV3 : Hid (move d.f s t = put (del (del d.spend.1.f s) t) t x) := by
            have h1 := HMV.out
            rw [← put_del] at h1
            exact h1
          clear hty hr2 hs2 hne2
          go_enter Try.func41, Try.ntmps41
          go_wp2_with (first
            | (go_at_call 49; (with_reducible refine (rat_some H.out hk HS.out HNE.out).mono ?_); rintro e w' ⟨rfl, rfl⟩)
            | (go_at_call 52; (with_reducible refine (rname_any _ _ HL.out).mono ?_); rw [HM.out]; rintro e w' ⟨rfl, rfl⟩)
            | (go_at_call 60; (with_reducible refine (falls_any H.out HD.out).mono ?_); rw [HQ.out]; rintro e w1 ⟨rfl, h1, ht⟩; obtain ⟨g, cap, bo, bc, hv, g0, g1, g2, hu, hCu⟩ := h1.elem hk1 HS1.out; subst hv; have c0 := h1.c0; have hkl := lt_fvs hk1; have H1 := Lib.hid h1; have HT := Lib.hid ht; have HU := Lib.hid hu; have HCU := Lib.hid hCu; clear h1 ht hu hCu)
            | (go_at_call 61; (refine (rdrop_a H2.out hk2 HS2.out).mono ?_); rintro e w5 ⟨rfl, ⟨v5, us5, h5⟩, ht5⟩; have hab := H1.out.box_lt; have bx := ht5.at_ HBX.out (ne_of_box hab); clear b0 b1 b2; obtain ⟨b0, b1, b2⟩ := box_cells bx; have HU5 := Lib.hid (own_tn HU2.out ht5 (fun j hj => own_ne H2.out HU2.out hj)); have H5 := Lib.hid h5; have HT5 := Lib.hid ht5; clear h5 ht5 hab bx)
            | (go_at_call 61; (refine (rdrop_a (H1.out.below (below1 w1 _)) hk1 HS1.out).mono ?_); rintro e w2 ⟨rfl, ⟨v2, us2, h2⟩, ht2⟩; have hab := H1.out.box_lt; have bx := ht2.at_ (heap_alloc_new w1 (.cells #[nmv t, .slice bo x.data.length bc, .int .i64 (x.safe : Int)] 43)) (ne_of_box hab); obtain ⟨b0, b1, b2⟩ := box_cells bx; have HU2 := Lib.hid (own_tn (own_below HU.out (below1 w1 (.cells #[nmv t, .slice bo x.data.length bc, .int .i64 (x.safe : Int)] 43))) ht2 (fun j hj => own_ne (H1.out.below (below1 w1 (.cells #[nmv t, .slice bo x.data.length bc, .int .i64 (x.safe : Int)] 43))) (own_below HU.out (below1 w1 (.cells #[nmv t, .slice bo x.data.length bc, .int .i64 (x.safe : Int)] 43))) hj)); have H2 := Lib.hid h2; have HT2 := Lib.hid ht2; have HBX := Lib.hid bx; clear h2 ht2 hab bx)
            | (go_at_call 49; (with_reducible refine (rat_some H2.out hk2 HS2.out HNE2.out).mono ?_); rintro e w' ⟨rfl, rfl⟩)
            | (go_at_call 53; (refine (rput_any H5.out HG3.out HU5.out HOK3.out).mono ?_); rintro e w3 ⟨rfl, h3, ht3⟩; have H3 := Lib.hid h3; have HT3 := Lib.hid ht3; clear h3 ht3))
          go_ret
          rw [HE.out, HMV3.out]
          have t2 : Tn C w w2 := ((H.out.tna HT.out).trans (Tn.of_below (S := C) (below1 w1 _)) (fun _ _ h => h)).trans HT2.out (fun j _ e => e ▸ H.out.ca)
          have t5 : Tn C w w5 := t2.trans HT5.out (fun j _ e => e ▸ H.out.ca)
          have t3 : Tn C w w3 := tn3 t5 HT.out.size (below1 w1 _).size HT2.out.size HT3.out
          obtain ⟨v4, us4, h4⟩ := H3.out
          exact ⟨rfl, ⟨v4, us4, h4.grow (fun j hj => gw3 HT.out.size (below1 w1 _).size HT2.out.size HT5.out.size HT3.out.size HCU.out hj) (fun j hj => Gw.size t3.size H.out.lt hj)⟩, t3⟩
end
end Go.Proofs.Ytefgnlijgomgpaa
