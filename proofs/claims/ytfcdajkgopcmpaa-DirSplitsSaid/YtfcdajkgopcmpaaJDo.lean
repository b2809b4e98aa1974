/- The directory in memory, over a map: the program's: its struct. Conditions: no more than a million ranges. -/
import Derived.Test.YtfcdajkgopcmpaaJDm
import Derived.Deep.Cut
namespace Go.Proofs.Ytfcdajkgopcmpaa
open Go.ChangeShapes Go.WideShapes Go.ChangeAt Go.RowKit Go.Deep
structure DKt (C : Nat → Prop) (w : World) (a : Nat) (L : List RV) (m : Nat) : Prop where
  box : w.heap[a]? = some (.cells #[.map (some m)] 72 (0, 0))
  map : MAt w m L
  rise : Rise L
  may : ∀ q ∈ L, mayV q = true
  ca : C a
  cm : C m
  lt : ∀ k, C k → k < w.heap.size
def DKm (C : Nat → Prop) (w : World) (a : Nat) (L : List RV) : Prop := ∃ m, DKt C w a L m
section
variable {C S P : Nat → Prop} {w w' : World} {a m : Nat} {L l : List RV} {v : Value}
theorem DKt.tn (h : DKt C w a L m) (ht : Tn S w w') (hd : ∀ k, C k → ¬ S k) : DKt C w' a L m :=
  ⟨ht.at_ h.box (hd a h.ca), h.map.tn ht (hd m h.cm), h.rise, h.may, h.ca, h.cm, fun k hk => Nat.lt_of_lt_of_le (h.lt k hk) ht.size⟩
theorem DKt.below (h : DKt C w a L m) (hb : Below w.heap.size w w') : DKt C w' a L m := h.tn (Tn.of_below (S := fun _ => False) hb) (fun _ _ e => e)
theorem DKt.c0 (h : DKt C w a L m) : w.cell? ⟨a, 0, none⟩ = some (.map (some m)) := by simp [World.cell?, h.box]
theorem DKt.am (h : DKt C w a L m) : a ≠ m := by
  rintro rfl
  obtain ⟨es, clock, hb, _⟩ := h.map
  rw [h.box] at hb
  cases hb
theorem mem_upd {L : List RV} {r q : RV} (h : q ∈ updL L r) : q = r ∨ q ∈ L := by
  unfold updL at h
  rcases mem_putL.1 h with h | h
  · exact .inl h
  · exact .inr (List.mem_filter.1 h).1
/-- One range stored. -/
theorem DKt.put (h : DKt C w a L m) {r : RV} (hl : L.length < maxLen) (hm : mayV r = true) (hk : -9223372036854775808 ≤ r.i ∧ r.i < 9223372036854775808) :
    ∃ w', (Instr.mapUpdate 70 (.map (some m)) (.int .i64 r.i) (ragg r)).run Try.prog w = .ok () w' ∧ DKt C w' a (updL L r) m ∧ Tn (· = m) w w' := by
  obtain ⟨w', h1, h2, h3⟩ := h.map.store hl hk
  refine ⟨w', h1, ⟨h3.at_ h.box (fun e => h.am e), h2, ?_, fun q hq => ?_, h.ca, h.cm, fun k hk => Nat.lt_of_lt_of_le (h.lt k hk) h3.size⟩, h3⟩
  · rw [upd_get h.rise]
    split
    · exact rise_setL h.rise r
    · rename_i hs
      exact rise_putL h.rise (getL_none (by simpa using hs))
  · rcases mem_upd hq with rfl | hq
    · exact hm
    · exact h.may q hq
theorem hear_upd {L : List RV} (h : Rise L) (r : RV) : hear L r = if mayV r = true ∧ ((getL L r.i).isSome = false ∨ ((getL L r.i).getD RV.zero).e < r.e) then (updL L r, 1) else (L, 0) := by
  rw [upd_get h]
  unfold hear
  by_cases hm : mayV r = true
  · rw [if_pos hm]
    cases hg : getL L r.i with
    | none => simp [hm]
    | some q => by_cases he : q.e < r.e <;> simp [hm, he]
  · rw [if_neg hm, if_neg (fun e => hm e.1)]
def newsV (L : List RV) (r : RV) : Bool := !(getL L r.i).isSome || decide (((getL L r.i).getD RV.zero).e < r.e)
theorem hear_news {L : List RV} (h : Rise L) (r : RV) : hear L r = if (mayV r && newsV L r) = true then (updL L r, 1) else (L, 0) := by
  rw [hear_upd h]
  unfold newsV
  cases mayV r <;> cases (getL L r.i).isSome <;> simp
set_option maxRecDepth 100000 in
set_option maxHeartbeats 4000000 in
theorem isNews_any (h : DKt C w a L m) (r : RV) (hk : -9223372036854775808 ≤ r.i ∧ r.i < 9223372036854775808) :
    Calls Try.prog 40 #[ptr a, ragg r] w fun e w' => e = .returned (.bool (newsV L r)) ∧ Below w.heap.size w w' := by
  have hst := run_stf
  have hb1 := below1 w (robj r)
  have HX := Lib.hid (at_new w r)
  have HD1 := Lib.hid (h.below hb1)
  have HB := Lib.hid hb1
  obtain ⟨g, hg⟩ : ∃ g, (getL L r.i).getD RV.zero = g := ⟨_, rfl⟩
  obtain ⟨s, hs⟩ : ∃ s, (getL L r.i).isSome = s := ⟨_, rfl⟩
  have hN : newsV L r = (!s || decide (g.e < r.e)) := by unfold newsV; rw [hg, hs]
  rw [hN]
  clear hN h hb1
  obtain ⟨r1, r2, r3, r4⟩ := r
  obtain ⟨g1, g2, g3, g4⟩ := g
  simp only at hg hs hk
  go_enter Try.func40, Try.ntmps40
  go_upto_region 1 with (fail)
  dsimp only [robj] at HX HD1 HB
  generalize w.alloc (Obj.cells #[Value.int IntKind.i64 r1, Value.int IntKind.i64 r2, Value.float FloatKind.f64 r3, Value.float FloatKind.f64 r4] 37) = W1 at *
  have c0 := HD1.out.c0
  have x0 := HX.out.c0; have x1 := HX.out.c1; have x2 := HX.out.c2; have x3 := HX.out.c3
  simp only at x0 x1 x2 x3
  have hm1 : MAt W1 m L := HD1.out.map
  have hmd : MAt W1.drew m L := hm1.tn (Tn.refl (fun _ => False) W1).drew (fun e => e)
  have hma : MAt (W1.alloc (robj RV.zero)).drew m L := (hm1.tn (Tn.of_below (S := fun _ => False) (below1 W1 (robj RV.zero))) (fun e => e)).tn (Tn.refl (fun _ => False) _).drew (fun e => e)
  have hlkd := hmd.look hk
  have hlka := hma.look hk
  rw [hg, hs] at hlkd hlka
  clear hg hs
  dsimp only [robj, RV.zero] at hlka
  have hxl := HX.out.lt
  have hal := HD1.out.lt a HD1.out.ca
  clear hm1 hmd hma
  go_region
  all_goals
    have hb2 := (below1 W1 (robj ⟨g1, g2, g3, g4⟩)).drew
    have HX2 := Lib.hid (HX.out.below hb2 HX.out.lt)
    have HY2 := Lib.hid ((at_new W1 ⟨g1, g2, g3, g4⟩).below (Below.refl _ _).drew (at_new W1 ⟨g1, g2, g3, g4⟩).lt)
    have HB2 := Lib.hid (HB.out.trans (hb2.mono HB.out.size))
    clear c0 x0 x1 x2 x3 hlkd hlka hxl hal hb2
    dsimp only [robj] at HX2 HY2 HB2
    generalize (W1.alloc (Obj.cells #[Value.int IntKind.i64 g1, Value.int IntKind.i64 g2, Value.float FloatKind.f64 g3, Value.float FloatKind.f64 g4] 37)).drew = W2 at *
    have y1 := HX2.out.c1; have z1 := HY2.out.c1
    simp only at y1 z1
    cases s
    · go_wp2
      go_ret
      exact ⟨rfl, HB2.out⟩
    · by_cases hlt : g2 < r2
      · go_wp2
        go_ret
        exact ⟨by simp [hlt], HB2.out⟩
      · go_wp2
        go_ret
        exact ⟨by simp [hlt], HB2.out⟩
set_option maxRecDepth 100000 in
set_option maxHeartbeats 4000000 in
theorem dlearnm_any (h : DKm C w a L) (hv : HasR P w v l) (hPC : ∀ k, P k → ¬ C k) (hw : ∀ r ∈ l, r.wf) (hl : L.length + l.length ≤ 1000000) :
    Calls Try.prog 19 #[ptr a, v] w fun e w' => e = .returned (.int .i64 ((learnL L l).2 : Nat)) ∧ DKm C w' a (learnL L l).1 ∧ Way C w C w' := by
  have hst := run_stf
  obtain ⟨ao, cap, rfl, hcp, hcm⟩ := hasR_len hv
  have HV := Lib.hid hv
  have HR := Lib.hid h
  have HPC := Lib.hid hPC
  have HW := Lib.hid hw
  obtain ⟨n, hn⟩ : ∃ n, l.length = n := ⟨_, rfl⟩
  have HM := Lib.hid hn
  rw [hn] at HV hcp hl ⊢
  clear hv h hPC hw hn
  go_enter Try.func19, Try.ntmps19
  go_wp2
  go_loopw [5, 10] (fun vn vi wr => ∃ k : Nat, vi = .int .i64 k ∧ k ≤ n ∧ vn = .int .i64 ((learnL L (l.take k)).2 : Nat) ∧ Hid (DKm C wr a (learnL L (l.take k)).1 ∧ Way C w C wr)) (fun _ vi _ => n - (RowKit.intOf vi).toNat)
  case atStart => exact ⟨0, rfl, Nat.zero_le _, rfl, Lib.hid ⟨HR.out, Way.refl _ _⟩⟩
  case round =>
    obtain ⟨k, rfl, hk, rfl, HD⟩ := hrel
    by_cases hlt : k < n
    · have hkl : k < l.length := by rw [HM.out]; exact hlt
      have hlt2 : (k : Int) < (n : Int) := by omega
      obtain ⟨b, o, rfl, hbl, hPb, hra⟩ := hasR_at HV.out hkl
      have hwf := HW.out _ (List.getElem_mem hkl)
      have HT := Lib.hid (learn_take (L := L) hkl)
      have HLE : Hid ((learnL L (l.take k)).2 ≤ n) := Lib.hid (by have := learn_le (l.take k) L; rw [List.length_take] at this; omega)
      have hlen := learn_len (l.take k) L
      rw [List.length_take] at hlen
      have HLN : Hid ((learnL L (l.take k)).1.length ≤ 1000000) := Lib.hid (by omega)
      have HMY := fun w => Lib.hid (may_any l[k] hwf.2.2.1 hwf.2.2.2 w)
      have hbC : ¬ C b := HPC.out b hPb
      have HGI := Lib.hid hwf.1
      obtain ⟨⟨m, hd⟩, hwy⟩ := HD.out
      have q0 := hwy.tn.cell hra.c0 hbC; have q1 := hwy.tn.cell hra.c1 hbC; have q2 := hwy.tn.cell hra.c2 hbC; have q3 := hwy.tn.cell hra.c3 hbC
      clear hra hlen hwf
      generalize l[k] = r at *
      clear hkl HD hbC hPb hbl
      generalize hML : learnL L (l.take k) = ML at *
      obtain ⟨M, N⟩ := ML
      simp only at hd HT HLE HLN
      clear hML
      have HH := Lib.hid (hear_news hd.rise r)
      have hb1 := below1 wr (robj r)
      have HX := Lib.hid (at_new wr r)
      have HD1 := Lib.hid (hd.below hb1)
      have HW1 := Lib.hid (hwy.trans (Way.of_below (C := C) hb1))
      have HIN := fun (w' : World) (h : DKt C w' a M m) => Lib.hid (isNews_any h r HGI.out)
      clear hd hwy hb1
      cases hmy : mayV r with
      | false =>
        simp only [hmy] at HMY
        have HT2 : Hid (learnL L (l.take (k + 1)) = (M, N)) := Lib.hid (by rw [HT.out, HH.out, hmy]; rfl)
        clear hmy HT HH HIN
        go_wp2_with (go_at_call 39; (with_reducible refine (HMY _).out.mono ?_); rintro e w3 ⟨rfl, hb⟩; have HD3 := Lib.hid (HD1.out.below hb); have HW3 := Lib.hid (HW1.out.trans (Way.of_below (C := C) hb)); clear hb)
        go_roundw
        case rel => exact ⟨k + 1, by go_num, by omega, by rw [HT2.out], by rw [HT2.out]; exact Lib.hid ⟨⟨_, HD3.out⟩, HW3.out⟩⟩
        case measure => simp [RowKit.intOf]; omega
      | true =>
        simp only [hmy] at HMY
        cases hns : newsV M r with
        | false =>
          simp only [hns] at HIN
          have HT2 : Hid (learnL L (l.take (k + 1)) = (M, N)) := Lib.hid (by rw [HT.out, HH.out, hmy, hns]; rfl)
          clear hmy hns HT HH
          go_wp2_with (first
            | (go_at_call 39; (with_reducible refine (HMY _).out.mono ?_); rintro e w3 ⟨rfl, hb⟩; have HD3 := Lib.hid (HD1.out.below hb); have HW3 := Lib.hid (HW1.out.trans (Way.of_below (C := C) hb)); have HX3 := Lib.hid (HX.out.below hb HX.out.lt); have y0 := HX3.out.c0; have y1 := HX3.out.c1; have y2 := HX3.out.c2; have y3 := HX3.out.c3; clear hb)
            | (go_at_call 40; (refine (HIN _ HD3.out).out.mono ?_); rintro e w4 ⟨rfl, hb⟩; have HD4 := Lib.hid (HD3.out.below hb); have HW4 := Lib.hid (HW3.out.trans (Way.of_below (C := C) hb)); clear hb))
          go_roundw
          case rel => exact ⟨k + 1, by go_num, by omega, by rw [HT2.out], by rw [HT2.out]; exact Lib.hid ⟨⟨_, HD4.out⟩, HW4.out⟩⟩
          case measure => simp [RowKit.intOf]; omega
        | true =>
          simp only [hns] at HIN
          have HT2 : Hid (learnL L (l.take (k + 1)) = (updL M r, N + 1)) := Lib.hid (by rw [HT.out, HH.out, hmy, hns]; rfl)
          have hNm := HLE.out
          have HMR := Lib.hid hmy
          clear hmy hns HT HH
          go_wp2_with (first
            | (go_at_call 39; (with_reducible refine (HMY _).out.mono ?_); rintro e w3 ⟨rfl, hb⟩; have HD3 := Lib.hid (HD1.out.below hb); have HW3 := Lib.hid (HW1.out.trans (Way.of_below (C := C) hb)); have HX3 := Lib.hid (HX.out.below hb HX.out.lt); have y0 := HX3.out.c0; have y1 := HX3.out.c1; have y2 := HX3.out.c2; have y3 := HX3.out.c3; clear hb)
            | (go_at_call 40; (refine (HIN _ HD3.out).out.mono ?_); rintro e w4 ⟨rfl, hb⟩; have HD4 := Lib.hid (HD3.out.below hb); have HW4 := Lib.hid (HW3.out.trans (Way.of_below (C := C) hb)); have HX4 := Lib.hid (HX3.out.below hb HX3.out.lt); have z0 := HX4.out.c0; have z1 := HX4.out.c1; have z2 := HX4.out.c2; have z3 := HX4.out.c3; clear hb y0 y1 y2 y3))
          have hdd := HD4.out.below ((Below.refl w4.heap.size w4).drew)
          obtain ⟨w5, hrun, hd5, ht5⟩ := hdd.put (r := r) (by have := HLN.out; unfold maxLen; omega) HMR.out HGI.out
          have c0 := HD4.out.c0
          have HD5 := Lib.hid hd5
          have HW5 := Lib.hid (HW4.out.tn.drew.trans ht5 (S := C) (fun x hx e => by
            have hcm := HD4.out.cm
            rw [← e] at hcm
            exact hcm))
          clear hd5 ht5 hdd
          go_region
          all_goals go_wp2
          all_goals
            go_roundw
            case rel => exact ⟨k + 1, by go_num, by omega, by rw [HT2.out]; go_num, by rw [HT2.out]; exact Lib.hid ⟨⟨_, HD5.out⟩, ⟨HW5.out, fun x hx => .inl hx⟩⟩⟩
            case measure => simp [RowKit.intOf]; omega
    · obtain rfl : k = n := by omega
      have e : l.take k = l := List.take_of_length_le (by rw [HM.out]; exact Nat.le_refl _)
      have HD2 : Hid (DKm C wr a (learnL L l).1 ∧ Way C w C wr) := Lib.hid (by rw [← e]; exact HD.out)
      rw [e]
      clear e HD
      go_wp2
      go_ret
      exact ⟨rfl, HD2.out⟩
end
end Go.Proofs.Ytfcdajkgopcmpaa
