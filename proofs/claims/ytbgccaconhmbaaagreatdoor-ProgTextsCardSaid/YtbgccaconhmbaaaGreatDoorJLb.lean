/- ProgBack's walk. Conditions: values and texts as Go has them. -/
import Derived.Test.YtbgccaconhmbaaaGreatDoorJBk
import Derived.Test.YtbgccaconhmbaaaGreatDoorJPu
import Derived.Test.YtbgccaconhmbaaaGreatDoorJNl
namespace Go.Proofs.YtbgccaconhmbaaaGreatDoor
open Go.ChangeShapes Go.WideShapes Go.ChangeAt Go.RowKit Go.Deep
theorem may_len {v : DV} (h : mayV v = true) : v.s.length ≤ 64 := by
  unfold mayV at h
  split at h
  · simp at h; rw [h.2]; decide
  · split at h
    · simp at h; rw [h.2]; decide
    · split at h
      · simp at h; exact h.2
      · cases h
theorem fit_pok {o : OpV} (h : Fit o) : Pok o ∧ (stepT o).length ≤ 300 := by
  have hk := form_klen h.fm
  have hs := may_len (form_may h.fm)
  refine ⟨⟨by omega, by omega, h.x⟩, ?_⟩
  have h1 := word_len o.c.toNat
  have h2 := quote_len o.key
  have h3 := print_len h.x
  unfold stepT
  rw [if_neg (by rw [h.ok]; exact Bool.noConfusion)]
  split
  · simp only [List.length_append, List.length_cons, List.length_nil]; omega
  · split
    · simp only [List.length_append, List.length_cons, List.length_nil]; omega
    · omega
theorem join_len {n : Nat} : ∀ l : List (List UInt8), (∀ x ∈ l, x.length ≤ n) → (Lib.join l [32]).length ≤ l.length * (n + 1)
  | [], _ => by simp [Lib.join]
  | [x], h => by have := h x (by simp); simp [Lib.join]; omega
  | x :: y :: l, h => by
    have h1 := h x (by simp)
    have h2 := join_len (y :: l) fun z hz => h z (by simp [hz])
    unfold Lib.join at h2 ⊢
    rw [List.intercalate_cons_cons, List.length_append, List.length_append]
    simp only [List.length_cons, List.length_nil, Nat.add_mul] at h2 ⊢
    omega
theorem prog_print {p : List OpV} (hc : chkV p = 0) (hx : ∀ o ∈ p, o.v.x < 18446744073709551616) : (∀ o ∈ p, Pok o) ∧ p.length ≤ 40 ∧ (printT p).length ≤ 12040 := by
  have hf := fit_all hc hx
  have h40 := (chkV_ok hc).1
  refine ⟨fun o ho => (fit_pok (hf o ho)).1, h40, ?_⟩
  have := join_len (n := 300) (p.map stepT) fun x hx => by
    obtain ⟨o, ho, rfl⟩ := List.mem_map.1 hx
    exact (fit_pok (hf o ho)).2
  rw [List.length_map] at this
  unfold printT
  omega
def PrsS (w : World) (p : List OpV) (n : Nat) (x : Int) (e : Ending) (w' : World) : Prop :=
  ∃ ao cap, e = .returned (.tuple #[.slice ao n cap, .int .i64 x]) ∧ Below w.heap.size w w' ∧ HasO (fun k => w.heap.size ≤ k) w' (.slice ao n cap) p
theorem parseS_any {l : List UInt8} {p : List OpV} {x : Int} (h : parseV l = (p, x)) {n : Nat} (hn : p.length = n) (hl : l.length ≤ 20000) (w : World) (hR : Rdy w) :
    Calls Tryz.prog 28 #[.string ⟨l.toArray⟩] w (PrsS w p n x) :=
  (pparse_any ⟨l.toArray⟩ (by rw [Lib.size_eq]; exact hl) w hR.mxl hR.stb).mono fun e w' ⟨v, h1, h2, h3⟩ => by
    rw [show (⟨l.toArray⟩ : ByteArray).data.toList = l from rfl, h] at h1 h3
    have h4 := own_hasG opC_len h3
    obtain ⟨ao, cap, rfl⟩ := own_sl h3
    simp only at h1 h4
    rw [hn] at h1 h4
    exact ⟨ao, cap, h1, h2, h4⟩
theorem printS_any {P : Nat → Prop} {w : World} {v : Value} {p : List OpV} (hv : HasO P w v p) (hc : chkV p = 0) (hx : ∀ o ∈ p, o.v.x < 18446744073709551616) {T : List UInt8} (hT : printT p = T) (hR : Rdy w) :
    Calls Tryz.prog 30 #[v] w fun e w' => e = .returned (.string ⟨T.toArray⟩) ∧ Below w.heap.size w w' := by
  obtain ⟨h1, h2, h3⟩ := prog_print hc hx
  rw [← hT]
  exact pprint_any hv h1 (by omega) (by omega) hR.stb.stp hR.tab
section
variable {P : Nat → Prop} {w : World} {vp : Value} {p : List OpV}
set_option maxRecDepth 100000 in
set_option maxHeartbeats 1000000 in
theorem back_out (hp : HasO P w vp p) (hR : Rdy w) (hwp : ∀ o ∈ p, o.wf) (s : List UInt8) (h : fewO p = false ∨ (fewO p = true ∧ 20000 < s.length)) :
    Calls Tryz.prog 6 #[vp, .string ⟨s.toArray⟩] w fun e w' => e = .returned (.bool true) ∧ Below w.heap.size w w' := by
  have HP := Lib.hid hp
  have HR := Lib.hid hR
  have HF := fun w hR => Lib.hid (first9_any w hR)
  have HA := fun w (hp : HasO P w vp p) => Lib.hid (fewO_any hp hwp)
  obtain ⟨ao, cap, rfl⟩ := hasg_sl hp
  clear hp hR hwp
  rcases h with h | ⟨h, hl⟩
  all_goals
    simp only [h] at HA
    clear h
  · go_enter Tryz.func6, Tryz.ntmps6
    go_wp2_with (first
      | (go_at_call 11; first
        | (refine ((HF _ (HR.out.below HB2.out)).out).mono ?_; rintro e w3 ⟨rfl, hb⟩; have HB3 := Lib.hid (HB2.out.trans (hb.mono HB2.out.size)); clear hb)
        | (refine ((HF _ HR.out).out).mono ?_; rintro e w1 ⟨rfl, hb⟩; have HB1 := Lib.hid hb; clear hb))
      | (go_at_call 12; refine ((HA _ (HP.out.below HB1.out)).out).mono ?_; rintro e w2 ⟨rfl, hb⟩; have HB2 := Lib.hid (HB1.out.trans (hb.mono HB1.out.size)); clear hb))
    go_ret
    exact ⟨rfl, HB3.out⟩
  · have hl2 : (s.length : Int) > 20000 := by omega
    clear hl
    go_enter Tryz.func6, Tryz.ntmps6
    go_wp2_with (first
      | (go_at_call 11; first
        | (refine ((HF _ (HR.out.below HB2.out)).out).mono ?_; rintro e w3 ⟨rfl, hb⟩; have HB3 := Lib.hid (HB2.out.trans (hb.mono HB2.out.size)); clear hb)
        | (refine ((HF _ HR.out).out).mono ?_; rintro e w1 ⟨rfl, hb⟩; have HB1 := Lib.hid hb; clear hb))
      | (go_at_call 12; refine ((HA _ (HP.out.below HB1.out)).out).mono ?_; rintro e w2 ⟨rfl, hb⟩; have HB2 := Lib.hid (HB1.out.trans (hb.mono HB1.out.size)); clear hb))
    go_ret
    exact ⟨rfl, HB3.out⟩
set_option maxRecDepth 100000 in
set_option maxHeartbeats 4000000 in
theorem back_yy (hp : HasO P w vp p) (hR : Rdy w) (hwp : ∀ o ∈ p, o.wf) (s : List UInt8) (hs : s.length ≤ 20000) (h1 : fewO p = true) (he : (parseV s).2 = 0) (hc : chkV p = 0) :
    Calls Tryz.prog 6 #[vp, .string ⟨s.toArray⟩] w fun e w' => e = .returned (.bool true) ∧ Below w.heap.size w w' := by
  have HP := Lib.hid hp
  have HR := Lib.hid hR
  have HF := fun w hR => Lib.hid (first9_any w hR)
  have HA := fun w (hp : HasO P w vp p) => Lib.hid (fewO_any hp hwp)
  simp only [h1] at HA
  have hpf := parse_facts s
  obtain ⟨r, hr⟩ : ∃ r, parseV s = r := ⟨_, rfl⟩
  rw [hr] at he hpf
  obtain ⟨q, x⟩ := r
  simp only at he hpf
  obtain ⟨m, hm⟩ : ∃ m, q.length = m := ⟨_, rfl⟩
  have HPS := fun w (hR : Rdy w) => Lib.hid (parseS_any hr hm (by omega) w hR)
  obtain ⟨hqc, hqx⟩ := (hpf.resolve_left (fun h => h.1 he)).2
  subst he
  obtain ⟨T, hT⟩ : ∃ T, printT q = T := ⟨_, rfl⟩
  have hTl := (prog_print hqc hqx).2.2
  have hU := back_prog hqc hqx (a := [32, 32]) (r := [32]) (by simp) (.inr rfl)
  rw [hT] at hTl hU
  have a1 : ∀ w, (Op.stringOp .add ⟨#[32, 32]⟩ ⟨T.toArray⟩).run Tryz.prog w = .ok (.string ⟨(32 :: 32 :: T).toArray⟩) w := fun w => run_add (x := [32, 32]) (y := T) (by simp; omega) w
  obtain ⟨U, hUU⟩ : ∃ U, 32 :: 32 :: T = U := ⟨_, rfl⟩
  have hUl : U.length ≤ 12042 := by rw [← hUU]; simp; omega
  have a2 : ∀ w, (Op.stringOp .add ⟨U.toArray⟩ ⟨#[32]⟩).run Tryz.prog w = .ok (.string ⟨(U ++ [32]).toArray⟩) w := fun w => run_add (x := U) (y := [32]) (by simp; omega) w
  obtain ⟨V, hVV⟩ : ∃ V, U ++ [32] = V := ⟨_, rfl⟩
  have hVl : V.length ≤ 12043 := by rw [← hVV]; simp; omega
  have hV : parseV V = (q, 0) := by rw [← hVV, ← hUU]; exact hU
  simp only [hUU] at a1
  simp only [hVV] at a2
  have HPQ : Hid (∀ {P' : Nat → Prop} {w : World} {v : Value}, HasO P' w v q → Rdy w → Calls Tryz.prog 30 #[v] w fun e w' => e = .returned (.string ⟨T.toArray⟩) ∧ Below w.heap.size w w') := Lib.hid (fun a b => printS_any a hqc hqx hT b)
  have HPU : Hid (∀ w, Rdy w → Calls Tryz.prog 28 #[.string ⟨V.toArray⟩] w (PrsS w q m 0)) := Lib.hid (fun w b => parseS_any hV hm (by omega) w b)
  have HOQ : Hid (∀ {P' Q' : Nat → Prop} {w : World} {va vb : Value}, HasO P' w va q → HasO Q' w vb q → Calls Tryz.prog 21 #[va, vb] w fun e w' => e = .returned (.bool true) ∧ Below w.heap.size w w') := Lib.hid (fun a b => by have := ops_any a b; rwa [allO_self] at this)
  have HCQ : Hid (∀ {P' : Nat → Prop} {w : World} {v : Value}, HasO P' w v q → Rdy w → Calls Tryz.prog 16 #[v] w fun e w' => e = .returned (.int .i64 0) ∧ Below w.heap.size w w') := Lib.hid (fun a b => by have := check_any a b.stb.stp; rwa [hqc] at this)
  clear hUU hVV hUl hVl hV hU hTl hT hqc hqx
  have hpx : ∀ o ∈ p, o.v.x < 18446744073709551616 := fun o ho => (hwp o ho).2.2.2.1
  obtain ⟨T2, hT2⟩ : ∃ T, printT p = T := ⟨_, rfl⟩
  have hTl2 := (prog_print hc hpx).2.2
  have hU2 := back_prog hc hpx (a := []) (r := []) (by simp) (.inl rfl)
  rw [List.nil_append, List.append_nil] at hU2
  rw [hT2] at hTl2 hU2
  have HCP : Hid (∀ {P' : Nat → Prop} {w : World} {v : Value}, HasO P' w v p → Rdy w → Calls Tryz.prog 16 #[v] w fun e w' => e = .returned (.int .i64 0) ∧ Below w.heap.size w w') := Lib.hid (fun a b => by have := check_any a b.stb.stp; rwa [hc] at this)
  obtain ⟨n, hn⟩ : ∃ n, p.length = n := ⟨_, rfl⟩
  have HPP : Hid (∀ {P' : Nat → Prop} {w : World} {v : Value}, HasO P' w v p → Rdy w → Calls Tryz.prog 30 #[v] w fun e w' => e = .returned (.string ⟨T2.toArray⟩) ∧ Below w.heap.size w w') := Lib.hid (fun a b => printS_any a hc hpx hT2 b)
  have HPV : Hid (∀ w, Rdy w → Calls Tryz.prog 28 #[.string ⟨T2.toArray⟩] w (PrsS w p n 0)) := Lib.hid (fun w b => parseS_any hU2 hn (by omega) w b)
  have HOP : Hid (∀ {P' Q' : Nat → Prop} {w : World} {va vb : Value}, HasO P' w va p → HasO Q' w vb p → Calls Tryz.prog 21 #[va, vb] w fun e w' => e = .returned (.bool true) ∧ Below w.heap.size w w') := Lib.hid (fun a b => by have := ops_any a b; rwa [allO_self] at this)
  clear hpx hTl2 hU2 hT2 hc
  have hs2 : ¬ (s.length : Int) > 20000 := by omega
  obtain ⟨ao, cap, rfl⟩ := hasg_sl hp
  rw [hn] at HP HA
  rw [hn]
  clear hp hR hwp h1 hr hpf hm hn hs
  go_enter Tryz.func6, Tryz.ntmps6
  go_wp2_with (first
    | (go_at_call 11; first
      | (refine ((HF _ (HR.out.below HB10.out)).out).mono ?_; rintro e w11 ⟨rfl, hb⟩; have HB11 := Lib.hid (HB10.out.trans (hb.mono HB10.out.size)); have HV11 := Lib.hid (HV10.out.below hb); clear hb)
      | (refine ((HF _ HR.out).out).mono ?_; rintro e w1 ⟨rfl, hb⟩; have HB1 := Lib.hid hb; clear hb))
    | (go_at_call 12; refine ((HA _ (HP.out.below HB1.out)).out).mono ?_; rintro e w2 ⟨rfl, hb⟩; have HB2 := Lib.hid (HB1.out.trans (hb.mono HB1.out.size)); clear hb)
    | (go_at_call 28; first
      | (refine (HPV.out _ (HR.out.below HB9.out)).mono ?_; rintro e w10 ⟨a9, c9, rfl, hb, hk⟩; have HB10 := Lib.hid (HB9.out.trans (hb.mono HB9.out.size)); have HV10 := Lib.hid (hk); clear hb hk)
      | (refine (HPU.out _ (HR.out.below HB4.out)).mono ?_; rintro e w5 ⟨a5, c5, rfl, hb, hk⟩; have HB5 := Lib.hid (HB4.out.trans (hb.mono HB4.out.size)); have HQ5 := Lib.hid (HQ4.out.below hb); have HT5 := Lib.hid (hk); clear hb hk)
      | (refine ((HPS _ (HR.out.below HB2.out)).out).mono ?_; rintro e w3 ⟨a3, c3, rfl, hb, hk⟩; have HB3 := Lib.hid (HB2.out.trans (hb.mono HB2.out.size)); have HQ3 := Lib.hid (hk); clear hb hk))
    | (go_at_call 30; first
      | (refine (HPP.out (HP.out.below HB8.out) (HR.out.below HB8.out)).mono ?_; rintro e w9 ⟨rfl, hb⟩; have HB9 := Lib.hid (HB8.out.trans (hb.mono HB8.out.size)); clear hb)
      | (refine (HPQ.out HQ3.out (HR.out.below HB3.out)).mono ?_; rintro e w4 ⟨rfl, hb⟩; have HB4 := Lib.hid (HB3.out.trans (hb.mono HB3.out.size)); have HQ4 := Lib.hid (HQ3.out.below hb); clear hb))
    | (go_at_call 21; first
      | (refine (HOP.out HV11.out (HP.out.below HB11.out)).mono ?_; rintro e w12 ⟨rfl, hb⟩; have HB12 := Lib.hid (HB11.out.trans (hb.mono HB11.out.size)); have HV12 := Lib.hid (HV11.out.below hb); clear hb)
      | (refine (HOQ.out HQ5.out HT5.out).mono ?_; rintro e w6 ⟨rfl, hb⟩; have HB6 := Lib.hid (HB5.out.trans (hb.mono HB5.out.size)); have HQ6 := Lib.hid (HQ5.out.below hb); clear hb))
    | (go_at_call 16; first
      | (refine (HCP.out (HP.out.below HB7.out) (HR.out.below HB7.out)).mono ?_; rintro e w8 ⟨rfl, hb⟩; have HB8 := Lib.hid (HB7.out.trans (hb.mono HB7.out.size)); clear hb)
      | (refine (HCQ.out HQ6.out (HR.out.below HB6.out)).mono ?_; rintro e w7 ⟨rfl, hb⟩; have HB7 := Lib.hid (HB6.out.trans (hb.mono HB6.out.size)); clear hb)))
  go_ret
  exact ⟨rfl, HB12.out⟩
set_option maxRecDepth 100000 in
set_option maxHeartbeats 4000000 in
theorem back_yn (hp : HasO P w vp p) (hR : Rdy w) (hwp : ∀ o ∈ p, o.wf) (s : List UInt8) (hs : s.length ≤ 20000) (h1 : fewO p = true) (he : (parseV s).2 = 0) (hc : chkV p ≠ 0) :
    Calls Tryz.prog 6 #[vp, .string ⟨s.toArray⟩] w fun e w' => e = .returned (.bool true) ∧ Below w.heap.size w w' := by
  have HP := Lib.hid hp
  have HR := Lib.hid hR
  have HF := fun w hR => Lib.hid (first9_any w hR)
  have HA := fun w (hp : HasO P w vp p) => Lib.hid (fewO_any hp hwp)
  simp only [h1] at HA
  have hpf := parse_facts s
  obtain ⟨r, hr⟩ : ∃ r, parseV s = r := ⟨_, rfl⟩
  rw [hr] at he hpf
  obtain ⟨q, x⟩ := r
  simp only at he hpf
  obtain ⟨m, hm⟩ : ∃ m, q.length = m := ⟨_, rfl⟩
  have HPS := fun w (hR : Rdy w) => Lib.hid (parseS_any hr hm (by omega) w hR)
  obtain ⟨hqc, hqx⟩ := (hpf.resolve_left (fun h => h.1 he)).2
  subst he
  obtain ⟨T, hT⟩ : ∃ T, printT q = T := ⟨_, rfl⟩
  have hTl := (prog_print hqc hqx).2.2
  have hU := back_prog hqc hqx (a := [32, 32]) (r := [32]) (by simp) (.inr rfl)
  rw [hT] at hTl hU
  have a1 : ∀ w, (Op.stringOp .add ⟨#[32, 32]⟩ ⟨T.toArray⟩).run Tryz.prog w = .ok (.string ⟨(32 :: 32 :: T).toArray⟩) w := fun w => run_add (x := [32, 32]) (y := T) (by simp; omega) w
  obtain ⟨U, hUU⟩ : ∃ U, 32 :: 32 :: T = U := ⟨_, rfl⟩
  have hUl : U.length ≤ 12042 := by rw [← hUU]; simp; omega
  have a2 : ∀ w, (Op.stringOp .add ⟨U.toArray⟩ ⟨#[32]⟩).run Tryz.prog w = .ok (.string ⟨(U ++ [32]).toArray⟩) w := fun w => run_add (x := U) (y := [32]) (by simp; omega) w
  obtain ⟨V, hVV⟩ : ∃ V, U ++ [32] = V := ⟨_, rfl⟩
  have hVl : V.length ≤ 12043 := by rw [← hVV]; simp; omega
  have hV : parseV V = (q, 0) := by rw [← hVV, ← hUU]; exact hU
  simp only [hUU] at a1
  simp only [hVV] at a2
  have HPQ : Hid (∀ {P' : Nat → Prop} {w : World} {v : Value}, HasO P' w v q → Rdy w → Calls Tryz.prog 30 #[v] w fun e w' => e = .returned (.string ⟨T.toArray⟩) ∧ Below w.heap.size w w') := Lib.hid (fun a b => printS_any a hqc hqx hT b)
  have HPU : Hid (∀ w, Rdy w → Calls Tryz.prog 28 #[.string ⟨V.toArray⟩] w (PrsS w q m 0)) := Lib.hid (fun w b => parseS_any hV hm (by omega) w b)
  have HOQ : Hid (∀ {P' Q' : Nat → Prop} {w : World} {va vb : Value}, HasO P' w va q → HasO Q' w vb q → Calls Tryz.prog 21 #[va, vb] w fun e w' => e = .returned (.bool true) ∧ Below w.heap.size w w') := Lib.hid (fun a b => by have := ops_any a b; rwa [allO_self] at this)
  have HCQ : Hid (∀ {P' : Nat → Prop} {w : World} {v : Value}, HasO P' w v q → Rdy w → Calls Tryz.prog 16 #[v] w fun e w' => e = .returned (.int .i64 0) ∧ Below w.heap.size w w') := Lib.hid (fun a b => by have := check_any a b.stb.stp; rwa [hqc] at this)
  clear hUU hVV hUl hVl hV hU hTl hT hqc hqx
  have HCP : Hid (∀ {P' : Nat → Prop} {w : World} {v : Value}, HasO P' w v p → Rdy w → Calls Tryz.prog 16 #[v] w fun e w' => e = .returned (.int .i64 (chkV p)) ∧ Below w.heap.size w w') := Lib.hid (fun a b => check_any a b.stb.stp)
  have hc2 : (chkV p != 0) = true := by simpa using hc
  generalize chkV p = z at *
  obtain ⟨n, hn⟩ : ∃ n, p.length = n := ⟨_, rfl⟩
  clear hc
  have hs2 : ¬ (s.length : Int) > 20000 := by omega
  obtain ⟨ao, cap, rfl⟩ := hasg_sl hp
  rw [hn] at HP HA
  rw [hn]
  clear hp hR hwp h1 hr hpf hm hn hs
  go_enter Tryz.func6, Tryz.ntmps6
  go_wp2_with (first
    | (go_at_call 11; first
      | (refine ((HF _ (HR.out.below HB8.out)).out).mono ?_; rintro e w9 ⟨rfl, hb⟩; have HB9 := Lib.hid (HB8.out.trans (hb.mono HB8.out.size)); clear hb)
      | (refine ((HF _ HR.out).out).mono ?_; rintro e w1 ⟨rfl, hb⟩; have HB1 := Lib.hid hb; clear hb))
    | (go_at_call 12; refine ((HA _ (HP.out.below HB1.out)).out).mono ?_; rintro e w2 ⟨rfl, hb⟩; have HB2 := Lib.hid (HB1.out.trans (hb.mono HB1.out.size)); clear hb)
    | (go_at_call 28; first
      | (refine (HPU.out _ (HR.out.below HB4.out)).mono ?_; rintro e w5 ⟨a5, c5, rfl, hb, hk⟩; have HB5 := Lib.hid (HB4.out.trans (hb.mono HB4.out.size)); have HQ5 := Lib.hid (HQ4.out.below hb); have HT5 := Lib.hid (hk); clear hb hk)
      | (refine ((HPS _ (HR.out.below HB2.out)).out).mono ?_; rintro e w3 ⟨a3, c3, rfl, hb, hk⟩; have HB3 := Lib.hid (HB2.out.trans (hb.mono HB2.out.size)); have HQ3 := Lib.hid (hk); clear hb hk))
    | (go_at_call 30; refine (HPQ.out HQ3.out (HR.out.below HB3.out)).mono ?_; rintro e w4 ⟨rfl, hb⟩; have HB4 := Lib.hid (HB3.out.trans (hb.mono HB3.out.size)); have HQ4 := Lib.hid (HQ3.out.below hb); clear hb)
    | (go_at_call 21; refine (HOQ.out HQ5.out HT5.out).mono ?_; rintro e w6 ⟨rfl, hb⟩; have HB6 := Lib.hid (HB5.out.trans (hb.mono HB5.out.size)); have HQ6 := Lib.hid (HQ5.out.below hb); clear hb)
    | (go_at_call 16; first
      | (refine (HCP.out (HP.out.below HB7.out) (HR.out.below HB7.out)).mono ?_; rintro e w8 ⟨rfl, hb⟩; have HB8 := Lib.hid (HB7.out.trans (hb.mono HB7.out.size)); clear hb)
      | (refine (HCQ.out HQ6.out (HR.out.below HB6.out)).mono ?_; rintro e w7 ⟨rfl, hb⟩; have HB7 := Lib.hid (HB6.out.trans (hb.mono HB6.out.size)); clear hb)))
  go_ret
  exact ⟨rfl, HB9.out⟩
set_option maxRecDepth 100000 in
set_option maxHeartbeats 4000000 in
theorem back_ny (hp : HasO P w vp p) (hR : Rdy w) (hwp : ∀ o ∈ p, o.wf) (s : List UInt8) (hs : s.length ≤ 20000) (h1 : fewO p = true) (he : (parseV s).2 ≠ 0) (hc : chkV p = 0) :
    Calls Tryz.prog 6 #[vp, .string ⟨s.toArray⟩] w fun e w' => e = .returned (.bool true) ∧ Below w.heap.size w w' := by
  have HP := Lib.hid hp
  have HR := Lib.hid hR
  have HF := fun w hR => Lib.hid (first9_any w hR)
  have HA := fun w (hp : HasO P w vp p) => Lib.hid (fewO_any hp hwp)
  simp only [h1] at HA
  have hpf := parse_facts s
  obtain ⟨r, hr⟩ : ∃ r, parseV s = r := ⟨_, rfl⟩
  rw [hr] at he hpf
  obtain ⟨q, x⟩ := r
  simp only at he hpf
  obtain ⟨m, hm⟩ : ∃ m, q.length = m := ⟨_, rfl⟩
  have HPS := fun w (hR : Rdy w) => Lib.hid (parseS_any hr hm (by omega) w hR)
  obtain rfl := (hpf.resolve_right (fun h => he h.1)).2
  obtain rfl : 0 = m := hm
  have hx0 : (x == 0) = false := beq_eq_false_iff_ne.2 he
  clear he
  have hpx : ∀ o ∈ p, o.v.x < 18446744073709551616 := fun o ho => (hwp o ho).2.2.2.1
  obtain ⟨T2, hT2⟩ : ∃ T, printT p = T := ⟨_, rfl⟩
  have hTl2 := (prog_print hc hpx).2.2
  have hU2 := back_prog hc hpx (a := []) (r := []) (by simp) (.inl rfl)
  rw [List.nil_append, List.append_nil] at hU2
  rw [hT2] at hTl2 hU2
  have HCP : Hid (∀ {P' : Nat → Prop} {w : World} {v : Value}, HasO P' w v p → Rdy w → Calls Tryz.prog 16 #[v] w fun e w' => e = .returned (.int .i64 0) ∧ Below w.heap.size w w') := Lib.hid (fun a b => by have := check_any a b.stb.stp; rwa [hc] at this)
  obtain ⟨n, hn⟩ : ∃ n, p.length = n := ⟨_, rfl⟩
  have HPP : Hid (∀ {P' : Nat → Prop} {w : World} {v : Value}, HasO P' w v p → Rdy w → Calls Tryz.prog 30 #[v] w fun e w' => e = .returned (.string ⟨T2.toArray⟩) ∧ Below w.heap.size w w') := Lib.hid (fun a b => printS_any a hc hpx hT2 b)
  have HPV : Hid (∀ w, Rdy w → Calls Tryz.prog 28 #[.string ⟨T2.toArray⟩] w (PrsS w p n 0)) := Lib.hid (fun w b => parseS_any hU2 hn (by omega) w b)
  have HOP : Hid (∀ {P' Q' : Nat → Prop} {w : World} {va vb : Value}, HasO P' w va p → HasO Q' w vb p → Calls Tryz.prog 21 #[va, vb] w fun e w' => e = .returned (.bool true) ∧ Below w.heap.size w w') := Lib.hid (fun a b => by have := ops_any a b; rwa [allO_self] at this)
  clear hpx hTl2 hU2 hT2 hc
  have hs2 : ¬ (s.length : Int) > 20000 := by omega
  obtain ⟨ao, cap, rfl⟩ := hasg_sl hp
  rw [hn] at HP HA
  rw [hn]
  clear hp hR hwp h1 hr hpf hn hs
  go_enter Tryz.func6, Tryz.ntmps6
  go_wp2_with (first
    | (go_at_call 11; first
      | (refine ((HF _ (HR.out.below HB6.out)).out).mono ?_; rintro e w7 ⟨rfl, hb⟩; have HB7 := Lib.hid (HB6.out.trans (hb.mono HB6.out.size)); have HQ7 := Lib.hid (HQ6.out.below hb); have HV7 := Lib.hid (HV6.out.below hb); clear hb)
      | (refine ((HF _ HR.out).out).mono ?_; rintro e w1 ⟨rfl, hb⟩; have HB1 := Lib.hid hb; clear hb))
    | (go_at_call 12; refine ((HA _ (HP.out.below HB1.out)).out).mono ?_; rintro e w2 ⟨rfl, hb⟩; have HB2 := Lib.hid (HB1.out.trans (hb.mono HB1.out.size)); clear hb)
    | (go_at_call 28; first
      | (refine (HPV.out _ (HR.out.below HB5.out)).mono ?_; rintro e w6 ⟨a9, c9, rfl, hb, hk⟩; have HB6 := Lib.hid (HB5.out.trans (hb.mono HB5.out.size)); have HQ6 := Lib.hid (HQ5.out.below hb); have HV6 := Lib.hid (hk); clear hb hk)
      | (refine ((HPS _ (HR.out.below HB2.out)).out).mono ?_; rintro e w3 ⟨a3, c3, rfl, hb, hk⟩; have HB3 := Lib.hid (HB2.out.trans (hb.mono HB2.out.size)); have HQ3 := Lib.hid (hk); clear hb hk))
    | (go_at_call 16; refine (HCP.out (HP.out.below HB3.out) (HR.out.below HB3.out)).mono ?_; rintro e w4 ⟨rfl, hb⟩; have HB4 := Lib.hid (HB3.out.trans (hb.mono HB3.out.size)); have HQ4 := Lib.hid (HQ3.out.below hb); clear hb)
    | (go_at_call 30; refine (HPP.out (HP.out.below HB4.out) (HR.out.below HB4.out)).mono ?_; rintro e w5 ⟨rfl, hb⟩; have HB5 := Lib.hid (HB4.out.trans (hb.mono HB4.out.size)); have HQ5 := Lib.hid (HQ4.out.below hb); clear hb)
    | (go_at_call 21; refine (HOP.out HV7.out (HP.out.below HB7.out)).mono ?_; rintro e w8 ⟨rfl, hb⟩; have HB8 := Lib.hid (HB7.out.trans (hb.mono HB7.out.size)); have HQ8 := Lib.hid (HQ7.out.below hb); have HV8 := Lib.hid (HV7.out.below hb); clear hb))
  go_ret
  exact ⟨rfl, HB8.out⟩
set_option maxRecDepth 100000 in
set_option maxHeartbeats 4000000 in
theorem back_nn (hp : HasO P w vp p) (hR : Rdy w) (hwp : ∀ o ∈ p, o.wf) (s : List UInt8) (hs : s.length ≤ 20000) (h1 : fewO p = true) (he : (parseV s).2 ≠ 0) (hc : chkV p ≠ 0) :
    Calls Tryz.prog 6 #[vp, .string ⟨s.toArray⟩] w fun e w' => e = .returned (.bool true) ∧ Below w.heap.size w w' := by
  have HP := Lib.hid hp
  have HR := Lib.hid hR
  have HF := fun w hR => Lib.hid (first9_any w hR)
  have HA := fun w (hp : HasO P w vp p) => Lib.hid (fewO_any hp hwp)
  simp only [h1] at HA
  have hpf := parse_facts s
  obtain ⟨r, hr⟩ : ∃ r, parseV s = r := ⟨_, rfl⟩
  rw [hr] at he hpf
  obtain ⟨q, x⟩ := r
  simp only at he hpf
  obtain ⟨m, hm⟩ : ∃ m, q.length = m := ⟨_, rfl⟩
  have HPS := fun w (hR : Rdy w) => Lib.hid (parseS_any hr hm (by omega) w hR)
  obtain rfl := (hpf.resolve_right (fun h => he h.1)).2
  obtain rfl : 0 = m := hm
  have hx0 : (x == 0) = false := beq_eq_false_iff_ne.2 he
  clear he
  have HCP : Hid (∀ {P' : Nat → Prop} {w : World} {v : Value}, HasO P' w v p → Rdy w → Calls Tryz.prog 16 #[v] w fun e w' => e = .returned (.int .i64 (chkV p)) ∧ Below w.heap.size w w') := Lib.hid (fun a b => check_any a b.stb.stp)
  have hc2 : (chkV p != 0) = true := by simpa using hc
  generalize chkV p = z at *
  obtain ⟨n, hn⟩ : ∃ n, p.length = n := ⟨_, rfl⟩
  clear hc
  have hs2 : ¬ (s.length : Int) > 20000 := by omega
  obtain ⟨ao, cap, rfl⟩ := hasg_sl hp
  rw [hn] at HP HA
  rw [hn]
  clear hp hR hwp h1 hr hpf hn hs
  go_enter Tryz.func6, Tryz.ntmps6
  go_wp2_with (first
    | (go_at_call 11; first
      | (refine ((HF _ (HR.out.below HB4.out)).out).mono ?_; rintro e w5 ⟨rfl, hb⟩; have HB5 := Lib.hid (HB4.out.trans (hb.mono HB4.out.size)); have HQ5 := Lib.hid (HQ4.out.below hb); clear hb)
      | (refine ((HF _ HR.out).out).mono ?_; rintro e w1 ⟨rfl, hb⟩; have HB1 := Lib.hid hb; clear hb))
    | (go_at_call 12; refine ((HA _ (HP.out.below HB1.out)).out).mono ?_; rintro e w2 ⟨rfl, hb⟩; have HB2 := Lib.hid (HB1.out.trans (hb.mono HB1.out.size)); clear hb)
    | (go_at_call 28; refine ((HPS _ (HR.out.below HB2.out)).out).mono ?_; rintro e w3 ⟨a3, c3, rfl, hb, hk⟩; have HB3 := Lib.hid (HB2.out.trans (hb.mono HB2.out.size)); have HQ3 := Lib.hid (hk); clear hb hk)
    | (go_at_call 16; refine (HCP.out (HP.out.below HB3.out) (HR.out.below HB3.out)).mono ?_; rintro e w4 ⟨rfl, hb⟩; have HB4 := Lib.hid (HB3.out.trans (hb.mono HB3.out.size)); have HQ4 := Lib.hid (HQ3.out.below hb); clear hb))
  go_ret
  exact ⟨rfl, HB5.out⟩
/-- racelaw9.ProgBack answers true. -/
theorem back_any (hp : HasO P w vp p) (hR : Rdy w) (hwp : ∀ o ∈ p, o.wf) (s : List UInt8) :
    Calls Tryz.prog 6 #[vp, .string ⟨s.toArray⟩] w fun e w' => e = .returned (.bool true) ∧ Below w.heap.size w w' := by
  cases h1 : fewO p with
  | false => exact back_out hp hR hwp s (.inl h1)
  | true =>
    by_cases hs : 20000 < s.length
    · exact back_out hp hR hwp s (.inr ⟨h1, hs⟩)
    · have hs : s.length ≤ 20000 := by omega
      by_cases he : (parseV s).2 = 0
      · by_cases hc : chkV p = 0
        · exact back_yy hp hR hwp s hs h1 he hc
        · exact back_yn hp hR hwp s hs h1 he hc
      · by_cases hc : chkV p = 0
        · exact back_ny hp hR hwp s hs h1 he hc
        · exact back_nn hp hR hwp s hs h1 he hc
end
end Go.Proofs.YtbgccaconhmbaaaGreatDoor
