/- A number is read of just one row of bytes: what is read without a fault, written again, is what was read: racelaw2.WireOne answers true and leaves its arguments as they were. Conditions: none. -/
import Derived.Test.YtioopibmpcbcjaaZ
import Derived.Test.YtioopibmpcbcjaaU2
import Derived.Deep.RegionWith
namespace Go.Proofs.Ytioopibmpcbcjaa
open Go.ChangeShapes Go.WideShapes Go.ChangeAt Go.RowKit
theorem WrB.put1 {B : Nat} {w : World} {p : Nat} {l : List UInt8} (h : WrB B w p l) (t : It) (ht : t.wf) (hroom : l.length + 10 + t.s.length ≤ 140737488355328) :
    Calls Try.prog 14 #[.pointer (some ⟨p, 0, none⟩), .agg #[.int .i64 t.k, .int .i64 t.n, .bool t.b, .float .f64 t.x, .string ⟨t.s.toArray⟩]] w fun e w' => e = .returned (.tuple #[]) ∧ WrB B w' p (l ++ itB t) ∧ Below B w w' := by
  obtain ⟨v, hw, hp, hs, hv⟩ := h
  exact (put_any hw t ht hroom).mono fun e w' ⟨he, v', hw', hf, hm⟩ => ⟨he, WrB.of hp hs hv hw' hf hm⟩
/-- A reader's call and a new block leave a Writer that lies behind the reader. -/
theorem WrB.keepX {B r : Nat} {w w' : World} {p : Nat} {l : List UInt8} (h : WrB B w p l) (hf : Fr (fun k => k = r ∨ w.heap.size ≤ k) w w') (hr : r < B) : WrB B w' p l := by
  obtain ⟨v, hw, hp, hs, hv⟩ := h
  have hlt := hw.lt
  refine ⟨v, hw.fr hf (fun h => by rcases h with h | h <;> omega) (fun k hk h => ?_), hp, Nat.le_trans hs hf.size, hv⟩
  have h1 := hv k hk
  have h2 := (hw.own.lt k hk).2
  rcases h with h | h <;> omega
/-- The beginning of a slice of bytes. -/
theorem HasB.head {K : Nat → Prop} {w : World} {ao : Option Addr} {n cap q : Nat} {l : List UInt8} (h : HasB K w (.slice ao n cap) l) (hq : q ≤ l.length) : HasB K w (.slice ao q cap) (l.take q) := by
  obtain ⟨a1, c, h1, h2, h3, h4, h5⟩ := h
  simp at h1
  obtain ⟨rfl, _, rfl⟩ := h1
  have hl : (l.take q).length = q := by rw [List.length_take]; omega
  refine ⟨ao, cap, by rw [hl], by rw [hl]; omega, h3, (fun e => by obtain ⟨rfl, h7⟩ := h4 e; simp [h7]), ?_⟩
  rcases h5 with h5 | ⟨b', off', e, hB, hlt, hc⟩
  · left; rw [h5]; simp
  · exact .inr ⟨b', off', e, hB, hlt, fun i hi => by rw [hl] at hi; rw [getD_take hi]; exact hc i (by omega)⟩
theorem wireOne_long (w : World) (v : Value) (xs : List UInt8) (h : HasB (fun k => k < w.heap.size) w v xs) (hc : 20000 < xs.length) (kind : Int) :
    Calls Try.prog 6 #[v, .int .i64 kind] w fun e w' => e = .returned (.bool true) ∧ Below w.heap.size w w' := by
  obtain ⟨bo, bc, rfl, _⟩ := h
  have HB := Lib.hid (Below.refl w.heap.size w)
  have hc' : (20000 : Int) < (xs.length : Int) := by omega
  go_enter Try.func6, Try.ntmps6
  go_wp2_with (first
    | (go_at_call 11; refine (first_any _).mono ?_; rintro e w1 ⟨rfl, hb1⟩; have HB := Lib.hid (HB.out.trans (hb1.mono HB.out.size)); clear hb1))
  go_ret
  exact ⟨rfl, HB.out⟩
theorem tmod4 (j : Int) : -3 ≤ j.tmod 4 ∧ j.tmod 4 ≤ 3 := by
  by_cases h : j < 0
  · have e : j.tmod 4 = -((-j).tmod 4) := by rw [Int.neg_tmod]; omega
    rw [e, Int.tmod_eq_emod_of_nonneg (by omega)]
    omega
  · rw [Int.tmod_eq_emod_of_nonneg (by omega)]; omega
set_option maxHeartbeats 8000000 in
set_option maxRecDepth 100000 in
theorem wireOne_some (w : World) (v : Value) (xs : List UInt8) (h : HasB (fun k => k < w.heap.size) w v xs) (hc : xs.length ≤ 20000) (kind : Int) :
    Calls Try.prog 6 #[v, .int .i64 kind] w fun e w' => e = .returned (.bool true) ∧ Below w.heap.size w w' := by
  have HV := Lib.hid h
  obtain ⟨bo, bc, rfl, hbc, _⟩ := h
  have hst : ∀ (W : World) (a : Addr) (x : Nat), (store a (.float .f64 x)).run Try.prog W = stored Try.prog W a (.float .f64 x) .plain := fun W a x => run_store _ _ _ _ _ rfl
  have HB := Lib.hid (Below.refl w.heap.size w)
  have hc' : ¬ (20000 : Int) < (xs.length : Int) := by omega
  obtain ⟨hj1, hj2⟩ := tmod4 kind
  generalize hj : kind.tmod 4 = j at *
  go_enter Try.func6, Try.ntmps6
  go_wp2_with (first
    | (go_at_call 11; refine (first_any _).mono ?_; rintro e w1 ⟨rfl, hb1⟩; have HB := Lib.hid (HB.out.trans (hb1.mono HB.out.size)); clear hb1)
    | (go_at_call 19; refine (newReader_any (HV.out.fr (Fr.of_below HB.out (S := fun k => w.heap.size ≤ k) (fun _ _ h => h)) (fun k hk h => by omega)) (by omega)).mono ?_; rintro e w2 ⟨r, vr, rfl, hr, h2, f2⟩; have HR := Lib.hid h2; have HP := Lib.hid (Nat.le_trans HB.out.size hr); have HB := Lib.hid (HB.out.trans (f2.below (B := w.heap.size) (fun _ h => h.elim) HB.out.size)); clear h2 f2)
    | (go_at_call 13; refine (newWriterB (B := r + 1) _ HR.out.lt).mono ?_; rintro e w3 ⟨p, rfl, hx1, hb1⟩; have HR := Lib.hid (HR.out.fr (Fr.of_below hb1 (S := fun k => w2.heap.size ≤ k) (fun _ _ h => h)) (by have := HR.out.lt; omega) (fun k hk h => by have := HR.out.lt; omega)); have HB := Lib.hid (HB.out.trans (hb1.mono HB.out.size)); have HX := Lib.hid hx1; clear hb1 hx1)
    | go_quiet (fail))
  go_loopw [7] (fun i wr => ∃ (k : Nat) (s : Rst), i = .int .i64 k ∧ k ≤ 200 ∧ Hid (Rd 71 (fun k => w1.heap.size ≤ k ∧ k < r) wr r vr s) ∧ Hid (s.bs = xs ∧ s.er = 0 ∧ s.fp = 0) ∧ Hid (WrB (r + 1) wr p (xs.take s.pl)) ∧ Hid (Below w.heap.size w wr)) (fun i _ => 200 - (intOf i).toNat)
  case atStart => exact ⟨0, _, rfl, Nat.zero_le _, HR, ⟨rfl, rfl, rfl⟩, HX, HB⟩
  case round =>
    obtain ⟨k, s, rfl, hk, HR, HS, HX, HB⟩ := hrel
    have hpl : s.pl ≤ xs.length := by have := HR.out.le; rwa [HS.out.1] at this
    have HPL := Lib.hid hpl
    have htk : (xs.take s.pl).length ≤ 20000 := by rw [List.length_take]; omega
    have hpb : s.pl ≤ bc := by omega
    obtain ⟨P, hP⟩ : ∃ P, P = xs.take s.pl := ⟨_, rfl⟩
    rw [← hP] at HX htk
    have HTK := Lib.hid htk
    have hpe : (P == List.take s.pl xs) = true := by rw [hP]; simp
    have HPE := Lib.hid hP
    clear htk hP
    by_cases hlt : k < 200
    · have hq : (j + 4 + (k : Int)).tmod 4 = 0 ∨ (j + 4 + (k : Int)).tmod 4 = 1 ∨ (j + 4 + (k : Int)).tmod 4 = 2 ∨ (j + 4 + (k : Int)).tmod 4 = 3 := by
        rw [Int.tmod_eq_emod_of_nonneg (by omega)]; omega
      rcases hq with hq | hq | hq | hq
      · have hag := again_int (s := s) HS.out.2.1 (by rw [HS.out.1]; exact hpl)
        have HSB := Lib.hid HS.out.1
        rcases hag with hag | hag
        · have b1 : ((rInt s).2.er != 0) = false := by rw [hag.2.1]; rfl
          have HA := Lib.hid hag
          clear hag
          go_wp2_with (first
            | (go_at_call 25; refine (place_any HR.out).mono ?_; rintro e w1 ⟨rfl, hww⟩; obtain rfl := hww.symm)
            | (go_at_call 26; refine (int_any (HR.out.fr (fr_alloc wr _) id (fun _ _ => id))).mono ?_; rintro e w2 ⟨rfl, h2, f2⟩; have HR2 := Lib.hid h2; have hg2 := f2.heap (heap_alloc_new wr (.cells #[.int .i64 0, .int .i64 0, .bool false, .float .f64 0, .string ⟨#[]⟩] 30)) (fun e => by have := HR.out.lt; omega); have e0 := cell_in (o := 1) hg2 rfl; have ff0 := free_in hg2 1; have HG2 := Lib.hid hg2; have HF2 := Lib.hid (show Fr (fun k => k = r ∨ wr.heap.size ≤ k) wr w2 from ((Fr.refl _ wr).alloc _).trans f2 (fun _ _ h => .inl h)); clear h2 f2 hg2)
            | (go_at_call 24; refine (fault_any (HR2.out.fr (fr_set1 (p := wr.heap.size) w2 1 (.int .i64 (rInt s).1)) (by have := HR.out.lt; omega) (fun k hk h => by have := HR.out.lt; omega))).mono ?_; rintro e w3 ⟨rfl, h3, f3⟩; have hg3 := f3.heap (heap_setCell_self (o := 1) HG2.out (.int .i64 (rInt s).1)) (fun e => by have := HR.out.lt; omega); have cc0 := cell_in (o := 0) hg3 rfl; have cc1 := cell_in (o := 1) hg3 rfl; have cc2 := cell_in (o := 2) hg3 rfl; have cc3 := cell_in (o := 3) hg3 rfl; have cc4 := cell_in (o := 4) hg3 rfl; have HR3 := Lib.hid h3; have HF3 := Lib.hid (show Fr (fun k => k = r ∨ wr.heap.size ≤ k) wr w3 from (HF2.out.setCell (p := wr.heap.size) (o := 1) (fun h => .inr (Nat.le_refl _)) (.int .i64 (rInt s).1)).trans f3 (fun _ _ h => .inl h)); have HX3 := Lib.hid (HX.out.keepX HF3.out (by omega)); have HB3 := Lib.hid (HB.out.trans (HF3.out.below (B := w.heap.size) (fun i hi => by have := HP.out; have := HB.out.size; rcases hi with hi | hi <;> omega) HB.out.size)); clear h3 f3 hg3)
            | (go_at_call 14; refine (HX3.out.put1 ⟨0, (rInt s).1, false, 0, []⟩ ⟨by simp, rInt_range s, by simp, by simp⟩ (by have := HTK.out; simp; omega)).mono ?_; rintro e w4 ⟨rfl, hx4, hb4⟩; have HX4 := Lib.hid hx4; have HR4 := Lib.hid (HR3.out.fr (Fr.of_below hb4 (S := fun k => r + 1 ≤ k) (fun _ _ h => h)) (by omega) (fun k hk h => by omega)); have HB4 := Lib.hid (HB3.out.trans (hb4.mono (by have := HP.out; omega))); clear hx4 hb4))
          refine ⟨⟨k + 1, _, by simp, by omega, HR4, ⟨HA.out.1.trans HSB.out, HA.out.2.1, HA.out.2.2.1.trans HS.out.2.2⟩, ?_, HB4⟩, by simp [intOf]; omega⟩
          have e := HA.out.2.2.2
          rw [HSB.out, ← HPE.out] at e
          rw [← e]
          exact HX4
        · have b1 : ((rInt s).2.er != 0) = true := by rw [bne_iff_ne]; exact hag.2.1
          have HA := Lib.hid hag
          have b2 : (s.pl : Int) ≤ (((rInt s).2.fp : Nat) : Int) := by have := hag.2.2.2.1; omega
          have b3 : (((rInt s).2.fp : Nat) : Int) ≤ (xs.length : Int) := by have := hag.2.2.2.2; rw [HSB.out] at this; omega
          have b4 : (rInt s).2.pl = s.pl := hag.2.2.1
          clear hag
          go_wp2_with (first
            | (go_at_call 25; refine (place_any HR.out).mono ?_; rintro e w1 ⟨rfl, hww⟩; obtain rfl := hww.symm)
            | (go_at_call 26; refine (int_any (HR.out.fr (fr_alloc wr _) id (fun _ _ => id))).mono ?_; rintro e w2 ⟨rfl, h2, f2⟩; have HR2 := Lib.hid h2; have hg2 := f2.heap (heap_alloc_new wr (.cells #[.int .i64 0, .int .i64 0, .bool false, .float .f64 0, .string ⟨#[]⟩] 30)) (fun e => by have := HR.out.lt; omega); have e0 := cell_in (o := 1) hg2 rfl; have ff0 := free_in hg2 1; have HG2 := Lib.hid hg2; have HF2 := Lib.hid (show Fr (fun k => k = r ∨ wr.heap.size ≤ k) wr w2 from ((Fr.refl _ wr).alloc _).trans f2 (fun _ _ h => .inl h)); clear h2 f2 hg2)
            | (go_at_call 24; refine (fault_any (HR2.out.fr (fr_set1 (p := wr.heap.size) w2 1 (.int .i64 (rInt s).1)) (by have := HR.out.lt; omega) (fun k hk h => by have := HR.out.lt; omega))).mono ?_; rintro e w3 ⟨rfl, h3, f3⟩; have hg3 := f3.heap (heap_setCell_self (o := 1) HG2.out (.int .i64 (rInt s).1)) (fun e => by have := HR.out.lt; omega); have cc0 := cell_in (o := 0) hg3 rfl; have cc1 := cell_in (o := 1) hg3 rfl; have cc2 := cell_in (o := 2) hg3 rfl; have cc3 := cell_in (o := 3) hg3 rfl; have cc4 := cell_in (o := 4) hg3 rfl; have HR3 := Lib.hid h3; have HF3 := Lib.hid (show Fr (fun k => k = r ∨ wr.heap.size ≤ k) wr w3 from (HF2.out.setCell (p := wr.heap.size) (o := 1) (fun h => .inr (Nat.le_refl _)) (.int .i64 (rInt s).1)).trans f3 (fun _ _ h => .inl h)); have HX3 := Lib.hid (HX.out.keepX HF3.out (by omega)); have HB3 := Lib.hid (HB.out.trans (HF3.out.below (B := w.heap.size) (fun i hi => by have := HP.out; have := HB.out.size; rcases hi with hi | hi <;> omega) HB.out.size)); clear h3 f3 hg3))
          refine wp_region_any (by kernel_rfl) ?_
          change wpAny _ _ _ _ _ _ _ (World.drew _)
          refine wpAny_ready (rs := [0]) (by kernel_rfl) (by simp) ?_
          refine AllReady.cons rfl (fun K hK => ?_) AllReady.nil
          go_simp
          go_wp2_with (first
            | (go_at_call 11; refine (first_any _).mono ?_; rintro e w5 ⟨rfl, hb5⟩; have HR5 := Lib.hid (HR3.out.drew.fr (Fr.of_below hb5 (S := fun k => w3.heap.size ≤ k) (fun _ _ h => h)) (by have := HR3.out.lt; omega) (fun k hk h => by have := HR3.out.lt; omega)); have HX5 := Lib.hid (HX3.out.below ((Below.refl _ _).drew.trans hb5) (Nat.le_refl _)); have HB5 := Lib.hid (HB3.out.drew.trans (hb5.mono HB3.out.size)); clear hb5)
            | (go_at_call 25; refine (place_any HR5.out).mono ?_; rintro e w6 ⟨rfl, hww⟩; obtain rfl := hww.symm)
            | (go_at_call 16; refine (HX5.out.bytes (by have := HTK.out; omega)).mono ?_; rintro e w6 ⟨v6, rfl, ho, hb6⟩; obtain ⟨ao6, cap6, rfl⟩ := own_slice ho; have HO6 := Lib.hid (own_has ho); have HB5 := Lib.hid (HB5.out.trans (hb6.mono HB5.out.size)); clear ho hb6)
            | (go_at_call 17; refine (same_any HO6.out ((HV.out.fr (Fr.of_below HB5.out (S := fun k => w.heap.size ≤ k) (fun _ _ h => h)) (fun k hk h => by omega)).head (q := s.pl) HPL.out)).mono ?_; rintro e w7 ⟨rfl, hww⟩; obtain rfl := hww.symm))
          refine wpAny_take (i := 1) (v := ?v0_1) rfl (by kernel_rfl) (by kernel_rfl) (by kernel_rfl) (fun _ _ _ h => h) (Or.inl ⟨by rfl, ?y0_1⟩) ?r0_1
          case y0_1 => first | (intro W; go_simp; done) | (intro W; go_simp; with_reducible rfl)
          go_simp
          refine wpAny_take (i := 2) (v := ?v0_2) rfl (by kernel_rfl) (by kernel_rfl) (by kernel_rfl) (fun _ _ _ h => h) (Or.inl ⟨by rfl, ?y0_2⟩) ?r0_2
          case y0_2 => first | (intro W; go_simp; done) | (intro W; go_simp; with_reducible rfl)
          go_simp
          refine wpAny_take (i := 3) (v := ?v0_3) rfl (by kernel_rfl) (by kernel_rfl) (by kernel_rfl) (fun _ _ _ h => h) (Or.inl ⟨by rfl, ?y0_3⟩) ?r0_3
          case y0_3 => first | (intro W; go_simp; done) | (intro W; go_simp; with_reducible rfl)
          go_simp
          refine wpAny_take (i := 4) (v := ?v0_4) rfl (by kernel_rfl) (by kernel_rfl) (by kernel_rfl) (fun _ _ _ h => h) (Or.inl ⟨by rfl, ?y0_4⟩) ?r0_4
          case y0_4 => first | (intro W; go_simp; done) | (intro W; go_simp; with_reducible rfl)
          go_simp
          refine wpAny_take (i := 5) (v := ?v0_5) rfl (by kernel_rfl) (by kernel_rfl) (by kernel_rfl) (fun _ _ _ h => h) (Or.inl ⟨by rfl, ?y0_5⟩) ?r0_5
          case y0_5 => first | (intro W; go_simp; done) | (intro W; go_simp; with_reducible rfl)
          go_simp
          refine wpAny_take (i := 6) (v := ?v0_6) rfl (by kernel_rfl) (by kernel_rfl) (by kernel_rfl) (fun _ _ _ h => h) (Or.inl ⟨by rfl, ?y0_6⟩) ?r0_6
          case y0_6 => first | (intro W; go_simp; done) | (intro W; go_simp; with_reducible rfl)
          go_simp
          refine wpAny_take (i := 7) (v := ?v0_7) rfl (by kernel_rfl) (by kernel_rfl) (by kernel_rfl) (fun _ _ _ h => h) (Or.inl ⟨by rfl, ?y0_7⟩) ?r0_7
          case y0_7 => first | (intro W; go_simp; done) | (intro W; go_simp; with_reducible rfl)
          go_simp
          refine wpAny_take (i := 8) (v := ?v0_8) rfl (by kernel_rfl) (by kernel_rfl) (by kernel_rfl) (fun _ _ _ h => h) (Or.inl ⟨by rfl, ?y0_8⟩) ?r0_8
          case y0_8 => first | (intro W; go_simp; done) | (intro W; go_simp; with_reducible rfl)
          go_simp
          refine wpAny_take (i := 9) (v := ?v0_9) rfl (by kernel_rfl) (by kernel_rfl) (by kernel_rfl) (fun _ _ _ h => h) (Or.inl ⟨by rfl, ?y0_9⟩) ?r0_9
          case y0_9 => first | (intro W; go_simp; done) | (intro W; go_simp; with_reducible rfl)
          go_simp
          refine wpAny_take (i := 10) (v := ?v0_10) rfl (by kernel_rfl) (by kernel_rfl) (by kernel_rfl) (fun _ _ _ h => h) (Or.inl ⟨by rfl, ?y0_10⟩) ?r0_10
          case y0_10 => first | (intro W; go_simp; done) | (intro W; go_simp; with_reducible rfl)
          go_simp
          refine wpAny_take (i := 11) (v := ?v0_11) rfl (by kernel_rfl) (by kernel_rfl) (by kernel_rfl) (fun _ _ _ h => h) (Or.inl ⟨by rfl, ?y0_11⟩) ?r0_11
          case y0_11 => first | (intro W; go_simp; done) | (intro W; go_simp; with_reducible rfl)
          go_simp
          refine wpAny_take (i := 12) (v := ?v0_12) rfl (by kernel_rfl) (by kernel_rfl) (by kernel_rfl) (fun _ _ _ h => h) (Or.inl ⟨by rfl, ?y0_12⟩) ?r0_12
          case y0_12 => first | (intro W; go_simp; done) | (intro W; go_simp; with_reducible rfl)
          go_simp
          refine wpAny_take (i := 13) (v := ?v0_13) rfl (by kernel_rfl) (by kernel_rfl) (by kernel_rfl) (fun _ _ _ h => h) (Or.inl ⟨by rfl, ?y0_13⟩) ?r0_13
          case y0_13 => first | (intro W; go_simp; done) | (intro W; go_simp; with_reducible rfl)
          go_simp
          refine wpAny_take (i := 15) (v := ?v0_15) rfl (by kernel_rfl) (by kernel_rfl) (by kernel_rfl) (fun _ _ _ h => h) (Or.inl ⟨by rfl, ?y0_15⟩) ?r0_15
          case y0_15 => first | (intro W; go_simp; done) | (intro W; go_simp; with_reducible rfl)
          go_simp
          refine wpAny_ready (rs := [14]) (by kernel_rfl) (by simp) ?_
          refine AllReady.cons rfl (fun K hK => ?_) AllReady.nil
          go_simp
          go_wp2_with (first
            | (go_at_call 11; refine (first_any _).mono ?_; rintro e w5 ⟨rfl, hb5⟩; have HR5 := Lib.hid (HR3.out.drew.fr (Fr.of_below hb5 (S := fun k => w3.heap.size ≤ k) (fun _ _ h => h)) (by have := HR3.out.lt; omega) (fun k hk h => by have := HR3.out.lt; omega)); have HX5 := Lib.hid (HX3.out.below ((Below.refl _ _).drew.trans hb5) (Nat.le_refl _)); have HB5 := Lib.hid (HB3.out.drew.trans (hb5.mono HB3.out.size)); clear hb5)
            | (go_at_call 25; refine (place_any HR5.out).mono ?_; rintro e w6 ⟨rfl, hww⟩; obtain rfl := hww.symm)
            | (go_at_call 16; refine (HX5.out.bytes (by have := HTK.out; omega)).mono ?_; rintro e w6 ⟨v6, rfl, ho, hb6⟩; obtain ⟨ao6, cap6, rfl⟩ := own_slice ho; have HO6 := Lib.hid (own_has ho); have HB5 := Lib.hid (HB5.out.trans (hb6.mono HB5.out.size)); clear ho hb6)
            | (go_at_call 17; refine (same_any HO6.out ((HV.out.fr (Fr.of_below HB5.out (S := fun k => w.heap.size ≤ k) (fun _ _ h => h)) (fun k hk h => by omega)).head (q := s.pl) HPL.out)).mono ?_; rintro e w7 ⟨rfl, hww⟩; obtain rfl := hww.symm))
          refine wpAny_take (i := 16) (v := ?v0_16) rfl (by kernel_rfl) (by kernel_rfl) (by kernel_rfl) (fun _ _ _ h => h) (Or.inl ⟨by rfl, ?y0_16⟩) ?r0_16
          case y0_16 => first | (intro W; go_simp; done) | (intro W; go_simp; with_reducible rfl)
          go_simp
          refine wpAny_take (i := 17) (v := ?v0_17) rfl (by kernel_rfl) (by kernel_rfl) (by kernel_rfl) (fun _ _ _ h => h) (Or.inl ⟨by rfl, ?y0_17⟩) ?r0_17
          case y0_17 => first | (intro W; go_simp; done) | (intro W; go_simp; with_reducible rfl)
          go_simp
          refine wpAny_take (i := 18) (v := ?v0_18) rfl (by kernel_rfl) (by kernel_rfl) (by kernel_rfl) (fun _ _ _ h => h) (Or.inl ⟨by rfl, ?y0_18⟩) ?r0_18
          case y0_18 => first | (intro W; go_simp; done) | (intro W; go_simp; with_reducible rfl)
          go_simp
          refine wpAny_take (i := 19) (v := ?v0_19) rfl (by kernel_rfl) (by kernel_rfl) (by kernel_rfl) (fun _ _ _ h => h) (Or.inl ⟨by rfl, ?y0_19⟩) ?r0_19
          case y0_19 => first | (intro W; go_simp; done) | (intro W; go_simp; with_reducible rfl)
          go_simp
          refine wpAny_take (i := 21) (v := ?v0_21) rfl (by kernel_rfl) (by kernel_rfl) (by kernel_rfl) (fun _ _ _ h => h) (Or.inl ⟨by rfl, ?y0_21⟩) ?r0_21
          case y0_21 => first | (intro W; go_simp; done) | (intro W; go_simp; with_reducible rfl)
          go_simp
          refine wpAny_take (i := 22) (v := ?v0_22) rfl (by kernel_rfl) (by kernel_rfl) (by kernel_rfl) (fun _ _ _ h => h) (Or.inl ⟨by rfl, ?y0_22⟩) ?r0_22
          case y0_22 => first | (intro W; go_simp; done) | (intro W; go_simp; with_reducible rfl)
          go_simp
          refine wpAny_take (i := 23) (v := ?v0_23) rfl (by kernel_rfl) (by kernel_rfl) (by kernel_rfl) (fun _ _ _ h => h) (Or.inl ⟨by rfl, ?y0_23⟩) ?r0_23
          case y0_23 => first | (intro W; go_simp; done) | (intro W; go_simp; with_reducible rfl)
          go_simp
          refine wpAny_ready (rs := [20]) (by kernel_rfl) (by simp) ?_
          refine AllReady.cons rfl (fun K hK => ?_) AllReady.nil
          go_simp
          go_wp2_with (first
            | (go_at_call 11; refine (first_any _).mono ?_; rintro e w5 ⟨rfl, hb5⟩; have HR5 := Lib.hid (HR3.out.drew.fr (Fr.of_below hb5 (S := fun k => w3.heap.size ≤ k) (fun _ _ h => h)) (by have := HR3.out.lt; omega) (fun k hk h => by have := HR3.out.lt; omega)); have HX5 := Lib.hid (HX3.out.below ((Below.refl _ _).drew.trans hb5) (Nat.le_refl _)); have HB5 := Lib.hid (HB3.out.drew.trans (hb5.mono HB3.out.size)); clear hb5)
            | (go_at_call 25; refine (place_any HR5.out).mono ?_; rintro e w6 ⟨rfl, hww⟩; obtain rfl := hww.symm)
            | (go_at_call 16; refine (HX5.out.bytes (by have := HTK.out; omega)).mono ?_; rintro e w6 ⟨v6, rfl, ho, hb6⟩; obtain ⟨ao6, cap6, rfl⟩ := own_slice ho; have HO6 := Lib.hid (own_has ho); have HB5 := Lib.hid (HB5.out.trans (hb6.mono HB5.out.size)); clear ho hb6)
            | (go_at_call 17; refine (same_any HO6.out ((HV.out.fr (Fr.of_below HB5.out (S := fun k => w.heap.size ≤ k) (fun _ _ h => h)) (fun k hk h => by omega)).head (q := s.pl) HPL.out)).mono ?_; rintro e w7 ⟨rfl, hww⟩; obtain rfl := hww.symm))
          refine wpAny_ready (rs := [24]) (by kernel_rfl) (by simp) ?_
          refine AllReady.cons rfl (fun K hK => ?_) AllReady.nil
          go_simp
          go_wp2_with (first
            | (go_at_call 11; refine (first_any _).mono ?_; rintro e w5 ⟨rfl, hb5⟩; have HR5 := Lib.hid (HR3.out.drew.fr (Fr.of_below hb5 (S := fun k => w3.heap.size ≤ k) (fun _ _ h => h)) (by have := HR3.out.lt; omega) (fun k hk h => by have := HR3.out.lt; omega)); have HX5 := Lib.hid (HX3.out.below ((Below.refl _ _).drew.trans hb5) (Nat.le_refl _)); have HB5 := Lib.hid (HB3.out.drew.trans (hb5.mono HB3.out.size)); clear hb5)
            | (go_at_call 25; refine (place_any HR5.out).mono ?_; rintro e w6 ⟨rfl, hww⟩; obtain rfl := hww.symm)
            | (go_at_call 16; refine (HX5.out.bytes (by have := HTK.out; omega)).mono ?_; rintro e w6 ⟨v6, rfl, ho, hb6⟩; obtain ⟨ao6, cap6, rfl⟩ := own_slice ho; have HO6 := Lib.hid (own_has ho); have HB5 := Lib.hid (HB5.out.trans (hb6.mono HB5.out.size)); clear ho hb6)
            | (go_at_call 17; refine (same_any HO6.out ((HV.out.fr (Fr.of_below HB5.out (S := fun k => w.heap.size ≤ k) (fun _ _ h => h)) (fun k hk h => by omega)).head (q := s.pl) HPL.out)).mono ?_; rintro e w7 ⟨rfl, hww⟩; obtain rfl := hww.symm))
          refine wpAny_take (i := 25) (v := ?v0_25) rfl (by kernel_rfl) (by kernel_rfl) (by kernel_rfl) (fun _ _ _ h => h) (Or.inl ⟨by rfl, ?y0_25⟩) ?r0_25
          case y0_25 => first | (intro W; go_simp; done) | (intro W; go_simp; with_reducible rfl)
          go_simp
          refine wpAny_take (i := 26) (v := ?v0_26) rfl (by kernel_rfl) (by kernel_rfl) (by kernel_rfl) (fun _ _ _ h => h) (Or.inl ⟨by rfl, ?y0_26⟩) ?r0_26
          case y0_26 => first | (intro W; go_simp; done) | (intro W; go_simp; with_reducible rfl)
          go_simp
          refine wpAny_done (by kernel_rfl) ?_ _
          all_goals go_wp2
          all_goals go_ret
          all_goals exact ⟨rfl, HB5.out⟩
      · have hag := again_flag (s := s) HS.out.2.1 (by rw [HS.out.1]; exact hpl)
        have HSB := Lib.hid HS.out.1
        rcases hag with hag | hag
        · have b1 : ((rFlag s).2.er != 0) = false := by rw [hag.2.1]; rfl
          have HA := Lib.hid hag
          clear hag
          go_wp2_with (first
            | (go_at_call 25; refine (place_any HR.out).mono ?_; rintro e w1 ⟨rfl, hww⟩; obtain rfl := hww.symm)
            | (go_at_call 27; refine (flag_any (HR.out.fr (fr_alloc wr _) id (fun _ _ => id))).mono ?_; rintro e w2 ⟨rfl, h2, f2⟩; have HR2 := Lib.hid h2; have hg2 := f2.heap (heap_alloc_new wr (.cells #[.int .i64 1, .int .i64 0, .bool false, .float .f64 0, .string ⟨#[]⟩] 30)) (fun e => by have := HR.out.lt; omega); have e0 := cell_in (o := 2) hg2 rfl; have ff0 := free_in hg2 2; have HG2 := Lib.hid hg2; have HF2 := Lib.hid (show Fr (fun k => k = r ∨ wr.heap.size ≤ k) wr w2 from ((Fr.refl _ wr).alloc _).trans f2 (fun _ _ h => .inl h)); clear h2 f2 hg2)
            | (go_at_call 24; refine (fault_any (HR2.out.fr (fr_set1 (p := wr.heap.size) w2 2 (.bool (rFlag s).1)) (by have := HR.out.lt; omega) (fun k hk h => by have := HR.out.lt; omega))).mono ?_; rintro e w3 ⟨rfl, h3, f3⟩; have hg3 := f3.heap (heap_setCell_self (o := 2) HG2.out (.bool (rFlag s).1)) (fun e => by have := HR.out.lt; omega); have cc0 := cell_in (o := 0) hg3 rfl; have cc1 := cell_in (o := 1) hg3 rfl; have cc2 := cell_in (o := 2) hg3 rfl; have cc3 := cell_in (o := 3) hg3 rfl; have cc4 := cell_in (o := 4) hg3 rfl; have HR3 := Lib.hid h3; have HF3 := Lib.hid (show Fr (fun k => k = r ∨ wr.heap.size ≤ k) wr w3 from (HF2.out.setCell (p := wr.heap.size) (o := 2) (fun h => .inr (Nat.le_refl _)) (.bool (rFlag s).1)).trans f3 (fun _ _ h => .inl h)); have HX3 := Lib.hid (HX.out.keepX HF3.out (by omega)); have HB3 := Lib.hid (HB.out.trans (HF3.out.below (B := w.heap.size) (fun i hi => by have := HP.out; have := HB.out.size; rcases hi with hi | hi <;> omega) HB.out.size)); clear h3 f3 hg3)
            | (go_at_call 14; refine (HX3.out.put1 ⟨1, 0, (rFlag s).1, 0, []⟩ ⟨by simp, by simp, by simp, by simp⟩ (by have := HTK.out; simp; omega)).mono ?_; rintro e w4 ⟨rfl, hx4, hb4⟩; have HX4 := Lib.hid hx4; have HR4 := Lib.hid (HR3.out.fr (Fr.of_below hb4 (S := fun k => r + 1 ≤ k) (fun _ _ h => h)) (by omega) (fun k hk h => by omega)); have HB4 := Lib.hid (HB3.out.trans (hb4.mono (by have := HP.out; omega))); clear hx4 hb4))
          refine ⟨⟨k + 1, _, by simp, by omega, HR4, ⟨HA.out.1.trans HSB.out, HA.out.2.1, HA.out.2.2.1.trans HS.out.2.2⟩, ?_, HB4⟩, by simp [intOf]; omega⟩
          have e := HA.out.2.2.2
          rw [HSB.out, ← HPE.out] at e
          rw [← e]
          exact HX4
        · have b1 : ((rFlag s).2.er != 0) = true := by rw [bne_iff_ne]; exact hag.2.1
          have HA := Lib.hid hag
          have b2 : (s.pl : Int) ≤ (((rFlag s).2.fp : Nat) : Int) := by have := hag.2.2.2.1; omega
          have b3 : (((rFlag s).2.fp : Nat) : Int) ≤ (xs.length : Int) := by have := hag.2.2.2.2; rw [HSB.out] at this; omega
          have b4 : (rFlag s).2.pl = s.pl := hag.2.2.1
          clear hag
          go_wp2_with (first
            | (go_at_call 25; refine (place_any HR.out).mono ?_; rintro e w1 ⟨rfl, hww⟩; obtain rfl := hww.symm)
            | (go_at_call 27; refine (flag_any (HR.out.fr (fr_alloc wr _) id (fun _ _ => id))).mono ?_; rintro e w2 ⟨rfl, h2, f2⟩; have HR2 := Lib.hid h2; have hg2 := f2.heap (heap_alloc_new wr (.cells #[.int .i64 1, .int .i64 0, .bool false, .float .f64 0, .string ⟨#[]⟩] 30)) (fun e => by have := HR.out.lt; omega); have e0 := cell_in (o := 2) hg2 rfl; have ff0 := free_in hg2 2; have HG2 := Lib.hid hg2; have HF2 := Lib.hid (show Fr (fun k => k = r ∨ wr.heap.size ≤ k) wr w2 from ((Fr.refl _ wr).alloc _).trans f2 (fun _ _ h => .inl h)); clear h2 f2 hg2)
            | (go_at_call 24; refine (fault_any (HR2.out.fr (fr_set1 (p := wr.heap.size) w2 2 (.bool (rFlag s).1)) (by have := HR.out.lt; omega) (fun k hk h => by have := HR.out.lt; omega))).mono ?_; rintro e w3 ⟨rfl, h3, f3⟩; have hg3 := f3.heap (heap_setCell_self (o := 2) HG2.out (.bool (rFlag s).1)) (fun e => by have := HR.out.lt; omega); have cc0 := cell_in (o := 0) hg3 rfl; have cc1 := cell_in (o := 1) hg3 rfl; have cc2 := cell_in (o := 2) hg3 rfl; have cc3 := cell_in (o := 3) hg3 rfl; have cc4 := cell_in (o := 4) hg3 rfl; have HR3 := Lib.hid h3; have HF3 := Lib.hid (show Fr (fun k => k = r ∨ wr.heap.size ≤ k) wr w3 from (HF2.out.setCell (p := wr.heap.size) (o := 2) (fun h => .inr (Nat.le_refl _)) (.bool (rFlag s).1)).trans f3 (fun _ _ h => .inl h)); have HX3 := Lib.hid (HX.out.keepX HF3.out (by omega)); have HB3 := Lib.hid (HB.out.trans (HF3.out.below (B := w.heap.size) (fun i hi => by have := HP.out; have := HB.out.size; rcases hi with hi | hi <;> omega) HB.out.size)); clear h3 f3 hg3))
          refine wp_region_any (by kernel_rfl) ?_
          change wpAny _ _ _ _ _ _ _ (World.drew _)
          refine wpAny_ready (rs := [0]) (by kernel_rfl) (by simp) ?_
          refine AllReady.cons rfl (fun K hK => ?_) AllReady.nil
          go_simp
          go_wp2_with (first
            | (go_at_call 11; refine (first_any _).mono ?_; rintro e w5 ⟨rfl, hb5⟩; have HR5 := Lib.hid (HR3.out.drew.fr (Fr.of_below hb5 (S := fun k => w3.heap.size ≤ k) (fun _ _ h => h)) (by have := HR3.out.lt; omega) (fun k hk h => by have := HR3.out.lt; omega)); have HX5 := Lib.hid (HX3.out.below ((Below.refl _ _).drew.trans hb5) (Nat.le_refl _)); have HB5 := Lib.hid (HB3.out.drew.trans (hb5.mono HB3.out.size)); clear hb5)
            | (go_at_call 25; refine (place_any HR5.out).mono ?_; rintro e w6 ⟨rfl, hww⟩; obtain rfl := hww.symm)
            | (go_at_call 16; refine (HX5.out.bytes (by have := HTK.out; omega)).mono ?_; rintro e w6 ⟨v6, rfl, ho, hb6⟩; obtain ⟨ao6, cap6, rfl⟩ := own_slice ho; have HO6 := Lib.hid (own_has ho); have HB5 := Lib.hid (HB5.out.trans (hb6.mono HB5.out.size)); clear ho hb6)
            | (go_at_call 17; refine (same_any HO6.out ((HV.out.fr (Fr.of_below HB5.out (S := fun k => w.heap.size ≤ k) (fun _ _ h => h)) (fun k hk h => by omega)).head (q := s.pl) HPL.out)).mono ?_; rintro e w7 ⟨rfl, hww⟩; obtain rfl := hww.symm))
          refine wpAny_take (i := 1) (v := ?v1_1) rfl (by kernel_rfl) (by kernel_rfl) (by kernel_rfl) (fun _ _ _ h => h) (Or.inl ⟨by rfl, ?y1_1⟩) ?r1_1
          case y1_1 => first | (intro W; go_simp; done) | (intro W; go_simp; with_reducible rfl)
          go_simp
          refine wpAny_take (i := 2) (v := ?v1_2) rfl (by kernel_rfl) (by kernel_rfl) (by kernel_rfl) (fun _ _ _ h => h) (Or.inl ⟨by rfl, ?y1_2⟩) ?r1_2
          case y1_2 => first | (intro W; go_simp; done) | (intro W; go_simp; with_reducible rfl)
          go_simp
          refine wpAny_take (i := 3) (v := ?v1_3) rfl (by kernel_rfl) (by kernel_rfl) (by kernel_rfl) (fun _ _ _ h => h) (Or.inl ⟨by rfl, ?y1_3⟩) ?r1_3
          case y1_3 => first | (intro W; go_simp; done) | (intro W; go_simp; with_reducible rfl)
          go_simp
          refine wpAny_take (i := 4) (v := ?v1_4) rfl (by kernel_rfl) (by kernel_rfl) (by kernel_rfl) (fun _ _ _ h => h) (Or.inl ⟨by rfl, ?y1_4⟩) ?r1_4
          case y1_4 => first | (intro W; go_simp; done) | (intro W; go_simp; with_reducible rfl)
          go_simp
          refine wpAny_take (i := 5) (v := ?v1_5) rfl (by kernel_rfl) (by kernel_rfl) (by kernel_rfl) (fun _ _ _ h => h) (Or.inl ⟨by rfl, ?y1_5⟩) ?r1_5
          case y1_5 => first | (intro W; go_simp; done) | (intro W; go_simp; with_reducible rfl)
          go_simp
          refine wpAny_take (i := 6) (v := ?v1_6) rfl (by kernel_rfl) (by kernel_rfl) (by kernel_rfl) (fun _ _ _ h => h) (Or.inl ⟨by rfl, ?y1_6⟩) ?r1_6
          case y1_6 => first | (intro W; go_simp; done) | (intro W; go_simp; with_reducible rfl)
          go_simp
          refine wpAny_take (i := 7) (v := ?v1_7) rfl (by kernel_rfl) (by kernel_rfl) (by kernel_rfl) (fun _ _ _ h => h) (Or.inl ⟨by rfl, ?y1_7⟩) ?r1_7
          case y1_7 => first | (intro W; go_simp; done) | (intro W; go_simp; with_reducible rfl)
          go_simp
          refine wpAny_take (i := 8) (v := ?v1_8) rfl (by kernel_rfl) (by kernel_rfl) (by kernel_rfl) (fun _ _ _ h => h) (Or.inl ⟨by rfl, ?y1_8⟩) ?r1_8
          case y1_8 => first | (intro W; go_simp; done) | (intro W; go_simp; with_reducible rfl)
          go_simp
          refine wpAny_take (i := 9) (v := ?v1_9) rfl (by kernel_rfl) (by kernel_rfl) (by kernel_rfl) (fun _ _ _ h => h) (Or.inl ⟨by rfl, ?y1_9⟩) ?r1_9
          case y1_9 => first | (intro W; go_simp; done) | (intro W; go_simp; with_reducible rfl)
          go_simp
          refine wpAny_take (i := 10) (v := ?v1_10) rfl (by kernel_rfl) (by kernel_rfl) (by kernel_rfl) (fun _ _ _ h => h) (Or.inl ⟨by rfl, ?y1_10⟩) ?r1_10
          case y1_10 => first | (intro W; go_simp; done) | (intro W; go_simp; with_reducible rfl)
          go_simp
          refine wpAny_take (i := 11) (v := ?v1_11) rfl (by kernel_rfl) (by kernel_rfl) (by kernel_rfl) (fun _ _ _ h => h) (Or.inl ⟨by rfl, ?y1_11⟩) ?r1_11
          case y1_11 => first | (intro W; go_simp; done) | (intro W; go_simp; with_reducible rfl)
          go_simp
          refine wpAny_take (i := 12) (v := ?v1_12) rfl (by kernel_rfl) (by kernel_rfl) (by kernel_rfl) (fun _ _ _ h => h) (Or.inl ⟨by rfl, ?y1_12⟩) ?r1_12
          case y1_12 => first | (intro W; go_simp; done) | (intro W; go_simp; with_reducible rfl)
          go_simp
          refine wpAny_take (i := 13) (v := ?v1_13) rfl (by kernel_rfl) (by kernel_rfl) (by kernel_rfl) (fun _ _ _ h => h) (Or.inl ⟨by rfl, ?y1_13⟩) ?r1_13
          case y1_13 => first | (intro W; go_simp; done) | (intro W; go_simp; with_reducible rfl)
          go_simp
          refine wpAny_take (i := 15) (v := ?v1_15) rfl (by kernel_rfl) (by kernel_rfl) (by kernel_rfl) (fun _ _ _ h => h) (Or.inl ⟨by rfl, ?y1_15⟩) ?r1_15
          case y1_15 => first | (intro W; go_simp; done) | (intro W; go_simp; with_reducible rfl)
          go_simp
          refine wpAny_ready (rs := [14]) (by kernel_rfl) (by simp) ?_
          refine AllReady.cons rfl (fun K hK => ?_) AllReady.nil
          go_simp
          go_wp2_with (first
            | (go_at_call 11; refine (first_any _).mono ?_; rintro e w5 ⟨rfl, hb5⟩; have HR5 := Lib.hid (HR3.out.drew.fr (Fr.of_below hb5 (S := fun k => w3.heap.size ≤ k) (fun _ _ h => h)) (by have := HR3.out.lt; omega) (fun k hk h => by have := HR3.out.lt; omega)); have HX5 := Lib.hid (HX3.out.below ((Below.refl _ _).drew.trans hb5) (Nat.le_refl _)); have HB5 := Lib.hid (HB3.out.drew.trans (hb5.mono HB3.out.size)); clear hb5)
            | (go_at_call 25; refine (place_any HR5.out).mono ?_; rintro e w6 ⟨rfl, hww⟩; obtain rfl := hww.symm)
            | (go_at_call 16; refine (HX5.out.bytes (by have := HTK.out; omega)).mono ?_; rintro e w6 ⟨v6, rfl, ho, hb6⟩; obtain ⟨ao6, cap6, rfl⟩ := own_slice ho; have HO6 := Lib.hid (own_has ho); have HB5 := Lib.hid (HB5.out.trans (hb6.mono HB5.out.size)); clear ho hb6)
            | (go_at_call 17; refine (same_any HO6.out ((HV.out.fr (Fr.of_below HB5.out (S := fun k => w.heap.size ≤ k) (fun _ _ h => h)) (fun k hk h => by omega)).head (q := s.pl) HPL.out)).mono ?_; rintro e w7 ⟨rfl, hww⟩; obtain rfl := hww.symm))
          refine wpAny_take (i := 16) (v := ?v1_16) rfl (by kernel_rfl) (by kernel_rfl) (by kernel_rfl) (fun _ _ _ h => h) (Or.inl ⟨by rfl, ?y1_16⟩) ?r1_16
          case y1_16 => first | (intro W; go_simp; done) | (intro W; go_simp; with_reducible rfl)
          go_simp
          refine wpAny_take (i := 17) (v := ?v1_17) rfl (by kernel_rfl) (by kernel_rfl) (by kernel_rfl) (fun _ _ _ h => h) (Or.inl ⟨by rfl, ?y1_17⟩) ?r1_17
          case y1_17 => first | (intro W; go_simp; done) | (intro W; go_simp; with_reducible rfl)
          go_simp
          refine wpAny_take (i := 18) (v := ?v1_18) rfl (by kernel_rfl) (by kernel_rfl) (by kernel_rfl) (fun _ _ _ h => h) (Or.inl ⟨by rfl, ?y1_18⟩) ?r1_18
          case y1_18 => first | (intro W; go_simp; done) | (intro W; go_simp; with_reducible rfl)
          go_simp
          refine wpAny_take (i := 19) (v := ?v1_19) rfl (by kernel_rfl) (by kernel_rfl) (by kernel_rfl) (fun _ _ _ h => h) (Or.inl ⟨by rfl, ?y1_19⟩) ?r1_19
          case y1_19 => first | (intro W; go_simp; done) | (intro W; go_simp; with_reducible rfl)
          go_simp
          refine wpAny_take (i := 21) (v := ?v1_21) rfl (by kernel_rfl) (by kernel_rfl) (by kernel_rfl) (fun _ _ _ h => h) (Or.inl ⟨by rfl, ?y1_21⟩) ?r1_21
          case y1_21 => first | (intro W; go_simp; done) | (intro W; go_simp; with_reducible rfl)
          go_simp
          refine wpAny_take (i := 22) (v := ?v1_22) rfl (by kernel_rfl) (by kernel_rfl) (by kernel_rfl) (fun _ _ _ h => h) (Or.inl ⟨by rfl, ?y1_22⟩) ?r1_22
          case y1_22 => first | (intro W; go_simp; done) | (intro W; go_simp; with_reducible rfl)
          go_simp
          refine wpAny_take (i := 23) (v := ?v1_23) rfl (by kernel_rfl) (by kernel_rfl) (by kernel_rfl) (fun _ _ _ h => h) (Or.inl ⟨by rfl, ?y1_23⟩) ?r1_23
          case y1_23 => first | (intro W; go_simp; done) | (intro W; go_simp; with_reducible rfl)
          go_simp
          refine wpAny_ready (rs := [20]) (by kernel_rfl) (by simp) ?_
          refine AllReady.cons rfl (fun K hK => ?_) AllReady.nil
          go_simp
          go_wp2_with (first
            | (go_at_call 11; refine (first_any _).mono ?_; rintro e w5 ⟨rfl, hb5⟩; have HR5 := Lib.hid (HR3.out.drew.fr (Fr.of_below hb5 (S := fun k => w3.heap.size ≤ k) (fun _ _ h => h)) (by have := HR3.out.lt; omega) (fun k hk h => by have := HR3.out.lt; omega)); have HX5 := Lib.hid (HX3.out.below ((Below.refl _ _).drew.trans hb5) (Nat.le_refl _)); have HB5 := Lib.hid (HB3.out.drew.trans (hb5.mono HB3.out.size)); clear hb5)
            | (go_at_call 25; refine (place_any HR5.out).mono ?_; rintro e w6 ⟨rfl, hww⟩; obtain rfl := hww.symm)
            | (go_at_call 16; refine (HX5.out.bytes (by have := HTK.out; omega)).mono ?_; rintro e w6 ⟨v6, rfl, ho, hb6⟩; obtain ⟨ao6, cap6, rfl⟩ := own_slice ho; have HO6 := Lib.hid (own_has ho); have HB5 := Lib.hid (HB5.out.trans (hb6.mono HB5.out.size)); clear ho hb6)
            | (go_at_call 17; refine (same_any HO6.out ((HV.out.fr (Fr.of_below HB5.out (S := fun k => w.heap.size ≤ k) (fun _ _ h => h)) (fun k hk h => by omega)).head (q := s.pl) HPL.out)).mono ?_; rintro e w7 ⟨rfl, hww⟩; obtain rfl := hww.symm))
          refine wpAny_ready (rs := [24]) (by kernel_rfl) (by simp) ?_
          refine AllReady.cons rfl (fun K hK => ?_) AllReady.nil
          go_simp
          go_wp2_with (first
            | (go_at_call 11; refine (first_any _).mono ?_; rintro e w5 ⟨rfl, hb5⟩; have HR5 := Lib.hid (HR3.out.drew.fr (Fr.of_below hb5 (S := fun k => w3.heap.size ≤ k) (fun _ _ h => h)) (by have := HR3.out.lt; omega) (fun k hk h => by have := HR3.out.lt; omega)); have HX5 := Lib.hid (HX3.out.below ((Below.refl _ _).drew.trans hb5) (Nat.le_refl _)); have HB5 := Lib.hid (HB3.out.drew.trans (hb5.mono HB3.out.size)); clear hb5)
            | (go_at_call 25; refine (place_any HR5.out).mono ?_; rintro e w6 ⟨rfl, hww⟩; obtain rfl := hww.symm)
            | (go_at_call 16; refine (HX5.out.bytes (by have := HTK.out; omega)).mono ?_; rintro e w6 ⟨v6, rfl, ho, hb6⟩; obtain ⟨ao6, cap6, rfl⟩ := own_slice ho; have HO6 := Lib.hid (own_has ho); have HB5 := Lib.hid (HB5.out.trans (hb6.mono HB5.out.size)); clear ho hb6)
            | (go_at_call 17; refine (same_any HO6.out ((HV.out.fr (Fr.of_below HB5.out (S := fun k => w.heap.size ≤ k) (fun _ _ h => h)) (fun k hk h => by omega)).head (q := s.pl) HPL.out)).mono ?_; rintro e w7 ⟨rfl, hww⟩; obtain rfl := hww.symm))
          refine wpAny_take (i := 25) (v := ?v1_25) rfl (by kernel_rfl) (by kernel_rfl) (by kernel_rfl) (fun _ _ _ h => h) (Or.inl ⟨by rfl, ?y1_25⟩) ?r1_25
          case y1_25 => first | (intro W; go_simp; done) | (intro W; go_simp; with_reducible rfl)
          go_simp
          refine wpAny_take (i := 26) (v := ?v1_26) rfl (by kernel_rfl) (by kernel_rfl) (by kernel_rfl) (fun _ _ _ h => h) (Or.inl ⟨by rfl, ?y1_26⟩) ?r1_26
          case y1_26 => first | (intro W; go_simp; done) | (intro W; go_simp; with_reducible rfl)
          go_simp
          refine wpAny_done (by kernel_rfl) ?_ _
          all_goals go_wp2
          all_goals go_ret
          all_goals exact ⟨rfl, HB5.out⟩
      · have hag := again_float (s := s) HS.out.2.1 (by rw [HS.out.1]; exact hpl)
        have HSB := Lib.hid HS.out.1
        obtain ⟨hag, hbd⟩ := hag
        rcases hag with hag | hag
        · have b1 : ((rFloat s).2.er != 0) = false := by rw [hag.2.1]; rfl
          have HA := Lib.hid hag
          clear hag
          go_wp2_with (first
            | (go_at_call 25; refine (place_any HR.out).mono ?_; rintro e w1 ⟨rfl, hww⟩; obtain rfl := hww.symm)
            | (go_at_call 28; refine (float_any (HR.out.fr (fr_alloc wr _) id (fun _ _ => id))).mono ?_; rintro e w2 ⟨rfl, h2, f2⟩; have HR2 := Lib.hid h2; have hg2 := f2.heap (heap_alloc_new wr (.cells #[.int .i64 2, .int .i64 0, .bool false, .float .f64 0, .string ⟨#[]⟩] 30)) (fun e => by have := HR.out.lt; omega); have e0 := cell_in (o := 3) hg2 rfl; have ff0 := free_in hg2 3; have HG2 := Lib.hid hg2; have HF2 := Lib.hid (show Fr (fun k => k = r ∨ wr.heap.size ≤ k) wr w2 from ((Fr.refl _ wr).alloc _).trans f2 (fun _ _ h => .inl h)); clear h2 f2 hg2)
            | (go_at_call 24; refine (fault_any (HR2.out.fr (fr_set1 (p := wr.heap.size) w2 3 (.float .f64 (rFloat s).1)) (by have := HR.out.lt; omega) (fun k hk h => by have := HR.out.lt; omega))).mono ?_; rintro e w3 ⟨rfl, h3, f3⟩; have hg3 := f3.heap (heap_setCell_self (o := 3) HG2.out (.float .f64 (rFloat s).1)) (fun e => by have := HR.out.lt; omega); have cc0 := cell_in (o := 0) hg3 rfl; have cc1 := cell_in (o := 1) hg3 rfl; have cc2 := cell_in (o := 2) hg3 rfl; have cc3 := cell_in (o := 3) hg3 rfl; have cc4 := cell_in (o := 4) hg3 rfl; have HR3 := Lib.hid h3; have HF3 := Lib.hid (show Fr (fun k => k = r ∨ wr.heap.size ≤ k) wr w3 from (HF2.out.setCell (p := wr.heap.size) (o := 3) (fun h => .inr (Nat.le_refl _)) (.float .f64 (rFloat s).1)).trans f3 (fun _ _ h => .inl h)); have HX3 := Lib.hid (HX.out.keepX HF3.out (by omega)); have HB3 := Lib.hid (HB.out.trans (HF3.out.below (B := w.heap.size) (fun i hi => by have := HP.out; have := HB.out.size; rcases hi with hi | hi <;> omega) HB.out.size)); clear h3 f3 hg3)
            | (go_at_call 14; refine (HX3.out.put1 ⟨2, 0, false, (rFloat s).1, []⟩ ⟨by simp, by simp, hbd, by simp⟩ (by have := HTK.out; simp; omega)).mono ?_; rintro e w4 ⟨rfl, hx4, hb4⟩; have HX4 := Lib.hid hx4; have HR4 := Lib.hid (HR3.out.fr (Fr.of_below hb4 (S := fun k => r + 1 ≤ k) (fun _ _ h => h)) (by omega) (fun k hk h => by omega)); have HB4 := Lib.hid (HB3.out.trans (hb4.mono (by have := HP.out; omega))); clear hx4 hb4))
          refine ⟨⟨k + 1, _, by simp, by omega, HR4, ⟨HA.out.1.trans HSB.out, HA.out.2.1, HA.out.2.2.1.trans HS.out.2.2⟩, ?_, HB4⟩, by simp [intOf]; omega⟩
          have e := HA.out.2.2.2
          rw [HSB.out, ← HPE.out] at e
          rw [← e]
          exact HX4
        · have b1 : ((rFloat s).2.er != 0) = true := by rw [bne_iff_ne]; exact hag.2.1
          have HA := Lib.hid hag
          have b2 : (s.pl : Int) ≤ (((rFloat s).2.fp : Nat) : Int) := by have := hag.2.2.2.1; omega
          have b3 : (((rFloat s).2.fp : Nat) : Int) ≤ (xs.length : Int) := by have := hag.2.2.2.2; rw [HSB.out] at this; omega
          have b4 : (rFloat s).2.pl = s.pl := hag.2.2.1
          clear hag
          go_wp2_with (first
            | (go_at_call 25; refine (place_any HR.out).mono ?_; rintro e w1 ⟨rfl, hww⟩; obtain rfl := hww.symm)
            | (go_at_call 28; refine (float_any (HR.out.fr (fr_alloc wr _) id (fun _ _ => id))).mono ?_; rintro e w2 ⟨rfl, h2, f2⟩; have HR2 := Lib.hid h2; have hg2 := f2.heap (heap_alloc_new wr (.cells #[.int .i64 2, .int .i64 0, .bool false, .float .f64 0, .string ⟨#[]⟩] 30)) (fun e => by have := HR.out.lt; omega); have e0 := cell_in (o := 3) hg2 rfl; have ff0 := free_in hg2 3; have HG2 := Lib.hid hg2; have HF2 := Lib.hid (show Fr (fun k => k = r ∨ wr.heap.size ≤ k) wr w2 from ((Fr.refl _ wr).alloc _).trans f2 (fun _ _ h => .inl h)); clear h2 f2 hg2)
            | (go_at_call 24; refine (fault_any (HR2.out.fr (fr_set1 (p := wr.heap.size) w2 3 (.float .f64 (rFloat s).1)) (by have := HR.out.lt; omega) (fun k hk h => by have := HR.out.lt; omega))).mono ?_; rintro e w3 ⟨rfl, h3, f3⟩; have hg3 := f3.heap (heap_setCell_self (o := 3) HG2.out (.float .f64 (rFloat s).1)) (fun e => by have := HR.out.lt; omega); have cc0 := cell_in (o := 0) hg3 rfl; have cc1 := cell_in (o := 1) hg3 rfl; have cc2 := cell_in (o := 2) hg3 rfl; have cc3 := cell_in (o := 3) hg3 rfl; have cc4 := cell_in (o := 4) hg3 rfl; have HR3 := Lib.hid h3; have HF3 := Lib.hid (show Fr (fun k => k = r ∨ wr.heap.size ≤ k) wr w3 from (HF2.out.setCell (p := wr.heap.size) (o := 3) (fun h => .inr (Nat.le_refl _)) (.float .f64 (rFloat s).1)).trans f3 (fun _ _ h => .inl h)); have HX3 := Lib.hid (HX.out.keepX HF3.out (by omega)); have HB3 := Lib.hid (HB.out.trans (HF3.out.below (B := w.heap.size) (fun i hi => by have := HP.out; have := HB.out.size; rcases hi with hi | hi <;> omega) HB.out.size)); clear h3 f3 hg3))
          refine wp_region_any (by kernel_rfl) ?_
          change wpAny _ _ _ _ _ _ _ (World.drew _)
          refine wpAny_ready (rs := [0]) (by kernel_rfl) (by simp) ?_
          refine AllReady.cons rfl (fun K hK => ?_) AllReady.nil
          go_simp
          go_wp2_with (first
            | (go_at_call 11; refine (first_any _).mono ?_; rintro e w5 ⟨rfl, hb5⟩; have HR5 := Lib.hid (HR3.out.drew.fr (Fr.of_below hb5 (S := fun k => w3.heap.size ≤ k) (fun _ _ h => h)) (by have := HR3.out.lt; omega) (fun k hk h => by have := HR3.out.lt; omega)); have HX5 := Lib.hid (HX3.out.below ((Below.refl _ _).drew.trans hb5) (Nat.le_refl _)); have HB5 := Lib.hid (HB3.out.drew.trans (hb5.mono HB3.out.size)); clear hb5)
            | (go_at_call 25; refine (place_any HR5.out).mono ?_; rintro e w6 ⟨rfl, hww⟩; obtain rfl := hww.symm)
            | (go_at_call 16; refine (HX5.out.bytes (by have := HTK.out; omega)).mono ?_; rintro e w6 ⟨v6, rfl, ho, hb6⟩; obtain ⟨ao6, cap6, rfl⟩ := own_slice ho; have HO6 := Lib.hid (own_has ho); have HB5 := Lib.hid (HB5.out.trans (hb6.mono HB5.out.size)); clear ho hb6)
            | (go_at_call 17; refine (same_any HO6.out ((HV.out.fr (Fr.of_below HB5.out (S := fun k => w.heap.size ≤ k) (fun _ _ h => h)) (fun k hk h => by omega)).head (q := s.pl) HPL.out)).mono ?_; rintro e w7 ⟨rfl, hww⟩; obtain rfl := hww.symm))
          refine wpAny_take (i := 1) (v := ?v2_1) rfl (by kernel_rfl) (by kernel_rfl) (by kernel_rfl) (fun _ _ _ h => h) (Or.inl ⟨by rfl, ?y2_1⟩) ?r2_1
          case y2_1 => first | (intro W; go_simp; done) | (intro W; go_simp; with_reducible rfl)
          go_simp
          refine wpAny_take (i := 2) (v := ?v2_2) rfl (by kernel_rfl) (by kernel_rfl) (by kernel_rfl) (fun _ _ _ h => h) (Or.inl ⟨by rfl, ?y2_2⟩) ?r2_2
          case y2_2 => first | (intro W; go_simp; done) | (intro W; go_simp; with_reducible rfl)
          go_simp
          refine wpAny_take (i := 3) (v := ?v2_3) rfl (by kernel_rfl) (by kernel_rfl) (by kernel_rfl) (fun _ _ _ h => h) (Or.inl ⟨by rfl, ?y2_3⟩) ?r2_3
          case y2_3 => first | (intro W; go_simp; done) | (intro W; go_simp; with_reducible rfl)
          go_simp
          refine wpAny_take (i := 4) (v := ?v2_4) rfl (by kernel_rfl) (by kernel_rfl) (by kernel_rfl) (fun _ _ _ h => h) (Or.inl ⟨by rfl, ?y2_4⟩) ?r2_4
          case y2_4 => first | (intro W; go_simp; done) | (intro W; go_simp; with_reducible rfl)
          go_simp
          refine wpAny_take (i := 5) (v := ?v2_5) rfl (by kernel_rfl) (by kernel_rfl) (by kernel_rfl) (fun _ _ _ h => h) (Or.inl ⟨by rfl, ?y2_5⟩) ?r2_5
          case y2_5 => first | (intro W; go_simp; done) | (intro W; go_simp; with_reducible rfl)
          go_simp
          refine wpAny_take (i := 6) (v := ?v2_6) rfl (by kernel_rfl) (by kernel_rfl) (by kernel_rfl) (fun _ _ _ h => h) (Or.inl ⟨by rfl, ?y2_6⟩) ?r2_6
          case y2_6 => first | (intro W; go_simp; done) | (intro W; go_simp; with_reducible rfl)
          go_simp
          refine wpAny_take (i := 7) (v := ?v2_7) rfl (by kernel_rfl) (by kernel_rfl) (by kernel_rfl) (fun _ _ _ h => h) (Or.inl ⟨by rfl, ?y2_7⟩) ?r2_7
          case y2_7 => first | (intro W; go_simp; done) | (intro W; go_simp; with_reducible rfl)
          go_simp
          refine wpAny_take (i := 8) (v := ?v2_8) rfl (by kernel_rfl) (by kernel_rfl) (by kernel_rfl) (fun _ _ _ h => h) (Or.inl ⟨by rfl, ?y2_8⟩) ?r2_8
          case y2_8 => first | (intro W; go_simp; done) | (intro W; go_simp; with_reducible rfl)
          go_simp
          refine wpAny_take (i := 9) (v := ?v2_9) rfl (by kernel_rfl) (by kernel_rfl) (by kernel_rfl) (fun _ _ _ h => h) (Or.inl ⟨by rfl, ?y2_9⟩) ?r2_9
          case y2_9 => first | (intro W; go_simp; done) | (intro W; go_simp; with_reducible rfl)
          go_simp
          refine wpAny_take (i := 10) (v := ?v2_10) rfl (by kernel_rfl) (by kernel_rfl) (by kernel_rfl) (fun _ _ _ h => h) (Or.inl ⟨by rfl, ?y2_10⟩) ?r2_10
          case y2_10 => first | (intro W; go_simp; done) | (intro W; go_simp; with_reducible rfl)
          go_simp
          refine wpAny_take (i := 11) (v := ?v2_11) rfl (by kernel_rfl) (by kernel_rfl) (by kernel_rfl) (fun _ _ _ h => h) (Or.inl ⟨by rfl, ?y2_11⟩) ?r2_11
          case y2_11 => first | (intro W; go_simp; done) | (intro W; go_simp; with_reducible rfl)
          go_simp
          refine wpAny_take (i := 12) (v := ?v2_12) rfl (by kernel_rfl) (by kernel_rfl) (by kernel_rfl) (fun _ _ _ h => h) (Or.inl ⟨by rfl, ?y2_12⟩) ?r2_12
          case y2_12 => first | (intro W; go_simp; done) | (intro W; go_simp; with_reducible rfl)
          go_simp
          refine wpAny_take (i := 13) (v := ?v2_13) rfl (by kernel_rfl) (by kernel_rfl) (by kernel_rfl) (fun _ _ _ h => h) (Or.inl ⟨by rfl, ?y2_13⟩) ?r2_13
          case y2_13 => first | (intro W; go_simp; done) | (intro W; go_simp; with_reducible rfl)
          go_simp
          refine wpAny_take (i := 15) (v := ?v2_15) rfl (by kernel_rfl) (by kernel_rfl) (by kernel_rfl) (fun _ _ _ h => h) (Or.inl ⟨by rfl, ?y2_15⟩) ?r2_15
          case y2_15 => first | (intro W; go_simp; done) | (intro W; go_simp; with_reducible rfl)
          go_simp
          refine wpAny_ready (rs := [14]) (by kernel_rfl) (by simp) ?_
          refine AllReady.cons rfl (fun K hK => ?_) AllReady.nil
          go_simp
          go_wp2_with (first
            | (go_at_call 11; refine (first_any _).mono ?_; rintro e w5 ⟨rfl, hb5⟩; have HR5 := Lib.hid (HR3.out.drew.fr (Fr.of_below hb5 (S := fun k => w3.heap.size ≤ k) (fun _ _ h => h)) (by have := HR3.out.lt; omega) (fun k hk h => by have := HR3.out.lt; omega)); have HX5 := Lib.hid (HX3.out.below ((Below.refl _ _).drew.trans hb5) (Nat.le_refl _)); have HB5 := Lib.hid (HB3.out.drew.trans (hb5.mono HB3.out.size)); clear hb5)
            | (go_at_call 25; refine (place_any HR5.out).mono ?_; rintro e w6 ⟨rfl, hww⟩; obtain rfl := hww.symm)
            | (go_at_call 16; refine (HX5.out.bytes (by have := HTK.out; omega)).mono ?_; rintro e w6 ⟨v6, rfl, ho, hb6⟩; obtain ⟨ao6, cap6, rfl⟩ := own_slice ho; have HO6 := Lib.hid (own_has ho); have HB5 := Lib.hid (HB5.out.trans (hb6.mono HB5.out.size)); clear ho hb6)
            | (go_at_call 17; refine (same_any HO6.out ((HV.out.fr (Fr.of_below HB5.out (S := fun k => w.heap.size ≤ k) (fun _ _ h => h)) (fun k hk h => by omega)).head (q := s.pl) HPL.out)).mono ?_; rintro e w7 ⟨rfl, hww⟩; obtain rfl := hww.symm))
          refine wpAny_take (i := 16) (v := ?v2_16) rfl (by kernel_rfl) (by kernel_rfl) (by kernel_rfl) (fun _ _ _ h => h) (Or.inl ⟨by rfl, ?y2_16⟩) ?r2_16
          case y2_16 => first | (intro W; go_simp; done) | (intro W; go_simp; with_reducible rfl)
          go_simp
          refine wpAny_take (i := 17) (v := ?v2_17) rfl (by kernel_rfl) (by kernel_rfl) (by kernel_rfl) (fun _ _ _ h => h) (Or.inl ⟨by rfl, ?y2_17⟩) ?r2_17
          case y2_17 => first | (intro W; go_simp; done) | (intro W; go_simp; with_reducible rfl)
          go_simp
          refine wpAny_take (i := 18) (v := ?v2_18) rfl (by kernel_rfl) (by kernel_rfl) (by kernel_rfl) (fun _ _ _ h => h) (Or.inl ⟨by rfl, ?y2_18⟩) ?r2_18
          case y2_18 => first | (intro W; go_simp; done) | (intro W; go_simp; with_reducible rfl)
          go_simp
          refine wpAny_take (i := 19) (v := ?v2_19) rfl (by kernel_rfl) (by kernel_rfl) (by kernel_rfl) (fun _ _ _ h => h) (Or.inl ⟨by rfl, ?y2_19⟩) ?r2_19
          case y2_19 => first | (intro W; go_simp; done) | (intro W; go_simp; with_reducible rfl)
          go_simp
          refine wpAny_take (i := 21) (v := ?v2_21) rfl (by kernel_rfl) (by kernel_rfl) (by kernel_rfl) (fun _ _ _ h => h) (Or.inl ⟨by rfl, ?y2_21⟩) ?r2_21
          case y2_21 => first | (intro W; go_simp; done) | (intro W; go_simp; with_reducible rfl)
          go_simp
          refine wpAny_take (i := 22) (v := ?v2_22) rfl (by kernel_rfl) (by kernel_rfl) (by kernel_rfl) (fun _ _ _ h => h) (Or.inl ⟨by rfl, ?y2_22⟩) ?r2_22
          case y2_22 => first | (intro W; go_simp; done) | (intro W; go_simp; with_reducible rfl)
          go_simp
          refine wpAny_take (i := 23) (v := ?v2_23) rfl (by kernel_rfl) (by kernel_rfl) (by kernel_rfl) (fun _ _ _ h => h) (Or.inl ⟨by rfl, ?y2_23⟩) ?r2_23
          case y2_23 => first | (intro W; go_simp; done) | (intro W; go_simp; with_reducible rfl)
          go_simp
          refine wpAny_ready (rs := [20]) (by kernel_rfl) (by simp) ?_
          refine AllReady.cons rfl (fun K hK => ?_) AllReady.nil
          go_simp
          go_wp2_with (first
            | (go_at_call 11; refine (first_any _).mono ?_; rintro e w5 ⟨rfl, hb5⟩; have HR5 := Lib.hid (HR3.out.drew.fr (Fr.of_below hb5 (S := fun k => w3.heap.size ≤ k) (fun _ _ h => h)) (by have := HR3.out.lt; omega) (fun k hk h => by have := HR3.out.lt; omega)); have HX5 := Lib.hid (HX3.out.below ((Below.refl _ _).drew.trans hb5) (Nat.le_refl _)); have HB5 := Lib.hid (HB3.out.drew.trans (hb5.mono HB3.out.size)); clear hb5)
            | (go_at_call 25; refine (place_any HR5.out).mono ?_; rintro e w6 ⟨rfl, hww⟩; obtain rfl := hww.symm)
            | (go_at_call 16; refine (HX5.out.bytes (by have := HTK.out; omega)).mono ?_; rintro e w6 ⟨v6, rfl, ho, hb6⟩; obtain ⟨ao6, cap6, rfl⟩ := own_slice ho; have HO6 := Lib.hid (own_has ho); have HB5 := Lib.hid (HB5.out.trans (hb6.mono HB5.out.size)); clear ho hb6)
            | (go_at_call 17; refine (same_any HO6.out ((HV.out.fr (Fr.of_below HB5.out (S := fun k => w.heap.size ≤ k) (fun _ _ h => h)) (fun k hk h => by omega)).head (q := s.pl) HPL.out)).mono ?_; rintro e w7 ⟨rfl, hww⟩; obtain rfl := hww.symm))
          refine wpAny_ready (rs := [24]) (by kernel_rfl) (by simp) ?_
          refine AllReady.cons rfl (fun K hK => ?_) AllReady.nil
          go_simp
          go_wp2_with (first
            | (go_at_call 11; refine (first_any _).mono ?_; rintro e w5 ⟨rfl, hb5⟩; have HR5 := Lib.hid (HR3.out.drew.fr (Fr.of_below hb5 (S := fun k => w3.heap.size ≤ k) (fun _ _ h => h)) (by have := HR3.out.lt; omega) (fun k hk h => by have := HR3.out.lt; omega)); have HX5 := Lib.hid (HX3.out.below ((Below.refl _ _).drew.trans hb5) (Nat.le_refl _)); have HB5 := Lib.hid (HB3.out.drew.trans (hb5.mono HB3.out.size)); clear hb5)
            | (go_at_call 25; refine (place_any HR5.out).mono ?_; rintro e w6 ⟨rfl, hww⟩; obtain rfl := hww.symm)
            | (go_at_call 16; refine (HX5.out.bytes (by have := HTK.out; omega)).mono ?_; rintro e w6 ⟨v6, rfl, ho, hb6⟩; obtain ⟨ao6, cap6, rfl⟩ := own_slice ho; have HO6 := Lib.hid (own_has ho); have HB5 := Lib.hid (HB5.out.trans (hb6.mono HB5.out.size)); clear ho hb6)
            | (go_at_call 17; refine (same_any HO6.out ((HV.out.fr (Fr.of_below HB5.out (S := fun k => w.heap.size ≤ k) (fun _ _ h => h)) (fun k hk h => by omega)).head (q := s.pl) HPL.out)).mono ?_; rintro e w7 ⟨rfl, hww⟩; obtain rfl := hww.symm))
          refine wpAny_take (i := 25) (v := ?v2_25) rfl (by kernel_rfl) (by kernel_rfl) (by kernel_rfl) (fun _ _ _ h => h) (Or.inl ⟨by rfl, ?y2_25⟩) ?r2_25
          case y2_25 => first | (intro W; go_simp; done) | (intro W; go_simp; with_reducible rfl)
          go_simp
          refine wpAny_take (i := 26) (v := ?v2_26) rfl (by kernel_rfl) (by kernel_rfl) (by kernel_rfl) (fun _ _ _ h => h) (Or.inl ⟨by rfl, ?y2_26⟩) ?r2_26
          case y2_26 => first | (intro W; go_simp; done) | (intro W; go_simp; with_reducible rfl)
          go_simp
          refine wpAny_done (by kernel_rfl) ?_ _
          all_goals go_wp2
          all_goals go_ret
          all_goals exact ⟨rfl, HB5.out⟩
      · have hag := again_text (s := s) HS.out.2.1 (by rw [HS.out.1]; exact hpl) 20000
        have HSB := Lib.hid HS.out.1
        obtain ⟨hag, hbd⟩ := hag
        rcases hag with hag | hag
        · have b1 : ((rText 20000 s).2.er != 0) = false := by rw [hag.2.1]; rfl
          have HA := Lib.hid hag
          clear hag
          go_wp2_with (first
            | (go_at_call 25; refine (place_any HR.out).mono ?_; rintro e w1 ⟨rfl, hww⟩; obtain rfl := hww.symm)
            | (go_at_call 29; refine (text_any (HR.out.fr (fr_alloc wr _) id (fun _ _ => id)) 20000).mono ?_; rintro e w2 ⟨rfl, h2, f2⟩; have HR2 := Lib.hid h2; have hg2 := f2.heap (heap_alloc_new wr (.cells #[.int .i64 3, .int .i64 0, .bool false, .float .f64 0, .string ⟨#[]⟩] 30)) (fun e => by have := HR.out.lt; omega); have e0 := cell_in (o := 4) hg2 rfl; have ff0 := free_in hg2 4; have HG2 := Lib.hid hg2; have HF2 := Lib.hid (show Fr (fun k => k = r ∨ wr.heap.size ≤ k) wr w2 from ((Fr.refl _ wr).alloc _).trans f2 (fun _ _ h => .inl h)); clear h2 f2 hg2)
            | (go_at_call 24; refine (fault_any (HR2.out.fr (fr_set1 (p := wr.heap.size) w2 4 (.string ⟨(rText 20000 s).1.toArray⟩)) (by have := HR.out.lt; omega) (fun k hk h => by have := HR.out.lt; omega))).mono ?_; rintro e w3 ⟨rfl, h3, f3⟩; have hg3 := f3.heap (heap_setCell_self (o := 4) HG2.out (.string ⟨(rText 20000 s).1.toArray⟩)) (fun e => by have := HR.out.lt; omega); have cc0 := cell_in (o := 0) hg3 rfl; have cc1 := cell_in (o := 1) hg3 rfl; have cc2 := cell_in (o := 2) hg3 rfl; have cc3 := cell_in (o := 3) hg3 rfl; have cc4 := cell_in (o := 4) hg3 rfl; have HR3 := Lib.hid h3; have HF3 := Lib.hid (show Fr (fun k => k = r ∨ wr.heap.size ≤ k) wr w3 from (HF2.out.setCell (p := wr.heap.size) (o := 4) (fun h => .inr (Nat.le_refl _)) (.string ⟨(rText 20000 s).1.toArray⟩)).trans f3 (fun _ _ h => .inl h)); have HX3 := Lib.hid (HX.out.keepX HF3.out (by omega)); have HB3 := Lib.hid (HB.out.trans (HF3.out.below (B := w.heap.size) (fun i hi => by have := HP.out; have := HB.out.size; rcases hi with hi | hi <;> omega) HB.out.size)); clear h3 f3 hg3)
            | (go_at_call 14; refine (HX3.out.put1 ⟨3, 0, false, 0, (rText 20000 s).1⟩ ⟨by simp, by simp, by simp, by simp only; rw [HSB.out] at hbd; omega⟩ (by have := HTK.out; have := hbd; rw [HSB.out] at this; simp only; omega)).mono ?_; rintro e w4 ⟨rfl, hx4, hb4⟩; have HX4 := Lib.hid hx4; have HR4 := Lib.hid (HR3.out.fr (Fr.of_below hb4 (S := fun k => r + 1 ≤ k) (fun _ _ h => h)) (by omega) (fun k hk h => by omega)); have HB4 := Lib.hid (HB3.out.trans (hb4.mono (by have := HP.out; omega))); clear hx4 hb4))
          refine ⟨⟨k + 1, _, by simp, by omega, HR4, ⟨HA.out.1.trans HSB.out, HA.out.2.1, HA.out.2.2.1.trans HS.out.2.2⟩, ?_, HB4⟩, by simp [intOf]; omega⟩
          have e := HA.out.2.2.2
          rw [HSB.out, ← HPE.out] at e
          rw [← e]
          exact HX4
        · have b1 : ((rText 20000 s).2.er != 0) = true := by rw [bne_iff_ne]; exact hag.2.1
          have HA := Lib.hid hag
          have b2 : (s.pl : Int) ≤ (((rText 20000 s).2.fp : Nat) : Int) := by have := hag.2.2.2.1; omega
          have b3 : (((rText 20000 s).2.fp : Nat) : Int) ≤ (xs.length : Int) := by have := hag.2.2.2.2; rw [HSB.out] at this; omega
          have b4 : (rText 20000 s).2.pl = s.pl := hag.2.2.1
          clear hag
          go_wp2_with (first
            | (go_at_call 25; refine (place_any HR.out).mono ?_; rintro e w1 ⟨rfl, hww⟩; obtain rfl := hww.symm)
            | (go_at_call 29; refine (text_any (HR.out.fr (fr_alloc wr _) id (fun _ _ => id)) 20000).mono ?_; rintro e w2 ⟨rfl, h2, f2⟩; have HR2 := Lib.hid h2; have hg2 := f2.heap (heap_alloc_new wr (.cells #[.int .i64 3, .int .i64 0, .bool false, .float .f64 0, .string ⟨#[]⟩] 30)) (fun e => by have := HR.out.lt; omega); have e0 := cell_in (o := 4) hg2 rfl; have ff0 := free_in hg2 4; have HG2 := Lib.hid hg2; have HF2 := Lib.hid (show Fr (fun k => k = r ∨ wr.heap.size ≤ k) wr w2 from ((Fr.refl _ wr).alloc _).trans f2 (fun _ _ h => .inl h)); clear h2 f2 hg2)
            | (go_at_call 24; refine (fault_any (HR2.out.fr (fr_set1 (p := wr.heap.size) w2 4 (.string ⟨(rText 20000 s).1.toArray⟩)) (by have := HR.out.lt; omega) (fun k hk h => by have := HR.out.lt; omega))).mono ?_; rintro e w3 ⟨rfl, h3, f3⟩; have hg3 := f3.heap (heap_setCell_self (o := 4) HG2.out (.string ⟨(rText 20000 s).1.toArray⟩)) (fun e => by have := HR.out.lt; omega); have cc0 := cell_in (o := 0) hg3 rfl; have cc1 := cell_in (o := 1) hg3 rfl; have cc2 := cell_in (o := 2) hg3 rfl; have cc3 := cell_in (o := 3) hg3 rfl; have cc4 := cell_in (o := 4) hg3 rfl; have HR3 := Lib.hid h3; have HF3 := Lib.hid (show Fr (fun k => k = r ∨ wr.heap.size ≤ k) wr w3 from (HF2.out.setCell (p := wr.heap.size) (o := 4) (fun h => .inr (Nat.le_refl _)) (.string ⟨(rText 20000 s).1.toArray⟩)).trans f3 (fun _ _ h => .inl h)); have HX3 := Lib.hid (HX.out.keepX HF3.out (by omega)); have HB3 := Lib.hid (HB.out.trans (HF3.out.below (B := w.heap.size) (fun i hi => by have := HP.out; have := HB.out.size; rcases hi with hi | hi <;> omega) HB.out.size)); clear h3 f3 hg3))
          refine wp_region_any (by kernel_rfl) ?_
          change wpAny _ _ _ _ _ _ _ (World.drew _)
          refine wpAny_ready (rs := [0]) (by kernel_rfl) (by simp) ?_
          refine AllReady.cons rfl (fun K hK => ?_) AllReady.nil
          go_simp
          go_wp2_with (first
            | (go_at_call 11; refine (first_any _).mono ?_; rintro e w5 ⟨rfl, hb5⟩; have HR5 := Lib.hid (HR3.out.drew.fr (Fr.of_below hb5 (S := fun k => w3.heap.size ≤ k) (fun _ _ h => h)) (by have := HR3.out.lt; omega) (fun k hk h => by have := HR3.out.lt; omega)); have HX5 := Lib.hid (HX3.out.below ((Below.refl _ _).drew.trans hb5) (Nat.le_refl _)); have HB5 := Lib.hid (HB3.out.drew.trans (hb5.mono HB3.out.size)); clear hb5)
            | (go_at_call 25; refine (place_any HR5.out).mono ?_; rintro e w6 ⟨rfl, hww⟩; obtain rfl := hww.symm)
            | (go_at_call 16; refine (HX5.out.bytes (by have := HTK.out; omega)).mono ?_; rintro e w6 ⟨v6, rfl, ho, hb6⟩; obtain ⟨ao6, cap6, rfl⟩ := own_slice ho; have HO6 := Lib.hid (own_has ho); have HB5 := Lib.hid (HB5.out.trans (hb6.mono HB5.out.size)); clear ho hb6)
            | (go_at_call 17; refine (same_any HO6.out ((HV.out.fr (Fr.of_below HB5.out (S := fun k => w.heap.size ≤ k) (fun _ _ h => h)) (fun k hk h => by omega)).head (q := s.pl) HPL.out)).mono ?_; rintro e w7 ⟨rfl, hww⟩; obtain rfl := hww.symm))
          refine wpAny_take (i := 1) (v := ?v3_1) rfl (by kernel_rfl) (by kernel_rfl) (by kernel_rfl) (fun _ _ _ h => h) (Or.inl ⟨by rfl, ?y3_1⟩) ?r3_1
          case y3_1 => first | (intro W; go_simp; done) | (intro W; go_simp; with_reducible rfl)
          go_simp
          refine wpAny_take (i := 2) (v := ?v3_2) rfl (by kernel_rfl) (by kernel_rfl) (by kernel_rfl) (fun _ _ _ h => h) (Or.inl ⟨by rfl, ?y3_2⟩) ?r3_2
          case y3_2 => first | (intro W; go_simp; done) | (intro W; go_simp; with_reducible rfl)
          go_simp
          refine wpAny_take (i := 3) (v := ?v3_3) rfl (by kernel_rfl) (by kernel_rfl) (by kernel_rfl) (fun _ _ _ h => h) (Or.inl ⟨by rfl, ?y3_3⟩) ?r3_3
          case y3_3 => first | (intro W; go_simp; done) | (intro W; go_simp; with_reducible rfl)
          go_simp
          refine wpAny_take (i := 4) (v := ?v3_4) rfl (by kernel_rfl) (by kernel_rfl) (by kernel_rfl) (fun _ _ _ h => h) (Or.inl ⟨by rfl, ?y3_4⟩) ?r3_4
          case y3_4 => first | (intro W; go_simp; done) | (intro W; go_simp; with_reducible rfl)
          go_simp
          refine wpAny_take (i := 5) (v := ?v3_5) rfl (by kernel_rfl) (by kernel_rfl) (by kernel_rfl) (fun _ _ _ h => h) (Or.inl ⟨by rfl, ?y3_5⟩) ?r3_5
          case y3_5 => first | (intro W; go_simp; done) | (intro W; go_simp; with_reducible rfl)
          go_simp
          refine wpAny_take (i := 6) (v := ?v3_6) rfl (by kernel_rfl) (by kernel_rfl) (by kernel_rfl) (fun _ _ _ h => h) (Or.inl ⟨by rfl, ?y3_6⟩) ?r3_6
          case y3_6 => first | (intro W; go_simp; done) | (intro W; go_simp; with_reducible rfl)
          go_simp
          refine wpAny_take (i := 7) (v := ?v3_7) rfl (by kernel_rfl) (by kernel_rfl) (by kernel_rfl) (fun _ _ _ h => h) (Or.inl ⟨by rfl, ?y3_7⟩) ?r3_7
          case y3_7 => first | (intro W; go_simp; done) | (intro W; go_simp; with_reducible rfl)
          go_simp
          refine wpAny_take (i := 8) (v := ?v3_8) rfl (by kernel_rfl) (by kernel_rfl) (by kernel_rfl) (fun _ _ _ h => h) (Or.inl ⟨by rfl, ?y3_8⟩) ?r3_8
          case y3_8 => first | (intro W; go_simp; done) | (intro W; go_simp; with_reducible rfl)
          go_simp
          refine wpAny_take (i := 9) (v := ?v3_9) rfl (by kernel_rfl) (by kernel_rfl) (by kernel_rfl) (fun _ _ _ h => h) (Or.inl ⟨by rfl, ?y3_9⟩) ?r3_9
          case y3_9 => first | (intro W; go_simp; done) | (intro W; go_simp; with_reducible rfl)
          go_simp
          refine wpAny_take (i := 10) (v := ?v3_10) rfl (by kernel_rfl) (by kernel_rfl) (by kernel_rfl) (fun _ _ _ h => h) (Or.inl ⟨by rfl, ?y3_10⟩) ?r3_10
          case y3_10 => first | (intro W; go_simp; done) | (intro W; go_simp; with_reducible rfl)
          go_simp
          refine wpAny_take (i := 11) (v := ?v3_11) rfl (by kernel_rfl) (by kernel_rfl) (by kernel_rfl) (fun _ _ _ h => h) (Or.inl ⟨by rfl, ?y3_11⟩) ?r3_11
          case y3_11 => first | (intro W; go_simp; done) | (intro W; go_simp; with_reducible rfl)
          go_simp
          refine wpAny_take (i := 12) (v := ?v3_12) rfl (by kernel_rfl) (by kernel_rfl) (by kernel_rfl) (fun _ _ _ h => h) (Or.inl ⟨by rfl, ?y3_12⟩) ?r3_12
          case y3_12 => first | (intro W; go_simp; done) | (intro W; go_simp; with_reducible rfl)
          go_simp
          refine wpAny_take (i := 13) (v := ?v3_13) rfl (by kernel_rfl) (by kernel_rfl) (by kernel_rfl) (fun _ _ _ h => h) (Or.inl ⟨by rfl, ?y3_13⟩) ?r3_13
          case y3_13 => first | (intro W; go_simp; done) | (intro W; go_simp; with_reducible rfl)
          go_simp
          refine wpAny_take (i := 15) (v := ?v3_15) rfl (by kernel_rfl) (by kernel_rfl) (by kernel_rfl) (fun _ _ _ h => h) (Or.inl ⟨by rfl, ?y3_15⟩) ?r3_15
          case y3_15 => first | (intro W; go_simp; done) | (intro W; go_simp; with_reducible rfl)
          go_simp
          refine wpAny_ready (rs := [14]) (by kernel_rfl) (by simp) ?_
          refine AllReady.cons rfl (fun K hK => ?_) AllReady.nil
          go_simp
          go_wp2_with (first
            | (go_at_call 11; refine (first_any _).mono ?_; rintro e w5 ⟨rfl, hb5⟩; have HR5 := Lib.hid (HR3.out.drew.fr (Fr.of_below hb5 (S := fun k => w3.heap.size ≤ k) (fun _ _ h => h)) (by have := HR3.out.lt; omega) (fun k hk h => by have := HR3.out.lt; omega)); have HX5 := Lib.hid (HX3.out.below ((Below.refl _ _).drew.trans hb5) (Nat.le_refl _)); have HB5 := Lib.hid (HB3.out.drew.trans (hb5.mono HB3.out.size)); clear hb5)
            | (go_at_call 25; refine (place_any HR5.out).mono ?_; rintro e w6 ⟨rfl, hww⟩; obtain rfl := hww.symm)
            | (go_at_call 16; refine (HX5.out.bytes (by have := HTK.out; omega)).mono ?_; rintro e w6 ⟨v6, rfl, ho, hb6⟩; obtain ⟨ao6, cap6, rfl⟩ := own_slice ho; have HO6 := Lib.hid (own_has ho); have HB5 := Lib.hid (HB5.out.trans (hb6.mono HB5.out.size)); clear ho hb6)
            | (go_at_call 17; refine (same_any HO6.out ((HV.out.fr (Fr.of_below HB5.out (S := fun k => w.heap.size ≤ k) (fun _ _ h => h)) (fun k hk h => by omega)).head (q := s.pl) HPL.out)).mono ?_; rintro e w7 ⟨rfl, hww⟩; obtain rfl := hww.symm))
          refine wpAny_take (i := 16) (v := ?v3_16) rfl (by kernel_rfl) (by kernel_rfl) (by kernel_rfl) (fun _ _ _ h => h) (Or.inl ⟨by rfl, ?y3_16⟩) ?r3_16
          case y3_16 => first | (intro W; go_simp; done) | (intro W; go_simp; with_reducible rfl)
          go_simp
          refine wpAny_take (i := 17) (v := ?v3_17) rfl (by kernel_rfl) (by kernel_rfl) (by kernel_rfl) (fun _ _ _ h => h) (Or.inl ⟨by rfl, ?y3_17⟩) ?r3_17
          case y3_17 => first | (intro W; go_simp; done) | (intro W; go_simp; with_reducible rfl)
          go_simp
          refine wpAny_take (i := 18) (v := ?v3_18) rfl (by kernel_rfl) (by kernel_rfl) (by kernel_rfl) (fun _ _ _ h => h) (Or.inl ⟨by rfl, ?y3_18⟩) ?r3_18
          case y3_18 => first | (intro W; go_simp; done) | (intro W; go_simp; with_reducible rfl)
          go_simp
          refine wpAny_take (i := 19) (v := ?v3_19) rfl (by kernel_rfl) (by kernel_rfl) (by kernel_rfl) (fun _ _ _ h => h) (Or.inl ⟨by rfl, ?y3_19⟩) ?r3_19
          case y3_19 => first | (intro W; go_simp; done) | (intro W; go_simp; with_reducible rfl)
          go_simp
          refine wpAny_take (i := 21) (v := ?v3_21) rfl (by kernel_rfl) (by kernel_rfl) (by kernel_rfl) (fun _ _ _ h => h) (Or.inl ⟨by rfl, ?y3_21⟩) ?r3_21
          case y3_21 => first | (intro W; go_simp; done) | (intro W; go_simp; with_reducible rfl)
          go_simp
          refine wpAny_take (i := 22) (v := ?v3_22) rfl (by kernel_rfl) (by kernel_rfl) (by kernel_rfl) (fun _ _ _ h => h) (Or.inl ⟨by rfl, ?y3_22⟩) ?r3_22
          case y3_22 => first | (intro W; go_simp; done) | (intro W; go_simp; with_reducible rfl)
          go_simp
          refine wpAny_take (i := 23) (v := ?v3_23) rfl (by kernel_rfl) (by kernel_rfl) (by kernel_rfl) (fun _ _ _ h => h) (Or.inl ⟨by rfl, ?y3_23⟩) ?r3_23
          case y3_23 => first | (intro W; go_simp; done) | (intro W; go_simp; with_reducible rfl)
          go_simp
          refine wpAny_ready (rs := [20]) (by kernel_rfl) (by simp) ?_
          refine AllReady.cons rfl (fun K hK => ?_) AllReady.nil
          go_simp
          go_wp2_with (first
            | (go_at_call 11; refine (first_any _).mono ?_; rintro e w5 ⟨rfl, hb5⟩; have HR5 := Lib.hid (HR3.out.drew.fr (Fr.of_below hb5 (S := fun k => w3.heap.size ≤ k) (fun _ _ h => h)) (by have := HR3.out.lt; omega) (fun k hk h => by have := HR3.out.lt; omega)); have HX5 := Lib.hid (HX3.out.below ((Below.refl _ _).drew.trans hb5) (Nat.le_refl _)); have HB5 := Lib.hid (HB3.out.drew.trans (hb5.mono HB3.out.size)); clear hb5)
            | (go_at_call 25; refine (place_any HR5.out).mono ?_; rintro e w6 ⟨rfl, hww⟩; obtain rfl := hww.symm)
            | (go_at_call 16; refine (HX5.out.bytes (by have := HTK.out; omega)).mono ?_; rintro e w6 ⟨v6, rfl, ho, hb6⟩; obtain ⟨ao6, cap6, rfl⟩ := own_slice ho; have HO6 := Lib.hid (own_has ho); have HB5 := Lib.hid (HB5.out.trans (hb6.mono HB5.out.size)); clear ho hb6)
            | (go_at_call 17; refine (same_any HO6.out ((HV.out.fr (Fr.of_below HB5.out (S := fun k => w.heap.size ≤ k) (fun _ _ h => h)) (fun k hk h => by omega)).head (q := s.pl) HPL.out)).mono ?_; rintro e w7 ⟨rfl, hww⟩; obtain rfl := hww.symm))
          refine wpAny_ready (rs := [24]) (by kernel_rfl) (by simp) ?_
          refine AllReady.cons rfl (fun K hK => ?_) AllReady.nil
          go_simp
          go_wp2_with (first
            | (go_at_call 11; refine (first_any _).mono ?_; rintro e w5 ⟨rfl, hb5⟩; have HR5 := Lib.hid (HR3.out.drew.fr (Fr.of_below hb5 (S := fun k => w3.heap.size ≤ k) (fun _ _ h => h)) (by have := HR3.out.lt; omega) (fun k hk h => by have := HR3.out.lt; omega)); have HX5 := Lib.hid (HX3.out.below ((Below.refl _ _).drew.trans hb5) (Nat.le_refl _)); have HB5 := Lib.hid (HB3.out.drew.trans (hb5.mono HB3.out.size)); clear hb5)
            | (go_at_call 25; refine (place_any HR5.out).mono ?_; rintro e w6 ⟨rfl, hww⟩; obtain rfl := hww.symm)
            | (go_at_call 16; refine (HX5.out.bytes (by have := HTK.out; omega)).mono ?_; rintro e w6 ⟨v6, rfl, ho, hb6⟩; obtain ⟨ao6, cap6, rfl⟩ := own_slice ho; have HO6 := Lib.hid (own_has ho); have HB5 := Lib.hid (HB5.out.trans (hb6.mono HB5.out.size)); clear ho hb6)
            | (go_at_call 17; refine (same_any HO6.out ((HV.out.fr (Fr.of_below HB5.out (S := fun k => w.heap.size ≤ k) (fun _ _ h => h)) (fun k hk h => by omega)).head (q := s.pl) HPL.out)).mono ?_; rintro e w7 ⟨rfl, hww⟩; obtain rfl := hww.symm))
          refine wpAny_take (i := 25) (v := ?v3_25) rfl (by kernel_rfl) (by kernel_rfl) (by kernel_rfl) (fun _ _ _ h => h) (Or.inl ⟨by rfl, ?y3_25⟩) ?r3_25
          case y3_25 => first | (intro W; go_simp; done) | (intro W; go_simp; with_reducible rfl)
          go_simp
          refine wpAny_take (i := 26) (v := ?v3_26) rfl (by kernel_rfl) (by kernel_rfl) (by kernel_rfl) (fun _ _ _ h => h) (Or.inl ⟨by rfl, ?y3_26⟩) ?r3_26
          case y3_26 => first | (intro W; go_simp; done) | (intro W; go_simp; with_reducible rfl)
          go_simp
          refine wpAny_done (by kernel_rfl) ?_ _
          all_goals go_wp2
          all_goals go_ret
          all_goals exact ⟨rfl, HB5.out⟩
    · obtain rfl : k = 200 := by omega
      go_wp2_with (first
        | (go_at_call 11; refine (first_any _).mono ?_; rintro e w5 ⟨rfl, hb5⟩; have HR := Lib.hid (HR.out.fr (Fr.of_below hb5 (S := fun k => wr.heap.size ≤ k) (fun _ _ h => h)) (by have := HR.out.lt; omega) (fun k hk h => by have := HR.out.lt; omega)); have HX := Lib.hid (HX.out.below hb5 (Nat.le_refl _)); have HB := Lib.hid (HB.out.trans (hb5.mono HB.out.size)); clear hb5)
        | (go_at_call 25; refine (place_any HR.out).mono ?_; rintro e w6 ⟨rfl, hww⟩; obtain rfl := hww.symm)
        | (go_at_call 16; refine (HX.out.bytes (by have := HTK.out; omega)).mono ?_; rintro e w6 ⟨v6, rfl, ho, hb6⟩; obtain ⟨ao6, cap6, rfl⟩ := own_slice ho; have HO6 := Lib.hid (own_has ho); have HR := Lib.hid (HR.out.fr (Fr.of_below hb6 (S := fun k => w5.heap.size ≤ k) (fun _ _ h => h)) (by have := HR.out.lt; omega) (fun k hk h => by have := HR.out.lt; omega)); have HB := Lib.hid (HB.out.trans (hb6.mono HB.out.size)); clear ho hb6)
        | (go_at_call 17; refine (same_any HO6.out ((HV.out.fr (Fr.of_below HB.out (S := fun k => w.heap.size ≤ k) (fun _ _ h => h)) (fun k hk h => by omega)).head (q := s.pl) HPL.out)).mono ?_; rintro e w7 ⟨rfl, hww⟩; obtain rfl := hww.symm))
      all_goals go_ret
      all_goals exact ⟨rfl, HB.out⟩
theorem wireOne_walk (w : World) (v : Value) (xs : List UInt8) (h : HasB (fun k => k < w.heap.size) w v xs) (hm : xs.length ≤ 9223372036854775807) (kind : Int) (_h1 : -9223372036854775808 ≤ kind) (_h2 : kind < 9223372036854775808) :
    Calls Try.prog 6 #[v, .int .i64 kind] w fun e w' => e = .returned (.bool true) ∧ Below w.heap.size w w' := by
  by_cases hc : xs.length ≤ 20000
  · exact wireOne_some w v xs h hc kind
  · exact wireOne_long w v xs h (by omega) kind

set_option maxRecDepth 100000 in
theorem wireOne_lifted (os : Os) (started : os.Started) (H : Type) (enc : TypeId × Value → H) :
    ReturnsInHanded {} Try.checked os 6 .any (Rows.wireOneSpec.pre6 enc Try.prog Try.f6 [] false) (Rows.wireOneSpec.post enc Try.prog Try.f6 false true false false) := by
  refine returnsInHanded_of_change (C := Try.checked) own started (by kernel_rfl) Try.func6
    (ChangeSpec.witness6 (enc := enc) (C := Try.checked) false ⟨#[], #[.slice none 0 0, .int .i64 0], []⟩ 8 (by kernel_rfl) (by kernel_rfl) (by kernel_rfl) (by kernel_rfl)) ?_
  intro W base args ds gs before hval0 hW _ _
  have hval : ∀ (j : Nat) t v, Try.f6.params[j]? = some t → args[j]? = some v → Value.okWide Try.prog W .any base t v := hval0
  have hW' := hW
  obtain ⟨p, q, hA0, hV, rfl, hfz, hnd⟩ := hW
  have hA : DataW.TrodAll enc Try.prog W 0 (fun _ => true) true Try.f6.params.toList args.toList ds p := hA0
  rw [Try.params6] at hA hval
  obtain ⟨v0, v1, d0, d1, p0, p1, rfl, rfl, rfl, h0, h1⟩ := trodAll_two hA
  obtain ⟨b0, len0, cap0, rfl⟩ := okWide_slice Try.underlying31 (hval 0 31 v0 rfl rfl)
  have k0 := h0
  obtain ⟨fuel0, g0⟩ := h0
  obtain ⟨a1, rfl, rfl, rfl, wf1⟩ := open_int Try.underlying3 (hval 1 3 v1 rfl rfl) h1
  obtain ⟨rfl, rfl⟩ := trodVars_none hV
  clear hA0 hval0
  simp only [List.append_nil] at hW'
  have hlt : ∀ x ∈ p0 ++ [], x.block < W.heap.size := fun x hx => hW'.lt x (by simpa using hx)
  obtain ⟨xs0, r0, m0⟩ := open_has g0
  have hwf1 := wf1
  simp [Lit.wf, IntKind.min, IntKind.max, IntKind.signed, IntKind.bits] at hwf1
  refine Calls.mono (?walk : Calls _ _ _ _ fun e w' => e = .returned (.bool true) ∧ Below W.heap.size W w') fun e W' ⟨he, hw⟩ => ?_
  case walk =>
    exact wireOne_walk W _ xs0 r0 m0 a1 (by omega) (by omega)
  subst he
  exact ⟨_, rfl, post_of_below (pa := p0 ++ []) (pv := []) hW' (fun _ _ _ => trodAll_mk1 (shut_bool Try.underlying4 _)) (fun sp hsp => trodAll_mk2 (WideElems.Trod_stays laidOut (by kernel_rfl) (of_decide_eq_true (by kernel_rfl)) k0 (fun x hx => hw.same (hlt x (by simp [hx]))) (fun x hx => hsp x (by simp [hx]))) (shut_int Try.underlying3 wf1)) (fun _ _ => rfl) (by simp) hw (ok_one (by kernel_rfl) rfl (okWide_bool_mk Try.underlying4 _))⟩
/-- THE ROW. -/
theorem wireOne_holds : Rows.WireOneSaid :=
  OpenClaim.holds_of_wide 6 Try.f6 rfl rfl rfl rfl rfl rfl rfl ⟨rfl, rfl, rfl, rfl, rfl⟩ rfl rfl rfl rfl rfl (by kernel_rfl) Try.func6 (by kernel_rfl)
    (of_decide_eq_true (by kernel_rfl)) (by unfold Func.isWrapper; first | (rw [if_pos (by decide +kernel)]; kernel_rfl) | (rw [if_neg (by decide +kernel)]; exact ⟨rfl, rfl⟩))
    (fun os started H enc _ => wireOne_lifted os started H enc)
#print axioms wireOne_holds
end Go.Proofs.Ytioopibmpcbcjaa
