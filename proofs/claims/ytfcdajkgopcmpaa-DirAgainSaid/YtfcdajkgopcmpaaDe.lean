/- Keys; the document's directory (raceref14): Route. Conditions: no more than a million ranges. -/
import Derived.Test.YtfcdajkgopcmpaaDd
import Derived.Deep.RegionHeld
namespace Go.Proofs.Ytfcdajkgopcmpaa
open Go.ChangeShapes Go.WideShapes Go.ChangeAt Go.RowKit Go.Deep
def keyB (s : ByteArray) : Bool := decide (1 ≤ s.size) && decide (s.size ≤ 24)
set_option maxRecDepth 100000 in
theorem rkey_any (s : ByteArray) (w : World) : Calls Try.prog 34 #[.string s] w fun e w' => e = .returned (.bool (keyB s)) ∧ w = w' := by
  have e : keyB s = (decide (1 ≤ s.size) && decide (s.size ≤ 24)) := rfl
  rw [e]
  clear e
  by_cases h1 : 1 ≤ s.size
  · have h2 : (s.size : Int) ≥ 1 := by omega
    by_cases h3 : s.size ≤ 24
    · have h4 : (s.size : Int) ≤ 24 := by omega
      go_enter Try.func34, Try.ntmps34
      go_wp2
      go_ret
      exact ⟨by simp [h1, h3], rfl⟩
    · have h4 : ¬ (s.size : Int) ≤ 24 := by omega
      go_enter Try.func34, Try.ntmps34
      go_wp2
      go_ret
      exact ⟨by simp, rfl⟩
  · have h2 : ¬ (s.size : Int) ≥ 1 := by omega
    go_enter Try.func34, Try.ntmps34
    go_wp2
    go_ret
    exact ⟨by simp, rfl⟩
/-- The last one in which a place lies. -/
def lastIn (L : List RV) (x : Nat) : RV × Bool := L.foldl (fun p r => if inV r x = true then (r, true) else p) (RV.zero, false)
def routeL (L : List RV) (s : ByteArray) : RV × Bool := if keyB s = true then lastIn L (ofH s.data.toList) else (RV.zero, false)
theorem lastIn_next {L : List RV} {k : Nat} (h : k < L.length) (x : Nat) : lastIn (L.take (k + 1)) x = if inV L[k] x = true then (L[k], true) else lastIn (L.take k) x := by
  unfold lastIn
  rw [foldl_take h]
theorem at_new2 (w : World) (o : Obj) (r : RV) : At ((w.alloc o).alloc (robj r)) (w.heap.size + 1) r := by
  have := at_new (w.alloc o) r
  simpa using this
section
variable {C : Nat → Prop} {w : World} {a : Nat} {L : List RV}
set_option maxRecDepth 100000 in
set_option maxHeartbeats 4000000 in
theorem rroute_any (h : RD C w a L) (s : ByteArray) (hs : s.size ≤ 9223372036854775807) (hl : L.length ≤ 1000000) :
    Calls Try.prog 13 #[ptr a, .string s] w fun e w' => e = .returned (.tuple #[ragg (routeL L s).1, .bool (routeL L s).2]) ∧ Below w.heap.size w w' := by
  have hst := run_stf
  obtain ⟨v, hr⟩ := h
  obtain ⟨ao, cap, e⟩ := own_slice hr.own
  subst e
  have hb2 := below2 w (robj RV.zero) (robj RV.zero)
  have H := Lib.hid (hr.below hb2)
  have HX4 := Lib.hid ((at_new w RV.zero).below (below1 _ (robj RV.zero)) (at_new w RV.zero).lt)
  have HX6 := Lib.hid (at_new2 w (robj RV.zero) RV.zero)
  obtain ⟨b, hbs⟩ : ∃ b, w.heap.size = b := ⟨_, rfl⟩
  have HBS := Lib.hid hbs
  rw [hbs] at HX4 HX6
  obtain ⟨W2, hW2⟩ : ∃ W2, (w.alloc (robj RV.zero)).alloc (robj RV.zero) = W2 := ⟨_, rfl⟩
  have HSZ : Hid (W2.heap.size = b + 2) := Lib.hid (by rw [← hW2, ← hbs]; simp)
  rw [hW2] at H HX4 HX6 hb2
  have HB2 := Lib.hid hb2
  have HAB : Hid (a < b) := Lib.hid (by rw [← hbs]; exact hr.alt)
  have HCK := fun w => Lib.hid (rkey_any s w)
  have HRT : Hid (routeL L s = if keyB s = true then lastIn L (ofH s.data.toList) else (RV.zero, false)) := Lib.hid rfl
  obtain ⟨n, hn⟩ : ∃ n, L.length = n := ⟨_, rfl⟩
  have HN := Lib.hid hn
  rw [hn] at hl
  have H0 := hr.own
  have HC0 : ∀ wz : World, Below W2.heap.size W2 wz → Hid (wz.cell? ⟨a, 0, none⟩ = some (.slice ao n cap)) := fun wz hb => Lib.hid (by rw [← hn]; exact (hb.cell (p := ⟨a, 0, none⟩) H.out.alt).trans H.out.c0)
  have HGL : Hid (∀ k, k < L.length → ∀ g, ao = some ⟨g, 0, none⟩ → g < w.heap.size) := Lib.hid (fun k hk g e => by subst e; exact (hr.own.lt g rfl).2)
  clear hn hr hb2 H0
  have HEW := Lib.hid hW2
  dsimp only [RV.zero] at HEW
  clear hW2 hbs
  cases hkb : keyB s with
  | false =>
    rw [HRT.out, hkb]
    simp only [hkb] at HCK
    clear hkb HRT
    go_enter Try.func13, Try.ntmps13
    go_wp2
    rw [HBS.out, HEW.out]
    go_loopw [7, 8] (fun vo vi wr => vi = .int .i64 0 ∧ vo = .bool false ∧ Hid (wr = W2)) (fun _ _ _ => 0)
    case atStart => exact ⟨rfl, rfl, Lib.hid rfl⟩
    case round =>
      obtain ⟨rfl, rfl, hw⟩ := hrel
      obtain rfl := hw.out
      have c0 := (HC0 _ (Below.refl _ _)).out
      have x0 := HX6.out.c0; have x1 := HX6.out.c1; have x2 := HX6.out.c2; have x3 := HX6.out.c3
      have f0 := HX4.out.f0; have f1 := HX4.out.f1; have f2 := HX4.out.f2; have f3 := HX4.out.f3
      have y0 := HX4.out.c0; have y1 := HX4.out.c1; have y2 := HX4.out.c2; have y3 := HX4.out.c3
      dsimp only [RV.zero] at x0 x1 x2 x3 y0 y1 y2 y3
      by_cases h0 : (0 : Int) < n
      · go_wp2_with (go_at_call 34; refine (HCK _).out.mono ?_; rintro e w3 ⟨rfl, rfl⟩)
        refine bodyPost_ret (res_two rfl _ rfl (HX4.out.setAll RV.zero)) rfl ⟨rfl, below_set4 HB2.out (by rw [HBS.out]; exact Nat.le_refl _) RV.zero⟩
      · go_wp2
        refine bodyPost_ret (res_two rfl _ rfl (HX4.out.setAll RV.zero)) rfl ⟨rfl, below_set4 HB2.out (by rw [HBS.out]; exact Nat.le_refl _) RV.zero⟩
  | true =>
    rw [HRT.out, hkb, if_pos rfl]
    simp only [hkb] at HCK
    clear hkb HRT
    have HOF := fun w => Lib.hid (rof_any s hs w)
    generalize ofH s.data.toList = X at *
    go_enter Try.func13, Try.ntmps13
    go_wp2
    rw [HBS.out, HEW.out]
    go_loopw [7, 8] (fun vo vi wr => ∃ k : Nat, vi = .int .i64 k ∧ k ≤ n ∧ vo = .bool (lastIn (L.take k) X).2 ∧ Hid (At wr (b + 1) (lastIn (L.take k) X).1) ∧ Hid (Below b w wr ∧ Below (b + 1) W2 wr)) (fun _ vi _ => n - (RowKit.intOf vi).toNat)
    case atStart => exact ⟨0, rfl, Nat.zero_le _, rfl, HX6, Lib.hid ⟨by rw [← HBS.out]; exact HB2.out, Below.refl _ _⟩⟩
    case round =>
      obtain ⟨k, rfl, hk, rfl, HX, HBB⟩ := hrel
      have HB := Lib.hid HBB.out.1
      have HR := Lib.hid HBB.out.2
      have hs2 := HSZ.out
      have HRS : Hid (b + 2 ≤ wr.heap.size) := Lib.hid (by have := HR.out.size; omega)
      clear hs2
      have HC1 : ∀ wz : World, Below (b + 1) W2 wz → Hid (wz.cell? ⟨a, 0, none⟩ = some (.slice ao n cap)) := fun wz hb => Lib.hid (by
        have h1 := H.out.c0
        rw [HN.out] at h1
        exact (hb.cell (p := ⟨a, 0, none⟩) (show a < b + 1 by have := HAB.out; omega)).trans h1)
      by_cases hlt : k < n
      · have hkl : k < L.length := by rw [HN.out]; exact hlt
        obtain ⟨g, rfl, hg, hra⟩ := own_rat H.out.own hkl
        have HGB : Hid (g < b) := Lib.hid (by rw [← HBS.out]; exact HGL.out k hkl g rfl)
        have HRA := Lib.hid hra
        have HT := Lib.hid (lastIn_next hkl X)
        have HIN := fun w => Lib.hid (rin_any L[k] X w)
        clear hg hra
        generalize L[k] = q at *
        clear hkl
        generalize lastIn (L.take k) X = p at *
        obtain ⟨p1, p2⟩ := p
        simp only at HX
        have hlt2 : (k : Int) < (n : Int) := by omega
        have HQ : ∀ wz : World, Below (b + 1) W2 wz → Hid (RAt wz g (k * 4) q) := fun wz hb => Lib.hid (HRA.out.below hb (show g < b + 1 by have := HGB.out; omega))
        have c0 := (HC1 _ HR.out).out
        go_wp2_with (go_at_call 34; refine (HCK _).out.mono ?_; rintro e w3 ⟨rfl, rfl⟩)
        clear c0
        have hbd := (Below.refl wr.heap.size wr).drew
        have HX := Lib.hid (HX.out.below hbd HX.out.lt)
        have HR := Lib.hid (HR.out.trans (hbd.mono (by have := HRS.out; omega)))
        have HB := Lib.hid (HB.out.trans (hbd.mono (by have := HRS.out; omega)))
        have HRS : Hid (b + 2 ≤ wr.drew.heap.size) := HRS
        clear hbd
        cases hi : inV q X
        all_goals
          simp only [hi] at HIN HT
          clear hi
          go_region_held (fun w' => w'.cell? ⟨a, 0, none⟩ = some (.slice (some ⟨g, 0, none⟩) n cap) ∧ w'.cell? ⟨g, k * 4, none⟩ = some (.int .i64 q.i) ∧ w'.cell? ⟨g, k * 4 + 1, none⟩ = some (.int .i64 q.e) ∧ w'.cell? ⟨g, k * 4 + 2, none⟩ = some (.float .f64 q.lo) ∧ w'.cell? ⟨g, k * 4 + 3, none⟩ = some (.float .f64 q.hi)) (exact ⟨(HC1 _ HR.out).out, (HQ _ HR.out).out.c0, (HQ _ HR.out).out.c1, (HQ _ HR.out).out.c2, (HQ _ HR.out).out.c3⟩)
            ((first
              | (go_at_call 24; refine (HOF _).out.mono ?_; rintro e w5 ⟨rfl, rfl⟩)
              | (go_at_call 23; refine (HIN _).out.mono ?_; rintro e w6 ⟨rfl, hb⟩; have HX := Lib.hid (HX.out.below hb HX.out.lt); have HR := Lib.hid (HR.out.trans (hb.mono (by have := HRS.out; omega))); have HB := Lib.hid (HB.out.trans (hb.mono (by have := HRS.out; omega))); clear hb)))
        · have HT2 : Hid (lastIn (L.take (k + 1)) X = (p1, p2)) := Lib.hid (by rw [HT.out]; rfl)
          clear HT
          go_wp2
          go_roundw
          case rel => exact ⟨k + 1, by go_num, by omega, by rw [HT2.out], by rw [HT2.out]; exact HX, Lib.hid ⟨HB.out, HR.out⟩⟩
          case measure => simp [RowKit.intOf]; omega
        · have HT2 : Hid (lastIn (L.take (k + 1)) X = (q, true)) := Lib.hid (by rw [HT.out]; rfl)
          clear HT
          have c0 := (HC1 _ HR.out).out
          have hq := (HQ _ HR.out).out
          have d0 := hq.c0; have d1 := hq.c1; have d2 := hq.c2; have d3 := hq.c3
          have x0 := HX.out.c0; have x1 := HX.out.c1; have x2 := HX.out.c2; have x3 := HX.out.c3
          have f0 := HX.out.f0; have f1 := HX.out.f1; have f2 := HX.out.f2; have f3 := HX.out.f3
          have HX9 := Lib.hid (HX.out.setAll q)
          have HR9 := Lib.hid (below_set4 HR.out (Nat.le_refl _) q)
          have HB9 := Lib.hid (below_set4 HB.out (Nat.le_succ b) q)
          clear hq
          go_wp2
          go_roundw
          case rel => exact ⟨k + 1, by go_num, by omega, by rw [HT2.out], by rw [HT2.out]; exact HX9, Lib.hid ⟨HB9.out, HR9.out⟩⟩
          case measure => simp [RowKit.intOf]; omega
      · obtain rfl : k = n := by omega
        have e : L.take k = L := List.take_of_length_le (by rw [HN.out]; exact Nat.le_refl _)
        rw [e] at HX ⊢
        clear e
        obtain ⟨⟨p1, p2⟩, hp⟩ : ∃ p, lastIn L X = p := ⟨_, rfl⟩
        have HPE := Lib.hid hp
        rw [hp] at HX ⊢
        clear hp
        simp only at HX
        have HY := Lib.hid (HX4.out.below HR.out (Nat.lt_succ_self b))
        have c0 := (HC1 _ HR.out).out
        have x0 := HX.out.c0; have x1 := HX.out.c1; have x2 := HX.out.c2; have x3 := HX.out.c3
        have f0 := HY.out.f0; have f1 := HY.out.f1; have f2 := HY.out.f2; have f3 := HY.out.f3
        have y0 := HY.out.c0; have y1 := HY.out.c1; have y2 := HY.out.c2; have y3 := HY.out.c3
        dsimp only [RV.zero] at y0 y1 y2 y3
        go_wp2
        refine bodyPost_ret (res_two rfl _ rfl (HY.out.setAll p1)) rfl ⟨by rw [HPE.out]; rfl, ?_⟩
        rw [HBS.out]
        exact below_set4 HB.out (Nat.le_refl _) p1
end
end Go.Proofs.Ytfcdajkgopcmpaa
