/- disk.Copy: a disk of its own that stands alike. Conditions: none of its own. -/
import Derived.Test.YtefgnlijgomgpaaX
namespace Go.Proofs.Ytefgnlijgomgpaa
open Go.RowKit
/-- The files that have come. -/
def came (left : Lit → Bool) (f : Ent Fi) : Ent Fi := f.filter fun p => !left (.string p.1)
theorem mem_came {left : Lit → Bool} {f : Ent Fi} {p : Nm × Fi} : p ∈ came left f ↔ p ∈ f ∧ left (.string p.1) = false := by
  unfold came
  rw [List.mem_filter]
  simp
theorem came_rising {left : Lit → Bool} {f : Ent Fi} (h : Rising f) : Rising (came left f) := List.Pairwise.filter _ h
theorem came_none {left : Lit → Bool} {f : Ent Fi} (h : ∀ p ∈ f, left (.string p.1) = true) : came left f = [] := by
  unfold came
  rw [List.filter_eq_nil_iff]
  intro p hp
  simp [h p hp]
theorem came_all {left : Lit → Bool} {f : Ent Fi} (h : ∀ k, left k = false) : came left f = f := by
  unfold came
  rw [List.filter_eq_self]
  intro p _
  simp [h]
theorem came_step {left : Lit → Bool} {f : Ent Fi} (hr : Rising f) {s : Nm} {x : Fi} (hx : get f s = some x) (_hl : left (.string s) = true) : came (fun z => left z && !z.sameKey (.string s)) f = put (came left f) s x := by
  refine rising_eq (came_rising hr) ((came_rising hr).put s x) fun p => ?_
  rw [mem_came, mem_put, mem_came]
  have hs : (Lit.string p.1).sameKey (.string s) = (p.1 == s) := rfl
  rw [hs]
  constructor
  · rintro ⟨h1, h2⟩
    by_cases e : p.1 = s
    · left
      have := mem_get hr (s := p.1) (x := p.2) h1
      rw [e, hx] at this
      injection this with this
      exact Prod.ext e this.symm
    · right
      have : (p.1 == s) = false := by simpa using e
      rw [this] at h2
      exact ⟨⟨h1, by simpa using h2⟩, e⟩
  · rintro (rfl | ⟨⟨h1, h2⟩, e⟩)
    · exact ⟨get_mem hx, by simp⟩
    · exact ⟨h1, by rw [h2]; rfl⟩
theorem ok_came {d : Dk} (h : Ok d) (left : Lit → Bool) : Ok { d with f := came left d.f } := by
  have hm : ∀ p ∈ came left d.f, p ∈ d.f := fun p hp => (mem_came.1 hp).1
  have ht : tot (came left d.f) ≤ tot d.f := by
    have : ∀ f : Ent Fi, tot (came left f) ≤ tot f := by
      intro f
      induction f with
      | nil => exact Nat.le_refl _
      | cons p f ih =>
        unfold came at ih ⊢
        rw [List.filter_cons, tot_cons]
        split
        · rw [tot_cons]; omega
        · omega
    exact this d.f
  have hl : (came left d.f).length ≤ d.f.length := List.length_filter_le _ _
  have h1 := h.few
  have h2 := h.room
  exact ⟨came_rising h.rising, fun p hp => h.nm p (hm p hp), fun p hp => h.safe p (hm p hp), by show (came left d.f).length ≤ 64; omega, by show tot (came left d.f) ≤ 4194304; omega⟩
theorem grown_below {w w' : World} (h : Below w.heap.size w w') : w.grownBy w' none := ⟨h.os, h.tape, h.output, h.size, fun k hk _ => h.block k hk⟩
theorem grown_tn {w w' : World} {c : Nat} (h : Tn (· = c) w w') : w.grownBy w' (some c) := ⟨h.os, h.tape, h.output, h.size, fun k hk hne => h.block k hk (fun e => hne (by rw [e]))⟩
section
variable {S : Nat → Prop} {w : World} {a m : Nat} {d : Dk} {ρ : Nm → Nat} {δ : Nm → Value} {s : Nm} {x : Fi}
set_option maxRecDepth 100000 in
set_option maxHeartbeats 4000000 in
theorem copy_any (h : DAt S w a d m ρ δ) : Calls Try.prog 27 #[ptr a] w fun e w' => ∃ a', e = .returned (ptr a') ∧ DK (fun k => w.heap.size ≤ k ∧ k < w'.heap.size) w' a' d ∧ Below w.heap.size w w' := by
  have H := Lib.hid h
  have ha : a < w.heap.size := h.lt a h.sa
  have HMW := Lib.hid (h.lt m h.sm)
  have hfew := h.ok.few
  have c0 := h.c0
  have c1 := h.c1
  have c2 := h.c2
  have c3 := h.c3
  have hmm := @run_makeMap Try.prog
  have hb0 : Below w.heap.size w ((w.alloc (.cells #[.map (some (w.heap.size + 1)), .int .i64 (d.done : Int), .int .i64 (d.left : Int), .bool d.off] 64)).alloc (.map #[] 0)) := (below1 w _).alloc (by simp) _
  have hown := h.map.below hb0
  have HB0 := Lib.hid hb0
  clear h hb0
  go_enter Try.func27, Try.ntmps27
  go_wp2_with (first
    | (at_range; refine wpList_range_own _ rfl _ 62 rfl 9 68 law9 under62 refE m _ _ rfl hown ?_; intro w0 hrg0 hg0 hs0)
    | go_in)
  go_frame
  obtain ⟨R, hR⟩ : ∃ R, R = w.heap.size + 1 + 1 := ⟨_, rfl⟩
  have HRR := Lib.hid hR
  have e1 : ((w.alloc (.cells #[.map (some (w.heap.size + 1)), .int .i64 (d.done : Int), .int .i64 (d.left : Int), .bool d.off] 64)).alloc (.map #[] 0)).heap.size = R := by rw [hR]; simp
  have hgb : Below ((w.alloc (.cells #[.map (some (w.heap.size + 1)), .int .i64 (d.done : Int), .int .i64 (d.left : Int), .bool d.off] 64)).alloc (.map #[] 0)).heap.size ((w.alloc (.cells #[.map (some (w.heap.size + 1)), .int .i64 (d.done : Int), .int .i64 (d.left : Int), .bool d.off] 64)).alloc (.map #[] 0)) w0 := (Below.refl _ _).grown hg0 (Nat.le_refl _) (fun k hk => by cases hk)
  have hz0 := hs0
  rw [e1] at hrg0 hz0 ⊢
  have HG := Lib.hid hrg0
  have HW0 := Lib.hid (HB0.out.trans (hgb.mono (by rw [e1]; omega)))
  have hdt : DAt (fun k => w.heap.size ≤ k ∧ k < w0.heap.size ∧ k ≠ R) w0 w.heap.size { d with f := came (Maps.has (dmap (refs d.f ρ))) d.f } (w.heap.size + 1) (fun _ => 0) (fun _ => undef) := by
    have hn : came (Maps.has (dmap (refs d.f ρ))) d.f = [] := came_none (fun p hp => by rw [has_dmap, has_refs, has_get, mem_get H.out.ok.rising hp]; rfl)
    rw [hn]
    refine ⟨⟨rising_nil, fun _ h => (nomatch h), fun _ h => (nomatch h), Nat.zero_le _, Nat.zero_le _⟩, H.out.left, ?_, ?_, fun _ h => (nomatch h), fun _ h => (nomatch h), fun _ h => (nomatch h), fun _ h => (nomatch h), ⟨Nat.le_refl _, by omega, by omega⟩, ⟨by omega, by omega, by omega⟩, fun _ h => (nomatch h), fun _ h => (nomatch h), fun k hk => hk.2.1⟩
    · rw [hgb.block _ (by rw [e1]; omega)]
      exact ((below1 (w.alloc (.cells #[.map (some (w.heap.size + 1)), .int .i64 (d.done : Int), .int .i64 (d.left : Int), .bool d.off] 64)) (.map #[] 0)).block _ (by simp)).trans (heap_alloc_new w _)
    · have h2 := (mat_new (w.alloc (.cells #[.map (some (w.heap.size + 1)), .int .i64 (d.done : Int), .int .i64 (d.left : Int), .bool d.off] 64))).below hgb
      have e2 : (w.alloc (.cells #[.map (some (w.heap.size + 1)), .int .i64 (d.done : Int), .int .i64 (d.left : Int), .bool d.off] 64)).heap.size = w.heap.size + 1 := by simp
      rw [e2] at h2
      exact h2
  have HDT := Lib.hid hdt
  clear hrg0 hg0 hs0 hz0 hgb hdt hown hmm c0 c1 c2 c3 e1 hR
  go_loopw [4, 5] (fun _ _ wr => ∃ (left : Lit → Bool) (cnt : Nat), Hid (wr.ranges Try.prog 9 refE m R (refs d.f ρ).length (dmap (refs d.f ρ)) left cnt) ∧ Hid (Below w.heap.size w wr) ∧ Hid (∃ ρ' δ', DAt (fun k => w.heap.size ≤ k ∧ k < wr.heap.size ∧ k ≠ R) wr w.heap.size { d with f := came left d.f } (w.heap.size + 1) ρ' δ')) (fun _ _ wr => wr.rangeLeft m R)
  case atStart => exact ⟨_, _, HG, HW0, ⟨_, _, HDT.out⟩⟩
  case round =>
    obtain ⟨left, cnt, hrg, hb, hdk⟩ := hrel
    go_wp2_with (first
      | (at_next; refine wpList_next_ranges _ rfl _ rfl 9 law9 refE nmv Value.pointer (fun key kl hk => by obtain ⟨s, hs, _⟩ := keyOf9 hk; exact ⟨s, hs⟩) (fun v y hv => refE_ptrs hv) m R _ _ _ _ rfl hrg.out ?_ ?_)
      | go_in)
    · intro _ hl0
      have HC := Lib.hid (came_all (f := d.f) hl0)
      clear hl0
      go_wp2
      go_ret
      obtain ⟨ρ', δ', hd⟩ := hdk.out
      rw [HC.out] at hd
      exact ⟨_, rfl, ⟨_, ρ', δ', hd.grow (fun k hk => ⟨hk.1, hk.2.1⟩) (fun k hk => hk.2)⟩, hb.out⟩
    · intro s b kl yd yp w1 cnt1 hkey hlk hv hat hrg1 hlt hg1 hs1 hen
      obtain ⟨s', es, rfl, hsl⟩ := keyOf9 hkey
      obtain rfl : s = s' := encStr_inj es
      obtain ⟨x, hx, rfl⟩ := entry_of (f := d.f) (y := (yd, yp)) rfl hat hv
      have HST := Lib.hid (came_step H.out.ok.rising hx hlk)
      have hb1 : Below w.heap.size w w1 := hb.out.grown hg1 hb.out.size (fun k hk => by cases hk; have := HRR.out; omega)
      have h1 := H.out.below hb1
      have f0 := h1.f0 hx
      have f1 := h1.f1 hx
      have hro := h1.own hx
      have hxl := get_tot H.out.ok.rising hx
      have hroom := H.out.ok.room
      obtain ⟨ao, cap, hdv⟩ := own_slice hro
      rw [hdv] at f0 hro
      obtain ⟨ρ', δ', hdc⟩ := hdk.out
      have hdc1 := hdc.tn (T := (· = R)) ⟨hg1.os, hg1.tape, hg1.output, hg1.size, fun k hk hne => hg1.block k hk (fun e => hne (by injection e))⟩ (fun k hk e => hk.2.2 e)
      have k0 := hdc1.c0
      have HOW := Lib.hid (show w1.drew.ownsRow 0 5 1 (.slice ao x.data.length cap) x.data.length (bys x.data) from hro)
      have HXL : Hid (x.data.length ≤ 4194304) := Nat.le_trans hxl hroom
      have HRS := Lib.hid (show ρ s < w1.drew.heap.size from h1.lt _ (h1.sf _ (get_mem hx)))
      have HWS := Lib.hid (show w.heap.size < w1.drew.heap.size from hdc1.lt _ hdc1.sa)
      have HDC := Lib.hid hdc1
      have HB1 := Lib.hid hb1
      have HRG := Lib.hid hrg1
      have HW1 := Lib.hid hg1.size
      have HLT := Lib.hid hlt
      have HX := Lib.hid hx
      have HSL := Lib.hid hsl
      clear hkey hlk hv hat hrg1 hlt hg1 hs1 es h1 hdv hb1 hx hro hxl hroom hdc hdc1 hsl
      go_wp2
      refine wp_region_held (S := (fun w' => w'.cell? ⟨w.heap.size, 0, none⟩ = some (.map (some (w.heap.size + 1))) ∧ w'.cell? ⟨ρ s, 0, none⟩ = some (.slice ao x.data.length cap) ∧ w'.cell? ⟨ρ s, 1, none⟩ = some (.int .i64 (x.safe : Int)))) (by kernel_rfl) ?_
      change wpAnyH _ _ _ _ _ _ _ _ (World.drew _)
      refine wpAnyH_take (i := 0) (v := ?vf_0) rfl (by kernel_rfl) (by kernel_rfl) (by kernel_rfl) (fun _ _ _ h => h) (Or.inl ⟨by rfl, ?yf_0⟩) ⟨k0, f0, f1⟩ ?rf_0
      case yf_0 => (intro W hSw; (try dsimp only at hSw); obtain ⟨_, _, _⟩ := hSw; first | (go_simp; done) | (go_simp; with_reducible rfl))
      try go_simp
      refine wpAnyH_take (i := 1) (v := ?vf_1) rfl (by kernel_rfl) (by kernel_rfl) (by kernel_rfl) (fun _ _ _ h => h) (Or.inl ⟨by rfl, ?yf_1⟩) ⟨k0, f0, f1⟩ ?rf_1
      case yf_1 => (intro W hSw; (try dsimp only at hSw); obtain ⟨_, _, _⟩ := hSw; first | (go_simp; done) | (go_simp; with_reducible rfl))
      try go_simp
      refine wpAnyH_take (i := 2) (v := ?vf_2) rfl (by kernel_rfl) (by kernel_rfl) (by kernel_rfl) (fun _ _ _ h => h) (Or.inl ⟨by rfl, ?yf_2⟩) ⟨k0, f0, f1⟩ ?rf_2
      case yf_2 => (intro W hSw; (try dsimp only at hSw); obtain ⟨_, _, _⟩ := hSw; first | (go_simp; done) | (go_simp; with_reducible rfl))
      try go_simp
      refine wpAnyH_take (i := 3) (v := ?vf_3) rfl (by kernel_rfl) (by kernel_rfl) (by kernel_rfl) (fun _ _ _ h => h) (Or.inl ⟨by rfl, ?yf_3⟩) ⟨k0, f0, f1⟩ ?rf_3
      case yf_3 => (intro W hSw; (try dsimp only at hSw); obtain ⟨_, _, _⟩ := hSw; first | (go_simp; done) | (go_simp; with_reducible rfl))
      try go_simp
      refine wpAnyH_take (i := 4) (v := ?vf_4) rfl (by kernel_rfl) (by kernel_rfl) (by kernel_rfl) (fun _ _ _ h => h) (Or.inl ⟨by rfl, ?yf_4⟩) ⟨k0, f0, f1⟩ ?rf_4
      case yf_4 => (intro W hSw; (try dsimp only at hSw); obtain ⟨_, _, _⟩ := hSw; first | (go_simp; done) | (go_simp; with_reducible rfl))
      try go_simp
      refine wpAnyH_take (i := 5) (v := ?vf_5) rfl (by kernel_rfl) (by kernel_rfl) (by kernel_rfl) (fun _ _ _ h => h) (Or.inl ⟨by rfl, ?yf_5⟩) ⟨k0, f0, f1⟩ ?rf_5
      case yf_5 => (intro W hSw; (try dsimp only at hSw); obtain ⟨_, _, _⟩ := hSw; first | (go_simp; done) | (go_simp; with_reducible rfl))
      try go_simp
      refine wpAnyH_take (i := 6) (v := ?vf_6) rfl (by kernel_rfl) (by kernel_rfl) (by kernel_rfl) (fun _ _ _ h => h) (Or.inl ⟨by rfl, ?yf_6⟩) ⟨k0, f0, f1⟩ ?rf_6
      case yf_6 => (intro W hSw; (try dsimp only at hSw); obtain ⟨_, _, _⟩ := hSw; first | (go_simp; done) | (go_simp; with_reducible rfl))
      try go_simp
      refine wpAnyH_take (i := 8) (v := ?vf_8) rfl (by kernel_rfl) (by kernel_rfl) (by kernel_rfl) (fun _ _ _ h => h) (Or.inl ⟨by rfl, ?yf_8⟩) ⟨k0, f0, f1⟩ ?rf_8
      case yf_8 => (intro W hSw; (try dsimp only at hSw); obtain ⟨_, _, _⟩ := hSw; first | (go_simp; done) | (go_simp; with_reducible rfl))
      try go_simp
      refine wpAnyH_take (i := 9) (v := ?vf_9) rfl (by kernel_rfl) (by kernel_rfl) (by kernel_rfl) (fun _ _ _ h => h) (Or.inl ⟨by rfl, ?yf_9⟩) ⟨k0, f0, f1⟩ ?rf_9
      case yf_9 => (intro W hSw; (try dsimp only at hSw); obtain ⟨_, _, _⟩ := hSw; first | (go_simp; done) | (go_simp; with_reducible rfl))
      try go_simp
      refine wpAnyH_take (i := 10) (v := ?vf_10) rfl (by kernel_rfl) (by kernel_rfl) (by kernel_rfl) (fun _ _ _ h => h) (Or.inl ⟨by rfl, ?yf_10⟩) ⟨k0, f0, f1⟩ ?rf_10
      case yf_10 => (intro W hSw; (try dsimp only at hSw); obtain ⟨_, _, _⟩ := hSw; first | (go_simp; done) | (go_simp; with_reducible rfl))
      try go_simp
      refine wpAnyH_take (i := 11) (v := ?vf_11) rfl (by kernel_rfl) (by kernel_rfl) (by kernel_rfl) (fun _ _ _ h => h) (Or.inl ⟨by rfl, ?yf_11⟩) ⟨k0, f0, f1⟩ ?rf_11
      case yf_11 => (intro W hSw; (try dsimp only at hSw); obtain ⟨_, _, _⟩ := hSw; first | (go_simp; done) | (go_simp; with_reducible rfl))
      try go_simp
      refine wpAnyH_ready (rs := [7]) (by kernel_rfl) (by simp) ?_
      refine AllReadyH.cons rfl (fun K hK => ?_) AllReadyH.nil
      go_simp
      (go_wp2_with (first | (go_at_call 48; (refine (clone_own (HOW.out) HXL.out).mono ?_); rintro e w3 ⟨v2, rfl, ho, hb⟩; obtain ⟨o2, c2, rfl⟩ := own_slice ho; have HO2 := Lib.hid ho; have HB2 := Lib.hid hb; have pk := (hb.cell (p := ⟨w.heap.size, 0, none⟩) HWS.out).trans k0; have p0 := (hb.cell (p := ⟨ρ s, 0, none⟩) HRS.out).trans f0; have p1 := (hb.cell (p := ⟨ρ s, 1, none⟩) HRS.out).trans f1; have hz1 := Lib.hid (Nat.lt_of_lt_of_le HRS.out hb.size); have hz2 := Lib.hid (Nat.lt_of_lt_of_le HWS.out hb.size); clear ho hb)))
      refine hK.out _ _ ⟨pk, p0, p1⟩ (fun _ => ?_)
      clear hK K
      try go_simp
      refine wpAnyH_take (i := 12) (v := ?vf_12) rfl (by kernel_rfl) (by kernel_rfl) (by kernel_rfl) (fun _ _ _ h => h) (Or.inl ⟨by rfl, ?yf_12⟩) ⟨pk, p0, p1⟩ ?rf_12
      case yf_12 => (intro W hSw; (try dsimp only at hSw); obtain ⟨_, _, _⟩ := hSw; first | (go_simp; done) | (go_simp; with_reducible rfl))
      try go_simp

      refine wpAnyH_ready (rs := [13]) (by kernel_rfl) (by simp) ?_
      refine AllReadyH.cons rfl (fun K hK => ?_) AllReadyH.nil
      go_simp
      have hb4 := below1 w3 (.cells #[.slice o2 x.data.length c2, .int .i64 (x.safe : Int)] 71)
      have qk := (hb4.cell (p := ⟨w.heap.size, 0, none⟩) hz2.out).trans pk
      have q0 := (hb4.cell (p := ⟨ρ s, 0, none⟩) hz1.out).trans p0
      have q1 := (hb4.cell (p := ⟨ρ s, 1, none⟩) hz1.out).trans p1
      have hbA : Below w1.heap.size w1 w3 := (Below.refl _ w1).drew.trans HB2.out
      have hb14 := hbA.trans (hb4.mono hbA.size)
      have hDC4 := HDC.out.below hb14
      have hf4 := heap_alloc_new w3 (.cells #[.slice o2 x.data.length c2, .int .i64 (x.safe : Int)] 71)
      have hr4 := own_mono (own_below HO2.out hb4) (Nat.zero_le _)
      have hlen : (refs (came left d.f) ρ').length < maxLen := by
        rw [length_refs]
        have := List.length_filter_le (fun p : Nm × Fi => !left (.string p.1)) d.f
        unfold came maxLen
        omega
      obtain ⟨w5, hr, hm5, ht5⟩ := MAt.store (s := s) hDC4.map HSL.out hlen w3.heap.size
      have hcm : w.heap.size + 1 ≠ w.heap.size := by omega
      have hRlt := HRG.out.lt
      have hRne : R ≠ w.heap.size + 1 := by have := HRR.out; omega
      have hz35 : w3.heap.size < w5.heap.size := by have h9 := ht5.size; simp at h9; omega
      have hHS := H.out.sf _ (get_mem HX.out)
      have hHL := H.out.lt _ hHS
      have rk := ht5.cell (p := ⟨w.heap.size, 0, none⟩) qk (fun e => hcm e.symm)
      have r0 := ht5.cell (p := ⟨ρ s, 0, none⟩) q0 (fun e => by simp only at e hHL; omega)
      have r1 := ht5.cell (p := ⟨ρ s, 1, none⟩) q1 (fun e => by simp only at e hHL; omega)
      have hd5 : DAt (fun k => w.heap.size ≤ k ∧ k < w5.heap.size ∧ k ≠ R) w5 w.heap.size { d with f := came (fun z => left z && !z.sameKey (.string s)) d.f } (w.heap.size + 1) (at_ ρ' s w3.heap.size) (at_ δ' s (.slice o2 x.data.length c2)) := by
        refine hDC4.put_of (d' := { d with f := came (fun z => left z && !z.sameKey (.string s)) d.f }) (x := x) (Below.refl _ _) ht5 hm5 hf4 hr4 (fun p hp _ e => ?_) (fun p hp _ j hj e => ?_) (ok_came H.out.ok _) HST.out rfl rfl rfl (fun j hj => ⟨hj.1, ?_, hj.2.2⟩) ⟨?_, hz35, ?_⟩ (fun j hj => ⟨?_, ?_, ?_⟩) (fun j hj => hj.2.1)
        · have h8 := (HDC.out.sf p hp).2.1
          have h9 := hbA.size
          have h7 := HW1.out
          omega
        · have h8 := (HDC.out.sr p hp j e).2.1
          have h9 := (HO2.out.lt j hj).1
          have h7 := HW1.out
          simp at h9
          omega
        · have h8 := hj.2.1
          have h9 := hbA.size
          have h7 := HW1.out
          omega
        · have h8 := HB1.out.size
          have h9 := hbA.size
          omega
        · have h9 := hbA.size
          omega
        · have h9 := (HO2.out.lt j hj).1
          have h8 := HB1.out.size
          simp at h9
          omega
        · have h9 := (HO2.out.lt j hj).2
          omega
        · have h9 := (HO2.out.lt j hj).1
          simp at h9
          omega
      have HD5 := Lib.hid hd5
      have HRG5 := Lib.hid ((HRG.out.kept (grown_below hb14) (by simp) (by simp)).kept (grown_tn ht5) (fun e => by injection e with e; have := HMW.out; omega) (fun e => by injection e with e; exact hRne e))
      have HB5 := Lib.hid ((HB1.out.trans (hb14.mono HB1.out.size)).trans (ht5.below (Nat.le_trans HB1.out.size hb14.size) (fun j hj => by rw [hj]; omega)))
      clear hb4 hbA hb14 hDC4 hf4 hr4 hlen hm5 ht5 hcm hRlt hRne hz35 hHS hHL hd5 pk p0 p1
      refine hK.out _ _ ⟨qk, q0, q1⟩ (fun _ => ?_)
      clear hK K
      try go_simp
      refine wpAnyH_ready (rs := [14]) (by kernel_rfl) (by simp) ?_
      refine AllReadyH.cons rfl (fun K hK => ?_) AllReadyH.nil
      go_simp
      refine hK.out _ _ ⟨rk, r0, r1⟩ (fun _ => ?_)
      clear hK K hr qk q0 q1
      try go_simp
      refine wpAnyH_done (by kernel_rfl) ?_ _
      try go_wp2
      go_roundw
      case rel => exact ⟨_, cnt1, HRG5, HB5, ⟨_, _, HD5.out⟩⟩
      case measure => rw [HRG5.out.left_eq, hrg.out.left_eq]; exact HLT.out
theorem dk_copy {S : Nat → Prop} {w : World} {a : Nat} {d : Dk} (h : DK S w a d) : Calls Try.prog 27 #[ptr a] w fun e w' => ∃ a', e = .returned (ptr a') ∧ DK (fun k => w.heap.size ≤ k ∧ k < w'.heap.size) w' a' d ∧ Below w.heap.size w w' := by
  obtain ⟨m, ρ, δ, h⟩ := h
  exact copy_any h
end
end Go.Proofs.Ytefgnlijgomgpaa
