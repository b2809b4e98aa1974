/- The document's net (raceref13): Send, Twice. Conditions: no more than a million mails; bytes as a row holds them. -/
import Derived.Test.YtcgbjpmmbbldpaaMd
import Derived.Test.YtcgbjpmmbbldpaaBy
import Derived.Deep.QuietTactic
import Derived.BigQuiet
namespace Go.Proofs.Ytcgbjpmmbbldpaa
open Go.ChangeShapes Go.WideShapes Go.ChangeAt Go.RowKit Go.Deep
theorem own_grown_by {w w' : World} {B C e f n m a b : Nat} {v u : Value} {xs ys : List Value} (h : w.ownsRow B e a v n xs) (h2 : w.ownsRow C f b u m ys) (hef : e ≠ f) (hg : w.grownBy w' u.ownBlock) : w'.ownsRow B e a v n xs := by
  refine ⟨h.1, ?_⟩
  rcases h.2 with h0 | ⟨g, cap, cur, rfl, hb, hg1, r⟩
  · exact .inl h0
  · have hne := own_apart h h2 hef g rfl
    exact .inr ⟨g, cap, cur, rfl, hb, (hg.block g (Array.getElem?_eq_some_iff.1 hg1).1 (fun e => hne e.symm)).trans hg1, r⟩
section
variable {C : Nat → Prop} {w w2 w3 : World} {a : Nat} {room : Int} {l : List MV} {v v2 u : Value} {L : List MH} {m : MV}
/-- One mail more, its bytes in a row of their own. -/
theorem RNt.send (h : RNt C w a room l v L) (hb : Below w.heap.size w w2) (hu : w2.ownsRow w.heap.size 5 1 u m.d.length (bys m.d)) {n : Nat} (hn : L.length = n) (ho : w3.ownsRow 0 62 3 v2 (n + 1) (cellsG mC L ++ mC (m, u))) (hg : w2.grownBy w3 v.ownBlock) (hat : v2.ownBlock = v.ownBlock ∨ v2.ownBlock = some w2.heap.size) :
    w3.cell? ⟨a, 1, none⟩ = some v ∧ w3.frozen? ⟨a, 1, none⟩ = false ∧ RN (fun k => C k ∨ (w.heap.size ≤ k ∧ k < w3.heap.size)) (w3.setCell ⟨a, 1, none⟩ v2) a room (l ++ [m]) ∧ Way C w (fun k => C k ∨ (w.heap.size ≤ k ∧ k < w3.heap.size)) (w3.setCell ⟨a, 1, none⟩ v2) := by
  have t1 : Tn C w w3 := (Tn.of_below hb).grown hg (fun k hk _ => h.ml.row k hk)
  have hrow := own_below h.ml.own hb
  have hne := own_ne h.ml.own h.box (by decide)
  have ha := h.alt
  have hb2 := (Tn.of_below (S := fun _ => False) hb).at_ h.box (fun e => e)
  have hb3 : w3.heap[a]? = some (.cells #[.int .i64 room, v] 60 (0, 0)) := (hg.block a (Nat.lt_of_lt_of_le ha hb.size) (fun e => hne a e.symm rfl)).trans hb2
  have t2 : Tn (· = a) w3 (w3.setCell ⟨a, 1, none⟩ v2) := tn_set (Tn.refl _ _) _
  have hs2 := hb.size
  have hs3 := hg.size
  have hv2 : ∀ k, v2.ownBlock = some k → C k ∨ (w.heap.size ≤ k ∧ k < w3.heap.size) := fun k hk => by
    rcases hat with e | e
    · exact .inl (h.ml.row k (e ▸ hk))
    · rw [e] at hk
      injection hk with hk
      subst hk
      refine .inr ⟨hs2, ?_⟩
      exact (ho.lt _ e).2
  have hv2a : ∀ k, v2.ownBlock = some k → ¬ k = a := own_ne ho hb3 (by decide)
  have hda : ∀ x : MH, w2.ownsRow 0 5 1 x.2 x.1.d.length (bys x.1.d) → (∀ k, x.2.ownBlock = some k → C k ∨ (w.heap.size ≤ k ∧ k < w3.heap.size)) → DA (fun k => C k ∨ (w.heap.size ≤ k ∧ k < w3.heap.size)) (w3.setCell ⟨a, 1, none⟩ v2) x := fun x hx hr => by
    have h3 := own_grown_by hx hrow (by decide) hg
    exact ⟨own_tn h3 t2 (DA.ne (C := fun k => x.2.ownBlock = some k) ⟨h3, fun k hk => hk⟩ hb3 (by decide)), hr⟩
  refine ⟨by simp [World.cell?, hb3], by simp [World.frozen?, hb3], ⟨v2, L ++ [(m, u)], heap_set hb3 v2 rfl, ⟨?_, hv2, ?_⟩, by rw [List.map_append, h.eq]; rfl, .inl h.ca, ?_⟩, ⟨t1.trans t2 (fun k _ e => by rw [e]; exact h.ca), fun k hk => ?_⟩⟩
  · rw [List.length_append, cellsG_append, cellsG_one, hn]
    exact own_tn ho t2 hv2a
  · intro x hx
    rcases List.mem_append.1 hx with hx | hx
    · have := (h.ml.dat x hx).below hb
      exact hda x this.own (fun k hk => .inl (this.row k hk))
    · obtain rfl : x = (m, u) := by simpa using hx
      exact hda _ (own_mono hu (Nat.zero_le _)) (fun k hk => .inr ⟨(hu.lt k hk).1, Nat.lt_of_lt_of_le (hu.lt k hk).2 hs3⟩)
  · intro k hk
    rcases hk with hk | hk
    · have := h.lt k hk; simp; omega
    · simpa using hk.2
  · rcases hk with hk | hk
    · exact .inl hk
    · exact .inr (by simpa using hk)
end
section
variable {C D : Nat → Prop} {w : World} {a : Nat} {room : Int} {l : List MV}
/-- What Send leaves. -/
def RSent (C : Nat → Prop) (w : World) (a : Nat) (room : Int) (l' : List MV) (r : Int) (e : Ending) (w' : World) : Prop :=
  e = .returned (.int .i64 r) ∧ ∃ C', RN C' w' a room l' ∧ (∀ k, C k → C' k) ∧ Way C w C' w'
set_option maxRecDepth 100000 in
set_option maxHeartbeats 4000000 in
theorem rsend_any (h : RN C w a room l) (f t : Int) {ao : Option Addr} {cap : Nat} {d : List UInt8} (hd : SB D w ao d.length cap d) (hroom : d.length ≤ 100000000) (hl : l.length ≤ 1000000) :
    Calls Try.prog 25 #[ptr a, .int .i64 f, .int .i64 t, .slice ao d.length cap] w (RSent C w a room (if room ≤ l.length then l else l ++ [⟨f, t, d⟩]) (if room ≤ l.length then 11 else 0)) := by
  obtain ⟨i0, hi, hz0, hz1, hz2⟩ := info_parts info_rm
  have H := Lib.hid h
  have HD := Lib.hid hd
  obtain ⟨v, L, hr⟩ := h
  have c0 := hr.c0
  have c1 := hr.c1
  obtain ⟨vo, vc, e⟩ := own_slice hr.ml.own
  subst e
  have hln := hr.len
  rw [hln] at c1
  obtain ⟨n, hn⟩ : ∃ n, l.length = n := ⟨_, rfl⟩
  rw [hn] at c1 hl hln
  have HLN := Lib.hid hln
  have HR := Lib.hid hr
  by_cases hf : room ≤ (n : Int)
  · rw [if_pos (by rw [hn]; exact hf), if_pos (by rw [hn]; exact hf)]
    have hg : (n : Int) ≥ room := hf
    clear hr hd hn hln hf
    go_enter Try.func25, Try.ntmps25
    go_wp2
    go_quiet (fail)
    go_wp2
    go_ret
    exact ⟨rfl, C, H.out.below (below_drewN _ _), fun _ h => h, Way.of_below (below_drewN _ _)⟩
  · rw [if_neg (by rw [hn]; exact hf), if_neg (by rw [hn]; exact hf)]
    have hg : ¬ (n : Int) ≥ room := hf
    clear hr hd hn hln hf
    go_enter Try.func25, Try.ntmps25
    go_wp2
    go_quiet (fail)
    go_wp2_with fail
    refine wp_region_any (by kernel_rfl) ?_
    change wpAny _ _ _ _ _ _ _ (World.drew _)
    have HB0 := Lib.hid ((below_drewN w nq).drew)
    clear c0 c1 H
    generalize (w.drewN nq).drew = W1 at *
    have HR := Lib.hid (HR.out.below HB0.out)
    have HD := Lib.hid (HD.out.below HB0.out)
    have HCB := Lib.hid (copyBytes_any HD.out (by omega))
    have HAL := Lib.hid HR.out.alt
    have HV := Lib.hid HR.out.ml.own
    have hc1 := HR.out.c1
    rw [HLN.out] at hc1 HV HR
    have HC1 := Lib.hid hc1
    have c1 := hc1
    clear hc1
    refine wpAny_take (i := 0) (v := ?vz9_0) rfl (by kernel_rfl) (by kernel_rfl) (by kernel_rfl) (fun _ _ _ h => h) (Or.inl ⟨by rfl, ?yz9_0⟩) ?rz9_0
    case yz9_0 => first | (intro W; go_simp; done) | (intro W; go_simp; with_reducible rfl)
    go_simp
    refine wpAny_take (i := 1) (v := ?vz10_1) rfl (by kernel_rfl) (by kernel_rfl) (by kernel_rfl) (fun _ _ _ h => h) (Or.inl ⟨by rfl, ?yz10_1⟩) ?rz10_1
    case yz10_1 => first | (intro W; go_simp; done) | (intro W; go_simp; with_reducible rfl)
    go_simp
    refine wpAny_take (i := 2) (v := ?vz11_2) rfl (by kernel_rfl) (by kernel_rfl) (by kernel_rfl) (fun _ _ _ h => h) (Or.inl ⟨by rfl, ?yz11_2⟩) ?rz11_2
    case yz11_2 => first | (intro W; go_simp; done) | (intro W; go_simp; with_reducible rfl)
    go_simp
    refine wpAny_take (i := 3) (v := ?vz12_3) rfl (by kernel_rfl) (by kernel_rfl) (by kernel_rfl) (fun _ _ _ h => h) (Or.inl ⟨by rfl, ?yz12_3⟩) ?rz12_3
    case yz12_3 => first | (intro W; go_simp; done) | (intro W; go_simp; with_reducible rfl)
    go_simp
    refine wpAny_take (i := 5) (v := ?vz13_5) rfl (by kernel_rfl) (by kernel_rfl) (by kernel_rfl) (fun _ _ _ h => h) (Or.inl ⟨by rfl, ?yz13_5⟩) ?rz13_5
    case yz13_5 => first | (intro W; go_simp; done) | (intro W; go_simp; with_reducible rfl)
    go_simp
    refine wpAny_take (i := 6) (v := ?vz14_6) rfl (by kernel_rfl) (by kernel_rfl) (by kernel_rfl) (fun _ _ _ h => h) (Or.inl ⟨by rfl, ?yz14_6⟩) ?rz14_6
    case yz14_6 => first | (intro W; go_simp; done) | (intro W; go_simp; with_reducible rfl)
    go_simp
    refine wpAny_take (i := 7) (v := ?vz15_7) rfl (by kernel_rfl) (by kernel_rfl) (by kernel_rfl) (fun _ _ _ h => h) (Or.inl ⟨by rfl, ?yz15_7⟩) ?rz15_7
    case yz15_7 => first | (intro W; go_simp; done) | (intro W; go_simp; with_reducible rfl)
    go_simp
    refine wpAny_ready (rs := [4, 8]) (by kernel_rfl) (by simp) ?_
    refine AllReady.cons rfl (fun K hK => ?_) (AllReady.cons rfl (fun K hK => ?_) (AllReady.nil))
    · go_simp
      go_wp2_with (first | fail)
      refine wpAny_ready (rs := [8]) (by kernel_rfl) (by simp) ?_
      refine AllReady.cons rfl (fun K hK => ?_) (AllReady.nil)
      go_simp
      go_wp2_with (go_at_call 24; refine (HCB.out).mono ?_; rintro e w2 ⟨uo, uc, rfl, ho, hb⟩; have HO2 := Lib.hid ho; have HB2 := Lib.hid hb; have c1 := (hb.cell (p := ⟨a, 1, none⟩) HAL.out).trans HC1.out; clear ho hb)
      refine wpAny_take (i := 9) (v := ?vz1_9) rfl (by kernel_rfl) (by kernel_rfl) (by kernel_rfl) (fun _ _ _ h => h) (Or.inl ⟨by rfl, ?yz1_9⟩) ?rz1_9
      case yz1_9 => first | (intro W; go_simp; done) | (intro W; go_simp; with_reducible rfl)
      go_simp
      refine wpAny_ready (rs := [10]) (by kernel_rfl) (by simp) ?_
      refine AllReady.cons rfl (fun K hK => ?_) (AllReady.nil)
      go_simp
      go_wp2_with (first | fail)
      have HU2 := Lib.hid (own_below HO2.out (below1 w2 (mobj 62 (⟨f, t, d⟩, .slice uo d.length uc))))
      have HV2 := Lib.hid (own_below HV.out HB2.out)
      have HW2 := Lib.hid (HB2.out.alloc HB2.out.size (mobj 62 (⟨f, t, d⟩, .slice uo d.length uc)))
      have hone := DA.one (C := fun k => (Value.slice uo d.length uc).ownBlock = some k) (x := (⟨f, t, d⟩, .slice uo d.length uc)) ⟨own_mono HO2.out (Nat.zero_le _), fun k hk => hk⟩
      refine wpAny_ready (rs := [11]) (by kernel_rfl) (by simp) ?_
      refine AllReady.cons rfl (fun K hK => ?_) (AllReady.nil)
      refine step_append_at rfl (.tmp 23) (.tmp 29) 58 rfl 0 62 i0 (.agg #[.int .i64 0, .int .i64 0, .slice none 0 0]) 3 40 under_rms hi hz0 hz1 hz2 rfl (by decide) _ _ _ (by simp [Act.eval]) (HV2.out.alloc _) ⟨w2.heap.size, 0, none⟩ 1 1 (mC (⟨f, t, d⟩, .slice uo d.length uc)) (by simp [Act.eval]) rfl (cells_ml _ (⟨f, t, d⟩, .slice uo d.length uc) _ _ rfl) hone (by unfold maxLen; omega) (by omega) (Nat.zero_le _) ?_
      intro v2 w3 hown' hgrow hat
      obtain ⟨v3, c3, e⟩ := own_slice hown'
      subst e
      have HS3 := Lib.hid (HR.out.send HW2.out (m := ⟨f, t, d⟩) HU2.out HLN.out hown' hgrow hat)
      have b3 := HS3.out.1
      have g3 := HS3.out.2.1
      clear hown' hgrow hat hone c1
      refine hK _ _ ?_
      clear hK K
      try go_simp
      refine wpAny_take (i := 12) (v := ?vz2_12) rfl (by kernel_rfl) (by kernel_rfl) (by kernel_rfl) (fun _ _ _ h => h) (Or.inl ⟨by rfl, ?yz2_12⟩) ?rz2_12
      case yz2_12 => first | (intro W; go_simp; done) | (intro W; go_simp; with_reducible rfl)
      go_simp
      refine wpAny_take (i := 13) (v := ?vz3_13) rfl (by kernel_rfl) (by kernel_rfl) (by kernel_rfl) (fun _ _ _ h => h) (Or.inl ⟨by rfl, ?yz3_13⟩) ?rz3_13
      case yz3_13 => first | (intro W; go_simp; done) | (intro W; go_simp; with_reducible rfl)
      go_simp
      refine wpAny_ready (rs := [14]) (by kernel_rfl) (by simp) ?_
      refine AllReady.cons rfl (fun K hK => ?_) (AllReady.nil)
      go_simp
      go_wp2_with (first | fail)
      refine wpAny_done (by kernel_rfl) ?_ _
      go_wp2
      go_ret
      exact ⟨rfl, _, HS3.out.2.2.1, fun k hk => .inl hk, (Way.of_below HB0.out).trans HS3.out.2.2.2⟩
    · go_simp
      go_wp2_with (go_at_call 24; refine (HCB.out).mono ?_; rintro e w2 ⟨uo, uc, rfl, ho, hb⟩; have HO2 := Lib.hid ho; have HB2 := Lib.hid hb; have c1 := (hb.cell (p := ⟨a, 1, none⟩) HAL.out).trans HC1.out; clear ho hb)
      refine wpAny_take (i := 9) (v := ?vz8_9) rfl (by kernel_rfl) (by kernel_rfl) (by kernel_rfl) (fun _ _ _ h => h) (Or.inl ⟨by rfl, ?yz8_9⟩) ?rz8_9
      case yz8_9 => first | (intro W; go_simp; done) | (intro W; go_simp; with_reducible rfl)
      go_simp
      refine wpAny_ready (rs := [4, 10]) (by kernel_rfl) (by simp) ?_
      refine AllReady.cons rfl (fun K hK => ?_) (AllReady.cons rfl (fun K hK => ?_) (AllReady.nil))
      · go_simp
        go_wp2_with (first | fail)
        refine wpAny_ready (rs := [10]) (by kernel_rfl) (by simp) ?_
        refine AllReady.cons rfl (fun K hK => ?_) (AllReady.nil)
        go_simp
        go_wp2_with (first | fail)
        have HU2 := Lib.hid (own_below HO2.out (below1 w2 (mobj 62 (⟨f, t, d⟩, .slice uo d.length uc))))
        have HV2 := Lib.hid (own_below HV.out HB2.out)
        have HW2 := Lib.hid (HB2.out.alloc HB2.out.size (mobj 62 (⟨f, t, d⟩, .slice uo d.length uc)))
        have hone := DA.one (C := fun k => (Value.slice uo d.length uc).ownBlock = some k) (x := (⟨f, t, d⟩, .slice uo d.length uc)) ⟨own_mono HO2.out (Nat.zero_le _), fun k hk => hk⟩
        refine wpAny_ready (rs := [11]) (by kernel_rfl) (by simp) ?_
        refine AllReady.cons rfl (fun K hK => ?_) (AllReady.nil)
        refine step_append_at rfl (.tmp 23) (.tmp 29) 58 rfl 0 62 i0 (.agg #[.int .i64 0, .int .i64 0, .slice none 0 0]) 3 40 under_rms hi hz0 hz1 hz2 rfl (by decide) _ _ _ (by simp [Act.eval]) (HV2.out.alloc _) ⟨w2.heap.size, 0, none⟩ 1 1 (mC (⟨f, t, d⟩, .slice uo d.length uc)) (by simp [Act.eval]) rfl (cells_ml _ (⟨f, t, d⟩, .slice uo d.length uc) _ _ rfl) hone (by unfold maxLen; omega) (by omega) (Nat.zero_le _) ?_
        intro v2 w3 hown' hgrow hat
        obtain ⟨v3, c3, e⟩ := own_slice hown'
        subst e
        have HS3 := Lib.hid (HR.out.send HW2.out (m := ⟨f, t, d⟩) HU2.out HLN.out hown' hgrow hat)
        have b3 := HS3.out.1
        have g3 := HS3.out.2.1
        clear hown' hgrow hat hone c1
        refine hK _ _ ?_
        clear hK K
        try go_simp
        refine wpAny_take (i := 12) (v := ?vz4_12) rfl (by kernel_rfl) (by kernel_rfl) (by kernel_rfl) (fun _ _ _ h => h) (Or.inl ⟨by rfl, ?yz4_12⟩) ?rz4_12
        case yz4_12 => first | (intro W; go_simp; done) | (intro W; go_simp; with_reducible rfl)
        go_simp
        refine wpAny_take (i := 13) (v := ?vz5_13) rfl (by kernel_rfl) (by kernel_rfl) (by kernel_rfl) (fun _ _ _ h => h) (Or.inl ⟨by rfl, ?yz5_13⟩) ?rz5_13
        case yz5_13 => first | (intro W; go_simp; done) | (intro W; go_simp; with_reducible rfl)
        go_simp
        refine wpAny_ready (rs := [14]) (by kernel_rfl) (by simp) ?_
        refine AllReady.cons rfl (fun K hK => ?_) (AllReady.nil)
        go_simp
        go_wp2_with (first | fail)
        refine wpAny_done (by kernel_rfl) ?_ _
        go_wp2
        go_ret
        exact ⟨rfl, _, HS3.out.2.2.1, fun k hk => .inl hk, (Way.of_below HB0.out).trans HS3.out.2.2.2⟩
      · go_simp
        go_wp2_with (first | fail)
        have c1 := ((below1 w2 (mobj 62 (⟨f, t, d⟩, .slice uo d.length uc))).cell (p := ⟨a, 1, none⟩) (Nat.lt_of_lt_of_le HAL.out HB2.out.size)).trans c1
        dsimp only [mobj] at c1
        refine wpAny_ready (rs := [4]) (by kernel_rfl) (by simp) ?_
        refine AllReady.cons rfl (fun K hK => ?_) (AllReady.nil)
        go_simp
        go_wp2_with (first | fail)
        have HU2 := Lib.hid (own_below HO2.out (below1 w2 (mobj 62 (⟨f, t, d⟩, .slice uo d.length uc))))
        have HV2 := Lib.hid (own_below HV.out HB2.out)
        have HW2 := Lib.hid (HB2.out.alloc HB2.out.size (mobj 62 (⟨f, t, d⟩, .slice uo d.length uc)))
        have hone := DA.one (C := fun k => (Value.slice uo d.length uc).ownBlock = some k) (x := (⟨f, t, d⟩, .slice uo d.length uc)) ⟨own_mono HO2.out (Nat.zero_le _), fun k hk => hk⟩
        refine wpAny_ready (rs := [11]) (by kernel_rfl) (by simp) ?_
        refine AllReady.cons rfl (fun K hK => ?_) (AllReady.nil)
        refine step_append_at rfl (.tmp 23) (.tmp 29) 58 rfl 0 62 i0 (.agg #[.int .i64 0, .int .i64 0, .slice none 0 0]) 3 40 under_rms hi hz0 hz1 hz2 rfl (by decide) _ _ _ (by simp [Act.eval]) (HV2.out.alloc _) ⟨w2.heap.size, 0, none⟩ 1 1 (mC (⟨f, t, d⟩, .slice uo d.length uc)) (by simp [Act.eval]) rfl (cells_ml _ (⟨f, t, d⟩, .slice uo d.length uc) _ _ rfl) hone (by unfold maxLen; omega) (by omega) (Nat.zero_le _) ?_
        intro v2 w3 hown' hgrow hat
        obtain ⟨v3, c3, e⟩ := own_slice hown'
        subst e
        have HS3 := Lib.hid (HR.out.send HW2.out (m := ⟨f, t, d⟩) HU2.out HLN.out hown' hgrow hat)
        have b3 := HS3.out.1
        have g3 := HS3.out.2.1
        clear hown' hgrow hat hone c1
        refine hK _ _ ?_
        clear hK K
        try go_simp
        refine wpAny_take (i := 12) (v := ?vz6_12) rfl (by kernel_rfl) (by kernel_rfl) (by kernel_rfl) (fun _ _ _ h => h) (Or.inl ⟨by rfl, ?yz6_12⟩) ?rz6_12
        case yz6_12 => first | (intro W; go_simp; done) | (intro W; go_simp; with_reducible rfl)
        go_simp
        refine wpAny_take (i := 13) (v := ?vz7_13) rfl (by kernel_rfl) (by kernel_rfl) (by kernel_rfl) (fun _ _ _ h => h) (Or.inl ⟨by rfl, ?yz7_13⟩) ?rz7_13
        case yz7_13 => first | (intro W; go_simp; done) | (intro W; go_simp; with_reducible rfl)
        go_simp
        refine wpAny_ready (rs := [14]) (by kernel_rfl) (by simp) ?_
        refine AllReady.cons rfl (fun K hK => ?_) (AllReady.nil)
        go_simp
        go_wp2_with (first | fail)
        refine wpAny_done (by kernel_rfl) ?_ _
        go_wp2
        go_ret
        exact ⟨rfl, _, HS3.out.2.2.1, fun k hk => .inl hk, (Way.of_below HB0.out).trans HS3.out.2.2.2⟩
end
end Go.Proofs.Ytcgbjpmmbbldpaa
