/- disk.Files tells the files by rising names, in new memory. Conditions: none of its own. -/
import Derived.Test.YtefgnlijgomgpaaU
namespace Go.Proofs.Ytefgnlijgomgpaa
open Go.RowKit
section
variable {S : Nat → Prop} {w : World} {a m : Nat} {d : Dk} {ρ : Nm → Nat} {δ : Nm → Value} {s : Nm} {x : Fi}
theorem FO.mono {C D : Nat → Prop} {v : Value} {us : List (Nm × Value × Int)} {l : List FV} (h : FO C w v us l) (hd : ∀ k, k < w.heap.size → C k → D k) : FO D w v us l :=
  ⟨h.own, h.len, h.at_, fun k hk => hd k (h.own.lt k hk).2 (h.row k hk), fun i h1 k hk => hd k ((h.at_ i h1 (by rw [← h.len]; exact h1)).2.2.lt k hk).2 (h.rows i h1 k hk)⟩
theorem FO.nil (C : Nat → Prop) (w : World) : FO C w (.slice none 0 0) [] [] := ⟨World.ownsRow_nil _ _ _ _, rfl, fun _ h => (nomatch h), fun _ h => (nomatch h), fun _ h => (nomatch h)⟩
theorem FO.snoc {C : Nat → Prop} {w2 w3 : World} {v v3 : Value} {us : List (Nm × Value × Int)} {l : List FV} {q : FV} {u : Value} (h : FO C w2 v us l) (hg : w2.grownBy w3 v.ownBlock) (ho : w3.ownsRow 0 43 3 v3 (l.length + 1) (cellsF (us ++ [(q.name, u, q.safe)])))
    (hl : v3.ownBlock = v.ownBlock ∨ v3.ownBlock = some w2.heap.size) (hu : w2.ownsRow 0 5 1 u q.data.length (bys q.data)) (hCu : ∀ k, u.ownBlock = some k → C k) (hC : C w2.heap.size) : FO C w3 v3 (us ++ [(q.name, u, q.safe)]) (l ++ [q]) := by
  have hk : ∀ {n : Nat} {t : Value} {xs : List Value}, w2.ownsRow 0 5 1 t n xs → w3.ownsRow 0 5 1 t n xs := fun {n t xs} ht => ht.kept hg (by
    cases e : t.ownBlock with
    | none => exact .inl rfl
    | some j => exact .inr (fun e2 => own_apart ht h.own (by decide) j e e2.symm))
  refine ⟨by rw [List.length_append]; exact ho, by rw [List.length_append, List.length_append, h.len]; rfl, fun i h1 h2 => ?_, fun k hk => ?_, fun i h1 k hk => ?_⟩
  · by_cases hi : i < us.length
    · rw [List.getElem_append_left hi, List.getElem_append_left (by rw [← h.len]; exact hi)]
      obtain ⟨e1, e2, e3⟩ := h.at_ i hi (by rw [← h.len]; exact hi)
      exact ⟨e1, e2, hk e3⟩
    · have he : i = us.length := by simp at h1; omega
      subst he
      have hll := h.len
      rw [List.getElem_append_right (Nat.le_refl _), List.getElem_append_right (by omega)]
      simp only [Nat.sub_self, List.getElem_cons_zero, hll]
      exact ⟨trivial, trivial, hk hu⟩
  · rcases hl with e | e
    · exact h.row k (e ▸ hk)
    · rw [e] at hk; cases hk; exact hC
  · by_cases hi : i < us.length
    · rw [List.getElem_append_left hi] at hk
      exact h.rows i hi k hk
    · have he : i = us.length := by simp at h1; omega
      subst he
      rw [List.getElem_append_right (Nat.le_refl _)] at hk
      simp only [Nat.sub_self, List.getElem_cons_zero] at hk
      exact hCu k hk
theorem fvs_snoc {f : Ent Fi} {k : Nat} (hk : k < f.length) (hs : f[k] = (s, x)) : fvs (f.take (k + 1)) = fvs (f.take k) ++ [⟨s, x.data, (x.safe : Int)⟩] := by
  unfold fvs
  rw [List.take_succ_eq_append_getElem hk, hs, List.map_append]
  rfl
set_option maxRecDepth 100000 in
set_option maxHeartbeats 2000000 in
theorem files_own (h : DAt S w a d m ρ δ) : Calls Try.prog 23 #[ptr a] w fun e w' => ∃ v us, e = .returned v ∧ FO (fun k => w.heap.size ≤ k ∧ k < w'.heap.size) w' v us (fvs d.f) ∧ Below w.heap.size w w' := by
  have H := Lib.hid h
  have hfew := h.ok.few
  clear h
  go_enter Try.func23, Try.ntmps23
  go_wp2_with (go_at_call 31; (with_reducible refine (list_any H.out).mono ?_); rintro e w1 ⟨v, rfl, hr, hb⟩; obtain ⟨vo, vc, rfl⟩ := own_slice hr; have HR := Lib.hid hr; have HB := Lib.hid hb; clear hr hb)
  go_loopw [3, 5, 6, 10] (fun v _ _ i wr => ∃ k : Nat, k ≤ d.f.length ∧ i = .int .i64 k ∧ Hid (∃ us, FO (fun k => w1.heap.size ≤ k) wr v us (fvs (d.f.take k))) ∧ Hid (Below w1.heap.size w1 wr)) (fun _ _ _ i _ => d.f.length - (intOf i).toNat)
  case atStart => exact ⟨0, Nat.zero_le _, rfl, ⟨[], FO.nil _ _⟩, Below.refl _ _⟩
  case round =>
    obtain ⟨k, hk, rfl, HF, HW⟩ := hrel
    obtain ⟨us, hfo⟩ := HF.out
    have hlen : (fvs (d.f.take k)).length = k := by unfold fvs; rw [List.length_map, List.length_take]; omega
    obtain ⟨fo, fc, hfv⟩ := own_slice hfo.own
    rw [hlen] at hfv
    subst hfv
    have HFO := Lib.hid hfo
    have HLN := Lib.hid hlen
    clear HF hfo hlen
    by_cases hlt : k < d.f.length
    · have hd := H.out.below (HB.out.trans (HW.out.mono HB.out.size))
      obtain ⟨⟨s, x⟩, hsx⟩ : ∃ p, d.f[k] = p := ⟨_, rfl⟩
      have hrow := own_below HR.out HW.out
      obtain ⟨g, gc, hg⟩ := own_shape hrow (by omega)
      cases hg
      have hcell := hrow.cellAt k (by omega)
      have hname : ((names d.f).map nmv)[k]? = some (nmv s) := by unfold names; simp [hlt, hsx]
      have hsm : (s, x) ∈ d.f := by rw [← hsx]; exact List.getElem_mem _
      have hgx := mem_get H.out.ok.rising hsm
      have hsl : s.length ≤ maxLen := by
        have := H.out.ok.nm _ hsm
        unfold isNm at this
        simp at this
        unfold maxLen; omega
      have c0 := hd.c0
      have l0 := hd.look1 hsl hgx
      have f0 := hd.f0 hgx
      have f1 := hd.f1 hgx
      have hown := hd.own hgx
      obtain ⟨ao, cap, hv⟩ := own_slice hown
      rw [hv] at f0 hown
      rw [hname] at hcell
      have hxl := get_tot H.out.ok.rising hgx
      have hroom := H.out.ok.room
      have HSX := Lib.hid (fvs_snoc hlt hsx)
      have HOW := Lib.hid (show wr.drew.ownsRow 0 5 1 (.slice ao x.data.length cap) x.data.length (bys x.data) from hown)
      have HXL : Hid (x.data.length ≤ 4194304) := by have : x.data.length ≤ 4194304 := by omega
                                                     exact this
      have HRS := Lib.hid (show ρ s < wr.drew.heap.size from hd.lt _ (hd.sf _ hsm))
      have HRS1 := Lib.hid (Nat.lt_of_lt_of_le (H.out.lt _ (H.out.sf _ hsm)) HB.out.size)
      have hk64 : k ≤ 64 := by omega
      clear hd hsx hrow hname hsm hgx hown hv hxl hroom hfew
      go_wp2
      refine wp_region_held (S := (fun w' => w'.cell? ⟨ρ s, 0, none⟩ = some (.slice ao x.data.length cap) ∧ w'.cell? ⟨ρ s, 1, none⟩ = some (.int .i64 (x.safe : Int)))) (by kernel_rfl) ?_
      change wpAnyH _ _ _ _ _ _ _ _ (World.drew _)
      refine wpAnyH_take (i := 0) (v := ?vf_0) rfl (by kernel_rfl) (by kernel_rfl) (by kernel_rfl) (fun _ _ _ h => h) (Or.inl ⟨by rfl, ?yf_0⟩) ⟨f0, f1⟩ ?rf_0
      case yf_0 => (intro W hSw; (try dsimp only at hSw); obtain ⟨_, _⟩ := hSw; first | (go_simp; done) | (go_simp; with_reducible rfl))
      try go_simp
      refine wpAnyH_take (i := 1) (v := ?vf_1) rfl (by kernel_rfl) (by kernel_rfl) (by kernel_rfl) (fun _ _ _ h => h) (Or.inl ⟨by rfl, ?yf_1⟩) ⟨f0, f1⟩ ?rf_1
      case yf_1 => (intro W hSw; (try dsimp only at hSw); obtain ⟨_, _⟩ := hSw; first | (go_simp; done) | (go_simp; with_reducible rfl))
      try go_simp
      refine wpAnyH_take (i := 2) (v := ?vf_2) rfl (by kernel_rfl) (by kernel_rfl) (by kernel_rfl) (fun _ _ _ h => h) (Or.inl ⟨by rfl, ?yf_2⟩) ⟨f0, f1⟩ ?rf_2
      case yf_2 => (intro W hSw; (try dsimp only at hSw); obtain ⟨_, _⟩ := hSw; first | (go_simp; done) | (go_simp; with_reducible rfl))
      try go_simp
      refine wpAnyH_take (i := 3) (v := ?vf_3) rfl (by kernel_rfl) (by kernel_rfl) (by kernel_rfl) (fun _ _ _ h => h) (Or.inl ⟨by rfl, ?yf_3⟩) ⟨f0, f1⟩ ?rf_3
      case yf_3 => (intro W hSw; (try dsimp only at hSw); obtain ⟨_, _⟩ := hSw; first | (go_simp; done) | (go_simp; with_reducible rfl))
      try go_simp
      refine wpAnyH_take (i := 4) (v := ?vf_4) rfl (by kernel_rfl) (by kernel_rfl) (by kernel_rfl) (fun _ _ _ h => h) (Or.inl ⟨by rfl, ?yf_4⟩) ⟨f0, f1⟩ ?rf_4
      case yf_4 => (intro W hSw; (try dsimp only at hSw); obtain ⟨_, _⟩ := hSw; first | (go_simp; done) | (go_simp; with_reducible rfl))
      try go_simp
      refine wpAnyH_take (i := 5) (v := ?vf_5) rfl (by kernel_rfl) (by kernel_rfl) (by kernel_rfl) (fun _ _ _ h => h) (Or.inl ⟨by rfl, ?yf_5⟩) ⟨f0, f1⟩ ?rf_5
      case yf_5 => (intro W hSw; (try dsimp only at hSw); obtain ⟨_, _⟩ := hSw; first | (go_simp; done) | (go_simp; with_reducible rfl))
      try go_simp
      refine wpAnyH_take (i := 7) (v := ?vf_7) rfl (by kernel_rfl) (by kernel_rfl) (by kernel_rfl) (fun _ _ _ h => h) (Or.inl ⟨by rfl, ?yf_7⟩) ⟨f0, f1⟩ ?rf_7
      case yf_7 => (intro W hSw; (try dsimp only at hSw); obtain ⟨_, _⟩ := hSw; first | (go_simp; done) | (go_simp; with_reducible rfl))
      try go_simp
      refine wpAnyH_take (i := 8) (v := ?vf_8) rfl (by kernel_rfl) (by kernel_rfl) (by kernel_rfl) (fun _ _ _ h => h) (Or.inl ⟨by rfl, ?yf_8⟩) ⟨f0, f1⟩ ?rf_8
      case yf_8 => (intro W hSw; (try dsimp only at hSw); obtain ⟨_, _⟩ := hSw; first | (go_simp; done) | (go_simp; with_reducible rfl))
      try go_simp
      refine wpAnyH_take (i := 9) (v := ?vf_9) rfl (by kernel_rfl) (by kernel_rfl) (by kernel_rfl) (fun _ _ _ h => h) (Or.inl ⟨by rfl, ?yf_9⟩) ⟨f0, f1⟩ ?rf_9
      case yf_9 => (intro W hSw; (try dsimp only at hSw); obtain ⟨_, _⟩ := hSw; first | (go_simp; done) | (go_simp; with_reducible rfl))
      try go_simp
      refine wpAnyH_take (i := 10) (v := ?vf_10) rfl (by kernel_rfl) (by kernel_rfl) (by kernel_rfl) (fun _ _ _ h => h) (Or.inl ⟨by rfl, ?yf_10⟩) ⟨f0, f1⟩ ?rf_10
      case yf_10 => (intro W hSw; (try dsimp only at hSw); obtain ⟨_, _⟩ := hSw; first | (go_simp; done) | (go_simp; with_reducible rfl))
      try go_simp
      refine wpAnyH_ready (rs := [6]) (by kernel_rfl) (by simp) ?_
      refine AllReadyH.cons rfl (fun K hK => ?_) AllReadyH.nil
      go_simp
      (go_wp2_with (first | (go_at_call 48; (refine (clone_own (HOW.out) HXL.out).mono ?_); rintro e w2 ⟨v2, rfl, ho, hb⟩; obtain ⟨o2, c2, rfl⟩ := own_slice ho; have HO2 := Lib.hid ho; have HB2 := Lib.hid hb; have p0 := (hb.cell (p := ⟨ρ s, 0, none⟩) HRS.out).trans f0; have p1 := (hb.cell (p := ⟨ρ s, 1, none⟩) HRS.out).trans f1; have hz1 := Lib.hid (Nat.lt_of_lt_of_le HRS.out hb.size); clear ho hb)))
      refine hK.out _ _ ⟨p0, p1⟩ (fun _ => ?_)
      clear hK K
      try go_simp
      refine wpAnyH_take (i := 11) (v := ?vg_11) rfl (by kernel_rfl) (by kernel_rfl) (by kernel_rfl) (fun _ _ _ h => h) (Or.inl ⟨by rfl, ?yg_11⟩) ⟨p0, p1⟩ ?rg_11
      case yg_11 => (intro W hSw; (try dsimp only at hSw); obtain ⟨_, _⟩ := hSw; first | (go_simp; done) | (go_simp; with_reducible rfl))
      try go_simp

      refine wpAnyH_ready (rs := [12]) (by kernel_rfl) (by simp) ?_
      refine AllReadyH.cons rfl (fun K hK => ?_) AllReadyH.nil
      go_simp
      have q0 := ((below1 w2 (.cells #[nmv s, .slice o2 x.data.length c2, .int .i64 (x.safe : Int)] 43)).cell (p := ⟨ρ s, 0, none⟩) hz1.out).trans p0
      have q1 := ((below1 w2 (.cells #[nmv s, .slice o2 x.data.length c2, .int .i64 (x.safe : Int)] 43)).cell (p := ⟨ρ s, 1, none⟩) hz1.out).trans p1
      refine hK.out _ _ ⟨q0, q1⟩ (fun _ => ?_)
      clear hK K
      try go_simp
      refine wpAnyH_ready (rs := [13]) (by kernel_rfl) (by simp) ?_
      refine AllReadyH.cons rfl (fun K hK => ?_) AllReadyH.nil
      have HB3 := Lib.hid (((Below.refl _ wr).drew.trans HB2.out).trans (below1 w2 (.cells #[nmv s, .slice o2 x.data.length c2, .int .i64 (x.safe : Int)] 43) |>.mono HB2.out.size))
      have hfo3 := HFO.out.below HB3.out
      have hu3 := own_below HO2.out (below1 w2 (.cells #[nmv s, .slice o2 x.data.length c2, .int .i64 (x.safe : Int)] 43))
      refine oper_append_file (wanted_none rfl _) (.tmp 20) (.tmp 32) rfl rfl (u := (s, .slice o2 x.data.length c2, (x.safe : Int))) (by have h9 := hfo3.own; rw [HLN.out] at h9; exact h9) rfl (heap_alloc_new w2 _) rfl (by omega) ?_
      intro v3 w3 ho3 hg3 hl3
      have hg4 : (w2.alloc (.cells #[nmv s, .slice o2 x.data.length c2, .int .i64 (x.safe : Int)] 43)).grownBy w3 (Value.slice fo k fc).ownBlock := hg3
      have hl4 : v3.ownBlock = (Value.slice fo k fc).ownBlock ∨ v3.ownBlock = some (w2.alloc (.cells #[nmv s, .slice o2 x.data.length c2, .int .i64 (x.safe : Int)] 43)).heap.size := hl3
      have hz3 : w1.heap.size ≤ (w2.alloc (.cells #[nmv s, .slice o2 x.data.length c2, .int .i64 (x.safe : Int)] 43)).heap.size := Nat.le_trans HW.out.size HB3.out.size
      have hfo4 := hfo3.snoc (q := ⟨s, x.data, (x.safe : Int)⟩) (u := .slice o2 x.data.length c2) hg4 (by rw [HLN.out]; exact ho3) hl4 (own_mono hu3 (Nat.zero_le _)) (fun j hj => Nat.le_trans HW.out.size (HO2.out.lt j hj).1) hz3
      have hne : ∀ i : Nat, some (ρ s) ≠ (Value.slice fo k fc).ownBlock := fun _ e => by have := hfo3.row _ e.symm; have := HRS1.out; omega
      have r0 := hg4.cell q0 (hne 0)
      have r1 := hg4.cell q1 (hne 1)
      have HFO4 := Lib.hid hfo4
      have HB5 := Lib.hid (((HW.out.trans (HB3.out.mono HW.out.size))).grown hg4 hz3 (fun j hj => hfo3.row j hj))
      obtain ⟨o3, c3, rfl⟩ := own_slice ho3
      clear hfo4 hfo3 hu3 ho3 hg3 hg4 hl3 hl4 hz3 hne q0 q1 p0 p1 f0 f1
      try go_simp
      refine hK.out _ _ ⟨r0, r1⟩ (fun _ => ?_)
      clear hK K
      try go_simp
      refine wpAnyH_take (i := 14) (v := ?vh_14) rfl (by kernel_rfl) (by kernel_rfl) (by kernel_rfl) (fun _ _ _ h => h) (Or.inl ⟨by rfl, ?yh_14⟩) ⟨r0, r1⟩ ?rh_14
      case yh_14 => (intro W hSw; (try dsimp only at hSw); obtain ⟨_, _⟩ := hSw; first | (go_simp; done) | (go_simp; with_reducible rfl))
      try go_simp
      refine wpAnyH_done (by kernel_rfl) ?_ _
      try go_wp2
      go_roundw
      case rel => exact ⟨k + 1, by omega, by go_num, ⟨_, by rw [HSX.out]; exact HFO4.out⟩, HB5⟩
      case measure => simp [intOf]; omega
    · obtain rfl : k = d.f.length := by omega
      go_wp2
      go_ret
      have h1 := HFO.out
      rw [List.take_length] at h1
      exact ⟨_, us, rfl, h1.mono (fun j hj hc => ⟨Nat.le_trans HB.out.size hc, hj⟩), HB.out.trans (HW.out.mono HB.out.size)⟩
end
end Go.Proofs.Ytefgnlijgomgpaa
