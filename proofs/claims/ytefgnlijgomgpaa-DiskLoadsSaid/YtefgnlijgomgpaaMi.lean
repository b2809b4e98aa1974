/- raceref6.Disk: put. Conditions: none of its own. -/
import Derived.Test.YtefgnlijgomgpaaMh
namespace Go.Proofs.Ytefgnlijgomgpaa
open Go.RowKit
section
variable {C D S : Nat → Prop} {w w' : World} {a : Nat} {d : Dk} {v : Value} {us : List (Nm × Value × Int)} {s : Nm} {x : Fi}
theorem put_fvs {f : Ent Fi} {j : Nat} (hn : get f s = none) (hj : j ≤ f.length) (hlo : ∀ i (h : i < f.length), i < j → f[i].1 < s) (hhi : ∀ h : j < f.length, ¬ f[j].1 < s) : fvs (put f s x) = (fvs (f.take j) ++ [⟨s, x.data, (x.safe : Int)⟩]) ++ fvs (f.drop j) := by
  unfold put
  rw [del_of_none hn, ins_at hj hlo hhi, fvs_append, List.append_assoc]
  rfl
theorem RAt.ones (h : RAt C w a d v us) : ∀ u ∈ us, u.2.1.oneCell' = true := by
  intro u hu
  obtain ⟨i, hi, rfl⟩ := List.getElem_of_mem hu
  obtain ⟨_, _, e⟩ := h.fo.at_ i hi (by rw [← h.fo.len]; exact hi)
  obtain ⟨ao, cap, e2⟩ := own_slice e
  rw [e2]
  rfl
theorem RAt.news {g cap : Nat} (h : RAt C w a d (.slice (some ⟨g, 0, none⟩) (fvs d.f).length cap) us) (j : Nat) : ∀ i y, (cellsF (us.drop j))[i]? = some y → w.cell? ⟨g, j * 3 + i, none⟩ = some y := by
  intro i y hy
  rw [cellsF_drop, List.getElem?_drop] at hy
  have hi := (List.getElem?_eq_some_iff.1 hy).1
  rw [cellsF_length, h.fo.len] at hi
  have h9 := h.fo.own.cellAt (j * 3 + i) hi
  rw [h9]
  exact hy
theorem RAt.rest {E : Nat → Prop} (h : RAt C w a d v us) (hE : ∀ k, C k → E k) (j : Nat) : ∀ i (h1 : i < (us.drop j).length) (h2 : i < (fvs (d.f.drop j)).length), (us.drop j)[i].1 = (fvs (d.f.drop j))[i].name ∧ (us.drop j)[i].2.2 = (fvs (d.f.drop j))[i].safe ∧ w.ownsRow 0 5 1 (us.drop j)[i].2.1 (fvs (d.f.drop j))[i].data.length (bys (fvs (d.f.drop j))[i].data) ∧ ∀ k, (us.drop j)[i].2.1.ownBlock = some k → E k := by
  intro i h1 h2
  have h1' : j + i < us.length := by rw [List.length_drop] at h1; omega
  have h2' : j + i < (fvs d.f).length := by rw [← h.fo.len]; exact h1'
  have e : (fvs (d.f.drop j))[i] = (fvs d.f)[j + i] := by
    have e0 : fvs (d.f.drop j) = (fvs d.f).drop j := List.map_drop ..
    simp only [e0, List.getElem_drop]
  rw [e, List.getElem_drop]
  obtain ⟨a1, a2, a3⟩ := h.fo.at_ (j + i) h1' h2'
  exact ⟨a1, a2, a3, fun k hk => hE k (h.fo.rows (j + i) h1' k hk)⟩
set_option maxRecDepth 100000 in
set_option maxHeartbeats 4000000 in
theorem rput_any {u : Value} (h : RAt C w a d v us) (hn : get d.f s = none) (hu : w.ownsRow 0 5 1 u x.data.length (bys x.data)) (hok : Okr { d with f := put d.f s x }) :
    Calls Try.prog 53 #[ptr a, .agg #[nmv s, u, .int .i64 (x.safe : Int)]] w fun e w' => e = .returned (.tuple #[]) ∧ RK (Gw (fun k => C k ∨ u.ownBlock = some k) w w') w' a { d with f := put d.f s x } ∧ Tn C w w' := by
  have H := Lib.hid h
  have hfew := h.ok.few
  have HN := Lib.hid hn
  have HU := Lib.hid hu
  have HOK := Lib.hid hok
  obtain ⟨uo, uc, rfl⟩ := own_slice hu
  obtain ⟨fo, fc, rfl⟩ := own_slice h.fo.own
  have hfl := fvs_length d.f
  have hwa : a < w.heap.size := h.lt a h.ca
  clear h hn hu hok
  go_enter Try.func53, Try.ntmps53
  go_wp2
  have HB0 := Lib.hid (below1 w (.cells #[nmv s, .slice uo x.data.length uc, .int .i64 (x.safe : Int)] 43))
  have HX0 := Lib.hid (heap_alloc_new w (.cells #[nmv s, .slice uo x.data.length uc, .int .i64 (x.safe : Int)] 43))
  have hz : (w.alloc (.cells #[nmv s, .slice uo x.data.length uc, .int .i64 (x.safe : Int)] 43)).heap.size = w.heap.size + 1 := by simp
  have HZ := Lib.hid hz
  clear hz
  generalize w.alloc (.cells #[nmv s, .slice uo x.data.length uc, .int .i64 (x.safe : Int)] 43) = wB at *
  go_loopw [4, 5] (fun o i wr => ∃ j : Nat, j ≤ d.f.length ∧ i = .int .i64 j ∧ Hid (∀ i (h : i < d.f.length), i < j → d.f[i].1 < s) ∧ Hid (∃ us2, FO (fun k => C k ∨ w.heap.size ≤ k) wr o us2 (fvs (d.f.take j))) ∧ Hid (Below wB.heap.size wB wr) ∧ Hid (∀ k, o.ownBlock = some k → wB.heap.size ≤ k)) (fun _ i _ => d.f.length - (intOf i).toNat)
  case atStart => exact ⟨0, Nat.zero_le _, rfl, fun _ _ h => absurd h (Nat.not_lt_zero _), ⟨[], FO.nil _ _⟩, Below.refl _ _, fun _ hk => (nomatch hk)⟩
  case round =>
    obtain ⟨j, hj, rfl, HLO, HF, HB, HR⟩ := hrel
    have HBW := Lib.hid (HB0.out.trans (HB.out.mono HB0.out.size))
    have c0 := (H.out.below HBW.out).c0
    rw [hfl] at c0
    have b0 : wr.cell? ⟨w.heap.size, 0, none⟩ = some (nmv s) := by
      have h1 := HB.out.block w.heap.size (by have := HZ.out; omega)
      rw [HX0.out] at h1
      simp [World.cell?, h1]
    by_cases hjl : j < d.f.length
    · obtain ⟨⟨t, y⟩, hty⟩ : ∃ p, d.f[j] = p := ⟨_, rfl⟩
      obtain ⟨g, cap, bo, bc, hv, g0, g1, g2, hu, hCu⟩ := (H.out.below HBW.out).elem hjl hty
      injection hv with e1 e2 e3
      subst e1; subst e3
      have hji : (j : Int) < ((fvs d.f).length : Int) := by omega
      by_cases hlt : t < s
      · have hbl : Op.bytesLess t s = true := by rw [less_eq]; exact decide_eq_true hlt
        go_wp2
        go_big_quiet (fail)
        have HB2 := Lib.hid (HB.out.trans ((below_drewN wr nq).mono HB.out.size))
        obtain ⟨us2, hfo⟩ := HF.out
        have hfo2 := hfo.below (below_drewN wr nq)
        generalize wr.drewN nq = wz at *
        have HBW2 := Lib.hid (HB0.out.trans (HB2.out.mono HB0.out.size))
        clear c0 b0 g0 g1 g2 hu hCu hbl hfo e2
        have c0 := (H.out.below HBW2.out).c0
        rw [hfl] at c0
        obtain ⟨g', cap', bo, bc, hv, g0, g1, g2, hu, hCu⟩ := (H.out.below HBW2.out).elem hjl hty
        injection hv with e1 e2 e3
        injection e1 with e1
        injection e1 with e1
        subst e1; subst e3
        have HD : Hid (fvs (d.f.take (j + 1)) = fvs (d.f.take j) ++ [⟨t, y.data, (y.safe : Int)⟩]) := fvs_snoc hjl hty
        have HL2 : Hid (∀ i (h : i < d.f.length), i < j + 1 → d.f[i].1 < s) := fun i h hij => by
          by_cases e : i = j
          · subst e; rw [hty]; exact hlt
          · exact HLO.out i h (by omega)
        have hL : (fvs (d.f.take j)).length ≤ 1000000 := by rw [fvs_length, List.length_take]; omega
        generalize fvs (d.f.take j) = L2 at *
        obtain ⟨oo, oc, rfl⟩ := own_slice hfo2.own
        have HFO := Lib.hid hfo2
        have HUJ := Lib.hid hu
        have HCU := Lib.hid hCu
        have hsz := HBW2.out.size
        have hszB := HB2.out.size
        clear hfo2 hu hCu hty hlt HF e2
        go_wp2_with (at_builtin; refine wpList_append_file (wanted_none rfl _) (.tmp 26) (.tmp 34) rfl rfl (u := (t, .slice bo y.data.length bc, (y.safe : Int))) (HFO.out.below (below1 wz _)).own rfl (heap_alloc_new wz _) rfl hL ?_; intro v3 w3 ho3 hg3 hl3; have hfo4 := (HFO.out.below (below1 wz _)).snoc (q := ⟨t, y.data, (y.safe : Int)⟩) (u := .slice bo y.data.length bc) hg3 ho3 hl3 (own_below HUJ.out (below1 wz _)) (fun j hj => .inl (HCU.out j hj)) (.inr (by simp; omega)); have HFO4 := Lib.hid hfo4; have HB4 := Lib.hid (((HB2.out.trans ((below1 wz (.cells #[nmv t, .slice bo y.data.length bc, .int .i64 (y.safe : Int)] 43)).mono HB2.out.size))).grown hg3 (by simp; omega) (fun j hj => HR.out j hj)); have HR4 := Lib.hid (fun j (hj : v3.ownBlock = some j) => (hl3.elim (fun e => HR.out j (e ▸ hj)) (fun e => by rw [e] at hj; injection hj with hj; subst hj; simp; omega) : wB.heap.size ≤ j)); obtain ⟨o3, c3, rfl⟩ := own_slice ho3; clear hfo4 ho3 hg3 hl3)
        go_roundw
        case rel => exact ⟨j + 1, by omega, by go_num, HL2, ⟨_, by rw [HD.out]; exact HFO4.out⟩, HB4, HR4⟩
        case measure => simp [intOf]; omega
      · have hcap := own_cap H.out.fo.own
        have hfcj : ¬ fc = j := by omega
        have hfcj2 : ¬ j = fc := by omega
        have hbl : Op.bytesLess t s = false := by rw [less_eq]; exact decide_eq_false hlt
        have HHI : Hid (∀ h : j < d.f.length, ¬ d.f[j].1 < s) := fun h => by rw [hty]; exact hlt
        go_wp2
        go_big_quiet (fail)
        have HB2 := Lib.hid (HB.out.trans ((below_drewN wr nq).mono HB.out.size))
        have HBW2 := Lib.hid (HB0.out.trans (HB2.out.mono HB0.out.size))
        obtain ⟨us2, hfo⟩ := HF.out
        have hfo2 := (hfo.below (below_drewN wr nq)).mono (D := fun k => (C k ∨ (Value.slice uo x.data.length uc).ownBlock = some k) ∨ w.heap.size ≤ k) (fun k _ e => e.elim (fun e => .inl (.inl e)) .inr)
        generalize wr.drewN nq = wz at *
        clear c0 b0 g0 g1 g2 hu hCu hbl hty hlt e2
        have hxb := HB2.out.block w.heap.size (by have := HZ.out; omega)
        rw [HX0.out] at hxb
        have b0 : wz.cell? ⟨w.heap.size, 0, none⟩ = some (nmv s) := by simp [World.cell?, hxb]
        have b1 : wz.cell? ⟨w.heap.size, 1, none⟩ = some (.slice uo x.data.length uc) := by simp [World.cell?, hxb]
        have b2 : wz.cell? ⟨w.heap.size, 2, none⟩ = some (.int .i64 (x.safe : Int)) := by simp [World.cell?, hxb]
        clear hxb
        have hL : (fvs (d.f.take j)).length ≤ 1000 := by rw [fvs_length, List.length_take]; omega
        have hL1 : (fvs (d.f.take j)).length ≤ 1000000 := by omega
        have hql : (us.drop j).length = d.f.length - j := by rw [List.length_drop, H.out.fo.len, hfl]
        have hroom : ((fvs (d.f.take j)) ++ [(⟨s, x.data, (x.safe : Int)⟩ : FV)]).length + (us.drop j).length ≤ 1000000 := by rw [List.length_append, hql]; show _ + 1 + _ ≤ _; omega
        have HINS : Hid (fvs (put d.f s x) = (fvs (d.f.take j) ++ [⟨s, x.data, (x.safe : Int)⟩]) ++ fvs (d.f.drop j)) := put_fvs HN.out (by omega) HLO.out HHI.out
        generalize hLL : fvs (d.f.take j) = L2 at *
        clear hLL
        obtain ⟨oo, oc, rfl⟩ := own_slice hfo2.own
        have HFO := Lib.hid hfo2
        have HONE : Hid (∀ u ∈ us.drop j, u.2.1.oneCell' = true) := fun u hu => H.out.ones u (List.mem_of_mem_drop hu)
        have hsz := HBW2.out.size
        have hszB := HB2.out.size
        clear hfo2 hfo HF
        go_wp2_with (first
          | (at_builtin; refine wpList_append_file (wanted_none rfl _) (.tmp 38) (.tmp 40) rfl rfl (u := (s, .slice uo x.data.length uc, (x.safe : Int))) (HFO.out.below (below1 wz _)).own rfl (heap_alloc_new wz _) rfl hL1 ?_; intro v3 w3 ho3 hg3 hl3; have hfo4 := (HFO.out.below (below1 wz _)).snoc (q := ⟨s, x.data, (x.safe : Int)⟩) (u := .slice uo x.data.length uc) hg3 ho3 hl3 (own_below (own_below HU.out HBW2.out) (below1 wz _)) (fun j hj => .inl (.inr hj)) (.inr (by simp; omega)); have HFO4 := Lib.hid hfo4; have HB4 := Lib.hid (((HBW2.out.trans ((below1 wz (.cells #[nmv s, .slice uo x.data.length uc, .int .i64 (x.safe : Int)] 43)).mono HBW2.out.size))).grown hg3 (by simp; omega) (fun j hj => Nat.le_trans HB0.out.size (HR.out j hj))); have HR4 := Lib.hid (fun j (hj : v3.ownBlock = some j) => (hl3.elim (fun e => Nat.le_trans HB0.out.size (HR.out j (e ▸ hj))) (fun e => by rw [e] at hj; injection hj with hj; subst hj; simp; omega) : w.heap.size ≤ j)); have c0 := (H.out.below HB4.out).c0; rw [hfl] at c0; have hsz4 := HB4.out.size; obtain ⟨o3, c3, rfl⟩ := own_slice ho3; clear hfo4 ho3 hg3 hl3)
          | ((at_builtin; refine wpList_append_files (q := us.drop j) (xv := .slice (some ⟨g, j * 3, none⟩) (d.f.length - j) (fc - j)) (wanted_none rfl _) (.tmp 43) (.tmp 49) rfl rfl HFO4.out.own rfl (.inl ⟨g, j * 3, fc - j, by rw [hql], (H.out.below HB4.out).news j⟩) HONE.out hroom ?_; intro v5 w5 ho5 hg5 hl5; have hfo6 := HFO4.out.concat (m := fvs (d.f.drop j)) hg5 (by rw [fvs_length, List.length_drop, ← hql]; exact ho5) hl5 (by rw [hql, fvs_length, List.length_drop]) (.inr hsz4) ((H.out.below HB4.out).rest (fun k hk => .inl (.inl hk)) j); have HFO6 := Lib.hid hfo6; have HB6 := Lib.hid (HB4.out.grown hg5 (by exact hsz4) (fun j hj => HR4.out j hj)); have fz := (H.out.below HB6.out).fz 0; have c05 := (H.out.below HB6.out).c0; obtain ⟨o5, c5, rfl⟩ := own_slice hfo6.own; clear hfo6 ho5 hg5 hl5)))
        go_returns
        have hbx := (H.out.below HB6.out).box
        have ht : ∀ u, Tn (· = a) w5 (w5.setCell ⟨a, 0, none⟩ u) := fun u => tn_set (Tn.refl _ _) u
        have h2 : ∀ u, Tn C w (w5.setCell ⟨a, 0, none⟩ u) := fun u => (Tn.of_below HB6.out).setCell (fun _ => H.out.ca) u
        have hul := fun k (e : (Value.slice uo x.data.length uc).ownBlock = some k) => (HU.out.lt k e).2
        have hlen : ((L2 ++ [(⟨s, x.data, (x.safe : Int)⟩ : FV)]) ++ fvs (d.f.drop j)).length = L2.length + ((fvs (d.f.drop j)).length + 1) := by simp
        have h6 := HFO6.out
        rw [hlen, ← HINS.out] at h6
        have h7 := (h6.box hbx (ht (.slice o5 (L2.length + ((fvs (d.f.drop j)).length + 1)) c5))).mono (D := Gw (fun k => C k ∨ (Value.slice uo x.data.length uc).ownBlock = some k) w (w5.setCell ⟨a, 0, none⟩ (.slice o5 (L2.length + ((fvs (d.f.drop j)).length + 1)) c5))) (fun j hj e => e.elim .inl fun e => .inr ⟨e, hj⟩)
        exact ⟨rfl, ⟨_, _, HOK.out, H.out.left, heap_set hbx _ rfl, h7, .inl (.inl H.out.ca), fun j hj => Gw.size (h2 _).size (fun k hk => hk.elim (H.out.lt k) (hul k)) hj⟩, h2 _⟩
    · have hje : j = d.f.length := by omega
      have HHI : Hid (∀ h : j < d.f.length, ¬ d.f[j].1 < s) := fun h => absurd h hjl
      have hji : decide ((j : Int) < (d.f.length : Int)) = false := decide_eq_false (by omega)
      have hqn : us.drop j = [] := List.drop_eq_nil_of_le (by rw [H.out.fo.len, hfl]; omega)
      have HQN := Lib.hid hqn
      have HJE := Lib.hid hje
      clear hje
      have hcap := own_cap H.out.fo.own
      rcases H.out.fo.own.2 with ⟨e, _⟩ | ⟨g, c, cur, e, _⟩
      · injection e with e1 e2 e3
        subst e1; subst e3
        have hl0 : d.f.length = 0 := by omega
        have hj0 : j = 0 := by omega
        clear hqn
        go_wp2
        go_big_quiet (fail)
        have HB2 := Lib.hid (HB.out.trans ((below_drewN wr nq).mono HB.out.size))
        have HBW2 := Lib.hid (HB0.out.trans (HB2.out.mono HB0.out.size))
        obtain ⟨us2, hfo⟩ := HF.out
        have hfo2 := (hfo.below (below_drewN wr nq)).mono (D := fun k => (C k ∨ (Value.slice uo x.data.length uc).ownBlock = some k) ∨ w.heap.size ≤ k) (fun k _ e => e.elim (fun e => .inl (.inl e)) .inr)
        generalize wr.drewN nq = wz at *
        clear c0 b0
        have hxb := HB2.out.block w.heap.size (by have := HZ.out; omega)
        rw [HX0.out] at hxb
        have b0 : wz.cell? ⟨w.heap.size, 0, none⟩ = some (nmv s) := by simp [World.cell?, hxb]
        have b1 : wz.cell? ⟨w.heap.size, 1, none⟩ = some (.slice uo x.data.length uc) := by simp [World.cell?, hxb]
        have b2 : wz.cell? ⟨w.heap.size, 2, none⟩ = some (.int .i64 (x.safe : Int)) := by simp [World.cell?, hxb]
        clear hxb
        have hL : (fvs (d.f.take j)).length ≤ 1000 := by rw [fvs_length, List.length_take]; omega
        have hL1 : (fvs (d.f.take j)).length ≤ 1000000 := by omega
        have hql : (us.drop j).length = d.f.length - j := by rw [List.length_drop, H.out.fo.len, hfl]
        have hroom : ((fvs (d.f.take j)) ++ [(⟨s, x.data, (x.safe : Int)⟩ : FV)]).length + (us.drop j).length ≤ 1000000 := by rw [List.length_append, hql]; show _ + 1 + _ ≤ _; omega
        have HINS : Hid (fvs (put d.f s x) = (fvs (d.f.take j) ++ [⟨s, x.data, (x.safe : Int)⟩]) ++ fvs (d.f.drop j)) := put_fvs HN.out (by omega) HLO.out HHI.out
        generalize hLL : fvs (d.f.take j) = L2 at *
        clear hLL
        obtain ⟨oo, oc, rfl⟩ := own_slice hfo2.own
        have HFO := Lib.hid hfo2
        have HONE : Hid (∀ u ∈ us.drop j, u.2.1.oneCell' = true) := fun u hu => H.out.ones u (List.mem_of_mem_drop hu)
        have hsz := HBW2.out.size
        have hszB := HB2.out.size
        clear hfo2 hfo HF
        go_wp2_with (first
          | (at_builtin; refine wpList_append_file (wanted_none rfl _) (.tmp 38) (.tmp 40) rfl rfl (u := (s, .slice uo x.data.length uc, (x.safe : Int))) (HFO.out.below (below1 wz _)).own rfl (heap_alloc_new wz _) rfl hL1 ?_; intro v3 w3 ho3 hg3 hl3; have hfo4 := (HFO.out.below (below1 wz _)).snoc (q := ⟨s, x.data, (x.safe : Int)⟩) (u := .slice uo x.data.length uc) hg3 ho3 hl3 (own_below (own_below HU.out HBW2.out) (below1 wz _)) (fun j hj => .inl (.inr hj)) (.inr (by simp; omega)); have HFO4 := Lib.hid hfo4; have HB4 := Lib.hid (((HBW2.out.trans ((below1 wz (.cells #[nmv s, .slice uo x.data.length uc, .int .i64 (x.safe : Int)] 43)).mono HBW2.out.size))).grown hg3 (by simp; omega) (fun j hj => Nat.le_trans HB0.out.size (HR.out j hj))); have HR4 := Lib.hid (fun j (hj : v3.ownBlock = some j) => (hl3.elim (fun e => Nat.le_trans HB0.out.size (HR.out j (e ▸ hj))) (fun e => by rw [e] at hj; injection hj with hj; subst hj; simp; omega) : w.heap.size ≤ j)); have c0 := (H.out.below HB4.out).c0; rw [hfl] at c0; have hsz4 := HB4.out.size; obtain ⟨o3, c3, rfl⟩ := own_slice ho3; clear hfo4 ho3 hg3 hl3)
          | ((at_builtin; refine wpList_append_files (q := us.drop j) (xv := .slice none 0 0) (wanted_none rfl _) (.tmp 43) (.tmp 49) rfl rfl HFO4.out.own rfl (.inr ⟨rfl, HQN.out⟩) HONE.out hroom ?_; intro v5 w5 ho5 hg5 hl5; have hfo6 := HFO4.out.concat (m := fvs (d.f.drop j)) hg5 (by rw [fvs_length, List.length_drop, ← hql]; exact ho5) hl5 (by rw [hql, fvs_length, List.length_drop]) (.inr hsz4) ((H.out.below HB4.out).rest (fun k hk => .inl (.inl hk)) j); have HFO6 := Lib.hid hfo6; have HB6 := Lib.hid (HB4.out.grown hg5 (by exact hsz4) (fun j hj => HR4.out j hj)); have fz := (H.out.below HB6.out).fz 0; have c05 := (H.out.below HB6.out).c0; obtain ⟨o5, c5, rfl⟩ := own_slice hfo6.own; clear hfo6 ho5 hg5 hl5)))
        go_returns
        have hbx := (H.out.below HB6.out).box
        have ht : ∀ u, Tn (· = a) w5 (w5.setCell ⟨a, 0, none⟩ u) := fun u => tn_set (Tn.refl _ _) u
        have h2 : ∀ u, Tn C w (w5.setCell ⟨a, 0, none⟩ u) := fun u => (Tn.of_below HB6.out).setCell (fun _ => H.out.ca) u
        have hul := fun k (e : (Value.slice uo x.data.length uc).ownBlock = some k) => (HU.out.lt k e).2
        have hlen : ((L2 ++ [(⟨s, x.data, (x.safe : Int)⟩ : FV)]) ++ fvs (d.f.drop j)).length = L2.length + 1 := by rw [List.length_append, List.length_append, fvs_length, List.length_drop]; show _ + 1 + _ = _; omega
        have h6 := HFO6.out
        rw [hlen, ← HINS.out] at h6
        have h7 := (h6.box hbx (ht (.slice o5 (L2.length + 1) c5))).mono (D := Gw (fun k => C k ∨ (Value.slice uo x.data.length uc).ownBlock = some k) w (w5.setCell ⟨a, 0, none⟩ (.slice o5 (L2.length + 1) c5))) (fun j hj e => e.elim .inl fun e => .inr ⟨e, hj⟩)
        exact ⟨rfl, ⟨_, _, HOK.out, H.out.left, heap_set hbx _ rfl, h7, .inl (.inl H.out.ca), fun j hj => Gw.size (h2 _).size (fun k hk => hk.elim (H.out.lt k) (hul k)) hj⟩, h2 _⟩
      · injection e with e1 e2 e3
        subst e1; subst e3
        by_cases hfcj : fc = j
        · clear hqn
          go_wp2
          go_big_quiet (fail)
          have HB2 := Lib.hid (HB.out.trans ((below_drewN wr nq).mono HB.out.size))
          have HBW2 := Lib.hid (HB0.out.trans (HB2.out.mono HB0.out.size))
          obtain ⟨us2, hfo⟩ := HF.out
          have hfo2 := (hfo.below (below_drewN wr nq)).mono (D := fun k => (C k ∨ (Value.slice uo x.data.length uc).ownBlock = some k) ∨ w.heap.size ≤ k) (fun k _ e => e.elim (fun e => .inl (.inl e)) .inr)
          generalize wr.drewN nq = wz at *
          clear c0 b0
          have hxb := HB2.out.block w.heap.size (by have := HZ.out; omega)
          rw [HX0.out] at hxb
          have b0 : wz.cell? ⟨w.heap.size, 0, none⟩ = some (nmv s) := by simp [World.cell?, hxb]
          have b1 : wz.cell? ⟨w.heap.size, 1, none⟩ = some (.slice uo x.data.length uc) := by simp [World.cell?, hxb]
          have b2 : wz.cell? ⟨w.heap.size, 2, none⟩ = some (.int .i64 (x.safe : Int)) := by simp [World.cell?, hxb]
          clear hxb
          have hL : (fvs (d.f.take j)).length ≤ 1000 := by rw [fvs_length, List.length_take]; omega
          have hL1 : (fvs (d.f.take j)).length ≤ 1000000 := by omega
          have hql : (us.drop j).length = d.f.length - j := by rw [List.length_drop, H.out.fo.len, hfl]
          have hroom : ((fvs (d.f.take j)) ++ [(⟨s, x.data, (x.safe : Int)⟩ : FV)]).length + (us.drop j).length ≤ 1000000 := by rw [List.length_append, hql]; show _ + 1 + _ ≤ _; omega
          have HINS : Hid (fvs (put d.f s x) = (fvs (d.f.take j) ++ [⟨s, x.data, (x.safe : Int)⟩]) ++ fvs (d.f.drop j)) := put_fvs HN.out (by omega) HLO.out HHI.out
          generalize hLL : fvs (d.f.take j) = L2 at *
          clear hLL
          obtain ⟨oo, oc, rfl⟩ := own_slice hfo2.own
          have HFO := Lib.hid hfo2
          have HONE : Hid (∀ u ∈ us.drop j, u.2.1.oneCell' = true) := fun u hu => H.out.ones u (List.mem_of_mem_drop hu)
          have hsz := HBW2.out.size
          have hszB := HB2.out.size
          clear hfo2 hfo HF
          go_wp2_with (first
            | (at_builtin; refine wpList_append_file (wanted_none rfl _) (.tmp 38) (.tmp 40) rfl rfl (u := (s, .slice uo x.data.length uc, (x.safe : Int))) (HFO.out.below (below1 wz _)).own rfl (heap_alloc_new wz _) rfl hL1 ?_; intro v3 w3 ho3 hg3 hl3; have hfo4 := (HFO.out.below (below1 wz _)).snoc (q := ⟨s, x.data, (x.safe : Int)⟩) (u := .slice uo x.data.length uc) hg3 ho3 hl3 (own_below (own_below HU.out HBW2.out) (below1 wz _)) (fun j hj => .inl (.inr hj)) (.inr (by simp; omega)); have HFO4 := Lib.hid hfo4; have HB4 := Lib.hid (((HBW2.out.trans ((below1 wz (.cells #[nmv s, .slice uo x.data.length uc, .int .i64 (x.safe : Int)] 43)).mono HBW2.out.size))).grown hg3 (by simp; omega) (fun j hj => Nat.le_trans HB0.out.size (HR.out j hj))); have HR4 := Lib.hid (fun j (hj : v3.ownBlock = some j) => (hl3.elim (fun e => Nat.le_trans HB0.out.size (HR.out j (e ▸ hj))) (fun e => by rw [e] at hj; injection hj with hj; subst hj; simp; omega) : w.heap.size ≤ j)); have c0 := (H.out.below HB4.out).c0; rw [hfl] at c0; have hsz4 := HB4.out.size; obtain ⟨o3, c3, rfl⟩ := own_slice ho3; clear hfo4 ho3 hg3 hl3)
            | ((at_builtin; refine wpList_append_files (q := us.drop j) (xv := .slice (some ⟨g, 0, none⟩) (d.f.length - j) 0) (wanted_none rfl _) (.tmp 43) (.tmp 49) rfl rfl HFO4.out.own rfl (.inl ⟨g, 0, 0, by rw [hql], fun i y hy => by rw [HQN.out] at hy; simp [cellsF] at hy⟩) HONE.out hroom ?_; intro v5 w5 ho5 hg5 hl5; have hfo6 := HFO4.out.concat (m := fvs (d.f.drop j)) hg5 (by rw [fvs_length, List.length_drop, ← hql]; exact ho5) hl5 (by rw [hql, fvs_length, List.length_drop]) (.inr hsz4) ((H.out.below HB4.out).rest (fun k hk => .inl (.inl hk)) j); have HFO6 := Lib.hid hfo6; have HB6 := Lib.hid (HB4.out.grown hg5 (by exact hsz4) (fun j hj => HR4.out j hj)); have fz := (H.out.below HB6.out).fz 0; have c05 := (H.out.below HB6.out).c0; obtain ⟨o5, c5, rfl⟩ := own_slice hfo6.own; clear hfo6 ho5 hg5 hl5)))
          go_returns
          have hbx := (H.out.below HB6.out).box
          have ht : ∀ u, Tn (· = a) w5 (w5.setCell ⟨a, 0, none⟩ u) := fun u => tn_set (Tn.refl _ _) u
          have h2 : ∀ u, Tn C w (w5.setCell ⟨a, 0, none⟩ u) := fun u => (Tn.of_below HB6.out).setCell (fun _ => H.out.ca) u
          have hul := fun k (e : (Value.slice uo x.data.length uc).ownBlock = some k) => (HU.out.lt k e).2
          have hlen : ((L2 ++ [(⟨s, x.data, (x.safe : Int)⟩ : FV)]) ++ fvs (d.f.drop j)).length = L2.length + ((fvs (d.f.drop j)).length + 1) := by simp
          have h6 := HFO6.out
          rw [hlen, ← HINS.out] at h6
          have h7 := (h6.box hbx (ht (.slice o5 (L2.length + ((fvs (d.f.drop j)).length + 1)) c5))).mono (D := Gw (fun k => C k ∨ (Value.slice uo x.data.length uc).ownBlock = some k) w (w5.setCell ⟨a, 0, none⟩ (.slice o5 (L2.length + ((fvs (d.f.drop j)).length + 1)) c5))) (fun j hj e => e.elim .inl fun e => .inr ⟨e, hj⟩)
          exact ⟨rfl, ⟨_, _, HOK.out, H.out.left, heap_set hbx _ rfl, h7, .inl (.inl H.out.ca), fun j hj => Gw.size (h2 _).size (fun k hk => hk.elim (H.out.lt k) (hul k)) hj⟩, h2 _⟩
        · have hfcj2 : ¬ j = fc := fun e => hfcj e.symm
          clear hqn
          go_wp2
          go_big_quiet (fail)
          have HB2 := Lib.hid (HB.out.trans ((below_drewN wr nq).mono HB.out.size))
          have HBW2 := Lib.hid (HB0.out.trans (HB2.out.mono HB0.out.size))
          obtain ⟨us2, hfo⟩ := HF.out
          have hfo2 := (hfo.below (below_drewN wr nq)).mono (D := fun k => (C k ∨ (Value.slice uo x.data.length uc).ownBlock = some k) ∨ w.heap.size ≤ k) (fun k _ e => e.elim (fun e => .inl (.inl e)) .inr)
          generalize wr.drewN nq = wz at *
          clear c0 b0
          have hxb := HB2.out.block w.heap.size (by have := HZ.out; omega)
          rw [HX0.out] at hxb
          have b0 : wz.cell? ⟨w.heap.size, 0, none⟩ = some (nmv s) := by simp [World.cell?, hxb]
          have b1 : wz.cell? ⟨w.heap.size, 1, none⟩ = some (.slice uo x.data.length uc) := by simp [World.cell?, hxb]
          have b2 : wz.cell? ⟨w.heap.size, 2, none⟩ = some (.int .i64 (x.safe : Int)) := by simp [World.cell?, hxb]
          clear hxb
          have hL : (fvs (d.f.take j)).length ≤ 1000 := by rw [fvs_length, List.length_take]; omega
          have hL1 : (fvs (d.f.take j)).length ≤ 1000000 := by omega
          have hql : (us.drop j).length = d.f.length - j := by rw [List.length_drop, H.out.fo.len, hfl]
          have hroom : ((fvs (d.f.take j)) ++ [(⟨s, x.data, (x.safe : Int)⟩ : FV)]).length + (us.drop j).length ≤ 1000000 := by rw [List.length_append, hql]; show _ + 1 + _ ≤ _; omega
          have HINS : Hid (fvs (put d.f s x) = (fvs (d.f.take j) ++ [⟨s, x.data, (x.safe : Int)⟩]) ++ fvs (d.f.drop j)) := put_fvs HN.out (by omega) HLO.out HHI.out
          generalize hLL : fvs (d.f.take j) = L2 at *
          clear hLL
          obtain ⟨oo, oc, rfl⟩ := own_slice hfo2.own
          have HFO := Lib.hid hfo2
          have HONE : Hid (∀ u ∈ us.drop j, u.2.1.oneCell' = true) := fun u hu => H.out.ones u (List.mem_of_mem_drop hu)
          have hsz := HBW2.out.size
          have hszB := HB2.out.size
          clear hfo2 hfo HF
          go_wp2_with (first
            | (at_builtin; refine wpList_append_file (wanted_none rfl _) (.tmp 38) (.tmp 40) rfl rfl (u := (s, .slice uo x.data.length uc, (x.safe : Int))) (HFO.out.below (below1 wz _)).own rfl (heap_alloc_new wz _) rfl hL1 ?_; intro v3 w3 ho3 hg3 hl3; have hfo4 := (HFO.out.below (below1 wz _)).snoc (q := ⟨s, x.data, (x.safe : Int)⟩) (u := .slice uo x.data.length uc) hg3 ho3 hl3 (own_below (own_below HU.out HBW2.out) (below1 wz _)) (fun j hj => .inl (.inr hj)) (.inr (by simp; omega)); have HFO4 := Lib.hid hfo4; have HB4 := Lib.hid (((HBW2.out.trans ((below1 wz (.cells #[nmv s, .slice uo x.data.length uc, .int .i64 (x.safe : Int)] 43)).mono HBW2.out.size))).grown hg3 (by simp; omega) (fun j hj => Nat.le_trans HB0.out.size (HR.out j hj))); have HR4 := Lib.hid (fun j (hj : v3.ownBlock = some j) => (hl3.elim (fun e => Nat.le_trans HB0.out.size (HR.out j (e ▸ hj))) (fun e => by rw [e] at hj; injection hj with hj; subst hj; simp; omega) : w.heap.size ≤ j)); have c0 := (H.out.below HB4.out).c0; rw [hfl] at c0; have hsz4 := HB4.out.size; obtain ⟨o3, c3, rfl⟩ := own_slice ho3; clear hfo4 ho3 hg3 hl3)
            | ((at_builtin; refine wpList_append_files (q := us.drop j) (xv := .slice (some ⟨g, j * 3, none⟩) (d.f.length - j) (fc - j)) (wanted_none rfl _) (.tmp 43) (.tmp 49) rfl rfl HFO4.out.own rfl (.inl ⟨g, j * 3, fc - j, by rw [hql], (H.out.below HB4.out).news j⟩) HONE.out hroom ?_; intro v5 w5 ho5 hg5 hl5; have hfo6 := HFO4.out.concat (m := fvs (d.f.drop j)) hg5 (by rw [fvs_length, List.length_drop, ← hql]; exact ho5) hl5 (by rw [hql, fvs_length, List.length_drop]) (.inr hsz4) ((H.out.below HB4.out).rest (fun k hk => .inl (.inl hk)) j); have HFO6 := Lib.hid hfo6; have HB6 := Lib.hid (HB4.out.grown hg5 (by exact hsz4) (fun j hj => HR4.out j hj)); have fz := (H.out.below HB6.out).fz 0; have c05 := (H.out.below HB6.out).c0; obtain ⟨o5, c5, rfl⟩ := own_slice hfo6.own; clear hfo6 ho5 hg5 hl5)))
          go_returns
          have hbx := (H.out.below HB6.out).box
          have ht : ∀ u, Tn (· = a) w5 (w5.setCell ⟨a, 0, none⟩ u) := fun u => tn_set (Tn.refl _ _) u
          have h2 : ∀ u, Tn C w (w5.setCell ⟨a, 0, none⟩ u) := fun u => (Tn.of_below HB6.out).setCell (fun _ => H.out.ca) u
          have hul := fun k (e : (Value.slice uo x.data.length uc).ownBlock = some k) => (HU.out.lt k e).2
          have hlen : ((L2 ++ [(⟨s, x.data, (x.safe : Int)⟩ : FV)]) ++ fvs (d.f.drop j)).length = L2.length + ((fvs (d.f.drop j)).length + 1) := by simp
          have h6 := HFO6.out
          rw [hlen, ← HINS.out] at h6
          have h7 := (h6.box hbx (ht (.slice o5 (L2.length + ((fvs (d.f.drop j)).length + 1)) c5))).mono (D := Gw (fun k => C k ∨ (Value.slice uo x.data.length uc).ownBlock = some k) w (w5.setCell ⟨a, 0, none⟩ (.slice o5 (L2.length + ((fvs (d.f.drop j)).length + 1)) c5))) (fun j hj e => e.elim .inl fun e => .inr ⟨e, hj⟩)
          exact ⟨rfl, ⟨_, _, HOK.out, H.out.left, heap_set hbx _ rfl, h7, .inl (.inl H.out.ca), fun j hj => Gw.size (h2 _).size (fun k hk => hk.elim (H.out.lt k) (hul k)) hj⟩, h2 _⟩
end
end Go.Proofs.Ytefgnlijgomgpaa
