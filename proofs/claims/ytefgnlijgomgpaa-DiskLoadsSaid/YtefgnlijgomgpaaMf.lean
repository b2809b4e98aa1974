/- raceref6.Disk: drop. Conditions: none of its own. -/
import Derived.Test.YtefgnlijgomgpaaMe
namespace Go.Proofs.Ytefgnlijgomgpaa
open Go.RowKit
/-- append of one file onto a row of them. -/
theorem wpList_append_file {ops : Array Oper} {rest : List Oper} {o : Oper} {a : Act} {w : World} {Q : Exit → Act → World → Prop} (hw : Region.wanted o (yielded ops a.tmps) = true) (s x : Operand)
    (ho : o.op = .call { callee := .builtin .append, args := #[s, x], argTypes := #[28, 28] })
    {v : Value} {n : Nat} {us : List (Nm × Value × Int)} {u : Nm × Value × Int} {b : Nat} (hs : a.eval s = v) (hown : w.ownsRow 0 43 3 v n (cellsF us)) (hx : a.eval x = .slice (some ⟨b, 0, none⟩) 1 1) (hm : w.heap[b]? = some (.cells #[nmv u.1, u.2.1, .int .i64 u.2.2] 43 (0, 0)))
    (h1 : u.2.1.oneCell' = true) (hroom : n ≤ 1000000)
    (h : ∀ v' w', w'.ownsRow 0 43 3 v' (n + 1) (cellsF (us ++ [u])) → w.grownBy w' v.ownBlock → (v'.ownBlock = v.ownBlock ∨ v'.ownBlock = some w.heap.size) → wpList Try.prog ops Q rest (a.put o.dst v') w') : wpList Try.prog ops Q (o :: rest) a w :=
  wpList_step fun K hK => oper_append_file (X := K (a.put o.dst undef) w) hw s x ho hs hown hx hm h1 hroom fun v' w' h2 h3 h4 => hK _ _ (h v' w' h2 h3 h4)
section
variable {C D S : Nat → Prop} {w w' : World} {a : Nat} {d : Dk} {v : Value} {us : List (Nm × Value × Int)} {s : Nm} {x : Fi}
theorem RAt.elem (h : RAt C w a d v us) {k : Nat} (hk : k < d.f.length) (hs : d.f[k] = (s, x)) : ∃ g cap bo bc, v = .slice (some ⟨g, 0, none⟩) (fvs d.f).length cap ∧ w.cell? ⟨g, k * 3, none⟩ = some (nmv s) ∧ w.cell? ⟨g, k * 3 + 1, none⟩ = some (.slice bo x.data.length bc) ∧ w.cell? ⟨g, k * 3 + 2, none⟩ = some (.int .i64 (x.safe : Int)) ∧ w.ownsRow 0 5 1 (.slice bo x.data.length bc) x.data.length (bys x.data) ∧ (∀ j, (Value.slice bo x.data.length bc).ownBlock = some j → C j) := by
  have hkl : k < (fvs d.f).length := by rw [fvs_length]; exact hk
  obtain ⟨g, cap, rfl⟩ := own_shape h.fo.own (by omega)
  have hku : k < us.length := by rw [h.fo.len]; exact hkl
  obtain ⟨e1, e2, e3⟩ := h.fo.at_ k hku hkl
  have e4 := fun j hj => h.fo.rows k hku j hj
  rw [fvs_get hkl, hs] at e1 e2 e3
  obtain ⟨g1, g2, g3⟩ := cellsF_get us hku
  obtain ⟨bo, bc, hb⟩ := own_slice e3
  rw [hb] at e3 e4 g2
  refine ⟨g, cap, bo, bc, rfl, ?_, ?_, ?_, e3, e4⟩
  · have h9 := h.fo.own.cellAt (k * 3) (by omega)
    rw [h9, g1, e1]; rfl
  · have h9 := h.fo.own.cellAt (k * 3 + 1) (by omega)
    rw [h9, g2]; rfl
  · have h9 := h.fo.own.cellAt (k * 3 + 2) (by omega)
    rw [h9, g3, e2]; rfl
theorem tot_del_le (f : Ent Fi) (s : Nm) : tot (del f s) ≤ tot f := by
  induction f with
  | nil => exact Nat.le_refl _
  | cons p f ih =>
    unfold del at ih ⊢
    rw [List.filter_cons, tot_cons]
    split
    · rw [tot_cons]; omega
    · omega
theorem ok_del {d : Dk} {n : Nat} (h : Okn n d) (s : Nm) : Okn n { d with f := del d.f s } := by
  have h1 := h.few
  have h2 := h.room
  have h3 := tot_del_le d.f s
  have h4 : (del d.f s).length ≤ d.f.length := List.length_filter_le _ _
  exact ⟨h.rising.del s, fun p hp => h.nm p (mem_del.1 hp).1, fun p hp => h.safe p (mem_del.1 hp).1, by show (del d.f s).length ≤ n; omega, by show tot (del d.f s) ≤ 4194304; omega⟩
theorem del_take {f : Ent Fi} {j : Nat} (hj : j < f.length) : del (f.take (j + 1)) s = if f[j].1 = s then del (f.take j) s else del (f.take j) s ++ [f[j]] := by
  rw [List.take_succ_eq_append_getElem hj]
  unfold del
  rw [List.filter_append]
  by_cases e : f[j].1 = s
  · rw [if_pos e]; simp [e]
  · rw [if_neg e]; simp [e]
theorem FO.box {P : Nat → Prop} {cs : Array Value} {l : List FV} (h : FO P w v us l) (hb : w.heap[a]? = some (.cells cs 30 (0, 0))) (ht : Tn (· = a) w w') : FO P w' v us l := by
  have hx : ∀ {k : Nat} {cur : Array Value} {e : TypeId}, w.heap[k]? = some (.cells cur e (0, 0)) → e ≠ 30 → k ≠ a := by
    intro k cur e hk he e2
    subst e2
    rw [hb] at hk
    simp at hk
    exact he hk.2.symm
  refine ⟨own_tn h.own ht (fun k hk => ?_), h.len, fun i h1 h2 => ⟨(h.at_ i h1 h2).1, (h.at_ i h1 h2).2.1, own_tn (h.at_ i h1 h2).2.2 ht (fun k hk => ?_)⟩, h.row, h.rows⟩
  · obtain ⟨cur, hc⟩ := own_at h.own hk
    exact hx hc (by decide)
  · obtain ⟨cur, hc⟩ := own_at (h.at_ i h1 h2).2.2 hk
    exact hx hc (by decide)
theorem fvs_append (f g : Ent Fi) : fvs (f ++ g) = fvs f ++ fvs g := List.map_append
set_option maxRecDepth 100000 in
set_option maxHeartbeats 4000000 in
theorem rdrop_a (h : RAt C w a d v us) {k : Nat} (hk : k < d.f.length) (hs : d.f[k] = (s, x)) : Calls Try.prog 61 #[ptr a, .int .i64 (k : Int)] w fun e w' => e = .returned (.tuple #[]) ∧ RK (Gw C w w') w' a { d with f := del d.f s } ∧ Tn (· = a) w w' := by
  have H := Lib.hid h
  have hfew := h.ok.few
  have c0 := h.c0
  have hfl := fvs_length d.f
  have HS := Lib.hid hs
  obtain ⟨fo, fc, rfl⟩ := own_slice h.fo.own
  clear h hs
  go_enter Try.func61, Try.ntmps61
  go_wp2
  go_loopw [4, 5] (fun o i wr => ∃ j : Nat, j ≤ d.f.length ∧ i = .int .i64 j ∧ Hid (∃ us2, FO (fun k => C k ∨ w.heap.size ≤ k) wr o us2 (fvs (del (d.f.take j) s))) ∧ Hid (Below w.heap.size w wr) ∧ Hid (∀ k, o.ownBlock = some k → w.heap.size ≤ k)) (fun _ i _ => d.f.length - (intOf i).toNat)
  case atStart => exact ⟨0, Nat.zero_le _, rfl, ⟨[], FO.nil _ _⟩, Below.refl _ _, fun _ hk => (nomatch hk)⟩
  case round =>
    obtain ⟨j, hj, rfl, HF, HB, HR⟩ := hrel
    have c0 := (H.out.below HB.out).c0
    by_cases hjl : j < d.f.length
    · by_cases hjk : j = k
      · subst hjk
        have hd : Hid (del (d.f.take (j + 1)) s = del (d.f.take j) s) := by
          have h1 := del_take (s := s) hjl
          rw [HS.out, if_pos rfl] at h1
          exact h1
        go_wp2
        go_roundw
        case rel => exact ⟨j + 1, by omega, by go_num, by rw [hd.out]; exact HF, HB, HR⟩
        case measure => simp [intOf]; omega
      · have hne : d.f[j].1 ≠ s := by
          intro e
          have hr := H.out.ok.rising
          rcases Nat.lt_or_ge j k with h3 | h3
          · have h4 := List.pairwise_iff_getElem.1 hr j k hjl hk h3
            rw [HS.out, e] at h4
            exact nm_irrefl _ h4
          · have h4 := List.pairwise_iff_getElem.1 hr k j hk hjl (by omega)
            rw [HS.out, e] at h4
            exact nm_irrefl _ h4
        obtain ⟨⟨t, y⟩, hty⟩ : ∃ p, d.f[j] = p := ⟨_, rfl⟩
        have hd : Hid (fvs (del (d.f.take (j + 1)) s) = fvs (del (d.f.take j) s) ++ [⟨t, y.data, (y.safe : Int)⟩]) := by
          have h1 := del_take (s := s) hjl
          rw [if_neg hne, hty] at h1
          show fvs _ = _
          rw [h1, fvs_append]
          rfl
        have hL : (fvs (del (d.f.take j) s)).length ≤ 1000000 := by
          rw [fvs_length]
          have h1 : (del (d.f.take j) s).length ≤ (d.f.take j).length := List.length_filter_le _ _
          rw [List.length_take] at h1
          omega
        obtain ⟨g, cap, bo, bc, hv, g0, g1, g2, hu, hCu⟩ := (H.out.below HB.out).elem hjl hty
        injection hv with e1 e2 e3
        subst e1; subst e3
        obtain ⟨us2, hfo⟩ := HF.out
        obtain ⟨oo, oc, rfl⟩ := own_slice hfo.own
        have HFO := Lib.hid hfo
        have HU := Lib.hid hu
        have HCU := Lib.hid hCu
        have hkj : ((j : Int) == (k : Int)) = false := by rw [beq_eq_false_iff_ne]; omega
        clear hfo hu hCu hty hne HF e2
        generalize hLL : fvs (del (d.f.take j) s) = L2 at *
        clear hLL
        have hsz := HB.out.size
        go_wp2_with (at_builtin; refine wpList_append_file (wanted_none rfl _) (.tmp 18) (.tmp 26) rfl rfl (u := (t, .slice bo y.data.length bc, (y.safe : Int))) (HFO.out.below (below1 wr _)).own rfl (heap_alloc_new wr _) rfl hL ?_; intro v3 w3 ho3 hg3 hl3; have hfo4 := (HFO.out.below (below1 wr _)).snoc (q := ⟨t, y.data, (y.safe : Int)⟩) (u := .slice bo y.data.length bc) hg3 ho3 hl3 (own_below HU.out (below1 wr _)) (fun j hj => .inl (HCU.out j hj)) (.inr (by simp; omega)); have HFO4 := Lib.hid hfo4; have HB4 := Lib.hid (((HB.out.trans ((below1 wr (.cells #[nmv t, .slice bo y.data.length bc, .int .i64 (y.safe : Int)] 43)).mono HB.out.size))).grown hg3 (by simp; omega) (fun j hj => HR.out j hj)); have HR4 := Lib.hid (fun j (hj : v3.ownBlock = some j) => (hl3.elim (fun e => HR.out j (e ▸ hj)) (fun e => by rw [e] at hj; injection hj with hj; subst hj; simp; omega) : w.heap.size ≤ j)); obtain ⟨o3, c3, rfl⟩ := own_slice ho3; clear hfo4 ho3 hg3 hl3)
        go_roundw
        case rel => exact ⟨j + 1, by omega, by go_num, ⟨_, by rw [hd.out]; exact HFO4.out⟩, HB4, HR4⟩
        case measure => simp [intOf]; omega
    · obtain rfl : j = d.f.length := by omega
      rw [List.take_length] at HF
      obtain ⟨us2, hfo⟩ := HF.out
      obtain ⟨oo, oc, rfl⟩ := own_slice hfo.own
      have HFO := Lib.hid hfo
      have hb := (H.out.below HB.out).box
      have fz := (H.out.below HB.out).fz 0
      have HBX := Lib.hid hb
      have hok : Okr { d with f := del d.f s } := ok_del H.out.ok s
      have HOK := Lib.hid hok
      have HLF := Lib.hid H.out.left
      clear hfo hb hok HF
      go_wp2
      go_returns
      have ht : Tn (· = a) wr (wr.setCell ⟨a, 0, none⟩ (.slice oo (fvs (del d.f s)).length oc)) := tn_set (Tn.refl _ _) _
      have h2 : Tn C w (wr.setCell ⟨a, 0, none⟩ (.slice oo (fvs (del d.f s)).length oc)) := (Tn.of_below HB.out).setCell (fun _ => H.out.ca) _
      have h2a : Tn (· = a) w (wr.setCell ⟨a, 0, none⟩ (.slice oo (fvs (del d.f s)).length oc)) := Tn.setCell (S := (· = a)) (Tn.of_below HB.out) (p := ⟨a, 0, none⟩) (fun _ => rfl) _
      have hlt : ∀ j, Gw C w (wr.setCell ⟨a, 0, none⟩ (.slice oo (fvs (del d.f s)).length oc)) j → j < (wr.setCell ⟨a, 0, none⟩ (.slice oo (fvs (del d.f s)).length oc)).heap.size := fun j hj => Gw.size h2.size H.out.lt hj
      refine ⟨rfl, ⟨_, us2, HOK.out, HLF.out, heap_set HBX.out _ rfl, (HFO.out.box HBX.out ht).mono (fun j hj e => ?_), .inl H.out.ca, hlt⟩, h2a⟩
      rcases e with e | e
      · exact .inl e
      · exact .inr ⟨e, hj⟩
theorem rdrop_any (h : RAt C w a d v us) {k : Nat} (hk : k < d.f.length) (hs : d.f[k] = (s, x)) : Calls Try.prog 61 #[ptr a, .int .i64 (k : Int)] w fun e w' => e = .returned (.tuple #[]) ∧ RK (Gw C w w') w' a { d with f := del d.f s } ∧ Tn C w w' :=
  (rdrop_a h hk hs).mono fun _ _ k => ⟨k.1, k.2.1, h.tna k.2.2⟩
end
end Go.Proofs.Ytefgnlijgomgpaa
