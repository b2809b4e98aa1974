/- disk: find, Sync, Cut, Remove. Conditions: names and numbers as Go has them. -/
import Derived.Test.YtkilkhnoldfhcaaGreatDoorE
namespace Go.Proofs.YtkilkhnoldfhcaaGreatDoor
open Go.RowKit
section
variable {S : Nat → Prop} {w : World} {a m : Nat} {d : Dk} {ρ : Nm → Nat} {δ : Nm → Value} {s : Nm} {x : Fi}
theorem find_off (h : DAt S w a d m ρ δ) (ho : d.off = true) : Calls Tryz.prog 108 #[ptr a, nmv s] w fun e w' => e = .returned (.tuple #[.pointer none, .int .i64 12]) ∧ w = w' := by
  have c3 := h.c3
  rw [ho] at c3
  clear h ho
  go_enter Tryz.func108, Tryz.ntmps108
  go_wp2
  go_ret2
  exact ⟨rfl, rfl⟩
theorem find_none (h : DAt S w a d m ρ δ) (hs : s.length ≤ maxLen) (ho : d.off = false) (hx : get d.f s = none) : Calls Tryz.prog 108 #[ptr a, nmv s] w fun e w' => e = .returned (.tuple #[.pointer none, .int .i64 8]) ∧ w = w' := by
  have c3 := h.c3
  rw [ho] at c3
  have c0 := h.c0
  have l0 := h.look0 hs hx
  clear h ho hx
  go_enter Tryz.func108, Tryz.ntmps108
  go_wp2
  go_ret2
  exact ⟨rfl, rfl⟩
theorem find_some (h : DAt S w a d m ρ δ) (hs : s.length ≤ maxLen) (ho : d.off = false) (hx : get d.f s = some x) : Calls Tryz.prog 108 #[ptr a, nmv s] w fun e w' => e = .returned (.tuple #[ptr (ρ s), .int .i64 0]) ∧ w = w' := by
  have c3 := h.c3
  rw [ho] at c3
  have c0 := h.c0
  have l0 := h.look hs hx
  clear h ho hx
  go_enter Tryz.func108, Tryz.ntmps108
  go_wp2
  go_ret2
  exact ⟨rfl, rfl⟩
theorem get_spend (hx : get d.f s = some x) : get d.spend.1.f s = some x := by rw [spend_f]; exact hx
theorem spend_off (ho : d.off = false) (hs : d.spend.2 = true) : d.spend.1.off = false := by
  unfold Dk.spend at hs ⊢
  split at hs
  · cases hs
  · rename_i h1; rw [if_neg h1]; exact ho
theorem upd_const {f : Ent Fi} (h : Rising f) (g : Fi → Fi) (hx : get f s = some x) : upd f s g = upd f s fun _ => g x := by rw [upd_put h g hx, upd_put h (fun _ => g x) hx]
/-- What a write leaves: what it answers, and the disk as it then stands. -/
def Wrote (S : Nat → Prop) (w : World) (a : Nat) (r : Dk × Nat) (e : Ending) (w' : World) : Prop :=
  e = .returned (.int .i64 (r.2 : Int)) ∧ DK (Gw S w w') w' a r.1 ∧ Tn S w w'
theorem gw_self (S : Nat → Prop) (w w' : World) : ∀ k, S k → Gw S w w' k := fun _ h => .inl h
theorem DAt.grow {U : Nat → Prop} (h : DAt S w a d m ρ δ) (hu : ∀ k, S k → U k) (hl : ∀ k, U k → k < w.heap.size) : DAt U w a d m ρ δ :=
  ⟨h.ok, h.left, h.box, h.map, h.file, h.row, h.inj, h.dis, hu _ h.sa, hu _ h.sm, fun p hp => hu _ (h.sf p hp), fun p hp k hk => hu _ (h.sr p hp k hk), hl⟩
theorem wrote_same {w' : World} {r : Dk × Nat} (h : DAt S w' a r.1 m ρ δ) (ht : Tn S w w') (hl : ∀ k, S k → k < w.heap.size) : Wrote S w a r (.returned (.int .i64 (r.2 : Int))) w' :=
  ⟨rfl, ⟨m, ρ, δ, h.grow (gw_self S w w') fun _ hk => Gw.size ht.size hl hk⟩, ht⟩
/-- A write that has turned one file, behind what it spent. -/
theorem wrote_turn {w1 w' : World} {d1 : Dk} {r : Dk × Nat} {y : Fi} {v : Value} (h1 : DAt S w1 a d1 m ρ δ) (hT : Tn S w w1) (hl : ∀ k, S k → k < w.heap.size) (hx : get d1.f s = some x) (ht : Tn (fun k => k = ρ s ∨ (δ s).ownBlock = some k) w1 w')
    (hf : w'.heap[ρ s]? = some (.cells #[v, .int .i64 (y.safe : Int)] 95 (0, 0))) (hr : w'.ownsRow 0 5 1 v y.data.length (bys y.data)) (hv : v.ownBlock = (δ s).ownBlock ∨ v.ownBlock = some w1.heap.size)
    (hok : Ok r.1) (hd : r.1.f = upd d1.f s fun _ => y) (e1 : r.1.off = d1.off) (e2 : r.1.left = d1.left) (e3 : r.1.done = d1.done) {e : Ending} (he : e = .returned (.int .i64 (r.2 : Int))) : Wrote S w a r e w' := by
  have hm := get_mem hx
  have hT2 : Tn S w w' := hT.trans ht fun k _ hk => by
    rcases hk with rfl | hk
    · exact h1.sf _ hm
    · exact h1.sr _ hm k hk
  refine ⟨he, ⟨m, ρ, at_ δ s v, h1.turn hx ht hf hr (fun k hk => ?_) hok hd e1 e2 e3 (gw_self S w w') (fun k hk => ?_) (fun k hk => Gw.size hT2.size hl hk)⟩, hT2⟩
  · rcases hv with e | e
    · exact .inl (e ▸ hk)
    · rw [e] at hk; cases hk; exact .inr (Nat.le_refl _)
  · have hlt := (hr.lt k hk).2
    rcases hv with e | e
    · exact .inl (h1.sr _ hm k (e ▸ hk))
    · rw [e] at hk; cases hk; exact .inr ⟨hT.size, hlt⟩
theorem own_cap {base e size n cap : Nat} {ao : Option Addr} {xs : List Value} (h : w.ownsRow base e size (.slice ao n cap) n xs) : n ≤ cap := by
  rcases h.2 with ⟨e, _⟩ | ⟨g, c, cur, e, _, _, h1, _⟩
  · cases e; exact Nat.le_refl _
  · cases e; exact h1
theorem ownBlock_eq (ao : Option Addr) (n c n2 c2 : Nat) : (Value.slice ao n c).ownBlock = (Value.slice ao n2 c2).ownBlock := by cases ao <;> rfl
theorem tn_file {b i : Nat} {w w' : World} {o : Option Nat} (h : Tn (fun k => k = b ∨ o = some k) w w') (v : Value) : Tn (fun k => k = b ∨ o = some k) w (w'.setCell ⟨b, i, none⟩ v) := h.setCell (fun _ => .inl rfl) v
theorem sync_any (h : DAt S w a d m ρ δ) (hs : s.length ≤ maxLen) (hd : d.done < 9223372036854775807) : Calls Tryz.prog 71 #[ptr a, nmv s] w (Wrote S w a (d.sync s)) := by
  have H := Lib.hid h
  have HS := Lib.hid hs
  have HD := Lib.hid hd
  clear h hs hd
  cases ho : d.off with
  | true =>
    have e : d.sync s = (d, 12) := by unfold Dk.sync; rw [if_pos ho]
    rw [e]
    have HO := Lib.hid ho
    clear ho e
    go_enter Tryz.func71, Tryz.ntmps71
    go_wp2_with (go_at_call 108; (with_reducible refine (find_off H.out HO.out).mono ?_); rintro e w' ⟨rfl, rfl⟩)
    go_ret
    exact wrote_same (r := (d, 12)) H.out (Tn.refl _ _) H.out.lt
  | false =>
    cases hx : get d.f s with
    | none =>
      have e : d.sync s = (d, 8) := by unfold Dk.sync; rw [ho, has_get, hx]; rfl
      rw [e]
      have HO := Lib.hid ho
      have HX := Lib.hid hx
      clear ho e hx
      go_enter Tryz.func71, Tryz.ntmps71
      go_wp2_with (go_at_call 108; (with_reducible refine (find_none H.out HS.out HO.out HX.out).mono ?_); rintro e w' ⟨rfl, rfl⟩)
      go_ret
      exact wrote_same (r := (d, 8)) H.out (Tn.refl _ _) H.out.lt
    | some x =>
      have HO := Lib.hid ho
      have HX := Lib.hid hx
      cases hq : d.spend.2 with
      | false =>
        have e : d.sync s = (d.spend.1, 12) := by unfold Dk.sync; rw [ho, has_get, hx, hq]; rfl
        rw [e]
        have HQ := Lib.hid hq
        clear ho e hx hq
        go_enter Tryz.func71, Tryz.ntmps71
        go_wp2_with (first
          | (go_at_call 108; (with_reducible refine (find_some H.out HS.out HO.out HX.out).mono ?_); rintro e w' ⟨rfl, rfl⟩)
          | (go_at_call 86; (with_reducible refine (spend_any H.out HD.out).mono ?_); rw [HQ.out]; rintro e w1 ⟨rfl, h1, ht⟩; have H1 := Lib.hid h1; have HT := Lib.hid ht; clear h1 ht))
        go_ret
        exact wrote_same (r := (d.spend.1, 12)) H1.out (H.out.tna HT.out) H.out.lt
      | true =>
        have e : d.sync s = ({ d.spend.1 with f := upd d.f s fun x => ⟨x.data, x.data.length⟩ }, 0) := by unfold Dk.sync; rw [ho, has_get, hx, hq]; rfl
        have HQ := Lib.hid hq
        have HE := Lib.hid e
        obtain ⟨ao, cap, hv⟩ := own_slice (H.out.own hx)
        have HV := Lib.hid hv
        clear ho e hx hq hv
        go_enter Tryz.func71, Tryz.ntmps71
        go_wp2_with (first
          | (go_at_call 108; (with_reducible refine (find_some H.out HS.out HO.out HX.out).mono ?_); rintro e w' ⟨rfl, rfl⟩)
          | (go_at_call 86; (with_reducible refine (spend_any H.out HD.out).mono ?_); rw [HQ.out]; rintro e w1 ⟨rfl, h1, ht⟩; have H1 := Lib.hid h1; have HT := Lib.hid ht; have f0 := h1.f0 (get_spend HX.out); have f1 := h1.f1 (get_spend HX.out); have g0 := h1.ff (get_spend HX.out) 0; have g1 := h1.ff (get_spend HX.out) 1; rw [HV.out] at f0; clear h1 ht))
        go_ret
        have hx1 := get_spend HX.out
        have ht := tn_file (i := 1) (Tn.refl (fun k => k = ρ s ∨ (δ s).ownBlock = some k) w1) (.int .i64 (x.data.length : Int))
        have h2 := H1.out.file _ (get_mem hx1)
        rw [HV.out] at h2
        have h3 := (H1.out.own hx1)
        refine wrote_turn (y := ⟨x.data, x.data.length⟩) (v := .slice ao x.data.length cap) H1.out (H.out.tna HT.out) H.out.lt hx1 ht (heap_set h2 _ rfl) ?_ (.inl (by rw [HV.out])) H.out.ok.sync ?_ (by rw [HE.out]) (by rw [HE.out]) (by rw [HE.out]) (by rw [HE.out]; rfl)
        · rw [← HV.out]
          exact own_tn h3 (tn_set (i := 1) (Tn.refl (· = ρ s) w1) _) (fun k hk e => H1.out.fr (get_mem hx1) (get_mem hx1) (e ▸ hk))
        · rw [HE.out, spend_f]
          exact upd_const H.out.ok.rising (fun x => ⟨x.data, x.data.length⟩) HX.out
theorem own_minus {v : Value} {n : Nat} {xs : List Value} {w' : World} {b : Nat} (h : w.ownsRow 0 5 1 v n xs) (ht : Tn (· = b) w w') (hb : v.ownBlock ≠ some b) : w'.ownsRow 0 5 1 v n xs := own_tn h ht (fun _ hk e => hb (e ▸ hk))
theorem cut_any (h : DAt S w a d m ρ δ) (hs : s.length ≤ maxLen) (hd : d.done < 9223372036854775807) (n : Int) (hn1 : -9223372036854775808 ≤ n) (hn2 : n ≤ 9223372036854775807) : Calls Tryz.prog 124 #[ptr a, nmv s, .int .i64 n] w (Wrote S w a (d.cut s n)) := by
  have H := Lib.hid h
  have HS := Lib.hid hs
  have HD := Lib.hid hd
  clear h hs hd
  cases ho : d.off with
  | true =>
    have e : d.cut s n = (d, 12) := by unfold Dk.cut; rw [if_pos ho]
    rw [e]
    have HO := Lib.hid ho
    clear ho e
    go_enter Tryz.func124, Tryz.ntmps124
    go_wp2_with (go_at_call 108; (with_reducible refine (find_off H.out HO.out).mono ?_); rintro e w' ⟨rfl, rfl⟩)
    go_ret
    exact wrote_same (r := (d, 12)) H.out (Tn.refl _ _) H.out.lt
  | false =>
    cases hx : get d.f s with
    | none =>
      have e : d.cut s n = (d, 8) := by unfold Dk.cut; rw [ho, has_get, hx]; rfl
      rw [e]
      have HO := Lib.hid ho
      have HX := Lib.hid hx
      clear ho e hx
      go_enter Tryz.func124, Tryz.ntmps124
      go_wp2_with (go_at_call 108; (with_reducible refine (find_none H.out HS.out HO.out HX.out).mono ?_); rintro e w' ⟨rfl, rfl⟩)
      go_ret
      exact wrote_same (r := (d, 8)) H.out (Tn.refl _ _) H.out.lt
    | some x =>
      have HO := Lib.hid ho
      have HX := Lib.hid hx
      obtain ⟨ao, cap, hv⟩ := own_slice (H.out.own hx)
      have HV := Lib.hid hv
      have hl : len d.f s = x.data.length := by unfold len; rw [hx]
      have f0 := H.out.f0 hx
      rw [hv] at f0
      have hroom := H.out.ok.room
      have hle := get_tot H.out.ok.rising hx
      by_cases hc : n < 0 ∨ (x.data.length : Int) < n
      · have e : d.cut s n = (d, 1) := by unfold Dk.cut; rw [ho, has_get, hx, hl]; exact if_pos hc
        rw [e]
        have HC := Lib.hid hc
        clear ho e hx hv hl hc hroom
        by_cases h0 : n < 0
        all_goals
          have HC0 := HC.out
          have hc1 : decide (n < 0) = !decide (0 ≤ n) := by by_cases k : 0 ≤ n <;> simp [k] <;> omega
          clear HC0 hc1
          go_enter Tryz.func124, Tryz.ntmps124
          go_wp2_with (go_at_call 108; (with_reducible refine (find_some H.out HS.out HO.out HX.out).mono ?_); rintro e w' ⟨rfl, rfl⟩)
          all_goals first
            | (exfalso; have := HC.out; omega)
            | (go_ret; exact wrote_same (r := (d, 1)) H.out (Tn.refl _ _) H.out.lt)
      · have hc0 : 0 ≤ n := by omega
        have hc1 : n ≤ (x.data.length : Int) := by omega
        cases hq : d.spend.2 with
        | false =>
          have e : d.cut s n = (d.spend.1, 12) := by unfold Dk.cut; rw [ho, has_get, hx, hl, hq]; simp [hc]
          rw [e]
          have HQ := Lib.hid hq
          clear ho e hx hq hl hv hc hroom
          go_enter Tryz.func124, Tryz.ntmps124
          go_wp2_with (first
            | (go_at_call 108; (with_reducible refine (find_some H.out HS.out HO.out HX.out).mono ?_); rintro e w' ⟨rfl, rfl⟩)
            | (go_at_call 86; (with_reducible refine (spend_any H.out HD.out).mono ?_); rw [HQ.out]; rintro e w1 ⟨rfl, h1, ht⟩; have H1 := Lib.hid h1; have HT := Lib.hid ht; clear h1 ht))
          go_ret
          exact wrote_same (r := (d.spend.1, 12)) H1.out (H.out.tna HT.out) H.out.lt
        | true =>
          have e : d.cut s n = ({ d.spend.1 with f := upd d.f s fun x => ⟨x.data.take n.toNat, min x.safe n.toNat⟩ }, 0) := by unfold Dk.cut; rw [ho, has_get, hx, hl, hq]; simp [hc]
          have HQ := Lib.hid hq
          have HE := Lib.hid e
          have hsafe := H.out.ok.safe _ (get_mem hx)
          simp only at hsafe
          have hroom' := hroom
          clear ho e hx hq hv hl hc hroom
          have hcap := own_cap (HV.out ▸ H.out.own HX.out)
          obtain ⟨k, rfl⟩ := Int.eq_ofNat_of_zero_le hc0
          have hkc : k ≤ cap := by omega
          have hkn : k ≤ x.data.length := by omega
          clear hcap
          go_enter Tryz.func124, Tryz.ntmps124
          go_wp2_with (first
            | (go_at_call 108; (with_reducible refine (find_some H.out HS.out HO.out HX.out).mono ?_); rintro e w' ⟨rfl, rfl⟩)
            | (go_at_call 86; (with_reducible refine (spend_any H.out HD.out).mono ?_); rw [HQ.out]; rintro e w1 ⟨rfl, h1, ht⟩; have H1 := Lib.hid h1; have HT := Lib.hid ht; have f0 := h1.f0 (get_spend HX.out); have f1 := h1.f1 (get_spend HX.out); have g0 := h1.ff (get_spend HX.out) 0; have g1 := h1.ff (get_spend HX.out) 1; rw [HV.out] at f0; clear h1 ht))
          all_goals go_ret
          · have hx1 := get_spend HX.out
            have ht := tn_file (i := 1) (tn_file (i := 0) (Tn.refl (fun k => k = ρ s ∨ (δ s).ownBlock = some k) w1) (.slice ao k cap)) (.int .i64 ((min x.safe k : Nat) : Int))
            have h2 := H1.out.file _ (get_mem hx1)
            have h3 := (H1.out.own hx1)
            rw [HV.out] at h3
            have hm : ((min x.safe k : Nat) : Int) = (k : Int) := by omega
            have h5 : ((w1.setCell ⟨ρ s, 0, none⟩ (.slice ao k cap)).setCell ⟨ρ s, 1, none⟩ (.int .i64 (k : Int))).ownsRow 0 5 1 (.slice ao k cap) k (bys (x.data.take k)) :=
              own_tn (own_take h3 (by omega)) (tn_set (i := 1) (tn_set (i := 0) (Tn.refl (· = ρ s) w1) _) _) (fun j hj e => H1.out.fr (get_mem hx1) (get_mem hx1) (by rw [HV.out, ownBlock_eq ao _ _ k cap]; exact e ▸ hj))
            rw [hm] at ht
            have hk : (x.data.take k).length = k := by rw [List.length_take]; omega
            refine wrote_turn (y := ⟨x.data.take k, min x.safe k⟩) (v := .slice ao k cap) H1.out (H.out.tna HT.out) H.out.lt hx1 ht (heap_set (heap_set h2 _ rfl) _ (by rw [hm]; rfl)) (by rw [hk]; exact h5) (.inl (by rw [HV.out]; exact ownBlock_eq ..)) H.out.ok.cut ?_ (by rw [HE.out]) (by rw [HE.out]) (by rw [HE.out]) (by rw [HE.out]; rfl)
            rw [HE.out, spend_f]
            exact upd_const H.out.ok.rising (fun x => ⟨x.data.take k, min x.safe k⟩) HX.out
          · have hx1 := get_spend HX.out
            have ht := tn_file (i := 1) (tn_file (i := 0) (Tn.refl (fun k => k = ρ s ∨ (δ s).ownBlock = some k) w1) (.slice ao k cap)) (.int .i64 ((min x.safe k : Nat) : Int))
            have h2 := H1.out.file _ (get_mem hx1)
            have h3 := (H1.out.own hx1)
            rw [HV.out] at h3
            have hm : ((min x.safe k : Nat) : Int) = (x.safe : Int) := by omega
            have h5 : ((w1.setCell ⟨ρ s, 0, none⟩ (.slice ao k cap)).setCell ⟨ρ s, 1, none⟩ (.int .i64 (x.safe : Int))).ownsRow 0 5 1 (.slice ao k cap) k (bys (x.data.take k)) :=
              own_tn (own_take h3 (by omega)) (tn_set (i := 1) (tn_set (i := 0) (Tn.refl (· = ρ s) w1) _) _) (fun j hj e => H1.out.fr (get_mem hx1) (get_mem hx1) (by rw [HV.out, ownBlock_eq ao _ _ k cap]; exact e ▸ hj))
            rw [hm] at ht
            have hk : (x.data.take k).length = k := by rw [List.length_take]; omega
            refine wrote_turn (y := ⟨x.data.take k, min x.safe k⟩) (v := .slice ao k cap) H1.out (H.out.tna HT.out) H.out.lt hx1 ht (heap_set (heap_set h2 _ rfl) _ (by rw [hm]; rfl)) (by rw [hk]; exact h5) (.inl (by rw [HV.out]; exact ownBlock_eq ..)) H.out.ok.cut ?_ (by rw [HE.out]) (by rw [HE.out]) (by rw [HE.out]) (by rw [HE.out]; rfl)
            rw [HE.out, spend_f]
            exact upd_const H.out.ok.rising (fun x => ⟨x.data.take k, min x.safe k⟩) HX.out
theorem wpList_del {ops : Array Oper} {rest : List Oper} {o : Oper} {a : Act} {w : World} {Q : Exit → Act → World → Prop} (hg : o.guard = none) (mo xo : Operand)
    (hop : o.op = Op.call { callee := Callee.builtin Builtin.delete, args := #[mo, xo], argTypes := #[83, 9] }) {m : Nat} {L : Ent Nat} {s : Nm} (hm : a.eval mo = .map (some m)) (hx : a.eval xo = nmv s) (h : MAt w m L) (hs : s.length ≤ maxLen)
    (hK : ∀ w', MAt w' m (del L s) → Tn (· = m) w w' → wpList Tryz.prog ops Q rest (a.put o.dst (.tuple #[])) w') : wpList Tryz.prog ops Q (o :: rest) a w :=
  wpList_delete_own w hg mo xo 83 9 hop 93 law9 under62 refE m L.length (dmap L) hm h (nmv s) (.string s) hx (key9 hs) fun w' h1 h2 => hK w' (mat_tight (by rw [← del_dmap]; exact h1))
    (have hg := h2.grown; ⟨hg.os, hg.tape, hg.output, hg.size, fun k hk hne => hg.block k hk (fun e => hne (by simpa using e))⟩)
theorem remove_any (h : DAt S w a d m ρ δ) (hs : s.length ≤ maxLen) (hd : d.done < 9223372036854775807) : Calls Tryz.prog 73 #[ptr a, nmv s] w (Wrote S w a (d.remove s)) := by
  have H := Lib.hid h
  have HS := Lib.hid hs
  have HD := Lib.hid hd
  clear h hs hd
  cases ho : d.off with
  | true =>
    have e : d.remove s = (d, 12) := by unfold Dk.remove; rw [if_pos ho]
    rw [e]
    have HO := Lib.hid ho
    clear ho e
    go_enter Tryz.func73, Tryz.ntmps73
    go_wp2_with (go_at_call 108; (with_reducible refine (find_off H.out HO.out).mono ?_); rintro e w' ⟨rfl, rfl⟩)
    go_ret
    exact wrote_same (r := (d, 12)) H.out (Tn.refl _ _) H.out.lt
  | false =>
    cases hx : get d.f s with
    | none =>
      have e : d.remove s = (d, 8) := by unfold Dk.remove; rw [ho, has_get, hx]; rfl
      rw [e]
      have HO := Lib.hid ho
      have HX := Lib.hid hx
      clear ho e hx
      go_enter Tryz.func73, Tryz.ntmps73
      go_wp2_with (go_at_call 108; (with_reducible refine (find_none H.out HS.out HO.out HX.out).mono ?_); rintro e w' ⟨rfl, rfl⟩)
      go_ret
      exact wrote_same (r := (d, 8)) H.out (Tn.refl _ _) H.out.lt
    | some x =>
      have HO := Lib.hid ho
      have HX := Lib.hid hx
      cases hq : d.spend.2 with
      | false =>
        have e : d.remove s = (d.spend.1, 12) := by unfold Dk.remove; rw [ho, has_get, hx, hq]; rfl
        rw [e]
        have HQ := Lib.hid hq
        clear ho e hx hq
        go_enter Tryz.func73, Tryz.ntmps73
        go_wp2_with (first
          | (go_at_call 108; (with_reducible refine (find_some H.out HS.out HO.out HX.out).mono ?_); rintro e w' ⟨rfl, rfl⟩)
          | (go_at_call 86; (with_reducible refine (spend_any H.out HD.out).mono ?_); rw [HQ.out]; rintro e w1 ⟨rfl, h1, ht⟩; have H1 := Lib.hid h1; have HT := Lib.hid ht; clear h1 ht))
        go_ret
        exact wrote_same (r := (d.spend.1, 12)) H1.out (H.out.tna HT.out) H.out.lt
      | true =>
        have e : d.remove s = ({ d.spend.1 with f := del d.f s }, 0) := by unfold Dk.remove; rw [ho, has_get, hx, hq]; rfl
        have HQ := Lib.hid hq
        have HE := Lib.hid e
        clear ho e hx hq
        go_enter Tryz.func73, Tryz.ntmps73
        go_wp2_with (first
          | (go_at_call 108; (with_reducible refine (find_some H.out HS.out HO.out HX.out).mono ?_); rintro e w' ⟨rfl, rfl⟩)
          | (go_at_call 86; (with_reducible refine (spend_any H.out HD.out).mono ?_); rw [HQ.out]; rintro e w1 ⟨rfl, h1, ht⟩; have H1 := Lib.hid h1; have HT := Lib.hid ht; have c0 := h1.c0; clear h1 ht)
          | (at_delete; refine wpList_del rfl _ _ rfl rfl rfl H1.out.map HS.out ?_; intro w2 hm2 ht2; have HM2 := Lib.hid hm2; have HT2 := Lib.hid ht2; clear hm2 ht2))
        go_ret
        have hT : Tn S w w2 := (H.out.tna HT.out).trans HT2.out fun k _ e => e ▸ H.out.sm
        refine ⟨by rw [HE.out]; rfl, ⟨m, ρ, δ, (H1.out.del HT2.out HM2.out H.out.ok.remove (by rw [HE.out, spend_f]) (by rw [HE.out]) (by rw [HE.out]) (by rw [HE.out])).grow (gw_self S w w2) fun k hk => Gw.size hT.size H.out.lt hk⟩, hT⟩
end
end Go.Proofs.YtkilkhnoldfhcaaGreatDoor
