/- The document's directory (raceref14) in memory: put. Conditions: no more than a million ranges. The document's directory (raceref14): New. Conditions: numbers of 64 bits. -/
import Derived.Test.YtfcdajkgopcmpaaJDb
import Derived.Deep.QuietTactic
import Derived.BigQuiet
namespace Go.Proofs.Ytfcdajkgopcmpaa
open Go.ChangeShapes Go.WideShapes Go.ChangeAt Go.RowKit Go.Deep
/-- Its struct in block a, its list in a row of its own, all in blocks of C. -/
structure RDt (C : Nat → Prop) (w : World) (a : Nat) (L : List RV) (v : Value) : Prop where
  box : w.heap[a]? = some (.cells #[v] 50 (0, 0))
  own : w.ownsRow 0 37 4 v L.length (cellsR L)
  row : ∀ k, v.ownBlock = some k → C k
  ca : C a
  lt : ∀ k, C k → k < w.heap.size
def RD (C : Nat → Prop) (w : World) (a : Nat) (L : List RV) : Prop := ∃ v, RDt C w a L v
section
variable {C S : Nat → Prop} {w w' : World} {a : Nat} {L L' : List RV} {v u : Value}
theorem RDt.tn (h : RDt C w a L v) (ht : Tn S w w') (hd : ∀ k, C k → ¬ S k) : RDt C w' a L v :=
  ⟨ht.at_ h.box (hd a h.ca), own_tn h.own ht (fun k hk => hd k (h.row k hk)), h.row, h.ca, fun k hk => Nat.lt_of_lt_of_le (h.lt k hk) ht.size⟩
theorem RDt.below (h : RDt C w a L v) (hb : Below w.heap.size w w') : RDt C w' a L v := h.tn (Tn.of_below (S := fun _ => False) hb) (fun _ _ e => e)
theorem RD.tn (h : RD C w a L) (ht : Tn S w w') (hd : ∀ k, C k → ¬ S k) : RD C w' a L := let ⟨_, h⟩ := h; ⟨_, h.tn ht hd⟩
theorem RD.below (h : RD C w a L) (hb : Below w.heap.size w w') : RD C w' a L := let ⟨_, h⟩ := h; ⟨_, h.below hb⟩
theorem RD.lt (h : RD C w a L) : ∀ k, C k → k < w.heap.size := let ⟨_, h⟩ := h; h.lt
theorem RD.ca (h : RD C w a L) : C a := let ⟨_, h⟩ := h; h.ca
theorem RDt.c0 (h : RDt C w a L v) : w.cell? ⟨a, 0, none⟩ = some v := by simp [World.cell?, h.box]
theorem RDt.fz (h : RDt C w a L v) (o : Nat) : w.frozen? ⟨a, o, none⟩ = false := by simp [World.frozen?, h.box]
theorem RDt.alt (h : RDt C w a L v) : a < w.heap.size := h.lt a h.ca
theorem RDt.relist (h : RDt C w a L v) (hb : Below w.heap.size w w') {base : Nat} (ho : w'.ownsRow base 37 4 u L'.length (cellsR L')) (hbase : w.heap.size ≤ base) :
    ∃ C', RDt C' (w'.setCell ⟨a, 0, none⟩ u) a L' u ∧ Way C w C' (w'.setCell ⟨a, 0, none⟩ u) := by
  have ha := h.alt
  have hbx := (Tn.of_below (S := fun _ => False) hb).at_ h.box (fun e => e)
  have ht2 : Tn (· = a) w' (w'.setCell ⟨a, 0, none⟩ u) := tn_set (Tn.refl _ _) _
  have ht : Tn (· = a) w (w'.setCell ⟨a, 0, none⟩ u) := tn_set (Tn.of_below hb) _
  have hun : ∀ k, u.ownBlock = some k → ¬ k = a := fun k hk e => by have := (ho.lt k hk).1; omega
  refine ⟨fun k => C k ∨ u.ownBlock = some k, ⟨heap_set hbx u rfl, own_mono (own_tn ho ht2 hun) (Nat.zero_le _), fun k hk => .inr hk, .inl h.ca, fun k hk => ?_⟩, ⟨ht.mono (fun k _ e => by rw [e]; exact h.ca), fun k hk => ?_⟩⟩
  · rcases hk with hk | hk
    · have := h.lt k hk; have := hb.size; simp; omega
    · have := (ho.lt k hk).2; simpa using this
  · rcases hk with hk | hk
    · exact .inl hk
    · have := ho.lt k hk; exact .inr (by simp; omega)
theorem take_while {r : RV} : ∀ {L : List RV} {k : Nat}, k ≤ L.length → (∀ q ∈ L.take k, q.i < r.i) → (∀ h : k < L.length, ¬ L[k].i < r.i) → putL L r = L.take k ++ ([r] ++ L.drop k)
  | [], k, _, _, _ => by simp [putL_nil]
  | a :: L, 0, _, _, he => by
    have h0 : ¬ a.i < r.i := he (by simp)
    rw [putL_cons, if_neg h0]
    rfl
  | a :: L, k + 1, hk, h, he => by
    rw [putL_cons, if_pos (h a (by simp)), take_while (k := k) (by simpa using hk) (fun q hq => h q (by simp [hq])) (fun hl => he (Nat.succ_lt_succ hl))]
    rfl
theorem own_rat {base n : Nat} {ao : Option Addr} {cap : Nat} (h : w.ownsRow base 37 4 (.slice ao n cap) L.length (cellsR L)) {k : Nat} (hk : k < L.length) : ∃ g, ao = some ⟨g, 0, none⟩ ∧ g < w.heap.size ∧ RAt w g (k * 4) L[k] := by
  obtain ⟨g, c, e⟩ := own_shape h (by omega)
  injection e with e1 e2 e3
  subst e1 e2 e3
  have := own_oc h hk
  exact ⟨g, rfl, (h.lt g rfl).2, this.c0, this.c1, this.c2, this.c3⟩
/-- What put leaves. -/
def RPut (C : Nat → Prop) (w : World) (a : Nat) (L' : List RV) (e : Ending) (w' : World) : Prop := e = .returned (.tuple #[]) ∧ ∃ C', RD C' w' a L' ∧ Way C w C' w'
set_option maxRecDepth 100000 in
set_option maxHeartbeats 4000000 in
theorem rput_any (h : RD C w a L) (r : RV) (hl : L.length ≤ 1000000) : Calls Try.prog 29 #[ptr a, ragg r] w (RPut C w a (putL L r)) := by
  obtain ⟨v, hr⟩ := h
  obtain ⟨ao, cap, e⟩ := own_slice hr.own
  subst e
  have H := Lib.hid hr
  have HL := Lib.hid hl
  have hb1 := below1 w (robj r)
  have H1 := Lib.hid (hr.below hb1)
  have HX := Lib.hid (at_new w r)
  obtain ⟨b, hbs⟩ : ∃ b, w.heap.size = b := ⟨_, rfl⟩
  have HBS := Lib.hid hbs
  rw [hbs] at HX
  obtain ⟨W1, hW1⟩ : ∃ W1, w.alloc (robj r) = W1 := ⟨_, rfl⟩
  rw [hW1] at H1 HX hb1
  have HB1 := Lib.hid hb1
  have HBW : Hid (Below w.heap.size w W1) := Lib.hid (by rw [← hW1]; exact below1 w _)
  obtain ⟨n, hn⟩ : ∃ n, L.length = n := ⟨_, rfl⟩
  have HN := Lib.hid hn
  rw [hn] at hl
  have HS1 : Hid (W1.heap.size = b + 1) := Lib.hid (by rw [← hW1, ← hbs]; simp)
  have hab : Hid (a < b) := Lib.hid (by rw [← hbs]; exact hr.alt)
  clear hr hb1 hn
  obtain ⟨r1, r2, r3, r4⟩ := r
  go_enter Try.func29, Try.ntmps29
  go_wp2
  go_loopw [4, 5] (fun vo vi wr => ∃ k : Nat, vi = .int .i64 k ∧ k ≤ n ∧ Hid (∀ q ∈ L.take k, q.i < r1) ∧ Hid (wr.ownsRow W1.heap.size 37 4 vo k (cellsR (L.take k))) ∧ Hid (Below W1.heap.size W1 wr)) (fun _ vi _ => n - (RowKit.intOf vi).toNat)
  case atStart => exact ⟨0, rfl, Nat.zero_le _, Lib.hid (fun q hq => by simp at hq), Lib.hid (World.ownsRow_nil _ _ _ _), Lib.hid (Below.refl _ _)⟩
  case round =>
    obtain ⟨k, rfl, hk, HP, HO, HB⟩ := hrel
    have HFACT : ∀ wz : World, Below W1.heap.size W1 wz → Hid (wz.cell? ⟨a, 0, none⟩ = some (.slice ao n cap) ∧ wz.frozen? ⟨a, 0, none⟩ = false ∧ At wz b ⟨r1, r2, r3, r4⟩) := fun wz hb => Lib.hid ⟨by rw [← HN.out]; exact (hb.cell (p := ⟨a, 0, none⟩) H1.out.alt).trans H1.out.c0, (hb.frozen (p := ⟨a, 0, none⟩) H1.out.alt).trans (H1.out.fz 0), HX.out.below hb HX.out.lt⟩
    obtain ⟨c0, f0, hx⟩ := (HFACT wr HB.out).out
    have x0 := hx.c0; have x1 := hx.c1; have x2 := hx.c2; have x3 := hx.c3
    simp only at x0 x1 x2 x3
    clear hx
    by_cases hlt : k < n ∧ ∃ h : k < L.length, L[k].i < r1
    · obtain ⟨hkn, hkl, hq⟩ := hlt
      obtain ⟨g, rfl, hg, hra⟩ := own_rat H1.out.own hkl
      have HRA := Lib.hid hra
      have HG := Lib.hid hg
      have HP2 : Hid (∀ q ∈ L.take (k + 1), q.i < r1) := Lib.hid (fun q hqm => by
        rw [List.take_succ_eq_append_getElem hkl] at hqm
        rcases List.mem_append.1 hqm with h | h
        · exact HP.out q h
        · obtain rfl := List.mem_singleton.1 h; exact hq)
      have HT : Hid (L.take (k + 1) = L.take k ++ [L[k]]) := Lib.hid (List.take_succ_eq_append_getElem hkl)
      clear hra hg HP
      generalize L[k] = q at *
      have d0 := (HB.out.cell (p := ⟨g, k * 4, none⟩) HG.out).trans HRA.out.c0
      have hkn2 : (k : Int) < (n : Int) := by omega
      go_wp2
      go_quiet (fail)
      have hbq := below_drewN wr nq
      have HB := Lib.hid (HB.out.trans (hbq.mono HB.out.size))
      have HO := Lib.hid (own_below HO.out hbq)
      clear hbq c0 f0 x0 x1 x2 x3 d0
      generalize wr.drewN nq = wz at *
      obtain ⟨c0, f0, hx⟩ := (HFACT wz HB.out).out
      have x0 := hx.c0
      have d0 := (HB.out.cell (p := ⟨g, k * 4, none⟩) HG.out).trans HRA.out.c0
      have d1 := (HB.out.cell (p := ⟨g, k * 4 + 1, none⟩) HG.out).trans HRA.out.c1
      have d2 := (HB.out.cell (p := ⟨g, k * 4 + 2, none⟩) HG.out).trans HRA.out.c2
      have d3 := (HB.out.cell (p := ⟨g, k * 4 + 3, none⟩) HG.out).trans HRA.out.c3
      clear hx
      go_wp2_with (first
        | (at_builtin; refine wpList_append_ranges (wanted_none rfl _) (.tmp 26) (.tmp 34) rfl rfl (HO.out.alloc _) (by have := HB.out.size; simp; omega) rfl (has_lit wz q) (by omega) ?_; intro v2 w9 ho hg; have HO9 := Lib.hid ho; have HB9 := Lib.hid ((HB.out.alloc HB.out.size (robj q)).grown hg (HB.out.alloc HB.out.size _).size (fun x hx => (HO.out.lt x hx).1)); clear ho hg)
        | fail)
      go_roundw
      case rel => exact ⟨k + 1, by go_num, by omega, HP2, by rw [HT.out]; exact HO9, HB9⟩
      case measure => simp [intOf]; omega
    · have HPL : Hid (putL L ⟨r1, r2, r3, r4⟩ = L.take k ++ ([⟨r1, r2, r3, r4⟩] ++ L.drop k)) := Lib.hid (take_while (by rw [HN.out]; exact hk) HP.out (fun h => fun e => hlt ⟨by rw [← HN.out]; exact h, h, e⟩))
      have hcm : n ≤ cap ∧ cap ≤ 9223372036854775807 ∧ (ao = none → cap = 0) := by
        obtain ⟨ao', cap', hv, h1, h2, h3, _⟩ := own_ranges H1.out.own
        injection hv with e1 e2 e3
        subst e1 e3
        exact ⟨by rw [← HN.out]; exact h1, Nat.le_trans h2 (by decide), fun e => (h3 e).1⟩
      by_cases hkn : k < n
      · have hkl : k < L.length := by rw [HN.out]; exact hkn
        obtain ⟨g, rfl, hg, hra⟩ := own_rat H1.out.own hkl
        have d0 := (HB.out.cell (p := ⟨g, k * 4, none⟩) hg).trans hra.c0
        have hq : ¬ L[k].i < r1 := fun e => hlt ⟨hkn, hkl, e⟩
        have hkn2 : (k : Int) < (n : Int) := by omega
        have hc1 : ¬ cap = k := by omega
        have hc2 : ¬ k = cap := by omega
        have HHR : ∀ wz, Below W1.heap.size W1 wz → Hid (HasR (fun _ => True) wz (.slice (some ⟨g, k * 4, none⟩) (n - k) (cap - k)) (L.drop k)) := fun wz hb => Lib.hid (by
          have h0 := own_ranges H1.out.own
          have h1 := (has_rest (h0.below hb) (k := k) (by rw [HN.out]; exact hk))
          rw [HN.out, Nat.zero_add] at h1
          obtain ⟨x1, x2, x3, x4, x5, x6, x7⟩ := h1
          exact ⟨x1, x2, x3, x4, x5, x6, x7.imp_right fun ⟨y1, y2, y3, _, y4⟩ => ⟨y1, y2, y3, trivial, y4⟩⟩)
        clear hra hg hlt HP
        generalize L[k].i = q at *
        clear hkl
        go_wp2
        go_quiet (fail)
        have hbq := below_drewN wr nq
        have HB := Lib.hid (HB.out.trans (hbq.mono HB.out.size))
        have HO := Lib.hid (own_below HO.out hbq)
        clear hbq c0 f0 x0 x1 x2 x3 d0
        generalize wr.drewN nq = wz at *
        obtain ⟨c0, f0, hx⟩ := (HFACT wz HB.out).out
        have x0 := hx.c0; have x1 := hx.c1; have x2 := hx.c2; have x3 := hx.c3
        simp only at x0 x1 x2 x3
        clear hx
        go_wp2_with (first
          | (at_builtin; refine wpList_append_ranges (wanted_none rfl _) (.tmp 43) (.tmp 49) rfl rfl HO9.out HB9.out.size rfl (HHR w9 HB9.out).out (by omega) ?_; intro v3 w10 ho hg; obtain ⟨vo3, vc3, e⟩ := own_slice ho; subst e; have HB10 := Lib.hid (HB9.out.grown hg HB9.out.size (fun x hx => (HO9.out.lt x hx).1)); have HO10 := Lib.hid ho; obtain ⟨c0, f0, hx⟩ := (HFACT w10 HB10.out).out; clear ho hg hx)
          | (at_builtin; refine wpList_append_ranges (wanted_none rfl _) (.tmp 38) (.tmp 40) rfl rfl (HO.out.alloc _) (by have := HB.out.size; simp; omega) rfl (has_lit wz ⟨r1, r2, r3, r4⟩) (by omega) ?_; intro v2 w9 ho hg; have HO9 := Lib.hid ho; have HB9 := Lib.hid ((HB.out.alloc HB.out.size (robj ⟨r1, r2, r3, r4⟩)).grown hg (HB.out.alloc HB.out.size _).size (fun x hx => (HO.out.lt x hx).1)); obtain ⟨c0, f0, hx⟩ := (HFACT w9 HB9.out).out; clear ho hg hx)
          | fail)
        go_end0
        have hlen : (L.take k ++ ([(⟨r1, r2, r3, r4⟩ : RV)] ++ L.drop k)).length = k + 1 + (n - k) := by
          simp only [List.length_append, List.length_take, List.length_drop, List.length_cons, List.length_nil, HN.out]
          omega
        rw [HPL.out]
        obtain ⟨C', g1, g2⟩ := H1.out.relist HB10.out (L' := L.take k ++ ([(⟨r1, r2, r3, r4⟩ : RV)] ++ L.drop k)) (by rw [hlen, ← List.append_assoc]; exact HO10.out) (Nat.le_refl _)
        exact ⟨rfl, C', ⟨_, g1⟩, (Way.of_below HBW.out).trans g2⟩
      · obtain rfl : k = n := by omega
        have hkn2 : ¬ (k : Int) < (k : Int) := by omega
        have HDN : Hid (L.drop k = []) := Lib.hid (List.drop_of_length_le (by rw [HN.out]; exact Nat.le_refl _))
        have hcc : (ao = none ∧ cap = 0 ∧ k = 0) ∨ (∃ g, ao = some ⟨g, 0, none⟩) := by
          rcases H1.out.own.2 with ⟨e, h0⟩ | ⟨g, c, cur, e, _⟩
          · injection e with e1 e2 e3
            exact .inl ⟨e1, e3, by rw [← HN.out]; exact h0⟩
          · injection e with e1
            exact .inr ⟨g, e1⟩
        clear hlt HP hkn
        rw [HDN.out] at HPL
        rcases hcc with ⟨rfl, rfl, rfl⟩ | ⟨g, rfl⟩
        · go_wp2
          go_quiet (fail)
          have hbq := below_drewN wr nq
          have HB := Lib.hid (HB.out.trans (hbq.mono HB.out.size))
          have HO := Lib.hid (own_below HO.out hbq)
          clear hbq c0 f0 x0 x1 x2 x3
          generalize wr.drewN nq = wz at *
          obtain ⟨c0, f0, hx⟩ := (HFACT wz HB.out).out
          have x0 := hx.c0; have x1 := hx.c1; have x2 := hx.c2; have x3 := hx.c3
          simp only at x0 x1 x2 x3
          clear hx
          go_wp2_with (first
            | (at_builtin; refine wpList_append_ranges (wanted_none rfl _) (.tmp 43) (.tmp 49) rfl rfl HO9.out HB9.out.size rfl (⟨_, _, rfl, Nat.zero_le _, (by unfold maxLen; omega), (fun e => (by first | (cases e; done) | exact ⟨by omega, rfl⟩)), .inl rfl⟩ : HasR (fun _ => True) w9 _ []) (by omega) ?_; intro v3 w10 ho hg; obtain ⟨vo3, vc3, e⟩ := own_slice ho; subst e; have HB10 := Lib.hid (HB9.out.grown hg HB9.out.size (fun x hx => (HO9.out.lt x hx).1)); have HO10 := Lib.hid ho; obtain ⟨c0, f0, hx⟩ := (HFACT w10 HB10.out).out; clear ho hg hx)
            | (at_builtin; refine wpList_append_ranges (wanted_none rfl _) (.tmp 38) (.tmp 40) rfl rfl (HO.out.alloc _) (by have := HB.out.size; simp; omega) rfl (has_lit wz ⟨r1, r2, r3, r4⟩) (by omega) ?_; intro v2 w9 ho hg; have HO9 := Lib.hid ho; have HB9 := Lib.hid ((HB.out.alloc HB.out.size (robj ⟨r1, r2, r3, r4⟩)).grown hg (HB.out.alloc HB.out.size _).size (fun x hx => (HO.out.lt x hx).1)); obtain ⟨c0, f0, hx⟩ := (HFACT w9 HB9.out).out; clear ho hg hx)
            | fail)
          go_end0
          have hlen : (L.take 0 ++ ([(⟨r1, r2, r3, r4⟩ : RV)] ++ ([] : List RV))).length = 0 + 1 + 0 := by
            simp only [List.length_append, List.length_take, List.length_cons, List.length_nil, HN.out]
            omega
          rw [HPL.out]
          obtain ⟨C', g1, g2⟩ := H1.out.relist HB10.out (L' := L.take 0 ++ ([(⟨r1, r2, r3, r4⟩ : RV)] ++ ([] : List RV))) (by rw [hlen, ← List.append_assoc]; exact HO10.out) (Nat.le_refl _)
          exact ⟨rfl, C', ⟨_, g1⟩, (Way.of_below HBW.out).trans g2⟩
        · rcases Classical.em (cap = k) with hc | hc
          · subst hc
            go_wp2
            go_quiet (fail)
            have hbq := below_drewN wr nq
            have HB := Lib.hid (HB.out.trans (hbq.mono HB.out.size))
            have HO := Lib.hid (own_below HO.out hbq)
            clear hbq c0 f0 x0 x1 x2 x3
            generalize wr.drewN nq = wz at *
            obtain ⟨c0, f0, hx⟩ := (HFACT wz HB.out).out
            have x0 := hx.c0; have x1 := hx.c1; have x2 := hx.c2; have x3 := hx.c3
            simp only at x0 x1 x2 x3
            clear hx
            go_wp2_with (first
              | (at_builtin; refine wpList_append_ranges (wanted_none rfl _) (.tmp 43) (.tmp 49) rfl rfl HO9.out HB9.out.size rfl (⟨_, _, rfl, Nat.zero_le _, (by unfold maxLen; omega), (fun e => (by first | (cases e; done) | exact ⟨by omega, rfl⟩)), .inl rfl⟩ : HasR (fun _ => True) w9 _ []) (by omega) ?_; intro v3 w10 ho hg; obtain ⟨vo3, vc3, e⟩ := own_slice ho; subst e; have HB10 := Lib.hid (HB9.out.grown hg HB9.out.size (fun x hx => (HO9.out.lt x hx).1)); have HO10 := Lib.hid ho; obtain ⟨c0, f0, hx⟩ := (HFACT w10 HB10.out).out; clear ho hg hx)
              | (at_builtin; refine wpList_append_ranges (wanted_none rfl _) (.tmp 38) (.tmp 40) rfl rfl (HO.out.alloc _) (by have := HB.out.size; simp; omega) rfl (has_lit wz ⟨r1, r2, r3, r4⟩) (by omega) ?_; intro v2 w9 ho hg; have HO9 := Lib.hid ho; have HB9 := Lib.hid ((HB.out.alloc HB.out.size (robj ⟨r1, r2, r3, r4⟩)).grown hg (HB.out.alloc HB.out.size _).size (fun x hx => (HO.out.lt x hx).1)); obtain ⟨c0, f0, hx⟩ := (HFACT w9 HB9.out).out; clear ho hg hx)
              | fail)
            go_end0
            have hlen : (L.take cap ++ ([(⟨r1, r2, r3, r4⟩ : RV)] ++ ([] : List RV))).length = cap + 1 + 0 := by
              simp only [List.length_append, List.length_take, List.length_cons, List.length_nil, HN.out]
              omega
            rw [HPL.out]
            obtain ⟨C', g1, g2⟩ := H1.out.relist HB10.out (L' := L.take cap ++ ([(⟨r1, r2, r3, r4⟩ : RV)] ++ ([] : List RV))) (by rw [hlen, ← List.append_assoc]; exact HO10.out) (Nat.le_refl _)
            exact ⟨rfl, C', ⟨_, g1⟩, (Way.of_below HBW.out).trans g2⟩
          · have hc2 : ¬ k = cap := fun e => hc e.symm
            go_wp2
            go_quiet (fail)
            have hbq := below_drewN wr nq
            have HB := Lib.hid (HB.out.trans (hbq.mono HB.out.size))
            have HO := Lib.hid (own_below HO.out hbq)
            clear hbq c0 f0 x0 x1 x2 x3
            generalize wr.drewN nq = wz at *
            obtain ⟨c0, f0, hx⟩ := (HFACT wz HB.out).out
            have x0 := hx.c0; have x1 := hx.c1; have x2 := hx.c2; have x3 := hx.c3
            simp only at x0 x1 x2 x3
            clear hx
            go_wp2_with (first
              | (at_builtin; refine wpList_append_ranges (wanted_none rfl _) (.tmp 43) (.tmp 49) rfl rfl HO9.out HB9.out.size rfl (⟨_, _, rfl, Nat.zero_le _, (by unfold maxLen; omega), (fun e => (by first | (cases e; done) | exact ⟨by omega, rfl⟩)), .inl rfl⟩ : HasR (fun _ => True) w9 _ []) (by omega) ?_; intro v3 w10 ho hg; obtain ⟨vo3, vc3, e⟩ := own_slice ho; subst e; have HB10 := Lib.hid (HB9.out.grown hg HB9.out.size (fun x hx => (HO9.out.lt x hx).1)); have HO10 := Lib.hid ho; obtain ⟨c0, f0, hx⟩ := (HFACT w10 HB10.out).out; clear ho hg hx)
              | (at_builtin; refine wpList_append_ranges (wanted_none rfl _) (.tmp 38) (.tmp 40) rfl rfl (HO.out.alloc _) (by have := HB.out.size; simp; omega) rfl (has_lit wz ⟨r1, r2, r3, r4⟩) (by omega) ?_; intro v2 w9 ho hg; have HO9 := Lib.hid ho; have HB9 := Lib.hid ((HB.out.alloc HB.out.size (robj ⟨r1, r2, r3, r4⟩)).grown hg (HB.out.alloc HB.out.size _).size (fun x hx => (HO.out.lt x hx).1)); obtain ⟨c0, f0, hx⟩ := (HFACT w9 HB9.out).out; clear ho hg hx)
              | fail)
            go_end0
            have hlen : (L.take k ++ ([(⟨r1, r2, r3, r4⟩ : RV)] ++ ([] : List RV))).length = k + 1 + 0 := by
              simp only [List.length_append, List.length_take, List.length_cons, List.length_nil, HN.out]
              omega
            rw [HPL.out]
            obtain ⟨C', g1, g2⟩ := H1.out.relist HB10.out (L' := L.take k ++ ([(⟨r1, r2, r3, r4⟩ : RV)] ++ ([] : List RV))) (by rw [hlen, ← List.append_assoc]; exact HO10.out) (Nat.le_refl _)
            exact ⟨rfl, C', ⟨_, g1⟩, (Way.of_below HBW.out).trans g2⟩
end
end Go.Proofs.Ytfcdajkgopcmpaa
namespace Go.Proofs.Ytfcdajkgopcmpaa
open Go.ChangeShapes Go.WideShapes Go.ChangeAt Go.RowKit Go.Deep
theorem foldl_take {α β : Type} {f : β → α → β} {b : β} {l : List α} {k : Nat} (h : k < l.length) : (l.take (k + 1)).foldl f b = f ((l.take k).foldl f b) l[k] := by
  rw [List.take_succ_eq_append_getElem h, List.foldl_append]; rfl
theorem length_new (l : List RV) : (newL l).length = l.length := by
  have : ∀ (l M : List RV), (l.foldl putL M).length = M.length + l.length := by
    intro l
    induction l with
    | nil => intro M; rfl
    | cons r l ih => intro M; rw [List.foldl_cons, ih, length_putL, List.length_cons]; omega
  have := this l []
  simpa [newL] using this
theorem hasR_at {P : Nat → Prop} {w : World} {ao : Option Addr} {n cap : Nat} {l : List RV} (h : HasR P w (.slice ao n cap) l) {k : Nat} (hk : k < l.length) : ∃ b o, ao = some ⟨b, o, none⟩ ∧ b < w.heap.size ∧ P b ∧ RAt w b (o + k * 4) l[k] := by
  obtain ⟨ao', cap', hv, _, _, _, h4⟩ := h
  injection hv with e1 e2 e3
  subst e1 e2 e3
  obtain ⟨b, o, h4, h5, h6, hc⟩ := h4.resolve_left (fun e => by rw [e] at hk; exact absurd hk (Nat.not_lt_zero _))
  exact ⟨b, o, h4, h6, h5, hc k hk⟩
theorem hasR_len {P : Nat → Prop} {w : World} {v : Value} {l : List RV} (h : HasR P w v l) : ∃ ao cap, v = .slice ao l.length cap ∧ l.length ≤ cap ∧ cap ≤ 9223372036854775807 := by
  obtain ⟨ao, cap, hv, h1, h2, _⟩ := h
  exact ⟨ao, cap, hv, h1, Nat.le_trans h2 (by decide)⟩
theorem check_small {l : List RV} (h : checkV l = 0) : l.length ≤ 12 := by
  unfold checkV at h
  rcases Nat.lt_or_ge 12 l.length with hl | hl
  · have h0 : (l.length == 0) = false := by rw [beq_eq_false_iff_ne]; omega
    rw [h0] at h
    simp [hl] at h
  · exact hl
section
variable {P : Nat → Prop} {w : World} {v : Value} {l : List RV}
theorem rd_new (w : World) : RD (· = w.heap.size) (w.alloc (.cells #[.slice none 0 0] 50)) w.heap.size [] :=
  ⟨_, by show (Array.push w.heap _)[w.heap.size]? = some _; exact Array.getElem?_push_size, World.ownsRow_nil _ _ _ _, (fun k hk => by cases hk), rfl, fun k hk => by subst hk; simp⟩
set_option maxRecDepth 100000 in
theorem rnew14_no (h : HasR P w v l) (hw : ∀ r ∈ l, r.wf) (hc : checkV l ≠ 0) : Calls Try.prog 10 #[v] w fun e w' => e = .returned (.tuple #[.pointer none, .int .i64 (checkV l)]) ∧ Below w.heap.size w w' := by
  have HC := Lib.hid (rcheck_any h hw)
  obtain ⟨ao, cap, rfl, _⟩ := hasR_len h
  have hne : (checkV l != 0) = true := by simpa using hc
  clear h hw
  generalize checkV l = c at *
  go_enter Try.func10, Try.ntmps10
  go_wp2_with (go_at_call 25; refine HC.out.mono ?_; rintro e w1 ⟨rfl, hb⟩; have HB := Lib.hid hb; clear hb)
  go_ret2
  exact ⟨rfl, HB.out⟩
set_option maxRecDepth 100000 in
set_option maxHeartbeats 4000000 in
theorem rnew14_yes (h : HasR P w v l) (hw : ∀ r ∈ l, r.wf) (hc : checkV l = 0) : Calls Try.prog 10 #[v] w fun e w' => ∃ a C, e = .returned (.tuple #[ptr a, .int .i64 0]) ∧ RD C w' a (newL l) ∧ (∀ k, C k → w.heap.size ≤ k) ∧ Below w.heap.size w w' := by
  have HC := Lib.hid (rcheck_any h hw)
  rw [hc] at HC
  have h12 := check_small hc
  have H := Lib.hid h
  obtain ⟨ao, cap, rfl, hcp, hcm⟩ := hasR_len h
  obtain ⟨n, hn⟩ : ∃ n, l.length = n := ⟨_, rfl⟩
  have HN := Lib.hid hn
  rw [hn] at H h12 hcp ⊢
  have HCN := HC
  rw [hn] at HCN
  clear h hw hc hn HC
  go_enter Try.func10, Try.ntmps10
  go_wp2_with (go_at_call 25; refine HCN.out.mono ?_; rintro e w1 ⟨rfl, hb⟩; have HB := Lib.hid hb; have HD1 := Lib.hid (rd_new w1); have HW1 := Lib.hid (below1 w1 (.cells #[.slice none 0 0] 50)); clear hb)
  go_loopw [6] (fun vi wr => ∃ k : Nat, vi = .int .i64 k ∧ k ≤ n ∧ Hid (∃ C, RD C wr w1.heap.size (newL (l.take k)) ∧ ∀ q, C q → w1.heap.size ≤ q) ∧ Hid (Below w1.heap.size w1 wr)) (fun vi _ => n - (RowKit.intOf vi).toNat)
  case atStart => exact ⟨0, rfl, Nat.zero_le _, Lib.hid ⟨_, HD1.out, fun q hq => by subst hq; exact Nat.le_refl _⟩, HW1⟩
  case round =>
    obtain ⟨k, rfl, hk, HD, HBR⟩ := hrel
    have HBW := Lib.hid (HB.out.trans (HBR.out.mono HB.out.size))
    by_cases hlt : k < n
    · have hkl : k < l.length := by rw [HN.out]; exact hlt
      obtain ⟨b, o, rfl, hbl, _, hra⟩ := hasR_at H.out hkl
      have d0 := (HBW.out.cell (p := ⟨b, o + k * 4, none⟩) hbl).trans hra.c0
      have d1 := (HBW.out.cell (p := ⟨b, o + k * 4 + 1, none⟩) hbl).trans hra.c1
      have d2 := (HBW.out.cell (p := ⟨b, o + k * 4 + 2, none⟩) hbl).trans hra.c2
      have d3 := (HBW.out.cell (p := ⟨b, o + k * 4 + 3, none⟩) hbl).trans hra.c3
      have HT : Hid (newL (l.take (k + 1)) = putL (newL (l.take k)) l[k]) := Lib.hid (foldl_take hkl)
      have HPT := fun wz C (hd : RD C wz w1.heap.size (newL (l.take k))) => Lib.hid (rput_any hd l[k] (by rw [length_new, List.length_take]; omega))
      clear hra
      generalize l[k] = q at *
      clear hkl
      obtain ⟨C0, hd0, hc0⟩ := HD.out
      have HD0 := Lib.hid hd0
      have HC0 := Lib.hid hc0
      clear hd0 hc0
      go_wp2_with (go_at_call 29; refine (HPT _ _ HD0.out).out.mono ?_; rintro e w3 ⟨rfl, C', g1, g2⟩; have HR3 := Lib.hid g1; have HW3 := Lib.hid g2; clear g1 g2)
      go_roundw
      case rel => exact ⟨k + 1, by go_num, by omega, Lib.hid ⟨C', by rw [HT.out]; exact HR3.out, fun q hq => by
          rcases HW3.out.new q hq with h | h
          · exact HC0.out q h
          · have := HBR.out.size; omega⟩, Lib.hid (HBR.out.trans (HW3.out.tn.below HBR.out.size HC0.out))⟩
      case measure => simp [intOf]; omega
    · obtain rfl : k = n := by omega
      have e : l.take k = l := List.take_of_length_le (by rw [HN.out]; exact Nat.le_refl _)
      rw [e] at HD
      clear e
      obtain ⟨C0, hd0, hc0⟩ := HD.out
      have HD0 := Lib.hid hd0
      have HC0 := Lib.hid hc0
      clear hd0 hc0
      go_wp2
      go_ret2
      exact ⟨w1.heap.size, C0, rfl, HD0.out, fun q hq => Nat.le_trans HB.out.size (HC0.out q hq), HBW.out⟩
end
end Go.Proofs.Ytfcdajkgopcmpaa
