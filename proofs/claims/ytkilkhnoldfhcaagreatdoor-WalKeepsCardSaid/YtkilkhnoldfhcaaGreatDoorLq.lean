/- (*wal.Log).From. Conditions: a log as it lies, with no more than a million records. -/
import Derived.Test.YtkilkhnoldfhcaaGreatDoorLo
import Derived.Deep.LoopGhost
namespace Go.Proofs.YtkilkhnoldfhcaaGreatDoor
open Go.RowKit
def Lg.from (lg : Lg) (k most : Int) : Option (List (List UInt8)) := if k < (lg.low : Int) ∨ (lg.safe : Int) + 1 < k then none else some ((lg.rests k).take (min most ((lg.safe : Int) + 1 - k)).toNat)
def FromAns (w w' : World) (v : Value) (r : Int) : Option (List (List UInt8)) → Prop
  | none => v = .slice none 0 0 ∧ r = 8
  | some L => (∃ us, RO (fun q => w.heap.size ≤ q) w' v us L) ∧ r = 0
theorem wpList_append_rec {ops : Array Oper} {rest : List Oper} {o : Oper} {a : Act} {w : World} {Q : Exit → Act → World → Prop} (hw : Region.wanted o (yielded ops a.tmps) = true) (s x : Operand)
    (ho : o.op = .call { callee := .builtin .append, args := #[s, x], argTypes := #[57, 57] })
    {v : Value} {n : Nat} {us : List Value} {u : Value} {b : Nat} (hs : a.eval s = v) (hown : w.ownsRow 0 36 1 v n us) (hx : a.eval x = .slice (some ⟨b, 0, none⟩) 1 1) (hm : w.heap[b]? = some (.cells #[u] 36 (0, 0)))
    (h1 : u.oneCell' = true) (hroom : n ≤ 1000000)
    (h : ∀ v' w', w'.ownsRow 0 36 1 v' (n + 1) (us ++ [u]) → w.grownBy w' v.ownBlock → (v'.ownBlock = v.ownBlock ∨ v'.ownBlock = some w.heap.size) → wpList Tryz.prog ops Q rest (a.put o.dst v') w') : wpList Tryz.prog ops Q (o :: rest) a w := by
  refine wpList_step fun K hK => ?_
  exact oper_append_rec hw s x ho hs hown hx hm h1 hroom (fun v' w' h2 h3 h5 => hK _ _ (h v' w' h2 h3 h5))
theorem flat_succ {l : List Sg} {k : Int} {i : Nat} (hi : i < l.length) : ((l.take (i + 1)).map fun g => g.rest k).flatten = ((l.take i).map fun g => g.rest k).flatten ++ l[i].rest k := by
  rw [List.take_add_one, List.getElem?_eq_getElem hi, List.map_append, List.flatten_append]
  simp
theorem flat_all {l : List Sg} {k : Int} {i : Nat} (hi : i < l.length) : (l.map fun g => g.rest k).flatten = ((l.take i).map fun g => g.rest k).flatten ++ (l[i].rest k ++ ((l.drop (i + 1)).map fun g => g.rest k).flatten) := by
  have e : l = l.take i ++ l[i] :: l.drop (i + 1) := by rw [List.getElem_cons_drop, List.take_append_drop]
  generalize hx : l[i] = x at *
  conv => lhs; rw [e]
  rw [List.map_append, List.flatten_append, List.map_cons, List.flatten_cons]
/-- Enough is told. -/
theorem take_enough {X Y : List (List UInt8)} {M : Nat} (h : M ≤ (X.take M).length) : (X ++ Y).take M = X.take M := by
  rw [List.length_take] at h
  rw [List.take_append_of_le_length (by omega)]
theorem take_more {X : List (List UInt8)} {p : List UInt8} {M : Nat} (h : (X.take M).length < M) : (X ++ [p]).take M = X.take M ++ [p] := by
  rw [List.length_take] at h
  rw [List.take_of_length_le (by rw [List.length_append]; simp; omega), List.take_of_length_le (by omega)]
section
variable {C : Nat → Prop} {w w' : World} {v : Value} {us : List Value} {a dp : Nat} {lg : Lg}
set_option maxRecDepth 100000 in
set_option maxHeartbeats 8000000 in
theorem lfrom_any (h : LAt C w a dp lg v us) (hk : LOk lg) (hsafe : lg.safe ≤ 1000000000) (k most : Int) (hmany : (lg.rests k).length ≤ 1000000) : Calls Tryz.prog 33 #[ptr a, .int .i64 k, .int .i64 most] w fun e w' => (∃ v' r, e = .returned (.tuple #[v', .int .i64 r]) ∧ FromAns w w' v' r (lg.from k most)) ∧ Below w.heap.size w w' := by
  have HF : Hid (Calls Tryz.prog 31 #[ptr a] w fun e w' => e = .returned (.int .i64 (lg.low : Int)) ∧ w = w') := Lib.hid (first_any h hk)
  obtain ⟨g, cap, hcap, rfl⟩ : ∃ g cap, lg.segs.length ≤ cap ∧ v = .slice (some ⟨g, 0, none⟩) lg.segs.length cap := by
    obtain ⟨g, cap, _, _, hv, _, hcap, _⟩ := h.seg hk.ne
    exact ⟨g, cap, hcap, hv⟩
  have H := Lib.hid h
  have HK := Lib.hid hk
  have c3 := h.c3
  have c4 := h.c4
  have hfew := hk.few
  have hws : IntKind.i64.wrap ((lg.safe : Int) + 1) = (lg.safe : Int) + 1 := by rw [wrap_in (by omega)]
  have HR : Hid (lg.from k most = if k < (lg.low : Int) ∨ (lg.safe : Int) + 1 < k then none else some ((lg.rests k).take (min most ((lg.safe : Int) + 1 - k)).toNat)) := rfl
  have HMANY := Lib.hid hmany
  clear hmany
  by_cases hl : k < (lg.low : Int)
  · have d1 : decide (k < (lg.low : Int)) = true := decide_eq_true hl
    have HA : Hid (lg.from k most = none) := Lib.hid (HR.out.trans (if_pos (.inl hl)))
    clear h hk hfew hcap
    go_enter Tryz.func33, Tryz.ntmps33
    go_wp2
    go_step3
    go_wp2_with (go_at_call 31; (refine HF.out.mono ?_); rintro e w2 ⟨rfl, rfl⟩)
    try rw [Exit.noGoto_ret]
    go_ret2
    rw [HA.out]
    exact ⟨⟨_, _, rfl, rfl, rfl⟩, Below.refl _ _⟩
  have d1 : decide (k < (lg.low : Int)) = false := decide_eq_false hl
  by_cases hs : (lg.safe : Int) + 1 < k
  · have d2 : decide ((lg.safe : Int) + 1 < k) = true := decide_eq_true hs
    have HA : Hid (lg.from k most = none) := Lib.hid (HR.out.trans (if_pos (.inr hs)))
    clear h hk hfew hcap
    go_enter Tryz.func33, Tryz.ntmps33
    go_wp2
    go_step3
    go_wp2_with (go_at_call 31; (refine HF.out.mono ?_); rintro e w2 ⟨rfl, rfl⟩)
    try rw [Exit.noGoto_ret]
    go_ret2
    rw [HA.out]
    exact ⟨⟨_, _, rfl, rfl, rfl⟩, Below.refl _ _⟩
  have d2 : decide ((lg.safe : Int) + 1 < k) = false := decide_eq_false hs
  obtain ⟨Mi, hMi⟩ : ∃ Mi, min most ((lg.safe : Int) + 1 - k) = Mi := ⟨_, rfl⟩
  have HA : Hid (lg.from k most = some ((lg.rests k).take Mi.toNat)) := Lib.hid (by rw [← hMi]; exact HR.out.trans (if_neg (fun e => e.elim hl hs)))
  have hlow : 0 ≤ (lg.low : Int) := by omega
  have hws2 : IntKind.i64.wrap ((lg.safe : Int) + 1 - k) = (lg.safe : Int) + 1 - k := by rw [wrap_in (by omega)]
  clear h hk hl hs hlow
  go_enter Tryz.func33, Tryz.ntmps33
  go_wp2
  go_step3
  go_wp2_with (go_at_call 31; (refine HF.out.mono ?_); rintro e w2 ⟨rfl, rfl⟩)
  go_step3
  go_wp2
  clear c3 c4
  go_loopg [8, 40] lg.segs.length (fun gk v8 vi wr => ∃ (i : Nat) (xs : List Value), i + gk = lg.segs.length ∧ vi = .int .i64 (i : Int) ∧ Hid (RO (fun q => w.heap.size ≤ q) wr v8 xs ((((lg.segs.take i).map fun g => g.rest k).flatten).take Mi.toNat)) ∧ Hid (Below w.heap.size w wr))
  case atStart => exact ⟨0, [], by omega, rfl, Lib.hid (by rw [List.take_zero, List.map_nil, List.flatten_nil, List.take_nil]; exact RO.nil _ _), Lib.hid (Below.refl _ _)⟩
  case round =>
    obtain ⟨i, xs, hig, rfl, HRO, HB⟩ := hrel
    cases gk with
    | zero =>
      obtain rfl : i = lg.segs.length := by omega
      have hil : ¬ ((lg.segs.length : Nat) : Int) < (lg.segs.length : Int) := by omega
      have hil2 : decide (((lg.segs.length : Nat) : Int) < (lg.segs.length : Int)) = false := decide_eq_false hil
      have HG : Hid (lg.rests k = (lg.segs.map fun g => g.rest k).flatten) := rfl
      go_wp2
      try rw [Exit.noGoto_ret]
      go_ret2
      rw [HA.out]
      have h1 := HRO.out
      rw [List.take_length, ← HG.out] at h1
      exact ⟨⟨_, _, rfl, ⟨_, h1⟩, rfl⟩, HB.out⟩
    | succ go_ =>
      have hlt : i < lg.segs.length := by omega
      have hil : (i : Int) < (lg.segs.length : Int) := by omega
      have hil2 : decide ((i : Int) < (lg.segs.length : Int)) = true := decide_eq_true hil
      have hwi : IntKind.i64.wrap ((i : Int) + 1) = ((i + 1 : Nat) : Int) := by rw [wrap_in (by omega)]; omega
      obtain ⟨bo, bc, g0', g1', g2', g3', ys, hro⟩ := H.out.segAt hlt
      have hgw := World.block_lt_of_cell? _ _ g0'
      have g0 := (HB.out.cell (p := ⟨g, i * 4, none⟩) hgw).trans g0'
      have g1 := (HB.out.cell (p := ⟨g, i * 4 + 1, none⟩) hgw).trans g1'
      have g2 := (HB.out.cell (p := ⟨g, i * 4 + 2, none⟩) hgw).trans g2'
      have g3 := (HB.out.cell (p := ⟨g, i * 4 + 3, none⟩) hgw).trans g3'
      have hmem : lg.segs[i] ∈ lg.segs := List.getElem_mem hlt
      have hnum := (HK.out.num _ hmem).2
      have hroom := HK.out.room _ hmem
      have hrs := recs_size lg.segs[i]
      obtain ⟨hsh, hcap2⟩ := ro_shape hro rfl
      have HN := fun w (name : Nm) size => Lib.hid (ffrom_any w name lg.segs[i].first lg.segs[i].recs.length bc size bo k hnum (by omega) hcap2 hsh)
      have HRS := Lib.hid hro
      have hrl := lg.segs[i].rest_length k
      have HGET := fun (j : Nat) (hj : j < (lg.segs[i].rest k).length) => Lib.hid (lg.segs[i].rest_get k j hj)
      have HSZ := Lib.hid (fun p (h : p ∈ lg.segs[i].recs) => rec_size h)
      have HRM := Lib.hid hroom
      have HNX := Lib.hid (flat_succ (k := k) hlt)
      have HAL : Hid (lg.rests k = _) := Lib.hid (flat_all (k := k) hlt)
      generalize lg.segs[i] = sg at *
      clear hro hlt hmem hnum hsh hcap2 g0' g1' g2' g3' hgw
      generalize ((lg.segs.take i).map fun g => g.rest k).flatten = X at *
      generalize ((lg.segs.drop (i + 1)).map fun g => g.rest k).flatten = Y at *
      obtain ⟨j0, hj0⟩ : ∃ j, j = (k - (sg.first : Int)).toNat := ⟨_, rfl⟩
      rw [← hj0] at HN hrl
      obtain ⟨m, hm⟩ : ∃ m, m = sg.recs.length - j0 := ⟨_, rfl⟩
      rw [← hm] at HN hrl
      have hm3 : m ≤ 1000000 := by omega
      have HRL := Lib.hid hrl
      have HJ0 := Lib.hid hj0
      have HM := Lib.hid hm
      clear hrl hj0 hm hrs hroom
      go_wp2_with (go_at_call 75; (refine (HN _ _ _).out.mono ?_); rintro e w2 ⟨⟨ao, c, rfl, hao⟩, hb⟩; have HB := Lib.hid (HB.out.trans (((below1 wr _).trans (hb.mono (below1 wr _).size)).mono HB.out.size)); have HAO := Lib.hid hao; have HRO := Lib.hid (HRO.out.below ((below1 wr _).trans (hb.mono (below1 wr _).size))); clear hb hao)
      clear g0 g1 g2 g3 HN
      go_loopg [8, 48] m (fun gj v8 vj wx => ∃ (j : Nat) (zs : List Value), j + gj = m ∧ vj = .int .i64 (j : Int) ∧ Hid (RO (fun q => w.heap.size ≤ q) wx v8 zs ((X ++ (sg.rest k).take j).take Mi.toNat)) ∧ Hid (Below w.heap.size w wx))
      case atStart => exact ⟨0, xs, by omega, rfl, Lib.hid (by rw [List.take_zero, List.append_nil]; exact HRO.out), HB⟩
      case round =>
        clear HRO HB
        obtain ⟨j, zs, hjg, rfl, HRO, HB⟩ := hrel
        cases gk with
        | zero =>
          obtain rfl : j = m := by omega
          have hil3 : ¬ ((j : Nat) : Int) < (j : Int) := by omega
          have hil4 : decide (((j : Nat) : Int) < (j : Int)) = false := decide_eq_false hil3
          go_wp2
          go_roundg go_
          case measure => omega
          case rel =>
            refine ⟨i + 1, zs, by omega, congrArg (Value.int .i64) (by omega), ?_, HB⟩
            have h1 := HRO.out
            have h2 : (sg.rest k).take j = sg.rest k := List.take_of_length_le (by rw [HRL.out]; exact Nat.le_refl _)
            rw [h2] at h1
            exact Lib.hid (by rw [HNX.out]; exact h1)
        | succ gj =>
          have hjm : j < m := by omega
          obtain ⟨b2, hbo, hao⟩ := HAO.out (by omega)
          subst hao
          have hjr : j < (sg.rest k).length := by rw [HRL.out]; exact hjm
          obtain ⟨hj2, hget⟩ := (HGET j hjr).out
          rw [← HJ0.out] at hj2
          have hgt : (sg.rest k)[j] = sg.recs[j0 + j] := by rw [hget]; congr 1; rw [HJ0.out]
          obtain ⟨co, cc, c5, ho⟩ := ro_get (HRS.out.below HB.out) hbo hj2
          have HP := Lib.hid (show (sg.recs[j0 + j]).length ≤ 140737488355328 by have := HSZ.out _ (List.getElem_mem hj2); have := HRM.out; omega)
          have htk : (sg.rest k).take (j + 1) = (sg.rest k).take j ++ [sg.recs[j0 + j]] := by rw [List.take_add_one, List.getElem?_eq_getElem hjr, hgt]; rfl
          have hdr : sg.rest k = (sg.rest k).take j ++ (sg.rest k).drop j := (List.take_append_drop _ _).symm
          have hlen : ((X ++ (sg.rest k).take j).take Mi.toNat).length ≤ 1000000 := by
            have h1 := HMANY.out
            rw [HAL.out] at h1
            simp only [List.length_append, List.length_take] at h1 ⊢
            omega
          have HLEN := Lib.hid hlen
          have HO := Lib.hid ho
          have hjl : (j : Int) < (m : Int) := by omega
          have hjl2 : decide ((j : Int) < (m : Int)) = true := decide_eq_true hjl
          have hwj : IntKind.i64.wrap ((j : Int) + 1) = ((j + 1 : Nat) : Int) := by rw [wrap_in (by omega)]; omega
          have HTK := Lib.hid htk
          have HDR := Lib.hid hdr
          generalize sg.recs[j0 + j] = p at *
          clear hjr hget hgt ho htk hdr hj2 hlen hbo
          obtain ⟨ro, rc, hv8⟩ := own_slice HRO.out.own
          subst hv8
          by_cases hd : Mi ≤ ((((X ++ (sg.rest k).take j).take Mi.toNat).length : Nat) : Int)
          · have hE : (lg.rests k).take Mi.toNat = (X ++ (sg.rest k).take j).take Mi.toNat := by
              rw [HAL.out]
              have e : X ++ (sg.rest k ++ Y) = (X ++ (sg.rest k).take j) ++ ((sg.rest k).drop j ++ Y) := by
                rw [List.append_assoc, ← List.append_assoc ((sg.rest k).take j), ← HDR.out]
              rw [e]
              exact take_enough (by omega)
            have HE := Lib.hid hE
            clear hE
            generalize (X ++ (sg.rest k).take j).take Mi.toNat = T at *
            have hd2 : decide (Mi ≤ (T.length : Int)) = true := decide_eq_true hd
            clear hd
            go_wp2
            try rw [Exit.noGoto_ret]
            go_ret2
            rw [HA.out, HE.out]
            exact ⟨⟨_, _, rfl, ⟨_, HRO.out⟩, rfl⟩, HB.out⟩
          · have hE : (X ++ (sg.rest k).take (j + 1)).take Mi.toNat = (X ++ (sg.rest k).take j).take Mi.toNat ++ [p] := by
              rw [HTK.out, ← List.append_assoc]
              exact take_more (by omega)
            have HE := Lib.hid hE
            clear hE
            generalize (X ++ (sg.rest k).take j).take Mi.toNat = T at *
            have hd2 : decide (Mi ≤ (T.length : Int)) = false := decide_eq_false hd
            go_wp2_with (first
              | (go_at_call 57; (refine (clone_any (own_sb HO.out) HP.out).mono ?_); rintro e w3 ⟨v3, rfl, ho3, hb3⟩; obtain ⟨do_, dc, rfl⟩ := own_slice ho3; have HO3 := Lib.hid ho3; have HRO := Lib.hid (HRO.out.below hb3); have HSZ3 := Lib.hid HB.out.size; have HB := Lib.hid (HB.out.trans (hb3.mono HB.out.size)); clear ho3 hb3)
              | (at_builtin; refine wpList_append_rec (wanted_none rfl _) (.tmp 56) (.tmp 59) rfl rfl ((HRO.out.below (below1 w3 _)).own) rfl (heap_alloc_new w3 _) rfl HLEN.out ?_; intro v4 w4 ho4 hg4 hl4; have HO4 := Lib.hid ho4; have HG4 : Hid ((w3.alloc (.cells #[.slice do_ p.length dc] 36)).grownBy w4 (Value.slice ro T.length rc).ownBlock) := Lib.hid hg4; have HL4 : Hid (v4.ownBlock = (Value.slice ro T.length rc).ownBlock ∨ v4.ownBlock = some (w3.alloc (.cells #[.slice do_ p.length dc] 36)).heap.size) := Lib.hid hl4; clear ho4 hg4 hl4))
            go_roundg gj
            case measure => omega
            case rel =>
              have hb4 := HB.out.trans ((below1 w3 (.cells #[.slice do_ p.length dc] 36)).mono HB.out.size)
              have hr4 := HRO.out.below (below1 w3 (.cells #[.slice do_ p.length dc] 36))
              have ho4 := own_below HO3.out (below1 w3 (.cells #[.slice do_ p.length dc] 36))
              refine ⟨j + 1, zs ++ [.slice do_ p.length dc], by omega, congrArg (Value.int .i64) (by omega), ?_, Lib.hid (hb4.grown HG4.out hb4.size (fun q e => hr4.row q e))⟩
              exact Lib.hid (by rw [HE.out]; exact hr4.snoc HG4.out HO4.out HL4.out (own_mono ho4 (Nat.zero_le _)) (fun q e => Nat.le_trans HSZ3.out (ho4.lt q e).1) hb4.size)
end
end Go.Proofs.YtkilkhnoldfhcaaGreatDoor
