/- (*wal.Log).From. Conditions: a log as it lies, with no more than a million records. (*wal.Log).start over any load; what Open answers, in plain terms. Conditions: a disk as it lies. wal.Open over any load. Conditions: a disk as it lies. -/
import Derived.Test.YtkilkhnoldfhcaaGreatDoorLo
import Derived.Deep.LoopGhost
import Derived.Test.YtkilkhnoldfhcaaGreatDoorFrE
namespace Go.Proofs.YtkilkhnoldfhcaaGreatDoor
open Go.RowKit
def Lg.from (lg : Lg) (k most : Int) : Option (List (List UInt8)) := if k < (lg.low : Int) ∨ (lg.safe : Int) + 1 < k then none else some ((lg.rests k).take (min most ((lg.safe : Int) + 1 - k)).toNat)
def FromAns (w w' : World) (v : Value) (r : Int) : Option (List (List UInt8)) → Prop
  | none => v = .slice none 0 0 ∧ r = 8
  | some L => (∃ us, RO (fun q => w.heap.size ≤ q) w' v us L) ∧ r = 0
theorem wpList_append_rec {ops : Array Oper} {rest : List Oper} {o : Oper} {a : Act} {w : World} {Q : Exit → Act → World → Prop} (hw : Region.wanted o (yielded ops a.tmps) = true) (s x : Operand)
    (ho : o.op = .call { callee := .builtin .append, args := #[s, x], argTypes := #[57, 57] })
    {v : Value} {n : Nat} {us : List Value} {u : Value} {b : Nat} (hs : a.eval s = v) (hown : w.ownsRow 0 36 1 v n us) (hx : a.eval x = .slice (some ⟨b, 0, none⟩) 1 1) (hm : w.heap[b]? = some (.cells #[u] 36 (0, 0)))
    (h1 : u.oneCell' = true) (hroom : n ≤ 1000000)
    (h : ∀ v' w', w'.ownsRow 0 36 1 v' (n + 1) (us ++ [u]) → w.grownBy w' v.ownBlock → (v'.ownBlock = v.ownBlock ∨ v'.ownBlock = some w.heap.size) → wpList Tryz.prog ops Q rest (a.put o.dst v') w') : wpList Tryz.prog ops Q (o :: rest) a w := by
  refine wpList_step fun K hK => ?_
  exact oper_append_rec hw s x ho hs hown hx hm h1 hroom (fun v' w' h2 h3 h5 => hK _ _ (h v' w' h2 h3 h5))
theorem flat_succ {l : List Sg} {k : Int} {i : Nat} (hi : i < l.length) : ((l.take (i + 1)).map fun g => g.rest k).flatten = ((l.take i).map fun g => g.rest k).flatten ++ l[i].rest k := by
  rw [List.take_add_one, List.getElem?_eq_getElem hi, List.map_append, List.flatten_append]
  simp
theorem flat_all {l : List Sg} {k : Int} {i : Nat} (hi : i < l.length) : (l.map fun g => g.rest k).flatten = ((l.take i).map fun g => g.rest k).flatten ++ (l[i].rest k ++ ((l.drop (i + 1)).map fun g => g.rest k).flatten) := by
  have e : l = l.take i ++ l[i] :: l.drop (i + 1) := by rw [List.getElem_cons_drop, List.take_append_drop]
  generalize hx : l[i] = x at *
  conv => lhs; rw [e]
  rw [List.map_append, List.flatten_append, List.map_cons, List.flatten_cons]
/-- Enough is told. -/
theorem take_enough {X Y : List (List UInt8)} {M : Nat} (h : M ≤ (X.take M).length) : (X ++ Y).take M = X.take M := by
  rw [List.length_take] at h
  rw [List.take_append_of_le_length (by omega)]
theorem take_more {X : List (List UInt8)} {p : List UInt8} {M : Nat} (h : (X.take M).length < M) : (X ++ [p]).take M = X.take M ++ [p] := by
  rw [List.length_take] at h
  rw [List.take_of_length_le (by rw [List.length_append]; simp; omega), List.take_of_length_le (by omega)]
section
variable {C : Nat → Prop} {w w' : World} {v : Value} {us : List Value} {a dp : Nat} {lg : Lg}
set_option maxRecDepth 100000 in
set_option maxHeartbeats 8000000 in
theorem lfrom_any (h : LAt C w a dp lg v us) (hk : LOk lg) (hsafe : lg.safe ≤ 1000000000) (k most : Int) (hmany : (lg.rests k).length ≤ 1000000) : Calls Tryz.prog 33 #[ptr a, .int .i64 k, .int .i64 most] w fun e w' => (∃ v' r, e = .returned (.tuple #[v', .int .i64 r]) ∧ FromAns w w' v' r (lg.from k most)) ∧ Below w.heap.size w w' := by
  have HF : Hid (Calls Tryz.prog 31 #[ptr a] w fun e w' => e = .returned (.int .i64 (lg.low : Int)) ∧ w = w') := Lib.hid (first_any h hk)
  obtain ⟨g, cap, hcap, rfl⟩ : ∃ g cap, lg.segs.length ≤ cap ∧ v = .slice (some ⟨g, 0, none⟩) lg.segs.length cap := by
    obtain ⟨g, cap, _, _, hv, _, hcap, _⟩ := h.seg hk.ne
    exact ⟨g, cap, hcap, hv⟩
  have H := Lib.hid h
  have HK := Lib.hid hk
  have c3 := h.c3
  have c4 := h.c4
  have hfew := hk.few
  have hws : IntKind.i64.wrap ((lg.safe : Int) + 1) = (lg.safe : Int) + 1 := by rw [wrap_in (by omega)]
  have HR : Hid (lg.from k most = if k < (lg.low : Int) ∨ (lg.safe : Int) + 1 < k then none else some ((lg.rests k).take (min most ((lg.safe : Int) + 1 - k)).toNat)) := rfl
  have HMANY := Lib.hid hmany
  clear hmany
  by_cases hl : k < (lg.low : Int)
  · have d1 : decide (k < (lg.low : Int)) = true := decide_eq_true hl
    have HA : Hid (lg.from k most = none) := Lib.hid (HR.out.trans (if_pos (.inl hl)))
    clear h hk hfew hcap
    go_enter Tryz.func33, Tryz.ntmps33
    go_wp2
    go_step3
    go_wp2_with (go_at_call 31; (refine HF.out.mono ?_); rintro e w2 ⟨rfl, rfl⟩)
    try rw [Exit.noGoto_ret]
    go_ret2
    rw [HA.out]
    exact ⟨⟨_, _, rfl, rfl, rfl⟩, Below.refl _ _⟩
  have d1 : decide (k < (lg.low : Int)) = false := decide_eq_false hl
  by_cases hs : (lg.safe : Int) + 1 < k
  · have d2 : decide ((lg.safe : Int) + 1 < k) = true := decide_eq_true hs
    have HA : Hid (lg.from k most = none) := Lib.hid (HR.out.trans (if_pos (.inr hs)))
    clear h hk hfew hcap
    go_enter Tryz.func33, Tryz.ntmps33
    go_wp2
    go_step3
    go_wp2_with (go_at_call 31; (refine HF.out.mono ?_); rintro e w2 ⟨rfl, rfl⟩)
    try rw [Exit.noGoto_ret]
    go_ret2
    rw [HA.out]
    exact ⟨⟨_, _, rfl, rfl, rfl⟩, Below.refl _ _⟩
  have d2 : decide ((lg.safe : Int) + 1 < k) = false := decide_eq_false hs
  obtain ⟨Mi, hMi⟩ : ∃ Mi, min most ((lg.safe : Int) + 1 - k) = Mi := ⟨_, rfl⟩
  have HA : Hid (lg.from k most = some ((lg.rests k).take Mi.toNat)) := Lib.hid (by rw [← hMi]; exact HR.out.trans (if_neg (fun e => e.elim hl hs)))
  have hlow : 0 ≤ (lg.low : Int) := by omega
  have hws2 : IntKind.i64.wrap ((lg.safe : Int) + 1 - k) = (lg.safe : Int) + 1 - k := by rw [wrap_in (by omega)]
  clear h hk hl hs hlow
  go_enter Tryz.func33, Tryz.ntmps33
  go_wp2
  go_step3
  go_wp2_with (go_at_call 31; (refine HF.out.mono ?_); rintro e w2 ⟨rfl, rfl⟩)
  go_step3
  go_wp2
  clear c3 c4
  go_loopg [8, 40] lg.segs.length (fun gk v8 vi wr => ∃ (i : Nat) (xs : List Value), i + gk = lg.segs.length ∧ vi = .int .i64 (i : Int) ∧ Hid (RO (fun q => w.heap.size ≤ q) wr v8 xs ((((lg.segs.take i).map fun g => g.rest k).flatten).take Mi.toNat)) ∧ Hid (Below w.heap.size w wr))
  case atStart => exact ⟨0, [], by omega, rfl, Lib.hid (by rw [List.take_zero, List.map_nil, List.flatten_nil, List.take_nil]; exact RO.nil _ _), Lib.hid (Below.refl _ _)⟩
  case round =>
    obtain ⟨i, xs, hig, rfl, HRO, HB⟩ := hrel
    cases gk with
    | zero =>
      obtain rfl : i = lg.segs.length := by omega
      have hil : ¬ ((lg.segs.length : Nat) : Int) < (lg.segs.length : Int) := by omega
      have hil2 : decide (((lg.segs.length : Nat) : Int) < (lg.segs.length : Int)) = false := decide_eq_false hil
      have HG : Hid (lg.rests k = (lg.segs.map fun g => g.rest k).flatten) := rfl
      go_wp2
      try rw [Exit.noGoto_ret]
      go_ret2
      rw [HA.out]
      have h1 := HRO.out
      rw [List.take_length, ← HG.out] at h1
      exact ⟨⟨_, _, rfl, ⟨_, h1⟩, rfl⟩, HB.out⟩
    | succ go_ =>
      have hlt : i < lg.segs.length := by omega
      have hil : (i : Int) < (lg.segs.length : Int) := by omega
      have hil2 : decide ((i : Int) < (lg.segs.length : Int)) = true := decide_eq_true hil
      have hwi : IntKind.i64.wrap ((i : Int) + 1) = ((i + 1 : Nat) : Int) := by rw [wrap_in (by omega)]; omega
      obtain ⟨bo, bc, g0', g1', g2', g3', ys, hro⟩ := H.out.segAt hlt
      have hgw := World.block_lt_of_cell? _ _ g0'
      have g0 := (HB.out.cell (p := ⟨g, i * 4, none⟩) hgw).trans g0'
      have g1 := (HB.out.cell (p := ⟨g, i * 4 + 1, none⟩) hgw).trans g1'
      have g2 := (HB.out.cell (p := ⟨g, i * 4 + 2, none⟩) hgw).trans g2'
      have g3 := (HB.out.cell (p := ⟨g, i * 4 + 3, none⟩) hgw).trans g3'
      have hmem : lg.segs[i] ∈ lg.segs := List.getElem_mem hlt
      have hnum := (HK.out.num _ hmem).2
      have hroom := HK.out.room _ hmem
      have hrs := recs_size lg.segs[i]
      obtain ⟨hsh, hcap2⟩ := ro_shape hro rfl
      have HN := fun w (name : Nm) size => Lib.hid (ffrom_any w name lg.segs[i].first lg.segs[i].recs.length bc size bo k hnum (by omega) hcap2 hsh)
      have HRS := Lib.hid hro
      have hrl := lg.segs[i].rest_length k
      have HGET := fun (j : Nat) (hj : j < (lg.segs[i].rest k).length) => Lib.hid (lg.segs[i].rest_get k j hj)
      have HSZ := Lib.hid (fun p (h : p ∈ lg.segs[i].recs) => rec_size h)
      have HRM := Lib.hid hroom
      have HNX := Lib.hid (flat_succ (k := k) hlt)
      have HAL : Hid (lg.rests k = _) := Lib.hid (flat_all (k := k) hlt)
      generalize lg.segs[i] = sg at *
      clear hro hlt hmem hnum hsh hcap2 g0' g1' g2' g3' hgw
      generalize ((lg.segs.take i).map fun g => g.rest k).flatten = X at *
      generalize ((lg.segs.drop (i + 1)).map fun g => g.rest k).flatten = Y at *
      obtain ⟨j0, hj0⟩ : ∃ j, j = (k - (sg.first : Int)).toNat := ⟨_, rfl⟩
      rw [← hj0] at HN hrl
      obtain ⟨m, hm⟩ : ∃ m, m = sg.recs.length - j0 := ⟨_, rfl⟩
      rw [← hm] at HN hrl
      have hm3 : m ≤ 1000000 := by omega
      have HRL := Lib.hid hrl
      have HJ0 := Lib.hid hj0
      have HM := Lib.hid hm
      clear hrl hj0 hm hrs hroom
      go_wp2_with (go_at_call 75; (refine (HN _ _ _).out.mono ?_); rintro e w2 ⟨⟨ao, c, rfl, hao⟩, hb⟩; have HB := Lib.hid (HB.out.trans (((below1 wr _).trans (hb.mono (below1 wr _).size)).mono HB.out.size)); have HAO := Lib.hid hao; have HRO := Lib.hid (HRO.out.below ((below1 wr _).trans (hb.mono (below1 wr _).size))); clear hb hao)
      clear g0 g1 g2 g3 HN
      go_loopg [8, 48] m (fun gj v8 vj wx => ∃ (j : Nat) (zs : List Value), j + gj = m ∧ vj = .int .i64 (j : Int) ∧ Hid (RO (fun q => w.heap.size ≤ q) wx v8 zs ((X ++ (sg.rest k).take j).take Mi.toNat)) ∧ Hid (Below w.heap.size w wx))
      case atStart => exact ⟨0, xs, by omega, rfl, Lib.hid (by rw [List.take_zero, List.append_nil]; exact HRO.out), HB⟩
      case round =>
        clear HRO HB
        obtain ⟨j, zs, hjg, rfl, HRO, HB⟩ := hrel
        cases gk with
        | zero =>
          obtain rfl : j = m := by omega
          have hil3 : ¬ ((j : Nat) : Int) < (j : Int) := by omega
          have hil4 : decide (((j : Nat) : Int) < (j : Int)) = false := decide_eq_false hil3
          go_wp2
          go_roundg go_
          case measure => omega
          case rel =>
            refine ⟨i + 1, zs, by omega, congrArg (Value.int .i64) (by omega), ?_, HB⟩
            have h1 := HRO.out
            have h2 : (sg.rest k).take j = sg.rest k := List.take_of_length_le (by rw [HRL.out]; exact Nat.le_refl _)
            rw [h2] at h1
            exact Lib.hid (by rw [HNX.out]; exact h1)
        | succ gj =>
          have hjm : j < m := by omega
          obtain ⟨b2, hbo, hao⟩ := HAO.out (by omega)
          subst hao
          have hjr : j < (sg.rest k).length := by rw [HRL.out]; exact hjm
          obtain ⟨hj2, hget⟩ := (HGET j hjr).out
          rw [← HJ0.out] at hj2
          have hgt : (sg.rest k)[j] = sg.recs[j0 + j] := by rw [hget]; congr 1; rw [HJ0.out]
          obtain ⟨co, cc, c5, ho⟩ := ro_get (HRS.out.below HB.out) hbo hj2
          have HP := Lib.hid (show (sg.recs[j0 + j]).length ≤ 140737488355328 by have := HSZ.out _ (List.getElem_mem hj2); have := HRM.out; omega)
          have htk : (sg.rest k).take (j + 1) = (sg.rest k).take j ++ [sg.recs[j0 + j]] := by rw [List.take_add_one, List.getElem?_eq_getElem hjr, hgt]; rfl
          have hdr : sg.rest k = (sg.rest k).take j ++ (sg.rest k).drop j := (List.take_append_drop _ _).symm
          have hlen : ((X ++ (sg.rest k).take j).take Mi.toNat).length ≤ 1000000 := by
            have h1 := HMANY.out
            rw [HAL.out] at h1
            simp only [List.length_append, List.length_take] at h1 ⊢
            omega
          have HLEN := Lib.hid hlen
          have HO := Lib.hid ho
          have hjl : (j : Int) < (m : Int) := by omega
          have hjl2 : decide ((j : Int) < (m : Int)) = true := decide_eq_true hjl
          have hwj : IntKind.i64.wrap ((j : Int) + 1) = ((j + 1 : Nat) : Int) := by rw [wrap_in (by omega)]; omega
          have HTK := Lib.hid htk
          have HDR := Lib.hid hdr
          generalize sg.recs[j0 + j] = p at *
          clear hjr hget hgt ho htk hdr hj2 hlen hbo
          obtain ⟨ro, rc, hv8⟩ := own_slice HRO.out.own
          subst hv8
          by_cases hd : Mi ≤ ((((X ++ (sg.rest k).take j).take Mi.toNat).length : Nat) : Int)
          · have hE : (lg.rests k).take Mi.toNat = (X ++ (sg.rest k).take j).take Mi.toNat := by
              rw [HAL.out]
              have e : X ++ (sg.rest k ++ Y) = (X ++ (sg.rest k).take j) ++ ((sg.rest k).drop j ++ Y) := by
                rw [List.append_assoc, ← List.append_assoc ((sg.rest k).take j), ← HDR.out]
              rw [e]
              exact take_enough (by omega)
            have HE := Lib.hid hE
            clear hE
            generalize (X ++ (sg.rest k).take j).take Mi.toNat = T at *
            have hd2 : decide (Mi ≤ (T.length : Int)) = true := decide_eq_true hd
            clear hd
            go_wp2
            try rw [Exit.noGoto_ret]
            go_ret2
            rw [HA.out, HE.out]
            exact ⟨⟨_, _, rfl, ⟨_, HRO.out⟩, rfl⟩, HB.out⟩
          · have hE : (X ++ (sg.rest k).take (j + 1)).take Mi.toNat = (X ++ (sg.rest k).take j).take Mi.toNat ++ [p] := by
              rw [HTK.out, ← List.append_assoc]
              exact take_more (by omega)
            have HE := Lib.hid hE
            clear hE
            generalize (X ++ (sg.rest k).take j).take Mi.toNat = T at *
            have hd2 : decide (Mi ≤ (T.length : Int)) = false := decide_eq_false hd
            go_wp2_with (first
              | (go_at_call 57; (refine (clone_any (own_sb HO.out) HP.out).mono ?_); rintro e w3 ⟨v3, rfl, ho3, hb3⟩; obtain ⟨do_, dc, rfl⟩ := own_slice ho3; have HO3 := Lib.hid ho3; have HRO := Lib.hid (HRO.out.below hb3); have HSZ3 := Lib.hid HB.out.size; have HB := Lib.hid (HB.out.trans (hb3.mono HB.out.size)); clear ho3 hb3)
              | (at_builtin; refine wpList_append_rec (wanted_none rfl _) (.tmp 56) (.tmp 59) rfl rfl ((HRO.out.below (below1 w3 _)).own) rfl (heap_alloc_new w3 _) rfl HLEN.out ?_; intro v4 w4 ho4 hg4 hl4; have HO4 := Lib.hid ho4; have HG4 : Hid ((w3.alloc (.cells #[.slice do_ p.length dc] 36)).grownBy w4 (Value.slice ro T.length rc).ownBlock) := Lib.hid hg4; have HL4 : Hid (v4.ownBlock = (Value.slice ro T.length rc).ownBlock ∨ v4.ownBlock = some (w3.alloc (.cells #[.slice do_ p.length dc] 36)).heap.size) := Lib.hid hl4; clear ho4 hg4 hl4))
            go_roundg gj
            case measure => omega
            case rel =>
              have hb4 := HB.out.trans ((below1 w3 (.cells #[.slice do_ p.length dc] 36)).mono HB.out.size)
              have hr4 := HRO.out.below (below1 w3 (.cells #[.slice do_ p.length dc] 36))
              have ho4 := own_below HO3.out (below1 w3 (.cells #[.slice do_ p.length dc] 36))
              refine ⟨j + 1, zs ++ [.slice do_ p.length dc], by omega, congrArg (Value.int .i64) (by omega), ?_, Lib.hid (hb4.grown HG4.out hb4.size (fun q e => hr4.row q e))⟩
              exact Lib.hid (by rw [HE.out]; exact hr4.snoc HG4.out HO4.out HL4.out (own_mono ho4 (Nat.zero_le _)) (fun q e => Nat.le_trans HSZ3.out (ho4.lt q e).1) hb4.size)
end
end Go.Proofs.YtkilkhnoldfhcaaGreatDoor
namespace Go.Proofs.YtkilkhnoldfhcaaGreatDoor
open Go.RowKit
/-- A segment as it is read off the disk. -/
def ldSeg (dir : Nm) (d : Dk) (g : Sg) : Sg := ⟨g.first, (Fr.scanV (d.read (segN dir g.first)).1).1⟩
def ldTorn (dir : Nm) (d : Dk) (g : Sg) : Bool := decide ((Fr.scanV (d.read (segN dir g.first)).1).2 < (d.read (segN dir g.first)).1.length)
/-- Do the segments hang together? All but the last are whole, and the next begins where they end. -/
def ldOk (dir : Nm) (d : Dk) : List Sg → Bool
  | [] => true
  | [_] => true
  | g :: g2 :: r => !ldTorn dir d g && decide ((ldSeg dir d g).next = g2.first) && ldOk dir d (g2 :: r)
def ok3 (r : Lg × Dk × Nat) : Option Lg × Dk × Nat := (if r.2.2 = 0 then some r.1 else none, r.2.1, r.2.2)
def Lg.load (lg : Lg) (d : Dk) : Option Lg × Dk × Nat :=
  if ldOk lg.dir d lg.segs = false then (none, d, 13) else
  if ldTorn lg.dir d lg.last = false then ok3 (Lg.sync { lg with segs := lg.segs.map (ldSeg lg.dir d) } d) else
  if (d.cut (segN lg.dir lg.last.first) ((Fr.scanV (d.read (segN lg.dir lg.last.first)).1).2 : Int)).2 = 0 then ok3 (Lg.sync { lg with segs := lg.segs.map (ldSeg lg.dir d) } (d.cut (segN lg.dir lg.last.first) ((Fr.scanV (d.read (segN lg.dir lg.last.first)).1).2 : Int)).1)
  else (none, (d.cut (segN lg.dir lg.last.first) ((Fr.scanV (d.read (segN lg.dir lg.last.first)).1).2 : Int)).1, (d.cut (segN lg.dir lg.last.first) ((Fr.scanV (d.read (segN lg.dir lg.last.first)).1).2 : Int)).2)
def Lg.start (lg : Lg) (d : Dk) : Option Lg × Dk × Nat :=
  if found lg.dir (names d.f) = [] then ok3 ({ lg with segs := [] }.begin d 1) else Lg.load { lg with segs := found lg.dir (names d.f) } d
def openL (dir : Nm) (full : Int) (d : Dk) : Option Lg × Dk × Nat :=
  if dir = [] ∨ 11 < dir.length then (none, d, 10) else if full < 64 ∨ 262144 < full then (none, d, 1) else if d.off then (none, d, 12) else Lg.start ⟨dir, full.toNat, [], 0⟩ d
/-- What start answers, and how log and disk stand. -/
def Started (C S : Nat → Prop) (B : Nat) (w : World) (a dp : Nat) (r : Option Lg × Dk × Nat) (e : Ending) (w' : World) : Prop :=
  e = .returned (.int .i64 (r.2.2 : Int)) ∧ match r.1 with
    | some lg => r.2.2 = 0 ∧ Stood C S B w a dp lg r.2.1 w'
    | none => r.2.2 ≠ 0 ∧ ∃ S', DK S' w' dp r.2.1 ∧ (∀ k, S' k → B ≤ k) ∧ Went (fun k => C k ∨ S k) w w' S'
section
variable {B : Nat} {w w' w1 : World} {a dp : Nat} {C S : Nat → Prop} {lg lg' : Lg} {d d' : Dk}
theorem started_ok3 {r : Lg × Dk × Nat} {e : Ending} (h : Logged C S B w a dp r e w') : Started C S B w a dp (ok3 r) e w' := by
  obtain ⟨h1, h2⟩ := h
  refine ⟨h1, ?_⟩
  unfold ok3
  by_cases h0 : r.2.2 = 0
  · rw [if_pos h0]
    exact ⟨h0, h2⟩
  · rw [if_neg h0]
    obtain ⟨C', S', hw, ht⟩ := h2
    exact ⟨h0, S', hw.dk, hw.sb, ht.tn, fun k hk => ht.sub k (.inr hk)⟩
/-- What start answers of a later world. -/
theorem Started.back {C0 S0 : Nat → Prop} {w0 : World} {r : Option Lg × Dk × Nat} {e : Ending} (h : Started C S B w a dp r e w') (ht : Went (fun k => C0 k ∨ S0 k) w0 w (fun k => C k ∨ S k)) : Started C0 S0 B w0 a dp r e w' := by
  obtain ⟨h1, h2⟩ := h
  refine ⟨h1, ?_⟩
  revert h2
  cases r.1 with
  | none =>
    rintro ⟨h0, S', hd, hs, hg⟩
    exact ⟨h0, S', hd, hs, ht.trans hg⟩
  | some lg =>
    rintro ⟨h0, C', S', hw, hg⟩
    exact ⟨h0, C', S', hw, ht.trans hg⟩
set_option maxRecDepth 100000 in
set_option maxHeartbeats 4000000 in
theorem start_any (h : WL B w a C lg dp S d) (hB : B ≤ w.heap.size) (hT : Tabs w) (h6 : 6 ≤ B) (hdir : 1 ≤ lg.dir.length ∧ lg.dir.length ≤ 11) (hfew : (found lg.dir (names d.f)).length ≤ 1000000) (hd : d.done < 9223372036854775807)
    (hld : found lg.dir (names d.f) ≠ [] → ∀ (w1 : World) (C1 : Nat → Prop), WL B w1 a C1 { lg with segs := found lg.dir (names d.f) } dp S d → B ≤ w1.heap.size → Tabs w1 → Calls Tryz.prog 105 #[ptr a] w1 (Started C1 S B w1 a dp (Lg.load { lg with segs := found lg.dir (names d.f) } d))) :
    Calls Tryz.prog 66 #[ptr a] w (Started C S B w a dp (lg.start d)) := by
  obtain ⟨v, us, hl⟩ := h.lk
  obtain ⟨m, ρ, δ, hdk⟩ := h.dk
  have hne : lg.dir ≠ [] := fun e => by rw [e] at hdir; simp at hdir
  have HFD := Lib.hid (find_any hdk hT hl.c0 hl.c1 hne hdir.2)
  have HST : Hid (lg.start d = if found lg.dir (names d.f) = [] then ok3 ({ lg with segs := [] }.begin d 1) else Lg.load { lg with segs := found lg.dir (names d.f) } d) := rfl
  have HW := Lib.hid h
  have HT := Lib.hid hT
  have HBW := Lib.hid hB
  have HL := Lib.hid hl
  have HDN := Lib.hid hd
  have HDR := Lib.hid hdir
  have HLD := Lib.hid hld
  have HFW := Lib.hid hfew
  clear h hB hT hl hd hdir hld hdk hne hfew
  -- behind find the row is stored
  have key : ∀ (w1 : World) (v1 : Value) (us1 : List Value), GO (fun k => w.heap.size ≤ k) w1 v1 lg.dir (found lg.dir (names d.f)) us1 → Below w.heap.size w w1 →
      WL B (w1.setCell ⟨a, 3, none⟩ v1) a (Gw C w (w1.setCell ⟨a, 3, none⟩ v1)) { lg with segs := found lg.dir (names d.f) } dp S d ∧ Went (fun k => C k ∨ S k) w (w1.setCell ⟨a, 3, none⟩ v1) (fun k => Gw C w (w1.setCell ⟨a, 3, none⟩ v1) k ∨ S k) := by
    intro w1 v1 us1 hgo hb
    have hl1 := HL.out.below hb
    have hl5 := lat_rows (D := Gw C w w1) (lg := lg) hl1.box (hgo.mono2 (fun k h1 h2 => .inr ⟨h2, h1⟩)) (.inl hl1.ca) (fun k hk => Gw.size hb.size HL.out.lt hk)
    have hzz : ∀ u, (w1.setCell ⟨a, 3, none⟩ u).heap.size = w1.heap.size := fun u => by simp
    have ht4 : Tn C w (w1.setCell ⟨a, 3, none⟩ v1) := (Tn.of_below (S := C) hb).setCell (fun _ => HL.out.ca) v1
    exact ⟨HW.out.log HBW.out ⟨_, _, hl5.grow (D := Gw C w (w1.setCell ⟨a, 3, none⟩ v1)) (fun k hk => hk.elim .inl (fun e => .inr ⟨e.1, by rw [hzz]; exact e.2⟩)) (fun k hk => Gw.size ht4.size HL.out.lt hk)⟩ ht4, went_log ht4⟩
  have HKEY := Lib.hid key
  clear key
  have c3 := HL.out.c3
  have hfz : ∀ w1, Below w.heap.size w w1 → w1.frozen? ⟨a, 3, none⟩ = false := fun w1 hb => by simp [World.frozen?, (HL.out.below hb).box]
  have HFZ := Lib.hid hfz
  clear hfz
  have HTB := Lib.hid (fun (w2 : World) (V : Nat → Prop) (hw : Went (fun k => C k ∨ S k) w w2 V) => (⟨HT.out.tn hw.tn (fun k hk => Nat.le_trans h6 (hk.elim (HW.out.cb k) (HW.out.sb k))), Nat.le_trans HBW.out hw.tn.size⟩ : Tabs w2 ∧ B ≤ w2.heap.size))
  generalize hF : found lg.dir (names d.f) = F at *
  by_cases h0 : F = []
  · subst h0
    have HFE := Lib.hid hF
    clear hF
    go_enter Tryz.func66, Tryz.ntmps66
    go_wp2_with (first
      | (go_at_call 103; (refine HFD.out.mono ?_); rintro e w1 ⟨v1, us1, rfl, hgo, hb⟩; have HK := Lib.hid (HKEY.out w1 v1 us1 hgo hb); obtain ⟨vo, vc, rfl⟩ := own_slice hgo.own; have hz := HFZ.out w1 hb; have c3 := (HL.out.below hb).c3; have HTB2 := Lib.hid (HTB.out _ _ HK.out.2); clear hgo hb)
      | (go_at_call 104; (refine (begin_any HK.out.1 HTB2.out.2 HTB2.out.1 HDR.out (Nat.zero_le _) 1 ⟨Nat.le_refl _, by decide⟩ HDN.out).mono ?_); rintro e w3 he; have HE := Lib.hid ((started_ok3 he).back HK.out.2); obtain ⟨rfl, _⟩ := he))
    go_ret
    rw [HST.out, if_pos trivial]
    exact HE.out
  · have hF0 : ((F.length : Int) == 0) = false := by
      have : F.length ≠ 0 := fun e => h0 (List.eq_nil_of_length_eq_zero e)
      simpa using this
    have HN0 := Lib.hid h0
    clear h0
    go_enter Tryz.func66, Tryz.ntmps66
    go_wp2_with (first
      | (go_at_call 103; (refine HFD.out.mono ?_); rintro e w1 ⟨v1, us1, rfl, hgo, hb⟩; have HK := Lib.hid (HKEY.out w1 v1 us1 hgo hb); obtain ⟨vo, vc, rfl⟩ := own_slice hgo.own; have hz := HFZ.out w1 hb; have c3 := (HL.out.below hb).c3; have HTB2 := Lib.hid (HTB.out _ _ HK.out.2); clear hgo hb)
      | (go_at_call 105; (refine (HLD.out HN0.out _ _ HK.out.1 HTB2.out.2 HTB2.out.1).mono ?_); rintro e w3 he; have HE := Lib.hid (he.back HK.out.2); obtain ⟨rfl, _⟩ := he))
    go_ret
    rw [HST.out, if_neg HN0.out]
    exact HE.out
end
end Go.Proofs.YtkilkhnoldfhcaaGreatDoor
namespace Go.Proofs.YtkilkhnoldfhcaaGreatDoor
open Go.RowKit
/-- What Open answers, and how log and disk stand. -/
def Opened (S : Nat → Prop) (B : Nat) (w : World) (dp : Nat) (r : Option Lg × Dk × Nat) (e : Ending) (w' : World) : Prop :=
  match r.1 with
    | some lg => r.2.2 = 0 ∧ ∃ a C' S', e = .returned (.tuple #[ptr a, .int .i64 0]) ∧ WL B w' a C' lg dp S' r.2.1 ∧ Went S w w' (fun k => C' k ∨ S' k)
    | none => r.2.2 ≠ 0 ∧ e = .returned (.tuple #[.pointer none, .int .i64 (r.2.2 : Int)]) ∧ ∃ S', DK S' w' dp r.2.1 ∧ (∀ k, S' k → B ≤ k) ∧ Went S w w' S'
section
variable {B : Nat} {w w' w1 : World} {a dp : Nat} {C S : Nat → Prop} {lg lg' : Lg} {d d' : Dk}
theorem opened_none {k : Nat} (hk : k ≠ 0) (hd : DK S w dp d) (hS : ∀ j, S j → B ≤ j) (hb : Below w.heap.size w w') : Opened S B w dp (none, d, k) (.returned (.tuple #[.pointer none, .int .i64 (k : Int)])) w' :=
  ⟨hk, rfl, S, hd.below hb, hS, went_below hb⟩
theorem new_log {w3 : World} (h : DK S w3 dp d) (hS : ∀ k, S k → B ≤ k) (hB : B ≤ w3.heap.size) (dir : Nm) (full : Int) (hf : ((full.toNat : Nat) : Int) = full) :
    WL B (w3.alloc (.cells #[ptr dp, nmv dir, .int .i64 full, .slice none 0 0, .int .i64 0] 104)) w3.heap.size (· = w3.heap.size) ⟨dir, full.toNat, [], 0⟩ dp S d := by
  refine ⟨⟨.slice none 0 0, [], ⟨?_, GO.nil _ _ _, rfl, fun k hk => ?_⟩⟩, h.below (below1 _ _), fun k hk => ?_, hS, fun k hk hs => ?_⟩
  · show _ = some (Obj.cells #[ptr dp, nmv dir, .int .i64 ((full.toNat : Nat) : Int), .slice none 0 0, .int .i64 0] 104 (0, 0))
    rw [hf]
    exact heap_alloc_new _ _
  · subst hk; simp
  · subst hk; exact hB
  · have hk : k = w3.heap.size := hk
    have := h.lt k hs
    omega
theorem opened_of {w4 : World} {r : Option Lg × Dk × Nat} {e : Ending} (hs : Started C S B w4 a dp r e w') (ht : Went S w w4 (fun k => C k ∨ S k)) :
    Opened S B w dp r (if r.2.2 = 0 then .returned (.tuple #[ptr a, .int .i64 0]) else .returned (.tuple #[.pointer none, .int .i64 (r.2.2 : Int)])) w' := by
  obtain ⟨_, h2⟩ := hs
  unfold Opened
  revert h2
  cases r.1 with
  | none =>
    rintro ⟨h0, S', hd, hs, hg⟩
    rw [if_neg h0]
    exact ⟨h0, rfl, S', hd, hs, ht.trans hg⟩
  | some lg =>
    rintro ⟨h0, C', S', hw, hg⟩
    rw [if_pos h0]
    exact ⟨h0, a, C', S', rfl, hw, ht.trans hg⟩
set_option maxRecDepth 100000 in
set_option maxHeartbeats 4000000 in
theorem open_any (h : DK S w dp d) (hS : ∀ k, S k → B ≤ k) (hB : B ≤ w.heap.size) (hT : Tabs w) (h6 : 6 ≤ B) (dir : Nm) (hdl : dir.length ≤ 1000) (full : Int) (hfew : (found dir (names d.f)).length ≤ 1000000) (hd : d.done < 9223372036854775807)
    (hld : dir.length ≤ 11 → found dir (names d.f) ≠ [] → ∀ (w1 : World) (a : Nat) (C1 : Nat → Prop), WL B w1 a C1 ⟨dir, full.toNat, found dir (names d.f), 0⟩ dp S d → B ≤ w1.heap.size → Tabs w1 → Calls Tryz.prog 105 #[ptr a] w1 (Started C1 S B w1 a dp (Lg.load ⟨dir, full.toNat, found dir (names d.f), 0⟩ d))) :
    Calls Tryz.prog 23 #[ptr dp, nmv dir, .int .i64 full] w (Opened S B w dp (openL dir full d)) := by
  have HN := Lib.hid (name_any w hT dir (Nat.le_trans hdl (by decide)) 1 (by decide) (by decide))
  have HW := Lib.hid h
  have HT := Lib.hid hT
  have HBW := Lib.hid hB
  have HDN := Lib.hid hd
  have HLD := Lib.hid hld
  have HFW := Lib.hid hfew
  have HS := Lib.hid hS
  have HO : Hid (openL dir full d = if dir = [] ∨ 11 < dir.length then (none, d, 10) else if full < 64 ∨ 262144 < full then (none, d, 1) else if d.off then (none, d, 12) else Lg.start ⟨dir, full.toNat, [], 0⟩ d) := rfl
  have HV : Hid (nameV dir 1 = if dir = [] ∨ 11 < dir.length then ([], 10) else if (1 : Int) < 1 ∨ 99999999 < (1 : Int) then ([], 1) else (segN dir (1 : Int).toNat, 0)) := rfl
  clear h hS hB hT hfew hd hld
  by_cases h1 : dir = [] ∨ 11 < dir.length
  · rw [HV.out, if_pos h1] at HN
    have HO := Lib.hid (HO.out.trans (if_pos h1))
    clear HV h1
    go_enter Tryz.func23, Tryz.ntmps23
    go_wp2_with (go_at_call 21; (refine HN.out.mono ?_); rintro e w1 ⟨rfl, hb⟩; have HB := Lib.hid hb; clear hb)
    go_ret2
    rw [HO.out]
    exact opened_none (by decide) HW.out HS.out HB.out
  rw [HV.out, if_neg h1, if_neg (by decide)] at HN
  have HO := Lib.hid (HO.out.trans (if_neg h1))
  have h11 : 1 ≤ dir.length ∧ dir.length ≤ 11 := by
    cases dir with
    | nil => exact absurd (.inl rfl) h1
    | cons x r => exact ⟨by simp, by by_cases h : (x :: r).length ≤ 11; exact h; exact absurd (.inr (by omega)) h1⟩
  clear HV h1
  by_cases h2 : full < 64 ∨ 262144 < full
  · have HO := Lib.hid (HO.out.trans (if_pos h2))
    rcases (show full < 64 ∨ (¬ full < 64 ∧ 262144 < full) by omega) with h3 | ⟨h3, h4⟩
    · have d1 : decide (full < 64) = true := decide_eq_true h3
      clear h2 h3
      go_enter Tryz.func23, Tryz.ntmps23
      go_wp2_with (go_at_call 21; (refine HN.out.mono ?_); rintro e w1 ⟨rfl, hb⟩; have HB := Lib.hid hb; clear hb)
      go_ret2
      rw [HO.out]
      exact opened_none (by decide) HW.out HS.out HB.out
    · have d1 : decide (full < 64) = false := decide_eq_false h3
      have d2 : decide (262144 < full) = true := decide_eq_true h4
      clear h2 h3 h4
      go_enter Tryz.func23, Tryz.ntmps23
      go_wp2_with (go_at_call 21; (refine HN.out.mono ?_); rintro e w1 ⟨rfl, hb⟩; have HB := Lib.hid hb; clear hb)
      go_ret2
      rw [HO.out]
      exact opened_none (by decide) HW.out HS.out HB.out
  have HO := Lib.hid (HO.out.trans (if_neg h2))
  have d1 : decide (full < 64) = false := decide_eq_false (by omega)
  have d2 : decide (262144 < full) = false := decide_eq_false (by omega)
  have HF : Hid (((full.toNat : Nat) : Int) = full) := by show _ = _; omega
  have hde : d.done < 9223372036854775807 := HDN.out
  clear h2
  cases hoff : d.off with
  | true =>
    have HO := Lib.hid (HO.out.trans (if_pos hoff))
    have HDW := fun w h => Lib.hid (dk_down (S := S) (w := w) (a := dp) (d := d) h)
    rw [hoff] at HDW
    go_enter Tryz.func23, Tryz.ntmps23
    go_wp2_with (first
      | (go_at_call 21; (refine HN.out.mono ?_); rintro e w1 ⟨rfl, hb⟩; have HB := Lib.hid hb; clear hb)
      | (go_at_call 24; (refine (HDW _ (HW.out.below HB.out)).out.mono ?_); rintro e w2 ⟨rfl, rfl⟩))
    go_ret2
    rw [HO.out]
    exact opened_none (by decide) HW.out HS.out HB.out
  | false =>
    have HO := Lib.hid (HO.out.trans (if_neg (by rw [hoff]; decide)))
    have HDW := fun w h => Lib.hid (dk_down (S := S) (w := w) (a := dp) (d := d) h)
    rw [hoff] at HDW
    generalize hst : Lg.start ⟨dir, full.toNat, [], 0⟩ d = r at *
    go_enter Tryz.func23, Tryz.ntmps23
    go_upto_region 9 with (first
      | (go_at_call 21; (refine HN.out.mono ?_); rintro e w1 ⟨rfl, hb⟩; have HB := Lib.hid hb; clear hb)
      | (go_at_call 24; (refine (HDW _ (HW.out.below HB.out)).out.mono ?_); rintro e w2 ⟨rfl, rfl⟩)
      | (go_at_call 65; (refine (sclone_any dir _ (Nat.le_trans hdl (by decide))).mono ?_); rintro e w3 ⟨rfl, hb⟩; have HB := Lib.hid (HB.out.trans (hb.mono HB.out.size)); clear hb))
    have HSZ := Lib.hid HB.out.size
    have HWL := Lib.hid (new_log (HW.out.below HB.out) HS.out (Nat.le_trans HBW.out HB.out.size) dir full HF.out)
    have HWE : Hid (Went S w (w3.alloc (.cells #[ptr dp, nmv dir, .int .i64 full, .slice none 0 0, .int .i64 0] 104)) (fun k => k = w3.heap.size ∨ S k)) :=
      Lib.hid ⟨Tn.of_below (HB.out.trans ((below1 w3 _).mono HB.out.size)), fun k hk => hk.elim (fun e => .inr (e ▸ HSZ.out)) .inl⟩
    have HST := Lib.hid (start_any HWL.out (Nat.le_trans HBW.out (Nat.le_trans HSZ.out (below1 w3 _).size)) (HT.out.below (HB.out.trans ((below1 w3 _).mono HB.out.size))) h6 h11 HFW.out HDN.out (fun hne w1 C1 hw hb ht => HLD.out h11.2 hne w1 _ C1 hw hb ht))
    rw [hst] at HST
    clear hst
    by_cases h0 : r.2.2 = 0
    · have hb0 : (((r.2.2 : Nat) : Int) != 0) = false := by rw [h0]; rfl
      have HR0 := Lib.hid h0
      clear h0
      go_wp2_with (go_at_call 66; (refine HST.out.mono ?_); rintro e w5 he; have HE := Lib.hid (opened_of he HWE.out); obtain ⟨rfl, _⟩ := he)
      go_ret2
      have h1 := HE.out
      rw [if_pos HR0.out] at h1
      rw [HO.out]
      exact h1
    · have hb0 : (((r.2.2 : Nat) : Int) != 0) = true := by simpa using h0
      have HR0 := Lib.hid h0
      clear h0
      go_wp2_with (go_at_call 66; (refine HST.out.mono ?_); rintro e w5 he; have HE := Lib.hid (opened_of he HWE.out); obtain ⟨rfl, _⟩ := he)
      go_ret2
      have h1 := HE.out
      rw [if_neg HR0.out] at h1
      rw [HO.out]
      exact h1
end
end Go.Proofs.YtkilkhnoldfhcaaGreatDoor
