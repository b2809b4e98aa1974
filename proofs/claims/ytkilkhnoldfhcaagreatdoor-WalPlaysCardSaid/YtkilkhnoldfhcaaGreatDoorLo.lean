/- (wal.file).from: the records from a number on. Conditions: a segment as a disk has room for. (*wal.Log).Read. Conditions: a log as it lies. -/
import Derived.Test.YtkilkhnoldfhcaaGreatDoorLz
import Derived.Test.YtkilkhnoldfhcaaGreatDoorLh
namespace Go.Proofs.YtkilkhnoldfhcaaGreatDoor
open Go.RowKit
/-- A box of four cells. -/
structure F4 (w : World) (b : Nat) (v0 v1 v2 v3 : Value) : Prop where
  lt : b < w.heap.size
  c0 : w.cell? ⟨b, 0, none⟩ = some v0
  c1 : w.cell? ⟨b, 1, none⟩ = some v1
  c2 : w.cell? ⟨b, 2, none⟩ = some v2
  c3 : w.cell? ⟨b, 3, none⟩ = some v3
theorem F4.new (w : World) (v0 v1 v2 v3 : Value) : F4 (w.alloc (.cells #[v0, v1, v2, v3] 110)) w.heap.size v0 v1 v2 v3 :=
  ⟨by simp, by simp [World.cell?_alloc_new], by simp [World.cell?_alloc_new], by simp [World.cell?_alloc_new], by simp [World.cell?_alloc_new]⟩
theorem F4.below {w w' : World} {b : Nat} {v0 v1 v2 v3 : Value} (h : F4 w b v0 v1 v2 v3) (hb : Below w.heap.size w w') : F4 w' b v0 v1 v2 v3 :=
  ⟨Nat.lt_of_lt_of_le h.lt hb.size, (hb.cell (p := ⟨b, 0, none⟩) h.lt).trans h.c0, (hb.cell (p := ⟨b, 1, none⟩) h.lt).trans h.c1, (hb.cell (p := ⟨b, 2, none⟩) h.lt).trans h.c2, (hb.cell (p := ⟨b, 3, none⟩) h.lt).trans h.c3⟩
set_option maxRecDepth 100000 in
set_option maxHeartbeats 4000000 in
theorem ffrom_any (w : World) (name : Nm) (first n cap size : Nat) (bo : Option Addr) (k : Int) (h1 : first ≤ 99999999) (h2 : n ≤ 100000000) (hcap : n ≤ cap) (hbo : (bo = none ∧ n = 0 ∧ cap = 0) ∨ ∃ g, bo = some ⟨g, 0, none⟩) :
    Calls Tryz.prog 75 #[.agg #[nmv name, .int .i64 (first : Int), .slice bo n cap, .int .i64 (size : Int)], .int .i64 k] w fun e w' => (∃ ao c, e = .returned (.slice ao (n - (k - (first : Int)).toNat) c) ∧ (0 < n - (k - (first : Int)).toNat → ∃ g, bo = some ⟨g, 0, none⟩ ∧ ao = some ⟨g, (k - (first : Int)).toNat, none⟩)) ∧ Below w.heap.size w w' := by
  have HN := Lib.hid (fnext_any (w.alloc (.cells #[nmv name, .int .i64 (first : Int), .slice bo n cap, .int .i64 (size : Int)] 110)) name first n cap size bo h1 h2)
  have HB := Lib.hid (below1 w (.cells #[nmv name, .int .i64 (first : Int), .slice bo n cap, .int .i64 (size : Int)] 110))
  have HF := Lib.hid (F4.new w (nmv name) (.int .i64 (first : Int)) (.slice bo n cap) (.int .i64 (size : Int)))
  by_cases hk : (first : Int) + (n : Int) ≤ k
  · have d1 : decide ((first : Int) + (n : Int) ≤ k) = true := decide_eq_true hk
    have e0 : n - (k - (first : Int)).toNat = 0 := by omega
    have HE := Lib.hid e0
    clear e0 h1 h2 hcap hbo
    go_enter Tryz.func75, Tryz.ntmps75
    go_wp2_with (go_at_call 72; (refine HN.out.mono ?_); rintro e w2 ⟨rfl, hb⟩; have hf := HF.out.below hb; have c1 := hf.c1; have c2 := hf.c2; clear hf; have HB := Lib.hid (HB.out.trans (hb.mono HB.out.size)); clear hb)
    go_ret
    rw [HE.out]
    exact ⟨⟨_, _, rfl, fun h => absurd h (Nat.lt_irrefl 0)⟩, HB.out⟩
  · have d1 : decide ((first : Int) + (n : Int) ≤ k) = false := decide_eq_false hk
    obtain ⟨j, hj⟩ : ∃ j, j = (k - (first : Int)).toNat := ⟨_, rfl⟩
    rw [← hj]
    have hm : max k (first : Int) = (first : Int) + (j : Int) := by omega
    have hw : IntKind.i64.wrap ((first : Int) + (j : Int) - (first : Int)) = (j : Int) := by rw [wrap_in (by omega)]; omega
    have hjn : j ≤ n := by omega
    have hjc : j ≤ cap := by omega
    have HJ := Lib.hid hj
    have hj0 : n = 0 → j = 0 := fun h => by omega
    clear hj hk
    rcases hbo with ⟨rfl, rfl, rfl⟩ | ⟨g, rfl⟩
    · obtain rfl : j = 0 := by omega
      simp only [Int.natCast_zero, Int.add_zero, Nat.add_zero, Int.natCast_zero] at HN d1 hm hw
      clear hj0 hjn hjc hcap
      go_enter Tryz.func75, Tryz.ntmps75
      go_wp2_with (go_at_call 72; (refine HN.out.mono ?_); rintro e w2 ⟨rfl, hb⟩; have hf := HF.out.below hb; have c1 := hf.c1; have c2 := hf.c2; clear hf; have HB := Lib.hid (HB.out.trans (hb.mono HB.out.size)); clear hb)
      go_ret
      exact ⟨⟨_, _, rfl, fun h => absurd h (by omega)⟩, HB.out⟩
    · by_cases hc : cap = j
      · obtain rfl : n = j := by omega
        subst hc
        go_enter Tryz.func75, Tryz.ntmps75
        go_wp2_with (go_at_call 72; (refine HN.out.mono ?_); rintro e w2 ⟨rfl, hb⟩; have hf := HF.out.below hb; have c1 := hf.c1; have c2 := hf.c2; clear hf; have HB := Lib.hid (HB.out.trans (hb.mono HB.out.size)); clear hb)
        go_ret
        rw [Nat.sub_self]
        exact ⟨⟨_, _, rfl, fun h => absurd h (Nat.lt_irrefl 0)⟩, HB.out⟩
      · have hc2 : ¬ j = cap := fun e => hc e.symm
        have hs1 : IntKind.i64.wrap ((n : Int) - (j : Int)) = ((n - j : Nat) : Int) := by rw [wrap_in (by omega)]; omega
        go_enter Tryz.func75, Tryz.ntmps75
        go_wp2_with (go_at_call 72; (refine HN.out.mono ?_); rintro e w2 ⟨rfl, hb⟩; have hf := HF.out.below hb; have c1 := hf.c1; have c2 := hf.c2; clear hf; have HB := Lib.hid (HB.out.trans (hb.mono HB.out.size)); clear hb)
        go_ret
        exact ⟨⟨_, _, rfl, fun h => ⟨g, rfl, rfl⟩⟩, HB.out⟩
end Go.Proofs.YtkilkhnoldfhcaaGreatDoor
namespace Go.Proofs.YtkilkhnoldfhcaaGreatDoor
open Go.RowKit
/-- The records of a segment from a number on. -/
def Sg.rest (g : Sg) (k : Int) : List (List UInt8) := g.recs.drop (k - (g.first : Int)).toNat
theorem Sg.rest_length (g : Sg) (k : Int) : (g.rest k).length = g.recs.length - (k - (g.first : Int)).toNat := by unfold Sg.rest; rw [List.length_drop]
theorem Sg.rest_get (g : Sg) (k : Int) (i : Nat) (h : i < (g.rest k).length) : ∃ h2 : (k - (g.first : Int)).toNat + i < g.recs.length, (g.rest k)[i] = g.recs[(k - (g.first : Int)).toNat + i] := by
  have h3 := g.rest_length k
  refine ⟨by omega, ?_⟩
  exact List.getElem_drop
def Lg.rests (lg : Lg) (k : Int) : List (List UInt8) := (lg.segs.map fun g => g.rest k).flatten
def Lg.low (lg : Lg) : Nat := (lg.segs.getD 0 ⟨0, []⟩).first
def Lg.read (lg : Lg) (k : Int) : Option (List UInt8) := if k < (lg.low : Int) then none else (lg.rests k).head?
def ReadAns (w w' : World) (v : Value) (r : Int) : Option (List UInt8) → Prop
  | none => v = .slice none 0 0 ∧ r = 8
  | some p => w'.ownsRow w.heap.size 5 1 v p.length (bys p) ∧ r = 0
theorem rec_size {g : Sg} {p : List UInt8} (h : p ∈ g.recs) : p.length + 12 ≤ g.size := by
  unfold Sg.size
  generalize g.recs = l at h
  induction l with
  | nil => cases h
  | cons x r ih =>
    rw [List.map_cons, List.sum_cons]
    rcases List.mem_cons.1 h with e | e
    · subst e; omega
    · have := ih e; omega
section
variable {C : Nat → Prop} {w w' : World} {v : Value} {us : List Value} {a dp : Nat} {lg : Lg}
theorem ro_shape {bo : Option Addr} {n bc : Nat} {xs : List Value} {L : List (List UInt8)} (h : RO C w (.slice bo n bc) xs L) (hn : n = L.length) : ((bo = none ∧ n = 0 ∧ bc = 0) ∨ ∃ g, bo = some ⟨g, 0, none⟩) ∧ n ≤ bc := by
  rcases h.own.2 with ⟨e, h0⟩ | ⟨g, c, cur, e, _, hg, h1, h2, _⟩
  · injection e with e1 e2 e3
    subst e1 e2 e3
    exact ⟨.inl ⟨rfl, rfl, rfl⟩, Nat.le_refl _⟩
  · injection e with e1 e2 e3
    subst e1 e3
    exact ⟨.inr ⟨g, rfl⟩, by omega⟩
theorem LAt.segAt {g cap n : Nat} (h : LAt C w a dp lg (.slice (some ⟨g, 0, none⟩) n cap) us) {k : Nat} (hk : k < lg.segs.length) : ∃ bo bc, w.cell? ⟨g, k * 4, none⟩ = some (nmv (segN lg.dir lg.segs[k].first)) ∧ w.cell? ⟨g, k * 4 + 1, none⟩ = some (.int .i64 (lg.segs[k].first : Int)) ∧
    w.cell? ⟨g, k * 4 + 2, none⟩ = some (.slice bo lg.segs[k].recs.length bc) ∧ w.cell? ⟨g, k * 4 + 3, none⟩ = some (.int .i64 (lg.segs[k].size : Int)) ∧ ∃ xs, RO C w (.slice bo lg.segs[k].recs.length bc) xs lg.segs[k].recs := by
  obtain ⟨g', cap', bo, bc, hv, _, _, _, h1⟩ := h.seg hk
  injection hv with e1 e2 e3
  injection e1 with e1
  injection e1 with e1
  subst e1
  exact ⟨bo, bc, h1⟩
/-- A record within a segment's row. -/
theorem ro_get {bo : Option Addr} {n bc g : Nat} {xs : List Value} {L : List (List UInt8)} (h : RO C w (.slice bo n bc) xs L) (hg : bo = some ⟨g, 0, none⟩) {j : Nat} (hj : j < L.length) : ∃ co cc, w.cell? ⟨g, j, none⟩ = some (.slice co L[j].length cc) ∧ w.ownsRow 0 5 1 (.slice co L[j].length cc) L[j].length (bys L[j]) := by
  subst hg
  have hx : j < xs.length := by rw [h.len]; exact hj
  have hr := h.at_ j hx hj
  obtain ⟨co, cc, hv⟩ := own_slice hr
  refine ⟨co, cc, ?_, hv ▸ hr⟩
  rw [← hv]
  have := h.own.cells (g := g) rfl j xs[j] (List.getElem?_eq_getElem hx)
  rw [Addr.add_lit, Nat.zero_add] at this
  exact this
theorem rests_none {l : List Sg} {k : Int} {i : Nat} (hi : i < l.length) (h : ((l.take i).map fun g => g.rest k).flatten = []) (h2 : l[i].rest k = []) : ((l.take (i + 1)).map fun g => g.rest k).flatten = [] := by
  rw [List.take_add_one, List.getElem?_eq_getElem hi, List.map_append, List.flatten_append, h]
  simpa using h2
theorem rests_some {l : List Sg} {k : Int} {i : Nat} (hi : i < l.length) (h : ((l.take i).map fun g => g.rest k).flatten = []) (h2 : 0 < (l[i].rest k).length) : ((l.map fun g => g.rest k).flatten).head? = some ((l[i].rest k)[0]) := by
  have e : l = l.take i ++ l[i] :: l.drop (i + 1) := by rw [List.getElem_cons_drop, List.take_append_drop]
  generalize hx : l[i] = x at *
  rw [e, List.map_append, List.flatten_append, h, List.nil_append, List.map_cons, List.flatten_cons, List.head?_append, List.head?_eq_getElem?, List.getElem?_eq_getElem h2]
  rfl
set_option maxRecDepth 100000 in
set_option maxHeartbeats 4000000 in
theorem lread_any (h : LAt C w a dp lg v us) (hk : LOk lg) (k : Int) : Calls Tryz.prog 39 #[ptr a, .int .i64 k] w fun e w' => (∃ v' r, e = .returned (.tuple #[v', .int .i64 r]) ∧ ReadAns w w' v' r (lg.read k)) ∧ Below w.heap.size w w' := by
  have HF : Hid (Calls Tryz.prog 31 #[ptr a] w fun e w' => e = .returned (.int .i64 (lg.low : Int)) ∧ w = w') := Lib.hid (first_any h hk)
  obtain ⟨g, cap, hcap, rfl⟩ : ∃ g cap, lg.segs.length ≤ cap ∧ v = .slice (some ⟨g, 0, none⟩) lg.segs.length cap := by
    obtain ⟨g, cap, _, _, hv, _, hcap, _⟩ := h.seg hk.ne
    exact ⟨g, cap, hcap, hv⟩
  have H := Lib.hid h
  have HK := Lib.hid hk
  have c3 := h.c3
  have hfew := hk.few
  have HR : Hid (lg.read k = if k < (lg.low : Int) then none else (lg.rests k).head?) := rfl
  by_cases hl : k < (lg.low : Int)
  · have d1 : decide (k < (lg.low : Int)) = true := decide_eq_true hl
    have HA : Hid (lg.read k = none) := Lib.hid (HR.out.trans (if_pos hl))
    clear h hk hfew hcap
    go_enter Tryz.func39, Tryz.ntmps39
    go_wp2_with (go_at_call 31; (refine HF.out.mono ?_); rintro e w2 ⟨rfl, rfl⟩)
    go_ret2
    rw [HA.out]
    exact ⟨⟨_, _, rfl, rfl, rfl⟩, Below.refl _ _⟩
  · have d1 : decide (k < (lg.low : Int)) = false := decide_eq_false hl
    have HA : Hid (lg.read k = (lg.rests k).head?) := Lib.hid (HR.out.trans (if_neg hl))
    clear h hk hl
    go_enter Tryz.func39, Tryz.ntmps39
    go_wp2_with (go_at_call 31; (refine HF.out.mono ?_); rintro e w2 ⟨rfl, rfl⟩)
    go_loopw [18] (fun vi wr => ∃ i : Nat, vi = .int .i64 (i : Int) ∧ i ≤ lg.segs.length ∧ Hid (((lg.segs.take i).map fun g => g.rest k).flatten = []) ∧ Hid (Below w.heap.size w wr)) (fun vi _ => lg.segs.length - (RowKit.intOf vi).toNat)
    case atStart => exact ⟨0, rfl, Nat.zero_le _, Lib.hid rfl, Lib.hid (Below.refl _ _)⟩
    case round =>
      obtain ⟨i, rfl, hi, HE, HB⟩ := hrel
      by_cases hlt : i < lg.segs.length
      · have hil : (i : Int) < (lg.segs.length : Int) := by omega
        have hil2 : decide ((i : Int) < (lg.segs.length : Int)) = true := decide_eq_true hil
        have hwi : IntKind.i64.wrap ((i : Int) + 1) = ((i + 1 : Nat) : Int) := by rw [wrap_in (by omega)]; omega
        obtain ⟨bo, bc, g0, g1, g2, g3, xs, hro⟩ := (H.out.below HB.out).segAt hlt
        have hmem : lg.segs[i] ∈ lg.segs := List.getElem_mem hlt
        have hnum := (HK.out.num _ hmem).2
        have hroom := HK.out.room _ hmem
        have hrs := recs_size lg.segs[i]
        obtain ⟨hsh, hcap2⟩ := ro_shape hro rfl
        have HN := fun w (name : Nm) size => Lib.hid (ffrom_any w name lg.segs[i].first lg.segs[i].recs.length bc size bo k hnum (by omega) hcap2 hsh)
        have HRO := Lib.hid hro
        have HLT := Lib.hid hlt
        have hrl := lg.segs[i].rest_length k
        have HNX := fun h2 => Lib.hid (rests_none (k := k) hlt HE.out h2)
        have HSX := fun h2 => Lib.hid (rests_some (k := k) hlt HE.out h2)
        have HGET := fun (j : Nat) (hj : j < (lg.segs[i].rest k).length) => Lib.hid (lg.segs[i].rest_get k j hj)
        have HSZ := Lib.hid (fun p (h : p ∈ lg.segs[i].recs) => rec_size h)
        have HRM := Lib.hid hroom
        have HG : Hid (lg.rests k = (lg.segs.map fun g => g.rest k).flatten) := rfl
        generalize lg.segs[i] = sg at *
        clear hro hlt hi hmem hnum hsh hcap2
        by_cases hz : sg.recs.length - (k - (sg.first : Int)).toNat = 0
        · rw [hz] at HN
          have HX := HNX (List.eq_nil_of_length_eq_zero (hrl.trans hz))
          clear HNX HSX HGET hrl hz
          go_wp2_with (go_at_call 75; (refine (HN _ _ _).out.mono ?_); rintro e w2 ⟨⟨ao, c, rfl, _⟩, hb⟩; have HB := Lib.hid (HB.out.trans (((below1 wr _).trans (hb.mono (below1 wr _).size)).mono HB.out.size)); clear hb)
          have hlt2 := HLT.out
          exact ⟨⟨i + 1, congrArg (Value.int .i64) (by omega), hlt2, HX, HB⟩, by simp [RowKit.intOf]; omega⟩
        · have hlen : 0 < (sg.rest k).length := by omega
          have HS := HSX hlen
          obtain ⟨hj0, hg0⟩ := (HGET 0 hlen).out
          have HQ : Hid (lg.read k = some ((sg.rest k)[0])) := Lib.hid (HA.out.trans HS.out)
          rw [hg0] at HQ
          simp only [Nat.add_zero] at hj0 HQ
          clear HNX HSX HGET hrl HS hlen hg0
          obtain ⟨j, hj⟩ : ∃ j, j = (k - (sg.first : Int)).toNat := ⟨_, rfl⟩
          rw [← hj] at HN hz
          have HQ2 : Hid (∃ h : j < sg.recs.length, lg.read k = some sg.recs[j]) := by subst hj; exact Lib.hid ⟨hj0, HQ.out⟩
          obtain ⟨m, hm⟩ : ∃ m, m = sg.recs.length - j := ⟨_, rfl⟩
          rw [← hm] at HN hz
          have hm1 : (0 : Int) < (m : Int) := by omega
          have hm2 : decide ((0 : Int) < (m : Int)) = true := decide_eq_true hm1
          have HM := Lib.hid (show 0 < m by omega)
          have hroom := HRM.out
          have HJS := Lib.hid (show j < sg.recs.length by subst hj; exact hj0)
          have HP := Lib.hid (show (sg.recs[j]'HJS.out).length ≤ 140737488355328 by have := HSZ.out _ (List.getElem_mem HJS.out); omega)
          clear hj hm hz hj0 HQ
          go_wp2_with (first
            | (go_at_call 75; (refine (HN _ _ _).out.mono ?_); rintro e w2 ⟨⟨ao, c, rfl, hao⟩, hb⟩; obtain ⟨g2, hbo, rfl⟩ := hao HM.out; have HB2 := Lib.hid ((below1 wr _).trans (hb.mono (below1 wr _).size)); obtain ⟨co, cc, c5, ho⟩ := ro_get (HRO.out.below HB2.out) hbo HJS.out; have HO := Lib.hid ho; have HB := Lib.hid (HB.out.trans (HB2.out.mono HB.out.size)); clear hb hao ho hbo)
            | (go_at_call 57; (refine (clone_any (own_sb HO.out) HP.out).mono ?_); rintro e w3 ⟨v3, rfl, ho3, hb3⟩; have HO3 := Lib.hid (own_mono ho3 HB.out.size); have HB := Lib.hid (HB.out.trans (hb3.mono HB.out.size)); clear ho3 hb3))
          go_ret2
          obtain ⟨hj, hq⟩ := HQ2.out
          rw [hq]
          exact ⟨⟨_, _, rfl, HO3.out, rfl⟩, HB.out⟩
      · obtain rfl : i = lg.segs.length := by omega
        have hil : ¬ ((lg.segs.length : Nat) : Int) < (lg.segs.length : Int) := by omega
        have hil2 : decide (((lg.segs.length : Nat) : Int) < (lg.segs.length : Int)) = false := decide_eq_false hil
        have HG : Hid (lg.rests k = (lg.segs.map fun g => g.rest k).flatten) := rfl
        go_wp2
        go_ret2
        have e : lg.read k = none := by
          have h1 := HE.out
          rw [List.take_length] at h1
          rw [HA.out, HG.out, h1]
          rfl
        rw [e]
        exact ⟨⟨_, _, rfl, rfl, rfl⟩, HB.out⟩
end
end Go.Proofs.YtkilkhnoldfhcaaGreatDoor
