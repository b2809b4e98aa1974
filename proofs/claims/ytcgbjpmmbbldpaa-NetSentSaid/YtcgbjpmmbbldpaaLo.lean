/- Slices of bytes, of operations that came in; racelaw13.few. Conditions: none of its own. -/
import Derived.Test.YtcgbjpmmbbldpaaLe
import Derived.Deep.Slices
import Derived.Deep.SlicePairs
namespace Go.Proofs.Ytcgbjpmmbbldpaa
open Go.ChangeShapes Go.WideShapes Go.ChangeAt Go.RowKit Go.Deep
section
variable {H : Type} {enc : TypeId × Value → H} {w : World} {base : Nat} {held : Bool}
/-- A row of bytes that came in. -/
theorem open_sb {fuel : Nat} {v : Value} {x : DataW H × List MemPlace} (h : DataW.trod enc Try.prog w base (fun _ => true) held fuel 33 [v] = some x) :
    ∃ ao cap xs, v = .slice ao xs.length cap ∧ SB (fun k => k < w.heap.size) w ao xs.length cap xs := by
  rcases Go.Deep.open_slice1 Try.underlying33 (by kernel_rfl) h with ⟨h0, _⟩ | ⟨a, len, cap, m, n, V, D, Pl, h0, hb, hl, hm, hmm, rfl, hx⟩
  · simp at h0
    subst h0
    exact ⟨none, 0, [], rfl, rfl, Nat.le_refl _, by decide, fun _ => rfl, .inl rfl⟩
  simp only [if_true] at hmm
  subst hmm
  simp at h0
  subst h0
  obtain ⟨B, hB⟩ := Go.Deep.choose_lt (α := UInt8) (p := fun i b => V i = .int .u8 (b.toNat : Int)) (fun i hi => by
    obtain ⟨b, h1, _, h3⟩ := DataW.trod_int Try.underlying5 (hx i hi).2
    simp [Lit.wf, IntKind.min, IntKind.max, IntKind.signed, IntKind.bits] at h3
    simp at h1
    refine ⟨UInt8.ofNat b.toNat, ?_⟩
    rw [h1]
    congr 1
    simp [UInt8.toNat_ofNat']
    omega)
  have hlen : ((List.range len).map B).length = len := by simp
  refine ⟨some a, m, (List.range len).map B, by rw [hlen], by rw [hlen], by rw [hlen]; exact hl, hm, (fun e => by cases e), ?_⟩
  rw [hlen]
  by_cases h1 : len = 0
  · exact .inl h1
  right
  obtain ⟨b, off, spot⟩ := a
  have h00 := (hx 0 (by omega)).1
  have hspot : spot = none := by simpa [Addr.add] using World.cell?_spot h00
  subst hspot
  refine ⟨b, off, rfl, World.block_lt_of_cell? _ _ h00, fun i hi => ?_⟩
  have h2 := (hx i (by omega)).1
  rw [Addr.add_lit] at h2
  rw [h2, hB i (by omega)]
  simp [List.getD, hi]
end
/-- An operation's cells. -/
structure OAt (C : Nat → Prop) (w : World) (b o : Nat) (p : OpN) : Prop where
  c0 : w.cell? ⟨b, o, none⟩ = some (.int .i64 p.k)
  c1 : w.cell? ⟨b, o + 1, none⟩ = some (.int .i64 p.a)
  c2 : w.cell? ⟨b, o + 2, none⟩ = some (.int .i64 p.b)
  c3 : ∃ ao cap, w.cell? ⟨b, o + 3, none⟩ = some (.slice ao p.d.length cap) ∧ SB C w ao p.d.length cap p.d
/-- A slice of operations. -/
structure SO (C : Nat → Prop) (w : World) (ao : Option Addr) (n cap : Nat) (l : List OpN) : Prop where
  len : n = l.length
  le : n ≤ cap
  max : cap ≤ maxLen
  cells : n = 0 ∨ ∃ b off, ao = some ⟨b, off, none⟩ ∧ C b ∧ ∀ i (h : i < l.length), OAt C w b (off + i * 4) l[i]
theorem OAt.tn {C S : Nat → Prop} {w w' : World} {b o : Nat} {p : OpN} (h : OAt C w b o p) (ht : Tn S w w') (hb : C b) (hd : ∀ k, C k → ¬ S k) : OAt C w' b o p := by
  obtain ⟨a4, k4, h4, s4⟩ := h.c3
  have n := hd b hb
  exact ⟨ht.cell h.c0 n, ht.cell h.c1 n, ht.cell h.c2 n, ⟨a4, k4, ht.cell h4 n, s4.tn ht hd⟩⟩
theorem SO.tn {C S : Nat → Prop} {w w' : World} {ao : Option Addr} {n cap : Nat} {l : List OpN} (h : SO C w ao n cap l) (ht : Tn S w w') (hd : ∀ k, C k → ¬ S k) : SO C w' ao n cap l := by
  refine ⟨h.len, h.le, h.max, ?_⟩
  rcases h.cells with h0 | ⟨b, off, rfl, hB, hc⟩
  · exact .inl h0
  · exact .inr ⟨b, off, rfl, hB, fun i hi => (hc i hi).tn ht hB hd⟩
theorem SO.below {C : Nat → Prop} {w w' : World} {ao : Option Addr} {n cap : Nat} {l : List OpN} (h : SO C w ao n cap l) (hb : Below w.heap.size w w') : SO C w' ao n cap l := h.tn (Tn.of_below (S := fun _ => False) hb) (fun _ _ e => e)
theorem SO.low {B : Nat} {w w' : World} {ao : Option Addr} {n cap : Nat} {l : List OpN} (h : SO (· < B) w ao n cap l) (hb : Below B w w') : SO (· < B) w' ao n cap l := h.tn (tn_low hb) (fun k h1 h2 => by omega)
theorem SO.lt {C : Nat → Prop} {w : World} {ao : Option Addr} {n cap : Nat} {l : List OpN} (h : SO C w ao n cap l) : n ≤ 9223372036854775807 := by have := h.le; have := h.max; unfold maxLen at this; omega
theorem SO.at_ {C : Nat → Prop} {w : World} {ao : Option Addr} {n cap : Nat} {l : List OpN} (h : SO C w ao n cap l) {i : Nat} (hi : i < l.length) : ∃ b off, ao = some ⟨b, off, none⟩ ∧ C b ∧ OAt C w b (off + i * 4) l[i] := by
  have hn := h.len
  rcases h.cells with h0 | ⟨b, off, rfl, hB, hc⟩
  · omega
  · exact ⟨b, off, rfl, hB, hc i hi⟩
section
variable {H : Type} {enc : TypeId × Value → H} {w : World} {base : Nat} {held : Bool}
set_option maxRecDepth 100000 in
theorem op_cells {n : Nat} {b o : Nat} {cs : List Value} {y : DataW H × List MemPlace} (h1 : w.cells? base ⟨b, o, none⟩ 4 = some cs) (h : DataW.trod enc Try.prog w base (fun _ => true) held n 35 cs = some y) :
    ∃ p : OpN, OAt (fun k => k < w.heap.size) w b o p := by
  obtain ⟨_, hlen, hcell⟩ := World.cells?_some h1
  obtain ⟨xs, k, hk, hxy, _, hxl, hf⟩ := DataW.trod_struct Try.underlying35 h
  match xs, hxl, cs, hlen with
  | [y0, y1, y2, y3], _, [v0, v1, v2, v3], _ =>
    have g0 := hf 0 _ rfl
    have g1 := hf 1 _ rfl
    have g2 := hf 2 _ rfl
    have g3 := hf 3 _ rfl
    have q0 : Try.prog.cellsOf 3 = 1 := by kernel_rfl
    have q2 : Try.prog.cellsOf 33 = 1 := by kernel_rfl
    simp [q0, q2] at g0 g1 g2 g3
    have e0 := hcell 0 (by omega)
    have e1 := hcell 1 (by omega)
    have e2 := hcell 2 (by omega)
    have e3 := hcell 3 (by omega)
    rw [add_plain] at e0 e1 e2 e3
    obtain ⟨k0, f0, rfl, _⟩ := DataW.trod_int Try.underlying3 g0
    obtain ⟨k1, f1, rfl, _⟩ := DataW.trod_int Try.underlying3 g1
    obtain ⟨k2, f2, rfl, _⟩ := DataW.trod_int Try.underlying3 g2
    obtain ⟨a4, p4, x4, f4, r4⟩ := open_sb g3
    simp at f0 f1 f2
    subst f0 f1 f2 f4
    exact ⟨⟨k0, k1, k2, x4⟩, by simpa using e0, by simpa using e1, by simpa using e2, ⟨a4, p4, by simpa using e3, r4⟩⟩
set_option maxRecDepth 100000 in
theorem open_so {fuel : Nat} {v : Value} {x : DataW H × List MemPlace} (h : DataW.trod enc Try.prog w base (fun _ => true) held fuel 22 [v] = some x) :
    ∃ ao cap l, v = .slice ao l.length cap ∧ SO (fun k => k < w.heap.size) w ao l.length cap l := by
  rcases open_slice Try.underlying22 h with ⟨h0, _⟩ | ⟨a, len, cap, m, n, D, Pl, h0, hb, hl, hm, hmm, rfl, hx⟩
  · exact ⟨none, 0, [], by simpa using h0, rfl, Nat.le_refl _, by decide, .inl rfl⟩
  simp only [if_true] at hmm
  subst hmm
  have q : Try.prog.cellsOf 35 = 4 := by kernel_rfl
  rw [q] at hx
  obtain ⟨b, o, spot⟩ := a
  by_cases h1 : len = 0
  · subst h1
    exact ⟨some ⟨b, o, spot⟩, m, [], by simpa using h0, rfl, Nat.zero_le _, hm, .inl rfl⟩
  have hspot : spot = none := by
    obtain ⟨cs, h2, _⟩ := hx 0 (by omega)
    obtain ⟨_, hlen, hcell⟩ := World.cells?_some h2
    have := hcell 0 (by omega)
    match cs, hlen with
    | v0 :: _, _ => simpa [Addr.add] using World.cell?_spot (show w.cell? _ = some v0 from this)
  subst hspot
  obtain ⟨R, hR⟩ := choose_lt (α := OpN) (n := m) (p := fun i r => OAt (fun k => k < w.heap.size) w b (o + i * 4) r) (fun i hi => by
    obtain ⟨cs, h2, h3⟩ := hx i hi
    rw [add_plain] at h2
    exact op_cells h2 h3)
  have hlen : ((List.range len).map R).length = len := by simp
  refine ⟨some ⟨b, o, none⟩, m, (List.range len).map R, by simpa using h0, rfl, by rw [hlen]; exact hl, hm, .inr ⟨b, o, rfl, ?_, fun i hi => ?_⟩⟩
  · exact World.block_lt_of_cell? _ _ (hR 0 (by omega)).c0
  · have hi' : i < len := by simpa using hi
    rw [List.getElem_map, List.getElem_range]
    exact hR i (by omega)
end
/-- How many bytes operations bear. -/
def wei (l : List OpN) : Nat := (l.map fun p => min p.d.length 20001).sum
def fewB (l : List OpN) : Bool := decide (l.length ≤ 400) && decide (wei (l.take 400) ≤ 20000)
theorem wei_take {l : List OpN} {k : Nat} (h : k < l.length) : wei (l.take (k + 1)) = wei (l.take k) + min l[k].d.length 20001 := by
  unfold wei
  rw [List.take_succ_eq_append_getElem h, List.map_append, List.sum_append]
  simp
theorem wei_le (l : List OpN) : wei l ≤ l.length * 20001 := by
  induction l with
  | nil => simp [wei]
  | cons p r ih =>
    have e : wei (p :: r) = min p.d.length 20001 + wei r := rfl
    rw [e, List.length_cons, Nat.add_mul]
    omega
theorem few_yes {l : List OpN} (h : fewB l = true) : l.length ≤ 400 ∧ wei l ≤ 20000 := by
  unfold fewB at h
  simp only [Bool.and_eq_true, decide_eq_true_eq] at h
  obtain ⟨h1, h2⟩ := h
  rw [List.take_of_length_le h1] at h2
  exact ⟨h1, h2⟩
theorem wei_mem {l : List OpN} (h : wei l ≤ 20000) : ∀ p ∈ l, p.d.length ≤ 20000 := by
  induction l with
  | nil => intro p hp; cases hp
  | cons u r ih =>
    have e : wei (u :: r) = min u.d.length 20001 + wei r := rfl
    intro p hp
    rcases List.mem_cons.1 hp with rfl | hp
    · omega
    · exact ih (by omega) p hp
set_option maxRecDepth 100000 in
set_option maxHeartbeats 1000000 in
theorem few_any {C : Nat → Prop} {w : World} {ao : Option Addr} {n cap : Nat} {l : List OpN} (h : SO C w ao n cap l) :
    Calls Try.prog 10 #[.slice ao n cap] w fun e w' => e = .returned (.bool (fewB l)) ∧ Below w.heap.size w w' := by
  have hlt := h.lt
  have hl := h.len
  have H := Lib.hid h
  have HL := Lib.hid hl
  clear h hl
  go_enter Try.func10, Try.ntmps10
  go_wp2
  go_loopw [3, 4] (fun s i wr => ∃ k : Nat, k ≤ n ∧ k ≤ 400 ∧ i = .int .i64 k ∧ s = .int .i64 (wei (l.take k) : Nat) ∧ Hid (Below w.heap.size w wr)) (fun _ i _ => 400 - (intOf i).toNat)
  case atStart => exact ⟨0, Nat.zero_le _, Nat.zero_le _, rfl, rfl, Lib.hid (Below.refl _ _)⟩
  case round =>
    obtain ⟨k, hk, hk4, rfl, rfl, HB⟩ := hrel
    have hw := wei_le (l.take k)
    rw [List.length_take] at hw
    by_cases hlt2 : k < n ∧ k < 400
    · obtain ⟨hkn, hk100⟩ := hlt2
      have hkl : k < l.length := by rw [← HL.out]; exact hkn
      obtain ⟨b, off, rfl, _, ho⟩ := (H.out.below HB.out).at_ hkl
      have HW := Lib.hid (wei_take hkl)
      obtain ⟨a4, k4, c3, s4⟩ := ho.c3
      have hs4 := s4.lt
      clear s4 ho
      generalize l[k].d.length = bl at *
      go_wp2
      go_roundw
      case rel => exact ⟨k + 1, by omega, by omega, by go_num, by rw [HW.out]; congr 1; split <;> omega, HB⟩
      case measure => simp [intOf]; omega
    · by_cases hkn : k < n
      · have hf := Lib.hid (show fewB l = false by unfold fewB; rw [← HL.out, decide_eq_false (by omega)]; rfl)
        have h100 : ¬ (k : Int) < 400 := by omega
        have hn100 : ¬ (n : Int) ≤ 400 := by omega
        clear hw hlt2
        generalize wei (l.take k) = s at *
        go_wp2
        go_ret
        rw [hf.out]
        exact ⟨rfl, HB.out⟩
      · obtain rfl : k = n := by omega
        have hf := Lib.hid (show fewB l = decide (((wei (l.take k) : Nat) : Int) ≤ 20000) by
          unfold fewB
          rw [← HL.out, decide_eq_true hk4, Bool.true_and, List.take_of_length_le (by rw [← HL.out]; exact hk4), List.take_of_length_le (by rw [← HL.out]; exact Nat.le_refl _)]
          by_cases hc : wei l ≤ 20000
          · rw [decide_eq_true hc, decide_eq_true (by omega)]
          · rw [decide_eq_false hc, decide_eq_false (by omega)])
        have hk4' : (k : Int) ≤ 400 := by omega
        clear hw hlt2
        generalize wei (l.take k) = s at *
        go_wp2
        go_ret
        rw [hf.out]
        exact ⟨by simp, HB.out⟩
end Go.Proofs.Ytcgbjpmmbbldpaa
