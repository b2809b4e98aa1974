/- Operations of a log that came in; racelaw7.Few. Conditions: none of its own. -/
import Derived.Test.YtkilkhnoldfhcaaGreatDoorLt
import Derived.Test.YtkilkhnoldfhcaaGreatDoorCards
import Derived.Deep.Slices
import Derived.Deep.SlicePairs
namespace Go.Proofs.YtkilkhnoldfhcaaGreatDoor
open Go.ChangeShapes Go.WideShapes Go.ChangeAt Go.RowKit Go.Deep
theorem bytes_self (s : ByteArray) : (⟨s.data.toList.toArray⟩ : ByteArray) = s := by cases s; simp
/-- An operation of a log. -/
structure Wo where
  kind : Int
  n : Int
  m : Int
  b : List UInt8
  name : Nm
  picks : List Int
/-- What an operation says is what Go's types hold. -/
structure Wo.wf (p : Wo) : Prop where
  kind : -9223372036854775808 ≤ p.kind ∧ p.kind ≤ 9223372036854775807
  n : -9223372036854775808 ≤ p.n ∧ p.n ≤ 9223372036854775807
  m : -9223372036854775808 ≤ p.m ∧ p.m ≤ 9223372036854775807
  name : p.name.length ≤ maxLen
/-- An operation's cells. -/
structure WAt (C : Nat → Prop) (w : World) (b o : Nat) (p : Wo) : Prop where
  c0 : w.cell? ⟨b, o, none⟩ = some (.int .i64 p.kind)
  c1 : w.cell? ⟨b, o + 1, none⟩ = some (.int .i64 p.n)
  c2 : w.cell? ⟨b, o + 2, none⟩ = some (.int .i64 p.m)
  c3 : ∃ ao cap, w.cell? ⟨b, o + 3, none⟩ = some (.slice ao p.b.length cap) ∧ SB C w ao p.b.length cap p.b
  c4 : w.cell? ⟨b, o + 4, none⟩ = some (nmv p.name)
  c5 : ∃ ao cap, w.cell? ⟨b, o + 5, none⟩ = some (.slice ao p.picks.length cap) ∧ SI C w ao p.picks.length cap p.picks
/-- A slice of operations. -/
structure SW (C : Nat → Prop) (w : World) (ao : Option Addr) (n cap : Nat) (l : List Wo) : Prop where
  len : n = l.length
  le : n ≤ cap
  max : cap ≤ maxLen
  wf : ∀ p ∈ l, p.wf
  cells : n = 0 ∨ ∃ b off, ao = some ⟨b, off, none⟩ ∧ C b ∧ ∀ i (h : i < l.length), WAt C w b (off + i * 6) l[i]
theorem WAt.tn {C S : Nat → Prop} {w w' : World} {b o : Nat} {p : Wo} (h : WAt C w b o p) (ht : Tn S w w') (hb : C b) (hd : ∀ k, C k → ¬ S k) : WAt C w' b o p := by
  obtain ⟨a3, k3, h3, s3⟩ := h.c3
  obtain ⟨a5, k5, h5, s5⟩ := h.c5
  have n := hd b hb
  exact ⟨ht.cell h.c0 n, ht.cell h.c1 n, ht.cell h.c2 n, ⟨a3, k3, ht.cell h3 n, s3.tn ht hd⟩, ht.cell h.c4 n, ⟨a5, k5, ht.cell h5 n, s5.tn ht hd⟩⟩
theorem SW.tn {C S : Nat → Prop} {w w' : World} {ao : Option Addr} {n cap : Nat} {l : List Wo} (h : SW C w ao n cap l) (ht : Tn S w w') (hd : ∀ k, C k → ¬ S k) : SW C w' ao n cap l := by
  refine ⟨h.len, h.le, h.max, h.wf, ?_⟩
  rcases h.cells with h0 | ⟨b, off, rfl, hB, hc⟩
  · exact .inl h0
  · exact .inr ⟨b, off, rfl, hB, fun i hi => (hc i hi).tn ht hB hd⟩
theorem SW.below {C : Nat → Prop} {w w' : World} {ao : Option Addr} {n cap : Nat} {l : List Wo} (h : SW C w ao n cap l) (hb : Below w.heap.size w w') : SW C w' ao n cap l := h.tn (Tn.of_below (S := fun _ => False) hb) (fun _ _ e => e)
theorem SW.lt {C : Nat → Prop} {w : World} {ao : Option Addr} {n cap : Nat} {l : List Wo} (h : SW C w ao n cap l) : n ≤ 9223372036854775807 := by have := h.le; have := h.max; unfold maxLen at this; omega
theorem SW.at_ {C : Nat → Prop} {w : World} {ao : Option Addr} {n cap : Nat} {l : List Wo} (h : SW C w ao n cap l) {i : Nat} (hi : i < l.length) : ∃ b off, ao = some ⟨b, off, none⟩ ∧ C b ∧ WAt C w b (off + i * 6) l[i] ∧ l[i].wf := by
  have hn := h.len
  rcases h.cells with h0 | ⟨b, off, rfl, hB, hc⟩
  · omega
  · exact ⟨b, off, rfl, hB, hc i hi, h.wf _ (List.getElem_mem _)⟩
section
variable {H : Type} {enc : TypeId × Value → H} {w : World} {base : Nat} {held : Bool}
instance : Inhabited Wo := ⟨⟨0, 0, 0, [], [], []⟩⟩
set_option maxRecDepth 100000 in
theorem wop_cells {n : Nat} {b o : Nat} {cs : List Value} {y : DataW H × List MemPlace} (h1 : w.cells? base ⟨b, o, none⟩ 6 = some cs) (h : DataW.trod enc Tryz.prog w base (fun _ => true) held n 39 cs = some y) :
    ∃ p : Wo, p.wf ∧ WAt (fun k => k < w.heap.size) w b o p := by
  obtain ⟨_, hlen, hcell⟩ := World.cells?_some h1
  obtain ⟨xs, k, hk, hxy, _, hxl, hf⟩ := DataW.trod_struct Tryz.underlying39 h
  match xs, hxl, cs, hlen with
  | [y0, y1, y2, y3, y4, y5], _, [v0, v1, v2, v3, v4, v5], _ =>
    have g0 := hf 0 _ rfl
    have g1 := hf 1 _ rfl
    have g2 := hf 2 _ rfl
    have g3 := hf 3 _ rfl
    have g4 := hf 4 _ rfl
    have g5 := hf 5 _ rfl
    have q0 : Tryz.prog.cellsOf 3 = 1 := by kernel_rfl
    have q1 : Tryz.prog.cellsOf 9 = 1 := by kernel_rfl
    have q2 : Tryz.prog.cellsOf 36 = 1 := by kernel_rfl
    have q3 : Tryz.prog.cellsOf 37 = 1 := by kernel_rfl
    simp [q0, q1, q2, q3] at g0 g1 g2 g3 g4 g5
    have e0 := hcell 0 (by omega)
    have e1 := hcell 1 (by omega)
    have e2 := hcell 2 (by omega)
    have e3 := hcell 3 (by omega)
    have e4 := hcell 4 (by omega)
    have e5 := hcell 5 (by omega)
    rw [add_plain] at e0 e1 e2 e3 e4 e5
    obtain ⟨k0, f0, rfl, wf0⟩ := DataW.trod_int Tryz.underlying3 g0
    obtain ⟨k1, f1, rfl, wf1⟩ := DataW.trod_int Tryz.underlying3 g1
    obtain ⟨k2, f2, rfl, wf2⟩ := DataW.trod_int Tryz.underlying3 g2
    obtain ⟨a3, p3, x3, f3, r3⟩ := open_sb g3
    obtain ⟨s4, f4, rfl, wf4⟩ := DataW.trod_string Tryz.underlying9 g4
    obtain ⟨a5, p5, x5, f5, r5⟩ := open_si g5
    simp at f0 f1 f2 f4
    subst f0 f1 f2 f3 f4 f5
    simp [Lit.wf, IntKind.min, IntKind.max, IntKind.signed, IntKind.bits] at wf0 wf1 wf2
    refine ⟨⟨k0, k1, k2, x3, s4.data.toList, x5⟩, ⟨⟨by simp only; omega, by simp only; omega⟩, ⟨by simp only; omega, by simp only; omega⟩, ⟨by simp only; omega, by simp only; omega⟩, ?_⟩, by simpa using e0, by simpa using e1, by simpa using e2, ⟨a3, p3, by simpa using e3, r3⟩, by simpa using e4, ⟨a5, p5, by simpa using e5, r5⟩⟩
    rw [Array.length_toList]; exact wf4
set_option maxRecDepth 100000 in
theorem open_sw {fuel : Nat} {v : Value} {x : DataW H × List MemPlace} (h : DataW.trod enc Tryz.prog w base (fun _ => true) held fuel 22 [v] = some x) :
    ∃ ao cap l, v = .slice ao l.length cap ∧ SW (fun k => k < w.heap.size) w ao l.length cap l := by
  rcases open_slice Tryz.underlying22 h with ⟨h0, _⟩ | ⟨a, len, cap, m, n, D, Pl, h0, hb, hl, hm, hmm, rfl, hx⟩
  · exact ⟨none, 0, [], by simpa using h0, rfl, Nat.le_refl _, by decide, fun _ h => (nomatch h), .inl rfl⟩
  simp only [if_true] at hmm
  subst hmm
  have q : Tryz.prog.cellsOf 39 = 6 := by kernel_rfl
  rw [q] at hx
  obtain ⟨b, o, spot⟩ := a
  by_cases h1 : len = 0
  · subst h1
    exact ⟨some ⟨b, o, spot⟩, m, [], by simpa using h0, rfl, Nat.zero_le _, hm, fun _ h => (nomatch h), .inl rfl⟩
  have hspot : spot = none := by
    obtain ⟨cs, h2, _⟩ := hx 0 (by omega)
    obtain ⟨_, hlen, hcell⟩ := World.cells?_some h2
    have := hcell 0 (by omega)
    match cs, hlen with
    | v0 :: _, _ => simpa [Addr.add] using World.cell?_spot (show w.cell? _ = some v0 from this)
  subst hspot
  obtain ⟨R, hR⟩ := choose_lt (α := Wo) (n := m) (p := fun i r => r.wf ∧ WAt (fun k => k < w.heap.size) w b (o + i * 6) r) (fun i hi => by
    obtain ⟨cs, h2, h3⟩ := hx i hi
    rw [add_plain] at h2
    exact wop_cells h2 h3)
  have hlen : ((List.range len).map R).length = len := by simp
  refine ⟨some ⟨b, o, none⟩, m, (List.range len).map R, by simpa using h0, rfl, by rw [hlen]; exact hl, hm, ?_, .inr ⟨b, o, rfl, ?_, fun i hi => ?_⟩⟩
  · intro r hr
    obtain ⟨i, hi, rfl⟩ := List.mem_map.1 hr
    exact (hR i (by have := List.mem_range.1 hi; omega)).1
  · exact World.block_lt_of_cell? _ _ (hR 0 (by omega)).2.c0
  · have hi' : i < len := by simpa using hi
    rw [List.getElem_map, List.getElem_range]
    exact (hR i (by omega)).2
end
/-- How many bytes operations bear. -/
def weiw (l : List Wo) : Nat := (l.map fun p => min p.b.length 20001 + min p.name.length 20001).sum
def fewW (l : List Wo) : Bool := decide (l.length ≤ 200) && decide (weiw (l.take 200) ≤ 20000)
theorem weiw_take {l : List Wo} {k : Nat} (h : k < l.length) : weiw (l.take (k + 1)) = weiw (l.take k) + (min l[k].b.length 20001 + min l[k].name.length 20001) := by
  unfold weiw
  rw [List.take_succ_eq_append_getElem h, List.map_append, List.sum_append]
  simp
theorem weiw_le (l : List Wo) : weiw l ≤ l.length * 40002 := by
  induction l with
  | nil => simp [weiw]
  | cons p r ih =>
    have e : weiw (p :: r) = (min p.b.length 20001 + min p.name.length 20001) + weiw r := rfl
    rw [e, List.length_cons, Nat.add_mul]
    omega
theorem feww_yes {l : List Wo} (h : fewW l = true) : l.length ≤ 200 ∧ weiw l ≤ 20000 := by
  unfold fewW at h
  simp only [Bool.and_eq_true, decide_eq_true_eq] at h
  obtain ⟨h1, h2⟩ := h
  rw [List.take_of_length_le h1] at h2
  exact ⟨h1, h2⟩
theorem weiw_mem {l : List Wo} (h : weiw l ≤ 20000) : ∀ p ∈ l, p.name.length ≤ 20000 ∧ p.b.length ≤ 20000 := by
  induction l with
  | nil => intro p hp; cases hp
  | cons u r ih =>
    have e : weiw (u :: r) = (min u.b.length 20001 + min u.name.length 20001) + weiw r := rfl
    intro p hp
    rcases List.mem_cons.1 hp with rfl | hp
    · omega
    · exact ih (by omega) p hp
set_option maxRecDepth 100000 in
set_option maxHeartbeats 1000000 in
theorem feww_any {C : Nat → Prop} {w : World} {ao : Option Addr} {n cap : Nat} {l : List Wo} (h : SW C w ao n cap l) :
    Calls Tryz.prog 12 #[.slice ao n cap] w fun e w' => e = .returned (.bool (fewW l)) ∧ Below w.heap.size w w' := by
  have hlt := h.lt
  have hl := h.len
  have H := Lib.hid h
  have HL := Lib.hid hl
  clear h hl
  go_enter Tryz.func12, Tryz.ntmps12
  go_wp2
  go_loopw [3, 4] (fun s i wr => ∃ k : Nat, k ≤ n ∧ k ≤ 200 ∧ i = .int .i64 k ∧ s = .int .i64 (weiw (l.take k) : Nat) ∧ Hid (Below w.heap.size w wr)) (fun _ i _ => 200 - (intOf i).toNat)
  case atStart => exact ⟨0, Nat.zero_le _, Nat.zero_le _, rfl, rfl, Below.refl _ _⟩
  case round =>
    obtain ⟨k, hk, hk4, rfl, rfl, HB⟩ := hrel
    have hw := weiw_le (l.take k)
    rw [List.length_take] at hw
    by_cases hlt2 : k < n ∧ k < 200
    · obtain ⟨hkn, hk100⟩ := hlt2
      have hkl : k < l.length := by rw [← HL.out]; exact hkn
      obtain ⟨b, off, rfl, _, ho, hwf⟩ := (H.out.below HB.out).at_ hkl
      have HW := Lib.hid (weiw_take hkl)
      have c2 := ho.c2
      have c4 := ho.c4
      obtain ⟨a3, k3, c3, s3⟩ := ho.c3
      clear s3 ho
      have n1 := hwf.name
      unfold maxLen at n1
      generalize l[k].name = nm at *
      generalize l[k].b.length = bl at *
      have m1 : min (nm.length : Int) 20001 = ((min nm.length 20001 : Nat) : Int) := by omega
      have m3 : min (bl : Int) 20001 = ((min bl 20001 : Nat) : Int) := by omega
      go_wp2
      go_quiet (fail)
      have HB2 := Lib.hid (HB.out.trans ((below_drewN wr nq).mono HB.out.size))
      generalize wr.drewN nq = w2 at *
      go_wp2
      go_roundw
      case rel => exact ⟨k + 1, by omega, by omega, by go_num, by rw [HW.out]; congr 1; omega, HB2⟩
      case measure => simp [intOf]; omega
    · by_cases hkn : k < n
      · have hf := Lib.hid (show fewW l = false by unfold fewW; rw [← HL.out, decide_eq_false (by omega)]; rfl)
        have h100 : ¬ (k : Int) < 200 := by omega
        have hn100 : ¬ (n : Int) ≤ 200 := by omega
        clear hw hlt2
        generalize weiw (l.take k) = s at *
        go_wp2
        go_ret
        rw [hf.out]
        exact ⟨rfl, HB.out⟩
      · obtain rfl : k = n := by omega
        have hf := Lib.hid (show fewW l = decide (((weiw (l.take k) : Nat) : Int) ≤ 20000) by
          unfold fewW
          rw [← HL.out, decide_eq_true hk4, Bool.true_and, List.take_of_length_le (by rw [← HL.out]; exact hk4), List.take_of_length_le (by rw [← HL.out]; exact Nat.le_refl _)]
          by_cases hc : weiw l ≤ 20000
          · rw [decide_eq_true hc, decide_eq_true (by omega)]
          · rw [decide_eq_false hc, decide_eq_false (by omega)])
        clear hw hlt2
        generalize weiw (l.take k) = s at *
        go_wp2
        go_ret
        rw [hf.out]
        exact ⟨rfl, HB.out⟩
end Go.Proofs.YtkilkhnoldfhcaaGreatDoor
