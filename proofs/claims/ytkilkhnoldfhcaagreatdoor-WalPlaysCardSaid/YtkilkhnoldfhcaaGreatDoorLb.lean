/- wal.Name. Conditions: the library's table reads as it was laid. A log in plain terms; as it lies in memory: its own cells, the row of its segments, each one's row of records. Conditions: none of its own. -/
import Derived.Test.YtkilkhnoldfhcaaGreatDoorLa
import Derived.Test.YtkilkhnoldfhcaaGreatDoorJ
namespace Go.Proofs.YtkilkhnoldfhcaaGreatDoor
open Go.RowKit
theorem bcat (a b : Nm) : (⟨a.toArray⟩ : ByteArray) ++ ⟨b.toArray⟩ = ⟨(a ++ b).toArray⟩ := by
  apply ByteArray.ext
  simp
theorem bcat4 (a b c d : Nm) : (⟨a.toArray⟩ : ByteArray) ++ ⟨b.toArray⟩ ++ ⟨c.toArray⟩ ++ ⟨d.toArray⟩ = ⟨(a ++ b ++ c ++ d).toArray⟩ := by rw [bcat, bcat, bcat]
theorem grow_below (w : World) (k : Nat) (os : Array Obj) : Below w.heap.size w (Go.Sort.grow (w.drewN k) os) := Lib.below_grow _ w (Nat.le_refl _) k os
theorem itoa_any (w : World) (hT : Tabs w) (n : Nat) (hn : n ≤ 99999999) : Calls Tryz.prog 62 #[.int .i64 (n : Int)] w fun e w' => e = .returned (nmv (Lib.decDigits n)) ∧ Below w.heap.size w w' := by
  refine (Tryz.strconv_Itoa (n : Int) (by omega) (by omega) w hT.pow.here).mono ?_
  rintro e w' ⟨rfl, k, os, rfl⟩
  rw [Lib.itoa_nonneg]
  exact ⟨rfl, grow_below w k os⟩
theorem zeros_any (w : World) (c : Nat) (hc : c ≤ 8) : Calls Tryz.prog 63 #[nmv [48], .int .i64 (c : Int)] w fun e w' => e = .returned (nmv (Lib.repeatL [48] c)) ∧ Below w.heap.size w w' :=
  Tryz.strings_Repeat ⟨#[48]⟩ c w (by omega) (by show 1 * c ≤ _; omega)
set_option maxRecDepth 100000 in
set_option maxHeartbeats 2000000 in
theorem name_any (w : World) (hT : Tabs w) (dir : Nm) (hd : dir.length ≤ maxLen) (n : Int) (hn1 : -9223372036854775808 ≤ n) (hn2 : n ≤ 9223372036854775807) :
    Calls Tryz.prog 21 #[nmv dir, .int .i64 n] w fun e w' => e = .returned (.tuple #[nmv (nameV dir n).1, .int .i64 ((nameV dir n).2 : Nat)]) ∧ Below w.heap.size w w' := by
  unfold maxLen at hd
  by_cases h0 : dir = []
  · have e : nameV dir n = ([], 10) := by unfold nameV; rw [if_pos (.inl h0)]
    rw [e]
    subst h0
    clear e
    go_enter Tryz.func21, Tryz.ntmps21
    go_wp2
    go_ret2
    exact ⟨rfl, Below.refl _ _⟩
  have hb : (dir == []) = false := by simpa using h0
  by_cases h11 : 11 < dir.length
  · have e : nameV dir n = ([], 10) := by unfold nameV; rw [if_pos (.inr h11)]
    rw [e]
    have h12 : (11 : Int) < (dir.length : Int) := by omega
    clear e h0
    go_enter Tryz.func21, Tryz.ntmps21
    go_wp2
    go_ret2
    exact ⟨rfl, Below.refl _ _⟩
  have h12 : ¬ (11 : Int) < (dir.length : Int) := by omega
  by_cases hr : n < 1 ∨ 99999999 < n
  · have e : nameV dir n = ([], 1) := by unfold nameV; rw [if_neg (by rintro (h | h); exact h0 h; exact h11 h), if_pos hr]
    rw [e]
    by_cases hn0 : n < 1
    · clear e h0 hr
      go_enter Tryz.func21, Tryz.ntmps21
      go_wp2
      go_ret2
      exact ⟨rfl, Below.refl _ _⟩
    · have hn9 : 99999999 < n := by omega
      have hd0 : decide (n < 1) = false := decide_eq_false hn0
      clear e h0 hr
      go_enter Tryz.func21, Tryz.ntmps21
      go_wp2
      go_ret2
      exact ⟨rfl, Below.refl _ _⟩
  · have e : nameV dir n = (segN dir n.toNat, 0) := by unfold nameV; rw [if_neg (by rintro (h | h); exact h0 h; exact h11 h), if_neg hr]
    rw [e]
    obtain ⟨m, rfl⟩ : ∃ m : Nat, n = (m : Int) := ⟨n.toNat, by omega⟩
    rw [Int.toNat_natCast]
    have hm : m ≤ 99999999 := by omega
    have hn0 : ¬ (m : Int) < 1 := by omega
    have hn9 : ¬ (99999999 : Int) < (m : Int) := by omega
    have hd0 : decide ((m : Int) < 1) = false := decide_eq_false hn0
    have hd1 : decide ((99999999 : Int) < (m : Int)) = false := decide_eq_false hn9
    have hl := digits_le hm
    have hw : IntKind.i64.wrap (8 - ((Lib.decDigits m).length : Int)) = ((8 - (Lib.decDigits m).length : Nat) : Int) := by rw [wrap_in (by omega)]; omega
    have hrl : (Lib.repeatL [48] (8 - (Lib.decDigits m).length)).length = 8 - (Lib.decDigits m).length := by rw [Lib.repeatL_length]; simp
    have hcat : ¬ 9223372036854775807 < dir.length + 1 + (Lib.repeatL [48] (8 - (Lib.decDigits m).length)).length + (Lib.decDigits m).length := by rw [hrl]; omega
    have hcat2 : ¬ 9223372036854775807 < dir.length + 1 + (Lib.repeatL [48] (8 - (Lib.decDigits m).length)).length := by rw [hrl]; omega
    have HS : Hid (segN dir m = dir ++ [46] ++ Lib.repeatL [48] (8 - (Lib.decDigits m).length) ++ Lib.decDigits m) := by
      show _ = _
      unfold segN num8
      simp
    have HT := Lib.hid hT
    clear e h0 hr hT hrl
    go_enter Tryz.func21, Tryz.ntmps21
    go_wp2_with (first
      | (go_at_call 62; (refine (itoa_any w HT.out m hm).mono ?_); rintro e w1 ⟨rfl, hb⟩; have HB1 := Lib.hid hb; clear hb)
      | (go_at_call 63; (refine (zeros_any w1 (8 - (Lib.decDigits m).length) (by omega)).mono ?_); rintro e w2 ⟨rfl, hb⟩; have HB2 := Lib.hid (HB1.out.trans (hb.mono HB1.out.size)); clear hb))
    go_ret2
    rw [HS.out]
    exact ⟨congrArg (fun b => Ending.returned (.tuple #[.string b, .int .i64 0])) (bcat4 dir [46] (Lib.repeatL [48] (8 - (Lib.decDigits m).length)) (Lib.decDigits m)), HB2.out⟩
end Go.Proofs.YtkilkhnoldfhcaaGreatDoor
namespace Go.Proofs.YtkilkhnoldfhcaaGreatDoor
open Go.RowKit
/-- A segment: the number of its first record, its records. -/
structure Sg where
  first : Nat
  recs : List (List UInt8)
def Sg.next (g : Sg) : Nat := g.first + g.recs.length
/-- How many bytes its frames have. -/
def Sg.size (g : Sg) : Nat := (g.recs.map fun p => p.length + 12).sum
/-- A log. -/
structure Lg where
  dir : Nm
  full : Nat
  segs : List Sg
  safe : Nat
theorem info36 : (Tryz.prog.info? 36).map (fun i => (i.zero, i.size, i.bytes)) = some (some (.slice none 0 0), 1, 24) := by kernel_rfl
theorem under57 : Tryz.prog.underlying 57 = some (.slice 36) := by kernel_rfl
theorem info110 : (Tryz.prog.info? 110).map (fun i => (i.zero, i.size, i.bytes)) = some (some (.agg #[.string ⟨#[]⟩, .int .i64 0, .slice none 0 0, .int .i64 0]), 4, 56) := by kernel_rfl
theorem under102 : Tryz.prog.underlying 102 = some (.slice 110) := by kernel_rfl
/-- Records of the call's own. -/
structure RO (C : Nat → Prop) (w : World) (v : Value) (us : List Value) (L : List (List UInt8)) : Prop where
  own : w.ownsRow 0 36 1 v L.length us
  len : us.length = L.length
  at_ : ∀ i (h1 : i < us.length) (h2 : i < L.length), w.ownsRow 0 5 1 us[i] L[i].length (bys L[i])
  row : ∀ k, v.ownBlock = some k → C k
  rows : ∀ i (h : i < us.length) k, us[i].ownBlock = some k → C k
section
variable {C D S : Nat → Prop} {w w' : World} {v : Value} {us : List Value} {L : List (List UInt8)}
theorem RO.tn (h : RO C w v us L) (ht : Tn S w w') (hd : ∀ k, C k → ¬ S k) : RO C w' v us L :=
  ⟨own_tn h.own ht (fun k hk => hd k (h.row k hk)), h.len, fun i h1 h2 => own_tn (h.at_ i h1 h2) ht (fun k hk => hd k (h.rows i h1 k hk)), h.row, h.rows⟩
theorem RO.below (h : RO C w v us L) (hb : Below w.heap.size w w') : RO C w' v us L := h.tn (Tn.of_below (S := fun _ => False) hb) (fun _ _ e => e)
theorem RO.mono (h : RO C w v us L) (hd : ∀ k, k < w.heap.size → C k → D k) : RO D w v us L :=
  ⟨h.own, h.len, h.at_, fun k hk => hd k (h.own.lt k hk).2 (h.row k hk), fun i h1 k hk => hd k ((h.at_ i h1 (by rw [← h.len]; exact h1)).lt k hk).2 (h.rows i h1 k hk)⟩
theorem RO.nil (C : Nat → Prop) (w : World) : RO C w (.slice none 0 0) [] [] := ⟨World.ownsRow_nil _ _ _ _, rfl, fun _ h => (nomatch h), fun _ h => (nomatch h), fun _ h => (nomatch h)⟩
/-- One record more. -/
theorem RO.snoc {v3 u : Value} {p : List UInt8} (h : RO C w v us L) (hg : w.grownBy w' v.ownBlock) (ho : w'.ownsRow 0 36 1 v3 (L.length + 1) (us ++ [u])) (hl : v3.ownBlock = v.ownBlock ∨ v3.ownBlock = some w.heap.size)
    (hu : w.ownsRow 0 5 1 u p.length (bys p)) (hCu : ∀ k, u.ownBlock = some k → C k) (hC : C w.heap.size) : RO C w' v3 (us ++ [u]) (L ++ [p]) := by
  have hk : ∀ {n : Nat} {t : Value} {xs : List Value}, w.ownsRow 0 5 1 t n xs → w'.ownsRow 0 5 1 t n xs := fun {n t xs} ht => ht.kept hg (by
    cases e : t.ownBlock with
    | none => exact .inl rfl
    | some j => exact .inr (fun e2 => own_apart ht h.own (by decide) j e e2.symm))
  have hll := h.len
  refine ⟨by rw [List.length_append]; exact ho, by rw [List.length_append, List.length_append, hll]; rfl, fun i h1 h2 => ?_, fun k hk => ?_, fun i h1 k hk => ?_⟩
  · by_cases hi : i < us.length
    · rw [List.getElem_append_left hi]
      have h3 : (L ++ [p])[i] = L[i]'(by rw [← hll]; exact hi) := List.getElem_append_left _
      rw [h3]
      exact hk (h.at_ i hi _)
    · have he : i = us.length := by simp at h1; omega
      subst he
      have h3 : (us ++ [u])[us.length] = u := by simp
      have h4 : (L ++ [p])[us.length] = p := by simp [hll]
      rw [h3, h4]
      exact hk hu
  · rcases hl with e | e
    · exact h.row k (e ▸ hk)
    · rw [e] at hk; cases hk; exact hC
  · by_cases hi : i < us.length
    · rw [List.getElem_append_left hi] at hk
      exact h.rows i hi k hk
    · have he : i = us.length := by simp at h1; omega
      subst he
      have h3 : (us ++ [u])[us.length] = u := by simp
      rw [h3] at hk
      exact hCu k hk
end
def cellG (dir : Nm) (g : Sg) (u : Value) : List Value := [nmv (segN dir g.first), .int .i64 (g.first : Int), u, .int .i64 (g.size : Int)]
def cellsG (dir : Nm) : List Sg → List Value → List Value
  | g :: gs, u :: us => cellG dir g u ++ cellsG dir gs us
  | _, _ => []
theorem cellsG_length (dir : Nm) : ∀ {gs : List Sg} {us : List Value}, us.length = gs.length → (cellsG dir gs us).length = gs.length * 4
  | [], [], _ => rfl
  | g :: gs, u :: us, h => by
    have ih := cellsG_length dir (gs := gs) (us := us) (by simpa using h)
    show (cellG dir g u ++ cellsG dir gs us).length = _
    rw [List.length_append, ih, List.length_cons]
    show 4 + _ = _
    omega
theorem cellsG_get (dir : Nm) : ∀ {gs : List Sg} {us : List Value} {i : Nat} (h1 : i < gs.length) (h2 : i < us.length), (cellsG dir gs us)[i * 4]? = some (nmv (segN dir gs[i].first)) ∧ (cellsG dir gs us)[i * 4 + 1]? = some (.int .i64 (gs[i].first : Int)) ∧ (cellsG dir gs us)[i * 4 + 2]? = some us[i] ∧ (cellsG dir gs us)[i * 4 + 3]? = some (.int .i64 (gs[i].size : Int))
  | g :: gs, u :: us, 0, _, _ => ⟨rfl, rfl, rfl, rfl⟩
  | g :: gs, u :: us, i + 1, h1, h2 => by
    have ih := cellsG_get dir (gs := gs) (us := us) (i := i) (by simpa using h1) (by simpa using h2)
    have e : ∀ j, (cellsG dir (g :: gs) (u :: us))[j + 4]? = (cellsG dir gs us)[j]? := fun j => by
      show (cellG dir g u ++ cellsG dir gs us)[j + 4]? = _
      rw [List.getElem?_append_right (by show 4 ≤ _; omega)]
      rfl
    rw [show (i + 1) * 4 = i * 4 + 4 by omega, show i * 4 + 4 + 1 = i * 4 + 1 + 4 by omega, show i * 4 + 4 + 2 = i * 4 + 2 + 4 by omega, show i * 4 + 4 + 3 = i * 4 + 3 + 4 by omega, e, e, e, e]
    exact ih
theorem cellsG_append (dir : Nm) : ∀ {gs : List Sg} {us : List Value} (g : Sg) (u : Value), us.length = gs.length → cellsG dir (gs ++ [g]) (us ++ [u]) = cellsG dir gs us ++ cellG dir g u
  | [], [], g, u, _ => by show cellG dir g u ++ [] = [] ++ cellG dir g u; simp
  | h :: gs, x :: us, g, u, hl => by
    show cellG dir h x ++ cellsG dir (gs ++ [g]) (us ++ [u]) = (cellG dir h x ++ cellsG dir gs us) ++ cellG dir g u
    rw [cellsG_append dir g u (by simpa using hl), List.append_assoc]
/-- The segments' row. -/
structure GO (C : Nat → Prop) (w : World) (v : Value) (dir : Nm) (gs : List Sg) (us : List Value) : Prop where
  own : w.ownsRow 0 110 4 v gs.length (cellsG dir gs us)
  len : us.length = gs.length
  recs : ∀ i (h1 : i < us.length) (h2 : i < gs.length), ∃ xs, RO C w us[i] xs gs[i].recs
  row : ∀ k, v.ownBlock = some k → C k
  dis : ∀ i j (h1 : i < us.length) (h2 : j < us.length), i ≠ j → ∀ k, us[i].ownBlock = some k → us[j].ownBlock ≠ some k
/-- A log in memory: its struct in block a, over the disk at block dp; all in blocks of C. -/
structure LAt (C : Nat → Prop) (w : World) (a dp : Nat) (lg : Lg) (v : Value) (us : List Value) : Prop where
  box : w.heap[a]? = some (.cells #[ptr dp, nmv lg.dir, .int .i64 (lg.full : Int), v, .int .i64 (lg.safe : Int)] 104 (0, 0))
  go : GO C w v lg.dir lg.segs us
  ca : C a
  lt : ∀ k, C k → k < w.heap.size
section
variable {C D S : Nat → Prop} {w w' : World} {v : Value} {us : List Value} {dir : Nm} {gs : List Sg} {a dp : Nat} {lg : Lg}
theorem GO.tn (h : GO C w v dir gs us) (ht : Tn S w w') (hd : ∀ k, C k → ¬ S k) : GO C w' v dir gs us :=
  ⟨own_tn h.own ht (fun k hk => hd k (h.row k hk)), h.len, fun i h1 h2 => let ⟨xs, hx⟩ := h.recs i h1 h2; ⟨xs, hx.tn ht hd⟩, h.row, h.dis⟩
theorem GO.below (h : GO C w v dir gs us) (hb : Below w.heap.size w w') : GO C w' v dir gs us := h.tn (Tn.of_below (S := fun _ => False) hb) (fun _ _ e => e)
theorem GO.nil (C : Nat → Prop) (w : World) (dir : Nm) : GO C w (.slice none 0 0) dir [] [] := ⟨World.ownsRow_nil _ _ _ _, rfl, fun _ h => (nomatch h), fun _ h => (nomatch h), fun _ _ h => (nomatch h)⟩
theorem LAt.tn (h : LAt C w a dp lg v us) (ht : Tn S w w') (hd : ∀ k, C k → ¬ S k) : LAt C w' a dp lg v us :=
  ⟨ht.at_ h.box (hd a h.ca), h.go.tn ht hd, h.ca, fun k hk => Nat.lt_of_lt_of_le (h.lt k hk) ht.size⟩
theorem LAt.below (h : LAt C w a dp lg v us) (hb : Below w.heap.size w w') : LAt C w' a dp lg v us := h.tn (Tn.of_below (S := fun _ => False) hb) (fun _ _ e => e)
theorem LAt.c0 (h : LAt C w a dp lg v us) : w.cell? ⟨a, 0, none⟩ = some (ptr dp) := by simp [World.cell?, h.box]
theorem LAt.c1 (h : LAt C w a dp lg v us) : w.cell? ⟨a, 1, none⟩ = some (nmv lg.dir) := by simp [World.cell?, h.box]
theorem LAt.c2 (h : LAt C w a dp lg v us) : w.cell? ⟨a, 2, none⟩ = some (.int .i64 (lg.full : Int)) := by simp [World.cell?, h.box]
theorem LAt.c3 (h : LAt C w a dp lg v us) : w.cell? ⟨a, 3, none⟩ = some v := by simp [World.cell?, h.box]
theorem LAt.c4 (h : LAt C w a dp lg v us) : w.cell? ⟨a, 4, none⟩ = some (.int .i64 (lg.safe : Int)) := by simp [World.cell?, h.box]
theorem LAt.fz (h : LAt C w a dp lg v us) (o : Nat) : w.frozen? ⟨a, o, none⟩ = false := frozen_zero h.box
/-- The cells of one segment. -/
theorem LAt.seg (h : LAt C w a dp lg v us) {k : Nat} (hk : k < lg.segs.length) : ∃ g cap bo bc, v = .slice (some ⟨g, 0, none⟩) lg.segs.length cap ∧ C g ∧ lg.segs.length ≤ cap ∧ (∀ o, w.frozen? ⟨g, o, none⟩ = false) ∧ w.cell? ⟨g, k * 4, none⟩ = some (nmv (segN lg.dir lg.segs[k].first)) ∧ w.cell? ⟨g, k * 4 + 1, none⟩ = some (.int .i64 (lg.segs[k].first : Int)) ∧
    w.cell? ⟨g, k * 4 + 2, none⟩ = some (.slice bo lg.segs[k].recs.length bc) ∧ w.cell? ⟨g, k * 4 + 3, none⟩ = some (.int .i64 (lg.segs[k].size : Int)) ∧ ∃ xs, RO C w (.slice bo lg.segs[k].recs.length bc) xs lg.segs[k].recs := by
  obtain ⟨g, cap, rfl⟩ := own_shape h.go.own (by omega)
  have hku : k < us.length := by rw [h.go.len]; exact hk
  obtain ⟨g0, g1, g2, g3⟩ := cellsG_get lg.dir hk hku
  obtain ⟨xs, hr⟩ := h.go.recs k hku hk
  obtain ⟨bo, bc, hb⟩ := own_slice hr.own
  obtain ⟨cur, hcur⟩ := own_at h.go.own (k := g) rfl
  have hcap := own_cap h.go.own
  refine ⟨g, cap, bo, bc, rfl, h.go.row g rfl, hcap, fun _ => frozen_zero hcur, ?_, ?_, ?_, ?_, xs, by rw [← hb]; exact hr⟩
  · have h9 := h.go.own.cellAt (k * 4) (by omega)
    rw [h9, g0]
  · have h9 := h.go.own.cellAt (k * 4 + 1) (by omega)
    rw [h9, g1]
  · have h9 := h.go.own.cellAt (k * 4 + 2) (by omega)
    rw [h9, g2, hb]
  · have h9 := h.go.own.cellAt (k * 4 + 3) (by omega)
    rw [h9, g3]
end
end Go.Proofs.YtkilkhnoldfhcaaGreatDoor
