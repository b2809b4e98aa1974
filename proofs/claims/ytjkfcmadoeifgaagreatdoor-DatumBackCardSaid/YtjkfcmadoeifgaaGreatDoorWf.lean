/- Package wire in memory (L1, T): ported. Conditions: those of each law. -/
import Derived.Test.YtjkfcmadoeifgaaGreatDoorWe
namespace Go.Proofs.YtjkfcmadoeifgaaGreatDoor
section
open Go.RowKit
/-- A Writer whose blocks lie from B on. -/
def WrB (B : Nat) (w : World) (p : Nat) (l : List UInt8) : Prop := ∃ v, Wr w p v l ∧ B ≤ p ∧ B ≤ w.heap.size ∧ ∀ k, v.ownBlock = some k → B ≤ k
section
variable {B C : Nat} {w w' : World} {p : Nat} {l m : List UInt8}
theorem WrB.of {v v' : Value} (h1 : B ≤ p) (hs : B ≤ w.heap.size) (h2 : ∀ k, v.ownBlock = some k → B ≤ k) (h : Wr w' p v' m) (hf : Fr (foot p v) w w') (hm : Moved w v v') : WrB B w' p m ∧ Below B w w' := by
  refine ⟨⟨v', h, h1, Nat.le_trans hs hf.size, fun k hk => ?_⟩, hf.below (fun i hi => ?_) hs⟩
  · rcases hm with hm | hm
    · exact h2 k (by rw [← hm]; exact hk)
    · have := hm k hk; omega
  · rcases hi with hi | hi
    · omega
    · exact h2 i hi
theorem WrB.below (h : WrB B w p l) (hb : Below C w w') (hC : w.heap.size ≤ C) : WrB B w' p l := by
  obtain ⟨v, h1, h2, h3, h4⟩ := h
  refine ⟨v, h1.fr (S := fun k => C ≤ k) (Fr.of_below hb (fun _ _ h => h)) ?_ ?_, h2, Nat.le_trans h3 hb.size, h4⟩
  · have := h1.lt; omega
  · intro k hk
    have := (h1.own.lt k hk).2; omega
/-- What lies below C turns, the Writer stays: C below its blocks. -/
theorem WrB.keep {S : Nat → Prop} (h : WrB B w p l) (hf : Fr S w w') (hS : ∀ k, S k → k < B) : WrB B w' p l := by
  obtain ⟨v, h1, h2, h3, h4⟩ := h
  refine ⟨v, h1.fr hf (fun h => by have := hS p h; omega) (fun k hk h => ?_), h2, Nat.le_trans h3 hf.size, h4⟩
  have := hS k h
  have := h4 k hk
  omega
theorem WrB.int (h : WrB B w p l) (n : Int) (h1 : -9223372036854775808 ≤ n) (h2 : n < 9223372036854775808) (hroom : l.length + 10 ≤ 140737488355328) :
    Calls Tryz.prog 43 #[.pointer (some ⟨p, 0, none⟩), .int .i64 n] w fun e w' => e = .returned (.tuple #[]) ∧ WrB B w' p (l ++ vb (foldN n)) ∧ Below B w w' := by
  obtain ⟨v, hw, hp, hs, hv⟩ := h
  exact (wint_any hw n h1 h2 hroom).mono fun e w' ⟨he, v', hw', hf, hm⟩ => ⟨he, WrB.of hp hs hv hw' hf hm⟩
theorem WrB.float (h : WrB B w p l) (x : Nat) (hx : x < 18446744073709551616) (hroom : l.length + 8 ≤ 140737488355328) :
    Calls Tryz.prog 44 #[.pointer (some ⟨p, 0, none⟩), .float .f64 x] w fun e w' => e = .returned (.tuple #[]) ∧ WrB B w' p (l ++ w8 8 (canon x)) ∧ Below B w w' := by
  obtain ⟨v, hw, hp, hs, hv⟩ := h
  exact (wfloat_any hw x hx hroom).mono fun e w' ⟨he, v', hw', hf, hm⟩ => ⟨he, WrB.of hp hs hv hw' hf hm⟩
theorem WrB.text (h : WrB B w p l) (s : List UInt8) (hroom : l.length + 10 + s.length ≤ 140737488355328) :
    Calls Tryz.prog 45 #[.pointer (some ⟨p, 0, none⟩), .string ⟨s.toArray⟩] w fun e w' => e = .returned (.tuple #[]) ∧ WrB B w' p (l ++ (vb (foldN (s.length : Int)) ++ s)) ∧ Below B w w' := by
  obtain ⟨v, hw, hp, hs, hv⟩ := h
  exact (wtext_any hw s hroom).mono fun e w' ⟨he, v', hw', hf, hm⟩ => ⟨he, WrB.of hp hs hv hw' hf hm⟩
theorem WrB.bytes (h : WrB B w p l) (hroom : l.length ≤ 140737488355328) :
    Calls Tryz.prog 23 #[.pointer (some ⟨p, 0, none⟩)] w fun e w' => ∃ v', e = .returned v' ∧ w'.ownsRow w.heap.size 5 1 v' l.length (bys l) ∧ Below w.heap.size w w' := by
  obtain ⟨v, hw, hp, hs, hv⟩ := h
  exact (wbytes_any hw hroom).mono fun e w' ⟨v', he, ho, hf⟩ => ⟨v', he, ho, hf.below (fun _ h => h.elim) (Nat.le_refl _)⟩
theorem newWriterB (w : World) (hB : B ≤ w.heap.size) : Calls Tryz.prog 15 #[] w fun e w' => ∃ p, e = .returned (.pointer (some ⟨p, 0, none⟩)) ∧ WrB B w' p [] ∧ Below w.heap.size w w' :=
  (newWriter_any w).mono fun e w' ⟨p, he, hp, hw, hf⟩ => ⟨p, he, ⟨_, hw, by omega, Nat.le_trans hB hf.size, fun k hk => by simp [Value.ownBlock] at hk⟩, hf.below (fun _ h => h.elim) (Nat.le_refl _)⟩
end
/-- A Writer whose row lies from C on, its own block wherever. -/
def WrX (C : Nat) (w : World) (p : Nat) (l : List UInt8) : Prop := ∃ v, Wr w p v l ∧ C ≤ w.heap.size ∧ ∀ k, v.ownBlock = some k → C ≤ k
section
variable {B C : Nat} {w w' : World} {p : Nat} {l m : List UInt8}
theorem WrX.lt (h : WrX C w p l) : p < w.heap.size := by obtain ⟨v, h1, _⟩ := h; exact h1.lt
theorem WrX.of {v v' : Value} (hs : C ≤ w.heap.size) (h2 : ∀ k, v.ownBlock = some k → C ≤ k) (h : Wr w' p v' m) (hf : Fr (foot p v) w w') (hm : Moved w v v') : WrX C w' p m ∧ Fr (fun k => k = p ∨ C ≤ k) w w' := by
  refine ⟨⟨v', h, Nat.le_trans hs hf.size, fun k hk => ?_⟩, hf.mono (fun i _ hi => hi.imp id (h2 i))⟩
  rcases hm with hm | hm
  · exact h2 k (by rw [← hm]; exact hk)
  · have := hm k hk; omega
/-- Another call, which leaves the Writer's block and what lies from C on. -/
theorem WrX.keep {S : Nat → Prop} (h : WrX C w p l) (hf : Fr S w w') (hp : ¬ S p) (hS : ∀ k, S k → k < C) : WrX C w' p l := by
  obtain ⟨v, h1, h3, h4⟩ := h
  refine ⟨v, h1.fr hf hp (fun k hk h => ?_), Nat.le_trans h3 hf.size, h4⟩
  have := hS k h
  have := h4 k hk
  omega
theorem WrX.int (h : WrX C w p l) (n : Int) (h1 : -9223372036854775808 ≤ n) (h2 : n < 9223372036854775808) (hroom : l.length + 10 ≤ 140737488355328) :
    Calls Tryz.prog 43 #[.pointer (some ⟨p, 0, none⟩), .int .i64 n] w fun e w' => e = .returned (.tuple #[]) ∧ WrX C w' p (l ++ vb (foldN n)) ∧ Fr (fun k => k = p ∨ C ≤ k) w w' := by
  obtain ⟨v, hw, hs, hv⟩ := h
  exact (wint_any hw n h1 h2 hroom).mono fun e w' ⟨he, v', hw', hf, hm⟩ => ⟨he, WrX.of hs hv hw' hf hm⟩
theorem WrX.float (h : WrX C w p l) (x : Nat) (hx : x < 18446744073709551616) (hroom : l.length + 8 ≤ 140737488355328) :
    Calls Tryz.prog 44 #[.pointer (some ⟨p, 0, none⟩), .float .f64 x] w fun e w' => e = .returned (.tuple #[]) ∧ WrX C w' p (l ++ w8 8 (canon x)) ∧ Fr (fun k => k = p ∨ C ≤ k) w w' := by
  obtain ⟨v, hw, hs, hv⟩ := h
  exact (wfloat_any hw x hx hroom).mono fun e w' ⟨he, v', hw', hf, hm⟩ => ⟨he, WrX.of hs hv hw' hf hm⟩
theorem WrX.text (h : WrX C w p l) (s : List UInt8) (hroom : l.length + 10 + s.length ≤ 140737488355328) :
    Calls Tryz.prog 45 #[.pointer (some ⟨p, 0, none⟩), .string ⟨s.toArray⟩] w fun e w' => e = .returned (.tuple #[]) ∧ WrX C w' p (l ++ (vb (foldN (s.length : Int)) ++ s)) ∧ Fr (fun k => k = p ∨ C ≤ k) w w' := by
  obtain ⟨v, hw, hs, hv⟩ := h
  exact (wtext_any hw s hroom).mono fun e w' ⟨he, v', hw', hf, hm⟩ => ⟨he, WrX.of hs hv hw' hf hm⟩
theorem WrX.bytes (h : WrX C w p l) (hroom : l.length ≤ 140737488355328) :
    Calls Tryz.prog 23 #[.pointer (some ⟨p, 0, none⟩)] w fun e w' => ∃ v', e = .returned v' ∧ w'.ownsRow w.heap.size 5 1 v' l.length (bys l) ∧ Fr (fun _ => False) w w' := by
  obtain ⟨v, hw, hs, hv⟩ := h
  exact wbytes_any hw hroom
theorem WrX.new (h : Wr w p (.slice none 0 0) []) (hf : Fr (fun _ => False) w w') (hC : C ≤ w'.heap.size) : WrX C w' p [] :=
  ⟨_, h.fr hf id (fun _ _ => id), hC, fun k hk => by simp [Value.ownBlock] at hk⟩
end
theorem Rd.mono {t : TypeId} {K L : Nat → Prop} {w : World} {r : Nat} {v : Value} {s : Rst} (h : Rd t K w r v s) (hK : ∀ k, K k → L k) (hL : ∀ k, L k → k ≠ r) : Rd t L w r v s :=
  ⟨h.cell, h.has.mono hK, hL, h.le, h.room, h.pla⟩
/-- A reader stays when a Writer goes on. -/
theorem Rd.frX {t : TypeId} {K : Nat → Prop} {w w' : World} {r : Nat} {v : Value} {s : Rst} {p C : Nat} (h : Rd t K w r v s) (hf : Fr (fun k => k = p ∨ C ≤ k) w w') (hp : r ≠ p) (hr : r < C) (hK : ∀ k, K k → k ≠ p ∧ k < C) : Rd t K w' r v s :=
  h.fr hf (fun h => by rcases h with h | h <;> omega) (fun k hk h => by have := hK k hk; rcases h with h | h <;> omega)
theorem Fr.belowX {B C p : Nat} {w w' : World} (hf : Fr (fun k => k = p ∨ C ≤ k) w w') (hp : B ≤ p) (hC : B ≤ C) (hs : B ≤ w.heap.size) : Below B w w' :=
  hf.below (fun i h => by rcases h with h | h <;> omega) hs
/-- The example's reader. -/
def s0 : Rst := ⟨[8, 97, 98, 99, 100, 2], 0, 0, 0⟩
theorem row0 : rowAt s0 = [8] := rfl
theorem fits8 : fits [8] := by
  refine ⟨?_, by decide⟩
  have e : val [8] = 8 := rfl
  rw [e, vb_lo (by decide)]
  rfl
theorem look0 : look s0 = ((4, 1), s0) := by
  rw [look_ok rfl (by decide) (by rw [row0]; exact fits8), row0]
  rfl
theorem text0 : rText 4 s0 = ([97, 98, 99, 100], { s0 with pl := 5 }) := by
  unfold rText
  rw [look0]
  rfl
theorem flag0 : rFlag { s0 with pl := 5 } = (false, ⟨[8, 97, 98, 99, 100, 2], 5, 4, 5⟩) := rfl
theorem fold64 : vb (foldN 64) = [128, 1] := by
  have e : foldN 64 = 128 := rfl
  rw [e, vb_hi (by decide), vb_lo (by decide)]
  rfl
theorem fold65 : vb (foldN (-65)) = [129, 1] := by
  have e : foldN (-65) = 129 := rfl
  rw [e, vb_hi (by decide), vb_lo (by decide)]
  rfl
theorem bys_row (w : World) (l : List UInt8) (hl : l.length ≤ 140737488355328) : HasB (fun k => k = w.heap.size) (w.alloc (.cells (bys l).toArray 5)) (.slice (some ⟨w.heap.size, 0, none⟩) l.length l.length) l := by
  refine ⟨_, _, rfl, Nat.le_refl _, by unfold maxLen; omega, (fun e => by cases e), .inr ⟨_, 0, rfl, rfl, by simp, fun i hi => ?_⟩⟩
  have := cell_in (w := w.alloc (.cells (bys l).toArray 5)) (o := 0 + i) (u := .int .u8 ((l.getD i 0).toNat : Int)) (heap_alloc_new w _) (by
    unfold bys
    rw [Nat.zero_add, List.getElem?_toArray, List.getElem?_map, List.getElem?_eq_getElem hi, List.getD_eq_getElem?_getD, List.getElem?_eq_getElem hi]
    rfl)
  exact this
end
section
open Go.RowKit
/-- A row of the call's own. -/
def Own (w w' : World) (v : Value) (l : List UInt8) : Prop := w'.ownsRow w.heap.size 5 1 v l.length (bys l) ∧ Below w.heap.size w w'
set_option maxRecDepth 100000 in
theorem refInt_loop (n : Int) (U0 : Nat) (hU0 : U0 < 18446744073709551616) (w : World)
    (hstart : (n < 0 ∧ bits .xor .u64 IntKind.u64.max (IntKind.u64.wrap (IntKind.u64.wrap n * 2)) = (U0 : Int)) ∨ (0 ≤ n ∧ n < 9223372036854775808 ∧ n * 2 = (U0 : Int))) :
    Calls Tryz.prog 54 #[.int .i64 n] w fun e w' => ∃ v', e = .returned v' ∧ Own w w' v' (vb U0) := by
  obtain ⟨i0, hi, hz0, hz1, hz2⟩ := info_parts info5
  have hvl := vb_len_le _ hU0
  rcases hstart with ⟨hneg, hx⟩ | ⟨hpos, hlt, hx⟩
  · go_enter Tryz.func54, Tryz.ntmps54
    go_wp2
    go_loopw [3, 4] (fun u r wr => ∃ (U : Nat) (l' : List UInt8), u = .int .u64 U ∧ U < 18446744073709551616 ∧ Hid (wr.ownsRow w.heap.size 5 1 r l'.length (bys l')) ∧ Hid (l' ++ vb U = vb U0) ∧ Hid (Below w.heap.size w wr)) (fun u _ _ => (intOf u).toNat)
    case atStart => exact ⟨U0, [], rfl, hU0, World.ownsRow_nil _ _ _ _, by simp [Hid], Below.refl _ _⟩
    case round =>
      obtain ⟨U, l', rfl, hU, HO, HE, HB⟩ := hrel
      have ho := HO.out
      have hsz := HB.out.size
      have hlen : l'.length + (vb U).length ≤ 10 := by have := congrArg List.length HE.out; rw [List.length_append] at this; omega
      have hvp := vb_pos U
      by_cases hbig : 128 ≤ U
      · have HVB := Lib.hid (vb_hi hbig)
        obtain ⟨g, hg, hgl⟩ : ∃ g : Nat, U % 128 = g ∧ g < 128 := ⟨_, rfl, by omega⟩
        have hgi : ((U : Int) % 128) = (g : Int) := by omega
        rw [hg] at HVB
        obtain ⟨y, hy⟩ : ∃ y, y = UInt8.ofNat (g + 128) := ⟨_, rfl⟩
        have hby : (g : Int) + 128 = (y.toNat : Int) := by rw [hy, ofNat_toNat (by omega)]; simp
        rw [← hy] at HVB
        have HD : Hid (((U : Int) / 128) = ((U / 128 : Nat) : Int)) := (Int.natCast_ediv _ _).symm
        clear hg hy
        go_wp2_with (first
          | (at_builtin; refine wpList_append_own _ rfl (.tmp 14) (.tmp 19) 32 rfl w.heap.size 5 i0 (.int .u8 0) 1 1 under31 hi hz0 hz1 hz2 rfl (by decide) _ _ _ rfl (ho.alloc _) ⟨wr.heap.size, 0, none⟩ 1 1 (bys [y]) rfl rfl (cell_one_new _ _ _) (bys_one _) (by unfold maxLen; omega) (by omega) (by simp; omega) ?_; intro v2 w2 hown' hgrow _; have HO2 := Lib.hid hown'; have HB2 := Lib.hid ((HB.out.alloc HB.out.size (.cells #[.int .u8 (y.toNat : Int)] 5)).grown hgrow (by simp; omega) (fun k hk => (HO.out.lt k hk).1)); clear hown' hgrow))
        refine ⟨⟨U / 128, l' ++ [y], by rw [← HD.out], by omega, ?_, ?_, HB2⟩, by simp [intOf]; omega⟩
        · have := HO2.out
          rw [← bys_append] at this
          rw [List.length_append]
          exact this
        · show _ = _
          rw [List.append_assoc, List.singleton_append, ← HVB.out]; exact HE.out
      · obtain ⟨y, rfl⟩ : ∃ y : UInt8, U = y.toNat := ⟨UInt8.ofNat U, (ofNat_toNat (by omega)).symm⟩
        have HVB : Hid (vb y.toNat = [y]) := by show _ = _; rw [vb_lo (by omega), ofNat_self]
        go_wp2_with (first
          | (at_builtin; refine wpList_append_own _ rfl (.tmp 23) (.tmp 26) 32 rfl w.heap.size 5 i0 (.int .u8 0) 1 1 under31 hi hz0 hz1 hz2 rfl (by decide) _ _ _ rfl (ho.alloc _) ⟨wr.heap.size, 0, none⟩ 1 1 (bys [y]) rfl rfl (cell_one_new _ _ _) (bys_one _) (by unfold maxLen; omega) (by omega) (by simp; omega) ?_; intro v2 w2 hown' hgrow _; have HO2 := Lib.hid hown'; have HB2 := Lib.hid ((HB.out.alloc HB.out.size (.cells #[.int .u8 (y.toNat : Int)] 5)).grown hgrow (by simp; omega) (fun k hk => (HO.out.lt k hk).1)); clear hown' hgrow))
        go_ret
        refine ⟨v2, rfl, ?_, HB2.out⟩
        have e := HE.out
        rw [HVB.out] at e
        rw [← e, List.length_append, bys_append]
        exact HO2.out
  · have HX := Lib.hid hx
    clear hx
    go_enter Tryz.func54, Tryz.ntmps54
    go_wp2
    go_loopw [3, 4] (fun u r wr => ∃ (U : Nat) (l' : List UInt8), u = .int .u64 U ∧ U < 18446744073709551616 ∧ Hid (wr.ownsRow w.heap.size 5 1 r l'.length (bys l')) ∧ Hid (l' ++ vb U = vb U0) ∧ Hid (Below w.heap.size w wr)) (fun u _ _ => (intOf u).toNat)
    case atStart => exact ⟨U0, [], by rw [HX.out], hU0, World.ownsRow_nil _ _ _ _, by simp [Hid], Below.refl _ _⟩
    case round =>
      obtain ⟨U, l', rfl, hU, HO, HE, HB⟩ := hrel
      have ho := HO.out
      have hsz := HB.out.size
      have hlen : l'.length + (vb U).length ≤ 10 := by have := congrArg List.length HE.out; rw [List.length_append] at this; omega
      have hvp := vb_pos U
      by_cases hbig : 128 ≤ U
      · have HVB := Lib.hid (vb_hi hbig)
        obtain ⟨g, hg, hgl⟩ : ∃ g : Nat, U % 128 = g ∧ g < 128 := ⟨_, rfl, by omega⟩
        have hgi : ((U : Int) % 128) = (g : Int) := by omega
        rw [hg] at HVB
        obtain ⟨y, hy⟩ : ∃ y, y = UInt8.ofNat (g + 128) := ⟨_, rfl⟩
        have hby : (g : Int) + 128 = (y.toNat : Int) := by rw [hy, ofNat_toNat (by omega)]; simp
        rw [← hy] at HVB
        have HD : Hid (((U : Int) / 128) = ((U / 128 : Nat) : Int)) := (Int.natCast_ediv _ _).symm
        clear hg hy
        go_wp2_with (first
          | (at_builtin; refine wpList_append_own _ rfl (.tmp 14) (.tmp 19) 32 rfl w.heap.size 5 i0 (.int .u8 0) 1 1 under31 hi hz0 hz1 hz2 rfl (by decide) _ _ _ rfl (ho.alloc _) ⟨wr.heap.size, 0, none⟩ 1 1 (bys [y]) rfl rfl (cell_one_new _ _ _) (bys_one _) (by unfold maxLen; omega) (by omega) (by simp; omega) ?_; intro v2 w2 hown' hgrow _; have HO2 := Lib.hid hown'; have HB2 := Lib.hid ((HB.out.alloc HB.out.size (.cells #[.int .u8 (y.toNat : Int)] 5)).grown hgrow (by simp; omega) (fun k hk => (HO.out.lt k hk).1)); clear hown' hgrow))
        refine ⟨⟨U / 128, l' ++ [y], by rw [← HD.out], by omega, ?_, ?_, HB2⟩, by simp [intOf]; omega⟩
        · have := HO2.out
          rw [← bys_append] at this
          rw [List.length_append]
          exact this
        · show _ = _
          rw [List.append_assoc, List.singleton_append, ← HVB.out]; exact HE.out
      · obtain ⟨y, rfl⟩ : ∃ y : UInt8, U = y.toNat := ⟨UInt8.ofNat U, (ofNat_toNat (by omega)).symm⟩
        have HVB : Hid (vb y.toNat = [y]) := by show _ = _; rw [vb_lo (by omega), ofNat_self]
        go_wp2_with (first
          | (at_builtin; refine wpList_append_own _ rfl (.tmp 23) (.tmp 26) 32 rfl w.heap.size 5 i0 (.int .u8 0) 1 1 under31 hi hz0 hz1 hz2 rfl (by decide) _ _ _ rfl (ho.alloc _) ⟨wr.heap.size, 0, none⟩ 1 1 (bys [y]) rfl rfl (cell_one_new _ _ _) (bys_one _) (by unfold maxLen; omega) (by omega) (by simp; omega) ?_; intro v2 w2 hown' hgrow _; have HO2 := Lib.hid hown'; have HB2 := Lib.hid ((HB.out.alloc HB.out.size (.cells #[.int .u8 (y.toNat : Int)] 5)).grown hgrow (by simp; omega) (fun k hk => (HO.out.lt k hk).1)); clear hown' hgrow))
        go_ret
        refine ⟨v2, rfl, ?_, HB2.out⟩
        have e := HE.out
        rw [HVB.out] at e
        rw [← e, List.length_append, bys_append]
        exact HO2.out
theorem refInt_any (n : Int) (h1 : -9223372036854775808 ≤ n) (h2 : n < 9223372036854775808) (w : World) :
    Calls Tryz.prog 54 #[.int .i64 n] w fun e w' => ∃ v', e = .returned v' ∧ Own w w' v' (vb (foldN n)) := by
  refine refInt_loop n (foldN n) (foldN_lt h1 h2) w ?_
  by_cases hn : n < 0
  · left
    refine ⟨hn, ?_⟩
    have e1 : IntKind.u64.wrap (IntKind.u64.wrap n * 2) = ((18446744073709551616 + 2 * n).toNat : Int) := by rw [IntKind.wrap_u64, IntKind.wrap_u64]; omega
    rw [e1, bnot (by omega)]
    unfold foldN
    rw [if_pos hn]
    omega
  · right
    refine ⟨by omega, h2, ?_⟩
    unfold foldN
    rw [if_neg hn]
    omega
set_option maxRecDepth 100000 in
theorem refFloat_any (x : Nat) (hx : x < 18446744073709551616) (w : World) : Calls Tryz.prog 55 #[.float .f64 x] w fun e w' => ∃ v', e = .returned v' ∧ Own w w' v' (w8 8 (canon x)) := by
  obtain ⟨i0, hi, hz0, hz1, hz2⟩ := info_parts info5
  have hU64 := canon_lt hx
  have hb := rbits_any x
  generalize canon x = U0 at *
  have HBI := Lib.hid hb; clear hb
  go_enter Tryz.func55, Tryz.ntmps55
  go_wp2_with (go_at_call 82; refine (HBI.out _).mono ?_; rintro x w ⟨rfl, rfl⟩)
  go_loopw [3, 4, 5] (fun u r i wr => ∃ (k U : Nat) (l' : List UInt8), i = .int .i64 k ∧ k ≤ 8 ∧ u = .int .u64 U ∧ U < 18446744073709551616 ∧ Hid (wr.ownsRow w.heap.size 5 1 r l'.length (bys l')) ∧ Hid (l' ++ w8 (8 - k) U = w8 8 U0) ∧ Hid (Below w.heap.size w wr) ∧ l'.length ≤ k) (fun _ _ i _ => 8 - (intOf i).toNat)
  case atStart => exact ⟨0, U0, [], rfl, by decide, rfl, hU64, World.ownsRow_nil _ _ _ _, rfl, Below.refl _ _, Nat.le_refl _⟩
  case round =>
    obtain ⟨k, U, l', rfl, hk, rfl, hU, HO, HE, HB, hlen⟩ := hrel
    have ho := HO.out
    have hsz := HB.out.size
    by_cases hlt : k < 8
    · have hw8 : w8 (8 - k) U = UInt8.ofNat (U % 256) :: w8 (8 - (k + 1)) (U / 256) := by
        rw [show 8 - k = (8 - (k + 1)) + 1 by omega]; rfl
      have HW8 := Lib.hid hw8
      obtain ⟨y, hy⟩ : ∃ y, y = UInt8.ofNat (U % 256) := ⟨_, rfl⟩
      have hby : ((U : Int) % 256) = (y.toNat : Int) := by rw [hy, ofNat_toNat (by omega)]; simp
      have hyl := byte_lt y
      have HY := Lib.hid hy
      have HD : Hid (((U : Int) / 256) = ((U / 256 : Nat) : Int)) := (Int.natCast_ediv _ _).symm
      clear hw8 hy
      go_wp2_with (first
        | (at_builtin; refine wpList_append_own _ rfl (.tmp 12) (.tmp 16) 32 rfl w.heap.size 5 i0 (.int .u8 0) 1 1 under31 hi hz0 hz1 hz2 rfl (by decide) _ _ _ rfl (ho.alloc _) ⟨wr.heap.size, 0, none⟩ 1 1 (bys [y]) rfl rfl (cell_one_new _ _ _) (bys_one _) (by unfold maxLen; omega) (by omega) (by simp; omega) ?_; intro v2 w2 hown' hgrow _; have HO2 := Lib.hid hown'; have HB2 := Lib.hid ((HB.out.alloc HB.out.size (.cells #[.int .u8 (y.toNat : Int)] 5)).grown hgrow (by simp; omega) (fun k hk => (HO.out.lt k hk).1)); clear hown' hgrow))
      refine ⟨⟨k + 1, U / 256, l' ++ [y], by simp, by omega, by rw [← HD.out], by omega, ?_, ?_, HB2, by simp; omega⟩, by simp [intOf]; omega⟩
      · have := HO2.out
        rw [← bys_append] at this
        rw [List.length_append]
        exact this
      · have e := HE.out
        rw [HW8.out, ← HY.out] at e
        show _ = _
        rw [List.append_assoc, List.singleton_append]
        exact e
    · obtain rfl : k = 8 := by omega
      have HE2 : Hid (l' = w8 8 U0) := by
        have e := HE.out
        show _ = _
        simpa [w8] using e
      go_wp2
      go_ret
      refine ⟨_, rfl, ?_, HB.out⟩
      rw [← HE2.out]
      exact HO.out
set_option maxRecDepth 100000 in
theorem refText_any (s : List UInt8) (hs : s.length ≤ 70368744177664) (w : World) : Calls Tryz.prog 56 #[.string ⟨s.toArray⟩] w fun e w' => ∃ v', e = .returned v' ∧ Own w w' v' (vb (foldN (s.length : Int)) ++ s) := by
  obtain ⟨i0, hi, hz0, hz1, hz2⟩ := info_parts info5
  have hvl := vb_len_le _ (foldN_lt (n := (s.length : Int)) (by omega) (by omega))
  have hsz : (⟨s.toArray⟩ : ByteArray).size = s.length := rfl
  have hr := refInt_any (s.length : Int) (by omega) (by omega)
  obtain ⟨A, hA⟩ : ∃ A, A = vb (foldN (s.length : Int)) := ⟨_, rfl⟩
  rw [← hA] at hr hvl ⊢
  have HR := Lib.hid hr
  clear hr hA
  go_enter Tryz.func56, Tryz.ntmps56
  go_wp2_with (first
    | (go_at_call 54; refine (HR.out _).mono ?_; rintro e w1 ⟨v1, rfl, ho1, hb1⟩; obtain ⟨ao1, cap1, rfl⟩ := own_slice ho1; have HO := Lib.hid ho1; have HB := Lib.hid hb1; clear ho1 hb1)
    | (at_builtin; refine wpList_append_string_at _ rfl (.tmp 5) (.tmp 6) 32 9 rfl w.heap.size 5 i0 under31 (by kernel_rfl) hi hz0 hz1 hz2 (.slice ao1 A.length cap1) _ _ rfl HO.out ⟨s.toArray⟩ rfl (by rw [hsz]; unfold maxLen; omega) (by rw [hsz]; omega) HB.out.size ?_; intro v2 w2 hown' hgrow hat; have HO2 := Lib.hid hown'; have HB2 := Lib.hid (HB.out.grown hgrow HB.out.size (fun k hk => (HO.out.lt k hk).1)); clear hown' hgrow hat))
  go_ret
  refine ⟨v2, rfl, ?_, HB2.out⟩
  have := HO2.out
  rw [List.length_append, bys_append]
  exact this
end
end Go.Proofs.YtjkfcmadoeifgaaGreatDoor
