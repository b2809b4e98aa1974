/- A Writer above a block number, and what racelaw2's first answers. Conditions: no more than 2^47 bytes. -/
import Derived.Test.YtioopibmpcbcjaaW3
import Derived.Test.YtioopibmpcbcjaaW4
import Derived.Test.YtioopibmpcbcjaaR7
namespace Go.Proofs.Ytioopibmpcbcjaa
open Go.RowKit
/-- A Writer whose blocks lie from B on. -/
def WrB (B : Nat) (w : World) (p : Nat) (l : List UInt8) : Prop := ∃ v, Wr w p v l ∧ B ≤ p ∧ B ≤ w.heap.size ∧ ∀ k, v.ownBlock = some k → B ≤ k
section
variable {B C : Nat} {w w' : World} {p : Nat} {l m : List UInt8}
theorem WrB.of {v v' : Value} (h1 : B ≤ p) (hs : B ≤ w.heap.size) (h2 : ∀ k, v.ownBlock = some k → B ≤ k) (h : Wr w' p v' m) (hf : Fr (foot p v) w w') (hm : Moved w v v') : WrB B w' p m ∧ Below B w w' := by
  refine ⟨⟨v', h, h1, Nat.le_trans hs hf.size, fun k hk => ?_⟩, hf.below (fun i hi => ?_) hs⟩
  · rcases hm with hm | hm
    · exact h2 k (by rw [← hm]; exact hk)
    · have := hm k hk; omega
  · rcases hi with hi | hi
    · omega
    · exact h2 i hi
theorem WrB.below (h : WrB B w p l) (hb : Below C w w') (hC : w.heap.size ≤ C) : WrB B w' p l := by
  obtain ⟨v, h1, h2, h3, h4⟩ := h
  refine ⟨v, h1.fr (S := fun k => C ≤ k) (Fr.of_below hb (fun _ _ h => h)) ?_ ?_, h2, Nat.le_trans h3 hb.size, h4⟩
  · have := h1.lt; omega
  · intro k hk
    have := (h1.own.lt k hk).2; omega
/-- What lies below C turns, the Writer stays: C below its blocks. -/
theorem WrB.keep {S : Nat → Prop} (h : WrB B w p l) (hf : Fr S w w') (hS : ∀ k, S k → k < B) : WrB B w' p l := by
  obtain ⟨v, h1, h2, h3, h4⟩ := h
  refine ⟨v, h1.fr hf (fun h => by have := hS p h; omega) (fun k hk h => ?_), h2, Nat.le_trans h3 hf.size, h4⟩
  have := hS k h
  have := h4 k hk
  omega
theorem WrB.int (h : WrB B w p l) (n : Int) (h1 : -9223372036854775808 ≤ n) (h2 : n < 9223372036854775808) (hroom : l.length + 10 ≤ 140737488355328) :
    Calls Try.prog 35 #[.pointer (some ⟨p, 0, none⟩), .int .i64 n] w fun e w' => e = .returned (.tuple #[]) ∧ WrB B w' p (l ++ vb (foldN n)) ∧ Below B w w' := by
  obtain ⟨v, hw, hp, hs, hv⟩ := h
  exact (wint_any hw n h1 h2 hroom).mono fun e w' ⟨he, v', hw', hf, hm⟩ => ⟨he, WrB.of hp hs hv hw' hf hm⟩
theorem WrB.flag (h : WrB B w p l) (b : Bool) (hroom : l.length + 1 ≤ 140737488355328) :
    Calls Try.prog 37 #[.pointer (some ⟨p, 0, none⟩), .bool b] w fun e w' => e = .returned (.tuple #[]) ∧ WrB B w' p (l ++ [bif b then 1 else 0]) ∧ Below B w w' := by
  obtain ⟨v, hw, hp, hs, hv⟩ := h
  exact (wflag_any hw b hroom).mono fun e w' ⟨he, v', hw', hf, hm⟩ => ⟨he, WrB.of hp hs hv hw' hf hm⟩
theorem WrB.float (h : WrB B w p l) (x : Nat) (hx : x < 18446744073709551616) (hroom : l.length + 8 ≤ 140737488355328) :
    Calls Try.prog 36 #[.pointer (some ⟨p, 0, none⟩), .float .f64 x] w fun e w' => e = .returned (.tuple #[]) ∧ WrB B w' p (l ++ w8 8 (canon x)) ∧ Below B w w' := by
  obtain ⟨v, hw, hp, hs, hv⟩ := h
  exact (wfloat_any hw x hx hroom).mono fun e w' ⟨he, v', hw', hf, hm⟩ => ⟨he, WrB.of hp hs hv hw' hf hm⟩
theorem WrB.text (h : WrB B w p l) (s : List UInt8) (hroom : l.length + 10 + s.length ≤ 140737488355328) :
    Calls Try.prog 38 #[.pointer (some ⟨p, 0, none⟩), .string ⟨s.toArray⟩] w fun e w' => e = .returned (.tuple #[]) ∧ WrB B w' p (l ++ (vb (foldN (s.length : Int)) ++ s)) ∧ Below B w w' := by
  obtain ⟨v, hw, hp, hs, hv⟩ := h
  exact (wtext_any hw s hroom).mono fun e w' ⟨he, v', hw', hf, hm⟩ => ⟨he, WrB.of hp hs hv hw' hf hm⟩
theorem WrB.bytes (h : WrB B w p l) (hroom : l.length ≤ 140737488355328) :
    Calls Try.prog 16 #[.pointer (some ⟨p, 0, none⟩)] w fun e w' => ∃ v', e = .returned v' ∧ w'.ownsRow w.heap.size 5 1 v' l.length (bys l) ∧ Below w.heap.size w w' := by
  obtain ⟨v, hw, hp, hs, hv⟩ := h
  exact (wbytes_any hw hroom).mono fun e w' ⟨v', he, ho, hf⟩ => ⟨v', he, ho, hf.below (fun _ h => h.elim) (Nat.le_refl _)⟩
theorem newWriterB (w : World) (hB : B ≤ w.heap.size) : Calls Try.prog 13 #[] w fun e w' => ∃ p, e = .returned (.pointer (some ⟨p, 0, none⟩)) ∧ WrB B w' p [] ∧ Below w.heap.size w w' :=
  (newWriter_any w).mono fun e w' ⟨p, he, hp, hw, hf⟩ => ⟨p, he, ⟨_, hw, by omega, Nat.le_trans hB hf.size, fun k hk => by simp [Value.ownBlock] at hk⟩, hf.below (fun _ h => h.elim) (Nat.le_refl _)⟩
end
/-- A Writer whose row lies from C on, its own block wherever. -/
def WrX (C : Nat) (w : World) (p : Nat) (l : List UInt8) : Prop := ∃ v, Wr w p v l ∧ C ≤ w.heap.size ∧ ∀ k, v.ownBlock = some k → C ≤ k
section
variable {B C : Nat} {w w' : World} {p : Nat} {l m : List UInt8}
theorem WrX.lt (h : WrX C w p l) : p < w.heap.size := by obtain ⟨v, h1, _⟩ := h; exact h1.lt
theorem WrX.of {v v' : Value} (hs : C ≤ w.heap.size) (h2 : ∀ k, v.ownBlock = some k → C ≤ k) (h : Wr w' p v' m) (hf : Fr (foot p v) w w') (hm : Moved w v v') : WrX C w' p m ∧ Fr (fun k => k = p ∨ C ≤ k) w w' := by
  refine ⟨⟨v', h, Nat.le_trans hs hf.size, fun k hk => ?_⟩, hf.mono (fun i _ hi => hi.imp id (h2 i))⟩
  rcases hm with hm | hm
  · exact h2 k (by rw [← hm]; exact hk)
  · have := hm k hk; omega
/-- Another call, which leaves the Writer's block and what lies from C on. -/
theorem WrX.keep {S : Nat → Prop} (h : WrX C w p l) (hf : Fr S w w') (hp : ¬ S p) (hS : ∀ k, S k → k < C) : WrX C w' p l := by
  obtain ⟨v, h1, h3, h4⟩ := h
  refine ⟨v, h1.fr hf hp (fun k hk h => ?_), Nat.le_trans h3 hf.size, h4⟩
  have := hS k h
  have := h4 k hk
  omega
theorem WrX.int (h : WrX C w p l) (n : Int) (h1 : -9223372036854775808 ≤ n) (h2 : n < 9223372036854775808) (hroom : l.length + 10 ≤ 140737488355328) :
    Calls Try.prog 35 #[.pointer (some ⟨p, 0, none⟩), .int .i64 n] w fun e w' => e = .returned (.tuple #[]) ∧ WrX C w' p (l ++ vb (foldN n)) ∧ Fr (fun k => k = p ∨ C ≤ k) w w' := by
  obtain ⟨v, hw, hs, hv⟩ := h
  exact (wint_any hw n h1 h2 hroom).mono fun e w' ⟨he, v', hw', hf, hm⟩ => ⟨he, WrX.of hs hv hw' hf hm⟩
theorem WrX.flag (h : WrX C w p l) (b : Bool) (hroom : l.length + 1 ≤ 140737488355328) :
    Calls Try.prog 37 #[.pointer (some ⟨p, 0, none⟩), .bool b] w fun e w' => e = .returned (.tuple #[]) ∧ WrX C w' p (l ++ [bif b then 1 else 0]) ∧ Fr (fun k => k = p ∨ C ≤ k) w w' := by
  obtain ⟨v, hw, hs, hv⟩ := h
  exact (wflag_any hw b hroom).mono fun e w' ⟨he, v', hw', hf, hm⟩ => ⟨he, WrX.of hs hv hw' hf hm⟩
theorem WrX.float (h : WrX C w p l) (x : Nat) (hx : x < 18446744073709551616) (hroom : l.length + 8 ≤ 140737488355328) :
    Calls Try.prog 36 #[.pointer (some ⟨p, 0, none⟩), .float .f64 x] w fun e w' => e = .returned (.tuple #[]) ∧ WrX C w' p (l ++ w8 8 (canon x)) ∧ Fr (fun k => k = p ∨ C ≤ k) w w' := by
  obtain ⟨v, hw, hs, hv⟩ := h
  exact (wfloat_any hw x hx hroom).mono fun e w' ⟨he, v', hw', hf, hm⟩ => ⟨he, WrX.of hs hv hw' hf hm⟩
theorem WrX.text (h : WrX C w p l) (s : List UInt8) (hroom : l.length + 10 + s.length ≤ 140737488355328) :
    Calls Try.prog 38 #[.pointer (some ⟨p, 0, none⟩), .string ⟨s.toArray⟩] w fun e w' => e = .returned (.tuple #[]) ∧ WrX C w' p (l ++ (vb (foldN (s.length : Int)) ++ s)) ∧ Fr (fun k => k = p ∨ C ≤ k) w w' := by
  obtain ⟨v, hw, hs, hv⟩ := h
  exact (wtext_any hw s hroom).mono fun e w' ⟨he, v', hw', hf, hm⟩ => ⟨he, WrX.of hs hv hw' hf hm⟩
theorem WrX.bytes (h : WrX C w p l) (hroom : l.length ≤ 140737488355328) :
    Calls Try.prog 16 #[.pointer (some ⟨p, 0, none⟩)] w fun e w' => ∃ v', e = .returned v' ∧ w'.ownsRow w.heap.size 5 1 v' l.length (bys l) ∧ Fr (fun _ => False) w w' := by
  obtain ⟨v, hw, hs, hv⟩ := h
  exact wbytes_any hw hroom
theorem WrX.new (h : Wr w p (.slice none 0 0) []) (hf : Fr (fun _ => False) w w') (hC : C ≤ w'.heap.size) : WrX C w' p [] :=
  ⟨_, h.fr hf id (fun _ _ => id), hC, fun k hk => by simp [Value.ownBlock] at hk⟩
end
theorem Rd.mono {t : TypeId} {K L : Nat → Prop} {w : World} {r : Nat} {v : Value} {s : Rst} (h : Rd t K w r v s) (hK : ∀ k, K k → L k) (hL : ∀ k, L k → k ≠ r) : Rd t L w r v s :=
  ⟨h.cell, h.has.mono hK, hL, h.le, h.room, h.pla⟩
/-- A reader stays when a Writer goes on. -/
theorem Rd.frX {t : TypeId} {K : Nat → Prop} {w w' : World} {r : Nat} {v : Value} {s : Rst} {p C : Nat} (h : Rd t K w r v s) (hf : Fr (fun k => k = p ∨ C ≤ k) w w') (hp : r ≠ p) (hr : r < C) (hK : ∀ k, K k → k ≠ p ∧ k < C) : Rd t K w' r v s :=
  h.fr hf (fun h => by rcases h with h | h <;> omega) (fun k hk h => by have := hK k hk; rcases h with h | h <;> omega)
theorem Fr.belowX {B C p : Nat} {w w' : World} (hf : Fr (fun k => k = p ∨ C ≤ k) w w') (hp : B ≤ p) (hC : B ≤ C) (hs : B ≤ w.heap.size) : Below B w w' :=
  hf.below (fun i h => by rcases h with h | h <;> omega) hs
/-- The example's reader. -/
def s0 : Rst := ⟨[8, 97, 98, 99, 100, 2], 0, 0, 0⟩
theorem row0 : rowAt s0 = [8] := rfl
theorem fits8 : fits [8] := by
  refine ⟨?_, by decide⟩
  have e : val [8] = 8 := rfl
  rw [e, vb_lo (by decide)]
  rfl
theorem look0 : look s0 = ((4, 1), s0) := by
  rw [look_ok rfl (by decide) (by rw [row0]; exact fits8), row0]
  rfl
theorem text0 : rText 4 s0 = ([97, 98, 99, 100], { s0 with pl := 5 }) := by
  unfold rText
  rw [look0]
  rfl
theorem flag0 : rFlag { s0 with pl := 5 } = (false, ⟨[8, 97, 98, 99, 100, 2], 5, 4, 5⟩) := rfl
theorem fold64 : vb (foldN 64) = [128, 1] := by
  have e : foldN 64 = 128 := rfl
  rw [e, vb_hi (by decide), vb_lo (by decide)]
  rfl
theorem fold65 : vb (foldN (-65)) = [129, 1] := by
  have e : foldN (-65) = 129 := rfl
  rw [e, vb_hi (by decide), vb_lo (by decide)]
  rfl
theorem bys_row (w : World) (l : List UInt8) (hl : l.length ≤ 140737488355328) : HasB (fun k => k = w.heap.size) (w.alloc (.cells (bys l).toArray 5)) (.slice (some ⟨w.heap.size, 0, none⟩) l.length l.length) l := by
  refine ⟨_, _, rfl, Nat.le_refl _, by unfold maxLen; omega, (fun e => by cases e), .inr ⟨_, 0, rfl, rfl, by simp, fun i hi => ?_⟩⟩
  have := cell_in (w := w.alloc (.cells (bys l).toArray 5)) (o := 0 + i) (u := .int .u8 ((l.getD i 0).toNat : Int)) (heap_alloc_new w _) (by
    unfold bys
    rw [Nat.zero_add, List.getElem?_toArray, List.getElem?_map, List.getElem?_eq_getElem hi, List.getD_eq_getElem?_getD, List.getElem?_eq_getElem hi]
    rfl)
  exact this
set_option maxRecDepth 100000 in
theorem first_any (w : World) : Calls Try.prog 11 #[] w fun e w' => e = .returned (.bool true) ∧ Below w.heap.size w w' := by
  go_enter Try.func11, Try.ntmps11
  go_wp2_with (first
    | (go_at_call 13; refine (newWriter_any _).mono ?_; rintro e w1 ⟨p, rfl, hp, h1, f1⟩; have H1 := Lib.hid h1; have F1 := Lib.hid f1; have B1 := Lib.hid (f1.below (B := w.heap.size) (fun _ h => h.elim) (Nat.le_refl _)); have P1 := Lib.hid (And.intro hp h1.lt); clear h1 f1 hp)
    | (go_at_call 19; refine (newReader_any (bys_row w1 [8, 97, 98, 99, 100, 2] (by decide)) (by decide)).mono ?_; rintro e w2 ⟨r, vr, rfl, hr, h2, f2⟩; have X2 := Lib.hid (WrX.new (C := r + 1) H1.out ((fr_alloc w1 _).trans f2 (fun _ _ h => h)) h2.lt); have H2 := Lib.hid (show Rd 71 (fun k => w1.heap.size + 1 ≤ k ∧ k < r) w2 r vr s0 from h2.mono (fun k hk => by simpa using hk) (fun k hk => by omega)); have B2 := Lib.hid (B1.out.trans (((fr_alloc w1 _).trans f2 (fun _ _ h => h)).below (B := w.heap.size) (fun _ h => h.elim) B1.out.size)); have P2 := Lib.hid (show p < r by have := P1.out.2; simp at hr; omega); clear h2 f2 hr)
    | (go_at_call 35; ((with_reducible refine (X2.out.int 64 (by decide) (by decide) (by decide)).mono ?_); rintro e w3 ⟨rfl, h3, f3⟩; rw [fold64] at h3; have X3 := Lib.hid h3; have H3 := Lib.hid (H2.out.frX f3 (by have := P2.out; omega) (by omega) (fun k hk => by have := P1.out.2; omega)); have B3 := Lib.hid (B2.out.trans (f3.belowX (B := w.heap.size) P1.out.1 (by have := P2.out; have := P1.out.1; omega) B2.out.size)); clear h3 f3))
    | (go_at_call 35; ((with_reducible refine (X3.out.int (-65) (by decide) (by decide) (by decide)).mono ?_); rintro e w4 ⟨rfl, h4, f4⟩; rw [fold65] at h4; have X4 := Lib.hid h4; have H4 := Lib.hid (H3.out.frX f4 (by have := P2.out; omega) (by omega) (fun k hk => by have := P1.out.2; omega)); have B4 := Lib.hid (B3.out.trans (f4.belowX (B := w.heap.size) P1.out.1 (by have := P2.out; have := P1.out.1; omega) B3.out.size)); clear h4 f4))
    | (go_at_call 29; ((with_reducible refine (text_any H4.out 4).mono ?_); rw [text0]; rintro e w5 ⟨rfl, h5, f5⟩; have X5 := Lib.hid (X4.out.keep f5 (by have := P2.out; omega) (fun k hk => by omega)); have H5 := Lib.hid h5; have B5 := Lib.hid (B4.out.trans (f5.below (B := w.heap.size) (fun i hi => by have := P2.out; have := P1.out.1; omega) B4.out.size)); clear h5 f5))
    | (go_at_call 27; ((with_reducible refine (flag_any H5.out).mono ?_); rw [flag0]; rintro e w6 ⟨rfl, h6, f6⟩; have X6 := Lib.hid (X5.out.keep f6 (by have := P2.out; omega) (fun k hk => by omega)); have H6 := Lib.hid h6; have B6 := Lib.hid (B5.out.trans (f6.below (B := w.heap.size) (fun i hi => by have := P2.out; have := P1.out.1; omega) B5.out.size)); clear h6 f6))
    | (go_at_call 24; ((with_reducible refine (fault_any H6.out).mono ?_); rintro e w7 ⟨rfl, h7, f7⟩; have X7 := Lib.hid (X6.out.keep f7 (by have := P2.out; omega) (fun k hk => by omega)); have B7 := Lib.hid (B6.out.trans (f7.below (B := w.heap.size) (fun i hi => by have := P2.out; have := P1.out.1; omega) B6.out.size)); clear h7 f7))
    | (go_at_call 16; ((with_reducible refine (X7.out.bytes (by decide)).mono ?_); rintro e w8 ⟨v8, rfl, o8, f8⟩; have hcv := conv_has (own_has o8); have B8 := Lib.hid (B7.out.trans (f8.below (B := w.heap.size) (fun _ h => h.elim) B7.out.size)); clear o8 f8)))
  go_ret
  exact ⟨rfl, B8.out⟩
end Go.Proofs.Ytioopibmpcbcjaa
