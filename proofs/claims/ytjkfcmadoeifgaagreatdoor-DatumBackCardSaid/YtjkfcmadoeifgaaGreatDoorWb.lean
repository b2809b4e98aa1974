/- Package wire in memory (R1, R2, R3): ported. Conditions: those of each law. -/
import Derived.Test.YtjkfcmadoeifgaaGreatDoorWa
import Derived.Test.YtjkfcmadoeifgaaGreatDoorC
import Derived.BigQuiet
import Derived.Handy
namespace Go.Proofs.YtjkfcmadoeifgaaGreatDoor
section
open Go.RowKit
theorem stop_if {s : Rst} (h : s.er = 0) (e : Int) (q : Nat) : stopR e q s = { s with er := e, fp := q } := by unfold stopR; rw [if_pos h]
theorem stop_not {s : Rst} (h : s.er ≠ 0) (e : Int) (q : Nat) : stopR e q s = s := by unfold stopR; rw [if_neg h]
/-- Fail. -/
def failR (e : Int) (s : Rst) : Rst := if e = 0 then s else stopR e s.pl s
theorem failR_no (s : Rst) : failR 0 s = s := if_pos rfl
theorem failR_yes {e : Int} (h : e ≠ 0) (s : Rst) : failR e s = stopR e s.pl s := if_neg h
section
variable {K : Nat → Prop} {w : World} {p : Nat} {v : Value} {s : Rst}
theorem meet_any (h : Rd 69 K w p v s) (e : Int) (q : Nat) : Calls Tryz.prog 76 #[.pointer (some ⟨p, 0, none⟩), .int .i64 e, .int .i64 (q : Int)] w fun x w' => x = .returned (.tuple #[]) ∧ Rd 69 K w' p v (stopR e q s) ∧ Fr (fun k => k = p) w w' := by
  have c2 := h.c2
  have c3 := h.c3
  have f2 := h.free 2
  have f3 := h.free 3
  have H := Lib.hid h; clear h
  by_cases he : s.er = 0
  · have hb : (s.er == 0) = true := by simp [he]
    have HE := Lib.hid he; clear he
    go_enter Tryz.func76, Tryz.ntmps76
    go_wp2
    go_returns
    exact ⟨rfl, by rw [stop_if HE.out]; exact H.out.set23 e q, fr_set2 w 2 3 _ _⟩
  · have hb : (s.er == 0) = false := by simp [he]
    have HE := Lib.hid he; clear he
    go_enter Tryz.func76, Tryz.ntmps76
    go_wp2
    go_returns
    exact ⟨rfl, by rw [stop_not HE.out]; exact H.out, Fr.refl _ _⟩
theorem stop_any (h : Rd 40 K w p v s) (e : Int) (q : Nat) : Calls Tryz.prog 80 #[.pointer (some ⟨p, 0, none⟩), .int .i64 e, .int .i64 (q : Int)] w fun x w' => x = .returned (.tuple #[]) ∧ Rd 40 K w' p v (stopR e q s) ∧ Fr (fun k => k = p) w w' := by
  have c2 := h.c2
  have c3 := h.c3
  have f2 := h.free 2
  have f3 := h.free 3
  have H := Lib.hid h; clear h
  by_cases he : s.er = 0
  · have hb : (s.er == 0) = true := by simp [he]
    have HE := Lib.hid he; clear he
    go_enter Tryz.func80, Tryz.ntmps80
    go_wp2
    go_returns
    exact ⟨rfl, by rw [stop_if HE.out]; exact H.out.set23 e q, fr_set2 w 2 3 _ _⟩
  · have hb : (s.er == 0) = false := by simp [he]
    have HE := Lib.hid he; clear he
    go_enter Tryz.func80, Tryz.ntmps80
    go_wp2
    go_returns
    exact ⟨rfl, by rw [stop_not HE.out]; exact H.out, Fr.refl _ _⟩
theorem left_any (h : Rd 69 K w p v s) : Calls Tryz.prog 53 #[.pointer (some ⟨p, 0, none⟩)] w fun x w' => x = .returned (.int .i64 (leftR s : Nat)) ∧ Rd 69 K w' p v s ∧ Fr (fun k => k = p) w w' := by
  have c0 := h.c0
  have c1 := h.c1
  have c2 := h.c2
  have hr := h.room
  have hl := h.le
  obtain ⟨ao, cap, rfl, hx⟩ := h.has
  clear hx
  have H := Lib.hid h; clear h
  by_cases he : s.er = 0
  · have hb : (s.er != 0) = false := by simp [he]
    have e : leftR s = s.bs.length - s.pl := by unfold leftR; rw [if_neg (by simp [he])]
    have HE := Lib.hid e; clear he e
    go_enter Tryz.func53, Tryz.ntmps53
    go_wp2_with (go_quiet (fail))
    go_ret
    rw [HE.out]
    exact ⟨by simp; omega, H.out.drewN _, (Fr.refl _ _).drewN _⟩
  · have hb : (s.er != 0) = true := by simp [he]
    have e : leftR s = 0 := by unfold leftR; rw [if_pos he]
    have HE := Lib.hid e; clear he e
    go_enter Tryz.func53, Tryz.ntmps53
    go_wp2
    go_ret
    rw [HE.out]
    exact ⟨rfl, H.out, Fr.refl _ _⟩
theorem wnumber_any (h : Rd 69 K w p v s) (n : Int) (k : Nat) (hk : s.pl + k ≤ s.bs.length) : Calls Tryz.prog 77 #[.pointer (some ⟨p, 0, none⟩), .int .i64 n, .int .i64 (k : Int)] w fun x w' => x = .returned (.int .i64 (number n k s).1) ∧ Rd 69 K w' p v (number n k s).2 ∧ Fr (fun k => k = p) w w' := by
  have c1 := h.c1
  have c2 := h.c2
  have f1 := h.free 1
  have hr := h.room
  have H := Lib.hid h; clear h
  by_cases he : s.er = 0
  · have hb : (s.er != 0) = false := by simp [he]
    have HE := Lib.hid he; clear he
    go_enter Tryz.func77, Tryz.ntmps77
    go_wp2
    go_ret
    have := H.out.set1 (s.pl + k) hk
    have e : number n k s = (n, { s with pl := s.pl + k }) := by unfold number; rw [if_neg (by simp [HE.out])]
    rw [e]
    exact ⟨rfl, by simpa using this, fr_set1 w 1 _⟩
  · have hb : (s.er != 0) = true := by simp [he]
    have HE := Lib.hid he; clear he
    go_enter Tryz.func77, Tryz.ntmps77
    go_wp2
    go_ret
    have e : number n k s = (0, s) := by unfold number; rw [if_pos HE.out]
    rw [e]
    exact ⟨rfl, H.out, Fr.refl _ _⟩
theorem fault_any (h : Rd 69 K w p v s) : Calls Tryz.prog 49 #[.pointer (some ⟨p, 0, none⟩)] w fun x w' => x = .returned (.tuple #[.int .i64 s.er, .int .i64 (s.fp : Int)]) ∧ Rd 69 K w' p v s ∧ Fr (fun k => k = p) w w' := by
  have c2 := h.c2
  have c3 := h.c3
  have H := Lib.hid h; clear h
  go_enter Tryz.func49, Tryz.ntmps49
  go_wp2_with (go_quiet (fail))
  go_returns
  exact ⟨rfl, H.out.drewN _, (Fr.refl _ _).drewN _⟩
theorem end_any (h : Rd 69 K w p v s) (hg : s.er = 0 → s.fp = 0) : Calls Tryz.prog 20 #[.pointer (some ⟨p, 0, none⟩)] w fun x w' => x = .returned (.tuple #[.int .i64 (endR s).1, .int .i64 ((endR s).2 : Nat)]) ∧ Rd 69 K w' p v s ∧ Fr (fun k => k = p) w w' := by
  have hr := h.room
  have hl := h.le
  have HG := Lib.hid hg; clear hg
  have H := Lib.hid h; clear h
  go_enter Tryz.func20, Tryz.ntmps20
  go_wp2_with (first
    | (go_at_call 53; refine (left_any H.out).mono ?_; rintro x w1 ⟨rfl, h1, f1⟩; have d1 := h1.c1; have H1 := Lib.hid h1; have F1 := Lib.hid f1; clear h1 f1)
    | (go_at_call 49; refine (fault_any H1.out).mono ?_; rintro x w2 ⟨rfl, h2, f2⟩; have H2 := Lib.hid h2; have F2 := Lib.hid (F1.out.same f2); clear h2 f2)
    | go_quiet (fail))
  · go_returns
    rename_i ht
    have e : endR s = (6, s.pl) := by
      by_cases h1 : s.er = 0
      · have h3 : leftR s = s.bs.length - s.pl := by unfold leftR; rw [if_neg (by simp [h1])]
        unfold endR; rw [if_neg (by simp [h1]), if_pos (by omega)]
      · have h3 : leftR s = 0 := by unfold leftR; rw [if_pos h1]
        omega
    rw [e]
    exact ⟨rfl, H1.out.drewN _, F1.out.drewN _⟩
  · go_returns
    rename_i ht
    have e : endR s = (s.er, s.fp) := by
      by_cases h1 : s.er = 0
      · have h3 : leftR s = s.bs.length - s.pl := by unfold leftR; rw [if_neg (by simp [h1])]
        unfold endR; rw [if_neg (by simp [h1]), if_neg (by omega), HG.out h1, h1]
      · unfold endR; rw [if_pos h1]
    rw [e]
    exact ⟨rfl, H2.out, F2.out⟩
theorem rend_any (h : Rd 40 K w p v s) : Calls Tryz.prog 21 #[.pointer (some ⟨p, 0, none⟩)] w fun x w' => x = .returned (.tuple #[.int .i64 (endR s).1, .int .i64 ((endR s).2 : Nat)]) ∧ Rd 40 K w' p v s ∧ Fr (fun k => k = p) w w' := by
  have c0 := h.c0
  have c1 := h.c1
  have c2 := h.c2
  have c3 := h.c3
  have hr := h.room
  have hl := h.le
  obtain ⟨ao, cap, rfl, hx⟩ := h.has
  have H := Lib.hid h; clear hx h
  by_cases he : s.er = 0
  · have hb : (s.er != 0) = false := by simp [he]
    have e : endR s = if s.pl < s.bs.length then (6, s.pl) else (0, 0) := by unfold endR; rw [if_neg (by simp [he])]
    have HE := Lib.hid e; clear he e
    go_enter Tryz.func21, Tryz.ntmps21
    go_wp2_with (go_quiet (fail))
    · go_returns
      rename_i ht
      rw [HE.out, if_pos ht]
      exact ⟨rfl, (H.out.drewN _).drewN _, ((Fr.refl _ _).drewN _).drewN _⟩
    · go_returns
      rename_i ht
      rw [HE.out, if_neg ht]
      exact ⟨rfl, H.out.drewN _, (Fr.refl _ _).drewN _⟩
  · have hb : (s.er != 0) = true := by simp [he]
    have e : endR s = (s.er, s.fp) := by unfold endR; rw [if_pos he]
    have HE := Lib.hid e; clear he e
    go_enter Tryz.func21, Tryz.ntmps21
    go_wp2_with (go_quiet (fail))
    go_returns
    rw [HE.out]
    exact ⟨rfl, H.out.drewN _, (Fr.refl _ _).drewN _⟩
end
end
section
open Go.RowKit
theorem fold_any (n : Int) (h : -9223372036854775808 ≤ n) (h2 : n < 9223372036854775808) (w : World) : Calls Tryz.prog 74 #[.int .i64 n] w fun x w' => x = .returned (.int .u64 (foldN n : Nat)) ∧ w' = w := by
  by_cases hn : n < 0
  · have e1 : IntKind.u64.wrap n = ((18446744073709551616 + n).toNat : Int) := by rw [IntKind.wrap_u64]; omega
    have e2 := bnot (n := (18446744073709551616 + n).toNat) (by omega)
    have e3 : IntKind.u64.wrap (((18446744073709551615 - (18446744073709551616 + n).toNat : Nat) : Int) * 2) = ((18446744073709551615 - (18446744073709551616 + n).toNat) * 2 : Nat) := by rw [IntKind.wrap_u64]; omega
    have e4 := bor (a := (18446744073709551615 - (18446744073709551616 + n).toNat) * 2) (b := 1) (by omega) (by decide)
    rw [or_1] at e4
    have e5 : foldN n = (18446744073709551615 - (18446744073709551616 + n).toNat) * 2 + 1 := by unfold foldN; rw [if_pos hn]; omega
    rw [e5]
    have key : bits .or .u64 (IntKind.u64.wrap (bits .xor .u64 IntKind.u64.max (IntKind.u64.wrap n) * 2)) 1 = (((18446744073709551615 - (18446744073709551616 + n).toNat) * 2 + 1 : Nat) : Int) := by
      rw [e1, e2, e3]; exact e4
    have K := Lib.hid key
    clear key e1 e2 e3 e4 e5
    go_enter Tryz.func74, Tryz.ntmps74
    go_wp2
    go_ret
    rw [K.out]
    exact ⟨rfl, rfl⟩
  · have e5 : (foldN n : Int) = n * 2 := by unfold foldN; rw [if_neg hn]; omega
    have K := Lib.hid e5
    clear e5
    go_enter Tryz.func74, Tryz.ntmps74
    go_wp2
    go_ret
    rw [K.out]
    exact ⟨rfl, rfl⟩
theorem unfold_any (u : Nat) (h : u < 18446744073709551616) (w : World) : Calls Tryz.prog 99 #[.int .u64 (u : Int)] w fun x w' => x = .returned (.int .i64 (unf u)) ∧ w' = w := by
  have hb := band_1 h
  by_cases hn : u % 2 = 1
  · rw [hn] at hb
    have hb2 : (bits .and .u64 (u : Int) 1 != 0) = true := by rw [hb]; rfl
    have e2 := bnot (n := u / 2) (by omega)
    have key : wrap64 (bits .xor .u64 IntKind.u64.max ((u : Int) / 2)) = unf u := by
      rw [show ((u : Int) / 2) = ((u / 2 : Nat) : Int) from (Int.natCast_ediv _ _).symm, e2]
      unfold unf wrap64
      rw [if_pos hn]
      omega
    have K := Lib.hid key
    clear key e2 hb
    go_enter Tryz.func99, Tryz.ntmps99
    go_wp2
    go_ret
    rw [K.out]
    exact ⟨rfl, rfl⟩
  · have h0 : u % 2 = 0 := by omega
    rw [h0] at hb
    have hb2 : (bits .and .u64 (u : Int) 1 != 0) = false := by rw [hb]; rfl
    have key : unf u = (u : Int) / 2 := by unfold unf; rw [if_neg hn]; omega
    have K := Lib.hid key
    clear key hb
    go_enter Tryz.func99, Tryz.ntmps99
    go_wp2
    go_ret
    rw [K.out]
    exact ⟨rfl, rfl⟩
/-- What the walks want of a slice of bytes: its length and its cells. -/
theorem groups_cells (ao : Option Addr) (b off cap : Nat) (l : List UInt8) (hao : 0 < l.length → ao = some ⟨b, off, none⟩) (hl : l.length ≤ 140737488355328) (w : World)
    (hcell : ∀ i, i < l.length → w.cell? ⟨b, off + i, none⟩ = some (.int .u8 ((l.getD i 0).toNat : Int))) :
    Calls Tryz.prog 97 #[.slice ao l.length cap] w fun x w' => x = .returned (.int .i64 (grp l : Nat)) ∧ w' = w := by
  have HA := Lib.hid hao
  have HC := Lib.hid hcell
  clear hao hcell
  go_enter Tryz.func97, Tryz.ntmps97
  go_wp2
  go_loop [7] (fun i => ∃ k : Nat, k ≤ l.length ∧ i = .int .i64 k ∧ Hid (∀ i, i < k → 128 ≤ (l.getD i 0).toNat)) (fun i => l.length - (intOf i).toNat)
  case atStart => exact ⟨0, Nat.zero_le _, rfl, fun i hi => absurd hi (Nat.not_lt_zero _)⟩
  case round =>
    obtain ⟨k, hk, rfl, hr⟩ := hrel
    by_cases hlt : k < l.length
    · obtain rfl := HA.out (by omega)
      have hcx := HC.out k hlt
      have HR : Hid (128 ≤ (l.getD k 0).toNat → ∀ i, i < k + 1 → 128 ≤ (l.getD i 0).toNat) := fun h i hi => by
        rcases Nat.lt_or_ge i k with h1 | h1
        · exact hr.out i h1
        · obtain rfl : i = k := by omega
          exact h
      have HG : Hid ((l.getD k 0).toNat < 128 → grp l = k + 1) := fun h => by
        have e := grp_drop k hk hr.out
        have e2 : l.drop k = l.getD k 0 :: l.drop (k + 1) := by
          rw [List.drop_eq_getElem_cons hlt, List.getD_eq_getElem?_getD, List.getElem?_eq_getElem hlt]; rfl
        rw [e2] at e
        simp only [grp, if_pos h] at e
        simp at e
        omega
      clear hr
      generalize l.getD k 0 = y at *
      have hy := byte_lt y
      by_cases hm : y.toNat < 128
      · have hb := more_no hm
        go_wp2
        go_ret
        rw [HG.out hm]
        exact ⟨by simp, rfl⟩
      · have hb := more_yes (by omega) hy
        go_wp2
        exact ⟨⟨k + 1, by omega, by simp, HR.out (by omega)⟩, by simp [intOf]; omega⟩
    · obtain rfl : k = l.length := by omega
      have HG : Hid (grp l = 0) := by
        have e := grp_drop l.length (Nat.le_refl _) hr.out
        rw [List.drop_length] at e
        show grp l = 0
        simpa [grp] using e
      clear hr
      go_wp2
      go_ret
      rw [HG.out]
      exact ⟨rfl, rfl⟩
/- Shifts by a number that is not written out. -/
theorem run_shl {P : Program} (g m : Nat) (y : Int) (hy : y = m) (w : World) : (Op.shift .shl .u64 (g : Int) .i64 y).run P w = .ok (.int .u64 ((g * 2 ^ min m 64 % 18446744073709551616 : Nat) : Int)) w := by
  subst hy
  unfold Op.shift
  rw [if_neg (by omega)]
  show Sem.run P (pure (Value.int .u64 (IntKind.u64.wrap ((g : Int) * 2 ^ min (m : Int).toNat 64)))) w = _
  rw [Sem.run_pure, IntKind.wrap_u64, Int.toNat_natCast]
  congr 2
theorem run_shr {P : Program} (g m : Nat) (y : Int) (hy : y = m) (w : World) : (Op.shift .shr .u64 (g : Int) .i64 y).run P w = .ok (.int .u64 ((g / 2 ^ min m 64 : Nat) : Int)) w := by
  subst hy
  unfold Op.shift
  rw [if_neg (by omega)]
  show Sem.run P (pure (Value.int .u64 ((g : Int).fdiv (2 ^ min (m : Int).toNat 64)))) w = _
  rw [Sem.run_pure, Int.toNat_natCast, show ((2 : Int) ^ min m 64) = ((2 ^ min m 64 : Nat) : Int) by simp, Int.fdiv_eq_ediv_of_nonneg _ (Int.natCast_nonneg _)]
  congr 2
def joinN (l : List UInt8) : Nat := if fits l then val l else 0
theorem joinN_yes {l : List UInt8} (h : fits l) : joinN l = val l := if_pos h
theorem joinN_no {l : List UInt8} (h : ¬ fits l) : joinN l = 0 := if_neg h
def joinB (l : List UInt8) : Bool := decide (fits l)
theorem joinB_yes {l : List UInt8} (h : fits l) : joinB l = true := decide_eq_true h
theorem joinB_no {l : List UInt8} (h : ¬ fits l) : joinB l = false := decide_eq_false h
theorem join_zero (b off cap : Nat) (l : List UInt8) (hn : 1 < l.length) (hz : (l.getD (l.length - 1) 0).toNat = 0) (hg : grp l = l.length) (hl : l.length ≤ 140737488355328) (w : World)
    (hcell : ∀ i, i < l.length → w.cell? ⟨b, off + i, none⟩ = some (.int .u8 ((l.getD i 0).toNat : Int))) :
    Calls Tryz.prog 98 #[.slice (some ⟨b, off, none⟩) l.length cap] w fun x w' => x = .returned (.tuple #[.int .u64 (joinN l : Nat), .bool (joinB l)]) ∧ w' = w := by
  have hf : ¬ fits l := fun hh => by
    rcases (short_iff hg (by intro e; subst e; simp at hn)).1 hh.1 with h | h
    · omega
    · exact h hz
  rw [joinN_no hf, joinB_no hf]
  have hc := hcell (l.length - 1) (by omega)
  rw [hz] at hc
  clear hcell hf hg
  go_enter Tryz.func98, Tryz.ntmps98
  go_wp2_with (go_quiet (fail))
  go_returns
  exact ⟨rfl, rfl⟩
theorem join_one (b off cap : Nat) (x : UInt8) (hx : x.toNat < 128) (w : World) (hc : w.cell? ⟨b, off, none⟩ = some (.int .u8 (x.toNat : Int))) :
    Calls Tryz.prog 98 #[.slice (some ⟨b, off, none⟩) 1 cap] w fun e w' => e = .returned (.tuple #[.int .u64 (joinN [x] : Nat), .bool (joinB [x])]) ∧ w' = w := by
  have hf : fits [x] := ⟨by simp only [val, Nat.mul_zero, Nat.add_zero, Nat.mod_eq_of_lt hx]; rw [vb_lo hx, ofNat_self], by simp only [val]; omega⟩
  rw [joinN_yes hf, joinB_yes hf, show val [x] = x.toNat by simp only [val, Nat.mul_zero, Nat.add_zero, Nat.mod_eq_of_lt hx]]
  have hbb := band8_127 (byte_lt x)
  rw [Nat.mod_eq_of_lt hx] at hbb
  have hor : bits .or .u64 0 (x.toNat : Int) = (x.toNat : Int) := by
    have := bor (a := 0) (b := x.toNat) (by decide) (by omega)
    simpa using this
  clear hf
  go_enter Tryz.func98, Tryz.ntmps98
  go_wp2_with (go_quiet (fail))
  go_rounds 2
  go_returns
  exact ⟨rfl, rfl⟩
theorem join_more (b off cap : Nat) (l : List UInt8) (hn : 1 < l.length) (hz : (l.getD (l.length - 1) 0).toNat ≠ 0) (hg : grp l = l.length) (hl : l.length ≤ 140737488355328) (w : World)
    (hcell : ∀ i, i < l.length → w.cell? ⟨b, off + i, none⟩ = some (.int .u8 ((l.getD i 0).toNat : Int))) :
    Calls Tryz.prog 98 #[.slice (some ⟨b, off, none⟩) l.length cap] w fun x w' => x = .returned (.tuple #[.int .u64 (joinN l : Nat), .bool (joinB l)]) ∧ w' = w := by
  have hshort := (short_iff hg (by intro e; subst e; simp at hn)).2 (.inr hz)
  have hc := hcell (l.length - 1) (by omega)
  have hzb : (((l.getD (l.length - 1) 0).toNat : Int) == 0) = false := by rw [beq_eq_false_iff_ne]; omega
  have HC := Lib.hid hcell
  have HS := Lib.hid hshort
  generalize l.getD (l.length - 1) 0 = z at hc hzb
  clear hcell hshort hz hg
  go_enter Tryz.func98, Tryz.ntmps98
  go_wp2_with (go_quiet (fail))
  go_loop [2, 23] (fun u i => ∃ k n : Nat, k ≤ l.length ∧ i = .int .i64 k ∧ u = .int .u64 n ∧ n < 18446744073709551616 ∧ Hid (n = val (l.take k) ∧ ∀ i, i < k → (l.getD i 0).toNat % 128 * 2 ^ (7 * i) < 18446744073709551616)) (fun _ i => l.length - (intOf i).toNat)
  case atStart => exact ⟨0, 0, Nat.zero_le _, rfl, rfl, by decide, rfl, fun i hi => absurd hi (Nat.not_lt_zero _)⟩
  case round =>
    obtain ⟨k, n, hk, rfl, rfl, hn64, hr⟩ := hrel
    by_cases hlt : k < l.length
    · have hcx := HC.out k hlt
      have hbb := band8_127 (byte_lt (l.getD k 0))
      have HV := val_take_succ hlt
      have hn7 := val_take_lt l k hk
      rw [← hr.out.1] at hn7 HV
      have HV' := Lib.hid HV
      have HN7 := Lib.hid hn7
      have hg : (l.getD k 0).toNat % 128 < 128 := by omega
      have HI : Hid (∀ i, i < k + 1 → i < k ∨ i = k) := fun i hi => by omega
      generalize hgy : (l.getD k 0).toNat % 128 = g at *
      have HGY := Lib.hid hgy
      clear HV hn7 hgy
      generalize l.getD k 0 = y at hcx hbb
      have hs1 := run_shl (P := Tryz.prog) g (7 * k) ((k : Int) * 7) (by omega)
      by_cases hfit : g * 2 ^ (7 * k) < 18446744073709551616
      · obtain ⟨e1, e2⟩ := shl_lo hg hfit
        rw [e1] at hs1
        have hs2 := run_shr (P := Tryz.prog) (g * 2 ^ (7 * k)) (7 * k) ((k : Int) * 7) (by omega)
        rw [e2] at hs2
        have hor := bor hn64 hfit
        rw [or_add HN7.out] at hor
        have hall : Hid (∀ i, i < k + 1 → (l.getD i 0).toNat % 128 * 2 ^ (7 * i) < 18446744073709551616) := fun i hi => by
          rcases HI.out i hi with h | rfl
          · exact hr.out.2 i h
          · rw [HGY.out]; exact hfit
        have hsum : n + g * 2 ^ (7 * k) < 18446744073709551616 := by
          have := Nat.or_lt_two_pow (n := 64) hn64 hfit
          rwa [or_add HN7.out] at this
        generalize g * 2 ^ (7 * k) = A at *
        clear e1 e2 hr hfit
        go_wp2
        exact ⟨⟨k + 1, n + A, by omega, by simp, rfl, hsum, HV'.out.symm, hall.out⟩, by simp [intOf]; omega⟩
      · have e2 := shl_hi (k := k) hg (by omega)
        have hs2 := run_shr (P := Tryz.prog) (g * 2 ^ min (7 * k) 64 % 18446744073709551616) (7 * k) ((k : Int) * 7) (by omega)
        generalize g * 2 ^ min (7 * k) 64 % 18446744073709551616 = A at *
        generalize A / 2 ^ min (7 * k) 64 = C at *
        have hne : ((C : Int) != (g : Int)) = true := by simp; omega
        have hno : Hid (¬ fits l) := fun hh => by
          have := group_le hlt hh.2
          rw [HGY.out] at this
          exact hfit this
        clear e2 hr hfit
        go_wp2
        go_returns
        rw [joinN_no hno.out, joinB_no hno.out]
        exact ⟨rfl, rfl⟩
    · obtain rfl : k = l.length := by omega
      have hyes : Hid (fits l ∧ n = val l) := by
        have h1 := groups_fit hr.out.2 l.length (Nat.le_refl _)
        have h2 := hr.out.1
        rw [List.take_length] at h1 h2
        exact ⟨⟨HS.out, h1⟩, h2⟩
      clear hr
      go_wp2
      go_returns
      rw [joinN_yes hyes.out.1, joinB_yes hyes.out.1, ← hyes.out.2]
      exact ⟨rfl, rfl⟩
theorem join_any (b off cap : Nat) (l : List UInt8) (hn : 0 < l.length) (hg : grp l = l.length) (hl : l.length ≤ 140737488355328) (w : World)
    (hcell : ∀ i, i < l.length → w.cell? ⟨b, off + i, none⟩ = some (.int .u8 ((l.getD i 0).toNat : Int))) :
    Calls Tryz.prog 98 #[.slice (some ⟨b, off, none⟩) l.length cap] w fun x w' => x = .returned (.tuple #[.int .u64 (joinN l : Nat), .bool (joinB l)]) ∧ w' = w := by
  by_cases h1 : l.length = 1
  · match l, h1 with
    | [x], _ =>
      have hx := row_last hg (by simp)
      have hc : w.cell? ⟨b, off, none⟩ = some (.int .u8 (x.toNat : Int)) := hcell 0 (by simp)
      simp [List.getD] at hx
      exact join_one b off cap x hx w hc
  · by_cases hz : (l.getD (l.length - 1) 0).toNat = 0
    · exact join_zero b off cap l (by omega) hz hg hl w hcell
    · exact join_more b off cap l (by omega) hz hg hl w hcell
end
section
open Go.RowKit
theorem groups_none (ao : Option Addr) (cap : Nat) (w : World) : Calls Tryz.prog 97 #[.slice ao 0 cap] w fun x w' => x = .returned (.int .i64 0) ∧ w' = w :=
  groups_cells ao 0 0 cap [] (by simp) (by simp) w (by simp)
theorem groups_at (b off cap n G : Nat) (l : List UInt8) (hn : n = l.length) (hG : grp l = G) (hl : n ≤ 140737488355328) (w : World)
    (hcell : ∀ i, i < l.length → w.cell? ⟨b, off + i, none⟩ = some (.int .u8 ((l.getD i 0).toNat : Int))) :
    Calls Tryz.prog 97 #[.slice (some ⟨b, off, none⟩) n cap] w fun x w' => x = .returned (.int .i64 (G : Nat)) ∧ w' = w := by
  subst hn; subst hG
  exact groups_cells _ b off cap l (fun _ => rfl) hl w hcell
theorem join_at (b off cap n : Nat) (l : List UInt8) (hn : n = l.length) (h0 : 0 < n) (hg : grp l = n) (hl : n ≤ 140737488355328) (w : World)
    (hcell : ∀ i, i < l.length → w.cell? ⟨b, off + i, none⟩ = some (.int .u8 ((l.getD i 0).toNat : Int))) :
    Calls Tryz.prog 98 #[.slice (some ⟨b, off, none⟩) n cap] w fun x w' => x = .returned (.tuple #[.int .u64 (joinN l : Nat), .bool (joinB l)]) ∧ w' = w := by
  subst hn
  exact join_any b off cap l h0 hg hl w hcell
section
variable {K : Nat → Prop} {w : World} {p : Nat} {v : Value} {s : Rst}
theorem look_err (h : s.er ≠ 0) : look s = ((0, 0), s) := by unfold look; rw [if_pos h]
theorem look_short (h : s.er = 0) (hg : grp (s.bs.drop s.pl) = 0) : look s = ((0, 0), stopR 5 s.bs.length s) := by unfold look; rw [if_neg (by simp [h]), if_pos hg]
theorem look_form (h : s.er = 0) (hg : grp (s.bs.drop s.pl) ≠ 0) (hf : ¬ fits (rowAt s)) : look s = ((0, 0), stopR 4 s.pl s) := by unfold look; rw [if_neg (by simp [h]), if_neg hg, if_neg hf]
theorem look_ok (h : s.er = 0) (hg : grp (s.bs.drop s.pl) ≠ 0) (hf : fits (rowAt s)) : look s = ((unf (val (rowAt s)), grp (s.bs.drop s.pl)), s) := by unfold look; rw [if_neg (by simp [h]), if_neg hg, if_pos hf]
/-- What the reader's slice gives the walk where something is left. -/
theorem Rd.cells (h : Rd 69 K w p v s) (hl : s.pl < s.bs.length) : ∃ b off cap, v = .slice (some ⟨b, off, none⟩) s.bs.length cap ∧ s.bs.length ≤ cap ∧ cap ≤ 9223372036854775807 ∧ b < w.heap.size ∧ b ≠ p ∧
    ∀ i, i < s.bs.length → w.cell? ⟨b, off + i, none⟩ = some (.int .u8 ((s.bs.getD i 0).toNat : Int)) := by
  obtain ⟨ao, cap, hv, h1, h2, h3, h4⟩ := h.has
  rcases h4 with h4 | ⟨b, off, rfl, hB, hlt, hc⟩
  · rw [h4] at hl; simp at hl
  · exact ⟨b, off, cap, hv, h1, by unfold maxLen at h2; omega, hlt, h.lo b hB, hc⟩
theorem getD_drop (l : List UInt8) (k i : Nat) : (l.drop k).getD i 0 = l.getD (k + i) 0 := by
  simp [List.getD_eq_getElem?_getD, List.getElem?_drop]
theorem getD_take {l : List UInt8} {k i : Nat} (h : i < k) : (l.take k).getD i 0 = l.getD i 0 := by
  simp [List.getD_eq_getElem?_getD, h]
theorem integer_err (h : Rd 69 K w p v s) (he : s.er ≠ 0) : Calls Tryz.prog 75 #[.pointer (some ⟨p, 0, none⟩)] w fun x w' => x = .returned (.tuple #[.int .i64 (look s).1.1, .int .i64 ((look s).1.2 : Nat)]) ∧ Rd 69 K w' p v (look s).2 ∧ Fr (fun k => k = p) w w' := by
  rw [look_err he]
  have c2 := h.c2
  have hb : (s.er != 0) = true := by simp [he]
  have H := Lib.hid h; clear h he
  go_enter Tryz.func75, Tryz.ntmps75
  go_wp2
  go_returns
  exact ⟨rfl, H.out, Fr.refl _ _⟩
/-- Nothing is left. -/
theorem integer_end (h : Rd 69 K w p v s) (he : s.er = 0) (hl : s.pl = s.bs.length) : Calls Tryz.prog 75 #[.pointer (some ⟨p, 0, none⟩)] w fun x w' => x = .returned (.tuple #[.int .i64 (look s).1.1, .int .i64 ((look s).1.2 : Nat)]) ∧ Rd 69 K w' p v (look s).2 ∧ Fr (fun k => k = p) w w' := by
  rw [look_short he (by rw [hl, List.drop_length]; rfl)]
  have c0 := h.c0
  have c1 := h.c1
  have c2 := h.c2
  rw [he] at c2
  rw [hl] at c1
  have H := Lib.hid h
  obtain ⟨ao, cap, hv, h1, h2, h3, _⟩ := h.has
  have hp := h.pla rfl
  clear h
  rw [hv] at c0
  have hroom := H.out.room
  rcases hp with hp | ⟨b, off, n, c, hp⟩
  · rw [hv] at hp
    simp at hp
    obtain ⟨rfl, hbs, rfl⟩ := hp
    have HB := Lib.hid hbs
    rw [hbs] at c0 c1
    simp only [List.length_nil] at c0 c1
    clear h3 h1 hbs
    go_enter Tryz.func75, Tryz.ntmps75
    go_wp2_with (first
      | (go_at_call 97; refine (groups_none _ _ _).mono ?_; rintro x w1 ⟨rfl, rfl⟩)
      | (go_at_call 76; refine (meet_any (H.out.drewN _) 5 0).mono ?_; rintro x w1 ⟨rfl, h1, f1⟩; have H1 := Lib.hid h1; have F1 := Lib.hid f1; clear h1 f1)
      | go_quiet (fail))
    go_returns
    have := H1.out
    rw [show (0 : Nat) = s.bs.length by rw [HB.out]; rfl] at this
    exact ⟨rfl, this, Fr.same ((Fr.refl _ w).drewN _) F1.out⟩
  · rw [hv] at hp
    simp at hp
    obtain ⟨rfl, hnn, rfl⟩ := hp
    clear hnn
    have hcap : cap ≤ 9223372036854775807 := by unfold maxLen at h2; omega
    clear h2 h3 hl hv
    generalize hN : s.bs.length = N at *
    have HN := Lib.hid hN; clear hN
    go_enter Tryz.func75, Tryz.ntmps75
    go_wp2_with (first
      | (go_at_call 97; refine (groups_none _ _ _).mono ?_; rintro x w1 ⟨rfl, rfl⟩)
      | (go_at_call 76; refine (meet_any (H.out.drewN _) 5 N).mono ?_; rintro x w1 ⟨rfl, h1, f1⟩; have H1 := Lib.hid h1; have F1 := Lib.hid f1; clear h1 f1)
      | go_quiet (fail))
    all_goals go_returns
    all_goals exact ⟨rfl, H1.out, Fr.same ((Fr.refl _ w).drewN _) F1.out⟩
/-- Something is left. -/
theorem integer_more (h : Rd 69 K w p v s) (he : s.er = 0) (hl : s.pl < s.bs.length) : Calls Tryz.prog 75 #[.pointer (some ⟨p, 0, none⟩)] w fun x w' => x = .returned (.tuple #[.int .i64 (look s).1.1, .int .i64 ((look s).1.2 : Nat)]) ∧ Rd 69 K w' p v (look s).2 ∧ Fr (fun k => k = p) w w' := by
  have c0 := h.c0
  have c1 := h.c1
  have c2 := h.c2
  rw [he] at c2
  have hroom := h.room
  have H := Lib.hid h
  obtain ⟨b, off, cap, hv, h1, h2, h3, h4, hc⟩ := h.cells hl
  rw [hv] at c0
  clear h h3 h4
  have HE := Lib.hid he
  generalize hrest : s.bs.drop s.pl = rest
  have hrl : s.bs.length - s.pl = rest.length := by rw [← hrest, List.length_drop]
  have hcr : ∀ i, i < rest.length → w.cell? ⟨b, off + s.pl + i, none⟩ = some (.int .u8 ((rest.getD i 0).toNat : Int)) := fun i hi => by
    rw [← hrest, getD_drop, Nat.add_assoc]; exact hc _ (by omega)
  have HR := Lib.hid hrest
  have HRL := Lib.hid hrl
  have HCR := Lib.hid hcr
  have hgl := grp_le rest
  rw [← hrl] at hgl
  clear hc hcr hrl hrest hv he
  have HRowAt : Hid (rowAt s = rest.take (grp rest)) := by show _ = _; unfold rowAt; rw [HR.out]
  generalize hG : grp rest = G at *
  have HG := Lib.hid hG
  by_cases h0 : G = 0
  · subst h0
    have HL : Hid (look s = ((0, 0), stopR 5 s.bs.length s)) := look_short HE.out (by rw [HR.out]; exact hG)
    rw [HL.out]
    clear hG
    generalize s.bs.length = N at *
    go_enter Tryz.func75, Tryz.ntmps75
    go_wp2_with (first
      | (go_at_call 97; ((with_reducible refine (groups_at b (off + s.pl) (cap - s.pl) (N - s.pl) 0 rest HRL.out HG.out (by omega) _ (fun i hi => by simpa using HCR.out i hi)).mono ?_); rintro x w1 ⟨rfl, rfl⟩))
      | (go_at_call 76; ((with_reducible refine (meet_any (H.out.drewN _) 5 N).mono ?_); rintro x w1 ⟨rfl, h1, f1⟩; have H1 := Lib.hid h1; have F1 := Lib.hid f1; clear h1 f1))
      | go_quiet (fail))
    go_returns
    exact ⟨rfl, H1.out, Fr.same ((Fr.refl _ w).drewN _) F1.out⟩
  · have h0' : ((G : Int) == 0) = false := by rw [beq_eq_false_iff_ne]; omega
    have hne : grp (s.bs.drop s.pl) ≠ 0 := by rw [HR.out, hG]; exact h0
    have hgt : grp (rest.take G) = G := by have := grp_take (l := rest) (by rw [hG]; exact h0); rwa [hG] at this
    have hlt : G = (rest.take G).length := by rw [List.length_take, ← HRL.out]; omega
    have HCT : Hid (∀ i, i < (rest.take G).length → w.cell? ⟨b, off + s.pl + i, none⟩ = some (.int .u8 (((rest.take G).getD i 0).toNat : Int))) := fun i hi => by
      rw [← hlt] at hi
      rw [getD_take hi]
      exact HCR.out i (by rw [← HRL.out]; omega)
    have HGT := Lib.hid hgt
    have HLT := Lib.hid hlt
    by_cases hf : fits (rest.take G)
    · have HL : Hid (look s = ((unf (val (rest.take G)), G), s)) := by
        show _ = _
        rw [look_ok HE.out hne (by rw [HRowAt.out]; exact hf), HRowAt.out, HR.out, hG]
      rw [HL.out]
      have hjb := joinB_yes hf
      have hjn := joinN_yes hf
      have hU := hf.2
      clear hgt hlt hne hG hf
      generalize rest.take G = row at *
      generalize val row = U at *
      generalize s.bs.length = N at *
      go_enter Tryz.func75, Tryz.ntmps75
      go_wp2_with (first
        | (go_at_call 97; ((with_reducible refine (groups_at b (off + s.pl) (cap - s.pl) (N - s.pl) G rest HRL.out HG.out (by omega) _ (fun i hi => by simpa using HCR.out i hi)).mono ?_); rintro x w1 ⟨rfl, rfl⟩))
        | (go_at_call 98; ((with_reducible refine (join_at b (off + s.pl) (cap - s.pl) G row HLT.out (by omega) HGT.out (by omega) _ (fun i hi => by simpa using HCT.out i hi)).mono ?_); rintro x w1 ⟨rfl, rfl⟩))
        | (go_at_call 99; ((with_reducible refine (unfold_any U hU _).mono ?_); rintro x w1 ⟨rfl, rfl⟩))
        | go_quiet (fail))
      all_goals go_returns
      all_goals exact ⟨rfl, H.out.drewN _, (Fr.refl _ w).drewN _⟩
    · have HL : Hid (look s = ((0, 0), stopR 4 s.pl s)) := by
        show _ = _
        rw [look_form HE.out hne (by rw [HRowAt.out]; exact hf)]
      rw [HL.out]
      have hjb := joinB_no hf
      clear hgt hlt hne hG hf
      generalize rest.take G = row at *
      generalize s.bs.length = N at *
      go_enter Tryz.func75, Tryz.ntmps75
      go_wp2_with (first
        | (go_at_call 97; ((with_reducible refine (groups_at b (off + s.pl) (cap - s.pl) (N - s.pl) G rest HRL.out HG.out (by omega) _ (fun i hi => by simpa using HCR.out i hi)).mono ?_); rintro x w1 ⟨rfl, rfl⟩))
        | (go_at_call 98; ((with_reducible refine (join_at b (off + s.pl) (cap - s.pl) G row HLT.out (by omega) HGT.out (by omega) _ (fun i hi => by simpa using HCT.out i hi)).mono ?_); rintro x w1 ⟨rfl, rfl⟩))
        | (go_at_call 76; ((with_reducible refine (meet_any (H.out.drewN _) 4 s.pl).mono ?_); rintro x w1 ⟨rfl, h1, f1⟩; have H1 := Lib.hid h1; have F1 := Lib.hid f1; clear h1 f1))
        | go_quiet (fail))
      all_goals go_returns
      all_goals exact ⟨rfl, H1.out, Fr.same ((Fr.refl _ w).drewN _) F1.out⟩
theorem integer_any (h : Rd 69 K w p v s) : Calls Tryz.prog 75 #[.pointer (some ⟨p, 0, none⟩)] w fun x w' => x = .returned (.tuple #[.int .i64 (look s).1.1, .int .i64 ((look s).1.2 : Nat)]) ∧ Rd 69 K w' p v (look s).2 ∧ Fr (fun k => k = p) w w' := by
  by_cases he : s.er = 0
  · by_cases hl : s.pl = s.bs.length
    · exact integer_end h he hl
    · exact integer_more h he (by have := h.le; omega)
  · exact integer_err h he
end
end
end Go.Proofs.YtjkfcmadoeifgaaGreatDoor
