/- Contracts of wire's fold, unfold, groups and join: numbers as rows of groups and back. Conditions: ints and words in their range, rows of at most 2^47 bytes. -/
import Derived.Test.YtioopibmpcbcjaaR1
import Derived.Test.YtioopibmpcbcjaaQ
namespace Go.Proofs.Ytioopibmpcbcjaa
open Go.RowKit
theorem fold_any (n : Int) (h : -9223372036854775808 ≤ n) (h2 : n < 9223372036854775808) (w : World) : Calls Try.prog 60 #[.int .i64 n] w fun x w' => x = .returned (.int .u64 (foldN n : Nat)) ∧ w' = w := by
  by_cases hn : n < 0
  · have e1 : IntKind.u64.wrap n = ((18446744073709551616 + n).toNat : Int) := by rw [IntKind.wrap_u64]; omega
    have e2 := bnot (n := (18446744073709551616 + n).toNat) (by omega)
    have e3 : IntKind.u64.wrap (((18446744073709551615 - (18446744073709551616 + n).toNat : Nat) : Int) * 2) = ((18446744073709551615 - (18446744073709551616 + n).toNat) * 2 : Nat) := by rw [IntKind.wrap_u64]; omega
    have e4 := bor (a := (18446744073709551615 - (18446744073709551616 + n).toNat) * 2) (b := 1) (by omega) (by decide)
    rw [or_1] at e4
    have e5 : foldN n = (18446744073709551615 - (18446744073709551616 + n).toNat) * 2 + 1 := by unfold foldN; rw [if_pos hn]; omega
    rw [e5]
    have key : bits .or .u64 (IntKind.u64.wrap (bits .xor .u64 IntKind.u64.max (IntKind.u64.wrap n) * 2)) 1 = (((18446744073709551615 - (18446744073709551616 + n).toNat) * 2 + 1 : Nat) : Int) := by
      rw [e1, e2, e3]; exact e4
    have K := Lib.hid key
    clear key e1 e2 e3 e4 e5
    go_enter Try.func60, Try.ntmps60
    go_wp2
    go_ret
    rw [K.out]
    exact ⟨rfl, rfl⟩
  · have e5 : (foldN n : Int) = n * 2 := by unfold foldN; rw [if_neg hn]; omega
    have K := Lib.hid e5
    clear e5
    go_enter Try.func60, Try.ntmps60
    go_wp2
    go_ret
    rw [K.out]
    exact ⟨rfl, rfl⟩
theorem unfold_any (u : Nat) (h : u < 18446744073709551616) (w : World) : Calls Try.prog 68 #[.int .u64 (u : Int)] w fun x w' => x = .returned (.int .i64 (unf u)) ∧ w' = w := by
  have hb := band_1 h
  by_cases hn : u % 2 = 1
  · rw [hn] at hb
    have hb2 : (bits .and .u64 (u : Int) 1 != 0) = true := by rw [hb]; rfl
    have e2 := bnot (n := u / 2) (by omega)
    have key : wrap64 (bits .xor .u64 IntKind.u64.max ((u : Int) / 2)) = unf u := by
      rw [show ((u : Int) / 2) = ((u / 2 : Nat) : Int) from (Int.natCast_ediv _ _).symm, e2]
      unfold unf wrap64
      rw [if_pos hn]
      omega
    have K := Lib.hid key
    clear key e2 hb
    go_enter Try.func68, Try.ntmps68
    go_wp2
    go_ret
    rw [K.out]
    exact ⟨rfl, rfl⟩
  · have h0 : u % 2 = 0 := by omega
    rw [h0] at hb
    have hb2 : (bits .and .u64 (u : Int) 1 != 0) = false := by rw [hb]; rfl
    have key : unf u = (u : Int) / 2 := by unfold unf; rw [if_neg hn]; omega
    have K := Lib.hid key
    clear key hb
    go_enter Try.func68, Try.ntmps68
    go_wp2
    go_ret
    rw [K.out]
    exact ⟨rfl, rfl⟩

/-- What the walks want of a slice of bytes: its length and its cells. -/
theorem groups_cells (ao : Option Addr) (b off cap : Nat) (l : List UInt8) (hao : 0 < l.length → ao = some ⟨b, off, none⟩) (hl : l.length ≤ 140737488355328) (w : World)
    (hcell : ∀ i, i < l.length → w.cell? ⟨b, off + i, none⟩ = some (.int .u8 ((l.getD i 0).toNat : Int))) :
    Calls Try.prog 66 #[.slice ao l.length cap] w fun x w' => x = .returned (.int .i64 (grp l : Nat)) ∧ w' = w := by
  have HA := Lib.hid hao
  have HC := Lib.hid hcell
  clear hao hcell
  go_enter Try.func66, Try.ntmps66
  go_wp2
  go_loop [7] (fun i => ∃ k : Nat, k ≤ l.length ∧ i = .int .i64 k ∧ Hid (∀ i, i < k → 128 ≤ (l.getD i 0).toNat)) (fun i => l.length - (intOf i).toNat)
  case atStart => exact ⟨0, Nat.zero_le _, rfl, fun i hi => absurd hi (Nat.not_lt_zero _)⟩
  case round =>
    obtain ⟨k, hk, rfl, hr⟩ := hrel
    by_cases hlt : k < l.length
    · obtain rfl := HA.out (by omega)
      have hcx := HC.out k hlt
      have HR : Hid (128 ≤ (l.getD k 0).toNat → ∀ i, i < k + 1 → 128 ≤ (l.getD i 0).toNat) := fun h i hi => by
        rcases Nat.lt_or_ge i k with h1 | h1
        · exact hr.out i h1
        · obtain rfl : i = k := by omega
          exact h
      have HG : Hid ((l.getD k 0).toNat < 128 → grp l = k + 1) := fun h => by
        have e := grp_drop k hk hr.out
        have e2 : l.drop k = l.getD k 0 :: l.drop (k + 1) := by
          rw [List.drop_eq_getElem_cons hlt, List.getD_eq_getElem?_getD, List.getElem?_eq_getElem hlt]; rfl
        rw [e2] at e
        simp only [grp, if_pos h] at e
        simp at e
        omega
      clear hr
      generalize l.getD k 0 = y at *
      have hy := byte_lt y
      by_cases hm : y.toNat < 128
      · have hb := more_no hm
        go_wp2
        go_ret
        rw [HG.out hm]
        exact ⟨by simp, rfl⟩
      · have hb := more_yes (by omega) hy
        go_wp2
        exact ⟨⟨k + 1, by omega, by simp, HR.out (by omega)⟩, by simp [intOf]; omega⟩
    · obtain rfl : k = l.length := by omega
      have HG : Hid (grp l = 0) := by
        have e := grp_drop l.length (Nat.le_refl _) hr.out
        rw [List.drop_length] at e
        show grp l = 0
        simpa [grp] using e
      clear hr
      go_wp2
      go_ret
      rw [HG.out]
      exact ⟨rfl, rfl⟩
/- Shifts by a number that is not written out. -/
theorem run_shl {P : Program} (g m : Nat) (y : Int) (hy : y = m) (w : World) : (Op.shift .shl .u64 (g : Int) .i64 y).run P w = .ok (.int .u64 ((g * 2 ^ min m 64 % 18446744073709551616 : Nat) : Int)) w := by
  subst hy
  unfold Op.shift
  rw [if_neg (by omega)]
  show Sem.run P (pure (Value.int .u64 (IntKind.u64.wrap ((g : Int) * 2 ^ min (m : Int).toNat 64)))) w = _
  rw [Sem.run_pure, IntKind.wrap_u64, Int.toNat_natCast]
  congr 2
theorem run_shr {P : Program} (g m : Nat) (y : Int) (hy : y = m) (w : World) : (Op.shift .shr .u64 (g : Int) .i64 y).run P w = .ok (.int .u64 ((g / 2 ^ min m 64 : Nat) : Int)) w := by
  subst hy
  unfold Op.shift
  rw [if_neg (by omega)]
  show Sem.run P (pure (Value.int .u64 ((g : Int).fdiv (2 ^ min (m : Int).toNat 64)))) w = _
  rw [Sem.run_pure, Int.toNat_natCast, show ((2 : Int) ^ min m 64) = ((2 ^ min m 64 : Nat) : Int) by simp, Int.fdiv_eq_ediv_of_nonneg _ (Int.natCast_nonneg _)]
  congr 2
def joinN (l : List UInt8) : Nat := if fits l then val l else 0
theorem joinN_yes {l : List UInt8} (h : fits l) : joinN l = val l := if_pos h
theorem joinN_no {l : List UInt8} (h : ¬ fits l) : joinN l = 0 := if_neg h
def joinB (l : List UInt8) : Bool := decide (fits l)
theorem joinB_yes {l : List UInt8} (h : fits l) : joinB l = true := decide_eq_true h
theorem joinB_no {l : List UInt8} (h : ¬ fits l) : joinB l = false := decide_eq_false h
theorem join_zero (b off cap : Nat) (l : List UInt8) (hn : 1 < l.length) (hz : (l.getD (l.length - 1) 0).toNat = 0) (hg : grp l = l.length) (hl : l.length ≤ 140737488355328) (w : World)
    (hcell : ∀ i, i < l.length → w.cell? ⟨b, off + i, none⟩ = some (.int .u8 ((l.getD i 0).toNat : Int))) :
    Calls Try.prog 67 #[.slice (some ⟨b, off, none⟩) l.length cap] w fun x w' => x = .returned (.tuple #[.int .u64 (joinN l : Nat), .bool (joinB l)]) ∧ w' = w := by
  have hf : ¬ fits l := fun hh => by
    rcases (short_iff hg (by intro e; subst e; simp at hn)).1 hh.1 with h | h
    · omega
    · exact h hz
  rw [joinN_no hf, joinB_no hf]
  have hc := hcell (l.length - 1) (by omega)
  rw [hz] at hc
  clear hcell hf hg
  go_enter Try.func67, Try.ntmps67
  go_wp2_with (go_quiet (fail))
  go_returns
  exact ⟨rfl, rfl⟩
theorem join_one (b off cap : Nat) (x : UInt8) (hx : x.toNat < 128) (w : World) (hc : w.cell? ⟨b, off, none⟩ = some (.int .u8 (x.toNat : Int))) :
    Calls Try.prog 67 #[.slice (some ⟨b, off, none⟩) 1 cap] w fun e w' => e = .returned (.tuple #[.int .u64 (joinN [x] : Nat), .bool (joinB [x])]) ∧ w' = w := by
  have hf : fits [x] := ⟨by simp only [val, Nat.mul_zero, Nat.add_zero, Nat.mod_eq_of_lt hx]; rw [vb_lo hx, ofNat_self], by simp only [val]; omega⟩
  rw [joinN_yes hf, joinB_yes hf, show val [x] = x.toNat by simp only [val, Nat.mul_zero, Nat.add_zero, Nat.mod_eq_of_lt hx]]
  have hbb := band8_127 (byte_lt x)
  rw [Nat.mod_eq_of_lt hx] at hbb
  have hor : bits .or .u64 0 (x.toNat : Int) = (x.toNat : Int) := by
    have := bor (a := 0) (b := x.toNat) (by decide) (by omega)
    simpa using this
  clear hf
  go_enter Try.func67, Try.ntmps67
  go_wp2_with (go_quiet (fail))
  go_rounds 2
  go_returns
  exact ⟨rfl, rfl⟩
theorem join_more (b off cap : Nat) (l : List UInt8) (hn : 1 < l.length) (hz : (l.getD (l.length - 1) 0).toNat ≠ 0) (hg : grp l = l.length) (hl : l.length ≤ 140737488355328) (w : World)
    (hcell : ∀ i, i < l.length → w.cell? ⟨b, off + i, none⟩ = some (.int .u8 ((l.getD i 0).toNat : Int))) :
    Calls Try.prog 67 #[.slice (some ⟨b, off, none⟩) l.length cap] w fun x w' => x = .returned (.tuple #[.int .u64 (joinN l : Nat), .bool (joinB l)]) ∧ w' = w := by
  have hshort := (short_iff hg (by intro e; subst e; simp at hn)).2 (.inr hz)
  have hc := hcell (l.length - 1) (by omega)
  have hzb : (((l.getD (l.length - 1) 0).toNat : Int) == 0) = false := by rw [beq_eq_false_iff_ne]; omega
  have HC := Lib.hid hcell
  have HS := Lib.hid hshort
  generalize l.getD (l.length - 1) 0 = z at hc hzb
  clear hcell hshort hz hg
  go_enter Try.func67, Try.ntmps67
  go_wp2_with (go_quiet (fail))
  go_loop [2, 23] (fun u i => ∃ k n : Nat, k ≤ l.length ∧ i = .int .i64 k ∧ u = .int .u64 n ∧ n < 18446744073709551616 ∧ Hid (n = val (l.take k) ∧ ∀ i, i < k → (l.getD i 0).toNat % 128 * 2 ^ (7 * i) < 18446744073709551616)) (fun _ i => l.length - (intOf i).toNat)
  case atStart => exact ⟨0, 0, Nat.zero_le _, rfl, rfl, by decide, rfl, fun i hi => absurd hi (Nat.not_lt_zero _)⟩
  case round =>
    obtain ⟨k, n, hk, rfl, rfl, hn64, hr⟩ := hrel
    by_cases hlt : k < l.length
    · have hcx := HC.out k hlt
      have hbb := band8_127 (byte_lt (l.getD k 0))
      have HV := val_take_succ hlt
      have hn7 := val_take_lt l k hk
      rw [← hr.out.1] at hn7 HV
      have HV' := Lib.hid HV
      have HN7 := Lib.hid hn7
      have hg : (l.getD k 0).toNat % 128 < 128 := by omega
      have HI : Hid (∀ i, i < k + 1 → i < k ∨ i = k) := fun i hi => by omega
      generalize hgy : (l.getD k 0).toNat % 128 = g at *
      have HGY := Lib.hid hgy
      clear HV hn7 hgy
      generalize l.getD k 0 = y at hcx hbb
      have hs1 := run_shl (P := Try.prog) g (7 * k) ((k : Int) * 7) (by omega)
      by_cases hfit : g * 2 ^ (7 * k) < 18446744073709551616
      · obtain ⟨e1, e2⟩ := shl_lo hg hfit
        rw [e1] at hs1
        have hs2 := run_shr (P := Try.prog) (g * 2 ^ (7 * k)) (7 * k) ((k : Int) * 7) (by omega)
        rw [e2] at hs2
        have hor := bor hn64 hfit
        rw [or_add HN7.out] at hor
        have hall : Hid (∀ i, i < k + 1 → (l.getD i 0).toNat % 128 * 2 ^ (7 * i) < 18446744073709551616) := fun i hi => by
          rcases HI.out i hi with h | rfl
          · exact hr.out.2 i h
          · rw [HGY.out]; exact hfit
        have hsum : n + g * 2 ^ (7 * k) < 18446744073709551616 := by
          have := Nat.or_lt_two_pow (n := 64) hn64 hfit
          rwa [or_add HN7.out] at this
        generalize g * 2 ^ (7 * k) = A at *
        clear e1 e2 hr hfit
        go_wp2
        exact ⟨⟨k + 1, n + A, by omega, by simp, rfl, hsum, HV'.out.symm, hall.out⟩, by simp [intOf]; omega⟩
      · have e2 := shl_hi (k := k) hg (by omega)
        have hs2 := run_shr (P := Try.prog) (g * 2 ^ min (7 * k) 64 % 18446744073709551616) (7 * k) ((k : Int) * 7) (by omega)
        generalize g * 2 ^ min (7 * k) 64 % 18446744073709551616 = A at *
        generalize A / 2 ^ min (7 * k) 64 = C at *
        have hne : ((C : Int) != (g : Int)) = true := by simp; omega
        have hno : Hid (¬ fits l) := fun hh => by
          have := group_le hlt hh.2
          rw [HGY.out] at this
          exact hfit this
        clear e2 hr hfit
        go_wp2
        go_returns
        rw [joinN_no hno.out, joinB_no hno.out]
        exact ⟨rfl, rfl⟩
    · obtain rfl : k = l.length := by omega
      have hyes : Hid (fits l ∧ n = val l) := by
        have h1 := groups_fit hr.out.2 l.length (Nat.le_refl _)
        have h2 := hr.out.1
        rw [List.take_length] at h1 h2
        exact ⟨⟨HS.out, h1⟩, h2⟩
      clear hr
      go_wp2
      go_returns
      rw [joinN_yes hyes.out.1, joinB_yes hyes.out.1, ← hyes.out.2]
      exact ⟨rfl, rfl⟩
theorem join_any (b off cap : Nat) (l : List UInt8) (hn : 0 < l.length) (hg : grp l = l.length) (hl : l.length ≤ 140737488355328) (w : World)
    (hcell : ∀ i, i < l.length → w.cell? ⟨b, off + i, none⟩ = some (.int .u8 ((l.getD i 0).toNat : Int))) :
    Calls Try.prog 67 #[.slice (some ⟨b, off, none⟩) l.length cap] w fun x w' => x = .returned (.tuple #[.int .u64 (joinN l : Nat), .bool (joinB l)]) ∧ w' = w := by
  by_cases h1 : l.length = 1
  · match l, h1 with
    | [x], _ =>
      have hx := row_last hg (by simp)
      have hc := hcell 0 (by simp)
      simp [List.getD] at hx hc
      exact join_one b off cap x hx w hc
  · by_cases hz : (l.getD (l.length - 1) 0).toNat = 0
    · exact join_zero b off cap l (by omega) hz hg hl w hcell
    · exact join_more b off cap l (by omega) hz hg hl w hcell
end Go.Proofs.Ytioopibmpcbcjaa
