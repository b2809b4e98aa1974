/- prog.codeOf, prog.parseKey. Conditions: the table of steps lies whole; fewer than 2^47 bytes. -/
import Derived.Test.YtbgccaconhmbaaaGreatDoorJSz
import Derived.Test.YtbgccaconhmbaaaGreatDoorJPa
namespace Go.Proofs.YtbgccaconhmbaaaGreatDoor
open Go.ChangeShapes Go.WideShapes Go.ChangeAt Go.RowKit Go.Deep
/-- The code with the word, or nought. -/
def codeV (l : List UInt8) : Nat := ((List.range 16).find? fun k => wordC k == l).getD 0
theorem code_hit {l : List UInt8} {k : Nat} (hk : k < 16) (h : wordC k = l) (hn : ∀ j, j < k → wordC j ≠ l) : codeV l = k := by
  unfold codeV
  rw [List.find?_range_eq_some.2 ⟨by simpa using h, by simpa using hk, fun j hj => by simpa using hn j hj⟩]
  rfl
theorem code_none {l : List UInt8} (hn : ∀ j, j < 16 → wordC j ≠ l) : codeV l = 0 := by
  unfold codeV
  rw [List.find?_eq_none.2 fun k hk => by simpa using hn k (by simpa using hk)]
  rfl
theorem code_lt (l : List UInt8) : codeV l < 16 := by
  unfold codeV
  cases h : (List.range 16).find? fun k => wordC k == l with
  | none => decide
  | some k => have := List.mem_of_find?_eq_some h; simpa using this
theorem run_row (k : Nat) (hk : k < 16) : ∃ a b c : Int, ∀ w : World, (Instr.index 107 (.agg tabL.toArray) (.int .i64 (k : Int))).run Tryz.prog w = .ok (.agg #[.string ⟨(wordC k).toArray⟩, .int .i64 a, .int .i64 b, .int .i64 c]) w := by
  rcases Nat.eq_zero_or_pos k with rfl | h1
  · exact ⟨0, 0, 0, fun w => by kernel_rfl⟩
  · refine ⟨nmsC k, (popC k : Nat), (pushC k : Nat), fun w => ?_⟩
    have h : k = 1 ∨ k = 2 ∨ k = 3 ∨ k = 4 ∨ k = 5 ∨ k = 6 ∨ k = 7 ∨ k = 8 ∨ k = 9 ∨ k = 10 ∨ k = 11 ∨ k = 12 ∨ k = 13 ∨ k = 14 ∨ k = 15 := by omega
    rcases h with rfl | rfl | rfl | rfl | rfl | rfl | rfl | rfl | rfl | rfl | rfl | rfl | rfl | rfl | rfl <;> (show _ = _; kernel_rfl)
set_option maxRecDepth 100000 in
theorem codeOf_any (l : List UInt8) (w : World) (hT : Stb w) :
    Calls Tryz.prog 94 #[.string ⟨l.toArray⟩] w fun e w' => e = .returned (.int .i64 (codeV l : Int)) ∧ Below w.heap.size w w' := by
  obtain ⟨t, fr, hg⟩ := hT.tb
  have hz : tabL.toArray.size = 64 := by rw [List.size_toArray]; exact tab_len
  have hR := Lib.hid run_row
  have hx : (Tryz.prog.info? 107).map (·.size) = some tabL.toArray.size := by rw [hz]; kernel_rfl
  generalize tabL.toArray = T at *
  clear hT hz
  obtain ⟨r, hr⟩ : ∃ r, codeV l = r := ⟨_, rfl⟩
  rw [hr]
  have HC := Lib.hid hr
  clear hr
  go_enter Tryz.func94, Tryz.ntmps94
  go_wp2_with (refine wpList_load_row rfl 107 _ rfl 0 rfl t T fr _ hg Tryz.underlying107 rfl hx ?_)
  go_loopw [6] (fun vi wr => ∃ (k : Nat), vi = .int .i64 (k : Int) ∧ k ≤ 16 ∧ (∀ j, j < k → wordC j ≠ l) ∧ Hid (Below w.heap.size w wr)) (fun vi _ => 16 - (RowKit.intOf vi).toNat)
  case atStart => exact ⟨0, rfl, Nat.zero_le _, (fun j hj => absurd hj (Nat.not_lt_zero _)), Lib.hid (Below.refl _ _)⟩
  case round =>
    obtain ⟨k, rfl, hk, hno, HB⟩ := hrel
    have HN := Lib.hid hno
    clear hno
    by_cases hlt : k < 16
    · obtain ⟨a, b, c, hi⟩ := hR.out k hlt
      by_cases hw : wordC k = l
      · obtain rfl : k = r := (code_hit hlt hw HN.out).symm.trans HC.out
        rw [hw] at hi
        clear HN HC
        go_wp2
        go_ret
        exact ⟨rfl, HB.out.trans ((below1 _ _).mono HB.out.size)⟩
      · have hw2 : (wordC k == l) = false := by rw [beq_eq_false_iff_ne]; exact hw
        have HN2 : Hid (∀ j, j < k + 1 → wordC j ≠ l) := Lib.hid (fun j hj => by
          rcases Nat.lt_or_eq_of_le (Nat.le_of_lt_succ hj) with h | rfl
          · exact HN.out j h
          · exact hw)
        clear hw HN
        generalize wordC k = u at *
        go_wp2
        exact ⟨⟨k + 1, rfl, by omega, HN2.out, Lib.hid (HB.out.trans ((below1 _ _).mono HB.out.size))⟩, by simp [RowKit.intOf]; omega⟩
    · obtain rfl : k = 16 := by omega
      obtain rfl : 0 = r := (code_none HN.out).symm.trans HC.out
      clear HN HC
      go_wp2
      go_ret
      exact ⟨rfl, HB.out⟩
/-- A key's text, as it is written. -/
def pkV (l : List UInt8) : List UInt8 × Int :=
  match unqV l with
  | none => ([], 4)
  | some k => if keyV k then (k, 0) else ([], 4)
set_option maxRecDepth 100000 in
theorem parseKey_any (s : ByteArray) (hs : s.size ≤ 140737488355328) (w : World) :
    Calls Tryz.prog 95 #[.string s] w fun e w' => e = .returned (.tuple #[.string ⟨(pkV s.data.toList).1.toArray⟩, .int .i64 (pkV s.data.toList).2]) ∧ Below w.heap.size w w' := by
  have HU := Lib.hid (unquote_any s hs w)
  cases h : unqV s.data.toList with
  | none =>
    rw [show pkV s.data.toList = ([], 4) from by unfold pkV; rw [h]]
    rw [h] at HU
    clear h hs
    go_enter Tryz.func95, Tryz.ntmps95
    go_wp2_with (go_at_call 128; refine HU.out.mono ?_; rintro e w1 ⟨rfl, hb⟩; have HB := Lib.hid hb; clear hb)
    go_returns
    exact ⟨rfl, HB.out⟩
  | some k =>
    have e : pkV s.data.toList = if keyV k then (k, 0) else ([], 4) := by unfold pkV; rw [h]
    rw [e]
    rw [h] at HU
    have HK := fun w => Lib.hid (key_any k w)
    clear h hs e
    cases hk : keyV k <;> rw [hk] at HK
    · rw [if_neg Bool.noConfusion]
      go_enter Tryz.func95, Tryz.ntmps95
      go_wp2_with (first
        | (go_at_call 128; refine HU.out.mono ?_; rintro e w1 ⟨rfl, hb⟩; have HB := Lib.hid hb; clear hb)
        | (go_at_call 65; refine (HK _).out.mono ?_; rintro e w2 ⟨rfl, rfl⟩))
      go_returns
      exact ⟨rfl, HB.out⟩
    · rw [if_pos rfl]
      go_enter Tryz.func95, Tryz.ntmps95
      go_wp2_with (first
        | (go_at_call 128; refine HU.out.mono ?_; rintro e w1 ⟨rfl, hb⟩; have HB := Lib.hid hb; clear hb)
        | (go_at_call 65; refine (HK _).out.mono ?_; rintro e w2 ⟨rfl, rfl⟩))
      go_returns
      exact ⟨rfl, HB.out⟩
end Go.Proofs.YtbgccaconhmbaaaGreatDoor
