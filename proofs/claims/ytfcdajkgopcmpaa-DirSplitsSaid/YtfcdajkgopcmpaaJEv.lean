/- place.Even, part, raceref4.Even: so many ranges, all of one size, a cover. Conditions: none. -/
import Derived.Test.YtfcdajkgopcmpaaJOw
import Derived.Test.YtfcdajkgopcmpaaJCk
import Derived.Test.YtfcdajkgopcmpaaJFi
namespace Go.Proofs.Ytfcdajkgopcmpaa
open Go.ChangeShapes Go.WideShapes Go.ChangeAt Go.RowKit Ieee
def partN (i n : Nat) : Nat := (double.div (cvtN i) (cvtN n)).getD 0
def evenV (n : Nat) : List RV := (List.range n).map fun i : Nat => ⟨(i : Int) + 1, 0, partN i n, partN (i + 1) n⟩
theorem part_all : ∀ n < 13, ∀ i < 13, n ≠ 0 → i ≤ n → double.div (cvtN i) (cvtN n) = some (partN i n) ∧ partN i n ≤ oneB := by decide +kernel
theorem part_spec {i n : Nat} (h0 : 0 < n) (h : n ≤ 12) (hi : i ≤ n) : double.div (cvtN i) (cvtN n) = some (partN i n) ∧ partN i n ≤ oneB := part_all n (by omega) i (by omega) (by omega) hi
theorem even_check : ∀ n < 13, n ≠ 0 → checkV (evenV n) = 0 := by decide +kernel
theorem even_cov {n : Nat} (h0 : 0 < n) (h : n ≤ 12) : Cov (evenV n) := check_zero.1 (even_check n (by omega) (by omega))
theorem even_length (n : Nat) : (evenV n).length = n := by simp [evenV]
theorem even_at {n i : Nat} (h : i < n) : (evenV n)[i]'(by rw [even_length]; exact h) = ⟨(i : Int) + 1, 0, partN i n, partN (i + 1) n⟩ := by simp [evenV]
theorem one_inf {x : Nat} (h : x ≤ oneB) : x < infR := Nat.lt_of_le_of_lt h (by decide)
theorem reven_bad (a : Int) (h : a < 1 ∨ 12 < a) (w : World) : Calls Try.prog 21 #[.int .i64 a] w fun e w' => e = .returned (.tuple #[.slice none 0 0, .int .i64 1]) ∧ w = w' := by
  rcases h with h | h
  · go_enter Try.func21, Try.ntmps21
    go_wp2
    go_ret2
    exact ⟨rfl, rfl⟩
  · have h2 : ¬ a < 1 := by omega
    go_enter Try.func21, Try.ntmps21
    go_wp2
    go_ret2
    exact ⟨rfl, rfl⟩
theorem has_lit (w : World) (r : RV) : HasR (fun k => w.heap.size ≤ k) (w.alloc (robj r)) (.slice (some ⟨w.heap.size, 0, none⟩) 1 1) [r] := by
  have h := at_new w r
  refine ⟨_, 1, rfl, Nat.le_refl _, by decide, (fun e => by cases e), .inr ⟨w.heap.size, 0, rfl, Nat.le_refl _, h.lt, fun i hi => ?_⟩⟩
  have : i = 0 := by simp at hi; exact hi
  subst this
  exact ⟨h.c0, h.c1, h.c2, h.c3⟩
theorem cells_snoc (l : List RV) (r : RV) : cellsR (l ++ [r]) = cellsR l ++ cellsR [r] := by simp [cellsR]
theorem even_take {n i : Nat} (h : i < n) : (evenV n).take (i + 1) = (evenV n).take i ++ [⟨(i : Int) + 1, 0, partN i n, partN (i + 1) n⟩] := by
  rw [List.take_add_one, List.getElem?_eq_getElem (by rw [even_length]; exact h), even_at h]; rfl
/-- Cells of one range, in a new block. -/
theorem news_lit (w : World) (r : RV) : ∀ j u, (cellsR [r])[j]? = some u → (w.alloc (robj r)).cell? ((⟨w.heap.size, 0, none⟩ : Addr).add j) = some u := (has_lit w r).news _ rfl
theorem info34s : ∃ i0, Try.prog.info? 37 = some i0 ∧ i0.zero = some (.agg #[.int .i64 0, .int .i64 0, .float .f64 0, .float .f64 0]) ∧ i0.size = 4 ∧ i0.bytes = 32 := by
  obtain ⟨i0, h1, h2⟩ := Option.map_eq_some_iff.1 info34
  simp only [Prod.mk.injEq] at h2
  exact ⟨i0, h1, h2.1, h2.2.1, h2.2.2⟩
set_option maxRecDepth 100000 in
set_option maxHeartbeats 1000000 in
theorem reven_any (n : Nat) (h0 : 0 < n) (h : n ≤ 12) (w : World) :
    Calls Try.prog 21 #[.int .i64 n] w fun e w' => ∃ v, e = .returned (.tuple #[v, .int .i64 0]) ∧ w'.ownsRow w.heap.size 37 4 v n (cellsR (evenV n)) ∧ Below w.heap.size w w' := by
  obtain ⟨i0, hi, hz0, hz1, hz2⟩ := info34s
  have HP := fun i (hi : i ≤ n) => Lib.hid (part_spec h0 h hi).1
  have HF : Hid (evenV n = (evenV n).take n) := (List.take_of_length_le (by rw [even_length]; exact Nat.le_refl _)).symm
  have H0 := Lib.hid h0
  have h1 : ¬ (n : Int) < 1 := by omega
  have h2 : ¬ (12 : Int) < (n : Int) := by omega
  have e2 : floatOfInt .f64 (n : Int) = cvtN n := rfl
  go_enter Try.func21, Try.ntmps21
  go_wp2
  go_loopw [4, 5] (fun v i wr => ∃ k : Nat, k ≤ n ∧ i = .int .i64 ((k : Int) + 1) ∧ Hid (wr.ownsRow w.heap.size 37 4 v k (cellsR ((evenV n).take k))) ∧ Hid (Below w.heap.size w wr)) (fun _ i _ => n + 1 - (intOf i).toNat)
  case atStart => exact ⟨0, Nat.zero_le _, rfl, World.ownsRow_nil _ _ _ _, Below.refl _ _⟩
  case round =>
    obtain ⟨k, hk, rfl, HO, HW⟩ := hrel
    by_cases hkn : k < n
    · have HT := Lib.hid (even_take hkn)
      have e0 : floatOfInt .f64 (k : Int) = cvtN k := rfl
      have e1 : floatOfInt .f64 ((k : Int) + 1) = cvtN (k + 1) := rfl
      have r1 := fun w => run_float_arith (P := Try.prog) w .quo 35 .f64 _ _ _ (HP k (by omega)).out
      have r2 := fun w => run_float_arith (P := Try.prog) w .quo 35 .f64 _ _ _ (HP (k + 1) (by omega)).out
      have hs := HW.out.size
      generalize partN k n = x at *
      generalize partN (k + 1) n = y at *
      generalize cvtN k = a at *
      generalize cvtN (k + 1) = b at *
      generalize cvtN n = c at *
      go_wp2_with (first
        | (at_builtin; refine wpList_append_own _ rfl (.tmp 17) (.tmp 31) 22 rfl w.heap.size 37 i0 _ 4 32 Try.underlying22 hi hz0 hz1 hz2 rfl (by decide) _ k _ rfl (HO.out.alloc _) ⟨wr.heap.size, 0, none⟩ 1 1 (cellsR [⟨(k : Int) + 1, 0, x, y⟩]) rfl rfl (news_lit wr ⟨(k : Int) + 1, 0, x, y⟩) (cellsR_one _) (by unfold maxLen; omega) (by omega) (by simp; omega) ?_; intro v2 w2 hown hg _; have HO2 := Lib.hid hown; have HW2 := Lib.hid ((HW.out.alloc hs _).grown hg (by simp; omega) (fun k hk => (HO.out.lt k hk).1)); clear hown hg))
      go_roundw
      case rel => exact ⟨k + 1, by omega, by go_num, by rw [HT.out, cells_snoc]; exact HO2, HW2⟩
      case measure => simp [intOf]; omega
    · obtain rfl : k = n := by omega
      go_wp2
      go_ret2
      exact ⟨_, rfl, by rw [HF.out]; exact HO.out, HW.out⟩
end Go.Proofs.Ytfcdajkgopcmpaa
