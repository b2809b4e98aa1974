/- slices.Clone of a row of ranges. Conditions: none. -/
import Derived.Test.YtfcdajkgopcmpaaRr
import Derived.Laws.AppendOwn
import Derived.Lib.SliceRun
namespace Go.Proofs.Ytfcdajkgopcmpaa
open Go.ChangeShapes Go.WideShapes Go.ChangeAt Go.RowKit Go.Lib
/-- The cells of a row of ranges. -/
def cellsR (l : List RV) : List Value := l.flatMap fun r => [.int .i64 r.i, .int .i64 r.e, .float .f64 r.lo, .float .f64 r.hi]
theorem cellsR_cons (r : RV) (t : List RV) : cellsR (r :: t) = [.int .i64 r.i, .int .i64 r.e, .float .f64 r.lo, .float .f64 r.hi] ++ cellsR t := rfl
theorem cellsR_length : ∀ l : List RV, (cellsR l).length = l.length * 4
  | [] => rfl
  | r :: t => by rw [cellsR_cons, List.length_append, cellsR_length t, List.length_cons]; simp only [List.length_cons, List.length_nil]; omega
theorem cellsR_one : ∀ l : List RV, ∀ u ∈ cellsR l, u.oneCell' = true
  | [], u, h => by cases h
  | r :: t, u, h => by
    rw [cellsR_cons] at h
    rcases List.mem_append.1 h with h | h
    · simp only [List.mem_cons, List.not_mem_nil, or_false] at h
      rcases h with rfl | rfl | rfl | rfl <;> rfl
    · exact cellsR_one t u h
theorem cellsR_at {w : World} {b : Nat} : ∀ (l : List RV) (o : Nat), (∀ i, (h : i < l.length) → RAt w b (o + i * 4) l[i]) → ∀ (j : Nat) (u : Value), (cellsR l)[j]? = some u → w.cell? ⟨b, o + j, none⟩ = some u
  | [], _, _, j, u, h => by simp [cellsR] at h
  | r :: t, o, hc, j, u, h => by
    rw [cellsR_cons] at h
    have h0 := hc 0 (Nat.succ_pos _)
    match j, h with
    | 0, h => simpa [← Option.some.inj h] using h0.c0
    | 1, h => simpa [← Option.some.inj h] using h0.c1
    | 2, h => simpa [← Option.some.inj h] using h0.c2
    | 3, h => simpa [← Option.some.inj h] using h0.c3
    | j + 4, h =>
      have := cellsR_at t (o + 4) (fun i hi => by
        have := hc (i + 1) (Nat.succ_lt_succ hi)
        rw [show o + 4 + i * 4 = o + (i + 1) * 4 by omega]
        exact this) j u h
      rw [show o + (j + 4) = o + 4 + j by omega]
      exact this
theorem info34 : (Try.prog.info? 37).map (fun i => (i.zero, i.size, i.bytes)) = some (some (.agg #[.int .i64 0, .int .i64 0, .float .f64 0, .float .f64 0]), 4, 32) := by kernel_rfl
theorem RAt.new {w : World} {b o : Nat} {r : RV} (h : RAt w b o r) (o' : Obj) (hb : b < w.heap.size) : RAt (w.alloc o') b o r := h.below (below1 w o') hb
set_option maxRecDepth 100000 in
set_option maxHeartbeats 2000000 in
theorem clone_some (l : List RV) (n b o cap : Nat) (hn : l.length = n) (hm : n ≤ 1000000) (w : World) (hc : ∀ i, (h : i < l.length) → RAt w b (o + i * 4) l[i]) :
    Calls Try.prog 54 #[.slice (some ⟨b, o, none⟩) n cap] w fun e w' => ∃ v', e = .returned v' ∧ w'.ownsRow w.heap.size 37 4 v' n (cellsR l) ∧ Below w.heap.size w w' := by
  obtain ⟨i0, hi, hz0, hz1, hz2⟩ : ∃ i0, Try.prog.info? 37 = some i0 ∧ i0.zero = some (.agg #[.int .i64 0, .int .i64 0, .float .f64 0, .float .f64 0]) ∧ i0.size = 4 ∧ i0.bytes = 32 := by
    obtain ⟨i0, h1, h2⟩ := Option.map_eq_some_iff.1 info34
    simp only [Prod.mk.injEq] at h2
    exact ⟨i0, h1, h2.1, h2.2.1, h2.2.2⟩
  have HC := Lib.hid (cellsR_at l o hc)
  have HL := Lib.hid (cellsR_length l)
  rw [hn] at HL
  have HO := Lib.hid (cellsR_one l)
  have q41 : ∀ (w : World) (a : Option Addr) (n c n' c' : Nat), (binOp .eql 22 (.slice a n c) (.slice none n' c')).run Try.prog w = .ok (.bool a.isNone) w := fun w a n c n' c' => Lib.run_eql_slice_nil w _ _ a n c n' c' Try.underlying22
  generalize cellsR l = news at HC HL HO ⊢
  clear hc
  go_enter Try.func54, Try.ntmps54
  go_wp2_with (at_builtin; refine wpList_append_own _ rfl _ _ 22 rfl w.heap.size 37 i0 _ 4 32 Try.underlying22 hi hz0 hz1 hz2 rfl (by decide) _ _ _ rfl (World.ownsRow_made w #[] 0 (Nat.le_refl _) (Nat.zero_le _) (by simp)) ⟨b, o, none⟩ n cap news rfl HL.out ?qc2 HO.out ?qc4 ?qc5 ?qc6 ?_)
  case qc2 =>
    intro j u hj
    rw [Addr.add_lit]
    exact Lib.cell?_alloc_some _ (HC.out j u hj)
  case qc4 => unfold maxLen; omega
  case qc5 => omega
  case qc6 => simp
  intro v' w1 hown hgrow hnil
  go_wp2
  go_ret
  refine ⟨v', rfl, by simpa using hown, ?_⟩
  exact ((Below.refl _ w).alloc (Nat.le_refl _) _).grown hgrow (by simp) (by intro k hk; simp [Value.ownBlock] at hk; omega)
end Go.Proofs.Ytfcdajkgopcmpaa
