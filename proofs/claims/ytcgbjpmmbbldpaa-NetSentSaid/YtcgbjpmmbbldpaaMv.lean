/- Mails that are moved, and moved back; two nets side by side; racelaw13's alike. Conditions: none. -/
import Derived.Test.YtcgbjpmmbbldpaaLf
namespace Go.Proofs.Ytcgbjpmmbbldpaa
open Go.ChangeShapes Go.WideShapes Go.ChangeAt Go.RowKit Go.Deep
theorem move_parts {l : List MV} {i : Nat} (hi : i < l.length) (k : Int) : moveV l i k = (l.eraseIdx i).take (placeV (l.length - 1) k) ++ l[i] :: (l.eraseIdx i).drop (placeV (l.length - 1) k) ∧ (l.eraseIdx i).length = l.length - 1 := by
  have e : (l.eraseIdx i).length = l.length - 1 := by rw [List.length_eraseIdx, if_pos hi]
  unfold moveV
  rw [e, List.getD_eq_getElem?_getD, List.getElem?_eq_getElem hi]
  exact ⟨rfl, rfl⟩
theorem move_at {l : List MV} {i : Nat} (hi : i < l.length) (k : Int) (h : placeV (l.length - 1) k < (moveV l i k).length) : (moveV l i k)[placeV (l.length - 1) k] = l[i] := by
  obtain ⟨e, h2⟩ := move_parts hi k
  have hp := placeV_le (l.length - 1) k
  have : (moveV l i k)[placeV (l.length - 1) k]? = some l[i] := by
    rw [e, List.getElem?_append_right (by rw [List.length_take]; omega), List.length_take, h2, Nat.min_eq_left hp, Nat.sub_self]
    rfl
  rw [List.getElem?_eq_getElem h] at this
  exact Option.some.inj this
theorem erase_parts (l : List MV) (i : Nat) : l.eraseIdx i = l.take i ++ l.drop (i + 1) := List.eraseIdx_eq_take_drop_succ l i
theorem cnt_append (a b : List MV) (t : Int) : cntV (a ++ b) t = cntV a t + cntV b t := by
  unfold cntV; rw [List.filter_append, List.length_append]
theorem cnt_cons (m : MV) (l : List MV) (t : Int) : cntV (m :: l) t = cntV [m] t + cntV l t := cnt_append [m] l t
theorem cnt_move {l : List MV} {i : Nat} (hi : i < l.length) (k t : Int) : cntV (moveV l i k) t = cntV l t := by
  obtain ⟨e, _⟩ := move_parts hi k
  have e2 : cntV (l.eraseIdx i) t + cntV [l[i]] t = cntV l t := by
    have h3 : l = l.take i ++ l[i] :: l.drop (i + 1) := by rw [← List.drop_eq_getElem_cons hi, List.take_append_drop]
    conv => rhs; rw [h3]
    rw [erase_parts, cnt_append, cnt_append, cnt_cons l[i] (l.drop (i + 1))]; omega
  have e3 : cntV (l.eraseIdx i) t = cntV ((l.eraseIdx i).take (placeV (l.length - 1) k)) t + cntV ((l.eraseIdx i).drop (placeV (l.length - 1) k)) t := by
    rw [← cnt_append, List.take_append_drop]
  rw [e, cnt_append, cnt_cons l[i]]
  omega
theorem move_back {l : List MV} {i : Nat} (hi : i < l.length) (k : Int) : moveV (moveV l i k) (placeV (l.length - 1) k) (i : Int) = l := by
  have hl := length_move hi k
  have hp := placeV_le (l.length - 1) k
  obtain ⟨e, h2⟩ := move_parts hi k
  have hp2 : placeV (l.length - 1) k < (moveV l i k).length := by omega
  obtain ⟨e2, _⟩ := move_parts hp2 (i : Int)
  have ea := move_at hi k hp2
  have er : (moveV l i k).eraseIdx (placeV (l.length - 1) k) = l.eraseIdx i := by
    have hlen : ((l.eraseIdx i).take (placeV (l.length - 1) k)).length = placeV (l.length - 1) k := by rw [List.length_take, h2]; omega
    have e5 := List.eraseIdx_append_of_length_le (l := (l.eraseIdx i).take (placeV (l.length - 1) k)) (k := placeV (l.length - 1) k) (by omega) (l[i] :: (l.eraseIdx i).drop (placeV (l.length - 1) k))
    rw [hlen, Nat.sub_self] at e5
    rw [e]
    rw [e5, List.eraseIdx_cons_zero, List.take_append_drop]
  have pi : placeV ((moveV l i k).length - 1) (i : Int) = i := by unfold placeV; omega
  rw [e2, er, ea, pi, erase_parts]
  have ht : (l.take i).length = i := by rw [List.length_take]; omega
  rw [List.take_append_of_le_length (by omega), List.take_of_length_le (by omega), List.drop_append, ht, Nat.sub_self]
  rw [List.drop_of_length_le (l := l.take i) (by omega)]
  rw [List.nil_append, List.drop_zero, ← List.drop_eq_getElem_cons hi, List.take_append_drop]
/-- Two nets of the program. -/
structure NNB (B : Nat) (w : World) (n m : Nat) (room : Int) (ln lm : List MV) (C1 C2 : Nat → Prop) : Prop where
  hn : NK C1 w n room ln
  hm : NK C2 w m room lm
  dis : ∀ k, C1 k → ¬ C2 k
  b1 : ∀ k, C1 k → B ≤ k
  b2 : ∀ k, C2 k → B ≤ k
  bw : B ≤ w.heap.size
section
variable {B n m : Nat} {w w' : World} {room : Int} {ln lm l' : List MV} {C1 C2 C' : Nat → Prop}
theorem NNB.below (h : NNB B w n m room ln lm C1 C2) (hb : Below w.heap.size w w') : NNB B w' n m room ln lm C1 C2 :=
  ⟨h.hn.below hb, h.hm.below hb, h.dis, h.b1, h.b2, Nat.le_trans h.bw hb.size⟩
theorem NNB.stepn (h : NNB B w n m room ln lm C1 C2) (hk : NK C' w' n room l') (hw : Way C1 w C' w') : NNB B w' n m room l' lm C' C2 ∧ Below B w w' := by
  refine ⟨⟨hk, h.hm.tn hw.tn (fun k h2 h1 => h.dis k h1 h2), fun k h1 h2 => ?_, fun k h1 => ?_, h.b2, Nat.le_trans h.bw hw.tn.size⟩, hw.tn.below h.bw h.b1⟩
  · rcases hw.new k h1 with h3 | h3
    · exact h.dis k h3 h2
    · have := h.hm.lt k h2; omega
  · rcases hw.new k h1 with h3 | h3
    · exact h.b1 k h3
    · have := h.bw; omega
theorem NNB.stepm (h : NNB B w n m room ln lm C1 C2) (hk : NK C' w' m room l') (hw : Way C2 w C' w') : NNB B w' n m room ln l' C1 C' ∧ Below B w w' := by
  refine ⟨⟨h.hn.tn hw.tn (fun k h1 h2 => h.dis k h1 h2), hk, fun k h1 h2 => ?_, h.b1, fun k h1 => ?_, Nat.le_trans h.bw hw.tn.size⟩, hw.tn.below h.bw h.b2⟩
  · rcases hw.new k h2 with h3 | h3
    · exact h.dis k h1 h3
    · have := h.hn.lt k h1; omega
  · rcases hw.new k h1 with h3 | h3
    · exact h.b2 k h3
    · have := h.bw; omega
end
set_option maxRecDepth 100000 in
theorem alike_any {D E : Nat → Prop} {w : World} {m y : MV} {ao bo : Option Addr} {n k cap bcap : Nat} (h1 : SB D w ao n cap m.d) (h2 : SB E w bo k bcap y.d) :
    Calls Try.prog 16 #[magg (m, .slice ao n cap), magg (y, .slice bo k bcap)] w fun e w' => e = .returned (.bool (sameM m y)) ∧ Below w.heap.size w w' := by
  obtain ⟨f, t, d⟩ := m
  obtain ⟨f', t', d'⟩ := y
  simp only at h1 h2
  have HB := fun w (h1 : SB D w ao n cap d) (h2 : SB E w bo k bcap d') => Lib.hid (bytes_any h1 h2)
  have H1 := Lib.hid (h1.below (below2 w (mobj 40 (⟨f, t, d⟩, .slice ao n cap)) (mobj 40 (⟨f', t', d'⟩, .slice bo k bcap))))
  have H2 := Lib.hid (h2.below (below2 w (mobj 40 (⟨f, t, d⟩, .slice ao n cap)) (mobj 40 (⟨f', t', d'⟩, .slice bo k bcap))))
  have e : sameM ⟨f, t, d⟩ ⟨f', t', d'⟩ = (f == f' && t == t' && d == d') := rfl
  rw [e]
  clear e h1 h2
  generalize hb : (d == d') = b at *
  clear hb
  cases hf : f == f'
  · go_enter Try.func16, Try.ntmps16
    go_wp2
    go_ret
    exact ⟨rfl, below2 _ _ _⟩
  · cases ht : t == t'
    · go_enter Try.func16, Try.ntmps16
      go_wp2
      go_ret
      exact ⟨rfl, below2 _ _ _⟩
    · go_enter Try.func16, Try.ntmps16
      go_wp2_with (go_at_call 22; refine (HB _ H1.out H2.out).out.mono ?_; rintro e w1 ⟨rfl, rfl⟩)
      go_ret
      exact ⟨by simp, below2 _ _ _⟩
end Go.Proofs.Ytcgbjpmmbbldpaa
