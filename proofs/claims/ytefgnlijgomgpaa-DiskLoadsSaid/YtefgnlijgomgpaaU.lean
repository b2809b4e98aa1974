/- Slices of files as they read; disk.Files. Conditions: none of its own. -/
import Derived.Test.YtefgnlijgomgpaaT
namespace Go.Proofs.Ytefgnlijgomgpaa
open Go.RowKit
/-- A file as it is told. -/
structure FV where
  name : Nm
  data : List UInt8
  safe : Int
def fv (p : Nm × Fi) : FV := ⟨p.1, p.2.data, (p.2.safe : Int)⟩
def fvs (f : Ent Fi) : List FV := f.map fv
/-- What a told file is as Go's types hold it. -/
structure FV.wf (p : FV) : Prop where
  name : p.name.length ≤ maxLen
  safe : -9223372036854775808 ≤ p.safe ∧ p.safe ≤ 9223372036854775807
/-- A file's cells. -/
structure FAt (C : Nat → Prop) (w : World) (b o : Nat) (p : FV) : Prop where
  c0 : w.cell? ⟨b, o, none⟩ = some (nmv p.name)
  c1 : ∃ ao cap, w.cell? ⟨b, o + 1, none⟩ = some (.slice ao p.data.length cap) ∧ SB C w ao p.data.length cap p.data
  c2 : w.cell? ⟨b, o + 2, none⟩ = some (.int .i64 p.safe)
/-- A slice of files. -/
structure SF (C : Nat → Prop) (w : World) (ao : Option Addr) (n cap : Nat) (l : List FV) : Prop where
  len : n = l.length
  le : n ≤ cap
  max : cap ≤ maxLen
  wf : ∀ p ∈ l, p.wf
  cells : n = 0 ∨ ∃ b off, ao = some ⟨b, off, none⟩ ∧ C b ∧ ∀ i (h : i < l.length), FAt C w b (off + i * 3) l[i]
theorem FAt.tn {C S : Nat → Prop} {w w' : World} {b o : Nat} {p : FV} (h : FAt C w b o p) (ht : Tn S w w') (hb : C b) (hd : ∀ k, C k → ¬ S k) : FAt C w' b o p := by
  obtain ⟨a4, k4, h4, s4⟩ := h.c1
  have n := hd b hb
  exact ⟨ht.cell h.c0 n, ⟨a4, k4, ht.cell h4 n, s4.tn ht hd⟩, ht.cell h.c2 n⟩
theorem SF.tn {C S : Nat → Prop} {w w' : World} {ao : Option Addr} {n cap : Nat} {l : List FV} (h : SF C w ao n cap l) (ht : Tn S w w') (hd : ∀ k, C k → ¬ S k) : SF C w' ao n cap l := by
  refine ⟨h.len, h.le, h.max, h.wf, ?_⟩
  rcases h.cells with h0 | ⟨b, off, rfl, hB, hc⟩
  · exact .inl h0
  · exact .inr ⟨b, off, rfl, hB, fun i hi => (hc i hi).tn ht hB hd⟩
theorem SF.below {C : Nat → Prop} {w w' : World} {ao : Option Addr} {n cap : Nat} {l : List FV} (h : SF C w ao n cap l) (hb : Below w.heap.size w w') : SF C w' ao n cap l := h.tn (Tn.of_below (S := fun _ => False) hb) (fun _ _ e => e)
theorem SF.lt {C : Nat → Prop} {w : World} {ao : Option Addr} {n cap : Nat} {l : List FV} (h : SF C w ao n cap l) : n ≤ 9223372036854775807 := by have := h.le; have := h.max; unfold maxLen at this; omega
theorem SF.at_ {C : Nat → Prop} {w : World} {ao : Option Addr} {n cap : Nat} {l : List FV} (h : SF C w ao n cap l) {i : Nat} (hi : i < l.length) : ∃ b off, ao = some ⟨b, off, none⟩ ∧ C b ∧ FAt C w b (off + i * 3) l[i] ∧ l[i].wf := by
  have hn := h.len
  rcases h.cells with h0 | ⟨b, off, rfl, hB, hc⟩
  · omega
  · exact ⟨b, off, rfl, hB, hc i hi, h.wf _ (List.getElem_mem _)⟩
theorem info43 : (Try.prog.info? 43).map (fun i => (i.zero, i.size, i.bytes)) = some (some (.agg #[.string ⟨#[]⟩, .slice none 0 0, .int .i64 0]), 3, 48) := by kernel_rfl
theorem under28 : Try.prog.underlying 28 = some (.slice 43) := by kernel_rfl
/-- The cells of files whose bytes lie at vs. -/
def cellsF (us : List (Nm × Value × Int)) : List Value := us.flatMap fun u => [nmv u.1, u.2.1, .int .i64 u.2.2]
theorem cellsF_length (us : List (Nm × Value × Int)) : (cellsF us).length = us.length * 3 := by
  induction us with
  | nil => rfl
  | cons u us ih =>
    show ([nmv u.1, u.2.1, .int .i64 u.2.2] ++ cellsF us).length = _
    rw [List.length_append, ih, List.length_cons]
    simp
    omega
theorem cellsF_append (a b : List (Nm × Value × Int)) : cellsF (a ++ b) = cellsF a ++ cellsF b := List.flatMap_append
theorem cellsF_get (us : List (Nm × Value × Int)) : ∀ {i : Nat} (h : i < us.length), (cellsF us)[i * 3]? = some (nmv us[i].1) ∧ (cellsF us)[i * 3 + 1]? = some us[i].2.1 ∧ (cellsF us)[i * 3 + 2]? = some (.int .i64 us[i].2.2) := by
  induction us with
  | nil => intro i h; simp at h
  | cons u us ih =>
    intro i h
    have e : cellsF (u :: us) = [nmv u.1, u.2.1, .int .i64 u.2.2] ++ cellsF us := rfl
    rw [e]
    cases i with
    | zero => exact ⟨rfl, rfl, rfl⟩
    | succ i =>
      obtain ⟨h1, h2, h3⟩ := ih (i := i) (by simpa using h)
      refine ⟨?_, ?_, ?_⟩
      · rw [List.getElem?_append_right (by simp; omega)]
        show (cellsF us)[(i + 1) * 3 - 3]? = _
        rw [show (i + 1) * 3 - 3 = i * 3 by omega, h1]; rfl
      · rw [List.getElem?_append_right (by simp; omega)]
        show (cellsF us)[(i + 1) * 3 + 1 - 3]? = _
        rw [show (i + 1) * 3 + 1 - 3 = i * 3 + 1 by omega, h2]; rfl
      · rw [List.getElem?_append_right (by simp; omega)]
        show (cellsF us)[(i + 1) * 3 + 2 - 3]? = _
        rw [show (i + 1) * 3 + 2 - 3 = i * 3 + 2 by omega, h3]; rfl
/-- A row of files of the call's own: the row, and each one's bytes in a row of their own, in blocks of C. -/
structure FO (C : Nat → Prop) (w : World) (v : Value) (us : List (Nm × Value × Int)) (l : List FV) : Prop where
  own : w.ownsRow 0 43 3 v l.length (cellsF us)
  len : us.length = l.length
  at_ : ∀ i (h : i < us.length) (h2 : i < l.length), us[i].1 = l[i].name ∧ us[i].2.2 = l[i].safe ∧ w.ownsRow 0 5 1 us[i].2.1 l[i].data.length (bys l[i].data)
  row : ∀ k, v.ownBlock = some k → C k
  rows : ∀ i (h : i < us.length) k, us[i].2.1.ownBlock = some k → C k
section
variable {C S : Nat → Prop} {w w' : World} {v : Value} {us : List (Nm × Value × Int)} {l : List FV}
theorem FO.tn (h : FO C w v us l) (ht : Tn S w w') (hd : ∀ k, C k → ¬ S k) : FO C w' v us l :=
  ⟨own_tn h.own ht (fun k hk => hd k (h.row k hk)), h.len, fun i h1 h2 => ⟨(h.at_ i h1 h2).1, (h.at_ i h1 h2).2.1, own_tn (h.at_ i h1 h2).2.2 ht (fun k hk => hd k (h.rows i h1 k hk))⟩, h.row, h.rows⟩
theorem FO.below (h : FO C w v us l) (hb : Below w.heap.size w w') : FO C w' v us l := h.tn (Tn.of_below (S := fun _ => False) hb) (fun _ _ e => e)
theorem FO.sf (h : FO C w v us l) (hw : ∀ p ∈ l, p.wf) : ∃ ao cap, v = .slice ao l.length cap ∧ SF C w ao l.length cap l := by
  obtain ⟨ao, cap, rfl⟩ := own_slice h.own
  refine ⟨ao, cap, rfl, rfl, own_cap h.own, ?_, hw, ?_⟩
  · rcases h.own.2 with ⟨e, _⟩ | ⟨g, c, cur, e, _, _, _, h2, _⟩
    · injection e with e1 e2 e3; rw [e3]; decide
    · injection e with e1 e2 e3; rw [e3]; exact h2
  · by_cases h0 : l.length = 0
    · exact .inl h0
    · obtain ⟨g, gc, hg⟩ := own_shape h.own (by omega)
      cases hg
      refine .inr ⟨g, 0, rfl, h.row g rfl, fun i hi => ?_⟩
      have hu : i < us.length := by rw [h.len]; exact hi
      obtain ⟨e1, e2, e3⟩ := h.at_ i hu hi
      obtain ⟨g1, g2, g3⟩ := cellsF_get us hu
      obtain ⟨bo, bc, hb⟩ := own_slice e3
      rw [Nat.zero_add]
      refine ⟨?_, ⟨bo, bc, ?_, ?_⟩, ?_⟩
      · rw [h.own.cellAt (i * 3) (by omega), g1, e1]
      · rw [h.own.cellAt (i * 3 + 1) (by omega), g2, hb]
      · rw [hb] at e3
        exact (own_sb e3).mono fun k _ e => h.rows i hu k (by rw [hb]; exact e)
      · rw [h.own.cellAt (i * 3 + 2) (by omega), g3, e2]
end
/-- append of one file onto a row of them, in a region that draws its order. -/
theorem oper_append_file {ops : Array Oper} {o : Oper} {a : Act} {w : World} {K' : Act → World → Prop} {Q : Exit → Act → World → Prop} {X : Prop} (hw : Region.wanted o (yielded ops a.tmps) = true) (s x : Operand)
    (ho : o.op = .call { callee := .builtin .append, args := #[s, x], argTypes := #[28, 28] })
    {v : Value} {n : Nat} {us : List (Nm × Value × Int)} {u : Nm × Value × Int} {b : Nat} (hs : a.eval s = v) (hown : w.ownsRow 0 43 3 v n (cellsF us)) (hx : a.eval x = .slice (some ⟨b, 0, none⟩) 1 1) (hm : w.heap[b]? = some (.cells #[nmv u.1, u.2.1, .int .i64 u.2.2] 43 (0, 0)))
    (h1 : u.2.1.oneCell' = true) (hroom : n ≤ 1000000)
    (h : ∀ v' w', w'.ownsRow 0 43 3 v' (n + 1) (cellsF (us ++ [u])) → w.grownBy w' v.ownBlock → (v'.ownBlock = v.ownBlock ∨ v'.ownBlock = some w.heap.size) → K' (a.put o.dst v') w') : if Region.wanted o (yielded ops a.tmps) = true then o.wp Try.prog a w K' Q else X := by
  obtain ⟨i0, hi, hz0, hz1, hz2⟩ := info_parts info43
  obtain ⟨v', w', hr, h2, h3, _, h5⟩ := run_append_own_at (P := Try.prog) w 0 28 o.type 43 i0 (.agg #[.string ⟨#[]⟩, .slice none 0 0, .int .i64 0]) 3 48 under28 hi hz0 hz1 hz2 rfl (by decide) v n (cellsF us) hown ⟨b, 0, none⟩ 1 1 (cellsF [u]) rfl (fun j y hy => by
    rw [Addr.add_lit, Nat.zero_add]
    have e : cellsF [u] = [nmv u.1, u.2.1, .int .i64 u.2.2] := rfl
    rw [e] at hy
    simp only [World.cell?, hm]
    simpa using hy) (fun y hy => by
    have e : cellsF [u] = [nmv u.1, u.2.1, .int .i64 u.2.2] := rfl
    rw [e] at hy
    simp at hy
    rcases hy with rfl | rfl | rfl
    · rfl
    · exact h1
    · rfl) (by unfold maxLen; omega) (by omega) (Nat.zero_le _)
  rw [if_pos hw]
  unfold Oper.wp execOp
  simp only [ho, resolve, invoke, builtin, Sem.run_bind, Sem.run_pure, Result.andThen_ok, List.map_toArray, List.map_cons, List.map_nil, hs, hx, hr]
  exact h v' w' (by rw [cellsF_append]; exact h2) h3 h5
end Go.Proofs.Ytefgnlijgomgpaa
