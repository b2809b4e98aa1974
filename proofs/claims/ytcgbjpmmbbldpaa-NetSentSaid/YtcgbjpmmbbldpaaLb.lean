/- Both nets side by side; what an operation makes of a list of mails. Conditions: none. -/
import Derived.Test.YtcgbjpmmbbldpaaLa
namespace Go.Proofs.Ytcgbjpmmbbldpaa
open Go.ChangeShapes Go.WideShapes Go.ChangeAt Go.RowKit Go.Deep
/-- An operation. -/
structure OpN where
  k : Int
  a : Int
  b : Int
  d : List UInt8
instance : Inhabited OpN := ⟨⟨0, 0, 0, []⟩⟩
abbrev opv (o : OpN) (ao : Option Addr) (cap : Nat) : Value := .agg #[.int .i64 o.k, .int .i64 o.a, .int .i64 o.b, .slice ao o.d.length cap]
abbrev opo (o : OpN) (ao : Option Addr) (cap : Nat) : Obj := .cells #[.int .i64 o.k, .int .i64 o.a, .int .i64 o.b, .slice ao o.d.length cap] 35
def sentL (room : Int) (l : List MV) (m : MV) : List MV := if room ≤ l.length then l else l ++ [m]
def sentE (room : Int) (l : List MV) : Int := if room ≤ l.length then 11 else 0
def stepN (room : Int) (l : List MV) (o : OpN) : List MV :=
  if o.k = 1 then sentL room l ⟨o.a, o.b, o.d⟩
  else if hasB l o.a = false then l
  else if o.k = 2 ∨ o.k = 3 then l.eraseIdx o.a.toNat
  else if o.k = 4 then sentL room l (l.getD o.a.toNat default)
  else if o.k = 5 then moveV l o.a.toNat o.b
  else l
/-- What the walks keep to: no more mails than there is room for, no mail longer than what is handed in. -/
structure Okn (l : List MV) : Prop where
  len : l.length ≤ 4096
  dat : ∀ m ∈ l, m.d.length ≤ 20000
theorem Okn.nil : Okn [] := ⟨by decide, fun m h => by cases h⟩
theorem Okn.sent {room : Int} (hr : room ≤ 4096) {l : List MV} (h : Okn l) {m : MV} (hm : m.d.length ≤ 20000) : Okn (sentL room l m) := by
  unfold sentL
  split
  · exact h
  · refine ⟨by simp; omega, fun x hx => ?_⟩
    rcases List.mem_append.1 hx with hx | hx
    · exact h.dat x hx
    · obtain rfl : x = m := by simpa using hx
      exact hm
theorem Okn.erase {l : List MV} (h : Okn l) (i : Nat) : Okn (l.eraseIdx i) := ⟨Nat.le_trans (erase_len l i) h.len, fun m hm => h.dat m (List.mem_of_mem_eraseIdx hm)⟩
theorem length_move {l : List MV} {i : Nat} (hi : i < l.length) (to : Int) : (moveV l i to).length = l.length := by
  unfold moveV
  have := placeV_le (l.eraseIdx i).length to
  have e : (l.eraseIdx i).length = l.length - 1 := by rw [List.length_eraseIdx, if_pos hi]
  simp only [List.length_append, List.length_cons, List.length_take, List.length_drop]
  omega
theorem mem_move {l : List MV} {i : Nat} (hi : i < l.length) {to : Int} {m : MV} (h : m ∈ moveV l i to) : m ∈ l := by
  unfold moveV at h
  rcases List.mem_append.1 h with h | h
  · exact List.mem_of_mem_eraseIdx (List.mem_of_mem_take h)
  · rcases List.mem_cons.1 h with rfl | h
    · rw [List.getD_eq_getElem?_getD, List.getElem?_eq_getElem hi]; exact List.getElem_mem hi
    · exact List.mem_of_mem_eraseIdx (List.mem_of_mem_drop h)
theorem Okn.move {l : List MV} (h : Okn l) {i : Nat} (hi : i < l.length) (to : Int) : Okn (moveV l i to) := ⟨by rw [length_move hi]; exact h.len, fun m hm => h.dat m (mem_move hi hm)⟩
theorem Okn.step {room : Int} (hr : room ≤ 4096) {l : List MV} (h : Okn l) {o : OpN} (ho : o.d.length ≤ 20000) : Okn (stepN room l o) := by
  unfold stepN
  split
  · exact h.sent hr ho
  · split
    · exact h
    · rename_i hh
      obtain ⟨k, hk, hkl⟩ := hasB_nat (l := l) (i := o.a) (by simpa using hh)
      rw [hk, Int.toNat_natCast]
      split
      · exact h.erase _
      · split
        · exact h.sent hr (by rw [List.getD_eq_getElem?_getD, List.getElem?_eq_getElem hkl]; exact h.dat _ (List.getElem_mem hkl))
        · split
          · exact h.move hkl _
          · exact h
/-- Both nets, each with its list, in blocks from B on that do not meet. -/
structure NBB (B : Nat) (w : World) (n x : Nat) (room : Int) (ln lx : List MV) (C1 C2 : Nat → Prop) : Prop where
  hn : NK C1 w n room ln
  hx : RN C2 w x room lx
  dis : ∀ k, C1 k → ¬ C2 k
  b1 : ∀ k, C1 k → B ≤ k
  b2 : ∀ k, C2 k → B ≤ k
  bw : B ≤ w.heap.size
section
variable {B n x : Nat} {w w' : World} {room : Int} {ln lx l' : List MV} {C1 C2 C' : Nat → Prop}
theorem NBB.below (h : NBB B w n x room ln lx C1 C2) (hb : Below w.heap.size w w') : NBB B w' n x room ln lx C1 C2 :=
  ⟨h.hn.below hb, h.hx.below hb, h.dis, h.b1, h.b2, Nat.le_trans h.bw hb.size⟩
theorem NBB.stepn (h : NBB B w n x room ln lx C1 C2) (hk : NK C' w' n room l') (hw : Way C1 w C' w') : NBB B w' n x room l' lx C' C2 ∧ Below B w w' := by
  refine ⟨⟨hk, h.hx.tn hw.tn (fun k h2 h1 => h.dis k h1 h2), fun k h1 h2 => ?_, fun k h1 => ?_, h.b2, Nat.le_trans h.bw hw.tn.size⟩, hw.tn.below h.bw h.b1⟩
  · rcases hw.new k h1 with h3 | h3
    · exact h.dis k h3 h2
    · have := h.hx.lt k h2; omega
  · rcases hw.new k h1 with h3 | h3
    · exact h.b1 k h3
    · have := h.bw; omega
theorem NBB.stepx (h : NBB B w n x room ln lx C1 C2) (hk : RN C' w' x room l') (hw : Way C2 w C' w') : NBB B w' n x room ln l' C1 C' ∧ Below B w w' := by
  refine ⟨⟨h.hn.tn hw.tn (fun k h1 h2 => h.dis k h1 h2), hk, fun k h1 h2 => ?_, h.b1, fun k h1 => ?_, Nat.le_trans h.bw hw.tn.size⟩, hw.tn.below h.bw h.b2⟩
  · rcases hw.new k h2 with h3 | h3
    · exact h.dis k h1 h3
    · have := h.hn.lt k h1; omega
  · rcases hw.new k h1 with h3 | h3
    · exact h.b2 k h3
    · have := h.bw; omega
end
/-- Both nets with one list. -/
def NB (B : Nat) (w : World) (n x : Nat) (room : Int) (l : List MV) : Prop := ∃ C1 C2, NBB B w n x room l l C1 C2
theorem NB.below {B n x : Nat} {w w' : World} {room : Int} {l : List MV} (h : NB B w n x room l) (hb : Below w.heap.size w w') : NB B w' n x room l := let ⟨_, _, h⟩ := h; ⟨_, _, h.below hb⟩
/-- What an operation of both leaves. -/
def Did (B : Nat) (w : World) (n x : Nat) (room : Int) (l' : List MV) (e : Ending) (w' : World) : Prop :=
  e = .returned (.bool true) ∧ NB B w' n x room l' ∧ Below B w w'
end Go.Proofs.Ytcgbjpmmbbldpaa
