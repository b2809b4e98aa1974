/- Mails as they read; lists of mails in rows of a call's own, each one's bytes in a row of their own; the document's net in memory. Conditions: none of its own. -/
import Derived.Test.YtcgbjpmmbbldpaaGr
namespace Go.Proofs.Ytcgbjpmmbbldpaa
open Go.ChangeShapes Go.WideShapes Go.ChangeAt Go.RowKit Go.Deep
abbrev ptr (a : Nat) : Value := .pointer (some ⟨a, 0, none⟩)
/-- append onto a row of the call's own, as one step of a region that draws its order; where the new row lies. -/
theorem step_append_at {P : Program} {ops : Array Oper} {o : Oper} {a : Act} {w : World} {K : Act → World → Prop} {Q : Exit → Act → World → Prop} {E : Prop}
    (hg : o.guard = none) (s x : Operand) (t : TypeId) (hop : o.op = Op.call { callee := Callee.builtin Builtin.append, args := #[s, x], argTypes := #[t, t] })
    (base : Nat) (e : TypeId) (i : TypeInfo) (z : Value) (size bytes : Nat) (h1 : P.underlying t = some (.slice e)) (h2 : P.info? e = some i) (h3 : i.zero = some z) (h4 : i.size = size) (h5 : i.bytes = bytes) (h6 : z.cells.size = size) (h7 : 0 < size)
    (v : Value) (n : Nat) (xs : List Value) (hs : a.eval s = v) (hown : w.ownsRow base e size v n xs)
    (ad : Addr) (m c : Nat) (news : List Value) (hx : a.eval x = .slice (some ad) m c) (hn : news.length = m * size) (hc : ∀ j u, news[j]? = some u → w.cell? (ad.add j) = some u) (h1c : ∀ u ∈ news, u.oneCell' = true)
    (b1 : n + m ≤ maxLen) (b2 : (n + m) * bytes ≤ 140737488355328) (hbase : base ≤ w.heap.size)
    (hK : ∀ v' w', w'.ownsRow base e size v' (n + m) (xs ++ news) → w.grownBy w' v.ownBlock → (v'.ownBlock = v.ownBlock ∨ v'.ownBlock = some w.heap.size) → K (a.put o.dst v') w') :
    if Region.wanted o (yielded ops a.tmps) = true then Oper.wp P o a w K Q else E := by
  have hw : Region.wanted o (yielded ops a.tmps) = true := by simp [Region.wanted, hg]
  rw [if_pos hw]
  obtain ⟨v', w', hrun, r1, r2, _, r3⟩ := run_append_own_at (P := P) w base t o.type e i z size bytes h1 h2 h3 h4 h5 h6 h7 v n xs hown ad m c news hn hc h1c b1 b2 hbase
  unfold Oper.wp
  simp [execOp, hop, resolve, invoke, builtin, hs, hx, hrun, Result.andThen]
  exact hK v' w' r1 r2 r3
/-- A mail as it reads. -/
structure MV where
  f : Int
  t : Int
  d : List UInt8
  deriving DecidableEq
instance : Inhabited MV := ⟨⟨0, 0, []⟩⟩
/-- A mail with the slice of its bytes. -/
abbrev MH := MV × Value
instance : Inhabited Value := ⟨undef⟩
def mC (x : MH) : List Value := [.int .i64 x.1.f, .int .i64 x.1.t, x.2]
theorem mC_len (x : MH) : (mC x).length = 3 := rfl
abbrev magg (x : MH) : Value := .agg #[.int .i64 x.1.f, .int .i64 x.1.t, x.2]
/-- What one step made of a footprint: only its blocks have turned, and what is added is new. -/
structure Way (C : Nat → Prop) (w : World) (C' : Nat → Prop) (w' : World) : Prop where
  tn : Tn C w w'
  new : ∀ k, C' k → C k ∨ (w.heap.size ≤ k ∧ k < w'.heap.size)
section
variable {C C1 C2 : Nat → Prop} {w w1 w2 : World}
theorem Way.refl (C : Nat → Prop) (w : World) : Way C w C w := ⟨Tn.refl _ _, fun _ h => .inl h⟩
theorem Way.trans (h : Way C w C1 w1) (h2 : Way C1 w1 C2 w2) : Way C w C2 w2 :=
  ⟨h.tn.trans h2.tn fun k hk h1 => by
    rcases h.new k h1 with h0 | h0
    · exact h0
    · omega, fun k hk => by
    have s1 := h.tn.size
    have s2 := h2.tn.size
    rcases h2.new k hk with h0 | h0
    · rcases h.new k h0 with h3 | h3
      · exact .inl h3
      · exact .inr ⟨h3.1, by omega⟩
    · exact .inr ⟨by omega, h0.2⟩⟩
theorem Way.below (h : Way C w C1 w1) (hb : Below w1.heap.size w1 w2) : Way C w C1 w2 := h.trans ⟨Tn.of_below hb, fun _ h => .inl h⟩
theorem Way.of_below (hb : Below w.heap.size w w1) : Way C w C w1 := ⟨Tn.of_below hb, fun _ h => .inl h⟩
end
/-- The bytes of a mail, in a row of their own in blocks of C. -/
structure DA (C : Nat → Prop) (w : World) (x : MH) : Prop where
  own : w.ownsRow 0 5 1 x.2 x.1.d.length (bys x.1.d)
  row : ∀ k, x.2.ownBlock = some k → C k
/-- A list of mails. -/
structure ML (T : TypeId) (C : Nat → Prop) (w : World) (v : Value) (L : List MH) : Prop where
  own : w.ownsRow 0 T 3 v L.length (cellsG mC L)
  row : ∀ k, v.ownBlock = some k → C k
  dat : ∀ x ∈ L, DA C w x
section
variable {T : TypeId} {C S U : Nat → Prop} {w w' : World} {v : Value} {L : List MH} {x : MH}
theorem DA.tn (h : DA C w x) (ht : Tn S w w') (hd : ∀ k, x.2.ownBlock = some k → ¬ S k) : DA C w' x := ⟨own_tn h.own ht hd, h.row⟩
theorem DA.below (h : DA C w x) (hb : Below w.heap.size w w') : DA C w' x := ⟨own_below h.own hb, h.row⟩
theorem DA.mono (h : DA C w x) (hu : ∀ k, C k → U k) : DA U w x := ⟨h.own, fun k hk => hu k (h.row k hk)⟩
theorem ML.tn (h : ML T C w v L) (ht : Tn S w w') (hd : ∀ k, C k → ¬ S k) : ML T C w' v L :=
  ⟨own_tn h.own ht (fun k hk => hd k (h.row k hk)), h.row, fun x hx => (h.dat x hx).tn ht (fun k hk => hd k ((h.dat x hx).row k hk))⟩
theorem ML.below (h : ML T C w v L) (hb : Below w.heap.size w w') : ML T C w' v L := ⟨own_below h.own hb, h.row, fun x hx => (h.dat x hx).below hb⟩
theorem ML.mono (h : ML T C w v L) (hu : ∀ k, C k → U k) : ML T U w v L := ⟨h.own, fun k hk => hu k (h.row k hk), fun x hx => (h.dat x hx).mono hu⟩
/-- A block of another kind turns no mail's bytes. -/
theorem DA.ne {a e : Nat} {cur : Array Value} (h : DA C w x) (hb : w.heap[a]? = some (.cells cur e (0, 0))) (he : e ≠ 5) : ∀ k, x.2.ownBlock = some k → ¬ k = a := by
  rintro k hk rfl
  obtain ⟨c2, h2⟩ := own_at h.own hk
  rw [hb] at h2
  injection h2 with h2
  injection h2 with _ h2 _
  exact he h2
theorem own_ne {base T size n a e : Nat} {v : Value} {xs : List Value} {cur : Array Value} (h : w.ownsRow base T size v n xs) (hb : w.heap[a]? = some (.cells cur e (0, 0))) (he : e ≠ T) : ∀ k, v.ownBlock = some k → ¬ k = a := by
  rintro k hk rfl
  obtain ⟨c2, h2⟩ := own_at h hk
  rw [hb] at h2
  injection h2 with h2
  injection h2 with _ h2 _
  exact he h2
/-- One mail's cells. -/
structure MAt (w : World) (b o : Nat) (x : MH) : Prop where
  c0 : w.cell? ⟨b, o, none⟩ = some (.int .i64 x.1.f)
  c1 : w.cell? ⟨b, o + 1, none⟩ = some (.int .i64 x.1.t)
  c2 : w.cell? ⟨b, o + 2, none⟩ = some x.2
theorem Lies.ml {b o : Nat} (h : Lies mC w b o x) : MAt w b o x := ⟨h 0 _ rfl, h 1 _ rfl, h 2 _ rfl⟩
theorem MAt.below {B b o : Nat} (h : MAt w b o x) (hb : Below B w w') (hl : b < B) : MAt w' b o x :=
  ⟨(hb.cell (p := ⟨b, o, none⟩) hl).trans h.c0, (hb.cell (p := ⟨b, o + 1, none⟩) hl).trans h.c1, (hb.cell (p := ⟨b, o + 2, none⟩) hl).trans h.c2⟩
theorem hasg_at {α : Type} {f : α → List Value} {sz : Nat} {P : Nat → Prop} {w : World} {ao : Option Addr} {n cap : Nat} {l : List α} (h : HasG f sz P w (.slice ao n cap) l) {k : Nat} (hk : k < l.length) :
    ∃ b o, ao = some ⟨b, o, none⟩ ∧ b < w.heap.size ∧ P b ∧ Lies f w b (o + k * sz) l[k] := by
  obtain ⟨ao', cap', hv, _, _, _, h4⟩ := h
  injection hv with e1 e2 e3
  subst e1 e2 e3
  obtain ⟨b, o, h4, h5, h6, hc⟩ := h4.resolve_left (fun e => by rw [e] at hk; exact absurd hk (Nat.not_lt_zero _))
  exact ⟨b, o, h4, h6, h5, hc k hk⟩
theorem ML.at_ {ao : Option Addr} {n cap : Nat} (h : ML T C w (.slice ao n cap) L) {k : Nat} (hk : k < L.length) : ∃ g, ao = some ⟨g, 0, none⟩ ∧ g < w.heap.size ∧ C g ∧ MAt w g (k * 3) L[k] ∧ DA C w L[k] := by
  obtain ⟨g, c, e⟩ := own_shape h.own (by omega)
  injection e with e1 e2 e3
  subst e1
  obtain ⟨b, o, e, hb, _, hl⟩ := hasg_at (own_hasG mC_len (show w.ownsRow 0 T 3 (.slice (some ⟨g, 0, none⟩) n cap) L.length (cellsG mC L) from h.own)) hk
  injection e with e
  injection e with e1 e2
  subst e1 e2
  rw [Nat.zero_add] at hl
  exact ⟨g, rfl, hb, h.row g rfl, hl.ml, h.dat _ (List.getElem_mem hk)⟩
end
/-- The document's net: its struct in block a, its list, all in blocks of C. -/
structure RNt (C : Nat → Prop) (w : World) (a : Nat) (room : Int) (l : List MV) (v : Value) (L : List MH) : Prop where
  box : w.heap[a]? = some (.cells #[.int .i64 room, v] 60 (0, 0))
  ml : ML 62 C w v L
  eq : L.map (·.1) = l
  ca : C a
  lt : ∀ k, C k → k < w.heap.size
def RN (C : Nat → Prop) (w : World) (a : Nat) (room : Int) (l : List MV) : Prop := ∃ v L, RNt C w a room l v L
section
variable {C S : Nat → Prop} {w w' : World} {a : Nat} {room : Int} {l : List MV} {v : Value} {L : List MH}
theorem RNt.tn (h : RNt C w a room l v L) (ht : Tn S w w') (hd : ∀ k, C k → ¬ S k) : RNt C w' a room l v L :=
  ⟨ht.at_ h.box (hd a h.ca), h.ml.tn ht hd, h.eq, h.ca, fun k hk => Nat.lt_of_lt_of_le (h.lt k hk) ht.size⟩
theorem RNt.below (h : RNt C w a room l v L) (hb : Below w.heap.size w w') : RNt C w' a room l v L := h.tn (Tn.of_below (S := fun _ => False) hb) (fun _ _ e => e)
theorem RN.tn (h : RN C w a room l) (ht : Tn S w w') (hd : ∀ k, C k → ¬ S k) : RN C w' a room l := let ⟨_, _, h⟩ := h; ⟨_, _, h.tn ht hd⟩
theorem RN.below (h : RN C w a room l) (hb : Below w.heap.size w w') : RN C w' a room l := let ⟨_, _, h⟩ := h; ⟨_, _, h.below hb⟩
theorem RN.lt (h : RN C w a room l) : ∀ k, C k → k < w.heap.size := let ⟨_, _, h⟩ := h; h.lt
theorem RN.ca (h : RN C w a room l) : C a := let ⟨_, _, h⟩ := h; h.ca
theorem RNt.c0 (h : RNt C w a room l v L) : w.cell? ⟨a, 0, none⟩ = some (.int .i64 room) := by simp [World.cell?, h.box]
theorem RNt.c1 (h : RNt C w a room l v L) : w.cell? ⟨a, 1, none⟩ = some v := by simp [World.cell?, h.box]
theorem RNt.fz (h : RNt C w a room l v L) (o : Nat) : w.frozen? ⟨a, o, none⟩ = false := by simp [World.frozen?, h.box]
theorem RNt.len (h : RNt C w a room l v L) : L.length = l.length := by rw [← h.eq, List.length_map]
theorem RNt.alt (h : RNt C w a room l v L) : a < w.heap.size := h.lt a h.ca
end
end Go.Proofs.Ytcgbjpmmbbldpaa
