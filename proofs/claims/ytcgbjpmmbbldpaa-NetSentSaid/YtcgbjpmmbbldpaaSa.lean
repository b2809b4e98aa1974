/- For NetSent: the net and a list of mails in a row of the call's own, apart from each other, and what else is kept beside them. Conditions: none of its own. -/
import Derived.Test.YtcgbjpmmbbldpaaSp
import Derived.Test.YtcgbjpmmbbldpaaOa
namespace Go.Proofs.Ytcgbjpmmbbldpaa
open Go.ChangeShapes Go.WideShapes Go.ChangeAt Go.RowKit Go.Deep
/-- The net in blocks of C; the mails' row; their bytes, and boxes beside, in blocks of D. -/
structure NS (B : Nat) (w0 w : World) (n : Nat) (L : List MV) (v : Value) (T : List MH) (C D : Nat → Prop) : Prop where
  hn : NK C w n 4096 L
  tl : TL D B w v T
  b1 : ∀ k, C k → B ≤ k
  ap : ∀ k, v.ownBlock = some k → ¬ C k
  dc : ∀ k, D k → ¬ C k
  dv : ∀ k, v.ownBlock = some k → ¬ D k
  dl : ∀ k, D k → k < w.heap.size
  lo : Below B w0 w
  bw : B ≤ w.heap.size
section
variable {B n : Nat} {w0 w w' : World} {L L' : List MV} {v v' : Value} {T : List MH} {C C' D E S : Nat → Prop}
theorem NS.more (h : NS B w0 w n L v T C D) (hb : Below w.heap.size w w') (hE : ∀ k, E k → w.heap.size ≤ k ∧ k < w'.heap.size) : NS B w0 w' n L v T C (fun k => D k ∨ E k) := by
  refine ⟨h.hn.below hb, (h.tl.below hb).mono fun k _ e => .inl e, h.b1, h.ap, fun k hk hc => ?_, fun k hk hd => ?_, fun k hk => ?_, h.lo.trans (hb.mono h.bw), Nat.le_trans h.bw hb.size⟩
  · rcases hk with hk | hk
    · exact h.dc k hk hc
    · have := h.hn.lt k hc; have := hE k hk; omega
  · rcases hd with hd | hd
    · exact h.dv k hk hd
    · have := (h.tl.own.lt k hk).2; have := hE k hd; omega
  · rcases hk with hk | hk
    · exact Nat.lt_of_lt_of_le (h.dl k hk) hb.size
    · exact (hE k hk).2
theorem NS.below (h : NS B w0 w n L v T C D) (hb : Below w.heap.size w w') : NS B w0 w' n L v T C D :=
  ⟨h.hn.below hb, h.tl.below hb, h.b1, h.ap, h.dc, h.dv, fun k hk => Nat.lt_of_lt_of_le (h.dl k hk) hb.size, h.lo.trans (hb.mono h.bw), Nat.le_trans h.bw hb.size⟩
theorem NS.box (h : NS B w0 w n L v T C D) (o : Obj) : NS B w0 (w.alloc o) n L v T C (fun k => D k ∨ k = w.heap.size) :=
  h.more (E := (· = w.heap.size)) (below1 w o) (fun k hk => by subst hk; simp)
theorem NS.went (h : NS B w0 w n L v T C D) (hk : NK C' w' n 4096 L') (hw : Way C w C' w') : NS B w0 w' n L' v T C' D := by
  have hnew : ∀ k, C' k → ¬ C k → w.heap.size ≤ k := fun k h1 h2 => by
    rcases hw.new k h1 with h3 | h3
    · exact absurd h3 h2
    · exact h3.1
  refine ⟨hk, h.tl.tn hw.tn h.ap h.dc, fun k h1 => ?_, fun k hv h1 => ?_, fun k hd h1 => ?_, h.dv, fun k hd => Nat.lt_of_lt_of_le (h.dl k hd) hw.tn.size, h.lo.trans (hw.tn.below h.bw h.b1), Nat.le_trans h.bw hw.tn.size⟩
  · rcases hw.new k h1 with h3 | h3
    · exact h.b1 k h3
    · have := h.bw; omega
  · rcases hw.new k h1 with h3 | h3
    · exact h.ap k hv h3
    · have := (h.tl.own.lt k hv).2; omega
  · rcases hw.new k h1 with h3 | h3
    · exact h.dc k hd h3
    · have := h.dl k hd; omega
theorem NS.push (h : NS B w0 w n L v T C D) {m : Nat} (hm : T.length = m) {x : MH} (hx : DR D w x) (hg : w.grownBy w' v.ownBlock) (ho : w'.ownsRow B 40 3 v' (m + 1) (cellsG mC T ++ mC x)) (hat : v'.ownBlock = v.ownBlock ∨ v'.ownBlock = some w.heap.size) :
    NS B w0 w' n L v' (T ++ [x]) C D ∧ Tn (fun k => v.ownBlock = some k) w w' := by
  have ht : Tn (fun k => v.ownBlock = some k) w w' := (Tn.refl _ _).grown hg (fun k hk _ => hk)
  have hd : ∀ y, DR D w y → DR D w' y := fun y ⟨ro, c, h1, h2⟩ => ⟨ro, c, h1, h2.tn ht (fun k h1 h2 => h.dv k h2 h1)⟩
  have hnew : ∀ k, v'.ownBlock = some k → v.ownBlock = some k ∨ k = w.heap.size := fun k hk => by
    rcases hat with e | e
    · exact .inl (e ▸ hk)
    · rw [e] at hk; injection hk with hk; exact .inr hk.symm
  refine ⟨⟨h.hn.tn ht (fun k h1 h2 => h.ap k h2 h1), ⟨by rw [List.length_append, cellsG_append, cellsG_one, hm]; exact ho, fun y hy => ?_⟩, h.b1, fun k hk hc => ?_, h.dc, fun k hk hd => ?_, fun k hd => Nat.lt_of_lt_of_le (h.dl k hd) ht.size, h.lo.trans (ht.below h.bw (fun k hk => (h.tl.own.lt k hk).1)), Nat.le_trans h.bw ht.size⟩, ht⟩
  · rcases List.mem_append.1 hy with hy | hy
    · exact hd y (h.tl.dat y hy)
    · obtain rfl : y = x := by simpa using hy
      exact hd _ hx
  · rcases hnew k hk with e | e
    · exact h.ap k e hc
    · have := h.hn.lt k hc; omega
  · rcases hnew k hk with e | e
    · exact h.dv k e hd
    · have := h.dl k hd; omega
theorem NS.anew (h : NS B w0 w n L v T C D) (hb : Below w.heap.size w w') {k m : Nat} (hk : k < T.length) (hm : m = T.length - 1) (ho : w'.ownsRow w.heap.size 40 3 v' m (cellsG mC (T.take k) ++ cellsG mC (T.drop (k + 1)))) : NS B w0 w' n L v' (T.eraseIdx k) C D := by
  have e : (T.eraseIdx k).length = m := by rw [List.length_eraseIdx, if_pos hk, hm]
  refine ⟨h.hn.below hb, ⟨by rw [e, List.eraseIdx_eq_take_drop_succ, cellsG_append]; exact own_mono ho h.bw, fun y hy => ?_⟩, h.b1, fun q hq hc => ?_, h.dc, fun q hq hd => ?_, fun q hd => Nat.lt_of_lt_of_le (h.dl q hd) hb.size, h.lo.trans (hb.mono h.bw), Nat.le_trans h.bw hb.size⟩
  · obtain ⟨ro, c, h1, h2⟩ := h.tl.dat y (List.mem_of_mem_eraseIdx hy)
    exact ⟨ro, c, h1, h2.below hb⟩
  · have := (ho.lt q hq).1; have := h.hn.lt q hc; omega
  · have := (ho.lt q hq).1; have := h.dl q hd; omega
/-- A box beside them stays. -/
theorem NS.heap {q : Nat} {o : Obj} (h : NS B w0 w n L v T C D) (hq : w.heap[q]? = some o) (hd : D q) (hw : Way C w C' w') : w'.heap[q]? = some o := hw.tn.at_ hq (h.dc q hd)
theorem DR.mono {x : MH} (h : DR D w x) (hd : ∀ k, k < w.heap.size → D k → E k) : DR E w x := let ⟨ro, c, h1, h2⟩ := h; ⟨ro, c, h1, h2.mono hd⟩
/-- What a round keeps: the operation and the mail that was looked at, each in a box, with their bytes. -/
structure KB (D : Nat → Prop) (w : World) (q0 q1 : Nat) (o : OpN) (po : Option Addr) (pc : Nat) (x : MH) : Prop where
  d0 : D q0
  d1 : D q1
  op : w.heap[q0]? = some (opo o po pc)
  ml : w.heap[q1]? = some (mobj 40 x)
  sp : SB D w po o.d.length pc o.d
  su : DR D w x
variable {q0 q1 : Nat} {o : OpN} {po : Option Addr} {pc : Nat} {x : MH} {m : MV}
theorem KB.tn (h : KB D w q0 q1 o po pc x) (ht : Tn S w w') (hd : ∀ k, D k → ¬ S k) : KB D w' q0 q1 o po pc x :=
  ⟨h.d0, h.d1, ht.at_ h.op (hd _ h.d0), ht.at_ h.ml (hd _ h.d1), h.sp.tn ht hd, let ⟨ro, c, h1, h2⟩ := h.su; ⟨ro, c, h1, h2.tn ht hd⟩⟩
theorem KB.below (h : KB D w q0 q1 o po pc x) (hb : Below w.heap.size w w') : KB D w' q0 q1 o po pc x := h.tn (Tn.of_below (S := fun _ => False) hb) (fun _ _ e => e)
theorem KB.cells (h : KB D w q0 q1 o po pc x) : (w.cell? ⟨q0, 0, none⟩ = some (.int .i64 o.k) ∧ w.cell? ⟨q0, 1, none⟩ = some (.int .i64 o.a) ∧ w.cell? ⟨q0, 2, none⟩ = some (.int .i64 o.b) ∧ w.cell? ⟨q0, 3, none⟩ = some (.slice po o.d.length pc)) ∧
    (w.cell? ⟨q1, 0, none⟩ = some (.int .i64 x.1.f) ∧ w.cell? ⟨q1, 1, none⟩ = some (.int .i64 x.1.t) ∧ w.cell? ⟨q1, 2, none⟩ = some x.2) := by
  refine ⟨box_cells h.op, ?_, ?_, ?_⟩ <;> simp [World.cell?, h.ml]
/-- The mail that was looked at lies in a box now, its bytes in new memory. -/
theorem NS.told (h : NS B w0 w n L v T C D) (hq : w.heap[q0]? = some (opo o po pc)) (hd : D q0) (hs : SB D w po o.d.length pc o.d) {uo : Option Addr} {uc : Nat}
    (ho : w'.ownsRow w.heap.size 5 1 (.slice uo m.d.length uc) m.d.length (bys m.d)) (hb : Below w.heap.size w w') :
    ∃ D', NS B w0 (w'.alloc (mobj 40 (m, .slice uo m.d.length uc))) n L v T C D' ∧ KB D' (w'.alloc (mobj 40 (m, .slice uo m.d.length uc))) q0 w'.heap.size o po pc (m, .slice uo m.d.length uc) ∧ ∀ k, D k → D' k := by
  have h2 := (h.more (E := fun k => (Value.slice uo m.d.length uc).ownBlock = some k) hb (fun k hk => ho.lt k hk)).box (mobj 40 (m, .slice uo m.d.length uc))
  refine ⟨_, h2, ⟨.inl (.inl hd), .inr rfl, ?_, heap_new _ _, (((hs.below hb).below (below1 _ _)).mono fun k _ e => .inl (.inl e)), ⟨uo, uc, rfl, ((own_sb ho).below (below1 _ _)).mono fun k _ e => .inl (.inr e)⟩⟩, fun k e => .inl (.inl e)⟩
  exact (Tn.of_below (S := fun _ => False) ((hb.trans ((below1 w' _).mono hb.size)))).at_ hq (fun e => e)
theorem NS.nobody (h : NS B w0 w n L v T C D) (hq : w.heap[q0]? = some (opo o po pc)) (hd : D q0) (hs : SB D w po o.d.length pc o.d) (hb : Below w.heap.size w w') :
    ∃ D', NS B w0 (w'.alloc (mobj 40 (⟨0, 0, []⟩, .slice none 0 0))) n L v T C D' ∧ KB D' (w'.alloc (mobj 40 (⟨0, 0, []⟩, .slice none 0 0))) q0 w'.heap.size o po pc (⟨0, 0, []⟩, .slice none 0 0) ∧ ∀ k, D k → D' k := by
  have h2 := (h.below hb).box (mobj 40 (⟨0, 0, []⟩, .slice none 0 0))
  refine ⟨_, h2, ⟨.inl hd, .inr rfl, ?_, heap_new _ _, (((hs.below hb).below (below1 _ _)).mono fun k _ e => .inl e), ⟨_, _, rfl, sb_nil _ _⟩⟩, fun k e => .inl e⟩
  exact (Tn.of_below (S := fun _ => False) ((hb.trans ((below1 w' _).mono hb.size)))).at_ hq (fun e => e)
theorem mC_one (m : MV) (ao : Option Addr) (n c : Nat) : ∀ u ∈ mC (m, .slice ao n c), u.oneCell' = true := by
  intro u hu
  simp [mC] at hu
  rcases hu with rfl | rfl | rfl <;> rfl
end
end Go.Proofs.Ytcgbjpmmbbldpaa
