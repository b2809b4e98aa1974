/- Rows of structs, whatever lies in one: rows that came in, rows of the call's own. Conditions: none. -/
import Derived.Test.YtcgbjpmmbbldpaaBa
import Derived.ChangeAt2
import Derived.ChangeAt
import Derived.Deep.Slices
import Derived.Deep.SlicePairs
import Derived.Laws.AppendOwn
import Derived.Laws.AppendOwnNone
namespace Go.Proofs.Ytcgbjpmmbbldpaa
open Go.ChangeShapes Go.WideShapes Go.ChangeAt Go.RowKit Go.Deep
section
variable {α : Type} {f : α → List Value} {sz : Nat}
/-- An element's cells lie from a place on. -/
def Lies (f : α → List Value) (w : World) (b o : Nat) (x : α) : Prop := ∀ j u, (f x)[j]? = some u → w.cell? ⟨b, o + j, none⟩ = some u
/-- A slice: its elements' cells, where it has any, in a block that P names. -/
def HasG (f : α → List Value) (sz : Nat) (P : Nat → Prop) (w : World) (v : Value) (l : List α) : Prop :=
  ∃ ao cap, v = .slice ao l.length cap ∧ l.length ≤ cap ∧ cap ≤ maxLen ∧ (ao = none → cap = 0 ∧ l = []) ∧
    (l = [] ∨ ∃ b o, ao = some ⟨b, o, none⟩ ∧ P b ∧ b < w.heap.size ∧ ∀ i, (h : i < l.length) → Lies f w b (o + i * sz) l[i])
def cellsG (f : α → List Value) (l : List α) : List Value := l.flatMap f
theorem Lies.below {B : Nat} {w w' : World} {b o : Nat} {x : α} (h : Lies f w b o x) (hb : Below B w w') (hl : b < B) : Lies f w' b o x :=
  fun j u hu => (hb.cell (p := ⟨b, o + j, none⟩) hl).trans (h j u hu)
theorem HasG.below {P : Nat → Prop} {w w' : World} {v : Value} {l : List α} (h : HasG f sz P w v l) (hb : Below w.heap.size w w') : HasG f sz P w' v l := by
  obtain ⟨ao, cap, hv, h1, h2, h3, h4⟩ := h
  refine ⟨ao, cap, hv, h1, h2, h3, ?_⟩
  rcases h4 with h4 | ⟨b, o, h4, h5, h6, h7⟩
  · exact .inl h4
  · exact .inr ⟨b, o, h4, h5, Nat.lt_of_lt_of_le h6 hb.size, fun i hi => (h7 i hi).below hb h6⟩
theorem HasG.belowP {B : Nat} {P : Nat → Prop} {w w' : World} {v : Value} {l : List α} (h : HasG f sz P w v l) (hb : Below B w w') (hP : ∀ b, P b → b < B) : HasG f sz P w' v l := by
  obtain ⟨ao, cap, hv, h1, h2, h3, h4⟩ := h
  refine ⟨ao, cap, hv, h1, h2, h3, ?_⟩
  rcases h4 with h4 | ⟨b, o, h4, h5, h6, h7⟩
  · exact .inl h4
  · exact .inr ⟨b, o, h4, h5, Nat.lt_of_lt_of_le h6 hb.size, fun i hi => (h7 i hi).below hb (hP b h5)⟩
theorem HasG.weaken {P Q : Nat → Prop} {w : World} {v : Value} {l : List α} (h : HasG f sz P w v l) (hPQ : ∀ b, b < w.heap.size → P b → Q b) : HasG f sz Q w v l := by
  obtain ⟨ao, cap, hv, h1, h2, h3, h4⟩ := h
  refine ⟨ao, cap, hv, h1, h2, h3, ?_⟩
  rcases h4 with h4 | ⟨b, o, h4, h5, h6, h7⟩
  · exact .inl h4
  · exact .inr ⟨b, o, h4, hPQ b h6 h5, h6, h7⟩
theorem hasG_nil (P : Nat → Prop) (w : World) : HasG f sz P w (.slice none 0 0) ([] : List α) := ⟨none, 0, rfl, Nat.le_refl _, Nat.zero_le _, fun _ => ⟨rfl, rfl⟩, .inl rfl⟩
/-- A beginning of a row. -/
theorem HasG.take {P : Nat → Prop} {w : World} {ao : Option Addr} {n c : Nat} {l : List α} (h : HasG f sz P w (.slice ao n c) l) {k : Nat} (hk : k ≤ n) : HasG f sz P w (.slice ao k c) (l.take k) := by
  obtain ⟨ao', cap, hv, h1, h2, h3, h4⟩ := h
  injection hv with e1 e2 e3
  subst e1 e2 e3
  have hl : (l.take k).length = k := by rw [List.length_take]; omega
  refine ⟨ao, c, by rw [hl], by omega, h2, fun e => ⟨(h3 e).1, by rw [(h3 e).2]; simp⟩, ?_⟩
  rcases h4 with rfl | ⟨b, o, h4, h5, h6, h7⟩
  · exact .inl (by simp)
  · refine .inr ⟨b, o, h4, h5, h6, fun i hi => ?_⟩
    rw [List.getElem_take]
    exact h7 i (by omega)
theorem length_cellsG (hf : ∀ x, (f x).length = sz) (l : List α) : (cellsG f l).length = l.length * sz := by
  induction l with
  | nil => simp [cellsG]
  | cons x l ih =>
    unfold cellsG at ih ⊢
    rw [List.flatMap_cons, List.length_append, ih, hf, List.length_cons, Nat.succ_mul]
    omega
theorem cellsG_append (a b : List α) : cellsG f (a ++ b) = cellsG f a ++ cellsG f b := List.flatMap_append
theorem cellsG_one (x : α) : cellsG f [x] = f x := by unfold cellsG; simp
theorem cellsG_get (hf : ∀ x, (f x).length = sz) : ∀ (l : List α) (i : Nat) (h : i < l.length) (j : Nat) (u : Value), (f l[i])[j]? = some u → (cellsG f l)[i * sz + j]? = some u
  | [], i, h, _, _, _ => absurd h (Nat.not_lt_zero _)
  | x :: t, 0, _, j, u, hu => by
    have hj : j < (f x).length := by
      have hu : (f x)[j]? = some u := hu
      exact (List.getElem?_eq_some_iff.1 hu).1
    show ((f x) ++ cellsG f t)[0 * sz + j]? = some u
    rw [Nat.zero_mul, Nat.zero_add, List.getElem?_append_left hj]
    exact hu
  | x :: t, i + 1, h, j, u, hu => by
    have := cellsG_get hf t i (Nat.lt_of_succ_lt_succ h) j u hu
    show ((f x) ++ cellsG f t)[(i + 1) * sz + j]? = some u
    have e : (i + 1) * sz + j = (f x).length + (i * sz + j) := by rw [hf, Nat.succ_mul]; omega
    rw [e, List.getElem?_append_right (Nat.le_add_right _ _), Nat.add_sub_cancel_left]
    exact this
theorem cellsG_take (hf : ∀ x, (f x).length = sz) (l : List α) (k : Nat) : cellsG f (l.take k) = (cellsG f l).take (k * sz) := by
  induction l generalizing k with
  | nil => simp [cellsG]
  | cons x l ih =>
    cases k with
    | zero => simp [cellsG]
    | succ k =>
      show f x ++ cellsG f (l.take k) = (f x ++ cellsG f l).take _
      rw [ih, List.take_append, hf, Nat.succ_mul, List.take_of_length_le (l := f x) (by rw [hf]; omega)]
      congr 2
      omega
theorem own_hasG (hf : ∀ x, (f x).length = sz) {w : World} {base : Nat} {e : TypeId} {v : Value} {l : List α} (h : w.ownsRow base e sz v l.length (cellsG f l)) : HasG f sz (fun k => base ≤ k) w v l := by
  rcases h.2 with ⟨rfl, hn⟩ | ⟨g, cap, cur, rfl, hb, hg, hn, hm, hcs, ht⟩
  · have hl : l = [] := List.eq_nil_of_length_eq_zero hn
    subst hl
    exact ⟨none, 0, rfl, Nat.le_refl _, by decide, fun _ => ⟨rfl, rfl⟩, .inl rfl⟩
  · refine ⟨some ⟨g, 0, none⟩, cap, rfl, hn, hm, (fun e => by cases e), ?_⟩
    refine .inr ⟨g, 0, rfl, hb, (Array.getElem?_eq_some_iff.1 hg).1, fun i hi j u hu => ?_⟩
    have c := h.cells (g := g) rfl _ _ (cellsG_get hf l i hi j u hu)
    rw [Addr.add_lit] at c
    rw [Nat.add_assoc]
    exact c
/-- The cells of a row, from its head on. -/
theorem HasG.news (hf : ∀ x, (f x).length = sz) {P : Nat → Prop} {w : World} {ao : Option Addr} {n c : Nat} {l : List α} (h : HasG f sz P w (.slice ao n c) l) : ∀ ad, ao = some ad → ∀ j u, (cellsG f l)[j]? = some u → w.cell? (ad.add j) = some u := by
  intro ad he j u hu
  obtain ⟨ao', cap, h1, _, _, _, h5⟩ := h
  injection h1 with e1 e2 e3
  subst e1
  rcases h5 with rfl | ⟨b, o, e, _, _, hc⟩
  · simp [cellsG] at hu
  · rw [he] at e
    obtain rfl := Option.some.inj e
    rw [Addr.add_lit]
    have hj : j < l.length * sz := by rw [← length_cellsG hf]; exact (List.getElem?_eq_some_iff.1 hu).1
    have hsz : 0 < sz := Nat.pos_of_ne_zero fun e => by subst e; omega
    have hi : j / sz < l.length := Nat.div_lt_of_lt_mul (by rw [Nat.mul_comm]; exact hj)
    have hd : j / sz * sz + j % sz = j := by rw [Nat.mul_comm]; exact Nat.div_add_mod j sz
    have hlt : j % sz < (f l[j / sz]).length := by rw [hf]; exact Nat.mod_lt _ hsz
    have g := cellsG_get hf l (j / sz) hi (j % sz) _ (List.getElem?_eq_getElem hlt)
    rw [hd, hu] at g
    have := hc (j / sz) hi (j % sz) _ (List.getElem?_eq_getElem hlt)
    rw [Nat.add_assoc, hd] at this
    rw [this, ← g]
/-- A shorter slice of an own row. -/
theorem own_cut (hf : ∀ x, (f x).length = sz) {w : World} {base : Nat} {e : TypeId} {ao : Option Addr} {n c : Nat} {l : List α} (h : w.ownsRow base e sz (.slice ao n c) n (cellsG f l)) {k : Nat} (hk : k ≤ n) : w.ownsRow base e sz (.slice ao k c) k (cellsG f (l.take k)) := by
  have hl : l.length * sz = n * sz := by rw [← length_cellsG hf]; exact h.1
  refine ⟨?_, ?_⟩
  · rw [cellsG_take hf, List.length_take, h.1]
    exact Nat.min_eq_left (Nat.mul_le_mul_right _ hk)
  · rcases h.2 with ⟨e1, hn⟩ | ⟨g, cap, cur, e1, hb, hg, hn, hm, hcs, ht⟩
    · injection e1 with e1 e2 e3
      subst e1 e2 e3
      obtain rfl : k = 0 := by omega
      exact .inl ⟨rfl, rfl⟩
    · injection e1 with e1 e2 e3
      subst e1 e3
      refine .inr ⟨g, c, cur, rfl, hb, hg, by omega, hm, hcs, ?_⟩
      rw [cellsG_take hf, ← ht, List.take_take, Nat.min_eq_left (Nat.mul_le_mul_right _ hk)]
end
theorem wpList_append_row9 {P : Program} {w : World} {ops : Array Oper} {rest : List Oper} {o : Oper} {a : Act} {Q : Exit → Act → World → Prop} (hgd : o.guard = none) (s x : Operand) (t : TypeId)
    (ho : o.op = .call { callee := .builtin .append, args := #[s, x], argTypes := #[t, t] })
    (base : Nat) (e : TypeId) (i : TypeInfo) (z : Value) (size bytes : Nat) (ht : P.underlying t = some (.slice e)) (hi : P.info? e = some i) (hz : i.zero = some z)
    (hsize : i.size = size) (hby : i.bytes = bytes) (hzs : z.cells.size = size) (hsz : 0 < size)
    (v : Value) (n : Nat) (xs : List Value) (hs : a.eval s = v) (hown : w.ownsRow base e size v n xs)
    (ao : Option Addr) (m c : Nat) (news : List Value) (hx : a.eval x = .slice ao m c) (hao : ao = none → m = 0 ∧ c = 0) (hl : news.length = m * size) (hnews : ∀ ad, ao = some ad → ∀ j u, news[j]? = some u → w.cell? (ad.add j) = some u) (h1 : ∀ u ∈ news, u.oneCell' = true)
    (h63 : n + m ≤ maxLen) (hbytes : (n + m) * bytes ≤ 140737488355328) (hbase : base ≤ w.heap.size)
    (h : ∀ v' w', w'.ownsRow base e size v' (n + m) (xs ++ news) → w.grownBy w' v.ownBlock → wpList P ops Q rest (a.put o.dst v') w') : wpList P ops Q (o :: rest) a w := by
  cases ao with
  | none =>
    obtain ⟨rfl, rfl⟩ := hao rfl
    have hn : news = [] := List.eq_nil_of_length_eq_zero (by omega)
    subst hn
    exact wpList_append_own_none hgd s x t ho base e i size ht hi v n xs hs hown hx (h v w (by simpa using hown) (World.grownBy.refl _ _))
  | some ad => exact wpList_append_own _ hgd s x t ho base e i z size bytes ht hi hz hsize hby hzs hsz v n xs hs hown ad m c news hx hl (hnews ad rfl) h1 h63 hbytes hbase fun v' w' h2 h3 _ => h v' w' h2 h3
section
variable {α : Type} {f : α → List Value} {sz : Nat} {H : Type} {enc : TypeId × Value → H} {w : World} {base : Nat} {held : Bool} [Inhabited α]
theorem open_hasG (hsz : 0 < sz) {t e : TypeId} (ht : Try.prog.underlying t = some (.slice e)) (q : Try.prog.cellsOf e = sz) (W : α → Prop) {fuel : Nat} {v : Value} {x : DataW H × List MemPlace}
    (hel : ∀ (n b o : Nat) (cs : List Value) (y : DataW H × List MemPlace), w.cells? base ⟨b, o, none⟩ sz = some cs → DataW.trod enc Try.prog w base (fun _ => true) held n e cs = some y → ∃ r : α, W r ∧ Lies f w b o r)
    (h : DataW.trod enc Try.prog w base (fun _ => true) held fuel t [v] = some x) :
    ∃ l : List α, HasG f sz (fun k => k < w.heap.size) w v l ∧ (∀ r ∈ l, W r) ∧ l.length ≤ maxLen := by
  rcases open_slice ht h with ⟨h0, _⟩ | ⟨a, len, cap, m, n, D, Pl, h0, hb, hl, hm, hmm, rfl, hx⟩
  · exact ⟨[], ⟨none, 0, by simpa using h0, Nat.le_refl _, Nat.zero_le _, fun _ => ⟨rfl, rfl⟩, .inl rfl⟩, ⟨(fun r h => absurd h (List.not_mem_nil)), Nat.zero_le _⟩⟩
  simp only [if_true] at hmm
  subst hmm
  rw [q] at hx
  obtain ⟨b, o, spot⟩ := a
  by_cases h1 : len = 0
  · subst h1
    exact ⟨[], ⟨some ⟨b, o, spot⟩, m, by simpa using h0, Nat.zero_le _, hm, (fun h => by cases h), .inl rfl⟩, ⟨(fun r h => absurd h (List.not_mem_nil)), Nat.zero_le _⟩⟩
  have hspot : spot = none := by
    obtain ⟨cs, h2, _⟩ := hx 0 (by omega)
    obtain ⟨_, hlen, hcell⟩ := World.cells?_some h2
    have := hcell 0 (by omega)
    match cs, hlen with
    | [], hl => exact absurd hl (by simp; omega)
    | v0 :: _, _ => simpa [Addr.add] using World.cell?_spot (show w.cell? _ = some v0 from this)
  subst hspot
  obtain ⟨R, hR⟩ := choose_lt (α := α) (n := m) (p := fun i r => W r ∧ Lies f w b (o + i * sz) r) (fun i hi => by
    obtain ⟨cs, h2, h3⟩ := hx i hi
    rw [add_plain] at h2
    exact hel _ _ _ _ _ h2 h3)
  have hblk : b < w.heap.size := by
    obtain ⟨cs, h2, _⟩ := hx 0 (by omega)
    obtain ⟨_, hlen, hcell⟩ := World.cells?_some h2
    have := hcell 0 (by omega)
    match cs, hlen with
    | [], hl => exact absurd hl (by simp; omega)
    | v0 :: _, _ =>
      have := World.block_lt_of_cell? _ _ (show w.cell? _ = some v0 from this)
      simpa [Addr.add_lit] using this
  refine ⟨(List.range len).map R, ⟨some ⟨b, o, none⟩, m, by simpa using h0, by simpa using hl, hm, (fun h => by cases h), .inr ⟨b, o, rfl, hblk, hblk, fun i hi => ?_⟩⟩, ?_, by simp; omega⟩
  · have hi' : i < len := by simpa using hi
    rw [List.getElem_map, List.getElem_range]
    exact (hR i (by omega)).2
  · intro r hr
    obtain ⟨i, hi, rfl⟩ := List.mem_map.1 hr
    exact (hR i (by have := List.mem_range.1 hi; omega)).1
end
end Go.Proofs.Ytcgbjpmmbbldpaa
