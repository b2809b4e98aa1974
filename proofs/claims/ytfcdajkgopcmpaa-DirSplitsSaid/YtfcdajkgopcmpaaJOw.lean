/- Own rows of ranges: what lies in them; an append of a row that came in. Conditions: none. -/
import Derived.Test.YtfcdajkgopcmpaaJRr
import Derived.Laws.AppendOwn
import Derived.Laws.AppendOwnNone
namespace Go.Proofs.Ytfcdajkgopcmpaa
open Go.ChangeShapes Go.WideShapes Go.ChangeAt Go.RowKit
theorem wpList_append_row {P : Program} {w : World} {ops : Array Oper} {rest : List Oper} {o : Oper} {a : Act} {Q : Exit → Act → World → Prop} (hgd : o.guard = none) (s x : Operand) (t : TypeId)
    (ho : o.op = .call { callee := .builtin .append, args := #[s, x], argTypes := #[t, t] })
    (base : Nat) (e : TypeId) (i : TypeInfo) (z : Value) (size bytes : Nat) (ht : P.underlying t = some (.slice e)) (hi : P.info? e = some i) (hz : i.zero = some z)
    (hsize : i.size = size) (hby : i.bytes = bytes) (hzs : z.cells.size = size) (hsz : 0 < size)
    (v : Value) (n : Nat) (xs : List Value) (hs : a.eval s = v) (hown : w.ownsRow base e size v n xs)
    (ao : Option Addr) (m c : Nat) (news : List Value) (hx : a.eval x = .slice ao m c) (hao : ao = none → m = 0 ∧ c = 0) (hl : news.length = m * size) (hnews : ∀ ad, ao = some ad → ∀ j u, news[j]? = some u → w.cell? (ad.add j) = some u) (h1 : ∀ u ∈ news, u.oneCell' = true)
    (h63 : n + m ≤ maxLen) (hbytes : (n + m) * bytes ≤ 140737488355328) (hbase : base ≤ w.heap.size)
    (h : ∀ v' w', w'.ownsRow base e size v' (n + m) (xs ++ news) → w.grownBy w' v.ownBlock → wpList P ops Q rest (a.put o.dst v') w') : wpList P ops Q (o :: rest) a w := by
  cases ao with
  | none =>
    obtain ⟨rfl, rfl⟩ := hao rfl
    have hn : news = [] := List.eq_nil_of_length_eq_zero (by omega)
    subst hn
    exact wpList_append_own_none hgd s x t ho base e i size ht hi v n xs hs hown hx (h v w (by simpa using hown) (World.grownBy.refl _ _))
  | some ad => exact wpList_append_own _ hgd s x t ho base e i z size bytes ht hi hz hsize hby hzs hsz v n xs hs hown ad m c news hx hl (hnews ad rfl) h1 h63 hbytes hbase fun v' w' h2 h3 _ => h v' w' h2 h3
theorem cellsR_get : ∀ (l : List RV) (i : Nat) (h : i < l.length), (cellsR l)[i * 4]? = some (.int .i64 l[i].i) ∧ (cellsR l)[i * 4 + 1]? = some (.int .i64 l[i].e) ∧ (cellsR l)[i * 4 + 2]? = some (.float .f64 l[i].lo) ∧ (cellsR l)[i * 4 + 3]? = some (.float .f64 l[i].hi)
  | [], i, h => absurd h (Nat.not_lt_zero _)
  | r :: t, 0, _ => ⟨rfl, rfl, rfl, rfl⟩
  | r :: t, i + 1, h => by
    have := cellsR_get t i (Nat.lt_of_succ_lt_succ h)
    rw [cellsR_cons, show (i + 1) * 4 = i * 4 + 4 by omega]
    exact this
theorem own_ranges {w : World} {base : Nat} {v : Value} {l : List RV} (h : w.ownsRow base 37 4 v l.length (cellsR l)) : HasR (fun k => base ≤ k) w v l := by
  rcases h.2 with ⟨rfl, hn⟩ | ⟨g, cap, cur, rfl, hb, hg, hn, hm, hcs, ht⟩
  · have hl : l = [] := List.eq_nil_of_length_eq_zero hn
    subst hl
    exact ⟨none, 0, rfl, Nat.le_refl _, by decide, fun _ => ⟨rfl, rfl⟩, .inl rfl⟩
  · refine ⟨some ⟨g, 0, none⟩, cap, rfl, hn, hm, (fun e => by cases e), ?_⟩
    refine .inr ⟨g, 0, rfl, hb, (Array.getElem?_eq_some_iff.1 hg).1, fun i hi => ?_⟩
    obtain ⟨h0, h1, h2, h3⟩ := cellsR_get l i hi
    have c := fun j u hu => h.cells (g := g) rfl j u hu
    have c0 := c _ _ h0; have c1 := c _ _ h1; have c2 := c _ _ h2; have c3 := c _ _ h3
    rw [Addr.add_lit] at c0 c1 c2 c3
    exact ⟨c0, by rw [Nat.add_assoc]; exact c1, by rw [Nat.add_assoc]; exact c2, by rw [Nat.add_assoc]; exact c3⟩
theorem HasR.news {P : Nat → Prop} {w : World} {ao : Option Addr} {n c : Nat} {l : List RV} (h : HasR P w (.slice ao n c) l) : ∀ ad, ao = some ad → ∀ j u, (cellsR l)[j]? = some u → w.cell? (ad.add j) = some u := by
  intro ad he j u hu
  obtain ⟨ao', cap, h1, _, _, _, h5⟩ := h
  simp at h1
  obtain ⟨rfl, _, _⟩ := h1
  rcases h5 with rfl | ⟨b, o, e, _, _, hc⟩
  · simp [cellsR] at hu
  · rw [he] at e
    obtain rfl := Option.some.inj e
    rw [Addr.add_lit]
    exact cellsR_at l o hc j u hu
end Go.Proofs.Ytfcdajkgopcmpaa
