/- A row of floats that came in, opened; num.Sum and raceref1.Sum give the same sum from the left. Conditions: none of its own. -/
import Derived.Test.YtjgbccadjgelbaaDoorG
import Derived.Test.YtjgbccadjgelbaaDoorHelp
import Derived.Deep.Grids
import Derived.Laws.OwnMore
import Derived.Laws.AppendOwnNone
import Derived.OwnWalk
namespace Go.Proofs.YtjgbccadjgelbaaDoor
open Go.ChangeShapes Go.WideShapes Go.RowKit Go.Deep

/-- What the walks want of a row: its cells, where it has any. -/
def HasRow (w : World) (ao : Option Addr) (xs : List Nat) : Prop :=
  xs = [] ∨ ∃ b off, ao = some ⟨b, off, none⟩ ∧ b < w.heap.size ∧ ∀ i, i < xs.length → w.cell? ⟨b, off + i, none⟩ = some (.float .f64 (xs.getD i 0))

section
variable {H : Type} {enc : TypeId × Value → H} {P : Program} {w : World} {base : Nat} {spare : Nat → Bool} {held : Bool}
theorem trod_float {e : TypeId} {k : FloatKind} {n : Nat} {v : Value} {y : DataW H × List MemPlace} (he : P.underlying e = some (.float k)) (h : DataW.trod enc P w base spare held n e [v] = some y) :
    ∃ b, v = .float k b ∧ y = (.lit (.float k b), []) ∧ (Lit.float k b).wf = true := by
  cases n with
  | zero => simp [DataW.trod] at h
  | succ n =>
    simp only [DataW.trod, he] at h
    split at h <;> simp_all
theorem open_floats {t e : TypeId} {fuel : Nat} {v : Value} {x : DataW H × List MemPlace} (ht : P.underlying t = some (.slice e)) (he : P.underlying e = some (.float .f64)) (hc : P.cellsOf e = 1)
    (h : DataW.trod enc P w base (fun _ => true) held fuel t [v] = some x) :
    ∃ ao cap, ∃ xs : List Nat, v = .slice ao xs.length cap ∧ xs.length ≤ maxLen ∧ xs.length ≤ cap ∧ (ao = none → cap = 0) ∧ HasRow w ao xs ∧ ∀ b ∈ xs, b < 18446744073709551616 := by
  rcases open_slice1 ht hc h with ⟨h0, _⟩ | ⟨a, len, cap, m, n, V, D, Pl, h0, hb, hl, hm, hmm, rfl, hx⟩
  · exact ⟨none, 0, [], by simpa using h0, Nat.zero_le _, Nat.le_refl _, fun _ => rfl, .inl rfl, fun b hb => by cases hb⟩
  simp only [if_true] at hmm
  subst hmm
  obtain ⟨B, hB⟩ := choose_lt (α := Nat) (p := fun i b => V i = .float .f64 b ∧ b < 18446744073709551616) (fun i hi => by
    obtain ⟨b, h1, _, h3⟩ := trod_float he (hx i hi).2
    simp [Lit.wf] at h3
    exact ⟨b, h1, by omega⟩)
  refine ⟨some a, m, (List.range len).map B, by simpa using h0, by simp; omega, by simpa using hl, (fun hh => by cases hh), ?_, ?_⟩
  · by_cases h1 : len = 0
    · left; simp [h1]
    right
    obtain ⟨b, off, spot⟩ := a
    have h00 := (hx 0 (by omega)).1
    have hspot : spot = none := by simpa [Addr.add] using World.cell?_spot h00
    subst hspot
    refine ⟨b, off, rfl, ?_, fun i hi => ?_⟩
    · exact World.block_lt_of_cell? _ _ h00
    have hi' : i < len := by simpa using hi
    have h2 := (hx i (by omega)).1
    rw [add_plain] at h2
    rw [h2, (hB i (by omega)).1]
    simp [List.getD, hi']
  · intro b hb
    obtain ⟨i, hi, rfl⟩ := List.mem_map.1 hb
    exact (hB i (by have := List.mem_range.1 hi; omega)).2
end
theorem HasRow.below {w w' : World} {ao : Option Addr} {xs : List Nat} (h : HasRow w ao xs) (hb : Below w.heap.size w w') : HasRow w' ao xs := by
  rcases h with h | ⟨b, off, rfl, hlt, h⟩
  · exact .inl h
  · exact .inr ⟨b, off, rfl, Nat.lt_of_lt_of_le hlt hb.size, fun i hi => (hb.cell hlt).trans (h i hi)⟩

/-- The sum from the left. -/
def sumFrom (s : Nat) (xs : List Nat) : Nat := xs.foldl (fun s y => resN (Ieee.double.add s y)) s
def sumN : List Nat → Nat
  | [] => 0
  | x :: xs => sumFrom (canon x) xs
theorem sumFrom_step (s : Nat) (xs : List Nat) (k : Nat) (h : k < xs.length) : sumFrom s (xs.take (k + 1)) = resN (Ieee.double.add (sumFrom s (xs.take k)) (xs.getD k 0)) := by
  unfold sumFrom
  rw [List.take_add_one, List.getElem?_eq_getElem h, List.foldl_append]
  simp [List.getD, h]
theorem HasRow.drewN {w : World} {ao : Option Addr} {xs : List Nat} (h : HasRow w ao xs) (n : Nat) : HasRow (w.drewN n) ao xs := h.below (below_drewN (Below.refl _ _) n)
theorem sum_is (s y r : Nat) (h : resN (Ieee.double.add s y) = r) (w : World) :
    Calls Tryd.prog 29 #[.float .f64 s, .float .f64 y] w fun e w' => e = .returned (.float .f64 r) ∧ Drew w w' := by
  subst h; exact add_any s y w
theorem does0_is (s y r : Nat) (h : resN (Ieee.double.add s y) = r) (w : World) :
    Calls Tryd.prog 30 #[.int .i64 0, .float .f64 s, .float .f64 y] w fun e w' => e = .returned (.float .f64 r) ∧ Drew w w' := by
  subst h; exact does0_any s y w
theorem ret_f {a b : Nat} (h : a = b) : Ending.returned (.float .f64 a) = .returned (.float .f64 b) := by rw [h]
theorem sum_none (ao : Option Addr) (cap : Nat) (w : World) : Calls Tryd.prog 38 #[.slice ao 0 cap] w fun e w' => e = .returned (.float .f64 0) ∧ w = w' := by
  go_enter Tryd.func38, Tryd.ntmps38
  go_wp2
  go_ret
  exact ⟨rfl, rfl⟩
theorem rsum_none (ao : Option Addr) (cap : Nat) (w : World) : Calls Tryd.prog 39 #[.slice ao 0 cap] w fun e w' => e = .returned (.float .f64 0) ∧ w = w' := by
  go_enter Tryd.func39, Tryd.ntmps39
  go_wp2
  go_ret
  exact ⟨rfl, rfl⟩
set_option maxRecDepth 100000 in
theorem rsum_some (b off cap n : Nat) (x : Nat) (ys : List Nat) (hn : n = ys.length) (hlen : n ≤ 20000) (w : World)
    (h0 : w.cell? ⟨b, off, none⟩ = some (.float .f64 x)) (hc : ∀ i, i < n → w.cell? ⟨b, off + (i + 1), none⟩ = some (.float .f64 (ys.getD i 0))) :
    Calls Tryd.prog 39 #[.slice (some ⟨b, off, none⟩) (n + 1) cap] w fun e w' => e = .returned (.float .f64 (sumFrom (canon x) ys)) ∧ Drew w w' := by
  have HC := Lib.hid hc; clear hc
  have HN := Lib.hid hn; clear hn
  go_enter Tryd.func39, Tryd.ntmps39
  go_wp2_with (go_at_call 20; refine (rcanon_any _ _).mono ?_; rintro e w' ⟨rfl, rfl⟩)
  go_loopw [3, 4] (fun vs vi wr => ∃ (k a m : Nat), vs = .float .f64 a ∧ vi = .int .i64 ((k : Int) + 1) ∧ k ≤ n ∧ Hid (a = sumFrom (canon x) (ys.take k)) ∧ wr = w.drewN m) (fun _ vi _ => n + 1 - (RowKit.intOf vi).toNat)
  case atStart => exact ⟨0, _, 0, rfl, rfl, Nat.zero_le _, rfl, rfl⟩
  case round =>
    obtain ⟨k, a, m, rfl, rfl, hk, hh, rfl⟩ := hrel
    by_cases hlt : k < n
    · have hkc : (w.drewN m).cell? ⟨b, off + (k + 1), none⟩ = some (.float .f64 (ys.getD k 0)) := HC.out k hlt
      have HS : Hid (resN (Ieee.double.add a (ys.getD k 0)) = sumFrom (canon x) (ys.take (k + 1))) := by
        unfold Hid; rw [sumFrom_step _ _ _ (by rw [← HN.out]; exact hlt), ← hh.out]
      clear hh
      generalize ys.getD k 0 = y at *
      go_wp2_with (go_at_call 30; refine (does0_is _ _ _ HS.out _).mono ?_; rintro e w' ⟨rfl, r, rfl⟩)
      go_roundw
      case rel => exact ⟨k + 1, _, _, rfl, by go_num, by omega, rfl, rfl⟩
      case measure => simp [RowKit.intOf]; omega
    · obtain rfl : k = n := by omega
      have HE : Hid (a = sumFrom (canon x) ys) := by unfold Hid; have := hh.out; rwa [List.take_of_length_le (by rw [HN.out]; exact Nat.le_refl _)] at this
      clear hh hlt
      go_wp2
      go_ret
      exact ⟨ret_f HE.out, _, rfl⟩
set_option maxRecDepth 100000 in
theorem sum_many (b off cap n : Nat) (x : Nat) (ys : List Nat) (hn : n = ys.length) (hlen : n ≤ 20000) (hcap : n + 1 ≤ cap) (h1 : ¬ cap = 1) (w : World)
    (h0 : w.cell? ⟨b, off, none⟩ = some (.float .f64 x)) (hc : ∀ i, i < n → w.cell? ⟨b, off + (i + 1), none⟩ = some (.float .f64 (ys.getD i 0))) :
    Calls Tryd.prog 38 #[.slice (some ⟨b, off, none⟩) (n + 1) cap] w fun e w' => e = .returned (.float .f64 (sumFrom (canon x) ys)) ∧ Drew w w' := by
  have HC := Lib.hid hc; clear hc
  have HN := Lib.hid hn; clear hn
  go_enter Tryd.func38, Tryd.ntmps38
  go_wp2_with (go_at_call 19; refine (canon_any _ _).mono ?_; rintro e w' ⟨rfl, rfl⟩)
  go_loopw [3, 16] (fun vs vi wr => ∃ (k a m : Nat), vs = .float .f64 a ∧ vi = .int .i64 (k : Int) ∧ k ≤ n ∧ Hid (a = sumFrom (canon x) (ys.take k)) ∧ wr = w.drewN m) (fun _ vi _ => n - (RowKit.intOf vi).toNat)
  case atStart => exact ⟨0, _, 0, rfl, rfl, Nat.zero_le _, rfl, rfl⟩
  case round =>
    obtain ⟨k, a, m, rfl, rfl, hk, hh, rfl⟩ := hrel
    by_cases hlt : k < n
    · have hkc : (w.drewN m).cell? ⟨b, off + 1 + k, none⟩ = some (.float .f64 (ys.getD k 0)) := by rw [show off + 1 + k = off + (k + 1) by omega]; exact HC.out k hlt
      have HS : Hid (resN (Ieee.double.add a (ys.getD k 0)) = sumFrom (canon x) (ys.take (k + 1))) := by
        unfold Hid; rw [sumFrom_step _ _ _ (by rw [← HN.out]; exact hlt), ← hh.out]
      clear hh
      generalize ys.getD k 0 = y at *
      go_wp2_with (go_at_call 29; refine (sum_is _ _ _ HS.out _).mono ?_; rintro e w' ⟨rfl, r, rfl⟩)
      go_roundw
      case rel => exact ⟨k + 1, _, _, rfl, by go_num, by omega, rfl, rfl⟩
      case measure => simp [RowKit.intOf]; omega
    · obtain rfl : k = n := by omega
      have HE : Hid (a = sumFrom (canon x) ys) := by unfold Hid; have := hh.out; rwa [List.take_of_length_le (by rw [HN.out]; exact Nat.le_refl _)] at this
      clear hh hlt
      go_wp2
      go_ret
      exact ⟨ret_f HE.out, _, rfl⟩
theorem sum_lone (b off : Nat) (x : Nat) (w : World) (h0 : w.cell? ⟨b, off, none⟩ = some (.float .f64 x)) :
    Calls Tryd.prog 38 #[.slice (some ⟨b, off, none⟩) 1 1] w fun e w' => e = .returned (.float .f64 (canon x)) ∧ w = w' := by
  go_enter Tryd.func38, Tryd.ntmps38
  go_wp2_with (go_at_call 19; refine (canon_any _ _).mono ?_; rintro e w' ⟨rfl, rfl⟩)
  refine wp_loop_rounds 1 ?_
  rw [rounds_succ]
  go_wp2
  go_ret
  exact ⟨rfl, rfl⟩
theorem sum_any (ao : Option Addr) (cap : Nat) (xs : List Nat) (hlen : xs.length ≤ 20000) (hcap : xs.length ≤ cap) (w : World) (h : HasRow w ao xs) :
    Calls Tryd.prog 38 #[.slice ao xs.length cap] w fun e w' => e = .returned (.float .f64 (sumN xs)) ∧ Drew w w' := by
  match xs, h with
  | [], _ => exact (sum_none ao cap w).mono fun e w' ⟨he, hw⟩ => ⟨he, by subst hw; exact Drew.refl _⟩
  | x :: ys, .inl h => cases h
  | x :: ys, .inr ⟨b, off, h1, _, h3⟩ =>
    subst h1
    have h0 := h3 0 (by simp)
    have hc : ∀ i, i < ys.length → w.cell? ⟨b, off + (i + 1), none⟩ = some (.float .f64 (ys.getD i 0)) := fun i hi => by
      have := h3 (i + 1) (by simpa using hi)
      simpa [List.getD] using this
    have hl : (x :: ys).length = ys.length + 1 := rfl
    rw [hl] at hlen hcap ⊢
    by_cases hc1 : cap = 1
    · have hy : ys = [] := List.eq_nil_of_length_eq_zero (by omega)
      subst hc1; subst hy
      exact (sum_lone b off x w h0).mono fun e w' ⟨he, hw⟩ => ⟨he, by subst hw; exact Drew.refl _⟩
    · exact sum_many b off cap ys.length x ys rfl (by omega) hcap hc1 w h0 hc
theorem rsum_any (ao : Option Addr) (cap : Nat) (xs : List Nat) (hlen : xs.length ≤ 20000) (w : World) (h : HasRow w ao xs) :
    Calls Tryd.prog 39 #[.slice ao xs.length cap] w fun e w' => e = .returned (.float .f64 (sumN xs)) ∧ Drew w w' := by
  match xs, h with
  | [], _ => exact (rsum_none ao cap w).mono fun e w' ⟨he, hw⟩ => ⟨he, by subst hw; exact Drew.refl _⟩
  | x :: ys, .inl h => cases h
  | x :: ys, .inr ⟨b, off, h1, _, h3⟩ =>
    subst h1
    have h0 := h3 0 (by simp)
    have hc : ∀ i, i < ys.length → w.cell? ⟨b, off + (i + 1), none⟩ = some (.float .f64 (ys.getD i 0)) := fun i hi => by
      have := h3 (i + 1) (by simpa using hi)
      simpa [List.getD] using this
    have hl : (x :: ys).length = ys.length + 1 := rfl
    rw [hl] at hlen ⊢
    exact rsum_some b off cap ys.length x ys rfl (by omega) w h0 hc
/-- 'append(own, src...)', src nil or not. -/
theorem wpList_append_row {P : Program} {w : World} {ops : Array Oper} {rest : List Oper} {o : Oper} {a : Act} {Q : Exit → Act → World → Prop} (hgd : o.guard = none) (s x : Operand) (t : TypeId)
    (ho : o.op = .call { callee := .builtin .append, args := #[s, x], argTypes := #[t, t] })
    (base : Nat) (e : TypeId) (i : TypeInfo) (z : Value) (size bytes : Nat) (ht : P.underlying t = some (.slice e)) (hi : P.info? e = some i) (hz : i.zero = some z)
    (hsize : i.size = size) (hby : i.bytes = bytes) (hzs : z.cells.size = size) (hsz : 0 < size)
    (v : Value) (n : Nat) (xs : List Value) (hs : a.eval s = v) (hown : w.ownsRow base e size v n xs)
    (ao : Option Addr) (m c : Nat) (news : List Value) (hx : a.eval x = .slice ao m c) (hao : ao = none → m = 0 ∧ c = 0) (hl : news.length = m * size) (hnews : ∀ ad, ao = some ad → ∀ j u, news[j]? = some u → w.cell? (ad.add j) = some u) (h1 : ∀ u ∈ news, u.oneCell' = true)
    (h63 : n + m ≤ maxLen) (hbytes : (n + m) * bytes ≤ 140737488355328) (hbase : base ≤ w.heap.size)
    (h : ∀ v' w', w'.ownsRow base e size v' (n + m) (xs ++ news) → w.grownBy w' v.ownBlock → wpList P ops Q rest (a.put o.dst v') w') : wpList P ops Q (o :: rest) a w := by
  cases ao with
  | none =>
    obtain ⟨rfl, rfl⟩ := hao rfl
    have hn : news = [] := List.eq_nil_of_length_eq_zero (by omega)
    subst hn
    exact wpList_append_own_none hgd s x t ho base e i size ht hi v n xs hs hown hx (h v w (by simpa using hown) (World.grownBy.refl _ _))
  | some ad => exact wpList_append_own _ hgd s x t ho base e i z size bytes ht hi hz hsize hby hzs hsz v n xs hs hown ad m c news hx hl (hnews ad rfl) h1 h63 hbytes hbase fun v' w' h2 h3 _ => h v' w' h2 h3
/-- What an owned row of floats is good for. -/
theorem own_row {w : World} {base n : Nat} {e : TypeId} {v : Value} {xs : List Nat} (h : w.ownsRow base e 1 v n (xs.map (Value.float .f64))) : ∃ ao cap, v = .slice ao xs.length cap ∧ xs.length ≤ cap ∧ HasRow w ao xs := by
  have hn : xs.length = n := by have := h.1; simpa using this
  have h0 := h
  obtain ⟨_, h2⟩ := h
  rcases h2 with ⟨rfl, h3⟩ | ⟨g, cap, cur, rfl, hg, hh, hle, _, _, _⟩
  · have hx : xs = [] := List.eq_nil_of_length_eq_zero (by omega)
    subst hx
    exact ⟨none, 0, rfl, Nat.le_refl _, .inl rfl⟩
  · refine ⟨some ⟨g, 0, none⟩, cap, by rw [hn], by omega, .inr ⟨g, 0, rfl, ?_, fun i hi => ?_⟩⟩
    · by_cases h4 : g < w.heap.size
      · exact h4
      · rw [Array.getElem?_eq_none (by omega)] at hh; cases hh
    · rw [Nat.zero_add, h0.cellAt i (by omega)]
      simp [List.getD, hi]
theorem HasRow.cells {w : World} {ao : Option Addr} {xs : List Nat} (h : HasRow w ao xs) : ∀ ad, ao = some ad → ∀ j u, (xs.map (Value.float .f64))[j]? = some u → w.cell? (ad.add j) = some u := by
  intro ad hao j u hj
  have hjl : j < xs.length := by
    by_cases h4 : j < xs.length
    · exact h4
    · rw [List.getElem?_eq_none (by simpa using h4)] at hj; cases hj
  rcases h with rfl | ⟨b, off, h1, _, h3⟩
  · simp at hjl
  · obtain rfl := Option.some.inj (h1.symm.trans hao)
    rw [add_plain, h3 j hjl]
    rw [List.getElem?_map] at hj
    simp [List.getD, hjl] at hj ⊢
    exact hj
theorem HasRow.at {w : World} {ao : Option Addr} {xs : List Nat} (h : HasRow w ao xs) {k : Nat} (hk : k < xs.length) : ∃ b off, ao = some ⟨b, off, none⟩ ∧ ∀ i, i < xs.length → w.cell? ⟨b, off + i, none⟩ = some (.float .f64 (xs.getD i 0)) := by
  rcases h with rfl | ⟨b, off, h1, _, h3⟩
  · simp at hk
  · exact ⟨b, off, h1, h3⟩
end Go.Proofs.YtjgbccadjgelbaaDoor
