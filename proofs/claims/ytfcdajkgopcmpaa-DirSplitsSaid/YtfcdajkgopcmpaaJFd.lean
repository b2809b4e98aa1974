/- raceref4.Find, place.Find: the first range of a row that has a place. Conditions: none. A directory of ranges in plain terms: what stands at each number, what is learnt. Conditions: none. -/
import Derived.Test.YtfcdajkgopcmpaaJRr
import Derived.Test.YtfcdajkgopcmpaaJMd
namespace Go.Proofs.Ytfcdajkgopcmpaa
open Go.ChangeShapes Go.WideShapes Go.ChangeAt Go.RowKit
def findV (l : List RV) (x : Nat) : RV × Bool := match l.find? (fun r => inV r x) with
  | some r => (r, true)
  | none => (RV.zero, false)
theorem find_at {l : List RV} {x k : Nat} (h : k < l.length) (hn : ∀ r ∈ l.take k, inV r x = false) (hy : inV l[k] x = true) : findV l x = (l[k], true) := by
  have : l.find? (fun r => inV r x) = some l[k] := by
    have e : l = l.take k ++ l[k] :: l.drop (k + 1) := by rw [← List.drop_eq_getElem_cons h, List.take_append_drop]
    generalize l[k] = r at e hy ⊢
    rw [e, List.find?_append, List.find?_eq_none.2 (fun r hr => by rw [hn r hr]; decide), List.find?_cons_of_pos (by simpa using hy)]
    rfl
  unfold findV
  rw [this]
theorem find_not {l : List RV} {x : Nat} (hn : ∀ r ∈ l, inV r x = false) : findV l x = (RV.zero, false) := by
  unfold findV
  rw [List.find?_eq_none.2 (fun r hr => by rw [hn r hr]; decide)]
theorem take_next {l : List RV} {x k : Nat} (h : k < l.length) (hn : ∀ r ∈ l.take k, inV r x = false) (hy : inV l[k] x = false) : ∀ r ∈ l.take (k + 1), inV r x = false := by
  intro r hr
  rw [List.take_add_one, List.getElem?_eq_getElem h] at hr
  rcases List.mem_append.1 hr with h | h
  · exact hn r h
  · obtain rfl : r = l[k] := by simpa using h
    exact hy
theorem res_two {fn : Func} {p u : Tmp} (h : fn.results = #[.cell p 37, .tmp u]) (tmps : Array Value) {b : Nat} {r : RV} {w : World} (hp : tmps.getD p undef = .pointer (some ⟨b, 0, none⟩)) (hA : At w b r) :
    (results fn tmps).run Try.prog w = .ok (.tuple #[ragg r, tmps.getD u undef]) w := by
  have l1 := load_at hA
  simp only [Array.getD_eq_getD_getElem?] at hp
  simp only [results, h]
  simp [Result.andThen, hp, asAddr, l1]
set_option maxRecDepth 100000 in
theorem rfind_some (x : Nat) (l : List RV) (n b o cap : Nat) (hn : l.length = n) (w : World) (hb : b < w.heap.size) (hcap : n ≤ cap) (hm : n ≤ 1000000) (hc : ∀ i, (h : i < l.length) → RAt w b (o + i * 4) l[i]) :
    Calls Try.prog 26 #[.slice (some ⟨b, o, none⟩) n cap, .float .f64 x] w fun e w' => e = .returned (.tuple #[ragg (findV l x).1, .bool (findV l x).2]) ∧ Below w.heap.size w w' := by
  have hst := run_stf
  have HP := Lib.hid (at_new w RV.zero)
  have HW := Lib.hid (below1 w (robj RV.zero))
  have HC := Lib.hid hc
  have HB := Lib.hid hb
  clear hc hb
  go_enter Try.func26, Try.ntmps26
  go_wp2
  go_loopw [6] (fun vi wr => ∃ (k : Nat), vi = .int .i64 (k : Int) ∧ k ≤ n ∧ Hid (∀ r ∈ l.take k, inV r x = false) ∧ Hid (Below w.heap.size w wr) ∧ Hid (At wr w.heap.size RV.zero)) (fun vi _ => n - (RowKit.intOf vi).toNat)
  case atStart => exact ⟨0, rfl, Nat.zero_le _, Lib.hid (fun r hr => by cases hr), HW, HP⟩
  case round =>
    obtain ⟨k, rfl, hk, hf, HW1, HP1⟩ := hrel
    by_cases hlt : k < n
    · have hk' : k < l.length := by omega
      have HR := Lib.hid ((HC.out k hk').below HW1.out HB.out)
      have HF := Lib.hid (fun h => find_at hk' hf.out h)
      have HN := Lib.hid (fun h => take_next hk' hf.out h)
      generalize l[k] = r at *
      have r0 := HR.out.c0; have r1 := HR.out.c1; have r2 := HR.out.c2; have r3 := HR.out.c3
      have HI := fun w => Lib.hid (rin_any r x w)
      clear hf
      cases hi : inV r x
      · have HN := Lib.hid (HN.out hi)
        rw [hi] at HI
        clear HF
        go_wp2_with (go_at_call 23; ((with_reducible refine (HI _).out.mono ?_); rintro e w2 ⟨rfl, h2⟩; have HW2 := Lib.hid (HW1.out.trans (h2.mono HW1.out.size)); have HP2 := Lib.hid (HP1.out.below h2 HP1.out.lt); clear h2))
        go_roundw
        case rel => exact ⟨k + 1, by go_num, by omega, HN, HW2, HP2⟩
        case measure => simp [RowKit.intOf]; omega
      · have HF := Lib.hid (HF.out hi)
        rw [hi] at HI
        clear HN
        go_wp2_with (go_at_call 23; ((with_reducible refine (HI _).out.mono ?_); rintro e w2 ⟨rfl, h2⟩; have HW2 := Lib.hid (HW1.out.trans (h2.mono HW1.out.size)); have HP2 := Lib.hid (HP1.out.below h2 HP1.out.lt); have HR2 := Lib.hid (HR.out.below h2 (Nat.lt_of_lt_of_le HB.out HW1.out.size)); have r0 := HR2.out.c0; have r1 := HR2.out.c1; have r2 := HR2.out.c2; have r3 := HR2.out.c3; have p0 := HP2.out.c0; have p1 := HP2.out.c1; have p2 := HP2.out.c2; have p3 := HP2.out.c3; have q0 := HP2.out.f0; have q1 := HP2.out.f1; have q2 := HP2.out.f2; have q3 := HP2.out.f3; clear h2))
        exact bodyPost_ret (res_two rfl _ rfl (HP2.out.setAll r)) rfl ⟨by rw [HF.out]; rfl, below_set4 HW2.out (Nat.le_refl _) r⟩
    · obtain rfl : k = n := by omega
      have hF : findV l x = (RV.zero, false) := find_not (by have := hf.out; rwa [List.take_of_length_le (by omega)] at this)
      have HF := Lib.hid hF
      clear hf hlt hF
      have p0 := HP1.out.c0; have p1 := HP1.out.c1; have p2 := HP1.out.c2; have p3 := HP1.out.c3; have q0 := HP1.out.f0; have q1 := HP1.out.f1; have q2 := HP1.out.f2; have q3 := HP1.out.f3
      go_wp2
      exact bodyPost_ret (res_two rfl _ rfl (HP1.out.setAll RV.zero)) rfl ⟨by rw [HF.out]; rfl, below_set4 HW1.out (Nat.le_refl _) RV.zero⟩
set_option maxRecDepth 100000 in
theorem rfind_none (x : Nat) (ao : Option Addr) (cap : Nat) (w : World) : Calls Try.prog 26 #[.slice ao 0 cap, .float .f64 x] w fun e w' => e = .returned (.tuple #[ragg RV.zero, .bool false]) ∧ Below w.heap.size w w' := by
  have hst := run_stf
  have HP := Lib.hid (at_new w RV.zero)
  have HW := Lib.hid (below1 w (robj RV.zero))
  go_enter Try.func26, Try.ntmps26
  go_wp2
  go_loopw [6] (fun vi wr => vi = .int .i64 0 ∧ Hid (Below w.heap.size w wr) ∧ Hid (At wr w.heap.size RV.zero)) (fun _ _ => 0)
  case atStart => exact ⟨rfl, HW, HP⟩
  case round =>
    obtain ⟨rfl, HW1, HP1⟩ := hrel
    have p0 := HP1.out.c0; have p1 := HP1.out.c1; have p2 := HP1.out.c2; have p3 := HP1.out.c3; have q0 := HP1.out.f0; have q1 := HP1.out.f1; have q2 := HP1.out.f2; have q3 := HP1.out.f3
    go_wp2
    exact bodyPost_ret (res_two rfl _ rfl (HP1.out.setAll RV.zero)) rfl ⟨rfl, below_set4 HW1.out (Nat.le_refl _) RV.zero⟩
theorem rfind_any (x : Nat) {P : Nat → Prop} {w : World} {v : Value} {l : List RV} (hv : HasR P w v l) (hm : l.length ≤ 1000000) :
    Calls Try.prog 26 #[v, .float .f64 x] w fun e w' => e = .returned (.tuple #[ragg (findV l x).1, .bool (findV l x).2]) ∧ Below w.heap.size w w' := by
  obtain ⟨ao, cap, rfl, h1, h2, h3, h4⟩ := hv
  rcases h4 with rfl | ⟨b, o, rfl, _, h6, h7⟩
  · exact rfind_none x ao cap w
  · exact rfind_some x l _ b o cap rfl w h6 h1 hm h7
set_option maxRecDepth 100000 in
theorem find_some (x : Nat) (l : List RV) (n b o cap : Nat) (hn : l.length = n) (w : World) (hb : b < w.heap.size) (hcap : n ≤ cap) (hm : n ≤ 1000000) (hc : ∀ i, (h : i < l.length) → RAt w b (o + i * 4) l[i]) :
    Calls Try.prog 32 #[.slice (some ⟨b, o, none⟩) n cap, .float .f64 x] w fun e w' => e = .returned (.tuple #[ragg (findV l x).1, .bool (findV l x).2]) ∧ Below w.heap.size w w' := by
  have hst := run_stf
  have HP := Lib.hid (at_new w RV.zero)
  have HW := Lib.hid (below1 w (robj RV.zero))
  have HC := Lib.hid hc
  have HB := Lib.hid hb
  clear hc hb
  go_enter Try.func32, Try.ntmps32
  go_wp2
  go_loopw [10] (fun vi wr => ∃ (k : Nat), vi = .int .i64 (k : Int) ∧ k ≤ n ∧ Hid (∀ r ∈ l.take k, inV r x = false) ∧ Hid (Below w.heap.size w wr) ∧ Hid (At wr w.heap.size RV.zero)) (fun vi _ => n - (RowKit.intOf vi).toNat)
  case atStart => exact ⟨0, rfl, Nat.zero_le _, Lib.hid (fun r hr => by cases hr), HW, HP⟩
  case round =>
    obtain ⟨k, rfl, hk, hf, HW1, HP1⟩ := hrel
    by_cases hlt : k < n
    · have hk' : k < l.length := by omega
      have HR := Lib.hid ((HC.out k hk').below HW1.out HB.out)
      have HF := Lib.hid (fun h => find_at hk' hf.out h)
      have HN := Lib.hid (fun h => take_next hk' hf.out h)
      generalize l[k] = r at *
      have r0 := HR.out.c0; have r1 := HR.out.c1; have r2 := HR.out.c2; have r3 := HR.out.c3
      have HI := fun w => Lib.hid (in_any r x w)
      have HT := Lib.hid (at_new wr r)
      have HP1 := Lib.hid (HP1.out.alloc (robj r))
      have HW1 := Lib.hid (HW1.out.alloc HW1.out.size (robj r))
      clear hf
      cases hi : inV r x
      · have HN := Lib.hid (HN.out hi)
        rw [hi] at HI
        clear HF
        go_wp2_with (go_at_call 46; ((with_reducible refine (HI _).out.mono ?_); rintro e w2 ⟨rfl, h2⟩; have HW2 := Lib.hid (HW1.out.trans (h2.mono HW1.out.size)); have HP2 := Lib.hid (HP1.out.below h2 HP1.out.lt); clear h2))
        go_roundw
        case rel => exact ⟨k + 1, by go_num, by omega, HN, HW2, HP2⟩
        case measure => simp [RowKit.intOf]; omega
      · have HF := Lib.hid (HF.out hi)
        rw [hi] at HI
        clear HN
        go_wp2_with (go_at_call 46; ((with_reducible refine (HI _).out.mono ?_); rintro e w2 ⟨rfl, h2⟩; have HW2 := Lib.hid (HW1.out.trans (h2.mono HW1.out.size)); have HP2 := Lib.hid (HP1.out.below h2 HP1.out.lt); have HT2 := Lib.hid (HT.out.below h2 HT.out.lt); have r0 := HT2.out.c0; have r1 := HT2.out.c1; have r2 := HT2.out.c2; have r3 := HT2.out.c3; have p0 := HP2.out.c0; have p1 := HP2.out.c1; have p2 := HP2.out.c2; have p3 := HP2.out.c3; have q0 := HP2.out.f0; have q1 := HP2.out.f1; have q2 := HP2.out.f2; have q3 := HP2.out.f3; clear h2))
        exact bodyPost_ret (res_two rfl _ rfl (HP2.out.setAll r)) rfl ⟨by rw [HF.out]; rfl, below_set4 HW2.out (Nat.le_refl _) r⟩
    · obtain rfl : k = n := by omega
      have hF : findV l x = (RV.zero, false) := find_not (by have := hf.out; rwa [List.take_of_length_le (by omega)] at this)
      have HF := Lib.hid hF
      clear hf hlt hF
      have p0 := HP1.out.c0; have p1 := HP1.out.c1; have p2 := HP1.out.c2; have p3 := HP1.out.c3; have q0 := HP1.out.f0; have q1 := HP1.out.f1; have q2 := HP1.out.f2; have q3 := HP1.out.f3
      go_wp2
      exact bodyPost_ret (res_two rfl _ rfl (HP1.out.setAll RV.zero)) rfl ⟨by rw [HF.out]; rfl, below_set4 HW1.out (Nat.le_refl _) RV.zero⟩
set_option maxRecDepth 100000 in
theorem find_none (x : Nat) (ao : Option Addr) (cap : Nat) (w : World) : Calls Try.prog 32 #[.slice ao 0 cap, .float .f64 x] w fun e w' => e = .returned (.tuple #[ragg RV.zero, .bool false]) ∧ Below w.heap.size w w' := by
  have hst := run_stf
  have HP := Lib.hid (at_new w RV.zero)
  have HW := Lib.hid (below1 w (robj RV.zero))
  go_enter Try.func32, Try.ntmps32
  go_wp2
  go_loopw [10] (fun vi wr => vi = .int .i64 0 ∧ Hid (Below w.heap.size w wr) ∧ Hid (At wr w.heap.size RV.zero)) (fun _ _ => 0)
  case atStart => exact ⟨rfl, HW, HP⟩
  case round =>
    obtain ⟨rfl, HW1, HP1⟩ := hrel
    have p0 := HP1.out.c0; have p1 := HP1.out.c1; have p2 := HP1.out.c2; have p3 := HP1.out.c3; have q0 := HP1.out.f0; have q1 := HP1.out.f1; have q2 := HP1.out.f2; have q3 := HP1.out.f3
    go_wp2
    exact bodyPost_ret (res_two rfl _ rfl (HP1.out.setAll RV.zero)) rfl ⟨rfl, below_set4 HW1.out (Nat.le_refl _) RV.zero⟩
theorem find_any (x : Nat) {P : Nat → Prop} {w : World} {v : Value} {l : List RV} (hv : HasR P w v l) (hm : l.length ≤ 1000000) :
    Calls Try.prog 32 #[v, .float .f64 x] w fun e w' => e = .returned (.tuple #[ragg (findV l x).1, .bool (findV l x).2]) ∧ Below w.heap.size w w' := by
  obtain ⟨ao, cap, rfl, h1, h2, h3, h4⟩ := hv
  rcases h4 with rfl | ⟨b, o, rfl, _, h6, h7⟩
  · exact find_none x ao cap w
  · exact find_some x l _ b o cap rfl w h6 h1 hm h7
end Go.Proofs.Ytfcdajkgopcmpaa
namespace Go.Proofs.Ytfcdajkgopcmpaa
/-- A range in its place among those of rising numbers. -/
def putL (L : List RV) (r : RV) : List RV := L.takeWhile (fun q => decide (q.i < r.i)) ++ r :: L.dropWhile (fun q => decide (q.i < r.i))
abbrev Rise (L : List RV) : Prop := L.Pairwise (fun a b => a.i < b.i)
def getL (L : List RV) (k : Int) : Option RV := L.find? (fun q => q.i == k)
def setL (L : List RV) (r : RV) : List RV := L.map fun q => if q.i = r.i then r else q
/-- What one range that is heard makes of it, and whether it was taken. -/
def hear (L : List RV) (r : RV) : List RV × Nat :=
  if mayV r = true then
    match getL L r.i with
    | none => (putL L r, 1)
    | some q => if q.e < r.e then (setL L r, 1) else (L, 0)
  else (L, 0)
def learnL (L : List RV) : List RV → List RV × Nat
  | [] => (L, 0)
  | r :: l => ((learnL (hear L r).1 l).1, (hear L r).2 + (learnL (hear L r).1 l).2)
def newL (l : List RV) : List RV := l.foldl putL []
theorem getL_cons (q : RV) (L : List RV) (k : Int) : getL (q :: L) k = if q.i = k then some q else getL L k := by
  unfold getL
  rw [List.find?_cons]
  by_cases h : q.i = k
  · simp [h]
  · have e : (q.i == k) = false := by simpa using h
    rw [e, if_neg h]
theorem getL_some {L : List RV} {k : Int} {q : RV} (h : getL L k = some q) : q ∈ L ∧ q.i = k := by
  unfold getL at h
  exact ⟨List.mem_of_find?_eq_some h, by simpa using List.find?_some h⟩
theorem getL_none {L : List RV} {k : Int} (h : getL L k = none) : ∀ q ∈ L, q.i ≠ k := by
  intro q hq e
  unfold getL at h
  have := List.find?_eq_none.1 h q hq
  simp [e] at this
theorem getL_mem {L : List RV} (h : Rise L) {q : RV} (hq : q ∈ L) : getL L q.i = some q := by
  induction L with
  | nil => cases hq
  | cons a L ih =>
    rw [getL_cons]
    rcases List.mem_cons.1 hq with rfl | hm
    · simp
    · have := (List.pairwise_cons.1 h).1 q hm
      rw [if_neg (by omega)]
      exact ih (List.pairwise_cons.1 h).2 hm
/-- Two that rise and have the same at each number are one. -/
theorem rise_ext : ∀ {L M : List RV}, Rise L → Rise M → (∀ k, getL L k = getL M k) → L = M
  | [], [], _, _, _ => rfl
  | [], b :: M, _, _, h => by have := h b.i; rw [getL_cons, if_pos rfl] at this; cases this
  | a :: L, [], _, _, h => by have := h a.i; rw [getL_cons, if_pos rfl] at this; cases this
  | a :: L, b :: M, hL, hM, h => by
    have ha := List.pairwise_cons.1 hL
    have hb := List.pairwise_cons.1 hM
    have e : a = b := by
      rcases Int.lt_trichotomy a.i b.i with hlt | heq | hgt
      · have h1 := h a.i
        rw [getL_cons, if_pos rfl, getL_cons, if_neg (by omega)] at h1
        obtain ⟨h2, h3⟩ := getL_some h1.symm
        have := hb.1 a h2
        omega
      · have h1 := h a.i
        rw [getL_cons, if_pos rfl, getL_cons, if_pos heq.symm] at h1
        exact Option.some.inj h1
      · have h1 := h b.i
        rw [getL_cons, if_neg (by omega), getL_cons, if_pos rfl] at h1
        obtain ⟨h2, h3⟩ := getL_some h1
        have := ha.1 b h2
        omega
    subst e
    congr 1
    refine rise_ext ha.2 hb.2 fun k => ?_
    have h1 := h k
    rw [getL_cons, getL_cons] at h1
    by_cases hk : a.i = k
    · subst hk
      have g : ∀ {X : List RV}, (∀ q ∈ X, a.i < q.i) → getL X a.i = none := fun {X} hx => by
        unfold getL
        rw [List.find?_eq_none]
        intro q hq
        have := hx q hq
        simp; omega
      rw [g ha.1, g hb.1]
    · rwa [if_neg hk, if_neg hk] at h1
theorem putL_nil (r : RV) : putL [] r = [r] := rfl
theorem putL_cons (a : RV) (L : List RV) (r : RV) : putL (a :: L) r = if a.i < r.i then a :: putL L r else r :: a :: L := by
  unfold putL
  by_cases h : a.i < r.i
  · simp [h]
  · simp [h]
theorem mem_putL {L : List RV} {r q : RV} : q ∈ putL L r ↔ q = r ∨ q ∈ L := by
  induction L with
  | nil => simp [putL_nil]
  | cons a L ih =>
    rw [putL_cons]
    split
    · simp only [List.mem_cons, ih]
      constructor
      · rintro (h | h | h)
        · exact .inr (.inl h)
        · exact .inl h
        · exact .inr (.inr h)
      · rintro (h | h | h)
        · exact .inr (.inl h)
        · exact .inl h
        · exact .inr (.inr h)
    · simp
theorem length_putL (L : List RV) (r : RV) : (putL L r).length = L.length + 1 := by
  induction L with
  | nil => rfl
  | cons a L ih =>
    rw [putL_cons]
    split
    · simp [ih]
    · simp
theorem rise_putL {L : List RV} (h : Rise L) {r : RV} (hr : ∀ q ∈ L, q.i ≠ r.i) : Rise (putL L r) := by
  induction L with
  | nil => simp [putL_nil, Rise]
  | cons a L ih =>
    have ha := List.pairwise_cons.1 h
    have hne := hr a List.mem_cons_self
    rw [putL_cons]
    split
    · rename_i hlt
      refine List.pairwise_cons.2 ⟨fun q hq => ?_, ih ha.2 fun q hq => hr q (List.mem_cons_of_mem _ hq)⟩
      rcases mem_putL.1 hq with rfl | hq
      · exact hlt
      · exact ha.1 q hq
    · refine List.pairwise_cons.2 ⟨fun q hq => ?_, h⟩
      rcases List.mem_cons.1 hq with rfl | hq
      · omega
      · have := ha.1 q hq; omega
theorem getL_putL {L : List RV} {r : RV} (hr : getL L r.i = none) (k : Int) : getL (putL L r) k = if r.i = k then some r else getL L k := by
  induction L with
  | nil => rw [putL_nil, getL_cons]
  | cons a L ih =>
    have hne := getL_none hr a List.mem_cons_self
    rw [getL_cons, if_neg hne] at hr
    rw [putL_cons]
    split
    · rw [getL_cons, ih hr, getL_cons]
      by_cases h1 : a.i = k
      · rw [if_pos h1, if_pos h1, if_neg (by omega)]
      · rw [if_neg h1, if_neg h1]
    · rw [getL_cons]
theorem setL_cons (a : RV) (L : List RV) (r : RV) : setL (a :: L) r = (if a.i = r.i then r else a) :: setL L r := rfl
theorem getL_setL {L : List RV} {r : RV} {q : RV} (hr : getL L r.i = some q) (k : Int) : getL (setL L r) k = if r.i = k then some r else getL L k := by
  induction L with
  | nil => cases hr
  | cons a L ih =>
    rw [setL_cons, getL_cons, getL_cons]
    by_cases h1 : a.i = r.i
    · rw [if_pos h1]
      by_cases h2 : r.i = k
      · rw [if_pos h2, if_pos h2]
      · rw [if_neg h2, if_neg h2, if_neg (by omega)]
        clear ih hr
        induction L with
        | nil => rfl
        | cons b L ih =>
          rw [setL_cons, getL_cons, getL_cons, ih]
          by_cases h3 : b.i = r.i
          · rw [if_pos h3, if_neg h2, if_neg (by omega)]
          · rw [if_neg h3]
    · rw [if_neg h1]
      rw [getL_cons, if_neg h1] at hr
      rw [ih hr]
      by_cases h2 : a.i = k
      · rw [if_pos h2, if_pos h2, if_neg (by omega)]
      · rw [if_neg h2, if_neg h2]
theorem setL_ids (L : List RV) (r : RV) : (setL L r).map (·.i) = L.map (·.i) := by
  induction L with
  | nil => rfl
  | cons a L ih =>
    rw [setL_cons, List.map_cons, List.map_cons, ih]
    congr 1
    by_cases h : a.i = r.i <;> simp [h]
theorem rise_ids {L : List RV} : Rise L ↔ (L.map (·.i)).Pairwise (· < ·) := by rw [List.pairwise_map]
theorem rise_setL {L : List RV} (h : Rise L) (r : RV) : Rise (setL L r) := by rw [rise_ids, setL_ids, ← rise_ids]; exact h
theorem mem_setL {L : List RV} {r q : RV} (h : q ∈ setL L r) : q = r ∨ q ∈ L := by
  obtain ⟨x, hx, rfl⟩ := List.mem_map.1 h
  by_cases h1 : x.i = r.i
  · simp [h1]
  · simp [h1, hx]
/-- What stands at a number, once one range was heard. -/
def best (o : Option RV) (r : RV) : Option RV :=
  match o with
  | none => if mayV r = true then some r else none
  | some q => if mayV r = true ∧ q.e < r.e then some r else some q
theorem hear_get (L : List RV) (r : RV) (k : Int) : getL (hear L r).1 k = if r.i = k then best (getL L k) r else getL L k := by
  unfold hear
  by_cases hm : mayV r = true
  · rw [if_pos hm]
    cases hg : getL L r.i with
    | none =>
      rw [getL_putL hg]
      by_cases hk : r.i = k
      · rw [if_pos hk, if_pos hk]; subst hk; rw [hg]; simp [best, hm]
      · rw [if_neg hk, if_neg hk]
    | some q =>
      by_cases he : q.e < r.e
      · simp only [if_pos he]
        rw [getL_setL hg]
        by_cases hk : r.i = k
        · rw [if_pos hk, if_pos hk]; subst hk; rw [hg]; simp [best, hm, he]
        · rw [if_neg hk, if_neg hk]
      · simp only [if_neg he]
        by_cases hk : r.i = k
        · rw [if_pos hk]; subst hk; rw [hg]; simp [best, he]
        · rw [if_neg hk]
  · rw [if_neg hm]
    by_cases hk : r.i = k
    · rw [if_pos hk]
      cases getL L k <;> simp [best, hm]
    · rw [if_neg hk]
theorem hear_rise {L : List RV} (h : Rise L) (r : RV) : Rise (hear L r).1 := by
  unfold hear
  split
  · split
    · rename_i hg; exact rise_putL h (getL_none hg)
    · split
      · exact rise_setL h r
      · exact h
  · exact h
theorem hear_mem {L : List RV} {r q : RV} (h : q ∈ (hear L r).1) : q ∈ L ∨ (q = r ∧ mayV r = true) := by
  unfold hear at h
  split at h
  · rename_i hm
    split at h
    · rcases mem_putL.1 h with h | h
      · exact .inr ⟨h, hm⟩
      · exact .inl h
    · split at h
      · rcases mem_setL h with h | h
        · exact .inr ⟨h, hm⟩
        · exact .inl h
      · exact .inl h
  · exact .inl h
theorem hear_le (L : List RV) (r : RV) : (hear L r).2 ≤ 1 := by
  unfold hear
  split
  · split
    · exact Nat.le_refl _
    · split
      · exact Nat.le_refl _
      · exact Nat.zero_le _
  · exact Nat.zero_le _
theorem hear_len (L : List RV) (r : RV) : (hear L r).1.length ≤ L.length + 1 := by
  unfold hear
  split
  · split
    · exact Nat.le_of_eq (length_putL _ _)
    · split
      · simp [setL]
      · exact Nat.le_succ _
  · exact Nat.le_succ _
theorem learn_rise : ∀ (l : List RV) {L : List RV}, Rise L → Rise (learnL L l).1
  | [], _, h => h
  | r :: l, _, h => learn_rise l (hear_rise h r)
theorem learn_le : ∀ (l L : List RV), (learnL L l).2 ≤ l.length
  | [], _ => Nat.le_refl _
  | r :: l, L => by
    have h1 := hear_le L r
    have h2 := learn_le l (hear L r).1
    show (hear L r).2 + (learnL (hear L r).1 l).2 ≤ l.length + 1
    omega
theorem learn_mem : ∀ (l : List RV) {L : List RV} {q : RV}, q ∈ (learnL L l).1 → q ∈ L ∨ (q ∈ l ∧ mayV q = true)
  | [], _, _, h => .inl h
  | r :: l, _, _, h => by
    rcases learn_mem l h with h | h
    · rcases hear_mem h with h | ⟨rfl, h⟩
      · exact .inl h
      · exact .inr ⟨List.mem_cons_self, h⟩
    · exact .inr ⟨List.mem_cons_of_mem _ h.1, h.2⟩
def bestL (o : Option RV) (k : Int) : List RV → Option RV
  | [] => o
  | r :: l => bestL (if r.i = k then best o r else o) k l
theorem learn_get : ∀ (l L : List RV) (k : Int), getL (learnL L l).1 k = bestL (getL L k) k l
  | [], _, _ => rfl
  | r :: l, L, k => by
    show getL (learnL (hear L r).1 l).1 k = _
    rw [learn_get l, hear_get]
    rfl
/-- The best of all that were heard. -/
structure Best (o : Option RV) (k : Int) (l : List RV) (x : Option RV) : Prop where
  from_ : x = o ∨ ∃ r ∈ l, r.i = k ∧ mayV r = true ∧ x = some r ∧ ∀ q, o = some q → q.e < r.e
  all : ∀ r ∈ l, r.i = k → mayV r = true → ∃ y, x = some y ∧ r.e ≤ y.e
  old : ∀ q, o = some q → ∃ y, x = some y ∧ q.e ≤ y.e
theorem best_best : ∀ (l : List RV) (o : Option RV) (k : Int), Best o k l (bestL o k l)
  | [], o, k => ⟨.inl rfl, (fun r h => by cases h), fun q h => ⟨q, h, Int.le_refl _⟩⟩
  | r :: l, o, k => by
    have ih := best_best l (if r.i = k then best o r else o) k
    show Best o k (r :: l) (bestL (if r.i = k then best o r else o) k l)
    by_cases hk : r.i = k
    · rw [if_pos hk] at ih ⊢
      have hb : best o r = o ∨ (mayV r = true ∧ best o r = some r ∧ ∀ q, o = some q → q.e < r.e) := by
        cases o with
        | none => by_cases hm : mayV r = true <;> simp [best, hm]
        | some q => by_cases hm : mayV r = true ∧ q.e < r.e <;> simp [best, hm]
      have hold : ∀ q, o = some q → ∃ y, best o r = some y ∧ q.e ≤ y.e := by
        rintro q rfl
        by_cases hm : mayV r = true ∧ q.e < r.e
        · exact ⟨r, by simp [best, hm], by omega⟩
        · exact ⟨q, by simp only [best, if_neg hm], Int.le_refl _⟩
      have hnew : mayV r = true → ∃ y, best o r = some y ∧ r.e ≤ y.e := fun hm => by
        cases o with
        | none => exact ⟨r, by simp [best, hm], Int.le_refl _⟩
        | some q =>
          by_cases he : q.e < r.e
          · exact ⟨r, by simp [best, hm, he], Int.le_refl _⟩
          · exact ⟨q, by simp [best, he], by omega⟩
      refine ⟨?_, fun x hx hxk hxm => ?_, fun q hq => ?_⟩
      · rcases ih.from_ with e | ⟨x, hx, h1, h2, h3, h4⟩
        · rcases hb with e2 | ⟨h1, h2, h3⟩
          · exact .inl (e.trans e2)
          · exact .inr ⟨r, List.mem_cons_self, hk, h1, e.trans h2, h3⟩
        · refine .inr ⟨x, List.mem_cons_of_mem _ hx, h1, h2, h3, fun q hq => ?_⟩
          obtain ⟨y, hy, hle⟩ := hold q hq
          have := h4 y hy
          omega
      · rcases List.mem_cons.1 hx with rfl | hx
        · obtain ⟨y, hy, hle⟩ := hnew hxm
          obtain ⟨z, hz, hle2⟩ := ih.old y hy
          exact ⟨z, hz, by omega⟩
        · exact ih.all x hx hxk hxm
      · obtain ⟨y, hy, hle⟩ := hold q hq
        obtain ⟨z, hz, hle2⟩ := ih.old y hy
        exact ⟨z, hz, by omega⟩
    · rw [if_neg hk] at ih ⊢
      refine ⟨?_, fun x hx hxk hxm => ?_, ih.old⟩
      · rcases ih.from_ with e | ⟨x, hx, h⟩
        · exact .inl e
        · exact .inr ⟨x, List.mem_cons_of_mem _ hx, h⟩
      · rcases List.mem_cons.1 hx with rfl | hx
        · exact absurd hxk hk
        · exact ih.all x hx hxk hxm
/-- Of unlike epochs there is one best. -/
theorem best_one {o : Option RV} {k : Int} {l m : List RV} {x y : Option RV} (hx : Best o k l x) (hy : Best o k m y) (hlm : ∀ r, r ∈ l ↔ r ∈ m) (hu : ∀ r ∈ l, ∀ q ∈ l, r.i = q.i → r.e = q.e → r = q) : x = y := by
  rcases hx.from_ with rfl | ⟨r, hr, hr1, hr2, rfl, hr4⟩
  · rcases hy.from_ with rfl | ⟨q, hq, hq1, hq2, rfl, hq4⟩
    · rfl
    · obtain ⟨z, hz, hle⟩ := hx.all q ((hlm q).2 hq) hq1 hq2
      have := hq4 z hz
      omega
  · rcases hy.from_ with rfl | ⟨q, hq, hq1, hq2, rfl, hq4⟩
    · obtain ⟨z, hz, hle⟩ := hy.all r ((hlm r).1 hr) hr1 hr2
      have := hr4 z hz
      omega
    · obtain ⟨z, hz, hle⟩ := hx.all q ((hlm q).2 hq) hq1 hq2
      obtain ⟨z2, hz2, hle2⟩ := hy.all r ((hlm r).1 hr) hr1 hr2
      obtain rfl := Option.some.inj hz
      obtain rfl := Option.some.inj hz2
      rw [hu r hr q ((hlm q).2 hq) (hr1.trans hq1.symm) (by omega)]
theorem learn_turned {L l m : List RV} (hL : Rise L) (hlm : ∀ r, r ∈ l ↔ r ∈ m) (hu : ∀ r ∈ l, ∀ q ∈ l, r.i = q.i → r.e = q.e → r = q) : (learnL L l).1 = (learnL L m).1 :=
  rise_ext (learn_rise l hL) (learn_rise m hL) fun k => by
    rw [learn_get, learn_get]
    exact best_one (best_best l _ k) (best_best m _ k) hlm hu
theorem hear_stale {L : List RV} {r : RV} (h : mayV r = true → ∃ y, getL L r.i = some y ∧ r.e ≤ y.e) : hear L r = (L, 0) := by
  unfold hear
  split
  · rename_i hm
    obtain ⟨y, hy, hle⟩ := h hm
    rw [hy]
    show (if y.e < r.e then (setL L r, 1) else (L, 0)) = (L, 0)
    rw [if_neg (by omega)]
  · rfl
theorem learn_stale : ∀ {l L : List RV}, (∀ r ∈ l, mayV r = true → ∃ y, getL L r.i = some y ∧ r.e ≤ y.e) → learnL L l = (L, 0)
  | [], _, _ => rfl
  | r :: l, L, h => by
    have e := hear_stale (h r List.mem_cons_self)
    show ((learnL (hear L r).1 l).1, (hear L r).2 + (learnL (hear L r).1 l).2) = (L, 0)
    rw [e, learn_stale (L := L) (l := l) fun q hq => h q (List.mem_cons_of_mem _ hq)]
    rfl
theorem learn_again (L l : List RV) : learnL (learnL L l).1 l = ((learnL L l).1, 0) :=
  learn_stale fun r hr hm => by
    rw [learn_get]
    exact (best_best l _ _).all r hr rfl hm
end Go.Proofs.Ytfcdajkgopcmpaa
