/- raceref4.Find, place.Find: the first range of a row that has a place. Conditions: none. -/
import Derived.Test.YtfcdajkgopcmpaaRr
import Derived.Test.YtfcdajkgopcmpaaSp
namespace Go.Proofs.Ytfcdajkgopcmpaa
open Go.ChangeShapes Go.WideShapes Go.ChangeAt Go.RowKit
def findV (l : List RV) (x : Nat) : RV × Bool := match l.find? (fun r => inV r x) with
  | some r => (r, true)
  | none => (RV.zero, false)
theorem find_at {l : List RV} {x k : Nat} (h : k < l.length) (hn : ∀ r ∈ l.take k, inV r x = false) (hy : inV l[k] x = true) : findV l x = (l[k], true) := by
  have : l.find? (fun r => inV r x) = some l[k] := by
    have e : l = l.take k ++ l[k] :: l.drop (k + 1) := by rw [← List.drop_eq_getElem_cons h, List.take_append_drop]
    generalize l[k] = r at e hy ⊢
    rw [e, List.find?_append, List.find?_eq_none.2 (fun r hr => by rw [hn r hr]; decide), List.find?_cons_of_pos (by simpa using hy)]
    rfl
  unfold findV
  rw [this]
theorem find_not {l : List RV} {x : Nat} (hn : ∀ r ∈ l, inV r x = false) : findV l x = (RV.zero, false) := by
  unfold findV
  rw [List.find?_eq_none.2 (fun r hr => by rw [hn r hr]; decide)]
theorem take_next {l : List RV} {x k : Nat} (h : k < l.length) (hn : ∀ r ∈ l.take k, inV r x = false) (hy : inV l[k] x = false) : ∀ r ∈ l.take (k + 1), inV r x = false := by
  intro r hr
  rw [List.take_add_one, List.getElem?_eq_getElem h] at hr
  rcases List.mem_append.1 hr with h | h
  · exact hn r h
  · obtain rfl : r = l[k] := by simpa using h
    exact hy
theorem res_two {fn : Func} {p u : Tmp} (h : fn.results = #[.cell p 37, .tmp u]) (tmps : Array Value) {b : Nat} {r : RV} {w : World} (hp : tmps.getD p undef = .pointer (some ⟨b, 0, none⟩)) (hA : At w b r) :
    (results fn tmps).run Try.prog w = .ok (.tuple #[ragg r, tmps.getD u undef]) w := by
  have l1 := load_at hA
  simp only [Array.getD_eq_getD_getElem?] at hp
  simp only [results, h]
  simp [Result.andThen, hp, asAddr, l1]
set_option maxRecDepth 100000 in
theorem rfind_some (x : Nat) (l : List RV) (n b o cap : Nat) (hn : l.length = n) (w : World) (hb : b < w.heap.size) (hcap : n ≤ cap) (hm : n ≤ 1000000) (hc : ∀ i, (h : i < l.length) → RAt w b (o + i * 4) l[i]) :
    Calls Try.prog 26 #[.slice (some ⟨b, o, none⟩) n cap, .float .f64 x] w fun e w' => e = .returned (.tuple #[ragg (findV l x).1, .bool (findV l x).2]) ∧ Below w.heap.size w w' := by
  have hst := run_stf
  have HP := Lib.hid (at_new w RV.zero)
  have HW := Lib.hid (below1 w (robj RV.zero))
  have HC := Lib.hid hc
  have HB := Lib.hid hb
  clear hc hb
  go_enter Try.func26, Try.ntmps26
  go_wp2
  go_loopw [6] (fun vi wr => ∃ (k : Nat), vi = .int .i64 (k : Int) ∧ k ≤ n ∧ Hid (∀ r ∈ l.take k, inV r x = false) ∧ Hid (Below w.heap.size w wr) ∧ Hid (At wr w.heap.size RV.zero)) (fun vi _ => n - (RowKit.intOf vi).toNat)
  case atStart => exact ⟨0, rfl, Nat.zero_le _, Lib.hid (fun r hr => by cases hr), HW, HP⟩
  case round =>
    obtain ⟨k, rfl, hk, hf, HW1, HP1⟩ := hrel
    by_cases hlt : k < n
    · have hk' : k < l.length := by omega
      have HR := Lib.hid ((HC.out k hk').below HW1.out HB.out)
      have HF := Lib.hid (fun h => find_at hk' hf.out h)
      have HN := Lib.hid (fun h => take_next hk' hf.out h)
      generalize l[k] = r at *
      have r0 := HR.out.c0; have r1 := HR.out.c1; have r2 := HR.out.c2; have r3 := HR.out.c3
      have HI := fun w => Lib.hid (rin_any r x w)
      clear hf
      cases hi : inV r x
      · have HN := Lib.hid (HN.out hi)
        rw [hi] at HI
        clear HF
        go_wp2_with (go_at_call 23; ((with_reducible refine (HI _).out.mono ?_); rintro e w2 ⟨rfl, h2⟩; have HW2 := Lib.hid (HW1.out.trans (h2.mono HW1.out.size)); have HP2 := Lib.hid (HP1.out.below h2 HP1.out.lt); clear h2))
        go_roundw
        case rel => exact ⟨k + 1, by go_num, by omega, HN, HW2, HP2⟩
        case measure => simp [RowKit.intOf]; omega
      · have HF := Lib.hid (HF.out hi)
        rw [hi] at HI
        clear HN
        go_wp2_with (go_at_call 23; ((with_reducible refine (HI _).out.mono ?_); rintro e w2 ⟨rfl, h2⟩; have HW2 := Lib.hid (HW1.out.trans (h2.mono HW1.out.size)); have HP2 := Lib.hid (HP1.out.below h2 HP1.out.lt); have HR2 := Lib.hid (HR.out.below h2 (Nat.lt_of_lt_of_le HB.out HW1.out.size)); have r0 := HR2.out.c0; have r1 := HR2.out.c1; have r2 := HR2.out.c2; have r3 := HR2.out.c3; have p0 := HP2.out.c0; have p1 := HP2.out.c1; have p2 := HP2.out.c2; have p3 := HP2.out.c3; have q0 := HP2.out.f0; have q1 := HP2.out.f1; have q2 := HP2.out.f2; have q3 := HP2.out.f3; clear h2))
        exact bodyPost_ret (res_two rfl _ rfl (HP2.out.setAll r)) rfl ⟨by rw [HF.out]; rfl, below_set4 HW2.out (Nat.le_refl _) r⟩
    · obtain rfl : k = n := by omega
      have hF : findV l x = (RV.zero, false) := find_not (by have := hf.out; rwa [List.take_of_length_le (by omega)] at this)
      have HF := Lib.hid hF
      clear hf hlt hF
      have p0 := HP1.out.c0; have p1 := HP1.out.c1; have p2 := HP1.out.c2; have p3 := HP1.out.c3; have q0 := HP1.out.f0; have q1 := HP1.out.f1; have q2 := HP1.out.f2; have q3 := HP1.out.f3
      go_wp2
      exact bodyPost_ret (res_two rfl _ rfl (HP1.out.setAll RV.zero)) rfl ⟨by rw [HF.out]; rfl, below_set4 HW1.out (Nat.le_refl _) RV.zero⟩
set_option maxRecDepth 100000 in
theorem rfind_none (x : Nat) (ao : Option Addr) (cap : Nat) (w : World) : Calls Try.prog 26 #[.slice ao 0 cap, .float .f64 x] w fun e w' => e = .returned (.tuple #[ragg RV.zero, .bool false]) ∧ Below w.heap.size w w' := by
  have hst := run_stf
  have HP := Lib.hid (at_new w RV.zero)
  have HW := Lib.hid (below1 w (robj RV.zero))
  go_enter Try.func26, Try.ntmps26
  go_wp2
  go_loopw [6] (fun vi wr => vi = .int .i64 0 ∧ Hid (Below w.heap.size w wr) ∧ Hid (At wr w.heap.size RV.zero)) (fun _ _ => 0)
  case atStart => exact ⟨rfl, HW, HP⟩
  case round =>
    obtain ⟨rfl, HW1, HP1⟩ := hrel
    have p0 := HP1.out.c0; have p1 := HP1.out.c1; have p2 := HP1.out.c2; have p3 := HP1.out.c3; have q0 := HP1.out.f0; have q1 := HP1.out.f1; have q2 := HP1.out.f2; have q3 := HP1.out.f3
    go_wp2
    exact bodyPost_ret (res_two rfl _ rfl (HP1.out.setAll RV.zero)) rfl ⟨rfl, below_set4 HW1.out (Nat.le_refl _) RV.zero⟩
theorem rfind_any (x : Nat) {P : Nat → Prop} {w : World} {v : Value} {l : List RV} (hv : HasR P w v l) (hm : l.length ≤ 1000000) :
    Calls Try.prog 26 #[v, .float .f64 x] w fun e w' => e = .returned (.tuple #[ragg (findV l x).1, .bool (findV l x).2]) ∧ Below w.heap.size w w' := by
  obtain ⟨ao, cap, rfl, h1, h2, h3, h4⟩ := hv
  rcases h4 with rfl | ⟨b, o, rfl, _, h6, h7⟩
  · exact rfind_none x ao cap w
  · exact rfind_some x l _ b o cap rfl w h6 h1 hm h7
set_option maxRecDepth 100000 in
theorem find_some (x : Nat) (l : List RV) (n b o cap : Nat) (hn : l.length = n) (w : World) (hb : b < w.heap.size) (hcap : n ≤ cap) (hm : n ≤ 1000000) (hc : ∀ i, (h : i < l.length) → RAt w b (o + i * 4) l[i]) :
    Calls Try.prog 32 #[.slice (some ⟨b, o, none⟩) n cap, .float .f64 x] w fun e w' => e = .returned (.tuple #[ragg (findV l x).1, .bool (findV l x).2]) ∧ Below w.heap.size w w' := by
  have hst := run_stf
  have HP := Lib.hid (at_new w RV.zero)
  have HW := Lib.hid (below1 w (robj RV.zero))
  have HC := Lib.hid hc
  have HB := Lib.hid hb
  clear hc hb
  go_enter Try.func32, Try.ntmps32
  go_wp2
  go_loopw [10] (fun vi wr => ∃ (k : Nat), vi = .int .i64 (k : Int) ∧ k ≤ n ∧ Hid (∀ r ∈ l.take k, inV r x = false) ∧ Hid (Below w.heap.size w wr) ∧ Hid (At wr w.heap.size RV.zero)) (fun vi _ => n - (RowKit.intOf vi).toNat)
  case atStart => exact ⟨0, rfl, Nat.zero_le _, Lib.hid (fun r hr => by cases hr), HW, HP⟩
  case round =>
    obtain ⟨k, rfl, hk, hf, HW1, HP1⟩ := hrel
    by_cases hlt : k < n
    · have hk' : k < l.length := by omega
      have HR := Lib.hid ((HC.out k hk').below HW1.out HB.out)
      have HF := Lib.hid (fun h => find_at hk' hf.out h)
      have HN := Lib.hid (fun h => take_next hk' hf.out h)
      generalize l[k] = r at *
      have r0 := HR.out.c0; have r1 := HR.out.c1; have r2 := HR.out.c2; have r3 := HR.out.c3
      have HI := fun w => Lib.hid (in_any r x w)
      have HT := Lib.hid (at_new wr r)
      have HP1 := Lib.hid (HP1.out.alloc (robj r))
      have HW1 := Lib.hid (HW1.out.alloc HW1.out.size (robj r))
      clear hf
      cases hi : inV r x
      · have HN := Lib.hid (HN.out hi)
        rw [hi] at HI
        clear HF
        go_wp2_with (go_at_call 46; ((with_reducible refine (HI _).out.mono ?_); rintro e w2 ⟨rfl, h2⟩; have HW2 := Lib.hid (HW1.out.trans (h2.mono HW1.out.size)); have HP2 := Lib.hid (HP1.out.below h2 HP1.out.lt); clear h2))
        go_roundw
        case rel => exact ⟨k + 1, by go_num, by omega, HN, HW2, HP2⟩
        case measure => simp [RowKit.intOf]; omega
      · have HF := Lib.hid (HF.out hi)
        rw [hi] at HI
        clear HN
        go_wp2_with (go_at_call 46; ((with_reducible refine (HI _).out.mono ?_); rintro e w2 ⟨rfl, h2⟩; have HW2 := Lib.hid (HW1.out.trans (h2.mono HW1.out.size)); have HP2 := Lib.hid (HP1.out.below h2 HP1.out.lt); have HT2 := Lib.hid (HT.out.below h2 HT.out.lt); have r0 := HT2.out.c0; have r1 := HT2.out.c1; have r2 := HT2.out.c2; have r3 := HT2.out.c3; have p0 := HP2.out.c0; have p1 := HP2.out.c1; have p2 := HP2.out.c2; have p3 := HP2.out.c3; have q0 := HP2.out.f0; have q1 := HP2.out.f1; have q2 := HP2.out.f2; have q3 := HP2.out.f3; clear h2))
        exact bodyPost_ret (res_two rfl _ rfl (HP2.out.setAll r)) rfl ⟨by rw [HF.out]; rfl, below_set4 HW2.out (Nat.le_refl _) r⟩
    · obtain rfl : k = n := by omega
      have hF : findV l x = (RV.zero, false) := find_not (by have := hf.out; rwa [List.take_of_length_le (by omega)] at this)
      have HF := Lib.hid hF
      clear hf hlt hF
      have p0 := HP1.out.c0; have p1 := HP1.out.c1; have p2 := HP1.out.c2; have p3 := HP1.out.c3; have q0 := HP1.out.f0; have q1 := HP1.out.f1; have q2 := HP1.out.f2; have q3 := HP1.out.f3
      go_wp2
      exact bodyPost_ret (res_two rfl _ rfl (HP1.out.setAll RV.zero)) rfl ⟨by rw [HF.out]; rfl, below_set4 HW1.out (Nat.le_refl _) RV.zero⟩
set_option maxRecDepth 100000 in
theorem find_none (x : Nat) (ao : Option Addr) (cap : Nat) (w : World) : Calls Try.prog 32 #[.slice ao 0 cap, .float .f64 x] w fun e w' => e = .returned (.tuple #[ragg RV.zero, .bool false]) ∧ Below w.heap.size w w' := by
  have hst := run_stf
  have HP := Lib.hid (at_new w RV.zero)
  have HW := Lib.hid (below1 w (robj RV.zero))
  go_enter Try.func32, Try.ntmps32
  go_wp2
  go_loopw [10] (fun vi wr => vi = .int .i64 0 ∧ Hid (Below w.heap.size w wr) ∧ Hid (At wr w.heap.size RV.zero)) (fun _ _ => 0)
  case atStart => exact ⟨rfl, HW, HP⟩
  case round =>
    obtain ⟨rfl, HW1, HP1⟩ := hrel
    have p0 := HP1.out.c0; have p1 := HP1.out.c1; have p2 := HP1.out.c2; have p3 := HP1.out.c3; have q0 := HP1.out.f0; have q1 := HP1.out.f1; have q2 := HP1.out.f2; have q3 := HP1.out.f3
    go_wp2
    exact bodyPost_ret (res_two rfl _ rfl (HP1.out.setAll RV.zero)) rfl ⟨rfl, below_set4 HW1.out (Nat.le_refl _) RV.zero⟩
theorem find_any (x : Nat) {P : Nat → Prop} {w : World} {v : Value} {l : List RV} (hv : HasR P w v l) (hm : l.length ≤ 1000000) :
    Calls Try.prog 32 #[v, .float .f64 x] w fun e w' => e = .returned (.tuple #[ragg (findV l x).1, .bool (findV l x).2]) ∧ Below w.heap.size w w' := by
  obtain ⟨ao, cap, rfl, h1, h2, h3, h4⟩ := hv
  rcases h4 with rfl | ⟨b, o, rfl, _, h6, h7⟩
  · exact find_none x ao cap w
  · exact find_some x l _ b o cap rfl w h6 h1 hm h7
end Go.Proofs.Ytfcdajkgopcmpaa
