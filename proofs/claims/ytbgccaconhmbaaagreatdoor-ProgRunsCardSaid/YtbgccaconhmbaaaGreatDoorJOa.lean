/- Steps as they lie in memory; prog.isZero, prog.isFormed. Conditions: none. -/
import Derived.Test.YtbgccaconhmbaaaGreatDoorJPa
import Derived.Test.YtbgccaconhmbaaaGreatDoorJGr
import Derived.Test.YtbgccaconhmbaaaGreatDoorJAg
namespace Go.Proofs.YtbgccaconhmbaaaGreatDoor
open Go.ChangeShapes Go.WideShapes Go.ChangeAt Go.RowKit Go.Deep
def opC (o : OpV) : List Value := [.int .i64 o.c, .string ⟨o.key.toArray⟩, .int .i64 o.v.k, .float .f64 o.v.x, .string ⟨o.v.s.toArray⟩]
theorem opC_len (o : OpV) : (opC o).length = 5 := rfl
abbrev oagg (o : OpV) : Value := .agg #[.int .i64 o.c, .string ⟨o.key.toArray⟩, .int .i64 o.v.k, .float .f64 o.v.x, .string ⟨o.v.s.toArray⟩]
abbrev oobj (o : OpV) : Obj := .cells #[.int .i64 o.c, .string ⟨o.key.toArray⟩, .int .i64 o.v.k, .float .f64 o.v.x, .string ⟨o.v.s.toArray⟩] 59
abbrev HasO (P : Nat → Prop) (w : World) (v : Value) (l : List OpV) : Prop := HasG opC 5 P w v l
/-- A step's five cells from a place on. -/
structure OAt (w : World) (b o : Nat) (r : OpV) : Prop where
  c0 : w.cell? ⟨b, o, none⟩ = some (.int .i64 r.c)
  c1 : w.cell? ⟨b, o + 1, none⟩ = some (.string ⟨r.key.toArray⟩)
  c2 : w.cell? ⟨b, o + 2, none⟩ = some (.int .i64 r.v.k)
  c3 : w.cell? ⟨b, o + 3, none⟩ = some (.float .f64 r.v.x)
  c4 : w.cell? ⟨b, o + 4, none⟩ = some (.string ⟨r.v.s.toArray⟩)
theorem Lies.op {w : World} {b o : Nat} {r : OpV} (h : Lies opC w b o r) : OAt w b o r := ⟨h 0 _ rfl, h 1 _ rfl, h 2 _ rfl, h 3 _ rfl, h 4 _ rfl⟩
theorem lies_op {w : World} {b o : Nat} {r : OpV} (h : OAt w b o r) : Lies opC w b o r := fun j u hu => by
  match j, hu with
  | 0, hu => obtain rfl := Option.some.inj hu; exact h.c0
  | 1, hu => obtain rfl := Option.some.inj hu; exact h.c1
  | 2, hu => obtain rfl := Option.some.inj hu; exact h.c2
  | 3, hu => obtain rfl := Option.some.inj hu; exact h.c3
  | 4, hu => obtain rfl := Option.some.inj hu; exact h.c4
  | j + 5, hu => cases hu
/-- A step in a block of its own. -/
structure OBox (w : World) (b : Nat) (r : OpV) : Prop where
  lt : b < w.heap.size
  c0 : w.cell? ⟨b, 0, none⟩ = some (.int .i64 r.c)
  c1 : w.cell? ⟨b, 1, none⟩ = some (.string ⟨r.key.toArray⟩)
  c2 : w.cell? ⟨b, 2, none⟩ = some (.int .i64 r.v.k)
  c3 : w.cell? ⟨b, 3, none⟩ = some (.float .f64 r.v.x)
  c4 : w.cell? ⟨b, 4, none⟩ = some (.string ⟨r.v.s.toArray⟩)
theorem OBox.below {B : Nat} {w w' : World} {b : Nat} {r : OpV} (h : OBox w b r) (hb : Below B w w') (hl : b < B) : OBox w' b r :=
  ⟨Nat.lt_of_lt_of_le h.lt hb.size, (hb.cell hl).trans h.c0, (hb.cell hl).trans h.c1, (hb.cell hl).trans h.c2, (hb.cell hl).trans h.c3, (hb.cell hl).trans h.c4⟩
theorem obox_new (w : World) (r : OpV) : OBox (w.alloc (oobj r)) w.heap.size r :=
  ⟨by simp, by simp [World.cell?_alloc_new], by simp [World.cell?_alloc_new], by simp [World.cell?_alloc_new], by simp [World.cell?_alloc_new], by simp [World.cell?_alloc_new]⟩
theorem isZero_any (v : DV) (w : World) : Calls Tryz.prog 68 #[vagg v] w fun e w' => e = .returned (.bool (zeroV v)) ∧ Below w.heap.size w w' := by
  have HM := fun w => Lib.hid (may_any v w)
  have e : zeroV v = (v.k == 0 && mayV v) := rfl
  rw [e]
  clear e
  generalize hm : mayV v = m at *
  clear hm
  obtain ⟨k, x, s⟩ := v
  have H1 := Lib.hid (below1 w (vobj ⟨k, x, s⟩))
  have HA := Lib.hid (at_new w ⟨k, x, s⟩)
  cases hk : k == 0
  · go_enter Tryz.func68, Tryz.ntmps68
    go_wp2_with (fail)
    go_ret
    exact ⟨by simp, H1.out⟩
  · have q0 := HA.out.c0; have q1 := HA.out.c1; have q2 := HA.out.c2
    go_enter Tryz.func68, Tryz.ntmps68
    go_wp2_with (go_at_call 69; ((with_reducible refine (HM _).out.mono ?_); rintro e w2 ⟨rfl, h2⟩; have HW := Lib.hid (H1.out.trans (h2.mono H1.out.size)); clear h2))
    go_ret
    exact ⟨by simp, HW.out⟩
theorem isFormed_any (o : OpV) (n : Int) (hn : nmsC o.c = n) (w : World) : Calls Tryz.prog 39 #[oagg o, .int .i64 n] w fun e w' => e = .returned (.bool (formV o)) ∧ Below w.heap.size w w' := by
  have HM := fun w => Lib.hid (may_any o.v w)
  have HZ := fun w => Lib.hid (isZero_any o.v w)
  have HK := fun w => Lib.hid (key_any o.key w)
  have e : formV o = if n = 1 then keyV o.key && zeroV o.v else if n = 2 then o.key == [] && mayV o.v else o.key == [] && zeroV o.v := by unfold formV; rw [hn]
  rw [e]
  clear e hn
  have H1 := Lib.hid (below1 w (oobj o))
  have HA := Lib.hid (obox_new w o)
  obtain ⟨c, key, v⟩ := o
  simp only at HM HZ HK ⊢
  by_cases h1 : n = 1
  · subst h1
    rw [if_pos rfl]
    generalize hk : keyV key = k at *
    generalize hz : zeroV v = z at *
    obtain ⟨vk, vx, vs⟩ := v
    clear hk hz HM
    cases k
    · go_enter Tryz.func39, Tryz.ntmps39
      go_wp2_with (go_at_call 65; ((with_reducible refine (HK _).out.mono ?_); rintro e w2 ⟨rfl, rfl⟩))
      go_ret
      exact ⟨rfl, H1.out⟩
    · have q2 := HA.out.c2; have q3 := HA.out.c3; have q4 := HA.out.c4
      go_enter Tryz.func39, Tryz.ntmps39
      go_wp2_with (first
        | (go_at_call 65; ((with_reducible refine (HK _).out.mono ?_); rintro e w2 ⟨rfl, rfl⟩))
        | (go_at_call 68; ((with_reducible refine (HZ _).out.mono ?_); rintro e w2 ⟨rfl, h2⟩; have HW := Lib.hid (H1.out.trans (h2.mono H1.out.size)); clear h2)))
      go_ret
      exact ⟨rfl, HW.out⟩
  rw [if_neg h1]
  have b1 : (n == 1) = false := by rw [beq_eq_false_iff_ne]; exact h1
  clear h1
  by_cases h2 : n = 2
  · subst h2
    rw [if_pos rfl]
    generalize hm : mayV v = m at *
    obtain ⟨vk, vx, vs⟩ := v
    clear hm HZ HK
    cases hk : key == []
    · go_enter Tryz.func39, Tryz.ntmps39
      go_wp2_with (fail)
      go_ret
      exact ⟨rfl, H1.out⟩
    · have q2 := HA.out.c2; have q3 := HA.out.c3; have q4 := HA.out.c4
      obtain rfl : key = [] := by simpa using hk
      go_enter Tryz.func39, Tryz.ntmps39
      go_wp2_with (go_at_call 69; ((with_reducible refine (HM _).out.mono ?_); rintro e w2 ⟨rfl, h2⟩; have HW := Lib.hid (H1.out.trans (h2.mono H1.out.size)); clear h2))
      go_ret
      exact ⟨rfl, HW.out⟩
  rw [if_neg h2]
  have b2 : (n == 2) = false := by rw [beq_eq_false_iff_ne]; exact h2
  clear h2
  generalize hz : zeroV v = z at *
  obtain ⟨vk, vx, vs⟩ := v
  clear hz HM HK
  cases hk : key == []
  · go_enter Tryz.func39, Tryz.ntmps39
    go_wp2_with (fail)
    go_ret
    exact ⟨rfl, H1.out⟩
  · have q2 := HA.out.c2; have q3 := HA.out.c3; have q4 := HA.out.c4
    obtain rfl : key = [] := by simpa using hk
    go_enter Tryz.func39, Tryz.ntmps39
    go_wp2_with (go_at_call 68; ((with_reducible refine (HZ _).out.mono ?_); rintro e w2 ⟨rfl, h2⟩; have HW := Lib.hid (H1.out.trans (h2.mono H1.out.size)); clear h2))
    go_ret
    exact ⟨rfl, HW.out⟩
end Go.Proofs.YtbgccaconhmbaaaGreatDoor
