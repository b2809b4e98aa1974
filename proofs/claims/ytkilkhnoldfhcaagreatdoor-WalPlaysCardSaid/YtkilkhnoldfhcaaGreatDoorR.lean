/- A disk of the call's own, alone in its blocks; racelaw6.first. Conditions: none of its own. Rows of operations in plain terms: what they answer, what stays. Conditions: none of its own. Slices of files as they read; disk.Files. Conditions: none of its own. disk.Files tells the files by rising names, in new memory. Conditions: none of its own. raceref.Files: are two slices of files the same? Conditions: none of its own. -/
import Derived.Test.YtkilkhnoldfhcaaGreatDoorP
import Derived.Lib.SlBytesConst
namespace Go.Proofs.YtkilkhnoldfhcaaGreatDoor
open Go.RowKit
/-- A disk that lies from block B on. -/
def OneD (B : Nat) (w : World) (a : Nat) (d : Dk) : Prop := ∃ S, (∀ k, S k → B ≤ k) ∧ DK S w a d
section
variable {B : Nat} {S : Nat → Prop} {w w' : World} {a : Nat} {d : Dk}
theorem one_wrote {r : Dk × Nat} {e : Ending} (hw : Wrote S w a r e w') (hS : ∀ k, S k → B ≤ k) (hB : B ≤ w.heap.size) : e = .returned (.int .i64 (r.2 : Int)) ∧ OneD B w' a r.1 ∧ Below B w w' :=
  ⟨hw.1, ⟨_, fun _ hk => Gw.lo hS hB hk, hw.2.1⟩, hw.2.2.below hB hS⟩
theorem OneD.below (h : OneD B w a d) (hb : Below w.heap.size w w') : OneD B w' a d := let ⟨S, hS, h⟩ := h; ⟨S, hS, h.below hb⟩
theorem OneD.ok (h : OneD B w a d) : Ok d := let ⟨_, _, h⟩ := h; h.ok
/-- What a write answers, and that the disk stands so. -/
def One (B : Nat) (w : World) (a : Nat) (r : Dk × Nat) (e : Ending) (w' : World) : Prop := e = .returned (.int .i64 (r.2 : Int)) ∧ OneD B w' a r.1 ∧ Below B w w'
theorem one_new (w : World) : Calls Tryz.prog 13 #[] w fun e w' => e = .returned (ptr (w.heap.size + 1)) ∧ OneD w.heap.size w' (w.heap.size + 1) .zero ∧ Below w.heap.size w w' :=
  (new_any w).mono fun _ _ ⟨h1, h2, h3⟩ => ⟨h1, ⟨_, fun _ hk => hk.1, h3⟩, h2⟩
theorem one_create (h : OneD B w a d) (hB : B ≤ w.heap.size) {s : Nm} (hs : s.length ≤ 281474976710656) (hd : d.done < 9223372036854775807) : Calls Tryz.prog 44 #[ptr a, nmv s] w (One B w a (d.create s)) :=
  let ⟨_, hS, _, _, _, h⟩ := h; (create_any h hs hd).mono fun _ _ hw => one_wrote hw hS hB
theorem one_append (h : OneD B w a d) (hB : B ≤ w.heap.size) {s : Nm} {C : Nat → Prop} {ao : Option Addr} {n cap : Nat} {b : List UInt8} (hs : s.length ≤ maxLen) (hd : d.done < 9223372036854775807) (hb : SB C w ao n cap b) (hn : n ≤ 70000000000000) : Calls Tryz.prog 70 #[ptr a, nmv s, .slice ao n cap] w (One B w a (d.append s b)) :=
  let ⟨_, hS, _, _, _, h⟩ := h; (append_any h hs hd hb hn).mono fun _ _ hw => one_wrote hw hS hB
theorem one_sync (h : OneD B w a d) (hB : B ≤ w.heap.size) {s : Nm} (hs : s.length ≤ maxLen) (hd : d.done < 9223372036854775807) : Calls Tryz.prog 71 #[ptr a, nmv s] w (One B w a (d.sync s)) :=
  let ⟨_, hS, _, _, _, h⟩ := h; (sync_any h hs hd).mono fun _ _ hw => one_wrote hw hS hB
theorem one_read (h : OneD B w a d) {s : Nm} (hs : s.length ≤ maxLen) : Calls Tryz.prog 122 #[ptr a, nmv s] w fun e w' => ∃ ao cap, e = .returned (.tuple #[.slice ao (d.read s).1.length cap, .int .i64 ((d.read s).2 : Nat)]) ∧ SB (fun k => w.heap.size ≤ k ∧ k < w'.heap.size) w' ao (d.read s).1.length cap (d.read s).1 ∧ Below w.heap.size w w' :=
  let ⟨_, _, _, _, _, h⟩ := h; (read_any h hs).mono fun _ _ ⟨_, h1, h2, h3⟩ => by
    obtain ⟨ao, cap, rfl⟩ := own_slice h2
    exact ⟨ao, cap, h1, (own_sb h2).mono fun k _ e => h2.lt k e, h3⟩
theorem one_writes (h : OneD B w a d) : Calls Tryz.prog 94 #[ptr a] w fun e w' => e = .returned (.int .i64 (d.done : Int)) ∧ w = w' := let ⟨_, _, _, _, _, h⟩ := h; writes_any h
theorem one_down (h : OneD B w a d) : Calls Tryz.prog 24 #[ptr a] w fun e w' => e = .returned (.bool d.off) ∧ w = w' := let ⟨_, _, _, _, _, h⟩ := h; down_any h
theorem one_crash (h : OneD B w a d) (hB : B ≤ w.heap.size) {C : Nat → Prop} {po : Option Addr} {pn pc : Nat} {picks : List Int} (hp : SI C w po pn pc picks) (hC : ∀ k, C k → k < B) : Calls Tryz.prog 42 #[ptr a, .slice po pn pc] w fun e w' => e = .returned (.tuple #[]) ∧ OneD B w' a (d.crash picks) ∧ Below B w w' :=
  let ⟨_, hS, _, _, _, h⟩ := h; (crash_any h hp (fun k hk e => by have := hS k e; have := hC k hk; omega)).mono fun _ _ ⟨h1, h2, h3⟩ => ⟨h1, ⟨_, hS, h2⟩, h3.below hB hS⟩
theorem one_crash_lit (h : OneD B w a d) (hB : B ≤ w.heap.size) (p : Int) (hp : -9223372036854775808 ≤ p ∧ p ≤ 9223372036854775807) : Calls Tryz.prog 42 #[ptr a, .slice (some ⟨w.heap.size, 0, none⟩) 1 1] (w.alloc (.cells #[.int .i64 p] 3)) fun e w' => e = .returned (.tuple #[]) ∧ OneD B w' a (d.crash [p]) ∧ Below B (w.alloc (.cells #[.int .i64 p] 3)) w' := by
  obtain ⟨S, hS, m, ρ, δ, h⟩ := h
  have h1 := h.below (below1 w (.cells #[.int .i64 p] 3))
  have hsi : SI (· = w.heap.size) (w.alloc (.cells #[.int .i64 p] 3)) (some ⟨w.heap.size, 0, none⟩) 1 1 [p] := by
    refine ⟨rfl, Nat.le_refl _, by decide, fun q hq => ?_, .inr ⟨w.heap.size, 0, rfl, rfl, fun i hi => ?_⟩⟩
    · simp at hq; subst hq; exact hp
    · obtain rfl : i = 0 := by omega
      have := heap_alloc_new w (.cells #[.int .i64 p] 3)
      show (match (w.alloc (.cells #[.int .i64 p] 3)).heap[w.heap.size]? with | some (.cells c _ _) => if (none : Option Nat).isSome then none else c[0 + 0]? | _ => none) = _
      rw [this]
      rfl
  exact (crash_any h1 hsi (fun k hk e => by have := h.lt k e; omega)).mono fun _ _ ⟨h1, h2, h3⟩ => ⟨h1, ⟨_, hS, h2⟩, h3.below (by simp; omega) hS⟩
end
theorem sb12 (w : World) : SB (· = w.heap.size) (w.alloc (.cells #[.int .u8 49, .int .u8 50] 5 (2, 3))) (some ⟨w.heap.size, 0, none⟩) 2 2 [49, 50] := sb_lit w [49, 50] 2 (2, 3) rfl (by decide)
theorem sb345 (w : World) : SB (· = w.heap.size) (w.alloc (.cells #[.int .u8 51, .int .u8 52, .int .u8 53] 5 (3, 4))) (some ⟨w.heap.size, 0, none⟩) 3 3 [51, 52, 53] := sb_lit w [51, 52, 53] 3 (3, 4) rfl (by decide)
theorem x1 : Dk.zero.create [97] = (⟨[([97], ⟨[], 0⟩)], false, 0, 1⟩, 0) := rfl
theorem x2 : (⟨[([97], ⟨[], 0⟩)], false, 0, 1⟩ : Dk).create [97] = (⟨[([97], ⟨[], 0⟩)], false, 0, 1⟩, 9) := rfl
theorem x3 : (⟨[([97], ⟨[], 0⟩)], false, 0, 1⟩ : Dk).append [98] [] = (⟨[([97], ⟨[], 0⟩)], false, 0, 1⟩, 8) := rfl
theorem x4 : (⟨[([97], ⟨[], 0⟩)], false, 0, 1⟩ : Dk).append [97] [49, 50] = (⟨[([97], ⟨[49, 50], 0⟩)], false, 0, 2⟩, 0) := rfl
theorem x5 : (⟨[([97], ⟨[49, 50], 0⟩)], false, 0, 2⟩ : Dk).sync [97] = (⟨[([97], ⟨[49, 50], 2⟩)], false, 0, 3⟩, 0) := rfl
theorem x6 : (⟨[([97], ⟨[49, 50], 2⟩)], false, 0, 3⟩ : Dk).append [97] [51, 52, 53] = (⟨[([97], ⟨[49, 50, 51, 52, 53], 2⟩)], false, 0, 4⟩, 0) := rfl
theorem x7 : (⟨[([97], ⟨[49, 50, 51, 52, 53], 2⟩)], false, 0, 4⟩ : Dk).crash [2] = ⟨[([97], ⟨[49, 50, 51, 52], 4⟩)], false, 0, 4⟩ := rfl
theorem x8 : (⟨[([97], ⟨[49, 50, 51, 52], 4⟩)], false, 0, 4⟩ : Dk).read [97] = ([49, 50, 51, 52], 0) := rfl
end Go.Proofs.YtkilkhnoldfhcaaGreatDoor
namespace Go.Proofs.YtkilkhnoldfhcaaGreatDoor
theorem done_run (d : Dk) (l : List Do) : (d.run l).done ≤ d.done + l.length := by
  induction l generalizing d with
  | nil => exact Nat.le_refl _
  | cons p l ih =>
    have h1 := ih (d.step p).1
    have h2 := done_step d p
    show ((d.step p).1.run l).done ≤ _
    rw [List.length_cons]
    omega
theorem run_take (d : Dk) (l : List Do) {k : Nat} (h : k < l.length) : d.run (l.take (k + 1)) = ((d.run (l.take k)).step l[k]).1 := by
  rw [List.take_succ_eq_append_getElem h, run_snoc]
theorem done_take (l : List Do) (k : Nat) (h : k ≤ 300) : (Dk.zero.run (l.take k)).done < 9223372036854775807 := by
  have h1 := done_run Dk.zero (l.take k)
  have h2 := List.length_take_le k l
  have h3 : Dk.zero.done = 0 := rfl
  omega
theorem ok_run (l : List Do) : Ok (Dk.zero.run l) := ok_zero.run l
section
variable {d : Dk} {s t : Nm}
/-- A Sync that was OK. -/
theorem sync_ok (hr : (d.sync s).2 = 0) : ∃ x : Fi, get (d.sync s).1.f s = some ⟨x.data, x.data.length⟩ ∧ (d.sync s).1.off = false := by
  unfold Dk.sync at hr ⊢
  by_cases h1 : d.off = true
  · rw [if_pos h1] at hr; cases hr
  · rw [if_neg h1] at hr ⊢
    cases h2 : get d.f s with
    | none => rw [has_get, h2] at hr; cases hr
    | some x =>
      rw [has_get, h2] at hr ⊢
      simp only [Option.isSome_some, Bool.not_true, Bool.false_eq_true, if_false] at hr ⊢
      cases h3 : d.spend.2 with
      | false => rw [h3] at hr; cases hr
      | true =>
        rw [if_pos rfl]
        refine ⟨x, ?_, spend_off (by simpa using h1) h3⟩
        have h4 := get_upd_same (f := d.f) (s := s) (g := fun x : Fi => ⟨x.data, x.data.length⟩)
        rw [h2] at h4
        exact h4
theorem done_sync (d : Dk) (s : Nm) : (d.sync s).1.done ≤ d.done + 1 := by
  have := done_step d ⟨3, 0, s, [], [], []⟩
  have e : d.step ⟨3, 0, s, [], [], []⟩ = d.sync s := by unfold Dk.step; simp
  rw [e] at this
  exact this
theorem rename_no (hr : (d.rename s t).2 ≠ 0) : (d.rename s t).1.f = d.f := by
  unfold Dk.rename at hr ⊢
  split
  · rfl
  · rename_i h1
    rw [if_neg h1] at hr
    split
    · rfl
    · rename_i h2
      rw [if_neg h2] at hr
      split
      · rfl
      · rename_i h3
        rw [if_neg h3] at hr
        split
        · rename_i h4
          rw [if_pos h4] at hr
          exact absurd rfl hr
        · exact spend_f
theorem rename_ok {x : Fi} (h : Ok d) (hx : get d.f s = some x) (hr : (d.rename s t).2 = 0) : get (d.rename s t).1.f t = some x ∧ (s ≠ t → get (d.rename s t).1.f s = none) := by
  have hf : (d.rename s t).1.f = put (del d.f s) t x := by
    unfold Dk.rename at hr ⊢
    split
    · rename_i h1; rw [if_pos h1] at hr; cases hr
    · rename_i h1
      rw [if_neg h1] at hr
      split
      · rename_i h2; rw [if_pos h2] at hr; cases hr
      · rename_i h2
        rw [if_neg h2] at hr
        split
        · rename_i h3; rw [if_pos h3] at hr; cases hr
        · rename_i h3
          rw [if_neg h3] at hr
          split
          · show move d.f s t = _
            unfold move
            rw [hx]
          · rename_i h4; rw [if_neg h4] at hr; cases hr
  rw [hf]
  refine ⟨get_put_same (h.rising.del s) t x, fun hne => ?_⟩
  rw [get_put_other (h.rising.del s) x hne, get_del_same]
theorem crash_safe {x : Fi} (picks : List Int) (hx : get d.f s = some x) (he : x.safe = x.data.length) : (d.crash picks).read s = (x.data, 0) := by
  have := get_tear_safe picks he d.f 0 hx
  unfold Dk.read
  show (match get (tear picks 0 d.f) s with | some x => (x.data, 0) | none => ([], 8)) = _
  rw [this]
theorem crash_none (picks : List Int) (hx : get d.f s = none) : (d.crash picks).read s = ([], 8) := by
  have : get (tear picks 0 d.f) s = none := by
    cases e : get (tear picks 0 d.f) s with
    | none => rfl
    | some y =>
      have h1 : s ∈ names (tear picks 0 d.f) := List.mem_map.2 ⟨_, get_mem e, rfl⟩
      rw [names_tear] at h1
      obtain ⟨p, hp, hs⟩ := List.mem_map.1 h1
      exact absurd hs (get_none hx p hp)
  unfold Dk.read
  show (match get (tear picks 0 d.f) s with | some x => (x.data, 0) | none => ([], 8)) = _
  rw [this]
theorem read_some {x : Fi} (hx : get d.f s = some x) : d.read s = (x.data, 0) := by unfold Dk.read; rw [hx]
end
open Go.RowKit
section
variable {S C : Nat → Prop} {w : World} {a : Nat} {d : Dk}
theorem dk_sync (h : DK S w a d) {s : Nm} (hs : s.length ≤ maxLen) (hd : d.done < 9223372036854775807) : Calls Tryz.prog 71 #[ptr a, nmv s] w (Wrote S w a (d.sync s)) := let ⟨_, _, _, h⟩ := h; sync_any h hs hd
theorem dk_read (h : DK S w a d) {s : Nm} (hs : s.length ≤ maxLen) : Calls Tryz.prog 122 #[ptr a, nmv s] w fun e w' => ∃ ao cap, e = .returned (.tuple #[.slice ao (d.read s).1.length cap, .int .i64 ((d.read s).2 : Nat)]) ∧ SB (fun k => w.heap.size ≤ k ∧ k < w'.heap.size) w' ao (d.read s).1.length cap (d.read s).1 ∧ Below w.heap.size w w' :=
  let ⟨_, _, _, h⟩ := h; (read_any h hs).mono fun _ _ ⟨_, h1, h2, h3⟩ => by
    obtain ⟨ao, cap, rfl⟩ := own_slice h2
    exact ⟨ao, cap, h1, (own_sb h2).mono fun k _ e => h2.lt k e, h3⟩
theorem dk_crash (h : DK S w a d) {po : Option Addr} {pn pc : Nat} {picks : List Int} (hp : SI C w po pn pc picks) (hC : ∀ k, C k → ¬ S k) : Calls Tryz.prog 42 #[ptr a, .slice po pn pc] w fun e w' => e = .returned (.tuple #[]) ∧ DK S w' a (d.crash picks) ∧ Tn S w w' := let ⟨_, _, _, h⟩ := h; crash_any h hp hC
theorem dk_down (h : DK S w a d) : Calls Tryz.prog 24 #[ptr a] w fun e w' => e = .returned (.bool d.off) ∧ w = w' := let ⟨_, _, _, h⟩ := h; down_any h
theorem dk_writes (h : DK S w a d) : Calls Tryz.prog 94 #[ptr a] w fun e w' => e = .returned (.int .i64 (d.done : Int)) ∧ w = w' := let ⟨_, _, _, h⟩ := h; writes_any h
end
/-- What is done to a disk leaves what lies below it. -/
theorem gw_free {S : Nat → Prop} {w w' : World} {lo : Nat} (h1 : ∀ k, S k → k < lo) {k : Nat} (hk : lo ≤ k ∧ k < w.heap.size) : ¬ Gw S w w' k := fun e => by
  rcases e with e | e
  · have := h1 k e; omega
  · omega
end Go.Proofs.YtkilkhnoldfhcaaGreatDoor
namespace Go.Proofs.YtkilkhnoldfhcaaGreatDoor
open Go.RowKit
/-- A file as it is told. -/
structure FV where
  name : Nm
  data : List UInt8
  safe : Int
def fv (p : Nm × Fi) : FV := ⟨p.1, p.2.data, (p.2.safe : Int)⟩
def fvs (f : Ent Fi) : List FV := f.map fv
/-- What a told file is as Go's types hold it. -/
structure FV.wf (p : FV) : Prop where
  name : p.name.length ≤ maxLen
  safe : -9223372036854775808 ≤ p.safe ∧ p.safe ≤ 9223372036854775807
/-- A file's cells. -/
structure FAt (C : Nat → Prop) (w : World) (b o : Nat) (p : FV) : Prop where
  c0 : w.cell? ⟨b, o, none⟩ = some (nmv p.name)
  c1 : ∃ ao cap, w.cell? ⟨b, o + 1, none⟩ = some (.slice ao p.data.length cap) ∧ SB C w ao p.data.length cap p.data
  c2 : w.cell? ⟨b, o + 2, none⟩ = some (.int .i64 p.safe)
/-- A slice of files. -/
structure SF (C : Nat → Prop) (w : World) (ao : Option Addr) (n cap : Nat) (l : List FV) : Prop where
  len : n = l.length
  le : n ≤ cap
  max : cap ≤ maxLen
  wf : ∀ p ∈ l, p.wf
  cells : n = 0 ∨ ∃ b off, ao = some ⟨b, off, none⟩ ∧ C b ∧ ∀ i (h : i < l.length), FAt C w b (off + i * 3) l[i]
theorem FAt.tn {C S : Nat → Prop} {w w' : World} {b o : Nat} {p : FV} (h : FAt C w b o p) (ht : Tn S w w') (hb : C b) (hd : ∀ k, C k → ¬ S k) : FAt C w' b o p := by
  obtain ⟨a4, k4, h4, s4⟩ := h.c1
  have n := hd b hb
  exact ⟨ht.cell h.c0 n, ⟨a4, k4, ht.cell h4 n, s4.tn ht hd⟩, ht.cell h.c2 n⟩
theorem SF.tn {C S : Nat → Prop} {w w' : World} {ao : Option Addr} {n cap : Nat} {l : List FV} (h : SF C w ao n cap l) (ht : Tn S w w') (hd : ∀ k, C k → ¬ S k) : SF C w' ao n cap l := by
  refine ⟨h.len, h.le, h.max, h.wf, ?_⟩
  rcases h.cells with h0 | ⟨b, off, rfl, hB, hc⟩
  · exact .inl h0
  · exact .inr ⟨b, off, rfl, hB, fun i hi => (hc i hi).tn ht hB hd⟩
theorem SF.below {C : Nat → Prop} {w w' : World} {ao : Option Addr} {n cap : Nat} {l : List FV} (h : SF C w ao n cap l) (hb : Below w.heap.size w w') : SF C w' ao n cap l := h.tn (Tn.of_below (S := fun _ => False) hb) (fun _ _ e => e)
theorem SF.lt {C : Nat → Prop} {w : World} {ao : Option Addr} {n cap : Nat} {l : List FV} (h : SF C w ao n cap l) : n ≤ 9223372036854775807 := by have := h.le; have := h.max; unfold maxLen at this; omega
theorem SF.at_ {C : Nat → Prop} {w : World} {ao : Option Addr} {n cap : Nat} {l : List FV} (h : SF C w ao n cap l) {i : Nat} (hi : i < l.length) : ∃ b off, ao = some ⟨b, off, none⟩ ∧ C b ∧ FAt C w b (off + i * 3) l[i] ∧ l[i].wf := by
  have hn := h.len
  rcases h.cells with h0 | ⟨b, off, rfl, hB, hc⟩
  · omega
  · exact ⟨b, off, rfl, hB, hc i hi, h.wf _ (List.getElem_mem _)⟩
theorem info43 : (Tryz.prog.info? 43).map (fun i => (i.zero, i.size, i.bytes)) = some (some (.agg #[.string ⟨#[]⟩, .slice none 0 0, .int .i64 0]), 3, 48) := by kernel_rfl
theorem under28 : Tryz.prog.underlying 29 = some (.slice 43) := by kernel_rfl
/-- The cells of files whose bytes lie at vs. -/
def cellsF (us : List (Nm × Value × Int)) : List Value := us.flatMap fun u => [nmv u.1, u.2.1, .int .i64 u.2.2]
theorem cellsF_length (us : List (Nm × Value × Int)) : (cellsF us).length = us.length * 3 := by
  induction us with
  | nil => rfl
  | cons u us ih =>
    show ([nmv u.1, u.2.1, .int .i64 u.2.2] ++ cellsF us).length = _
    rw [List.length_append, ih, List.length_cons]
    simp
    omega
theorem cellsF_append (a b : List (Nm × Value × Int)) : cellsF (a ++ b) = cellsF a ++ cellsF b := List.flatMap_append
theorem cellsF_get (us : List (Nm × Value × Int)) : ∀ {i : Nat} (h : i < us.length), (cellsF us)[i * 3]? = some (nmv us[i].1) ∧ (cellsF us)[i * 3 + 1]? = some us[i].2.1 ∧ (cellsF us)[i * 3 + 2]? = some (.int .i64 us[i].2.2) := by
  induction us with
  | nil => intro i h; simp at h
  | cons u us ih =>
    intro i h
    have e : cellsF (u :: us) = [nmv u.1, u.2.1, .int .i64 u.2.2] ++ cellsF us := rfl
    rw [e]
    cases i with
    | zero => exact ⟨rfl, rfl, rfl⟩
    | succ i =>
      obtain ⟨h1, h2, h3⟩ := ih (i := i) (by simpa using h)
      refine ⟨?_, ?_, ?_⟩
      · rw [List.getElem?_append_right (by simp; omega)]
        show (cellsF us)[(i + 1) * 3 - 3]? = _
        rw [show (i + 1) * 3 - 3 = i * 3 by omega, h1]; rfl
      · rw [List.getElem?_append_right (by simp; omega)]
        show (cellsF us)[(i + 1) * 3 + 1 - 3]? = _
        rw [show (i + 1) * 3 + 1 - 3 = i * 3 + 1 by omega, h2]; rfl
      · rw [List.getElem?_append_right (by simp; omega)]
        show (cellsF us)[(i + 1) * 3 + 2 - 3]? = _
        rw [show (i + 1) * 3 + 2 - 3 = i * 3 + 2 by omega, h3]; rfl
/-- A row of files of the call's own: the row, and each one's bytes in a row of their own, in blocks of C. -/
structure FO (C : Nat → Prop) (w : World) (v : Value) (us : List (Nm × Value × Int)) (l : List FV) : Prop where
  own : w.ownsRow 0 43 3 v l.length (cellsF us)
  len : us.length = l.length
  at_ : ∀ i (h : i < us.length) (h2 : i < l.length), us[i].1 = l[i].name ∧ us[i].2.2 = l[i].safe ∧ w.ownsRow 0 5 1 us[i].2.1 l[i].data.length (bys l[i].data)
  row : ∀ k, v.ownBlock = some k → C k
  rows : ∀ i (h : i < us.length) k, us[i].2.1.ownBlock = some k → C k
section
variable {C S : Nat → Prop} {w w' : World} {v : Value} {us : List (Nm × Value × Int)} {l : List FV}
theorem FO.tn (h : FO C w v us l) (ht : Tn S w w') (hd : ∀ k, C k → ¬ S k) : FO C w' v us l :=
  ⟨own_tn h.own ht (fun k hk => hd k (h.row k hk)), h.len, fun i h1 h2 => ⟨(h.at_ i h1 h2).1, (h.at_ i h1 h2).2.1, own_tn (h.at_ i h1 h2).2.2 ht (fun k hk => hd k (h.rows i h1 k hk))⟩, h.row, h.rows⟩
theorem FO.below (h : FO C w v us l) (hb : Below w.heap.size w w') : FO C w' v us l := h.tn (Tn.of_below (S := fun _ => False) hb) (fun _ _ e => e)
theorem FO.sf (h : FO C w v us l) (hw : ∀ p ∈ l, p.wf) : ∃ ao cap, v = .slice ao l.length cap ∧ SF C w ao l.length cap l := by
  obtain ⟨ao, cap, rfl⟩ := own_slice h.own
  refine ⟨ao, cap, rfl, rfl, own_cap h.own, ?_, hw, ?_⟩
  · rcases h.own.2 with ⟨e, _⟩ | ⟨g, c, cur, e, _, _, _, h2, _⟩
    · injection e with e1 e2 e3; rw [e3]; decide
    · injection e with e1 e2 e3; rw [e3]; exact h2
  · by_cases h0 : l.length = 0
    · exact .inl h0
    · obtain ⟨g, gc, hg⟩ := own_shape h.own (by omega)
      cases hg
      refine .inr ⟨g, 0, rfl, h.row g rfl, fun i hi => ?_⟩
      have hu : i < us.length := by rw [h.len]; exact hi
      obtain ⟨e1, e2, e3⟩ := h.at_ i hu hi
      obtain ⟨g1, g2, g3⟩ := cellsF_get us hu
      obtain ⟨bo, bc, hb⟩ := own_slice e3
      rw [Nat.zero_add]
      refine ⟨?_, ⟨bo, bc, ?_, ?_⟩, ?_⟩
      · rw [h.own.cellAt (i * 3) (by omega), g1, e1]
      · rw [h.own.cellAt (i * 3 + 1) (by omega), g2, hb]
      · rw [hb] at e3
        exact (own_sb e3).mono fun k _ e => h.rows i hu k (by rw [hb]; exact e)
      · rw [h.own.cellAt (i * 3 + 2) (by omega), g3, e2]
end
/-- append of one file onto a row of them, in a region that draws its order. -/
theorem oper_append_file {ops : Array Oper} {o : Oper} {a : Act} {w : World} {K' : Act → World → Prop} {Q : Exit → Act → World → Prop} {X : Prop} (hw : Region.wanted o (yielded ops a.tmps) = true) (s x : Operand)
    (ho : o.op = .call { callee := .builtin .append, args := #[s, x], argTypes := #[29, 29] })
    {v : Value} {n : Nat} {us : List (Nm × Value × Int)} {u : Nm × Value × Int} {b : Nat} (hs : a.eval s = v) (hown : w.ownsRow 0 43 3 v n (cellsF us)) (hx : a.eval x = .slice (some ⟨b, 0, none⟩) 1 1) (hm : w.heap[b]? = some (.cells #[nmv u.1, u.2.1, .int .i64 u.2.2] 43 (0, 0)))
    (h1 : u.2.1.oneCell' = true) (hroom : n ≤ 1000000)
    (h : ∀ v' w', w'.ownsRow 0 43 3 v' (n + 1) (cellsF (us ++ [u])) → w.grownBy w' v.ownBlock → (v'.ownBlock = v.ownBlock ∨ v'.ownBlock = some w.heap.size) → K' (a.put o.dst v') w') : if Region.wanted o (yielded ops a.tmps) = true then o.wp Tryz.prog a w K' Q else X := by
  obtain ⟨i0, hi, hz0, hz1, hz2⟩ := info_parts info43
  obtain ⟨v', w', hr, h2, h3, _, h5⟩ := run_append_own_at (P := Tryz.prog) w 0 29 o.type 43 i0 (.agg #[.string ⟨#[]⟩, .slice none 0 0, .int .i64 0]) 3 48 under28 hi hz0 hz1 hz2 rfl (by decide) v n (cellsF us) hown ⟨b, 0, none⟩ 1 1 (cellsF [u]) rfl (fun j y hy => by
    rw [Addr.add_lit, Nat.zero_add]
    have e : cellsF [u] = [nmv u.1, u.2.1, .int .i64 u.2.2] := rfl
    rw [e] at hy
    simp only [World.cell?, hm]
    simpa using hy) (fun y hy => by
    have e : cellsF [u] = [nmv u.1, u.2.1, .int .i64 u.2.2] := rfl
    rw [e] at hy
    simp at hy
    rcases hy with rfl | rfl | rfl
    · rfl
    · exact h1
    · rfl) (by unfold maxLen; omega) (by omega) (Nat.zero_le _)
  rw [if_pos hw]
  unfold Oper.wp execOp
  simp only [ho, resolve, invoke, builtin, Sem.run_bind, Sem.run_pure, Result.andThen_ok, List.map_toArray, List.map_cons, List.map_nil, hs, hx, hr]
  exact h v' w' (by rw [cellsF_append]; exact h2) h3 h5
end Go.Proofs.YtkilkhnoldfhcaaGreatDoor
namespace Go.Proofs.YtkilkhnoldfhcaaGreatDoor
open Go.RowKit
section
variable {S : Nat → Prop} {w : World} {a m : Nat} {d : Dk} {ρ : Nm → Nat} {δ : Nm → Value} {s : Nm} {x : Fi}
theorem FO.mono {C D : Nat → Prop} {v : Value} {us : List (Nm × Value × Int)} {l : List FV} (h : FO C w v us l) (hd : ∀ k, k < w.heap.size → C k → D k) : FO D w v us l :=
  ⟨h.own, h.len, h.at_, fun k hk => hd k (h.own.lt k hk).2 (h.row k hk), fun i h1 k hk => hd k ((h.at_ i h1 (by rw [← h.len]; exact h1)).2.2.lt k hk).2 (h.rows i h1 k hk)⟩
theorem FO.nil (C : Nat → Prop) (w : World) : FO C w (.slice none 0 0) [] [] := ⟨World.ownsRow_nil _ _ _ _, rfl, fun _ h => (nomatch h), fun _ h => (nomatch h), fun _ h => (nomatch h)⟩
theorem FO.snoc {C : Nat → Prop} {w2 w3 : World} {v v3 : Value} {us : List (Nm × Value × Int)} {l : List FV} {q : FV} {u : Value} (h : FO C w2 v us l) (hg : w2.grownBy w3 v.ownBlock) (ho : w3.ownsRow 0 43 3 v3 (l.length + 1) (cellsF (us ++ [(q.name, u, q.safe)])))
    (hl : v3.ownBlock = v.ownBlock ∨ v3.ownBlock = some w2.heap.size) (hu : w2.ownsRow 0 5 1 u q.data.length (bys q.data)) (hCu : ∀ k, u.ownBlock = some k → C k) (hC : C w2.heap.size) : FO C w3 v3 (us ++ [(q.name, u, q.safe)]) (l ++ [q]) := by
  have hk : ∀ {n : Nat} {t : Value} {xs : List Value}, w2.ownsRow 0 5 1 t n xs → w3.ownsRow 0 5 1 t n xs := fun {n t xs} ht => ht.kept hg (by
    cases e : t.ownBlock with
    | none => exact .inl rfl
    | some j => exact .inr (fun e2 => own_apart ht h.own (by decide) j e e2.symm))
  refine ⟨by rw [List.length_append]; exact ho, by rw [List.length_append, List.length_append, h.len]; rfl, fun i h1 h2 => ?_, fun k hk => ?_, fun i h1 k hk => ?_⟩
  · by_cases hi : i < us.length
    · rw [List.getElem_append_left hi, List.getElem_append_left (by rw [← h.len]; exact hi)]
      obtain ⟨e1, e2, e3⟩ := h.at_ i hi (by rw [← h.len]; exact hi)
      exact ⟨e1, e2, hk e3⟩
    · have he : i = us.length := by simp at h1; omega
      subst he
      have hll := h.len
      rw [List.getElem_append_right (Nat.le_refl _), List.getElem_append_right (by omega)]
      simp only [Nat.sub_self, List.getElem_cons_zero, hll]
      exact ⟨trivial, trivial, hk hu⟩
  · rcases hl with e | e
    · exact h.row k (e ▸ hk)
    · rw [e] at hk; cases hk; exact hC
  · by_cases hi : i < us.length
    · rw [List.getElem_append_left hi] at hk
      exact h.rows i hi k hk
    · have he : i = us.length := by simp at h1; omega
      subst he
      rw [List.getElem_append_right (Nat.le_refl _)] at hk
      simp only [Nat.sub_self, List.getElem_cons_zero] at hk
      exact hCu k hk
theorem fvs_snoc {f : Ent Fi} {k : Nat} (hk : k < f.length) (hs : f[k] = (s, x)) : fvs (f.take (k + 1)) = fvs (f.take k) ++ [⟨s, x.data, (x.safe : Int)⟩] := by
  unfold fvs
  rw [List.take_succ_eq_append_getElem hk, hs, List.map_append]
  rfl
set_option maxRecDepth 100000 in
set_option maxHeartbeats 2000000 in
theorem files_own (h : DAt S w a d m ρ δ) : Calls Tryz.prog 35 #[ptr a] w fun e w' => ∃ v us, e = .returned v ∧ FO (fun k => w.heap.size ≤ k ∧ k < w'.heap.size) w' v us (fvs d.f) ∧ Below w.heap.size w w' := by
  have H := Lib.hid h
  have hfew := h.ok.few
  clear h
  go_enter Tryz.func35, Tryz.ntmps35
  go_wp2_with (go_at_call 37; (with_reducible refine (list_any H.out).mono ?_); rintro e w1 ⟨v, rfl, hr, hb⟩; obtain ⟨vo, vc, rfl⟩ := own_slice hr; have HR := Lib.hid hr; have HB := Lib.hid hb; clear hr hb)
  go_loopw [3, 5, 6, 10] (fun v _ _ i wr => ∃ k : Nat, k ≤ d.f.length ∧ i = .int .i64 k ∧ Hid (∃ us, FO (fun k => w1.heap.size ≤ k) wr v us (fvs (d.f.take k))) ∧ Hid (Below w1.heap.size w1 wr)) (fun _ _ _ i _ => d.f.length - (intOf i).toNat)
  case atStart => exact ⟨0, Nat.zero_le _, rfl, ⟨[], FO.nil _ _⟩, Below.refl _ _⟩
  case round =>
    obtain ⟨k, hk, rfl, HF, HW⟩ := hrel
    obtain ⟨us, hfo⟩ := HF.out
    have hlen : (fvs (d.f.take k)).length = k := by unfold fvs; rw [List.length_map, List.length_take]; omega
    obtain ⟨fo, fc, hfv⟩ := own_slice hfo.own
    rw [hlen] at hfv
    subst hfv
    have HFO := Lib.hid hfo
    have HLN := Lib.hid hlen
    clear HF hfo hlen
    by_cases hlt : k < d.f.length
    · have hd := H.out.below (HB.out.trans (HW.out.mono HB.out.size))
      obtain ⟨⟨s, x⟩, hsx⟩ : ∃ p, d.f[k] = p := ⟨_, rfl⟩
      have hrow := own_below HR.out HW.out
      obtain ⟨g, gc, hg⟩ := own_shape hrow (by omega)
      cases hg
      have hcell := hrow.cellAt k (by omega)
      have hname : ((names d.f).map nmv)[k]? = some (nmv s) := by unfold names; simp [hlt, hsx]
      have hsm : (s, x) ∈ d.f := by rw [← hsx]; exact List.getElem_mem _
      have hgx := mem_get H.out.ok.rising hsm
      have hsl : s.length ≤ maxLen := by
        have := H.out.ok.nm _ hsm
        unfold isNm at this
        simp at this
        unfold maxLen; omega
      have c0 := hd.c0
      have l0 := hd.look1 hsl hgx
      have f0 := hd.f0 hgx
      have f1 := hd.f1 hgx
      have hown := hd.own hgx
      obtain ⟨ao, cap, hv⟩ := own_slice hown
      rw [hv] at f0 hown
      rw [hname] at hcell
      have hxl := get_tot H.out.ok.rising hgx
      have hroom := H.out.ok.room
      have HSX := Lib.hid (fvs_snoc hlt hsx)
      have HOW := Lib.hid (show wr.drew.ownsRow 0 5 1 (.slice ao x.data.length cap) x.data.length (bys x.data) from hown)
      have HXL : Hid (x.data.length ≤ 4194304) := by have : x.data.length ≤ 4194304 := by omega
                                                     exact this
      have HRS := Lib.hid (show ρ s < wr.drew.heap.size from hd.lt _ (hd.sf _ hsm))
      have HRS1 := Lib.hid (Nat.lt_of_lt_of_le (H.out.lt _ (H.out.sf _ hsm)) HB.out.size)
      have hk64 : k ≤ 64 := by omega
      clear hd hsx hrow hname hsm hgx hown hv hxl hroom hfew
      go_wp2
      refine wp_region_held (S := (fun w' => w'.cell? ⟨ρ s, 0, none⟩ = some (.slice ao x.data.length cap) ∧ w'.cell? ⟨ρ s, 1, none⟩ = some (.int .i64 (x.safe : Int)))) (by kernel_rfl) ?_
      change wpAnyH _ _ _ _ _ _ _ _ (World.drew _)
      refine wpAnyH_take (i := 0) (v := ?vf_0) rfl (by kernel_rfl) (by kernel_rfl) (by kernel_rfl) (fun _ _ _ h => h) (Or.inl ⟨by rfl, ?yf_0⟩) ⟨f0, f1⟩ ?rf_0
      case yf_0 => (intro W hSw; (try dsimp only at hSw); obtain ⟨_, _⟩ := hSw; first | (go_simp; done) | (go_simp; with_reducible rfl))
      try go_simp
      refine wpAnyH_take (i := 1) (v := ?vf_1) rfl (by kernel_rfl) (by kernel_rfl) (by kernel_rfl) (fun _ _ _ h => h) (Or.inl ⟨by rfl, ?yf_1⟩) ⟨f0, f1⟩ ?rf_1
      case yf_1 => (intro W hSw; (try dsimp only at hSw); obtain ⟨_, _⟩ := hSw; first | (go_simp; done) | (go_simp; with_reducible rfl))
      try go_simp
      refine wpAnyH_take (i := 2) (v := ?vf_2) rfl (by kernel_rfl) (by kernel_rfl) (by kernel_rfl) (fun _ _ _ h => h) (Or.inl ⟨by rfl, ?yf_2⟩) ⟨f0, f1⟩ ?rf_2
      case yf_2 => (intro W hSw; (try dsimp only at hSw); obtain ⟨_, _⟩ := hSw; first | (go_simp; done) | (go_simp; with_reducible rfl))
      try go_simp
      refine wpAnyH_take (i := 3) (v := ?vf_3) rfl (by kernel_rfl) (by kernel_rfl) (by kernel_rfl) (fun _ _ _ h => h) (Or.inl ⟨by rfl, ?yf_3⟩) ⟨f0, f1⟩ ?rf_3
      case yf_3 => (intro W hSw; (try dsimp only at hSw); obtain ⟨_, _⟩ := hSw; first | (go_simp; done) | (go_simp; with_reducible rfl))
      try go_simp
      refine wpAnyH_take (i := 4) (v := ?vf_4) rfl (by kernel_rfl) (by kernel_rfl) (by kernel_rfl) (fun _ _ _ h => h) (Or.inl ⟨by rfl, ?yf_4⟩) ⟨f0, f1⟩ ?rf_4
      case yf_4 => (intro W hSw; (try dsimp only at hSw); obtain ⟨_, _⟩ := hSw; first | (go_simp; done) | (go_simp; with_reducible rfl))
      try go_simp
      refine wpAnyH_take (i := 5) (v := ?vf_5) rfl (by kernel_rfl) (by kernel_rfl) (by kernel_rfl) (fun _ _ _ h => h) (Or.inl ⟨by rfl, ?yf_5⟩) ⟨f0, f1⟩ ?rf_5
      case yf_5 => (intro W hSw; (try dsimp only at hSw); obtain ⟨_, _⟩ := hSw; first | (go_simp; done) | (go_simp; with_reducible rfl))
      try go_simp
      refine wpAnyH_take (i := 7) (v := ?vf_7) rfl (by kernel_rfl) (by kernel_rfl) (by kernel_rfl) (fun _ _ _ h => h) (Or.inl ⟨by rfl, ?yf_7⟩) ⟨f0, f1⟩ ?rf_7
      case yf_7 => (intro W hSw; (try dsimp only at hSw); obtain ⟨_, _⟩ := hSw; first | (go_simp; done) | (go_simp; with_reducible rfl))
      try go_simp
      refine wpAnyH_take (i := 8) (v := ?vf_8) rfl (by kernel_rfl) (by kernel_rfl) (by kernel_rfl) (fun _ _ _ h => h) (Or.inl ⟨by rfl, ?yf_8⟩) ⟨f0, f1⟩ ?rf_8
      case yf_8 => (intro W hSw; (try dsimp only at hSw); obtain ⟨_, _⟩ := hSw; first | (go_simp; done) | (go_simp; with_reducible rfl))
      try go_simp
      refine wpAnyH_take (i := 9) (v := ?vf_9) rfl (by kernel_rfl) (by kernel_rfl) (by kernel_rfl) (fun _ _ _ h => h) (Or.inl ⟨by rfl, ?yf_9⟩) ⟨f0, f1⟩ ?rf_9
      case yf_9 => (intro W hSw; (try dsimp only at hSw); obtain ⟨_, _⟩ := hSw; first | (go_simp; done) | (go_simp; with_reducible rfl))
      try go_simp
      refine wpAnyH_take (i := 10) (v := ?vf_10) rfl (by kernel_rfl) (by kernel_rfl) (by kernel_rfl) (fun _ _ _ h => h) (Or.inl ⟨by rfl, ?yf_10⟩) ⟨f0, f1⟩ ?rf_10
      case yf_10 => (intro W hSw; (try dsimp only at hSw); obtain ⟨_, _⟩ := hSw; first | (go_simp; done) | (go_simp; with_reducible rfl))
      try go_simp
      refine wpAnyH_ready (rs := [6]) (by kernel_rfl) (by simp) ?_
      refine AllReadyH.cons rfl (fun K hK => ?_) AllReadyH.nil
      go_simp
      (go_wp2_with (first | (go_at_call 57; (refine (clone_own (HOW.out) HXL.out).mono ?_); rintro e w2 ⟨v2, rfl, ho, hb⟩; obtain ⟨o2, c2, rfl⟩ := own_slice ho; have HO2 := Lib.hid ho; have HB2 := Lib.hid hb; have p0 := (hb.cell (p := ⟨ρ s, 0, none⟩) HRS.out).trans f0; have p1 := (hb.cell (p := ⟨ρ s, 1, none⟩) HRS.out).trans f1; have hz1 := Lib.hid (Nat.lt_of_lt_of_le HRS.out hb.size); clear ho hb)))
      refine hK.out _ _ ⟨p0, p1⟩ (fun _ => ?_)
      clear hK K
      try go_simp
      refine wpAnyH_take (i := 11) (v := ?vg_11) rfl (by kernel_rfl) (by kernel_rfl) (by kernel_rfl) (fun _ _ _ h => h) (Or.inl ⟨by rfl, ?yg_11⟩) ⟨p0, p1⟩ ?rg_11
      case yg_11 => (intro W hSw; (try dsimp only at hSw); obtain ⟨_, _⟩ := hSw; first | (go_simp; done) | (go_simp; with_reducible rfl))
      try go_simp

      refine wpAnyH_ready (rs := [12]) (by kernel_rfl) (by simp) ?_
      refine AllReadyH.cons rfl (fun K hK => ?_) AllReadyH.nil
      go_simp
      have q0 := ((below1 w2 (.cells #[nmv s, .slice o2 x.data.length c2, .int .i64 (x.safe : Int)] 43)).cell (p := ⟨ρ s, 0, none⟩) hz1.out).trans p0
      have q1 := ((below1 w2 (.cells #[nmv s, .slice o2 x.data.length c2, .int .i64 (x.safe : Int)] 43)).cell (p := ⟨ρ s, 1, none⟩) hz1.out).trans p1
      refine hK.out _ _ ⟨q0, q1⟩ (fun _ => ?_)
      clear hK K
      try go_simp
      refine wpAnyH_ready (rs := [13]) (by kernel_rfl) (by simp) ?_
      refine AllReadyH.cons rfl (fun K hK => ?_) AllReadyH.nil
      have HB3 := Lib.hid (((Below.refl _ wr).drew.trans HB2.out).trans (below1 w2 (.cells #[nmv s, .slice o2 x.data.length c2, .int .i64 (x.safe : Int)] 43) |>.mono HB2.out.size))
      have hfo3 := HFO.out.below HB3.out
      have hu3 := own_below HO2.out (below1 w2 (.cells #[nmv s, .slice o2 x.data.length c2, .int .i64 (x.safe : Int)] 43))
      refine oper_append_file (wanted_none rfl _) (.tmp 20) (.tmp 32) rfl rfl (u := (s, .slice o2 x.data.length c2, (x.safe : Int))) (by have h9 := hfo3.own; rw [HLN.out] at h9; exact h9) rfl (heap_alloc_new w2 _) rfl (by omega) ?_
      intro v3 w3 ho3 hg3 hl3
      have hg4 : (w2.alloc (.cells #[nmv s, .slice o2 x.data.length c2, .int .i64 (x.safe : Int)] 43)).grownBy w3 (Value.slice fo k fc).ownBlock := hg3
      have hl4 : v3.ownBlock = (Value.slice fo k fc).ownBlock ∨ v3.ownBlock = some (w2.alloc (.cells #[nmv s, .slice o2 x.data.length c2, .int .i64 (x.safe : Int)] 43)).heap.size := hl3
      have hz3 : w1.heap.size ≤ (w2.alloc (.cells #[nmv s, .slice o2 x.data.length c2, .int .i64 (x.safe : Int)] 43)).heap.size := Nat.le_trans HW.out.size HB3.out.size
      have hfo4 := hfo3.snoc (q := ⟨s, x.data, (x.safe : Int)⟩) (u := .slice o2 x.data.length c2) hg4 (by rw [HLN.out]; exact ho3) hl4 (own_mono hu3 (Nat.zero_le _)) (fun j hj => Nat.le_trans HW.out.size (HO2.out.lt j hj).1) hz3
      have hne : ∀ i : Nat, some (ρ s) ≠ (Value.slice fo k fc).ownBlock := fun _ e => by have := hfo3.row _ e.symm; have := HRS1.out; omega
      have r0 := hg4.cell q0 (hne 0)
      have r1 := hg4.cell q1 (hne 1)
      have HFO4 := Lib.hid hfo4
      have HB5 := Lib.hid (((HW.out.trans (HB3.out.mono HW.out.size))).grown hg4 hz3 (fun j hj => hfo3.row j hj))
      obtain ⟨o3, c3, rfl⟩ := own_slice ho3
      clear hfo4 hfo3 hu3 ho3 hg3 hg4 hl3 hl4 hz3 hne q0 q1 p0 p1 f0 f1
      try go_simp
      refine hK.out _ _ ⟨r0, r1⟩ (fun _ => ?_)
      clear hK K
      try go_simp
      refine wpAnyH_take (i := 14) (v := ?vh_14) rfl (by kernel_rfl) (by kernel_rfl) (by kernel_rfl) (fun _ _ _ h => h) (Or.inl ⟨by rfl, ?yh_14⟩) ⟨r0, r1⟩ ?rh_14
      case yh_14 => (intro W hSw; (try dsimp only at hSw); obtain ⟨_, _⟩ := hSw; first | (go_simp; done) | (go_simp; with_reducible rfl))
      try go_simp
      refine wpAnyH_done (by kernel_rfl) ?_ _
      try go_wp2
      go_roundw
      case rel => exact ⟨k + 1, by omega, by go_num, ⟨_, by rw [HSX.out]; exact HFO4.out⟩, HB5⟩
      case measure => simp [intOf]; omega
    · obtain rfl : k = d.f.length := by omega
      go_wp2
      go_ret
      have h1 := HFO.out
      rw [List.take_length] at h1
      exact ⟨_, us, rfl, h1.mono (fun j hj hc => ⟨Nat.le_trans HB.out.size hc, hj⟩), HB.out.trans (HW.out.mono HB.out.size)⟩
end
end Go.Proofs.YtkilkhnoldfhcaaGreatDoor
namespace Go.Proofs.YtkilkhnoldfhcaaGreatDoor
open Go.RowKit
def eqv (p q : FV) : Bool := p.name == q.name && (decide (p.safe = q.safe) && p.data == q.data)
def sameF : List FV → List FV → Bool
  | [], [] => true
  | p :: l, q :: m => eqv p q && sameF l m
  | _, _ => false
theorem eqv_iff {p q : FV} : eqv p q = true ↔ p = q := by
  obtain ⟨a, b, c⟩ := p
  obtain ⟨d, e, f⟩ := q
  unfold eqv
  simp
  intro _
  exact and_comm
theorem sameF_iff : ∀ {l m : List FV}, sameF l m = true ↔ l = m
  | [], [] => by simp [sameF]
  | [], _ :: _ => by simp [sameF]
  | _ :: _, [] => by simp [sameF]
  | p :: l, q :: m => by unfold sameF; rw [Bool.and_eq_true, eqv_iff, sameF_iff]; simp
theorem sameF_self (l : List FV) : sameF l l = true := sameF_iff.2 rfl
theorem sameF_no {l m : List FV} (h : l ≠ m) : sameF l m = false := by
  cases e : sameF l m with
  | false => rfl
  | true => exact absurd (sameF_iff.1 e) h
theorem drewN_add (w : World) (a b : Nat) : (w.drewN a).drewN b = w.drewN (a + b) := by
  simp [World.drewN, Nat.add_assoc]
theorem SB.drewN {C : Nat → Prop} {w : World} {ao : Option Addr} {n cap : Nat} {l : List UInt8} (h : SB C w ao n cap l) (q : Nat) : SB C (w.drewN q) ao n cap l := h.below (below_drewN w q)
set_option maxRecDepth 100000 in
set_option maxHeartbeats 4000000 in
theorem same_any {B C : Nat → Prop} {w : World} {ao bo : Option Addr} {n cap m bcap : Nat} {L M : List FV} (h : SF B w ao n cap L) (h2 : SF C w bo m bcap M) :
    Calls Tryz.prog 36 #[.slice ao n cap, .slice bo m bcap] w fun e w' => e = .returned (.bool (sameF L M)) ∧ ∃ k, w' = w.drewN k := by
  have hl := h.len
  have hl2 := h2.len
  have hlt := h.lt
  have H := Lib.hid h
  have H2 := Lib.hid h2
  clear h h2
  by_cases hnm : n = m
  · subst hnm
    have HL := Lib.hid hl
    have HM := Lib.hid hl2
    clear hl hl2
    go_enter Tryz.func36, Tryz.ntmps36
    go_wp2
    go_loopw [5] (fun i wr => ∃ k : Nat, i = .int .i64 k ∧ k ≤ n ∧ Hid (L.take k = M.take k) ∧ ∃ q, Hid (wr = w.drewN q)) (fun i _ => n - (intOf i).toNat)
    case atStart => exact ⟨0, rfl, Nat.zero_le _, rfl, 0, rfl⟩
    case round =>
      obtain ⟨k, rfl, hk, HT, q, HQ⟩ := hrel
      by_cases hkn : k < n
      · have hkl : k < L.length := by rw [← HL.out]; exact hkn
        have hkm : k < M.length := by rw [← HM.out]; exact hkn
        have h1 : SF B wr ao n cap L := by rw [HQ.out]; exact H.out.below (below_drewN w q)
        have h2 : SF C wr bo n bcap M := by rw [HQ.out]; exact H2.out.below (below_drewN w q)
        obtain ⟨b, off, rfl, _, f1, w1⟩ := h1.at_ hkl
        obtain ⟨b2, off2, rfl, _, f2, w2⟩ := h2.at_ hkm
        have HE1 := Lib.hid (List.take_succ_eq_append_getElem hkl)
        have HE2 := Lib.hid (List.take_succ_eq_append_getElem hkm)
        have HN : Hid (L[k] ≠ M[k] → L ≠ M) := fun hne e => by subst e; exact hne rfl
        generalize L[k] = p at *
        generalize M[k] = r at *
        have c10 := f1.c0
        have c12 := f1.c2
        have c20 := f2.c0
        have c22 := f2.c2
        obtain ⟨o1, k1, c11, s1⟩ := f1.c1
        obtain ⟨o2, k2, c21, s2⟩ := f2.c1
        have cv1 : ∀ q, (convert 36 9 (.slice o1 p.data.length k1)).run Tryz.prog (wr.drewN q) = .ok (.string ⟨p.data.toArray⟩) (wr.drewN q) := fun q => (s1.drewN q).conv
        have cv2 : ∀ q, (convert 36 9 (.slice o2 r.data.length k2)).run Tryz.prog (wr.drewN q) = .ok (.string ⟨r.data.toArray⟩) (wr.drewN q) := fun q => (s2.drewN q).conv
        clear s1 s2 f1 f2 w1 w2 h1 h2
        obtain ⟨p1, p2, p3⟩ := p
        obtain ⟨r1, r2, r3⟩ := r
        simp only at c10 c11 c12 c20 c21 c22 cv1 cv2
        by_cases e1 : p1 = r1
        · subst e1
          by_cases e2 : p3 = r3
          · subst e2
            by_cases e3 : p2 = r2
            · subst e3
              have HT2 : Hid (L.take (k + 1) = M.take (k + 1)) := by rw [HE1.out, HE2.out, HT.out]; exact rfl
              clear HN HE1 HE2
              go_wp2
              go_quiet (fail)
              go_wp2
              go_roundw
              case rel => exact ⟨k + 1, by go_num, by omega, HT2, q + nq, by rw [HQ.out, drewN_add]; exact rfl⟩
              case measure => simp [intOf]; omega
            · have hb : (p2 == r2) = false := by rw [beq_eq_false_iff_ne]; exact e3
              have HNE := Lib.hid (sameF_no (HN.out (fun e => by injection e with _ e _; exact e3 e)))
              clear e3 HN HE1 HE2
              go_wp2
              go_quiet (fail)
              go_wp2
              go_ret
              rw [HNE.out]
              exact ⟨rfl, q + nq, by rw [HQ.out, drewN_add]⟩
          · have hb : (p3 != r3) = true := by rw [bne_iff_ne]; exact e2
            have HNE := Lib.hid (sameF_no (HN.out (fun e => by injection e with _ _ e; exact e2 e)))
            clear e2 HN HE1 HE2
            go_wp2
            go_quiet (fail)
            go_wp2
            go_ret
            rw [HNE.out]
            exact ⟨rfl, q + nq, by rw [HQ.out, drewN_add]⟩
        · have hb : (p1 == r1) = false := by rw [beq_eq_false_iff_ne]; exact e1
          have HNE := Lib.hid (sameF_no (HN.out (fun e => by injection e with e _ _; exact e1 e)))
          clear e1 HN HE1 HE2
          go_wp2
          go_quiet (fail)
          go_wp2
          go_ret
          rw [HNE.out]
          exact ⟨rfl, q + nq, by rw [HQ.out, drewN_add]⟩
      · obtain rfl : k = n := by omega
        have hE : L = M := by
          have := HT.out
          rw [List.take_of_length_le (by rw [← HL.out]; omega), List.take_of_length_le (by rw [← HM.out]; omega)] at this
          exact this
        subst hE
        go_wp2
        go_ret
        exact ⟨by rw [sameF_self]; rfl, q, HQ.out⟩
  · have hne : sameF L M = false := sameF_no (fun e => by subst e; omega)
    rw [hne]
    have ht : (((n : Int)) != (m : Int)) = true := by rw [bne_iff_ne]; omega
    clear hl hl2 hnm
    go_enter Tryz.func36, Tryz.ntmps36
    go_wp2
    go_ret
    exact ⟨rfl, 0, rfl⟩
end Go.Proofs.YtkilkhnoldfhcaaGreatDoor
