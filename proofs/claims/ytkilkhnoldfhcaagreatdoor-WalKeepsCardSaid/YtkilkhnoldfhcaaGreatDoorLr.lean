/- (*wal.Log).start over any load; what Open answers, in plain terms. Conditions: a disk as it lies. -/
import Derived.Test.YtkilkhnoldfhcaaGreatDoorLq
import Derived.Test.YtkilkhnoldfhcaaGreatDoorFrE
namespace Go.Proofs.YtkilkhnoldfhcaaGreatDoor
open Go.RowKit
/-- A segment as it is read off the disk. -/
def ldSeg (dir : Nm) (d : Dk) (g : Sg) : Sg := ⟨g.first, (Fr.scanV (d.read (segN dir g.first)).1).1⟩
def ldTorn (dir : Nm) (d : Dk) (g : Sg) : Bool := decide ((Fr.scanV (d.read (segN dir g.first)).1).2 < (d.read (segN dir g.first)).1.length)
/-- Do the segments hang together? All but the last are whole, and the next begins where they end. -/
def ldOk (dir : Nm) (d : Dk) : List Sg → Bool
  | [] => true
  | [_] => true
  | g :: g2 :: r => !ldTorn dir d g && decide ((ldSeg dir d g).next = g2.first) && ldOk dir d (g2 :: r)
def ok3 (r : Lg × Dk × Nat) : Option Lg × Dk × Nat := (if r.2.2 = 0 then some r.1 else none, r.2.1, r.2.2)
def Lg.load (lg : Lg) (d : Dk) : Option Lg × Dk × Nat :=
  if ldOk lg.dir d lg.segs = false then (none, d, 13) else
  if ldTorn lg.dir d lg.last = false then ok3 (Lg.sync { lg with segs := lg.segs.map (ldSeg lg.dir d) } d) else
  if (d.cut (segN lg.dir lg.last.first) ((Fr.scanV (d.read (segN lg.dir lg.last.first)).1).2 : Int)).2 = 0 then ok3 (Lg.sync { lg with segs := lg.segs.map (ldSeg lg.dir d) } (d.cut (segN lg.dir lg.last.first) ((Fr.scanV (d.read (segN lg.dir lg.last.first)).1).2 : Int)).1)
  else (none, (d.cut (segN lg.dir lg.last.first) ((Fr.scanV (d.read (segN lg.dir lg.last.first)).1).2 : Int)).1, (d.cut (segN lg.dir lg.last.first) ((Fr.scanV (d.read (segN lg.dir lg.last.first)).1).2 : Int)).2)
def Lg.start (lg : Lg) (d : Dk) : Option Lg × Dk × Nat :=
  if found lg.dir (names d.f) = [] then ok3 ({ lg with segs := [] }.begin d 1) else Lg.load { lg with segs := found lg.dir (names d.f) } d
def openL (dir : Nm) (full : Int) (d : Dk) : Option Lg × Dk × Nat :=
  if dir = [] ∨ 11 < dir.length then (none, d, 10) else if full < 64 ∨ 262144 < full then (none, d, 1) else if d.off then (none, d, 12) else Lg.start ⟨dir, full.toNat, [], 0⟩ d
/-- What start answers, and how log and disk stand. -/
def Started (C S : Nat → Prop) (B : Nat) (w : World) (a dp : Nat) (r : Option Lg × Dk × Nat) (e : Ending) (w' : World) : Prop :=
  e = .returned (.int .i64 (r.2.2 : Int)) ∧ match r.1 with
    | some lg => r.2.2 = 0 ∧ Stood C S B w a dp lg r.2.1 w'
    | none => r.2.2 ≠ 0 ∧ ∃ S', DK S' w' dp r.2.1 ∧ (∀ k, S' k → B ≤ k) ∧ Went (fun k => C k ∨ S k) w w' S'
section
variable {B : Nat} {w w' w1 : World} {a dp : Nat} {C S : Nat → Prop} {lg lg' : Lg} {d d' : Dk}
theorem started_ok3 {r : Lg × Dk × Nat} {e : Ending} (h : Logged C S B w a dp r e w') : Started C S B w a dp (ok3 r) e w' := by
  obtain ⟨h1, h2⟩ := h
  refine ⟨h1, ?_⟩
  unfold ok3
  by_cases h0 : r.2.2 = 0
  · rw [if_pos h0]
    exact ⟨h0, h2⟩
  · rw [if_neg h0]
    obtain ⟨C', S', hw, ht⟩ := h2
    exact ⟨h0, S', hw.dk, hw.sb, ht.tn, fun k hk => ht.sub k (.inr hk)⟩
/-- What start answers of a later world. -/
theorem Started.back {C0 S0 : Nat → Prop} {w0 : World} {r : Option Lg × Dk × Nat} {e : Ending} (h : Started C S B w a dp r e w') (ht : Went (fun k => C0 k ∨ S0 k) w0 w (fun k => C k ∨ S k)) : Started C0 S0 B w0 a dp r e w' := by
  obtain ⟨h1, h2⟩ := h
  refine ⟨h1, ?_⟩
  revert h2
  cases r.1 with
  | none =>
    rintro ⟨h0, S', hd, hs, hg⟩
    exact ⟨h0, S', hd, hs, ht.trans hg⟩
  | some lg =>
    rintro ⟨h0, C', S', hw, hg⟩
    exact ⟨h0, C', S', hw, ht.trans hg⟩
set_option maxRecDepth 100000 in
set_option maxHeartbeats 4000000 in
theorem start_any (h : WL B w a C lg dp S d) (hB : B ≤ w.heap.size) (hT : Tabs w) (h6 : 6 ≤ B) (hdir : 1 ≤ lg.dir.length ∧ lg.dir.length ≤ 11) (hfew : (found lg.dir (names d.f)).length ≤ 1000000) (hd : d.done < 9223372036854775807)
    (hld : found lg.dir (names d.f) ≠ [] → ∀ (w1 : World) (C1 : Nat → Prop), WL B w1 a C1 { lg with segs := found lg.dir (names d.f) } dp S d → B ≤ w1.heap.size → Tabs w1 → Calls Tryz.prog 105 #[ptr a] w1 (Started C1 S B w1 a dp (Lg.load { lg with segs := found lg.dir (names d.f) } d))) :
    Calls Tryz.prog 66 #[ptr a] w (Started C S B w a dp (lg.start d)) := by
  obtain ⟨v, us, hl⟩ := h.lk
  obtain ⟨m, ρ, δ, hdk⟩ := h.dk
  have hne : lg.dir ≠ [] := fun e => by rw [e] at hdir; simp at hdir
  have HFD := Lib.hid (find_any hdk hT hl.c0 hl.c1 hne hdir.2)
  have HST : Hid (lg.start d = if found lg.dir (names d.f) = [] then ok3 ({ lg with segs := [] }.begin d 1) else Lg.load { lg with segs := found lg.dir (names d.f) } d) := rfl
  have HW := Lib.hid h
  have HT := Lib.hid hT
  have HBW := Lib.hid hB
  have HL := Lib.hid hl
  have HDN := Lib.hid hd
  have HDR := Lib.hid hdir
  have HLD := Lib.hid hld
  have HFW := Lib.hid hfew
  clear h hB hT hl hd hdir hld hdk hne hfew
  -- behind find the row is stored
  have key : ∀ (w1 : World) (v1 : Value) (us1 : List Value), GO (fun k => w.heap.size ≤ k) w1 v1 lg.dir (found lg.dir (names d.f)) us1 → Below w.heap.size w w1 →
      WL B (w1.setCell ⟨a, 3, none⟩ v1) a (Gw C w (w1.setCell ⟨a, 3, none⟩ v1)) { lg with segs := found lg.dir (names d.f) } dp S d ∧ Went (fun k => C k ∨ S k) w (w1.setCell ⟨a, 3, none⟩ v1) (fun k => Gw C w (w1.setCell ⟨a, 3, none⟩ v1) k ∨ S k) := by
    intro w1 v1 us1 hgo hb
    have hl1 := HL.out.below hb
    have hl5 := lat_rows (D := Gw C w w1) (lg := lg) hl1.box (hgo.mono2 (fun k h1 h2 => .inr ⟨h2, h1⟩)) (.inl hl1.ca) (fun k hk => Gw.size hb.size HL.out.lt hk)
    have hzz : ∀ u, (w1.setCell ⟨a, 3, none⟩ u).heap.size = w1.heap.size := fun u => by simp
    have ht4 : Tn C w (w1.setCell ⟨a, 3, none⟩ v1) := (Tn.of_below (S := C) hb).setCell (fun _ => HL.out.ca) v1
    exact ⟨HW.out.log HBW.out ⟨_, _, hl5.grow (D := Gw C w (w1.setCell ⟨a, 3, none⟩ v1)) (fun k hk => hk.elim .inl (fun e => .inr ⟨e.1, by rw [hzz]; exact e.2⟩)) (fun k hk => Gw.size ht4.size HL.out.lt hk)⟩ ht4, went_log ht4⟩
  have HKEY := Lib.hid key
  clear key
  have c3 := HL.out.c3
  have hfz : ∀ w1, Below w.heap.size w w1 → w1.frozen? ⟨a, 3, none⟩ = false := fun w1 hb => by simp [World.frozen?, (HL.out.below hb).box]
  have HFZ := Lib.hid hfz
  clear hfz
  have HTB := Lib.hid (fun (w2 : World) (V : Nat → Prop) (hw : Went (fun k => C k ∨ S k) w w2 V) => (⟨HT.out.tn hw.tn (fun k hk => Nat.le_trans h6 (hk.elim (HW.out.cb k) (HW.out.sb k))), Nat.le_trans HBW.out hw.tn.size⟩ : Tabs w2 ∧ B ≤ w2.heap.size))
  generalize hF : found lg.dir (names d.f) = F at *
  by_cases h0 : F = []
  · subst h0
    have HFE := Lib.hid hF
    clear hF
    go_enter Tryz.func66, Tryz.ntmps66
    go_wp2_with (first
      | (go_at_call 103; (refine HFD.out.mono ?_); rintro e w1 ⟨v1, us1, rfl, hgo, hb⟩; have HK := Lib.hid (HKEY.out w1 v1 us1 hgo hb); obtain ⟨vo, vc, rfl⟩ := own_slice hgo.own; have hz := HFZ.out w1 hb; have c3 := (HL.out.below hb).c3; have HTB2 := Lib.hid (HTB.out _ _ HK.out.2); clear hgo hb)
      | (go_at_call 104; (refine (begin_any HK.out.1 HTB2.out.2 HTB2.out.1 HDR.out (Nat.zero_le _) 1 ⟨Nat.le_refl _, by decide⟩ HDN.out).mono ?_); rintro e w3 he; have HE := Lib.hid ((started_ok3 he).back HK.out.2); obtain ⟨rfl, _⟩ := he))
    go_ret
    rw [HST.out, if_pos trivial]
    exact HE.out
  · have hF0 : ((F.length : Int) == 0) = false := by
      have : F.length ≠ 0 := fun e => h0 (List.eq_nil_of_length_eq_zero e)
      simpa using this
    have HN0 := Lib.hid h0
    clear h0
    go_enter Tryz.func66, Tryz.ntmps66
    go_wp2_with (first
      | (go_at_call 103; (refine HFD.out.mono ?_); rintro e w1 ⟨v1, us1, rfl, hgo, hb⟩; have HK := Lib.hid (HKEY.out w1 v1 us1 hgo hb); obtain ⟨vo, vc, rfl⟩ := own_slice hgo.own; have hz := HFZ.out w1 hb; have c3 := (HL.out.below hb).c3; have HTB2 := Lib.hid (HTB.out _ _ HK.out.2); clear hgo hb)
      | (go_at_call 105; (refine (HLD.out HN0.out _ _ HK.out.1 HTB2.out.2 HTB2.out.1).mono ?_); rintro e w3 he; have HE := Lib.hid (he.back HK.out.2); obtain ⟨rfl, _⟩ := he))
    go_ret
    rw [HST.out, if_neg HN0.out]
    exact HE.out
end
end Go.Proofs.YtkilkhnoldfhcaaGreatDoor
