/- One segment of a log with one record more; what makeRoom leaves, in plain terms. Conditions: none of its own. wal: Append. Conditions: segments and records as a disk has room for. raceref.Dec, raceref7.Name. Conditions: strings of any length; numbers of an int. -/
import Derived.Test.YtkilkhnoldfhcaaGreatDoorLd
import Derived.Test.YtkilkhnoldfhcaaGreatDoorFrD
namespace Go.Proofs.YtkilkhnoldfhcaaGreatDoor
open Go.RowKit
theorem fr_sb {C : Nat → Prop} {w : World} {ao : Option Addr} {n cap : Nat} {l : List UInt8} (h : SB C w ao n cap l) : Fr.SB w.heap.size w ao n cap l := by
  refine ⟨h.len, h.le, h.max, h.nil, ?_⟩
  rcases h.cells with h0 | ⟨b, off, rfl, _, hc⟩
  · exact .inl h0
  · by_cases hz : n = 0
    · exact .inl hz
    · exact .inr ⟨b, off, rfl, World.block_lt_of_cell? _ _ (hc 0 (by omega)), hc⟩
theorem cellsG_set (dir : Nm) : ∀ {gs : List Sg} {us : List Value} {k : Nat} (h1 : k < gs.length) (_ : k < us.length) (g : Sg) (u : Value), g.first = gs[k].first →
    ((cellsG dir gs us).set (k * 4 + 2) u).set (k * 4 + 3) (.int .i64 (g.size : Int)) = cellsG dir (gs.set k g) (us.set k u)
  | x :: gs, y :: us, 0, _, _, g, u, hf => by
    have hf' : g.first = x.first := hf
    show _ = cellG dir g u ++ cellsG dir gs us
    unfold cellG
    rw [hf']
    rfl
  | x :: gs, y :: us, k + 1, h1, h2, g, u, hf => by
    have ih := cellsG_set dir (gs := gs) (us := us) (k := k) (by simpa using h1) (by simpa using h2) g u (by simpa using hf)
    show _ = cellG dir x y ++ cellsG dir (gs.set k g) (us.set k u)
    rw [← ih, show (k + 1) * 4 + 2 = k * 4 + 2 + 4 by omega, show (k + 1) * 4 + 3 = k * 4 + 3 + 4 by omega]
    rfl
section
variable {C D S : Nat → Prop} {w w' w1 : World} {v u : Value} {us : List Value} {dir : Nm} {gs : List Sg} {a dp : Nat} {lg : Lg}
theorem RO.keptR {L : List (List UInt8)} {xs ws : List Value} {t : Value} {n : Nat} (h : RO C w u xs L) (ht : w.ownsRow 0 36 1 t n ws) (hne : ∀ k, u.ownBlock = some k → t.ownBlock ≠ some k) (hg : w.grownBy w' t.ownBlock) : RO C w' u xs L := by
  refine ⟨h.own.kept hg ?_, h.len, fun i h1 h2 => (h.at_ i h1 h2).kept hg ?_, h.row, h.rows⟩
  · cases e : u.ownBlock with
    | none => exact .inl rfl
    | some j => exact .inr (fun e2 => hne j e e2.symm)
  · cases e : xs[i].ownBlock with
    | none => exact .inl rfl
    | some j => exact .inr (fun e2 => own_apart (h.at_ i h1 h2) ht (by decide) j e e2.symm)
theorem RO.away {L : List (List UInt8)} {xs : List Value} {g : Nat} (h : RO C w u xs L) {cur : Array Value} {e : TypeId} (hg : w.heap[g]? = some (.cells cur e (0, 0))) (h1 : e ≠ 36) (h2 : e ≠ 5) (ht : Tn (· = g) w w') : RO C w' u xs L := by
  have hx : ∀ {f s m : Nat} {t : Value} {ys : List Value}, w.ownsRow 0 f s t m ys → e ≠ f → ∀ k, t.ownBlock = some k → ¬ k = g := by
    intro f s m t ys ho hf k hk e2
    obtain ⟨c2, hc⟩ := own_at ho hk
    rw [e2, hg] at hc
    simp at hc
    exact hf hc.2
  exact ⟨own_tn h.own ht (hx h.own h1), h.len, fun i h3 h4 => own_tn (h.at_ i h3 h4) ht (hx (h.at_ i h3 h4) h2), h.row, h.rows⟩
/-- One segment's records and size are laid anew. -/
theorem LAt.push {g cap k : Nat} {u3 : Value} {xs : List Value} {sg : Sg} (h : LAt C w a dp lg (.slice (some ⟨g, 0, none⟩) lg.segs.length cap) us) (hk : k < lg.segs.length) (hku : k < us.length) (hg : w.grownBy w1 us[k].ownBlock) (hro : RO D w1 u3 xs sg.recs) (hf : sg.first = lg.segs[k].first)
    (hu : u3.ownBlock = us[k].ownBlock ∨ u3.ownBlock = some w.heap.size) (hC : ∀ j, C j → D j) (hlt : ∀ j, D j → j < w1.heap.size) :
    LAt D ((w1.setCell ⟨g, k * 4 + 2, none⟩ u3).setCell ⟨g, k * 4 + 3, none⟩ (.int .i64 (sg.size : Int))) a dp { lg with segs := lg.segs.set k sg } (.slice (some ⟨g, 0, none⟩) (lg.segs.set k sg).length cap) (us.set k u3) := by
  obtain ⟨xk, hrk⟩ := h.go.recs k hku hk
  have hka : (Value.slice (some ⟨g, 0, none⟩) lg.segs.length cap).ownBlock = none ∨ (Value.slice (some ⟨g, 0, none⟩) lg.segs.length cap).ownBlock ≠ us[k].ownBlock := .inr (fun e => own_apart h.go.own hrk.own (by decide) g rfl e.symm)
  have ho1 := h.go.own.kept hg hka
  obtain ⟨ho2, hg2⟩ := ho1.stored (k * 4 + 2) u3
  obtain ⟨ho3, hg3⟩ := ho2.stored (k * 4 + 3) (.int .i64 (sg.size : Int))
  rw [cellsG_set lg.dir hk hku sg u3 hf] at ho3
  obtain ⟨cur, hcur⟩ := own_at ho1 (k := g) rfl
  have ht : Tn (· = g) w1 ((w1.setCell ⟨g, k * 4 + 2, none⟩ u3).setCell ⟨g, k * 4 + 3, none⟩ (.int .i64 (sg.size : Int))) := tn_set (tn_set (Tn.refl _ _) _) _
  have hag : ¬ a = g := fun e => by
    obtain ⟨c2, hc⟩ := own_at h.go.own (k := g) rfl
    rw [← e, h.box] at hc
    simp at hc
  have hau : ¬ some a = us[k].ownBlock := fun e => by
    obtain ⟨c2, hc⟩ := own_at hrk.own e.symm
    exact ne_of_type h.box hc (by decide) rfl
  have hbx : w1.heap[a]? = some (.cells #[ptr dp, nmv lg.dir, .int .i64 (lg.full : Int), .slice (some ⟨g, 0, none⟩) lg.segs.length cap, .int .i64 (lg.safe : Int)] 104 (0, 0)) := (hg.block a (h.lt a h.ca) hau).trans h.box
  refine ⟨?_, ⟨by rw [List.length_set]; exact ho3, by rw [List.length_set, List.length_set]; exact h.go.len, fun i h1 h2 => ?_, fun j hj => hC j (h.go.row j hj), fun i j h1 h2 hij b hb => ?_⟩, hC a h.ca, fun j hj => by simpa using hlt j hj⟩
  · have := ht.at_ hbx hag
    rw [List.length_set]
    exact this
  · by_cases hi : k = i
    · subst hi
      rw [List.getElem_set_self, List.getElem_set_self]
      exact ⟨xs, hro.away hcur (by decide) (by decide) ht⟩
    · rw [List.getElem_set_ne hi, List.getElem_set_ne hi]
      have h1' : i < us.length := by simpa using h1
      obtain ⟨xi, hri⟩ := h.go.recs i h1' (by simpa using h2)
      have h3 := hri.keptR hrk.own (fun b hb e => h.go.dis i k h1' hku (fun e => hi e.symm) b hb e) hg
      exact ⟨xi, (h3.away hcur (by decide) (by decide) ht).mono fun j _ hj => hC j hj⟩
  · have hold : ∀ (i : Nat) (h1 : i < us.length) (b : Nat), us[i].ownBlock = some b → b < w.heap.size := fun i h1 b hb => by
      obtain ⟨xi, hri⟩ := h.go.recs i h1 (by rw [← h.go.len]; exact h1)
      exact (hri.own.lt b hb).2
    have h1' : i < us.length := by simpa using h1
    have h2' : j < us.length := by simpa using h2
    by_cases hi : k = i
    · subst hi
      rw [List.getElem_set_self] at hb
      rw [List.getElem_set_ne hij]
      intro e
      rcases hu with e2 | e2
      · rw [e2] at hb
        exact h.go.dis k j hku h2' hij b hb e
      · rw [e2] at hb
        cases hb
        exact Nat.lt_irrefl _ (hold j h2' _ e)
    · rw [List.getElem_set_ne hi] at hb
      by_cases hj : k = j
      · subst hj
        rw [List.getElem_set_self]
        intro e
        rcases hu with e2 | e2
        · rw [e2] at e
          exact h.go.dis i k h1' hku hij b hb e
        · rw [e2] at e
          cases e
          exact Nat.lt_irrefl _ (hold i h1' _ hb)
      · rw [List.getElem_set_ne hj]
        exact h.go.dis i j h1' h2' hij b hb
theorem oper_append_rec {ops : Array Oper} {o : Oper} {a : Act} {w : World} {K' : Act → World → Prop} {Q : Exit → Act → World → Prop} {X : Prop} (hw : Region.wanted o (yielded ops a.tmps) = true) (s x : Operand)
    (ho : o.op = .call { callee := .builtin .append, args := #[s, x], argTypes := #[57, 57] })
    {v : Value} {n : Nat} {us : List Value} {u : Value} {b : Nat} (hs : a.eval s = v) (hown : w.ownsRow 0 36 1 v n us) (hx : a.eval x = .slice (some ⟨b, 0, none⟩) 1 1) (hm : w.heap[b]? = some (.cells #[u] 36 (0, 0)))
    (h1 : u.oneCell' = true) (hroom : n ≤ 1000000)
    (h : ∀ v' w', w'.ownsRow 0 36 1 v' (n + 1) (us ++ [u]) → w.grownBy w' v.ownBlock → (v'.ownBlock = v.ownBlock ∨ v'.ownBlock = some w.heap.size) → K' (a.put o.dst v') w') : if Region.wanted o (yielded ops a.tmps) = true then o.wp Tryz.prog a w K' Q else X := by
  obtain ⟨i0, hi, hz0, hz1, hz2⟩ := info_parts info36
  obtain ⟨v', w', hr, h2, h3, _, h5⟩ := run_append_own_at (P := Tryz.prog) w 0 57 o.type 36 i0 (.slice none 0 0) 1 24 under57 hi hz0 hz1 hz2 rfl (by decide) v n us hown ⟨b, 0, none⟩ 1 1 [u] rfl (fun j y hy => by
    rw [Addr.add_lit, Nat.zero_add]
    simp only [World.cell?, hm]
    simpa using hy) (fun y hy => by
    have e : y = u := by simpa using hy
    rw [e]; exact h1) (by unfold maxLen; omega) (by omega) (Nat.zero_le _)
  rw [if_pos hw]
  unfold Oper.wp execOp
  simp only [ho, resolve, invoke, builtin, Sem.run_bind, Sem.run_pure, Result.andThen_ok, List.map_toArray, List.map_cons, List.map_nil, hs, hx, hr]
  exact h v' w' h2 h3 h5
end
section
variable {lg : Lg} {d : Dk} {n : Nat}
theorem begin_ok (h : LOk lg) (hfew : lg.segs.length ≤ 999999) (hn : 1 ≤ n ∧ n ≤ 99999999) : LOk (lg.begin d n).1 ∧ (lg.begin d n).2.1.done ≤ d.done + 1 ∧ ((lg.begin d n).1 = lg ∨ (lg.begin d n).1 = { lg with segs := lg.segs ++ [⟨n, []⟩] }) := by
  have hc : (d.create (segN lg.dir n)).1.done ≤ d.done + 1 := by
    have h1 := done_step d ⟨1, 0, segN lg.dir n, [], [], []⟩
    unfold Dk.step at h1
    simpa using h1
  unfold Lg.begin
  split
  · refine ⟨⟨by simp, by simp; omega, h.dir, fun g hg => ?_, fun g hg => ?_⟩, hc, .inr rfl⟩
    · rcases List.mem_append.1 hg with hg | hg
      · exact h.num g hg
      · obtain rfl : g = ⟨n, []⟩ := by simpa using hg
        exact hn
    · rcases List.mem_append.1 hg with hg | hg
      · exact h.room g hg
      · obtain rfl : g = ⟨n, []⟩ := by simpa using hg
        exact Nat.zero_le _
  · exact ⟨h, hc, .inl rfl⟩
theorem last_snoc (g : Sg) : ({ lg with segs := lg.segs ++ [g] } : Lg).last = g := by
  unfold Lg.last
  simp
theorem room_ok (h : LOk lg) (hfew : lg.segs.length ≤ 999999) (hn : lg.next ≤ 99999999) : LOk (lg.room d).1 ∧ (lg.room d).2.1.done ≤ d.done + 2 ∧ (lg.room d).1.dir = lg.dir ∧ ((lg.room d).2.2 = 0 → (lg.room d).1.next = lg.next) ∧ (lg.room d).1.full = lg.full := by
  unfold Lg.room
  obtain ⟨s1, s2, s3, s4⟩ := sync_ok' h d
  have s5 := sync_done lg d
  have s6 : (lg.sync d).1.full = lg.full := by rcases sync_lg lg d with e | ⟨s, e⟩ <;> rw [e]
  split
  · exact ⟨h, by simp, rfl, fun _ => rfl, rfl⟩
  · split
    · obtain ⟨b1, b2, b3⟩ := begin_ok (d := (lg.sync d).2.1) s1 (by rw [s4]; exact hfew) ⟨h.next.1, hn⟩
      refine ⟨b1, by omega, ?_, fun h0 => ?_, ?_⟩
      · rcases b3 with e | e <;> rw [e] <;> exact s3
      · rcases b3 with e | e
        · rw [e]; exact s2
        · rw [e]
          unfold Lg.next
          rw [last_snoc]
          rfl
      · rcases b3 with e | e <;> rw [e] <;> exact s6
    · exact ⟨s1, by omega, s3, fun _ => s2, s6⟩
end
end Go.Proofs.YtkilkhnoldfhcaaGreatDoor
namespace Go.Proofs.YtkilkhnoldfhcaaGreatDoor
open Go.RowKit
def Lg.put (lg : Lg) (p : List UInt8) : Lg := { lg with segs := lg.segs.set (lg.segs.length - 1) ⟨lg.last.first, lg.last.recs ++ [p]⟩ }
/-- Behind makeRoom: the frame is written. -/
def Lg.write (r : Lg × Dk × Nat) (n : Nat) (p : List UInt8) : Lg × Dk × Nat × Nat :=
  if (r.2.1.append (segN r.1.dir r.1.last.first) (Fr.frameV p)).2 = 0 then (r.1.put p, (r.2.1.append (segN r.1.dir r.1.last.first) (Fr.frameV p)).1, n, 0) else (r.1, (r.2.1.append (segN r.1.dir r.1.last.first) (Fr.frameV p)).1, 0, (r.2.1.append (segN r.1.dir r.1.last.first) (Fr.frameV p)).2)
def Lg.append (lg : Lg) (d : Dk) (p : List UInt8) : Lg × Dk × Nat × Nat :=
  if 262144 < p.length then (lg, d, 0, 2) else if 99999999 < lg.next then (lg, d, 0, 1) else if (lg.room d).2.2 = 0 then Lg.write (lg.room d) lg.next p else ((lg.room d).1, (lg.room d).2.1, 0, (lg.room d).2.2)
def Logged2 (C S : Nat → Prop) (B : Nat) (w : World) (a dp : Nat) (r : Lg × Dk × Nat × Nat) (e : Ending) (w' : World) : Prop :=
  e = .returned (.tuple #[.int .i64 (r.2.2.1 : Int), .int .i64 (r.2.2.2 : Int)]) ∧ Stood C S B w a dp r.1 r.2.1 w'
theorem size_snoc (g : Sg) (p : List UInt8) : (⟨g.first, g.recs ++ [p]⟩ : Sg).size = g.size + (p.length + 12) := by unfold Sg.size; simp
section
variable {B : Nat} {w w' w1 : World} {a dp : Nat} {C S E : Nat → Prop} {lg lg' : Lg} {d d' : Dk} {p : List UInt8} {po : Option Addr} {pc : Nat}
theorem LAt.us_eq {g cap k : Nat} {us : List Value} {x : Value} (h : LAt C w a dp lg (.slice (some ⟨g, 0, none⟩) lg.segs.length cap) us) (hk : k < lg.segs.length) (hku : k < us.length) (hc : w.cell? ⟨g, k * 4 + 2, none⟩ = some x) : us[k] = x := by
  obtain ⟨g0, g1, g2, g3⟩ := cellsG_get lg.dir hk hku
  have h9 := h.go.own.cellAt (k * 4 + 2) (by omega)
  rw [h9, g2] at hc
  exact Option.some.inj hc
theorem app_end {g cap bc : Nat} {bo : Option Addr} {us xs : List Value} {v8 : Value} {z : Int} {w5 wb w8 : World} (hW : WL B w5 a C lg dp S d) (hB5 : B ≤ w5.heap.size) (hBE : Below w5.drew.heap.size w5.drew wb)
    (hl : LAt C wb a dp lg (.slice (some ⟨g, 0, none⟩) lg.segs.length cap) us) (c2 : wb.cell? ⟨g, (lg.segs.length - 1) * 4 + 2, none⟩ = some (.slice bo lg.last.recs.length bc)) (hk : LOk lg)
    (hg : wb.grownBy w8 (Value.slice bo lg.last.recs.length bc).ownBlock) (hro : RO (fun k => C k ∨ w5.drew.heap.size ≤ k) w8 v8 xs (lg.last.recs ++ [p]))
    (hl9 : v8.ownBlock = (Value.slice bo lg.last.recs.length bc).ownBlock ∨ v8.ownBlock = some wb.heap.size) (hz : z = ((lg.last.size + (p.length + 12) : Nat) : Int)) :
    WL B ((w8.setCell ⟨g, (lg.segs.length - 1) * 4 + 2, none⟩ v8).setCell ⟨g, (lg.segs.length - 1) * 4 + 3, none⟩ (.int .i64 z)) a (Gw C w5 ((w8.setCell ⟨g, (lg.segs.length - 1) * 4 + 2, none⟩ v8).setCell ⟨g, (lg.segs.length - 1) * 4 + 3, none⟩ (.int .i64 z))) (lg.put p) dp S d ∧
      Tn C w5 ((w8.setCell ⟨g, (lg.segs.length - 1) * 4 + 2, none⟩ v8).setCell ⟨g, (lg.segs.length - 1) * 4 + 3, none⟩ (.int .i64 z)) := by
  obtain ⟨hm, hkl, hlast⟩ := hk.last
  have hku : lg.segs.length - 1 < us.length := by rw [hl.go.len]; exact hkl
  have hue := hl.us_eq hkl hku c2
  obtain ⟨xk, hrk⟩ := hl.go.recs _ hku hkl
  have hb5 : Below w5.heap.size w5 wb := (Below.refl _ w5).drew.trans hBE
  have h8 : w5.heap.size ≤ w8.heap.size := Nat.le_trans hb5.size hg.size
  have hCg : C g := hl.go.row g rfl
  have ht : Tn C w5 ((w8.setCell ⟨g, (lg.segs.length - 1) * 4 + 2, none⟩ v8).setCell ⟨g, (lg.segs.length - 1) * 4 + 3, none⟩ (.int .i64 z)) :=
    (((Tn.of_below hb5).grown hg (fun k e _ => hrk.row k (by rw [hue]; exact e))).setCell (fun _ => hCg) _).setCell (fun _ => hCg) _
  rw [← hue] at hg hl9
  have hp := hl.push (D := Gw C w5 w8) (sg := ⟨lg.last.first, lg.last.recs ++ [p]⟩) hkl hku hg (hro.mono fun k hlt hk => hk.elim .inl fun e => .inr ⟨e, hlt⟩) (by rw [hlast]) hl9 (fun k hk => .inl hk) (fun k hk => Gw.size h8 hW.clt hk)
  rw [size_snoc lg.last p, ← hz] at hp
  refine ⟨hW.log hB5 ⟨_, _, hp.grow (fun k hk => hk.elim .inl fun e => .inr ⟨e.1, by simpa using e.2⟩) (fun k hk => Gw.size ht.size hW.clt hk)⟩ ht, ht⟩
set_option maxRecDepth 100000 in
set_option maxHeartbeats 8000000 in
theorem lappend_any (h : WL B w a C lg dp S d) (hB : B ≤ w.heap.size) (hT : Tabs w) (h6 : 6 ≤ B) (hk : LOk lg) (hfew : lg.segs.length ≤ 999999) (hd : d.done ≤ 1000000000) (hp : SB E w po p.length pc p) (hE : ∀ k, E k → k < w.heap.size ∧ ¬ C k ∧ ¬ S k) :
    Calls Tryz.prog 25 #[ptr a, .slice po p.length pc] w (Logged2 C S B w a dp (lg.append d p)) := by
  have HW := Lib.hid h
  have HT := Lib.hid hT
  have HBW := Lib.hid hB
  have HK := Lib.hid hk
  have HDN := Lib.hid hd
  have HP := Lib.hid hp
  have HE := Lib.hid hE
  have hlt := hp.lt
  by_cases hl : 262144 < p.length
  · have HA : Hid (lg.append d p = (lg, d, 0, 2)) := by show _ = _; unfold Lg.append; rw [if_pos hl]
    clear h hB hT hk hd hp hE hfew
    go_enter Tryz.func25, Tryz.ntmps25
    go_wp2_with (go_at_call 67; (refine (Fr.frame_long (fr_sb HP.out) hl).mono ?_); rintro e w1 ⟨rfl, rfl⟩)
    go_ret2
    rw [HA.out]
    exact ⟨rfl, _, _, HW.out, went_below (Below.refl _ _)⟩
  have hpl2 : p.length ≤ 262144 := by omega
  by_cases hn : 99999999 < lg.next
  · have HA : Hid (lg.append d p = (lg, d, 0, 1)) := by show _ = _; unfold Lg.append; rw [if_neg hl, if_pos hn]
    have hn1 : (99999999 : Int) < (lg.next : Int) := by omega
    clear h hB hT hk hd hp hE hl hn hfew
    go_enter Tryz.func25, Tryz.ntmps25
    go_wp2_with (first
      | (go_at_call 67; (refine (Fr.frame_any (fr_sb HP.out) hpl2).mono ?_); rintro e w1 ⟨vb, rfl, ho1, hb1⟩; obtain ⟨fo, fc, rfl⟩ := own_slice ho1; have HO1 := Lib.hid ho1; have HB1 := Lib.hid hb1; clear ho1 hb1)
      | (go_at_call 29; (obtain ⟨v0, us0, hl0⟩ := (HW.out.below HB1.out).lk; refine (next_any hl0 HK.out).mono ?_); rintro e w2 ⟨rfl, hb2⟩; have HB2 := Lib.hid hb2; clear hb2 hl0))
    go_ret2
    rw [HA.out]
    exact ⟨rfl, _, _, (HW.out.below HB1.out).below HB2.out, (went_below HB1.out).trans (went_below HB2.out)⟩
  have hnx : lg.next ≤ 99999999 := by omega
  have hn1 : ¬ (99999999 : Int) < (lg.next : Int) := by omega
  obtain ⟨hk3, hd3, hdir3, hnx3, _⟩ := room_ok (d := d) hk hfew hnx
  have HAP : Hid (lg.append d p = if (lg.room d).2.2 = 0 then Lg.write (lg.room d) lg.next p else ((lg.room d).1, (lg.room d).2.1, 0, (lg.room d).2.2)) := by show _ = _; unfold Lg.append; rw [if_neg hl, if_neg hn]
  have HNB := Lib.hid hk.next
  clear h hB hT hk hp hE hl hn hfew
  generalize hr : lg.room d = r at *
  have HR := Lib.hid hr
  have HK3 := Lib.hid hk3
  have HD3 := Lib.hid hd3
  have HFLE : Hid ((Fr.frameV p).length = p.length + 12) := Fr.frame_length p
  clear hr hdir3 hd
  by_cases h0 : r.2.2 = 0
  · have hb0 : (((r.2.2 : Nat) : Int) != 0) = false := by rw [h0]; rfl
    have HR0 := Lib.hid h0
    have HN3 := Lib.hid (hnx3 h0)
    clear h0 hnx3 hk3 hd3
    go_enter Tryz.func25, Tryz.ntmps25
    go_upto_region 10 with (first
      | (go_at_call 67; (refine (Fr.frame_any (fr_sb HP.out) hpl2).mono ?_); rintro e w1 ⟨vb, rfl, ho1, hb1⟩; obtain ⟨fo, fc, rfl⟩ := own_slice ho1; have HO1 := Lib.hid ho1; have HB1 := Lib.hid hb1; clear ho1 hb1)
      | (go_at_call 29; (obtain ⟨v0, us0, hl0⟩ := (HW.out.below HB1.out).lk; refine (next_any hl0 HK.out).mono ?_); rintro e w2 ⟨rfl, hb2⟩; have HB2 := Lib.hid hb2; clear hb2 hl0)
      | (go_at_call 68; (refine (room_any ((HW.out.below HB1.out).below HB2.out) (Nat.le_trans HBW.out (Nat.le_trans HB1.out.size HB2.out.size)) ((HT.out.below HB1.out).below HB2.out) h6 HK.out hnx HDN.out).mono ?_); rw [HR.out]; rintro e w3 ⟨rfl, C5, S5, hw3, ht3⟩; have HW3 := Lib.hid hw3; have HG3 := Lib.hid ht3; clear hw3 ht3))
    obtain ⟨hm, hkl, hlast⟩ := HK3.out.last
    obtain ⟨v3, us3, hl3⟩ := HW3.out.lk
    obtain ⟨g, cap, bo, bc, rfl, hCg, _, hfz, c1, _, c2, c3, xs, hro⟩ := hl3.seg hkl
    rw [hlast] at c1 c2 c3 hro
    have HL3 := Lib.hid hl3
    have HCG := Lib.hid hCg
    have HCA := Lib.hid hl3.ca
    have HRO := Lib.hid hro
    have HG1 := Lib.hid c1
    have HG2 := Lib.hid c2
    have HG3c := Lib.hid c3
    have HB3 : Hid (B ≤ w3.heap.size) := Nat.le_trans HBW.out (Nat.le_trans HB1.out.size (Nat.le_trans HB2.out.size HG3.out.tn.size))
    clear hm hlast hl3 hCg hfz c1 c2 c3 hro
    go_upto_region 11 with (go_at_call 69; (refine (last_any HL3.out HK3.out).mono ?_); rintro e w4 ⟨rfl, q, hq⟩; have HB34 := Lib.hid (below_of_drew hq); clear hq)
    have HB34d := Lib.hid (HB34.out.trans ((Below.refl _ w4).drew.mono HB34.out.size))
    have HW4 := Lib.hid (HW3.out.below HB34d.out)
    have HB4 : Hid (B ≤ w4.drew.heap.size) := Nat.le_trans HB3.out HB34d.out.size
    have c0 : w4.drew.cell? ⟨a, 0, none⟩ = some (ptr dp) := (HL3.out.below HB34d.out).c0
    have c1 : w4.drew.cell? ⟨g, (r.1.segs.length - 1) * 4, none⟩ = some (nmv (segN r.1.dir r.1.last.first)) := (HB34d.out.cell (p := ⟨g, (r.1.segs.length - 1) * 4, none⟩) (HL3.out.lt g HCG.out)).trans HG1.out
    have HNM : Hid ((segN r.1.dir r.1.last.first).length ≤ maxLen) := Nat.le_trans HK3.out.name (by decide)
    have HDN4 : Hid (r.2.1.done < 9223372036854775807) := Nat.lt_of_le_of_lt HD3.out (Nat.lt_of_le_of_lt (Nat.add_le_add_right HDN.out 2) (by decide))
    have HFL : Hid ((Fr.frameV p).length ≤ 70000000000000) := by show _ ≤ _; have hfl := HFLE.out; omega
    have hfb1 : SB (fun k => w.heap.size ≤ k ∧ k < w1.heap.size) w1 fo (Fr.frameV p).length fc (Fr.frameV p) := (own_sb HO1.out).mono fun k _ hk => HO1.out.lt k hk
    have HFB4 : Hid (SB (fun k => w.heap.size ≤ k ∧ k < w1.heap.size) w4.drew fo (Fr.frameV p).length fc (Fr.frameV p)) := ((hfb1.below HB2.out).tn HG3.out.tn (fun k hk e => by
      rcases e with e | e
      · have := HW.out.clt k e; omega
      · have := HW.out.dk.lt k e; omega)).below HB34d.out
    obtain ⟨q, hq⟩ : ∃ q, r.2.1.append (segN r.1.dir r.1.last.first) (Fr.frameV p) = q := ⟨_, rfl⟩
    have HQ := Lib.hid hq
    have HWR : Hid (Lg.write r lg.next p = if q.2 = 0 then (r.1.put p, q.1, lg.next, 0) else (r.1, q.1, 0, q.2)) := by show _ = _; unfold Lg.write; rw [hq]
    clear hq hfb1
    go_region_held (fun w' => w'.cell? ⟨a, 0, none⟩ = some (ptr dp) ∧ w'.cell? ⟨g, (r.1.segs.length - 1) * 4, none⟩ = some (nmv (segN r.1.dir r.1.last.first))) (first | exact ⟨c0, c1⟩ | exact ⟨s0, s1⟩) (first
      | (go_at_call 70; (refine (dk_append HW4.out.dk HNM.out HDN4.out HFB4.out HFL.out).mono ?_); rintro e w5 ⟨rfl, hd5, ht5⟩; rw [HQ.out] at hd5 ⊢; have HW5 := Lib.hid (HW4.out.disk HB4.out hd5 ht5); have HT5 := Lib.hid ht5; have s0 := ht5.cell c0 (HW4.out.cs _ HCA.out); have s1 := ht5.cell c1 (HW4.out.cs _ HCG.out); clear hd5 ht5))
    have HWE : Hid (Went (fun k => C k ∨ S k) w w5 (fun k => C5 k ∨ Gw S5 w4.drew w5 k)) := ((((went_below HB1.out).trans (went_below HB2.out)).trans HG3.out).trans (went_below HB34d.out)).trans (went_disk HT5.out)
    clear c0 c1 s0 s1
    by_cases hq0 : q.2 = 0
    · have hb1 : (((q.2 : Nat) : Int) != 0) = false := by rw [hq0]; rfl
      have HQ0 := Lib.hid hq0
      clear hq0
      go_upto_region 14 with (fail)
      have HL5 := Lib.hid ((HL3.out.below HB34d.out).tn HT5.out HW4.out.cs)
      have HW5' := HW5
      have HB56 : Hid (Below w5.heap.size w5 w5.drew) := (Below.refl _ w5).drew
      have HL6 := Lib.hid (HL5.out.below HB56.out)
      have HW6 := Lib.hid (HW5.out.below HB56.out)
      have HRO6 := Lib.hid (((HRO.out.below HB34d.out).tn HT5.out HW4.out.cs).below HB56.out)
      have c2 : w5.drew.cell? ⟨g, (r.1.segs.length - 1) * 4 + 2, none⟩ = some (.slice bo r.1.last.recs.length bc) := ((HB34d.out.cell (p := ⟨g, (r.1.segs.length - 1) * 4 + 2, none⟩) (HL3.out.lt g HCG.out)).trans HG2.out) |> fun e => HT5.out.cell e (HW4.out.cs _ HCG.out)
      have HBC3 : Hid (∀ w', Below w5.drew.heap.size w5.drew w' → w'.cell? ⟨g, (r.1.segs.length - 1) * 4 + 3, none⟩ = some (.int .i64 (r.1.last.size : Int))) := fun w' hb => (hb.cell (p := ⟨g, (r.1.segs.length - 1) * 4 + 3, none⟩) (HL5.out.lt g HCG.out)).trans (HT5.out.cell ((HB34d.out.cell (p := ⟨g, (r.1.segs.length - 1) * 4 + 3, none⟩) (HL3.out.lt g HCG.out)).trans HG3c.out) (HW4.out.cs _ HCG.out))
      have hwr : IntKind.i64.wrap ((r.1.last.size : Int) + ((Fr.frameV p).length : Int)) = ((r.1.last.size + (p.length + 12) : Nat) : Int) := by have e := HFLE.out; have e2 := HK3.out.room _ HK3.out.last.1; rw [e, wrap_in (by omega)]; omega
      have HZ3 : Hid (w5.drew.frozen? ⟨g, (r.1.segs.length - 1) * 4 + 3, none⟩ = false) := by
        obtain ⟨cur, hc⟩ := own_at HL5.out.go.own (k := g) rfl
        exact frozen_zero hc
      have HC2 : Hid (∀ w', Below w5.drew.heap.size w5.drew w' → w'.cell? ⟨g, (r.1.segs.length - 1) * 4 + 2, none⟩ = some (.slice bo r.1.last.recs.length bc)) := fun w' hb => (hb.cell (p := ⟨g, (r.1.segs.length - 1) * 4 + 2, none⟩) (HL5.out.lt g HCG.out)).trans c2
      have hz2 : w5.drew.frozen? ⟨g, (r.1.segs.length - 1) * 4 + 2, none⟩ = false := by
        obtain ⟨cur, hc⟩ := own_at HL5.out.go.own (k := g) rfl
        exact frozen_zero hc
      have HGS : Hid (g < w5.drew.heap.size) := HL5.out.lt g HCG.out
      have hp5 : SB E w5 po p.length pc p := ((((HP.out.below HB1.out).below HB2.out).tn HG3.out.tn (fun k hk e => by
        exact e.elim (HE.out k hk).2.1 (HE.out k hk).2.2)).below HB34d.out).tn HT5.out (fun k hk e => (HG3.out.sub k (.inr e)).elim (fun e2 => e2.elim (HE.out k hk).2.1 (HE.out k hk).2.2) (fun e2 => by have := (HE.out k hk).1; have := HB1.out.size; have := HB2.out.size; omega))
      have HP6 : Hid (SB E w5.drew po p.length pc p) := hp5.below (Below.refl _ w5).drew
      clear hp5
      have hpl : p.length ≤ 140737488355328 := by omega
      have hrs := recs_size r.1.last
      have hrm := HK3.out.room _ HK3.out.last.1
      have hrl : r.1.last.recs.length ≤ 1000000 := by omega
      have HGR : Hid (¬ some g = (Value.slice bo r.1.last.recs.length bc).ownBlock) := fun e => by
        obtain ⟨c9, hc9⟩ := own_at HRO6.out.own e.symm
        obtain ⟨c8, hc8⟩ := own_at HL6.out.go.own (k := g) rfl
        rw [hc9] at hc8
        simp at hc8
      clear hrs hrm
      refine wp_region_held (S := (fun _ => True)) (by kernel_rfl) ?_
      change wpAnyH _ _ _ _ _ _ _ _ (World.drew _)
      refine wpAnyH_take (i := 0) (v := ?vh_0) rfl (by kernel_rfl) (by kernel_rfl) (by kernel_rfl) (fun _ _ _ h => h) (Or.inl ⟨by rfl, ?yh_0⟩) trivial ?rh_0
      case yh_0 => (intro W hSw; (try dsimp only at hSw); obtain _ := hSw; first | (go_simp; done) | (go_simp; with_reducible rfl))
      try go_simp
      refine wpAnyH_take (i := 1) (v := ?vh_1) rfl (by kernel_rfl) (by kernel_rfl) (by kernel_rfl) (fun _ _ _ h => h) (Or.inl ⟨by rfl, ?yh_1⟩) trivial ?rh_1
      case yh_1 => (intro W hSw; (try dsimp only at hSw); obtain _ := hSw; first | (go_simp; done) | (go_simp; with_reducible rfl))
      try go_simp
      refine wpAnyH_take (i := 2) (v := ?vh_2) rfl (by kernel_rfl) (by kernel_rfl) (by kernel_rfl) (fun _ _ _ h => h) (Or.inl ⟨by rfl, ?yh_2⟩) trivial ?rh_2
      case yh_2 => (intro W hSw; (try dsimp only at hSw); obtain _ := hSw; first | (go_simp; done) | (go_simp; with_reducible rfl))
      try go_simp
      refine wpAnyH_take (i := 3) (v := ?vh_3) rfl (by kernel_rfl) (by kernel_rfl) (by kernel_rfl) (fun _ _ _ h => h) (Or.inl ⟨by rfl, ?yh_3⟩) trivial ?rh_3
      case yh_3 => (intro W hSw; (try dsimp only at hSw); obtain _ := hSw; first | (go_simp; done) | (go_simp; with_reducible rfl))
      try go_simp
      refine wpAnyH_take (i := 5) (v := ?vh_5) rfl (by kernel_rfl) (by kernel_rfl) (by kernel_rfl) (fun _ _ _ h => h) (Or.inl ⟨by rfl, ?yh_5⟩) trivial ?rh_5
      case yh_5 => (intro W hSw; (try dsimp only at hSw); obtain _ := hSw; first | (go_simp; done) | (go_simp; with_reducible rfl))
      try go_simp
      refine wpAnyH_ready (rs := [4, 6]) (by kernel_rfl) (by simp) ?_
      refine AllReadyH.cons rfl (fun K hK => ?_) (AllReadyH.cons rfl (fun K hK => ?_) AllReadyH.nil)
      · go_simp
        refine hK.out _ _ trivial (fun _ => ?_)
        clear hK K
        try go_simp
        refine wpAnyH_ready (rs := [6]) (by kernel_rfl) (by simp) ?_
        refine AllReadyH.cons rfl (fun K hK => ?_) AllReadyH.nil
        go_simp
        (go_wp2_with (first | (go_at_call 57; (refine (clone_any HP6.out hpl).mono ?_); rintro e w7 ⟨v7, rfl, ho7, hb7⟩; obtain ⟨co, cc, rfl⟩ := own_slice ho7; have HO7 := Lib.hid ho7; have HB7 := Lib.hid hb7; have p2 := (hb7.cell (p := ⟨g, (r.1.segs.length - 1) * 4 + 2, none⟩) HGS.out).trans c2; clear ho7 hb7)))
        refine hK.out _ _ trivial (fun _ => ?_)
        clear hK K
        try go_simp
        refine wpAnyH_ready (rs := [7]) (by kernel_rfl) (by simp) ?_
        refine AllReadyH.cons rfl (fun K hK => ?_) AllReadyH.nil
        go_simp
        refine hK.out _ _ trivial (fun _ => ?_)
        clear hK K
        try go_simp
        have q2 := ((below1 w7 (.cells #[.slice co p.length cc] 36)).cell (p := ⟨g, (r.1.segs.length - 1) * 4 + 2, none⟩) (Nat.lt_of_lt_of_le HGS.out HB7.out.size)).trans p2
        refine wpAnyH_ready (rs := [8]) (by kernel_rfl) (by simp) ?_
        refine AllReadyH.cons rfl (fun K hK => ?_) AllReadyH.nil
        have HBE := Lib.hid (HB7.out.trans ((below1 w7 (.cells #[.slice co p.length cc] 36)).mono HB7.out.size))
        have hro8 := HRO6.out.below HBE.out
        refine oper_append_rec (wanted_none rfl _) (.tmp 48) (.tmp 51) rfl rfl (by exact hro8.own) rfl (heap_alloc_new w7 _) rfl hrl ?_
        intro v8 w8 ho8 hg8 hl8
        have hg9 : (w7.alloc (.cells #[.slice co p.length cc] 36)).grownBy w8 (Value.slice bo r.1.last.recs.length bc).ownBlock := hg8
        have hl9 : v8.ownBlock = (Value.slice bo r.1.last.recs.length bc).ownBlock ∨ v8.ownBlock = some (w7.alloc (.cells #[.slice co p.length cc] 36)).heap.size := hl8
        have hro9 := (hro8.mono (D := fun k => C5 k ∨ w5.drew.heap.size ≤ k) (fun k _ hk => .inl hk)).snoc (p := p) (u := .slice co p.length cc) hg9 ho8 hl9 (own_mono (own_below HO7.out (below1 w7 (.cells #[.slice co p.length cc] 36))) (Nat.zero_le _)) (fun k hk => .inr (HO7.out.lt k hk).1) (.inr HBE.out.size)
        have HRO9 := Lib.hid hro9
        have HG9 := Lib.hid hg9
        have HL9 := Lib.hid hl9
        have r2 := hg9.cell q2 HGR.out
        have fz2 := (World.frozen?_of_block (w := w7.alloc (.cells #[.slice co p.length cc] 36)) (a := ⟨g, (r.1.segs.length - 1) * 4 + 2, none⟩) (hg9.block g (Nat.lt_of_lt_of_le HGS.out HBE.out.size) HGR.out)).trans ((HBE.out.frozen (p := ⟨g, (r.1.segs.length - 1) * 4 + 2, none⟩) HGS.out).trans hz2)
        obtain ⟨o8, k8, rfl⟩ := own_slice ho8
        clear ho8 hg8 hl8 hg9 hl9 hro9 hro8 q2
        try go_simp
        refine hK.out _ _ trivial (fun _ => ?_)
        clear hK K
        try go_simp
        refine wpAnyH_take (i := 9) (v := ?vha_9) rfl (by kernel_rfl) (by kernel_rfl) (by kernel_rfl) (fun _ _ _ h => h) (Or.inl ⟨by rfl, ?yha_9⟩) trivial ?rha_9
        case yha_9 => (intro W hSw; (try dsimp only at hSw); obtain _ := hSw; first | (go_simp; done) | (go_simp; with_reducible rfl))
        try go_simp
        refine wpAnyH_take (i := 10) (v := ?vha_10) rfl (by kernel_rfl) (by kernel_rfl) (by kernel_rfl) (fun _ _ _ h => h) (Or.inl ⟨by rfl, ?yha_10⟩) trivial ?rha_10
        case yha_10 => (intro W hSw; (try dsimp only at hSw); obtain _ := hSw; first | (go_simp; done) | (go_simp; with_reducible rfl))
        try go_simp
        refine wpAnyH_ready (rs := [11]) (by kernel_rfl) (by simp) ?_
        refine AllReadyH.cons rfl (fun K hK => ?_) AllReadyH.nil
        go_simp
        refine hK.out _ _ trivial (fun _ => ?_)
        clear hK K
        try go_simp
        refine wpAnyH_done (by kernel_rfl) ?_ _
        have c3' : (w8.setCell ⟨g, (r.1.segs.length - 1) * 4 + 2, none⟩ (.slice o8 (r.1.last.recs.length + 1) k8)).cell? ⟨g, (r.1.segs.length - 1) * 4 + 3, none⟩ = some (.int .i64 (r.1.last.size : Int)) := (World.cell?_setCell_other w8 _ _ _ (fun e => by simp only [Addr.mk.injEq] at e; omega)).trans (HG9.out.cell (HBC3.out _ HBE.out) HGR.out)
        have fz3 : w8.frozen? ⟨g, (r.1.segs.length - 1) * 4 + 3, none⟩ = false := (World.frozen?_of_block (w := w7.alloc (.cells #[.slice co p.length cc] 36)) (a := ⟨g, (r.1.segs.length - 1) * 4 + 3, none⟩) (HG9.out.block g (Nat.lt_of_lt_of_le HGS.out HBE.out.size) HGR.out)).trans ((HBE.out.frozen (p := ⟨g, (r.1.segs.length - 1) * 4 + 3, none⟩) HGS.out).trans HZ3.out)
        clear c2 hz2 fz2 r2 hrl hpl
        go_wp2
        go_ret2
        obtain ⟨hw9, ht9⟩ := app_end (p := p) HW5.out (Nat.le_trans HB4.out (Nat.le_trans HT5.out.size (Nat.le_refl _))) HBE.out (HL6.out.below HBE.out) (HC2.out _ HBE.out) HK3.out HG9.out HRO9.out HL9.out (z := (r.1.last.size : Int) + ((p.length : Int) + 12)) (by omega)
        rw [HAP.out, if_pos HR0.out, HWR.out, if_pos HQ0.out]
        exact ⟨rfl, _, _, hw9, HWE.out.trans (went_log ht9)⟩
      · go_simp
        (go_wp2_with (first | (go_at_call 57; (refine (clone_any HP6.out hpl).mono ?_); rintro e w7 ⟨v7, rfl, ho7, hb7⟩; obtain ⟨co, cc, rfl⟩ := own_slice ho7; have HO7 := Lib.hid ho7; have HB7 := Lib.hid hb7; have p2 := (hb7.cell (p := ⟨g, (r.1.segs.length - 1) * 4 + 2, none⟩) HGS.out).trans c2; clear ho7 hb7)))
        refine hK.out _ _ trivial (fun _ => ?_)
        clear hK K
        try go_simp
        refine wpAnyH_ready (rs := [4, 7]) (by kernel_rfl) (by simp) ?_
        refine AllReadyH.cons rfl (fun K hK => ?_) (AllReadyH.cons rfl (fun K hK => ?_) AllReadyH.nil)
        · go_simp
          refine hK.out _ _ trivial (fun _ => ?_)
          clear hK K
          try go_simp
          refine wpAnyH_ready (rs := [7]) (by kernel_rfl) (by simp) ?_
          refine AllReadyH.cons rfl (fun K hK => ?_) AllReadyH.nil
          go_simp
          refine hK.out _ _ trivial (fun _ => ?_)
          clear hK K
          try go_simp
          have q2 := ((below1 w7 (.cells #[.slice co p.length cc] 36)).cell (p := ⟨g, (r.1.segs.length - 1) * 4 + 2, none⟩) (Nat.lt_of_lt_of_le HGS.out HB7.out.size)).trans p2
          refine wpAnyH_ready (rs := [8]) (by kernel_rfl) (by simp) ?_
          refine AllReadyH.cons rfl (fun K hK => ?_) AllReadyH.nil
          have HBE := Lib.hid (HB7.out.trans ((below1 w7 (.cells #[.slice co p.length cc] 36)).mono HB7.out.size))
          have hro8 := HRO6.out.below HBE.out
          refine oper_append_rec (wanted_none rfl _) (.tmp 48) (.tmp 51) rfl rfl (by exact hro8.own) rfl (heap_alloc_new w7 _) rfl hrl ?_
          intro v8 w8 ho8 hg8 hl8
          have hg9 : (w7.alloc (.cells #[.slice co p.length cc] 36)).grownBy w8 (Value.slice bo r.1.last.recs.length bc).ownBlock := hg8
          have hl9 : v8.ownBlock = (Value.slice bo r.1.last.recs.length bc).ownBlock ∨ v8.ownBlock = some (w7.alloc (.cells #[.slice co p.length cc] 36)).heap.size := hl8
          have hro9 := (hro8.mono (D := fun k => C5 k ∨ w5.drew.heap.size ≤ k) (fun k _ hk => .inl hk)).snoc (p := p) (u := .slice co p.length cc) hg9 ho8 hl9 (own_mono (own_below HO7.out (below1 w7 (.cells #[.slice co p.length cc] 36))) (Nat.zero_le _)) (fun k hk => .inr (HO7.out.lt k hk).1) (.inr HBE.out.size)
          have HRO9 := Lib.hid hro9
          have HG9 := Lib.hid hg9
          have HL9 := Lib.hid hl9
          have r2 := hg9.cell q2 HGR.out
          have fz2 := (World.frozen?_of_block (w := w7.alloc (.cells #[.slice co p.length cc] 36)) (a := ⟨g, (r.1.segs.length - 1) * 4 + 2, none⟩) (hg9.block g (Nat.lt_of_lt_of_le HGS.out HBE.out.size) HGR.out)).trans ((HBE.out.frozen (p := ⟨g, (r.1.segs.length - 1) * 4 + 2, none⟩) HGS.out).trans hz2)
          obtain ⟨o8, k8, rfl⟩ := own_slice ho8
          clear ho8 hg8 hl8 hg9 hl9 hro9 hro8 q2
          try go_simp
          refine hK.out _ _ trivial (fun _ => ?_)
          clear hK K
          try go_simp
          refine wpAnyH_take (i := 9) (v := ?vhb_9) rfl (by kernel_rfl) (by kernel_rfl) (by kernel_rfl) (fun _ _ _ h => h) (Or.inl ⟨by rfl, ?yhb_9⟩) trivial ?rhb_9
          case yhb_9 => (intro W hSw; (try dsimp only at hSw); obtain _ := hSw; first | (go_simp; done) | (go_simp; with_reducible rfl))
          try go_simp
          refine wpAnyH_take (i := 10) (v := ?vhb_10) rfl (by kernel_rfl) (by kernel_rfl) (by kernel_rfl) (fun _ _ _ h => h) (Or.inl ⟨by rfl, ?yhb_10⟩) trivial ?rhb_10
          case yhb_10 => (intro W hSw; (try dsimp only at hSw); obtain _ := hSw; first | (go_simp; done) | (go_simp; with_reducible rfl))
          try go_simp
          refine wpAnyH_ready (rs := [11]) (by kernel_rfl) (by simp) ?_
          refine AllReadyH.cons rfl (fun K hK => ?_) AllReadyH.nil
          go_simp
          refine hK.out _ _ trivial (fun _ => ?_)
          clear hK K
          try go_simp
          refine wpAnyH_done (by kernel_rfl) ?_ _
          have c3' : (w8.setCell ⟨g, (r.1.segs.length - 1) * 4 + 2, none⟩ (.slice o8 (r.1.last.recs.length + 1) k8)).cell? ⟨g, (r.1.segs.length - 1) * 4 + 3, none⟩ = some (.int .i64 (r.1.last.size : Int)) := (World.cell?_setCell_other w8 _ _ _ (fun e => by simp only [Addr.mk.injEq] at e; omega)).trans (HG9.out.cell (HBC3.out _ HBE.out) HGR.out)
          have fz3 : w8.frozen? ⟨g, (r.1.segs.length - 1) * 4 + 3, none⟩ = false := (World.frozen?_of_block (w := w7.alloc (.cells #[.slice co p.length cc] 36)) (a := ⟨g, (r.1.segs.length - 1) * 4 + 3, none⟩) (HG9.out.block g (Nat.lt_of_lt_of_le HGS.out HBE.out.size) HGR.out)).trans ((HBE.out.frozen (p := ⟨g, (r.1.segs.length - 1) * 4 + 3, none⟩) HGS.out).trans HZ3.out)
          clear c2 hz2 fz2 r2 hrl hpl
          go_wp2
          go_ret2
          obtain ⟨hw9, ht9⟩ := app_end (p := p) HW5.out (Nat.le_trans HB4.out (Nat.le_trans HT5.out.size (Nat.le_refl _))) HBE.out (HL6.out.below HBE.out) (HC2.out _ HBE.out) HK3.out HG9.out HRO9.out HL9.out (z := (r.1.last.size : Int) + ((p.length : Int) + 12)) (by omega)
          rw [HAP.out, if_pos HR0.out, HWR.out, if_pos HQ0.out]
          exact ⟨rfl, _, _, hw9, HWE.out.trans (went_log ht9)⟩
        · go_simp
          refine hK.out _ _ trivial (fun _ => ?_)
          clear hK K
          try go_simp
          have q2 := ((below1 w7 (.cells #[.slice co p.length cc] 36)).cell (p := ⟨g, (r.1.segs.length - 1) * 4 + 2, none⟩) (Nat.lt_of_lt_of_le HGS.out HB7.out.size)).trans p2
          refine wpAnyH_ready (rs := [4]) (by kernel_rfl) (by simp) ?_
          refine AllReadyH.cons rfl (fun K hK => ?_) AllReadyH.nil
          go_simp
          refine hK.out _ _ trivial (fun _ => ?_)
          clear hK K
          try go_simp
          refine wpAnyH_ready (rs := [8]) (by kernel_rfl) (by simp) ?_
          refine AllReadyH.cons rfl (fun K hK => ?_) AllReadyH.nil
          have HBE := Lib.hid (HB7.out.trans ((below1 w7 (.cells #[.slice co p.length cc] 36)).mono HB7.out.size))
          have hro8 := HRO6.out.below HBE.out
          refine oper_append_rec (wanted_none rfl _) (.tmp 48) (.tmp 51) rfl rfl (by exact hro8.own) rfl (heap_alloc_new w7 _) rfl hrl ?_
          intro v8 w8 ho8 hg8 hl8
          have hg9 : (w7.alloc (.cells #[.slice co p.length cc] 36)).grownBy w8 (Value.slice bo r.1.last.recs.length bc).ownBlock := hg8
          have hl9 : v8.ownBlock = (Value.slice bo r.1.last.recs.length bc).ownBlock ∨ v8.ownBlock = some (w7.alloc (.cells #[.slice co p.length cc] 36)).heap.size := hl8
          have hro9 := (hro8.mono (D := fun k => C5 k ∨ w5.drew.heap.size ≤ k) (fun k _ hk => .inl hk)).snoc (p := p) (u := .slice co p.length cc) hg9 ho8 hl9 (own_mono (own_below HO7.out (below1 w7 (.cells #[.slice co p.length cc] 36))) (Nat.zero_le _)) (fun k hk => .inr (HO7.out.lt k hk).1) (.inr HBE.out.size)
          have HRO9 := Lib.hid hro9
          have HG9 := Lib.hid hg9
          have HL9 := Lib.hid hl9
          have r2 := hg9.cell q2 HGR.out
          have fz2 := (World.frozen?_of_block (w := w7.alloc (.cells #[.slice co p.length cc] 36)) (a := ⟨g, (r.1.segs.length - 1) * 4 + 2, none⟩) (hg9.block g (Nat.lt_of_lt_of_le HGS.out HBE.out.size) HGR.out)).trans ((HBE.out.frozen (p := ⟨g, (r.1.segs.length - 1) * 4 + 2, none⟩) HGS.out).trans hz2)
          obtain ⟨o8, k8, rfl⟩ := own_slice ho8
          clear ho8 hg8 hl8 hg9 hl9 hro9 hro8 q2
          try go_simp
          refine hK.out _ _ trivial (fun _ => ?_)
          clear hK K
          try go_simp
          refine wpAnyH_take (i := 9) (v := ?vhc_9) rfl (by kernel_rfl) (by kernel_rfl) (by kernel_rfl) (fun _ _ _ h => h) (Or.inl ⟨by rfl, ?yhc_9⟩) trivial ?rhc_9
          case yhc_9 => (intro W hSw; (try dsimp only at hSw); obtain _ := hSw; first | (go_simp; done) | (go_simp; with_reducible rfl))
          try go_simp
          refine wpAnyH_take (i := 10) (v := ?vhc_10) rfl (by kernel_rfl) (by kernel_rfl) (by kernel_rfl) (fun _ _ _ h => h) (Or.inl ⟨by rfl, ?yhc_10⟩) trivial ?rhc_10
          case yhc_10 => (intro W hSw; (try dsimp only at hSw); obtain _ := hSw; first | (go_simp; done) | (go_simp; with_reducible rfl))
          try go_simp
          refine wpAnyH_ready (rs := [11]) (by kernel_rfl) (by simp) ?_
          refine AllReadyH.cons rfl (fun K hK => ?_) AllReadyH.nil
          go_simp
          refine hK.out _ _ trivial (fun _ => ?_)
          clear hK K
          try go_simp
          refine wpAnyH_done (by kernel_rfl) ?_ _
          have c3' : (w8.setCell ⟨g, (r.1.segs.length - 1) * 4 + 2, none⟩ (.slice o8 (r.1.last.recs.length + 1) k8)).cell? ⟨g, (r.1.segs.length - 1) * 4 + 3, none⟩ = some (.int .i64 (r.1.last.size : Int)) := (World.cell?_setCell_other w8 _ _ _ (fun e => by simp only [Addr.mk.injEq] at e; omega)).trans (HG9.out.cell (HBC3.out _ HBE.out) HGR.out)
          have fz3 : w8.frozen? ⟨g, (r.1.segs.length - 1) * 4 + 3, none⟩ = false := (World.frozen?_of_block (w := w7.alloc (.cells #[.slice co p.length cc] 36)) (a := ⟨g, (r.1.segs.length - 1) * 4 + 3, none⟩) (HG9.out.block g (Nat.lt_of_lt_of_le HGS.out HBE.out.size) HGR.out)).trans ((HBE.out.frozen (p := ⟨g, (r.1.segs.length - 1) * 4 + 3, none⟩) HGS.out).trans HZ3.out)
          clear c2 hz2 fz2 r2 hrl hpl
          go_wp2
          go_ret2
          obtain ⟨hw9, ht9⟩ := app_end (p := p) HW5.out (Nat.le_trans HB4.out (Nat.le_trans HT5.out.size (Nat.le_refl _))) HBE.out (HL6.out.below HBE.out) (HC2.out _ HBE.out) HK3.out HG9.out HRO9.out HL9.out (z := (r.1.last.size : Int) + ((p.length : Int) + 12)) (by omega)
          rw [HAP.out, if_pos HR0.out, HWR.out, if_pos HQ0.out]
          exact ⟨rfl, _, _, hw9, HWE.out.trans (went_log ht9)⟩
    · have hb1 : (((q.2 : Nat) : Int) != 0) = true := by simpa using hq0
      have HQ0 := Lib.hid hq0
      clear hq0
      go_wp2
      go_ret2
      rw [HAP.out, if_pos HR0.out, HWR.out, if_neg HQ0.out]
      exact ⟨rfl, _, _, HW5.out, HWE.out⟩
  · have hb0 : (((r.2.2 : Nat) : Int) != 0) = true := by simpa using h0
    have HR0 := Lib.hid h0
    clear h0 hnx3
    go_enter Tryz.func25, Tryz.ntmps25
    go_wp2_with (first
      | (go_at_call 67; (refine (Fr.frame_any (fr_sb HP.out) hpl2).mono ?_); rintro e w1 ⟨vb, rfl, ho1, hb1⟩; obtain ⟨fo, fc, rfl⟩ := own_slice ho1; have HO1 := Lib.hid ho1; have HB1 := Lib.hid hb1; clear ho1 hb1)
      | (go_at_call 29; (obtain ⟨v0, us0, hl0⟩ := (HW.out.below HB1.out).lk; refine (next_any hl0 HK.out).mono ?_); rintro e w2 ⟨rfl, hb2⟩; have HB2 := Lib.hid hb2; clear hb2 hl0)
      | (go_at_call 68; (refine (room_any ((HW.out.below HB1.out).below HB2.out) (Nat.le_trans HBW.out (Nat.le_trans HB1.out.size HB2.out.size)) ((HT.out.below HB1.out).below HB2.out) h6 HK.out hnx HDN.out).mono ?_); rw [HR.out]; rintro e w3 ⟨rfl, C5, S5, hw3, ht3⟩; have HW3 := Lib.hid hw3; have HG3 := Lib.hid ht3; clear hw3 ht3))
    go_ret2
    rw [HAP.out, if_neg HR0.out]
    exact ⟨rfl, _, _, HW3.out, ((went_below HB1.out).trans (went_below HB2.out)).trans HG3.out⟩
end
end Go.Proofs.YtkilkhnoldfhcaaGreatDoor
namespace Go.Proofs.YtkilkhnoldfhcaaGreatDoor
open Go.RowKit Go.Sort Go.Lib
section Dec
theorem nDig_le (u : Nat) (h : u < 18446744073709551616) : nDigits u ≤ 20 := by
  by_cases h0 : u = 0
  · subst h0; unfold nDigits; simp
  · have := Lib.numDigits_eq u (by omega) h; split at this <;> omega
theorem ba_append (a b : Array UInt8) : (⟨a⟩ : ByteArray) ++ ⟨b⟩ = ⟨a ++ b⟩ := ByteArray.ext (by simp)
theorem ret_s {s t : ByteArray} (h : s = t) : Ending.returned (.string s) = .returned (.string t) := by rw [h]
/-- The byte of a digit. -/
def chr (r : Nat) : UInt8 := UInt8.ofNat (48 + r)
def preD (j : Nat) : List UInt8 := bif decide (j = 0) then [] else decDigits j
theorem preD_0 : preD 0 = [] := rfl
theorem preD_pos {j : Nat} (h : j ≠ 0) : preD j = decDigits j := by simp [preD, h]
theorem preD_step {j : Nat} (h : j ≠ 0) (l : List UInt8) : preD (j / 10) ++ (chr (j % 10) :: l) = preD j ++ l := by
  unfold chr
  rw [preD_pos h]
  by_cases h2 : j < 10
  · have e : j / 10 = 0 := by omega
    have e2 : j % 10 = j := by omega
    rw [e, preD_0, e2, decDigits_one h2]; rfl
  · have e : j / 10 ≠ 0 := by omega
    conv => rhs; rw [decDigits, dif_neg h2]
    rw [preD_pos e]; simp
theorem run_byte (wr : World) (r : Nat) (h : r < 10) : (convert 36 9 (.slice (some ⟨wr.heap.size, 0, none⟩) 1 1)).run Tryz.prog (wr.alloc (.cells #[.int .u8 (48 + (r : Int))] 5)) = .ok (.string ⟨#[chr r]⟩) (wr.alloc (.cells #[.int .u8 (48 + (r : Int))] 5)) := by
  refine run_convert_bytes_back (P := Tryz.prog) (wr.alloc (.cells #[.int .u8 (48 + (r : Int))] 5)) 36 9 5 ⟨wr.heap.size, 0, none⟩ 1 [chr r] Tryz.underlying36 Tryz.underlying5 Tryz.underlying9 (fun j hj => ?_)
  have : j = 0 := by simpa using hj
  subst this
  rw [Lib.add_plain, World.cell?_alloc_new]
  simp [chr]
  omega
theorem ba_cons (c : UInt8) (l : List UInt8) : (⟨#[c]⟩ : ByteArray) ++ ⟨l.toArray⟩ = ⟨(c :: l).toArray⟩ := by
  rw [ba_append]; simp
theorem pre_end {u : Nat} {l : List UInt8} (h : preD 0 ++ l = decDigits u) : (⟨l.toArray⟩ : ByteArray) = ⟨(decDigits u).toArray⟩ := by
  rw [preD_0, List.nil_append] at h
  rw [h]
theorem meas_toNat {x : Int} {q j : Nat} (h : x = (q : Int)) (h2 : q < j) : x.toNat < ((j : Nat) : Int).toNat := by rw [h]; omega
theorem pre_len {j u : Nat} {l : List UInt8} (h : preD j ++ l = decDigits u) (hu : u < 4611686018427387904) : l.length ≤ 20 := by
  have := congrArg List.length h
  rw [List.length_append, decDigits_length] at this
  have := nDig_le u (by omega)
  omega

set_option maxRecDepth 100000 in
set_option maxHeartbeats 800000 in
theorem dec_pos (u : Nat) (hu0 : 0 < u) (hu : u < 4611686018427387904) (w : World) :
    Calls Tryz.prog 64 #[.int .i64 (u : Int)] w fun e w' => e = .returned (.string ⟨(decDigits u).toArray⟩) ∧ Below w.heap.size w w' := by
  have hz : ((u : Int) == 0) = false := by simp; omega
  have hs : decide ((u : Int) < 0) = false := by simp
  have HU := Lib.hid hu; clear hu
  have HU0 := Lib.hid hu0; clear hu0
  go_enter Tryz.func64, Tryz.ntmps64
  go_wp2
  go_loopw [3, 4] (fun s k wr => ∃ (j : Nat) (l : List UInt8), s = .string ⟨l.toArray⟩ ∧ k = .int .i64 (j : Int) ∧ preD j ++ l = decDigits u ∧ j ≤ u ∧ Below w.heap.size w wr) (fun _ k _ => (RowKit.intOf k).natAbs)
  case atStart => exact ⟨u, [], rfl, rfl, by rw [preD_pos (by have := HU0.out; omega)]; simp, Nat.le_refl _, Below.refl _ _⟩
  case round =>
    obtain ⟨j, l, rfl, rfl, hp, hj, hb⟩ := hrel
    have hl1 : ¬ 9223372036854775807 < 1 + l.length := by have := pre_len hp HU.out; omega
    have HP := Lib.hid hp; clear hp
    have HB := Lib.hid hb; clear hb
    by_cases h0 : j = 0
    · subst h0
      clear hj hl1
      go_wp2
      go_ret
      exact ⟨ret_s (pre_end HP.out), HB.out⟩
    · have h1 : ((j : Int) != 0) = true := by simp; omega
      have h2 : (j : Int).tmod 10 = ((j % 10 : Nat) : Int) := by rw [Int.tmod_eq_emod_of_nonneg (by omega)]; rfl
      have H3 : Hid (wrap64 ((j : Int) / 10) = ((j / 10 : Nat) : Int)) := by unfold Hid wrap64; have := HU.out; omega
      have h4 : j % 10 < 10 := by omega
      have HS := Lib.hid (preD_step h0 l)
      have HQ : Hid (j / 10 ≤ u) := by unfold Hid; omega
      have HL : Hid (j / 10 < j) := by unfold Hid; omega
      have hcv := run_byte wr (j % 10) h4
      clear h0 hj
      generalize j % 10 = r at *
      generalize j / 10 = q at *
      go_wp2
      go_roundw
      case rel => exact ⟨q, chr r :: l, congrArg Value.string (ba_cons _ _), congrArg (Value.int .i64) H3.out, by rw [HS.out]; exact HP.out, HQ.out, HB.out.alloc HB.out.size _⟩
      case measure => rw [H3.out]; have h1 := HL.out; simp [RowKit.intOf]; omega
end Dec
theorem pad_len (t : Nm) (j : Nat) : (repeatL [48] j ++ t).length = j + t.length := by
  rw [List.length_append, repeatL_length]; simp
theorem pad_step (t : Nm) (j : Nat) : (48 : UInt8) :: (repeatL [48] j ++ t) = repeatL [48] (j + 1) ++ t := rfl
set_option maxRecDepth 100000 in
set_option maxHeartbeats 2000000 in
theorem rwname_any (w : World) (dir : Nm) (hd : dir.length ≤ maxLen) (n : Int) (hn1 : -9223372036854775808 ≤ n) (hn2 : n ≤ 9223372036854775807) :
    Calls Tryz.prog 22 #[nmv dir, .int .i64 n] w fun e w' => e = .returned (.tuple #[nmv (nameV dir n).1, .int .i64 ((nameV dir n).2 : Nat)]) ∧ Below w.heap.size w w' := by
  unfold maxLen at hd
  by_cases h0 : dir = []
  · have e : nameV dir n = ([], 10) := by unfold nameV; rw [if_pos (.inl h0)]
    rw [e]
    subst h0
    clear e
    go_enter Tryz.func22, Tryz.ntmps22
    go_wp2
    go_ret2
    exact ⟨rfl, Below.refl _ _⟩
  have hl0 : ¬ (dir.length : Int) < 1 := by
    have : dir.length ≠ 0 := fun e => h0 (List.length_eq_zero_iff.1 e)
    omega
  have hd0 : decide ((dir.length : Int) < 1) = false := decide_eq_false hl0
  by_cases h11 : 11 < dir.length
  · have e : nameV dir n = ([], 10) := by unfold nameV; rw [if_pos (.inr h11)]
    rw [e]
    have h12 : (11 : Int) < (dir.length : Int) := by omega
    clear e h0 hl0
    go_enter Tryz.func22, Tryz.ntmps22
    go_wp2
    go_ret2
    exact ⟨rfl, Below.refl _ _⟩
  have hd11 : decide ((11 : Int) < (dir.length : Int)) = false := decide_eq_false (by omega)
  by_cases hr : n < 1 ∨ 99999999 < n
  · have e : nameV dir n = ([], 1) := by unfold nameV; rw [if_neg (by rintro (h | h); exact h0 h; exact h11 h), if_pos hr]
    rw [e]
    by_cases hn0 : n < 1
    · clear e h0 hr hl0 h11
      go_enter Tryz.func22, Tryz.ntmps22
      go_wp2
      go_ret2
      exact ⟨rfl, Below.refl _ _⟩
    · have hn9 : 99999999 < n := by omega
      have hdn : decide (n < 1) = false := decide_eq_false hn0
      clear e h0 hr hl0 h11
      go_enter Tryz.func22, Tryz.ntmps22
      go_wp2
      go_ret2
      exact ⟨rfl, Below.refl _ _⟩
  · have e : nameV dir n = (segN dir n.toNat, 0) := by unfold nameV; rw [if_neg (by rintro (h | h); exact h0 h; exact h11 h), if_neg hr]
    rw [e]
    obtain ⟨m, rfl⟩ : ∃ m : Nat, n = (m : Int) := ⟨n.toNat, by omega⟩
    rw [Int.toNat_natCast]
    have hm : m ≤ 99999999 := by omega
    have hm0 : 0 < m := by omega
    have hdn : decide ((m : Int) < 1) = false := decide_eq_false (by omega)
    have hdm : decide ((99999999 : Int) < (m : Int)) = false := decide_eq_false (by omega)
    have HT8 := Lib.hid (digits_le hm)
    have HS : Hid (segN dir m = dir ++ 46 :: (repeatL [48] (8 - (decDigits m).length) ++ decDigits m)) := by show _ = _; unfold segN num8; rfl
    have HD11 : Hid (dir.length ≤ 11) := by show _ ≤ _; omega
    have HM := Lib.hid hm
    have HM0 := Lib.hid hm0
    clear e h0 hr hl0 h11 hm hm0 hn1 hn2
    go_enter Tryz.func22, Tryz.ntmps22
    go_wp2_with (go_at_call 64; (refine (dec_pos m HM0.out (by have := HM.out; omega) w).mono ?_); rintro e w1 ⟨rfl, hb⟩; have HB1 := Lib.hid hb; clear hb)
    generalize ht : decDigits m = t at *
    clear ht
    go_loopw [6] (fun s wr => ∃ j : Nat, s = .string ⟨(repeatL [48] j ++ t).toArray⟩ ∧ j ≤ 8 - t.length ∧ wr = w1) (fun s _ => match s with | .string b => 8 - b.size | _ => 0)
    case atStart => exact ⟨0, rfl, Nat.zero_le _, rfl⟩
    case round =>
      obtain ⟨j, rfl, hj, rfl⟩ := hrel
      have hlen := pad_len t j
      have HST := Lib.hid (pad_step t j)
      by_cases hjn : j = 8 - t.length
      · have h8 : ¬ ((repeatL [48] j ++ t).length : Int) < 8 := by rw [hlen]; have := HT8.out; omega
        have hcat : ¬ 9223372036854775807 < dir.length + 1 + (repeatL [48] j ++ t).length := by rw [hlen]; have := HT8.out; have := HD11.out; omega
        have HJ := Lib.hid hjn
        clear hlen hj hjn
        generalize hz : repeatL [48] j ++ t = z at *
        have HZ := Lib.hid hz
        clear hz
        go_wp2
        go_ret2
        rw [HS.out, ← HJ.out, HZ.out]
        exact ⟨congrArg (fun b => Ending.returned (.tuple #[.string b, .int .i64 0])) (by rw [ba_append, ba_append]; simp), HB1.out⟩
      · have h8 : ((repeatL [48] j ++ t).length : Int) < 8 := by rw [hlen]; have := HT8.out; omega
        have hcat : ¬ 9223372036854775807 < 1 + (repeatL [48] j ++ t).length := by omega
        have HJ : Hid (j + 1 ≤ 8 - t.length) := by show _ ≤ _; omega
        clear hlen hj hjn
        generalize hz : repeatL [48] j ++ t = z at *
        clear hz
        go_wp2
        go_roundw
        case rel => exact ⟨j + 1, congrArg Value.string (by rw [ba_append, ← HST.out]; simp), HJ.out, by trivial⟩
        case measure =>
          show 8 - ((⟨#[48]⟩ : ByteArray) ++ ⟨z.toArray⟩).size < 8 - z.toArray.size
          rw [ba_append]
          show 8 - (#[48] ++ z.toArray).size < 8 - z.toArray.size
          simp only [Array.size_append, List.size_toArray] at *
          simp
          omega
end Go.Proofs.YtkilkhnoldfhcaaGreatDoor
