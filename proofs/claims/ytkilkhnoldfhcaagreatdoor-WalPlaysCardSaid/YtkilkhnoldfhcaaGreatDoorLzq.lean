/- wal's log and the document's, side by side, in memory and in plain terms. Conditions: disks as they keep to. What each operation makes of wal's part, and of the document's. Conditions: logs and disks as a play keeps to. What wal's log and the document's tell: First, Next, Safe, Read, From. Conditions: logs as a play keeps to. -/
import Derived.Test.YtkilkhnoldfhcaaGreatDoorLzo
import Derived.Test.YtkilkhnoldfhcaaGreatDoorLzl
import Derived.Test.YtkilkhnoldfhcaaGreatDoorLzm
namespace Go.Proofs.YtkilkhnoldfhcaaGreatDoor
open Go.RowKit
/-- wal's part: the log, if there is one, and its disk. -/
def LP (B : Nat) (w : World) (v : Value) (dp : Nat) (o : Option Lg) (d : Dk) (U : Nat → Prop) : Prop :=
  match o with
  | some lg => ∃ a C S, v = ptr a ∧ WL B w a C lg dp S d ∧ U = fun k => C k ∨ S k
  | none => v = .pointer none ∧ DK U w dp d ∧ ∀ k, U k → B ≤ k
/-- The document's part. -/
def RP (B : Nat) (w : World) (v : Value) (c : Nat) (o : Option Lg) (d : Dk) (V : Nat → Prop) : Prop :=
  match o with
  | some lg => ∃ b C S, v = ptr b ∧ WR B w b C lg.ref c S d ∧ V = fun k => C k ∨ S k
  | none => v = .pointer none ∧ RK V w c d ∧ ∀ k, V k → B ≤ k
section
variable {B : Nat} {w w1 w2 : World} {k dp c : Nat} {lv mv lv' mv' : Value} {dir : Nm} {seg : Int} {o o' : Option Lg} {d d' : Dk} {U V U' V' : Nat → Prop} {lg : Lg}
theorem LP.lt (h : LP B w lv dp o d U) : ∀ j, U j → B ≤ j ∧ j < w.heap.size := fun j hj => by
  unfold LP at h
  cases o with
  | some lg =>
    obtain ⟨a, C, S, _, hw, rfl⟩ := h
    rcases hj with hj | hj
    · exact ⟨hw.cb j hj, hw.clt j hj⟩
    · exact ⟨hw.sb j hj, hw.dk.lt j hj⟩
  | none => exact ⟨h.2.2 j hj, h.2.1.lt j hj⟩
theorem RP.lt (h : RP B w mv c o d V) : ∀ j, V j → B ≤ j ∧ j < w.heap.size := fun j hj => by
  unfold RP at h
  cases o with
  | some lg =>
    obtain ⟨a, C, S, _, hw, rfl⟩ := h
    rcases hj with hj | hj
    · exact ⟨hw.cb j hj, hw.clt j hj⟩
    · exact ⟨hw.sb j hj, hw.dk.lt j hj⟩
  | none => exact ⟨h.2.2 j hj, h.2.1.lt j hj⟩
theorem LP.tn {S0 : Nat → Prop} (h : LP B w lv dp o d U) (ht : Tn S0 w w1) (hd : ∀ j, U j → ¬ S0 j) : LP B w1 lv dp o d U := by
  unfold LP at h ⊢
  cases o with
  | some lg =>
    obtain ⟨a, C, S, e, hw, rfl⟩ := h
    exact ⟨a, C, S, e, ⟨let ⟨_, _, hl⟩ := hw.lk; ⟨_, _, hl.tn ht (fun j hj => hd j (.inl hj))⟩, hw.dk.tn ht (fun j hj => hd j (.inr hj)), hw.cb, hw.sb, hw.cs⟩, rfl⟩
  | none => exact ⟨h.1, h.2.1.tn ht hd, h.2.2⟩
theorem RP.tn {S0 : Nat → Prop} (h : RP B w mv c o d V) (ht : Tn S0 w w1) (hd : ∀ j, V j → ¬ S0 j) : RP B w1 mv c o d V := by
  unfold RP at h ⊢
  cases o with
  | some lg =>
    obtain ⟨a, C, S, e, hw, rfl⟩ := h
    exact ⟨a, C, S, e, ⟨let ⟨_, _, _, hl⟩ := hw.lk; ⟨_, _, _, hl.tn ht (fun j hj => hd j (.inl hj))⟩, hw.dk.tn ht (fun j hj => hd j (.inr hj)), hw.cb, hw.sb, hw.cs⟩, rfl⟩
  | none => exact ⟨h.1, h.2.1.tn ht hd, h.2.2⟩
/-- Both, and the box that tells of them. -/
structure Bo (B : Nat) (w : World) (k : Nat) (lv mv : Value) (dp c : Nat) (dir : Nm) (seg : Int) (o : Option Lg) (d : Dk) (U V : Nat → Prop) : Prop where
  box : w.heap[k]? = some (.cells #[ptr dp, ptr c, lv, mv, nmv dir, .int .i64 seg] 35 (0, 0))
  lp : LP B w lv dp o d U
  rp : RP B w mv c o d V
  uv : ∀ j, U j → ¬ V j
  ku : ¬ U k
  kv : ¬ V k
  kb : B ≤ k
theorem Bo.tn {S0 : Nat → Prop} (h : Bo B w k lv mv dp c dir seg o d U V) (ht : Tn S0 w w1) (hu : ∀ j, U j → ¬ S0 j) (hv : ∀ j, V j → ¬ S0 j) (hk : ¬ S0 k) : Bo B w1 k lv mv dp c dir seg o d U V :=
  ⟨ht.at_ h.box hk, h.lp.tn ht hu, h.rp.tn ht hv, h.uv, h.ku, h.kv, h.kb⟩
theorem Bo.below (h : Bo B w k lv mv dp c dir seg o d U V) (hb : Below w.heap.size w w1) : Bo B w1 k lv mv dp c dir seg o d U V :=
  h.tn (Tn.of_below (S := fun _ => False) hb) (fun _ _ e => e) (fun _ _ e => e) (fun e => e)
theorem Bo.c0 (h : Bo B w k lv mv dp c dir seg o d U V) : w.cell? ⟨k, 0, none⟩ = some (ptr dp) := by simp [World.cell?, h.box]
theorem Bo.c1 (h : Bo B w k lv mv dp c dir seg o d U V) : w.cell? ⟨k, 1, none⟩ = some (ptr c) := by simp [World.cell?, h.box]
theorem Bo.c2 (h : Bo B w k lv mv dp c dir seg o d U V) : w.cell? ⟨k, 2, none⟩ = some lv := by simp [World.cell?, h.box]
theorem Bo.c3 (h : Bo B w k lv mv dp c dir seg o d U V) : w.cell? ⟨k, 3, none⟩ = some mv := by simp [World.cell?, h.box]
theorem Bo.c4 (h : Bo B w k lv mv dp c dir seg o d U V) : w.cell? ⟨k, 4, none⟩ = some (nmv dir) := by simp [World.cell?, h.box]
theorem Bo.c5 (h : Bo B w k lv mv dp c dir seg o d U V) : w.cell? ⟨k, 5, none⟩ = some (.int .i64 seg) := by simp [World.cell?, h.box]
theorem Bo.lt (h : Bo B w k lv mv dp c dir seg o d U V) : k < w.heap.size := lt_of_at h.box
/-- The right part behind a turn of the left one. -/
theorem Bo.rp1 (h : Bo B w k lv mv dp c dir seg o d U V) (hg : Went U w w1 U') : RP B w1 mv c o d V := h.rp.tn hg.tn (fun j hj e => h.uv j e hj)
theorem Bo.apart (h : Bo B w k lv mv dp c dir seg o d U V) (hl : LP B w1 lv' dp o' d' U') (hg : Went U w w1 U') (_hr : RP B w2 mv' c o' d' V') (hg2 : Went V w1 w2 V') :
    LP B w2 lv' dp o' d' U' ∧ (∀ j, U' j → ¬ V' j) ∧ ¬ U' k ∧ ¬ V' k ∧ w2.heap[k]? = some (.cells #[ptr dp, ptr c, lv, mv, nmv dir, .int .i64 seg] 35 (0, 0)) := by
  have hk := h.lt
  have hs1 := hg.tn.size
  have hx : ∀ j, U' j → ¬ V j := fun j hj e => by
    rcases hg.sub j hj with h1 | h1
    · exact h.uv j h1 e
    · have := (h.rp.lt j e).2; omega
  refine ⟨hl.tn hg2.tn hx, fun j hj e => ?_, fun e => ?_, fun e => ?_, hg2.tn.at_ (hg.tn.at_ h.box h.ku) h.kv⟩
  · rcases hg2.sub j e with h1 | h1
    · exact hx j hj h1
    · have := (hl.lt j hj).2; omega
  · rcases hg.sub k e with h1 | h1
    · exact h.ku h1
    · omega
  · rcases hg2.sub k e with h1 | h1
    · exact h.kv h1
    · omega
theorem Bo.both (h : Bo B w k lv mv dp c dir seg o d U V) (hl : LP B w1 lv dp o' d' U') (hg : Went U w w1 U') (hr : RP B w2 mv c o' d' V') (hg2 : Went V w1 w2 V') : Bo B w2 k lv mv dp c dir seg o' d' U' V' := by
  obtain ⟨h1, h2, h3, h4, h5⟩ := h.apart hl hg hr hg2
  exact ⟨h5, h1, hr, h2, h3, h4, h.kb⟩
/-- What has turned in all. -/
theorem Bo.went (h : Bo B w k lv mv dp c dir seg o d U V) (hg : Went U w w1 U') (hg2 : Went V w1 w2 V') : Below B w w2 := by
  have hB : B ≤ w.heap.size := Nat.le_trans h.kb (Nat.le_of_lt h.lt)
  have b1 := hg.tn.below hB (fun j hj => (h.lp.lt j hj).1)
  exact b1.trans (hg2.tn.below (Nat.le_trans hB hg.tn.size) (fun j hj => (h.rp.lt j hj).1))
end
/-- What an operation makes of a log, if there is one, and its disk. -/
def pStep (dir : Nm) (seg : Int) (s : Option Lg × Dk) (p : Wo) : Option Lg × Dk :=
  if p.kind = 6 then (s.1, s.2.arm p.n) else if p.kind = 7 then ((openL dir seg (s.2.crash p.picks)).1, (openL dir seg (s.2.crash p.picks)).2.1)
  else if p.kind = 8 then ((openL dir seg s.2).1, (openL dir seg s.2).2.1) else if p.kind = 9 then (s.1, (s.2.create p.name).1)
  else match s.1 with
    | none => s
    | some lg => if p.kind = 1 then (some (lg.append s.2 p.b).1, (lg.append s.2 p.b).2.1) else if p.kind = 2 then (some (lg.sync s.2).1, (lg.sync s.2).2.1)
      else if p.kind = 3 then (some (lg.trim s.2 p.n).1, (lg.trim s.2 p.n).2.1) else s
/-- What holds step by step. -/
structure Pi (n T D : Nat) (dir : Nm) (seg : Int) (o : Option Lg) (d : Dk) : Prop where
  tot : tot d.f ≤ T
  done : d.done ≤ D
  log : ∀ lg, o = some lg → Pl n T lg d
section
variable {n T D : Nat} {dir : Nm} {seg : Int} {o : Option Lg} {d : Dk}
theorem Pi.open (hok : Ok d) (ht : YtkilkhnoldfhcaaGreatDoor.tot d.f ≤ T) (hd : d.done ≤ D) (hT : T ≤ 60000) : Pi 64 T (D + 2) dir seg (openL dir seg d).1 (openL dir seg d).2.1 := by
  obtain ⟨h1, h2⟩ := open_room hok dir seg
  exact ⟨Nat.le_trans h1 ht, by omega, fun lg e => (Pl.opened hok ht hT e).1⟩
theorem Pi.mono {n' T' D' : Nat} (h : Pi n T D dir seg o d) (hn : n ≤ n') (hT : T ≤ T') (hD : D ≤ D') : Pi n' T' D' dir seg o d :=
  ⟨Nat.le_trans h.tot hT, Nat.le_trans h.done hD, fun lg e => (h.log lg e).mono hn hT⟩
theorem pi_step {p : Wo} (h : Pi n T D dir seg o d) (hok : Ok d) (hn : 64 ≤ n) (hn2 : n ≤ 999990) (hT : T + (p.b.length + 12) ≤ 60000) (hp : p.kind = 9 → p.name.length ≤ 4) :
    Pi (n + 1) (T + (p.b.length + 12)) (D + n + 10) dir seg (pStep dir seg (o, d) p).1 (pStep dir seg (o, d) p).2 := by
  unfold pStep
  split
  · obtain ⟨e1, e2, e3⟩ := arm_tot7 d p.n
    exact ⟨by show YtkilkhnoldfhcaaGreatDoor.tot (d.arm p.n).f ≤ _; rw [e1]; have := h.tot; omega, by show (d.arm p.n).done ≤ _; rw [e3]; have := h.done; omega, fun lg e => ((h.log lg e).arm p.n).mono (by omega) (by omega)⟩
  split
  · exact (Pi.open (T := T) (D := D) hok.crash (Nat.le_trans (tot_tear _ _ _) h.tot) h.done (by omega)).mono (by omega) (by omega) (by omega)
  split
  · exact (Pi.open (T := T) (D := D) hok h.tot h.done (by omega)).mono (by omega) (by omega) (by omega)
  split
  · rename_i h9
    have h1 := tot_create (s := p.name) hok.rising
    have h2 := create_done d p.name
    exact ⟨by show YtkilkhnoldfhcaaGreatDoor.tot (d.create p.name).1.f ≤ _; have := h.tot; omega, by show (d.create p.name).1.done ≤ _; have := h.done; omega, fun lg e => ((h.log lg e).beside hok.rising (hp h9)).mono (by omega) (by omega)⟩
  cases o with
  | none => exact h.mono (by omega) (by omega) (by omega)
  | some lg =>
    have hl := h.log lg rfl
    obtain ⟨lo, all, hc, hw⟩ := hl.ch
    have hfew := hl.few
    show Pi _ _ _ dir seg (if p.kind = 1 then _ else _ : Option Lg × Dk).1 (if p.kind = 1 then _ else _ : Option Lg × Dk).2
    split
    · have h1 := append_room hok lg p.b
      obtain ⟨_, _, _, _, h2, _⟩ := hc.append (p := p.b) (by omega) (by omega) d
      exact ⟨by show YtkilkhnoldfhcaaGreatDoor.tot (lg.append d p.b).2.1.f ≤ _; have := h.tot; omega, by show (lg.append d p.b).2.1.done ≤ _; have := h.done; omega, fun lg' e => by
        obtain rfl := Option.some.inj e
        exact hl.append hok (by omega) (by omega)⟩
    split
    · have h1 := lsync_tot hok.rising lg
      have h2 := sync_done lg d
      exact ⟨by show YtkilkhnoldfhcaaGreatDoor.tot (lg.sync d).2.1.f ≤ _; have := h.tot; omega, by show (lg.sync d).2.1.done ≤ _; have := h.done; omega, fun lg' e => by
        obtain rfl := Option.some.inj e
        exact hl.sync.mono (by omega) (by omega)⟩
    split
    · obtain ⟨h1, h2, h3⟩ := Pl.trim (low := p.n) lg.segs d hl hok
      exact ⟨by show YtkilkhnoldfhcaaGreatDoor.tot (lg.trim d p.n).2.1.f ≤ _; have h4 : YtkilkhnoldfhcaaGreatDoor.tot (lg.trim d p.n).2.1.f ≤ YtkilkhnoldfhcaaGreatDoor.tot d.f := h3; have := h.tot; omega, by show (lg.trim d p.n).2.1.done ≤ _; have h4 : (lg.trim d p.n).2.1.done ≤ d.done + lg.segs.length := h2; have := h.done; omega, fun lg' e => by
        obtain rfl := Option.some.inj e
        exact Pl.mono h1 (by omega) (by omega)⟩
    · exact h.mono (by omega) (by omega) (by omega)
end
end Go.Proofs.YtkilkhnoldfhcaaGreatDoor
namespace Go.Proofs.YtkilkhnoldfhcaaGreatDoor
open Go.RowKit
section
variable {B : Nat} {w w1 w2 : World} {dp c n T : Nat} {lv mv : Value} {dir : Nm} {seg : Int} {o : Option Lg} {d : Dk} {U V E : Nat → Prop} {lg : Lg} {p : List UInt8} {po : Option Addr} {pc : Nat}
theorem LP.turn (h : LP B w lv dp o d U) (hB : B ≤ w.heap.size) : ∃ S, DK S w dp d ∧ (∀ j, S j → U j) ∧ ∀ {w' : World} {d' : Dk} {S' : Nat → Prop}, DK S' w' dp d' → Tn S w w' → (∀ j, S' j → S j ∨ w.heap.size ≤ j) → ∃ U', LP B w' lv dp o d' U' ∧ Went U w w' U' := by
  unfold LP at h
  cases o with
  | some lg =>
    obtain ⟨a, C, S, e, hw, rfl⟩ := h
    refine ⟨S, hw.dk, fun j hj => .inr hj, fun {w' d' S'} hd ht hs => ⟨fun j => C j ∨ S' j, ⟨a, C, S', e, ⟨let ⟨_, _, hl⟩ := hw.lk; ⟨_, _, hl.tn ht hw.cs⟩, hd, hw.cb, fun j hj => ?_, fun j hj e2 => ?_⟩, rfl⟩, ht.mono fun _ _ e => .inr e, fun j hj => ?_⟩⟩
    · rcases hs j hj with e | e
      · exact hw.sb j e
      · exact Nat.le_trans hB e
    · rcases hs j e2 with e | e
      · exact hw.cs j hj e
      · have := hw.clt j hj; omega
    · rcases hj with e | e
      · exact .inl (.inl e)
      · exact (hs j e).elim (fun e => .inl (.inr e)) .inr
  | none =>
    refine ⟨U, h.2.1, fun _ hj => hj, fun {w' d' S'} hd ht hs => ⟨S', ⟨h.1, hd, fun j hj => ?_⟩, ht, hs⟩⟩
    rcases hs j hj with e | e
    · exact h.2.2 j e
    · exact Nat.le_trans hB e
theorem RP.turn (h : RP B w mv c o d V) (hB : B ≤ w.heap.size) : ∃ S, RK S w c d ∧ (∀ j, S j → V j) ∧ ∀ {w' : World} {d' : Dk} {S' : Nat → Prop}, RK S' w' c d' → Tn S w w' → (∀ j, S' j → S j ∨ w.heap.size ≤ j) → ∃ V', RP B w' mv c o d' V' ∧ Went V w w' V' := by
  unfold RP at h
  cases o with
  | some lg =>
    obtain ⟨a, C, S, e, hw, rfl⟩ := h
    refine ⟨S, hw.dk, fun j hj => .inr hj, fun {w' d' S'} hd ht hs => ⟨fun j => C j ∨ S' j, ⟨a, C, S', e, ⟨let ⟨_, _, _, hl⟩ := hw.lk; ⟨_, _, _, hl.tn ht hw.cs⟩, hd, hw.cb, fun j hj => ?_, fun j hj e2 => ?_⟩, rfl⟩, ht.mono fun _ _ e => .inr e, fun j hj => ?_⟩⟩
    · rcases hs j hj with e | e
      · exact hw.sb j e
      · exact Nat.le_trans hB e
    · rcases hs j e2 with e | e
      · exact hw.cs j hj e
      · have := hw.clt j hj; omega
    · rcases hj with e | e
      · exact .inl (.inl e)
      · exact (hs j e).elim (fun e => .inl (.inr e)) .inr
  | none =>
    refine ⟨V, h.2.1, fun _ hj => hj, fun {w' d' S'} hd ht hs => ⟨S', ⟨h.1, hd, fun j hj => ?_⟩, ht, hs⟩⟩
    rcases hs j hj with e | e
    · exact h.2.2 j e
    · exact Nat.le_trans hB e
/-- What a call answers, and how wal's part stands. -/
def LDid (B : Nat) (w : World) (lv : Value) (dp : Nat) (o' : Option Lg) (d' : Dk) (U : Nat → Prop) (a : Value) (e : Ending) (w' : World) : Prop := e = .returned a ∧ ∃ U', LP B w' lv dp o' d' U' ∧ Went U w w' U'
def RDid (B : Nat) (w : World) (mv : Value) (c : Nat) (o' : Option Lg) (d' : Dk) (V : Nat → Prop) (a : Value) (e : Ending) (w' : World) : Prop := e = .returned a ∧ ∃ V', RP B w' mv c o' d' V' ∧ Went V w w' V'
theorem gw_sub (S : Nat → Prop) (w w' : World) : ∀ j, Gw S w w' j → S j ∨ w.heap.size ≤ j := fun _ hj => hj.elim .inl (fun e => .inr e.1)
theorem lp_arm (h : LP B w lv dp o d U) (hB : B ≤ w.heap.size) (k : Int) (h1 : -9223372036854775808 ≤ k) (h2 : k ≤ 9223372036854775807) : Calls Tryz.prog 19 #[ptr dp, .int .i64 k] w (LDid B w lv dp o (d.arm k) U (.tuple #[])) :=
  let ⟨_, hd, _, ht⟩ := h.turn hB; (dk_arm7 hd k h1 h2).mono fun _ _ ⟨he, h3, h4⟩ => ⟨he, ht h3 h4 (fun _ e => .inl e)⟩
theorem rp_arm (h : RP B w mv c o d V) (hB : B ≤ w.heap.size) (k : Int) (h1 : -9223372036854775808 ≤ k) (h2 : k ≤ 9223372036854775807) : Calls Tryz.prog 20 #[ptr c, .int .i64 k] w (RDid B w mv c o (d.arm k) V (.tuple #[])) :=
  let ⟨_, ⟨_, _, hd⟩, _, ht⟩ := h.turn hB; (rarm_any hd k h1 h2).mono fun _ _ ⟨he, h3, h4⟩ => ⟨he, ht ⟨_, _, h3⟩ h4 (fun _ e => .inl e)⟩
theorem lp_create (h : LP B w lv dp o d U) (hB : B ≤ w.heap.size) {s : Nm} (hs : s.length ≤ 1000) (hd : d.done ≤ 1000000000) : Calls Tryz.prog 44 #[ptr dp, nmv s] w (LDid B w lv dp o (d.create s).1 U (.int .i64 ((d.create s).2 : Int))) :=
  let ⟨_, hk, _, ht⟩ := h.turn hB; (dk_create hk (Nat.le_trans hs (by decide)) (Nat.lt_of_le_of_lt hd (by decide))).mono fun _ _ ⟨he, h3, h4⟩ => ⟨he, ht h3 h4 (gw_sub _ _ _)⟩
theorem rp_create (h : RP B w mv c o d V) (hB : B ≤ w.heap.size) {s : Nm} (hs : s.length ≤ 1000) (hd : d.done ≤ 1000000000) : Calls Tryz.prog 45 #[ptr c, nmv s] w (RDid B w mv c o (d.create s).1 V (.int .i64 ((d.create s).2 : Int))) :=
  let ⟨_, ⟨_, _, hk⟩, _, ht⟩ := h.turn hB; (rcreate_any hk s (Nat.le_trans hs (by decide)) (Nat.lt_of_le_of_lt hd (by decide))).mono fun _ _ ⟨he, h3, h4⟩ => ⟨he, ht h3 h4 (gw_sub _ _ _)⟩
theorem lp_crash (h : LP B w lv dp o d U) (hB : B ≤ w.heap.size) {picks : List Int} (hp : SI E w po picks.length pc picks) (hE : ∀ k, E k → k < B) : Calls Tryz.prog 42 #[ptr dp, .slice po picks.length pc] w (LDid B w lv dp o (d.crash picks) U (.tuple #[])) :=
  let ⟨_, ⟨_, _, _, hk⟩, hv, ht⟩ := h.turn hB; (crash_any hk hp (fun k e e2 => by have := hE k e; have := (h.lt k (hv k e2)).1; omega)).mono fun _ _ ⟨he, h3, h4⟩ => ⟨he, ht h3 h4 (fun _ e => .inl e)⟩
theorem rp_crash (h : RP B w mv c o d V) (hB : B ≤ w.heap.size) {picks : List Int} (hp : SI E w po picks.length pc picks) (hE : ∀ k, E k → k < B) : Calls Tryz.prog 43 #[ptr c, .slice po picks.length pc] w (RDid B w mv c o (d.crash picks) V (.tuple #[])) :=
  let ⟨_, ⟨_, _, hk⟩, hv, ht⟩ := h.turn hB; (rcrash_any hk hp (fun k e e2 => by have := hE k e; have := (h.lt k (hv k e2)).1; omega)).mono fun _ _ ⟨he, h3, h4⟩ => ⟨he, ht h3 h4 (gw_sub _ _ _)⟩
theorem lp_append (h : LP B w lv dp (some lg) d U) (hB : B ≤ w.heap.size) (hT : Tabs w) (h6 : 6 ≤ B) (hp : Pl n T lg d) (hn : n ≤ 999998) (hd : d.done ≤ 1000000000) (hs : SB E w po p.length pc p) (hE : ∀ k, E k → k < w.heap.size ∧ ¬ U k) :
    Calls Tryz.prog 25 #[lv, .slice po p.length pc] w (LDid B w lv dp (some (lg.append d p).1) (lg.append d p).2.1 U (.tuple #[.int .i64 ((lg.append d p).2.2.1 : Int), .int .i64 ((lg.append d p).2.2.2 : Int)])) := by
  obtain ⟨a, C, S, rfl, hw, rfl⟩ := h
  obtain ⟨lo, all, hc, _⟩ := hp.ch
  refine (lappend_any hw hB hT h6 hc.ok (Nat.le_trans hp.few (by omega)) hd hs (fun k hk => ⟨(hE k hk).1, fun e => (hE k hk).2 (.inl e), fun e => (hE k hk).2 (.inr e)⟩)).mono ?_
  rintro e w' ⟨he, C', S', hw', hg⟩
  exact ⟨he, _, ⟨a, C', S', rfl, hw', rfl⟩, hg⟩
theorem ch_rok2 {lg : Lg} {lo : Nat} {all : List (List UInt8)} (h : Ch lg lo all) (hw : wt all ≤ 5000000) : ROk lg.ref := by
  have h3 := recs_size ⟨0, all⟩
  have h4 : (⟨0, all⟩ : Sg).size = wt all := rfl
  have h5 : all.length * 12 ≤ wt all := by rw [← h4]; exact h3
  have hs := h.safe
  have hp := h.pos
  refine ⟨h.ok.dir, by show 0 < (lg.segs.map Sg.first).length; rw [List.length_map]; exact h.ok.ne, by show (lg.segs.map Sg.first).length ≤ _; rw [List.length_map]; exact h.ok.few, fun n hn => ?_, by rw [h.ref_all]; omega, by show lg.safe ≤ _; omega⟩
  obtain ⟨g, hg, rfl⟩ := List.mem_map.1 hn
  exact h.ok.num g hg
theorem pl_rok (hp : Pl n T lg d) (hT : T ≤ 70000) : ROk lg.ref := by
  obtain ⟨lo, all, hc, hw⟩ := hp.ch
  exact ch_rok2 hc (by omega)
theorem rp_append (h : RP B w mv c (some lg) d V) (hB : B ≤ w.heap.size) (hp : Pl n T lg d) (hT : T ≤ 60000) (hn : n ≤ 999998) (hd : d.done ≤ 1000000000) (hs : SB E w po p.length pc p) (hE : ∀ k, E k → k < w.heap.size ∧ ¬ V k) :
    Calls Tryz.prog 46 #[mv, .slice po p.length pc] w (RDid B w mv c (some (lg.append d p).1) (lg.append d p).2.1 V (.tuple #[.int .i64 ((lg.append d p).2.2.1 : Int), .int .i64 ((lg.append d p).2.2.2 : Int)])) := by
  obtain ⟨b, C, S, rfl, hw, rfl⟩ := h
  obtain ⟨lo, all, hc, hwt⟩ := hp.ch
  have hra := hc.ref_append hp.tip (Nat.le_trans hp.few (by omega)) p
  have hal : lg.ref.all.length ≤ 99999999 := by
    rw [hc.ref_all]
    have h3 := recs_size ⟨0, all⟩
    have h4 : (⟨0, all⟩ : Sg).size = wt all := rfl
    have h5 : all.length * 12 ≤ wt all := by rw [← h4]; exact h3
    omega
  have hnl : lg.ref.nums.length ≤ 999999 := by
    show (lg.segs.map Sg.first).length ≤ _
    rw [List.length_map]
    exact Nat.le_trans hp.few (by omega)
  refine (rlappend_any hw hB (pl_rok hp (by omega)) hnl hal hd hs (fun k hk => ⟨(hE k hk).1, fun e => (hE k hk).2 (.inl e), fun e => (hE k hk).2 (.inr e)⟩)).mono ?_
  rw [hra]
  rintro e w' ⟨he, C', S', hw', hg⟩
  exact ⟨he, _, ⟨b, C', S', rfl, hw', rfl⟩, hg⟩
theorem lp_sync (h : LP B w lv dp (some lg) d U) (hB : B ≤ w.heap.size) (hp : Pl n T lg d) (hd : d.done ≤ 1000000000) : Calls Tryz.prog 27 #[lv] w (LDid B w lv dp (some (lg.sync d).1) (lg.sync d).2.1 U (.int .i64 ((lg.sync d).2.2 : Int))) := by
  obtain ⟨a, C, S, rfl, hw, rfl⟩ := h
  obtain ⟨lo, all, hc, _⟩ := hp.ch
  refine (lsync_any hw hB hc.ok (Nat.lt_of_le_of_lt hd (by decide))).mono ?_
  rintro e w' ⟨he, C', S', hw', hg⟩
  exact ⟨he, _, ⟨a, C', S', rfl, hw', rfl⟩, hg⟩
theorem rp_sync (h : RP B w mv c (some lg) d V) (hB : B ≤ w.heap.size) (hp : Pl n T lg d) (hT : T ≤ 60000) (hd : d.done ≤ 1000000000) : Calls Tryz.prog 47 #[mv] w (RDid B w mv c (some (lg.sync d).1) (lg.sync d).2.1 V (.int .i64 ((lg.sync d).2.2 : Int))) := by
  obtain ⟨b, C, S, rfl, hw, rfl⟩ := h
  obtain ⟨lo, all, hc, _⟩ := hp.ch
  refine (rlsync_any hw hB (pl_rok hp (by omega)) (Nat.lt_of_le_of_lt hd (by decide))).mono ?_
  rw [hc.ref_sync d]
  rintro e w' ⟨he, C', S', hw', hg⟩
  exact ⟨he, _, ⟨b, C', S', rfl, hw', rfl⟩, hg⟩
theorem lp_trim (h : LP B w lv dp (some lg) d U) (hB : B ≤ w.heap.size) (hp : Pl n T lg d) (hd : d.done ≤ 1000000000) (k : Int) : Calls Tryz.prog 28 #[lv, .int .i64 k] w (LDid B w lv dp (some (lg.trim d k).1) (lg.trim d k).2.1 U (.int .i64 ((lg.trim d k).2.2 : Int))) := by
  obtain ⟨a, C, S, rfl, hw, rfl⟩ := h
  obtain ⟨lo, all, hc, _⟩ := hp.ch
  refine (ltrim_any hw hB hc.ok hd k).mono ?_
  rintro e w' ⟨he, C', S', hw', hg⟩
  exact ⟨he, _, ⟨a, C', S', rfl, hw', rfl⟩, hg⟩
theorem rp_trim (h : RP B w mv c (some lg) d V) (hB : B ≤ w.heap.size) (hp : Pl n T lg d) (hT : T ≤ 60000) (hd : d.done ≤ 1000000000) (k : Int) : Calls Tryz.prog 48 #[mv, .int .i64 k] w (RDid B w mv c (some (lg.trim d k).1) (lg.trim d k).2.1 V (.int .i64 ((lg.trim d k).2.2 : Int))) := by
  obtain ⟨b, C, S, rfl, hw, rfl⟩ := h
  obtain ⟨lo, all, hc, _⟩ := hp.ch
  obtain ⟨init, g, s1, s2, _⟩ := hc.seg
  refine (rltrim_any hw hB (pl_rok hp (by omega)) (by rw [s1]; exact s2) hd k).mono ?_
  rintro e w' ⟨he, C', S', hw', hg⟩
  exact ⟨he, _, ⟨b, C', S', rfl, hw', rfl⟩, hg⟩
end
end Go.Proofs.YtkilkhnoldfhcaaGreatDoor
namespace Go.Proofs.YtkilkhnoldfhcaaGreatDoor
open Go.RowKit
section
variable {B : Nat} {w w1 w2 : World} {dp c n T : Nat} {lv mv : Value} {d : Dk} {U V : Nat → Prop} {lg : Lg}
theorem pl_len (hp : Pl n T lg d) (hT : T ≤ 60000) : ∃ lo all, Ch lg lo all ∧ all.length ≤ 400000 ∧ lg.safe ≤ 200000000 ∧ lo ≤ lg.safe + 1 ∧ lg.ref.low = lo ∧ lg.ref.all = all ∧ max lg.ref.top (lg.ref.low - 1) = lg.safe := by
  obtain ⟨lo, all, hc, hw⟩ := hp.ch
  have h3 := recs_size ⟨0, all⟩
  have h4 : (⟨0, all⟩ : Sg).size = wt all := rfl
  have h5 : all.length * 12 ≤ wt all := by rw [← h4]; exact h3
  have hs := hc.safe
  have hpos := hc.pos
  have hlow : lo ≤ lg.safe + 1 := by
    obtain ⟨g, r, h1, _, _, h4⟩ := hc.cons
    have := hp.low g.first (by rw [h1]; exact List.mem_cons_self)
    omega
  have hrl : lg.ref.low = lo := by rw [ref_low hc.ok.ne, hc.low]
  refine ⟨lo, all, hc, by omega, by omega, hlow, hrl, hc.ref_all, ?_⟩
  rw [hrl]
  show max lg.safe (lo - 1) = lg.safe
  omega
def RdL (w w' : World) (x : Option (List UInt8)) (e : Ending) : Prop := match x with
  | none => e = .returned (.tuple #[.slice none 0 0, .int .i64 8])
  | some p => ∃ ao cap, e = .returned (.tuple #[.slice ao p.length cap, .int .i64 0]) ∧ w'.ownsRow w.heap.size 5 1 (.slice ao p.length cap) p.length (bys p)
def RdR (V : Nat → Prop) (w' : World) (x : Option (List UInt8)) (e : Ending) : Prop := match x with
  | none => e = .returned (.tuple #[.slice none 0 0, .int .i64 8])
  | some p => ∃ ao cap, e = .returned (.tuple #[.slice ao p.length cap, .int .i64 0]) ∧ SB V w' ao p.length cap p
theorem lp_read (h : LP B w lv dp (some lg) d U) (hp : Pl n T lg d) (k : Int) : Calls Tryz.prog 39 #[lv, .int .i64 k] w fun e w' => RdL w w' (lg.read k) e ∧ Below w.heap.size w w' := by
  obtain ⟨a, C, S, rfl, hw, rfl⟩ := h
  obtain ⟨lo, all, hc, _⟩ := hp.ch
  obtain ⟨v, us, hl⟩ := hw.lk
  refine (lread_any hl hc.ok k).mono ?_
  rintro e w' ⟨⟨v', r, rfl, ha⟩, hb⟩
  refine ⟨?_, hb⟩
  unfold ReadAns at ha
  unfold RdL
  cases hx : lg.read k with
  | none => rw [hx] at ha; obtain ⟨rfl, rfl⟩ := ha; rfl
  | some p =>
    rw [hx] at ha
    obtain ⟨ho, rfl⟩ := ha
    obtain ⟨ao, cap, rfl⟩ := own_slice ho
    exact ⟨ao, cap, rfl, ho⟩
theorem rp_read (h : RP B w mv c (some lg) d V) (hp : Pl n T lg d) (hT : T ≤ 60000) (k : Int) : Calls Tryz.prog 49 #[mv, .int .i64 k] w fun e w' => RdR V w' (lg.read k) e ∧ Below w.heap.size w w' := by
  obtain ⟨b, C, S, rfl, hw, rfl⟩ := h
  obtain ⟨lo, all, hc, h1, h2, h3, h4, h5, h6⟩ := pl_len hp hT
  obtain ⟨vn, va, ua, hl⟩ := hw.lk
  refine (rlread_any hl (pl_rok hp (by omega)) k).mono ?_
  rintro e w' ⟨hb, he⟩
  refine ⟨?_, hb⟩
  rw [hc.read k]
  rw [h4, h5] at he
  rcases he with ⟨rfl, he⟩ | ⟨i, hi, hk, rfl⟩
  · have e1 : (if k < (lo : Int) then none else all[(k - (lo : Int)).toNat]?) = none := by
      rcases he with he | he
      · rw [if_pos he]
      · rw [if_neg (by omega), List.getElem?_eq_none (by omega)]
    rw [e1]
    rfl
  · have hua := hl.ual
    have hi2 : i < lg.ref.all.length := by omega
    have hi3 : i < all.length := by rw [← h5]; exact hi2
    have e1 : (if k < (lo : Int) then none else all[(k - (lo : Int)).toNat]?) = some all[i] := by
      rw [if_neg (by omega), show (k - (lo : Int)).toNat = i by omega, List.getElem?_eq_getElem hi3]
    rw [e1]
    obtain ⟨ao, cap, e2, hs⟩ := hl.rows i hi hi2
    have e3 : lg.ref.all[i] = all[i] := by simp only [h5]
    rw [e3] at e2 hs
    exact ⟨ao, cap, by rw [e2], (hs.below hb).mono fun j _ hj => .inl hj.1⟩
def FrL (w w' : World) (x : Option (List (List UInt8))) (e : Ending) : Prop := match x with
  | none => e = .returned (.tuple #[.slice none 0 0, .int .i64 8])
  | some L => ∃ v us, e = .returned (.tuple #[v, .int .i64 0]) ∧ RO (fun q => w.heap.size ≤ q) w' v us L
def FrR (w' : World) (x : Option (List (List UInt8))) (e : Ending) : Prop := match x with
  | none => e = .returned (.tuple #[.slice none 0 0, .int .i64 8])
  | some L => ∃ ao cap, e = .returned (.tuple #[.slice ao L.length cap, .int .i64 0]) ∧ Fr.RB w'.heap.size w' ao L.length cap L
theorem lp_from (h : LP B w lv dp (some lg) d U) (hp : Pl n T lg d) (hT : T ≤ 60000) (k m : Int) : Calls Tryz.prog 33 #[lv, .int .i64 k, .int .i64 m] w fun e w' => FrL w w' (lg.from k m) e ∧ Below w.heap.size w w' := by
  obtain ⟨a, C, S, rfl, hw, rfl⟩ := h
  obtain ⟨lo, all, hc, h1, h2, h3, h4, h5, h6⟩ := pl_len hp hT
  obtain ⟨v, us, hl⟩ := hw.lk
  refine (lfrom_any hl hc.ok (by omega) k m (by rw [hc.rests, List.length_drop]; omega)).mono ?_
  rintro e w' ⟨⟨v', r, rfl, ha⟩, hb⟩
  refine ⟨?_, hb⟩
  unfold FromAns at ha
  unfold FrL
  cases hx : lg.from k m with
  | none => rw [hx] at ha; obtain ⟨rfl, rfl⟩ := ha; rfl
  | some L =>
    rw [hx] at ha
    obtain ⟨⟨us, ho⟩, rfl⟩ := ha
    exact ⟨v', us, rfl, ho⟩
theorem rp_from (h : RP B w mv c (some lg) d V) (hp : Pl n T lg d) (hT : T ≤ 60000) (k m : Int) (hm1 : -9223372036854775808 ≤ m) (hm2 : m ≤ 9223372036854775807) : Calls Tryz.prog 50 #[mv, .int .i64 k, .int .i64 m] w fun e w' => FrR w' (lg.from k m) e ∧ Below w.heap.size w w' := by
  have hlt := h.lt
  obtain ⟨b, C, S, rfl, hw, rfl⟩ := h
  obtain ⟨lo, all, hc, h1, h2, h3, h4, h5, h6⟩ := pl_len hp hT
  obtain ⟨vn, va, ua, hl⟩ := hw.lk
  have hs := hc.safe
  refine (rlfrom_any hl (pl_rok hp (by omega)) (by rw [h5]; omega) (by rw [h6, h4, h5]; exact hs) k m hm1 hm2).mono ?_
  rw [h6, h4]
  rintro e w' ⟨hb, he⟩
  refine ⟨?_, hb⟩
  rw [hc.from k m]
  by_cases hcnd : k < (lo : Int) ∨ (lg.safe : Int) + 1 < k
  · rw [if_pos hcnd] at he ⊢
    exact he
  · rw [if_neg hcnd] at he ⊢
    obtain ⟨v, rfl, ho, hlo⟩ := he
    obtain ⟨q, hq⟩ : ∃ q, q = (k - (lo : Int)).toNat := ⟨_, rfl⟩
    obtain ⟨M, hM⟩ : ∃ M, M = (min m ((lg.safe : Int) + 1 - k)).toNat := ⟨_, rfl⟩
    rw [← hq, ← hM] at ho ⊢
    have hua := hl.ual
    have hll : ((all.drop q).take M).length = ((ua.drop q).take M).length := by rw [List.length_take, List.length_take, List.length_drop, List.length_drop, hua, h5]
    obtain ⟨ao, cap, rfl⟩ := own_slice ho
    rw [← hll] at ho ⊢
    refine ⟨ao, cap, rfl, ?_⟩
    obtain ⟨ao2, cap2, e, g1, g2, g3, g4⟩ := (OffR.of_own ho).slice
    simp only [Value.slice.injEq, true_and] at e
    obtain ⟨rfl, rfl⟩ := e
    refine ⟨rfl, g1, g2, fun e => (g3 e).2, ?_⟩
    cases ao with
    | none => exact .inl (g3 rfl).1
    | some ad =>
      obtain ⟨g, off, rfl⟩ := g4 ad rfl
      refine .inr ⟨g, off, rfl, (OffR.of_own ho).lt rfl, fun i hi => ?_⟩
      have hi2 : q + i < ua.length := by rw [List.length_take, List.length_drop] at hi; rw [hua, h5]; omega
      have hi3 : q + i < lg.ref.all.length := by omega
      have hi4 : q + i < all.length := by rw [← h5]; exact hi3
      have hiM : i < M := by rw [List.length_take] at hi; omega
      obtain ⟨ro, rc, e2, hsb⟩ := hl.rows (q + i) hi2 hi3
      have e3 : lg.ref.all[q + i] = all[q + i] := by simp only [h5]
      rw [e3] at e2 hsb
      refine ⟨ro, all[q + i].length, rc, ?_, ?_⟩
      · rw [((OffR.of_own ho).cell hi).1, List.getElem?_take_of_lt hiM, List.getElem?_drop, List.getElem?_eq_getElem hi2, e2]
      · have e4 : ((all.drop q).take M).getD i [] = all[q + i] := by
          rw [List.getD_eq_getElem?_getD, List.getElem?_take_of_lt hiM, List.getElem?_drop, List.getElem?_eq_getElem hi4]
          rfl
        rw [e4]
        exact fr_sb (hsb.below hb)
end
end Go.Proofs.YtkilkhnoldfhcaaGreatDoor
