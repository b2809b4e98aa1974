/- A disk of the call's own, alone in its blocks; racelaw6.first. Conditions: none of its own. -/
import Derived.Test.YtefgnlijgomgpaaQ
import Derived.Lib.SlBytesConst
namespace Go.Proofs.Ytefgnlijgomgpaa
open Go.RowKit
/-- A disk that lies from block B on. -/
def OneD (B : Nat) (w : World) (a : Nat) (d : Dk) : Prop := ∃ S, (∀ k, S k → B ≤ k) ∧ DK S w a d
section
variable {B : Nat} {S : Nat → Prop} {w w' : World} {a : Nat} {d : Dk}
theorem one_wrote {r : Dk × Nat} {e : Ending} (hw : Wrote S w a r e w') (hS : ∀ k, S k → B ≤ k) (hB : B ≤ w.heap.size) : e = .returned (.int .i64 (r.2 : Int)) ∧ OneD B w' a r.1 ∧ Below B w w' :=
  ⟨hw.1, ⟨_, fun _ hk => Gw.lo hS hB hk, hw.2.1⟩, hw.2.2.below hB hS⟩
theorem OneD.below (h : OneD B w a d) (hb : Below w.heap.size w w') : OneD B w' a d := let ⟨S, hS, h⟩ := h; ⟨S, hS, h.below hb⟩
theorem OneD.ok (h : OneD B w a d) : Ok d := let ⟨_, _, h⟩ := h; h.ok
/-- What a write answers, and that the disk stands so. -/
def One (B : Nat) (w : World) (a : Nat) (r : Dk × Nat) (e : Ending) (w' : World) : Prop := e = .returned (.int .i64 (r.2 : Int)) ∧ OneD B w' a r.1 ∧ Below B w w'
theorem one_new (w : World) : Calls Try.prog 12 #[] w fun e w' => e = .returned (ptr (w.heap.size + 1)) ∧ OneD w.heap.size w' (w.heap.size + 1) .zero ∧ Below w.heap.size w w' :=
  (new_any w).mono fun _ _ ⟨h1, h2, h3⟩ => ⟨h1, ⟨_, fun _ hk => hk.1, h3⟩, h2⟩
theorem one_create (h : OneD B w a d) (hB : B ≤ w.heap.size) {s : Nm} (hs : s.length ≤ 281474976710656) (hd : d.done < 9223372036854775807) : Calls Try.prog 32 #[ptr a, nmv s] w (One B w a (d.create s)) :=
  let ⟨_, hS, _, _, _, h⟩ := h; (create_any h hs hd).mono fun _ _ hw => one_wrote hw hS hB
theorem one_append (h : OneD B w a d) (hB : B ≤ w.heap.size) {s : Nm} {C : Nat → Prop} {ao : Option Addr} {n cap : Nat} {b : List UInt8} (hs : s.length ≤ maxLen) (hd : d.done < 9223372036854775807) (hb : SB C w ao n cap b) (hn : n ≤ 70000000000000) : Calls Try.prog 33 #[ptr a, nmv s, .slice ao n cap] w (One B w a (d.append s b)) :=
  let ⟨_, hS, _, _, _, h⟩ := h; (append_any h hs hd hb hn).mono fun _ _ hw => one_wrote hw hS hB
theorem one_sync (h : OneD B w a d) (hB : B ≤ w.heap.size) {s : Nm} (hs : s.length ≤ maxLen) (hd : d.done < 9223372036854775807) : Calls Try.prog 28 #[ptr a, nmv s] w (One B w a (d.sync s)) :=
  let ⟨_, hS, _, _, _, h⟩ := h; (sync_any h hs hd).mono fun _ _ hw => one_wrote hw hS hB
theorem one_rename (h : OneD B w a d) (hB : B ≤ w.heap.size) {s t : Nm} (hs : s.length ≤ maxLen) (hd : d.done < 9223372036854775807) (ht : t.length ≤ 281474976710656) : Calls Try.prog 29 #[ptr a, nmv s, nmv t] w (One B w a (d.rename s t)) :=
  let ⟨_, hS, _, _, _, h⟩ := h; (rename_any h hs hd ht).mono fun _ _ hw => one_wrote hw hS hB
theorem one_read (h : OneD B w a d) {s : Nm} (hs : s.length ≤ maxLen) : Calls Try.prog 16 #[ptr a, nmv s] w fun e w' => ∃ ao cap, e = .returned (.tuple #[.slice ao (d.read s).1.length cap, .int .i64 ((d.read s).2 : Nat)]) ∧ SB (fun k => w.heap.size ≤ k ∧ k < w'.heap.size) w' ao (d.read s).1.length cap (d.read s).1 ∧ Below w.heap.size w w' :=
  let ⟨_, _, _, _, _, h⟩ := h; (read_any h hs).mono fun _ _ ⟨_, h1, h2, h3⟩ => by
    obtain ⟨ao, cap, rfl⟩ := own_slice h2
    exact ⟨ao, cap, h1, (own_sb h2).mono fun k _ e => h2.lt k e, h3⟩
theorem one_writes (h : OneD B w a d) : Calls Try.prog 26 #[ptr a] w fun e w' => e = .returned (.int .i64 (d.done : Int)) ∧ w = w' := let ⟨_, _, _, _, _, h⟩ := h; writes_any h
theorem one_down (h : OneD B w a d) : Calls Try.prog 25 #[ptr a] w fun e w' => e = .returned (.bool d.off) ∧ w = w' := let ⟨_, _, _, _, _, h⟩ := h; down_any h
theorem one_crash (h : OneD B w a d) (hB : B ≤ w.heap.size) {C : Nat → Prop} {po : Option Addr} {pn pc : Nat} {picks : List Int} (hp : SI C w po pn pc picks) (hC : ∀ k, C k → k < B) : Calls Try.prog 24 #[ptr a, .slice po pn pc] w fun e w' => e = .returned (.tuple #[]) ∧ OneD B w' a (d.crash picks) ∧ Below B w w' :=
  let ⟨_, hS, _, _, _, h⟩ := h; (crash_any h hp (fun k hk e => by have := hS k e; have := hC k hk; omega)).mono fun _ _ ⟨h1, h2, h3⟩ => ⟨h1, ⟨_, hS, h2⟩, h3.below hB hS⟩
theorem one_does (h : OneD B w a d) (hB : B ≤ w.heap.size) {C : Nat → Prop} {p : Do} {ao po : Option Addr} {cap pc : Nat} (hs : p.small) (hb : SB C w ao p.b.length cap p.b) (hp : SI C w po p.picks.length pc p.picks) (hC : ∀ k, C k → k < B) (hd : d.done < 9223372036854775807) :
    Calls Try.prog 13 #[ptr a, opv p ao cap po pc] w (One B w a (d.step p)) :=
  let ⟨_, hS, h⟩ := h; (does_any h hs hb hp (fun k hk e => by have := hS k e; have := hC k hk; omega) hd).mono fun _ _ hw => one_wrote hw hS hB
theorem one_crash_lit (h : OneD B w a d) (hB : B ≤ w.heap.size) (p : Int) (hp : -9223372036854775808 ≤ p ∧ p ≤ 9223372036854775807) : Calls Try.prog 24 #[ptr a, .slice (some ⟨w.heap.size, 0, none⟩) 1 1] (w.alloc (.cells #[.int .i64 p] 3)) fun e w' => e = .returned (.tuple #[]) ∧ OneD B w' a (d.crash [p]) ∧ Below B (w.alloc (.cells #[.int .i64 p] 3)) w' := by
  obtain ⟨S, hS, m, ρ, δ, h⟩ := h
  have h1 := h.below (below1 w (.cells #[.int .i64 p] 3))
  have hsi : SI (· = w.heap.size) (w.alloc (.cells #[.int .i64 p] 3)) (some ⟨w.heap.size, 0, none⟩) 1 1 [p] := by
    refine ⟨rfl, Nat.le_refl _, by decide, fun q hq => ?_, .inr ⟨w.heap.size, 0, rfl, rfl, fun i hi => ?_⟩⟩
    · simp at hq; subst hq; exact hp
    · obtain rfl : i = 0 := by omega
      have := heap_alloc_new w (.cells #[.int .i64 p] 3)
      show (match (w.alloc (.cells #[.int .i64 p] 3)).heap[w.heap.size]? with | some (.cells c _ _) => if (none : Option Nat).isSome then none else c[0 + 0]? | _ => none) = _
      rw [this]
      rfl
  exact (crash_any h1 hsi (fun k hk e => by have := h.lt k e; omega)).mono fun _ _ ⟨h1, h2, h3⟩ => ⟨h1, ⟨_, hS, h2⟩, h3.below (by simp; omega) hS⟩
end
theorem sb12 (w : World) : SB (· = w.heap.size) (w.alloc (.cells #[.int .u8 49, .int .u8 50] 5 (2, 3))) (some ⟨w.heap.size, 0, none⟩) 2 2 [49, 50] := sb_lit w [49, 50] 2 (2, 3) rfl (by decide)
theorem sb345 (w : World) : SB (· = w.heap.size) (w.alloc (.cells #[.int .u8 51, .int .u8 52, .int .u8 53] 5 (3, 4))) (some ⟨w.heap.size, 0, none⟩) 3 3 [51, 52, 53] := sb_lit w [51, 52, 53] 3 (3, 4) rfl (by decide)
theorem x1 : Dk.zero.create [97] = (⟨[([97], ⟨[], 0⟩)], false, 0, 1⟩, 0) := rfl
theorem x2 : (⟨[([97], ⟨[], 0⟩)], false, 0, 1⟩ : Dk).create [97] = (⟨[([97], ⟨[], 0⟩)], false, 0, 1⟩, 9) := rfl
theorem x3 : (⟨[([97], ⟨[], 0⟩)], false, 0, 1⟩ : Dk).append [98] [] = (⟨[([97], ⟨[], 0⟩)], false, 0, 1⟩, 8) := rfl
theorem x4 : (⟨[([97], ⟨[], 0⟩)], false, 0, 1⟩ : Dk).append [97] [49, 50] = (⟨[([97], ⟨[49, 50], 0⟩)], false, 0, 2⟩, 0) := rfl
theorem x5 : (⟨[([97], ⟨[49, 50], 0⟩)], false, 0, 2⟩ : Dk).sync [97] = (⟨[([97], ⟨[49, 50], 2⟩)], false, 0, 3⟩, 0) := rfl
theorem x6 : (⟨[([97], ⟨[49, 50], 2⟩)], false, 0, 3⟩ : Dk).append [97] [51, 52, 53] = (⟨[([97], ⟨[49, 50, 51, 52, 53], 2⟩)], false, 0, 4⟩, 0) := rfl
theorem x7 : (⟨[([97], ⟨[49, 50, 51, 52, 53], 2⟩)], false, 0, 4⟩ : Dk).crash [2] = ⟨[([97], ⟨[49, 50, 51, 52], 4⟩)], false, 0, 4⟩ := rfl
theorem x8 : (⟨[([97], ⟨[49, 50, 51, 52], 4⟩)], false, 0, 4⟩ : Dk).read [97] = ([49, 50, 51, 52], 0) := rfl
set_option maxRecDepth 100000 in
set_option maxHeartbeats 2000000 in
theorem first_any (w : World) : Calls Try.prog 10 #[] w fun e w' => e = .returned (.bool true) ∧ Below w.heap.size w w' := by
  have kc := fun (w : World) (C : Array Value) (n c : Nat) => Lib.run_convert_bytes_const (P := Try.prog) w 33 5 C n c under33 (by kernel_rfl)
  go_enter Try.func10, Try.ntmps10
  go_wp2_with (go_at_call 12; (with_reducible refine (one_new w).mono ?_); rintro e w1 ⟨rfl, h, hb⟩; have HD := Lib.hid h; have HB := Lib.hid hb; clear h hb)
  go_wp2_with (go_at_call 32; (with_reducible refine (one_create HD.out HB.out.size (s := [97]) (by decide) (by decide)).mono ?_); rw [x1]; rintro e w2 ⟨rfl, h, hb⟩; have HD2 := Lib.hid h; have HB2 := Lib.hid (HB.out.trans hb); clear h hb)
  go_wp2_with (go_at_call 32; (with_reducible refine (one_create HD2.out HB2.out.size (s := [97]) (by decide) (by decide)).mono ?_); rw [x2]; rintro e w3 ⟨rfl, h, hb⟩; have HD3 := Lib.hid h; have HB3 := Lib.hid (HB2.out.trans hb); clear h hb)
  go_wp2_with (go_at_call 33; (with_reducible refine (one_append HD3.out HB3.out.size (s := [98]) (by decide) (by decide) (sb_nil (fun _ => True) _) (by decide)).mono ?_); rw [x3]; rintro e w4 ⟨rfl, h, hb⟩; have HD4 := Lib.hid h; have HB4 := Lib.hid (HB3.out.trans hb); clear h hb)
  go_wp2_with (go_at_call 33; (with_reducible refine (one_append (HD4.out.below (below1 _ _)) (by have := HB4.out.size; simp; omega) (s := [97]) (by decide) (by decide) (sb12 w4) (by decide)).mono ?_); rw [x4]; rintro e w5 ⟨rfl, h, hb⟩; have HD5 := Lib.hid h; have HB5 := Lib.hid ((HB4.out.trans ((below1 _ _).mono HB4.out.size)).trans hb); clear h hb)
  go_wp2_with (go_at_call 28; (with_reducible refine (one_sync HD5.out HB5.out.size (s := [97]) (by decide) (by decide)).mono ?_); rw [x5]; rintro e w6 ⟨rfl, h, hb⟩; have HD6 := Lib.hid h; have HB6 := Lib.hid (HB5.out.trans hb); clear h hb)
  go_wp2_with (go_at_call 33; (with_reducible refine (one_append (HD6.out.below (below1 _ _)) (by have := HB6.out.size; simp; omega) (s := [97]) (by decide) (by decide) (sb345 w6) (by decide)).mono ?_); rw [x6]; rintro e w7 ⟨rfl, h, hb⟩; have HD7 := Lib.hid h; have HB7 := Lib.hid ((HB6.out.trans ((below1 _ _).mono HB6.out.size)).trans hb); clear h hb)
  go_wp2_with (go_at_call 24; (with_reducible refine (one_crash_lit HD7.out HB7.out.size 2 (by decide)).mono ?_); rw [x7]; rintro e w8 ⟨rfl, h, hb⟩; have HD8 := Lib.hid h; have HB8 := Lib.hid ((HB7.out.trans ((below1 _ _).mono HB7.out.size)).trans hb); clear h hb)
  go_wp2_with (first
    | (go_at_call 16; (with_reducible refine (one_read HD8.out (s := [97]) (by decide)).mono ?_); rw [x8]; rintro e w9 ⟨ro, rc, rfl, h, hb⟩; have HS9 := Lib.hid h; have HD9 := Lib.hid (HD8.out.below hb); have HB9 := Lib.hid (HB8.out.trans (hb.mono HB8.out.size)); have hcv : (convert 33 9 (.slice ro 4 rc)).run Try.prog w9 = .ok (.string ⟨#[49, 50, 51, 52]⟩) w9 := h.conv; clear h hb)
    | (go_at_call 26; (with_reducible refine (one_writes HD9.out).mono ?_); rintro e w' ⟨rfl, rfl⟩))
  go_ret
  exact ⟨rfl, HB9.out⟩
end Go.Proofs.Ytefgnlijgomgpaa
