/- racelaw7.first: what the chapter's examples fix. Conditions: the library's tables hold what their initialisers lay. -/
import Derived.Test.YtkilkhnoldfhcaaGreatDoorLq
import Derived.Lib.SlBytesConst
namespace Go.Proofs.YtkilkhnoldfhcaaGreatDoor
open Go.RowKit
abbrev dLog : Nm := [108, 111, 103]
def fLA : Lg := ⟨dLog, 64, [⟨1, []⟩], 0⟩
def fLB : Lg := ⟨dLog, 64, [⟨1, [[97]]⟩], 0⟩
def fLC : Lg := ⟨dLog, 64, [⟨1, [[97], [98]]⟩], 0⟩
def fLD : Lg := ⟨dLog, 64, [⟨1, [[97], [98]]⟩], 2⟩
def fNm : Nm := [108, 111, 103, 46, 48, 48, 48, 48, 48, 48, 48, 49]
def fDA : Dk := (Dk.zero.create fNm).1
def fDB : Dk := (fDA.append fNm (Fr.frameV [97])).1
def fDC : Dk := (fDB.append fNm (Fr.frameV [98])).1
def fDD : Dk := (fDC.sync fNm).1
theorem f_nm : segN dLog 1 = fNm := by kernel_rfl
theorem f_open : openL dLog 64 .zero = (some fLA, fDA, 0) := by kernel_rfl
theorem f_b : fLA.append fDA [97] = (fLB, fDB, 1, 0) := by kernel_rfl
theorem f_c : fLB.append fDB [98] = (fLC, fDC, 2, 0) := by kernel_rfl
theorem f_d : fLC.sync fDC = (fLD, fDD, 0) := by kernel_rfl
theorem f_from : fLD.from 1 9 = some [[97], [98]] := by kernel_rfl
theorem f_names : names fDD.f = [fNm] := by kernel_rfl
theorem f_files : fDD.f.length = 1 := by kernel_rfl
theorem f_next : fLD.next = 3 := by kernel_rfl
theorem lok_one {g : Sg} {safe : Nat} (h1 : 1 ≤ g.first ∧ g.first ≤ 99999999) (h2 : g.size ≤ 4194304) : LOk ⟨dLog, 64, [g], safe⟩ := by
  refine ⟨Nat.succ_pos 0, ?_, ⟨?_, ?_⟩, fun x hx => ?_, fun x hx => ?_⟩
  · show 1 ≤ 1000000
    decide
  · exact (by decide : 1 ≤ 3)
  · exact (by decide : 3 ≤ 11)
  · obtain rfl : x = g := List.mem_singleton.1 hx
    exact h1
  · obtain rfl : x = g := List.mem_singleton.1 hx
    exact h2
theorem f_la : LOk fLA := lok_one (by decide) (by decide)
theorem f_lb : LOk fLB := lok_one (by decide) (by decide)
theorem f_lc : LOk fLC := lok_one (by decide) (by decide)
theorem f_ld : LOk fLD := lok_one (by decide) (by decide)
theorem f_da : fDA.done = 1 := by kernel_rfl
theorem f_db : fDB.done = 2 := by kernel_rfl
theorem f_dc : fDC.done = 3 := by kernel_rfl
theorem sb_new (w : World) (x : UInt8) : SB (fun k => k = w.heap.size) (w.alloc (.cells #[.int .u8 (x.toNat : Int)] 5 (1, 2))) (some ⟨w.heap.size, 0, none⟩) 1 1 [x] := by
  refine ⟨rfl, Nat.le_refl _, by decide, (fun e => nomatch e), .inr ⟨w.heap.size, 0, rfl, rfl, fun i hi => ?_⟩⟩
  obtain rfl : i = 0 := by omega
  have h0 : (w.alloc (.cells #[.int .u8 (x.toNat : Int)] 5 (1, 2))).heap[w.heap.size]? = some (.cells #[.int .u8 (x.toNat : Int)] 5 (1, 2)) := by
    show (w.heap.push _)[w.heap.size]? = _
    simp
  simp only [World.cell?, Nat.zero_add]
  rw [h0]
  rfl
section
variable {B : Nat} {w w' w1 : World} {a dp : Nat} {C S : Nat → Prop} {lg lg' : Lg} {d d' : Dk}
/-- Append of one byte in memory of its own. -/
theorem append_byte (h : WL B w a C lg dp S d) (hB : B ≤ w.heap.size) (hT : Tabs w) (h6 : 6 ≤ B) (hk : LOk lg) (hfew : lg.segs.length ≤ 999999) (hd : d.done ≤ 1000000000) (x : UInt8) :
    Calls Tryz.prog 25 #[ptr a, .slice (some ⟨w.heap.size, 0, none⟩) 1 1] (w.alloc (.cells #[.int .u8 (x.toNat : Int)] 5 (1, 2))) (Logged2 C S B (w.alloc (.cells #[.int .u8 (x.toNat : Int)] 5 (1, 2))) a dp (lg.append d [x])) :=
  lappend_any (p := [x]) (h.below (below1 w _)) (Nat.le_trans hB (below1 w _).size) (hT.below (below1 w _)) h6 hk hfew hd (sb_new w x) (fun k hk2 => by
    subst hk2
    exact ⟨by simp, fun e => absurd (h.clt _ e) (Nat.lt_irrefl _), fun e => absurd (h.dk.lt _ e) (Nat.lt_irrefl _)⟩)
set_option maxRecDepth 100000 in
set_option maxHeartbeats 8000000 in
theorem first7 (w : World) (hT : Tabs w) : Calls Tryz.prog 11 #[] w fun e w' => e = .returned (.bool true) ∧ Below w.heap.size w w' := by
  have HT := Lib.hid hT
  have H6 := Lib.hid hT.size
  have kc := fun (w : World) (C : Array Value) (n c : Nat) => Lib.run_convert_bytes_const (P := Tryz.prog) w 36 5 C n c (by kernel_rfl) (by kernel_rfl)
  clear hT
  go_enter Tryz.func11, Tryz.ntmps11
  go_upto_region 7 with (first
    | (go_at_call 13; (refine (new_any _).mono ?_); rintro e w1 ⟨rfl, hb, hd⟩; have HB := Lib.hid hb; have HD := Lib.hid hd; clear hb hd)
    | (go_at_call 23; (refine (open_any (B := w.heap.size) HD.out (fun k hk => hk.1) HB.out.size (HT.out.below HB.out) H6.out dLog (by decide) 64 (by decide) (by decide) (fun _ h => absurd (by kernel_rfl) h)).mono ?_); rw [f_open]; rintro e w2 ⟨_, a, C, S, rfl, hw, hg⟩; have HW := Lib.hid hw; have HBW := Lib.hid (HB.out.trans (hg.tn.below HB.out.size (fun k hk => hk.1))); clear hw hg))
  go_upto_region 8 with (go_at_call 25; (refine (append_byte HW.out HBW.out.size (HT.out.below HBW.out) H6.out f_la (by decide) (by rw [f_da]; decide) 97).mono ?_); rw [f_b]; rintro e w3 ⟨rfl, C3, S3, hw, hg⟩; have HB3 := Lib.hid (HBW.out.trans (((below1 w2 _).mono HBW.out.size).trans ((HW.out.below (below1 w2 _)).went (Nat.le_trans HBW.out.size (below1 w2 _).size) hg))); have HW3 := Lib.hid hw; clear hw hg)
  go_upto_region 9 with (go_at_call 25; (refine (append_byte HW3.out HB3.out.size (HT.out.below HB3.out) H6.out f_lb (by decide) (by rw [f_db]; decide) 98).mono ?_); rw [f_c]; rintro e w4 ⟨rfl, C4, S4, hw, hg⟩; have HB4 := Lib.hid (HB3.out.trans (((below1 w3 _).mono HB3.out.size).trans ((HW3.out.below (below1 w3 _)).went (Nat.le_trans HB3.out.size (below1 w3 _).size) hg))); have HW4 := Lib.hid hw; clear hw hg)
  go_upto_region 12 with (first
    | (go_at_call 30; (obtain ⟨v4, us4, hl4⟩ := HW4.out.lk; refine (safe_any hl4).mono ?_); rintro e w5 ⟨he, rfl⟩; have he : e = .returned (.int .i64 0) := he; subst he; clear hl4)
    | (go_at_call 27; (refine (lsync_any HW4.out HB4.out.size f_lc (by rw [f_dc]; decide)).mono ?_); rw [f_d]; rintro e w5 ⟨rfl, C5, S5, hw, hg⟩; have HB5 := Lib.hid (HB4.out.trans (HW4.out.went HB4.out.size hg)); have HW5 := Lib.hid hw; clear hw hg)
    | (go_at_call 33; (obtain ⟨v5, us5, hl5⟩ := HW5.out.lk; refine (lfrom_any hl5 f_ld (by decide) 1 9 (by decide)).mono ?_); rw [f_from]; rintro e w6 ⟨⟨v6, r6, rfl, ⟨us6, hr⟩, rfl⟩, hb⟩; have HB6 := Lib.hid (HB5.out.trans (hb.mono HB5.out.size)); have HW6 := Lib.hid (HW5.out.below hb); have HR6 := Lib.hid hr; obtain ⟨ro6, rc6, rfl⟩ := own_slice hr.own; clear hb hr))
  go_upto_region 13 with (go_at_call 37; (obtain ⟨mm, ρ, δ, hdk⟩ := HW6.out.dk; refine (list_any hdk).mono ?_); rw [f_names, f_files]; rintro e w7 ⟨v7, rfl, ho, hb⟩; have HB7 := Lib.hid (HB6.out.trans (hb.mono HB6.out.size)); have HW7 := Lib.hid (HW6.out.below hb); have HR7 := Lib.hid (HR6.out.below hb); have HO7 := Lib.hid ho; clear hb ho hdk)
  obtain ⟨g6, hro6⟩ : ∃ g, ro6 = some ⟨g, 0, none⟩ := by
    rcases (ro_shape HR7.out rfl).1 with ⟨_, h, _⟩ | h
    · exact absurd h (by decide)
    · exact h
  obtain ⟨co, cc, c5, ho5⟩ := ro_get HR7.out hro6 (j := 1) (by decide)
  subst hro6
  have cv : (convert 36 9 (.slice co 1 cc)).run Tryz.prog w7 = .ok (.string ⟨#[98]⟩) w7 := SB.conv (own_sb ho5)
  have c5 : w7.cell? ⟨g6, 1, none⟩ = some (.slice co 1 cc) := c5
  obtain ⟨g7, k7, hv7⟩ := own_shape HO7.out (by decide)
  subst hv7
  have c7 : w7.cell? ⟨g7, 0, none⟩ = some (.string ⟨#[108, 111, 103, 46, 48, 48, 48, 48, 48, 48, 48, 49]⟩) := HO7.out.cellAt 0 (by decide)
  clear ho5 kc
  go_wp2_with (go_at_call 29; (obtain ⟨v8, us8, hl8⟩ := HW7.out.lk; refine (next_any hl8 f_ld).mono ?_); rw [f_next]; rintro e w8 ⟨rfl, hb⟩; have HB7 := Lib.hid (HB7.out.trans (hb.mono HB7.out.size)); have c7 := (hb.cell (p := ⟨g7, 0, none⟩) (World.block_lt_of_cell? _ _ c7)).trans c7; clear hb hl8)
  go_ret
  exact ⟨rfl, HB7.out⟩
end
end Go.Proofs.YtkilkhnoldfhcaaGreatDoor
