/- racelaw7.does: an operation of both. Conditions: what a play keeps to; opens as it answers. -/
import Derived.Test.YtkilkhnoldfhcaaGreatDoorLzq
namespace Go.Proofs.YtkilkhnoldfhcaaGreatDoor
open Go.RowKit
/-- An operation as it is handed over. -/
def woV (p : Wo) (bo : Option Addr) (bc : Nat) (po : Option Addr) (pc : Nat) : Value := .agg #[.int .i64 p.kind, .int .i64 p.n, .int .i64 p.m, .slice bo p.b.length bc, nmv p.name, .slice po p.picks.length pc]
/-- It agrees, and both stand so. -/
def Did (B k dp c : Nat) (dir : Nm) (seg : Int) (w : World) (s : Option Lg × Dk) (e : Ending) (w' : World) : Prop :=
  e = .returned (.bool true) ∧ ∃ lv mv U V, Bo B w' k lv mv dp c dir seg s.1 s.2 U V ∧ Below B w w'
/-- The box of an operation. -/
structure XB (w : World) (x : Nat) (v0 v1 v2 v3 v4 v5 : Value) : Prop where
  box : w.heap[x]? = some (.cells #[v0, v1, v2, v3, v4, v5] 39 (0, 0))
section
variable {w w' : World} {x : Nat} {v0 v1 v2 v3 v4 v5 : Value} {S : Nat → Prop}
theorem XB.c0 (h : XB w x v0 v1 v2 v3 v4 v5) : w.cell? ⟨x, 0, none⟩ = some v0 := by simp [World.cell?, h.box]
theorem XB.c1 (h : XB w x v0 v1 v2 v3 v4 v5) : w.cell? ⟨x, 1, none⟩ = some v1 := by simp [World.cell?, h.box]
theorem XB.c2 (h : XB w x v0 v1 v2 v3 v4 v5) : w.cell? ⟨x, 2, none⟩ = some v2 := by simp [World.cell?, h.box]
theorem XB.c3 (h : XB w x v0 v1 v2 v3 v4 v5) : w.cell? ⟨x, 3, none⟩ = some v3 := by simp [World.cell?, h.box]
theorem XB.c4 (h : XB w x v0 v1 v2 v3 v4 v5) : w.cell? ⟨x, 4, none⟩ = some v4 := by simp [World.cell?, h.box]
theorem XB.c5 (h : XB w x v0 v1 v2 v3 v4 v5) : w.cell? ⟨x, 5, none⟩ = some v5 := by simp [World.cell?, h.box]
theorem XB.tn (h : XB w x v0 v1 v2 v3 v4 v5) (ht : Tn S w w') (hx : ¬ S x) : XB w' x v0 v1 v2 v3 v4 v5 := ⟨ht.at_ h.box hx⟩
theorem XB.below (h : XB w x v0 v1 v2 v3 v4 v5) (hb : Below w.heap.size w w') : XB w' x v0 v1 v2 v3 v4 v5 := h.tn (Tn.of_below (S := fun _ => False) hb) (fun e => e)
end
theorem sb_none (w : World) : SB (fun _ => True) w none 0 0 [] := sb_nil _ _
theorem rb_none (B : Nat) (w : World) : Fr.RB B w none 0 0 [] := ⟨rfl, Nat.le_refl _, Nat.zero_le _, fun _ => rfl, .inl rfl⟩
theorem SB.on2 {B : Nat} {C : Nat → Prop} {w w' : World} {ao : Option Addr} {n cap : Nat} {l : List UInt8} (h : SB C w ao n cap l) (hb : Below B w w') (hC : ∀ k, C k → k < B) : SB C w' ao n cap l :=
  h.tn (S := fun j => B ≤ j) ⟨hb.os, hb.tape, hb.output, hb.size, fun k _ hn => hb.block k (Nat.lt_of_not_le hn)⟩ (fun k hk e => absurd (hC k hk) (Nat.not_lt.2 e))
/-- What opens answers. -/
def OpensOk (B k dp c : Nat) (dir : Nm) (seg : Int) : Prop := ∀ (w : World) (lv mv : Value) (o : Option Lg) (d : Dk) (U V : Nat → Prop), Bo B w k lv mv dp c dir seg o d U V → Tabs w → tot d.f ≤ 60000 → d.done ≤ 900000000 →
  Calls Tryz.prog 14 #[ptr k] w (Did B k dp c dir seg w ((openL dir seg d).1, (openL dir seg d).2.1))
section
variable {B : Nat} {w : World} {k dp c n T : Nat} {lv mv : Value} {dir : Nm} {seg : Int} {o : Option Lg} {lg : Lg} {d : Dk} {U V E : Nat → Prop} {p : Wo} {bo po : Option Addr} {bc pc : Nat}
set_option maxRecDepth 100000 in
set_option maxHeartbeats 8000000 in
theorem does_2 (h : Bo B w k lv mv dp c dir seg (some lg) d U V) (hT : Tabs w) (h6 : 6 ≤ B) (hp : Pl n T lg d ∧ T ≤ 60000 ∧ n ≤ 999998) (ht : tot d.f ≤ 60000) (hd : d.done ≤ 900000000) (hw : p.wf) (hkind : p.kind = 2)
    (hb : SB E w bo p.b.length bc p.b) (hpi : SI E w po p.picks.length pc p.picks) (hE : ∀ j, E j → j < B) :
    Calls Tryz.prog 15 #[ptr k, woV p bo bc po pc] w (Did B k dp c dir seg w (pStep dir seg ((some lg), d) p)) := by
  have _h6 := h6
  have HST : Hid (pStep dir seg ((some lg), d) p = (some (lg.sync d).1, (lg.sync d).2.1)) := Lib.hid (by unfold pStep; simp [hkind])
  have HO := Lib.hid h
  have HT := Lib.hid hT
  have HPI := Lib.hid hpi
  have HPB := Lib.hid hb
  have HE := Lib.hid hE
  have HBW : Hid (B ≤ w.heap.size) := Nat.le_trans h.kb (Nat.le_of_lt h.lt)
  have HW := Lib.hid hw
  have HP := Lib.hid hp
  have HTO := Lib.hid ht
  have HD := Lib.hid hd
  have HD2 : Hid (d.done ≤ 1000000000) := Nat.le_trans hd (by decide)
  obtain ⟨la, rfl⟩ : ∃ la, lv = ptr la := by obtain ⟨a, _, _, e, _⟩ := h.lp; exact ⟨a, e⟩
  obtain ⟨mb, rfl⟩ : ∃ mb, mv = ptr mb := by obtain ⟨b, _, _, e, _⟩ := h.rp; exact ⟨b, e⟩
  obtain ⟨x, hx⟩ : ∃ x, x = w.heap.size := ⟨_, rfl⟩
  obtain ⟨W1, hW1⟩ : ∃ W1, W1 = w.alloc (.cells #[.int .i64 p.kind, .int .i64 p.n, .int .i64 p.m, .slice bo p.b.length bc, nmv p.name, .slice po p.picks.length pc] 39) := ⟨_, rfl⟩
  have HB1 : Hid (Below w.heap.size w W1) := Lib.hid (by rw [hW1]; exact below1 _ _)
  have HX1 : Hid (XB W1 x (.int .i64 p.kind) (.int .i64 p.n) (.int .i64 p.m) (.slice bo p.b.length bc) (nmv p.name) (.slice po p.picks.length pc)) := Lib.hid ⟨by rw [hW1, hx]; exact heap_alloc_new w _⟩
  have HO1 := Lib.hid (h.below HB1.out)
  have HBW1 : Hid (B ≤ W1.heap.size) := Nat.le_trans HBW.out HB1.out.size
  have HXU : Hid (¬ U x) := Lib.hid (fun e => by have := (h.lp.lt x e).2; omega)
  have HXV : Hid (¬ V x) := Lib.hid (fun e => by have := (h.rp.lt x e).2; omega)
  have HUB : Hid (Below B w W1) := Lib.hid (HB1.out.mono HBW.out)
  have cx : W1.cell? ⟨x, 0, none⟩ = some (.int .i64 2) := by rw [← hkind]; exact HX1.out.c0
  have HWD : Hid (Below W1.heap.size W1 W1.drew) := (Below.refl _ W1).drew
  have HOD := Lib.hid (HO1.out.below HWD.out)
  have HXD := Lib.hid (HX1.out.below HWD.out)
  have HBWD : Hid (B ≤ W1.drew.heap.size) := Nat.le_trans HBW1.out HWD.out.size
  have HUD : Hid (Below B w W1.drew) := Lib.hid (HUB.out.trans (HWD.out.mono HBW1.out))
  have b2 := HO1.out.c2
  have b3 := HO1.out.c3
  clear h hT hb hpi hE hw hp hd ht hkind
  unfold woV
  go_enter Tryz.func15, Tryz.ntmps15
  go_upto_region 1 with (fail)
  rw [← hW1, ← hx]
  clear hW1 hx
  go_upto_region 25 with (fail)
  have c2 := HOD.out.c2
  have c3 := HOD.out.c3
  go_region_held (fun w' => w'.cell? ⟨k, 2, none⟩ = some (ptr la) ∧ w'.cell? ⟨k, 3, none⟩ = some (ptr mb)) (exact ⟨c2, c3⟩) (first
    | (go_at_call 27; (refine (lp_sync HOD.out.lp HBWD.out HP.out.1 HD2.out).mono ?_); rintro e w2 ⟨rfl, U2, hl2, hg2⟩; have HL2 := Lib.hid hl2; have HG2 := Lib.hid hg2; have c2 := hg2.tn.cell c2 HOD.out.ku; have c3 := hg2.tn.cell c3 HOD.out.ku; clear hl2 hg2)
    | (go_at_call 47; (refine (rp_sync (HOD.out.rp1 HG2.out) (Nat.le_trans HBWD.out HG2.out.tn.size) HP.out.1 HP.out.2.1 HD2.out).mono ?_); rintro e w3 ⟨rfl, V3, hr3, hg3⟩; have HR3 := Lib.hid hr3; have HG3 := Lib.hid hg3; have c2 := hg3.tn.cell c2 HOD.out.kv; have c3 := hg3.tn.cell c3 HOD.out.kv; clear hr3 hg3))
  go_wp2
  go_ret
  have hbo := HOD.out.both HL2.out HG2.out HR3.out HG3.out
  have hun := HUD.out.trans (HOD.out.went HG2.out HG3.out)
  rw [HST.out]
  exact ⟨rfl, _, _, _, _, hbo, hun⟩
set_option maxRecDepth 100000 in
set_option maxHeartbeats 8000000 in
theorem does_3 (h : Bo B w k lv mv dp c dir seg (some lg) d U V) (hT : Tabs w) (h6 : 6 ≤ B) (hp : Pl n T lg d ∧ T ≤ 60000 ∧ n ≤ 999998) (ht : tot d.f ≤ 60000) (hd : d.done ≤ 900000000) (hw : p.wf) (hkind : p.kind = 3)
    (hb : SB E w bo p.b.length bc p.b) (hpi : SI E w po p.picks.length pc p.picks) (hE : ∀ j, E j → j < B) :
    Calls Tryz.prog 15 #[ptr k, woV p bo bc po pc] w (Did B k dp c dir seg w (pStep dir seg ((some lg), d) p)) := by
  have _h6 := h6
  have HST : Hid (pStep dir seg ((some lg), d) p = (some (lg.trim d p.n).1, (lg.trim d p.n).2.1)) := Lib.hid (by unfold pStep; simp [hkind])
  have HO := Lib.hid h
  have HT := Lib.hid hT
  have HPI := Lib.hid hpi
  have HPB := Lib.hid hb
  have HE := Lib.hid hE
  have HBW : Hid (B ≤ w.heap.size) := Nat.le_trans h.kb (Nat.le_of_lt h.lt)
  have HW := Lib.hid hw
  have HP := Lib.hid hp
  have HTO := Lib.hid ht
  have HD := Lib.hid hd
  have HD2 : Hid (d.done ≤ 1000000000) := Nat.le_trans hd (by decide)
  obtain ⟨la, rfl⟩ : ∃ la, lv = ptr la := by obtain ⟨a, _, _, e, _⟩ := h.lp; exact ⟨a, e⟩
  obtain ⟨mb, rfl⟩ : ∃ mb, mv = ptr mb := by obtain ⟨b, _, _, e, _⟩ := h.rp; exact ⟨b, e⟩
  obtain ⟨x, hx⟩ : ∃ x, x = w.heap.size := ⟨_, rfl⟩
  obtain ⟨W1, hW1⟩ : ∃ W1, W1 = w.alloc (.cells #[.int .i64 p.kind, .int .i64 p.n, .int .i64 p.m, .slice bo p.b.length bc, nmv p.name, .slice po p.picks.length pc] 39) := ⟨_, rfl⟩
  have HB1 : Hid (Below w.heap.size w W1) := Lib.hid (by rw [hW1]; exact below1 _ _)
  have HX1 : Hid (XB W1 x (.int .i64 p.kind) (.int .i64 p.n) (.int .i64 p.m) (.slice bo p.b.length bc) (nmv p.name) (.slice po p.picks.length pc)) := Lib.hid ⟨by rw [hW1, hx]; exact heap_alloc_new w _⟩
  have HO1 := Lib.hid (h.below HB1.out)
  have HBW1 : Hid (B ≤ W1.heap.size) := Nat.le_trans HBW.out HB1.out.size
  have HXU : Hid (¬ U x) := Lib.hid (fun e => by have := (h.lp.lt x e).2; omega)
  have HXV : Hid (¬ V x) := Lib.hid (fun e => by have := (h.rp.lt x e).2; omega)
  have HUB : Hid (Below B w W1) := Lib.hid (HB1.out.mono HBW.out)
  have cx : W1.cell? ⟨x, 0, none⟩ = some (.int .i64 3) := by rw [← hkind]; exact HX1.out.c0
  have HWD : Hid (Below W1.heap.size W1 W1.drew) := (Below.refl _ W1).drew
  have HOD := Lib.hid (HO1.out.below HWD.out)
  have HXD := Lib.hid (HX1.out.below HWD.out)
  have HBWD : Hid (B ≤ W1.drew.heap.size) := Nat.le_trans HBW1.out HWD.out.size
  have HUD : Hid (Below B w W1.drew) := Lib.hid (HUB.out.trans (HWD.out.mono HBW1.out))
  have b2 := HO1.out.c2
  have b3 := HO1.out.c3
  clear h hT hb hpi hE hw hp hd ht hkind
  unfold woV
  go_enter Tryz.func15, Tryz.ntmps15
  go_upto_region 1 with (fail)
  rw [← hW1, ← hx]
  clear hW1 hx
  go_upto_region 27 with (fail)
  have c2 := HOD.out.c2
  have c3 := HOD.out.c3
  have x1 := HXD.out.c1
  go_region_held (fun w' => w'.cell? ⟨k, 2, none⟩ = some (ptr la) ∧ w'.cell? ⟨k, 3, none⟩ = some (ptr mb) ∧ w'.cell? ⟨x, 1, none⟩ = some (.int .i64 p.n)) (exact ⟨c2, c3, x1⟩) (first
    | (go_at_call 28; (refine (lp_trim HOD.out.lp HBWD.out HP.out.1 HD2.out p.n).mono ?_); rintro e w2 ⟨rfl, U2, hl2, hg2⟩; have HL2 := Lib.hid hl2; have HG2 := Lib.hid hg2; have c2 := hg2.tn.cell c2 HOD.out.ku; have c3 := hg2.tn.cell c3 HOD.out.ku; have x1 := hg2.tn.cell x1 HXU.out; clear hl2 hg2)
    | (go_at_call 48; (refine (rp_trim (HOD.out.rp1 HG2.out) (Nat.le_trans HBWD.out HG2.out.tn.size) HP.out.1 HP.out.2.1 HD2.out p.n).mono ?_); rintro e w3 ⟨rfl, V3, hr3, hg3⟩; have HR3 := Lib.hid hr3; have HG3 := Lib.hid hg3; have c2 := hg3.tn.cell c2 HOD.out.kv; have c3 := hg3.tn.cell c3 HOD.out.kv; have x1 := hg3.tn.cell x1 HXV.out; clear hr3 hg3))
  go_wp2
  go_ret
  have hbo := HOD.out.both HL2.out HG2.out HR3.out HG3.out
  have hun := HUD.out.trans (HOD.out.went HG2.out HG3.out)
  rw [HST.out]
  exact ⟨rfl, _, _, _, _, hbo, hun⟩
set_option maxRecDepth 100000 in
set_option maxHeartbeats 8000000 in
theorem does_9 (h : Bo B w k lv mv dp c dir seg o d U V) (hT : Tabs w) (h6 : 6 ≤ B) (hp : True) (ht : tot d.f ≤ 60000) (hd : d.done ≤ 900000000) (hw : p.wf) (hkind : p.kind = 9)
    (hb : SB E w bo p.b.length bc p.b) (hpi : SI E w po p.picks.length pc p.picks) (hE : ∀ j, E j → j < B) (hnl : p.name.length ≤ 1000) :
    Calls Tryz.prog 15 #[ptr k, woV p bo bc po pc] w (Did B k dp c dir seg w (pStep dir seg (o, d) p)) := by
  have _h6 := h6
  have HST : Hid (pStep dir seg (o, d) p = (o, (d.create p.name).1)) := Lib.hid (by unfold pStep; simp [hkind])
  have HO := Lib.hid h
  have HT := Lib.hid hT
  have HPI := Lib.hid hpi
  have HPB := Lib.hid hb
  have HE := Lib.hid hE
  have HBW : Hid (B ≤ w.heap.size) := Nat.le_trans h.kb (Nat.le_of_lt h.lt)
  have HW := Lib.hid hw
  have HP := Lib.hid hp
  have HTO := Lib.hid ht
  have HD := Lib.hid hd
  have HD2 : Hid (d.done ≤ 1000000000) := Nat.le_trans hd (by decide)
  have HNL := Lib.hid hnl
  obtain ⟨x, hx⟩ : ∃ x, x = w.heap.size := ⟨_, rfl⟩
  obtain ⟨W1, hW1⟩ : ∃ W1, W1 = w.alloc (.cells #[.int .i64 p.kind, .int .i64 p.n, .int .i64 p.m, .slice bo p.b.length bc, nmv p.name, .slice po p.picks.length pc] 39) := ⟨_, rfl⟩
  have HB1 : Hid (Below w.heap.size w W1) := Lib.hid (by rw [hW1]; exact below1 _ _)
  have HX1 : Hid (XB W1 x (.int .i64 p.kind) (.int .i64 p.n) (.int .i64 p.m) (.slice bo p.b.length bc) (nmv p.name) (.slice po p.picks.length pc)) := Lib.hid ⟨by rw [hW1, hx]; exact heap_alloc_new w _⟩
  have HO1 := Lib.hid (h.below HB1.out)
  have HBW1 : Hid (B ≤ W1.heap.size) := Nat.le_trans HBW.out HB1.out.size
  have HXU : Hid (¬ U x) := Lib.hid (fun e => by have := (h.lp.lt x e).2; omega)
  have HXV : Hid (¬ V x) := Lib.hid (fun e => by have := (h.rp.lt x e).2; omega)
  have HUB : Hid (Below B w W1) := Lib.hid (HB1.out.mono HBW.out)
  have cx : W1.cell? ⟨x, 0, none⟩ = some (.int .i64 9) := by rw [← hkind]; exact HX1.out.c0
  have HWD : Hid (Below W1.heap.size W1 W1.drew) := (Below.refl _ W1).drew
  have HOD := Lib.hid (HO1.out.below HWD.out)
  have HXD := Lib.hid (HX1.out.below HWD.out)
  have HBWD : Hid (B ≤ W1.drew.heap.size) := Nat.le_trans HBW1.out HWD.out.size
  have HUD : Hid (Below B w W1.drew) := Lib.hid (HUB.out.trans (HWD.out.mono HBW1.out))
  have b2 := HO1.out.c2
  have b3 := HO1.out.c3
  clear h hT hb hpi hE hw hp hd ht hkind
  unfold woV
  go_enter Tryz.func15, Tryz.ntmps15
  go_upto_region 1 with (fail)
  rw [← hW1, ← hx]
  clear hW1 hx
  go_upto_region 11 with (fail)
  have c0 := HOD.out.c0
  have c1 := HOD.out.c1
  have x4 := HXD.out.c4
  go_region_held (fun w' => w'.cell? ⟨k, 0, none⟩ = some (ptr dp) ∧ w'.cell? ⟨k, 1, none⟩ = some (ptr c) ∧ w'.cell? ⟨x, 4, none⟩ = some (nmv p.name)) (exact ⟨c0, c1, x4⟩) (first
    | (go_at_call 44; (refine (lp_create HOD.out.lp HBWD.out HNL.out HD2.out).mono ?_); rintro e w2 ⟨rfl, U2, hl2, hg2⟩; have HL2 := Lib.hid hl2; have HG2 := Lib.hid hg2; have c0 := hg2.tn.cell c0 HOD.out.ku; have c1 := hg2.tn.cell c1 HOD.out.ku; have x4 := hg2.tn.cell x4 HXU.out; clear hl2 hg2)
    | (go_at_call 45; (refine (rp_create (HOD.out.rp1 HG2.out) (Nat.le_trans HBWD.out HG2.out.tn.size) HNL.out HD2.out).mono ?_); rintro e w3 ⟨rfl, V3, hr3, hg3⟩; have HR3 := Lib.hid hr3; have HG3 := Lib.hid hg3; have c0 := hg3.tn.cell c0 HOD.out.kv; have c1 := hg3.tn.cell c1 HOD.out.kv; have x4 := hg3.tn.cell x4 HXV.out; clear hr3 hg3))
  go_wp2
  go_ret
  have hbo := HOD.out.both HL2.out HG2.out HR3.out HG3.out
  have hun := HUD.out.trans (HOD.out.went HG2.out HG3.out)
  rw [HST.out]
  exact ⟨rfl, _, _, _, _, hbo, hun⟩
set_option maxRecDepth 100000 in
set_option maxHeartbeats 8000000 in
theorem does_6 (h : Bo B w k lv mv dp c dir seg o d U V) (hT : Tabs w) (h6 : 6 ≤ B) (hp : True) (ht : tot d.f ≤ 60000) (hd : d.done ≤ 900000000) (hw : p.wf) (hkind : p.kind = 6)
    (hb : SB E w bo p.b.length bc p.b) (hpi : SI E w po p.picks.length pc p.picks) (hE : ∀ j, E j → j < B) :
    Calls Tryz.prog 15 #[ptr k, woV p bo bc po pc] w (Did B k dp c dir seg w (pStep dir seg (o, d) p)) := by
  have _h6 := h6
  have HST : Hid (pStep dir seg (o, d) p = (o, d.arm p.n)) := Lib.hid (by unfold pStep; simp [hkind])
  have HO := Lib.hid h
  have HT := Lib.hid hT
  have HPI := Lib.hid hpi
  have HPB := Lib.hid hb
  have HE := Lib.hid hE
  have HBW : Hid (B ≤ w.heap.size) := Nat.le_trans h.kb (Nat.le_of_lt h.lt)
  have HW := Lib.hid hw
  have HP := Lib.hid hp
  have HTO := Lib.hid ht
  have HD := Lib.hid hd
  have HD2 : Hid (d.done ≤ 1000000000) := Nat.le_trans hd (by decide)
  obtain ⟨x, hx⟩ : ∃ x, x = w.heap.size := ⟨_, rfl⟩
  obtain ⟨W1, hW1⟩ : ∃ W1, W1 = w.alloc (.cells #[.int .i64 p.kind, .int .i64 p.n, .int .i64 p.m, .slice bo p.b.length bc, nmv p.name, .slice po p.picks.length pc] 39) := ⟨_, rfl⟩
  have HB1 : Hid (Below w.heap.size w W1) := Lib.hid (by rw [hW1]; exact below1 _ _)
  have HX1 : Hid (XB W1 x (.int .i64 p.kind) (.int .i64 p.n) (.int .i64 p.m) (.slice bo p.b.length bc) (nmv p.name) (.slice po p.picks.length pc)) := Lib.hid ⟨by rw [hW1, hx]; exact heap_alloc_new w _⟩
  have HO1 := Lib.hid (h.below HB1.out)
  have HBW1 : Hid (B ≤ W1.heap.size) := Nat.le_trans HBW.out HB1.out.size
  have HXU : Hid (¬ U x) := Lib.hid (fun e => by have := (h.lp.lt x e).2; omega)
  have HXV : Hid (¬ V x) := Lib.hid (fun e => by have := (h.rp.lt x e).2; omega)
  have HUB : Hid (Below B w W1) := Lib.hid (HB1.out.mono HBW.out)
  have cx : W1.cell? ⟨x, 0, none⟩ = some (.int .i64 6) := by rw [← hkind]; exact HX1.out.c0
  have HWD : Hid (Below W1.heap.size W1 W1.drew) := (Below.refl _ W1).drew
  have HOD := Lib.hid (HO1.out.below HWD.out)
  have HXD := Lib.hid (HX1.out.below HWD.out)
  have HBWD : Hid (B ≤ W1.drew.heap.size) := Nat.le_trans HBW1.out HWD.out.size
  have HUD : Hid (Below B w W1.drew) := Lib.hid (HUB.out.trans (HWD.out.mono HBW1.out))
  have b2 := HO1.out.c2
  have b3 := HO1.out.c3
  clear h hT hb hpi hE hw hp hd ht hkind
  unfold woV
  go_enter Tryz.func15, Tryz.ntmps15
  go_upto_region 1 with (fail)
  rw [← hW1, ← hx]
  clear hW1 hx
  go_upto_region 2 with (fail)
  have ck := HOD.out.c0
  have xx := HXD.out.c1
  go_region_held (fun w' => w'.cell? ⟨k, 0, none⟩ = some (ptr dp) ∧ w'.cell? ⟨x, 1, none⟩ = some (.int .i64 p.n)) (exact ⟨ck, xx⟩) (first
    | (go_at_call 19; (refine (lp_arm HOD.out.lp HBWD.out p.n HW.out.n.1 HW.out.n.2).mono ?_); rintro e w2 ⟨rfl, U2, hl2, hg2⟩; have HL2 := Lib.hid hl2; have HG2 := Lib.hid hg2; have ck := hg2.tn.cell ck HOD.out.ku; have xx := hg2.tn.cell xx HXU.out; clear hl2 hg2))
  clear ck xx
  go_upto_region 3 with (fail)
  have HWM : Hid (Went V w2 w2.drew V) := went_below (Below.refl _ w2).drew
  have HRM : Hid (RP B w2.drew (mv) c (o) d V) := Lib.hid ((HOD.out.rp1 HG2.out).tn (Tn.of_below (S := fun _ => False) (Below.refl _ w2).drew) (fun _ _ e => e))
  have HBM : Hid (B ≤ w2.drew.heap.size) := Nat.le_trans HBWD.out HG2.out.tn.size
  have ck : w2.drew.cell? ⟨k, 1, none⟩ = some (ptr c) := HG2.out.tn.cell HOD.out.c1 HOD.out.ku
  have xx : w2.drew.cell? ⟨x, 1, none⟩ = some (.int .i64 p.n) := HG2.out.tn.cell HXD.out.c1 HXU.out
  go_region_held (fun w' => w'.cell? ⟨k, 1, none⟩ = some (ptr c) ∧ w'.cell? ⟨x, 1, none⟩ = some (.int .i64 p.n)) (exact ⟨ck, xx⟩) (first
    | (go_at_call 20; (refine (rp_arm (HRM.out) HBM.out p.n HW.out.n.1 HW.out.n.2).mono ?_); rintro e w3 ⟨rfl, V3, hr3, hg3⟩; have HR3 := Lib.hid hr3; have HG3 := Lib.hid (HWM.out.trans hg3); have ck := hg3.tn.cell ck HOD.out.kv; have xx := hg3.tn.cell xx HXV.out; clear hr3 hg3))
  go_wp2
  go_ret
  have hbo := HOD.out.both HL2.out HG2.out HR3.out HG3.out
  have hun := HUD.out.trans (HOD.out.went HG2.out HG3.out)
  rw [HST.out]
  exact ⟨rfl, _, _, _, _, hbo, hun⟩
set_option maxRecDepth 100000 in
set_option maxHeartbeats 8000000 in
theorem does_8 (h : Bo B w k lv mv dp c dir seg o d U V) (hT : Tabs w) (h6 : 6 ≤ B) (hp : True) (ht : tot d.f ≤ 60000) (hd : d.done ≤ 900000000) (hw : p.wf) (hkind : p.kind = 8)
    (hb : SB E w bo p.b.length bc p.b) (hpi : SI E w po p.picks.length pc p.picks) (hE : ∀ j, E j → j < B) (hopn : OpensOk B k dp c dir seg) :
    Calls Tryz.prog 15 #[ptr k, woV p bo bc po pc] w (Did B k dp c dir seg w (pStep dir seg (o, d) p)) := by
  have _h6 := h6
  have HST : Hid (pStep dir seg (o, d) p = ((openL dir seg d).1, (openL dir seg d).2.1)) := Lib.hid (by unfold pStep; simp [hkind])
  have HO := Lib.hid h
  have HT := Lib.hid hT
  have HPI := Lib.hid hpi
  have HPB := Lib.hid hb
  have HE := Lib.hid hE
  have HBW : Hid (B ≤ w.heap.size) := Nat.le_trans h.kb (Nat.le_of_lt h.lt)
  have HW := Lib.hid hw
  have HP := Lib.hid hp
  have HTO := Lib.hid ht
  have HD := Lib.hid hd
  have HD2 : Hid (d.done ≤ 1000000000) := Nat.le_trans hd (by decide)
  have HOPN := Lib.hid hopn
  obtain ⟨x, hx⟩ : ∃ x, x = w.heap.size := ⟨_, rfl⟩
  obtain ⟨W1, hW1⟩ : ∃ W1, W1 = w.alloc (.cells #[.int .i64 p.kind, .int .i64 p.n, .int .i64 p.m, .slice bo p.b.length bc, nmv p.name, .slice po p.picks.length pc] 39) := ⟨_, rfl⟩
  have HB1 : Hid (Below w.heap.size w W1) := Lib.hid (by rw [hW1]; exact below1 _ _)
  have HX1 : Hid (XB W1 x (.int .i64 p.kind) (.int .i64 p.n) (.int .i64 p.m) (.slice bo p.b.length bc) (nmv p.name) (.slice po p.picks.length pc)) := Lib.hid ⟨by rw [hW1, hx]; exact heap_alloc_new w _⟩
  have HO1 := Lib.hid (h.below HB1.out)
  have HBW1 : Hid (B ≤ W1.heap.size) := Nat.le_trans HBW.out HB1.out.size
  have HXU : Hid (¬ U x) := Lib.hid (fun e => by have := (h.lp.lt x e).2; omega)
  have HXV : Hid (¬ V x) := Lib.hid (fun e => by have := (h.rp.lt x e).2; omega)
  have HUB : Hid (Below B w W1) := Lib.hid (HB1.out.mono HBW.out)
  have cx : W1.cell? ⟨x, 0, none⟩ = some (.int .i64 8) := by rw [← hkind]; exact HX1.out.c0
  have HWD : Hid (Below W1.heap.size W1 W1.drew) := (Below.refl _ W1).drew
  have HOD := Lib.hid (HO1.out.below HWD.out)
  have HXD := Lib.hid (HX1.out.below HWD.out)
  have HBWD : Hid (B ≤ W1.drew.heap.size) := Nat.le_trans HBW1.out HWD.out.size
  have HUD : Hid (Below B w W1.drew) := Lib.hid (HUB.out.trans (HWD.out.mono HBW1.out))
  have b2 := HO1.out.c2
  have b3 := HO1.out.c3
  clear h hT hb hpi hE hw hp hd ht hkind
  unfold woV
  go_enter Tryz.func15, Tryz.ntmps15
  go_upto_region 1 with (fail)
  rw [← hW1, ← hx]
  clear hW1 hx
  go_wp2_with (go_at_call 14; (refine (HOPN.out _ _ _ _ _ _ _ HO1.out (HT.out.below HB1.out) HTO.out HD.out).mono ?_); rintro e w5 ⟨rfl, lv5, mv5, U5, V5, hb5, hu5⟩; have HB5 := Lib.hid hb5; have HU5 := Lib.hid hu5; clear hb5 hu5)
  go_ret
  rw [HST.out]
  exact ⟨rfl, _, _, _, _, HB5.out, HUB.out.trans HU5.out⟩
set_option maxRecDepth 100000 in
set_option maxHeartbeats 8000000 in
theorem does_7 (h : Bo B w k lv mv dp c dir seg o d U V) (hT : Tabs w) (h6 : 6 ≤ B) (hp : True) (ht : tot d.f ≤ 60000) (hd : d.done ≤ 900000000) (hw : p.wf) (hkind : p.kind = 7)
    (hb : SB E w bo p.b.length bc p.b) (hpi : SI E w po p.picks.length pc p.picks) (hE : ∀ j, E j → j < B) (hopn : OpensOk B k dp c dir seg) :
    Calls Tryz.prog 15 #[ptr k, woV p bo bc po pc] w (Did B k dp c dir seg w (pStep dir seg (o, d) p)) := by
  have _h6 := h6
  have HST : Hid (pStep dir seg (o, d) p = ((openL dir seg (d.crash p.picks)).1, (openL dir seg (d.crash p.picks)).2.1)) := Lib.hid (by unfold pStep; simp [hkind])
  have HO := Lib.hid h
  have HT := Lib.hid hT
  have HPI := Lib.hid hpi
  have HPB := Lib.hid hb
  have HE := Lib.hid hE
  have HBW : Hid (B ≤ w.heap.size) := Nat.le_trans h.kb (Nat.le_of_lt h.lt)
  have HW := Lib.hid hw
  have HP := Lib.hid hp
  have HTO := Lib.hid ht
  have HD := Lib.hid hd
  have HD2 : Hid (d.done ≤ 1000000000) := Nat.le_trans hd (by decide)
  have HOPN := Lib.hid hopn
  obtain ⟨x, hx⟩ : ∃ x, x = w.heap.size := ⟨_, rfl⟩
  obtain ⟨W1, hW1⟩ : ∃ W1, W1 = w.alloc (.cells #[.int .i64 p.kind, .int .i64 p.n, .int .i64 p.m, .slice bo p.b.length bc, nmv p.name, .slice po p.picks.length pc] 39) := ⟨_, rfl⟩
  have HB1 : Hid (Below w.heap.size w W1) := Lib.hid (by rw [hW1]; exact below1 _ _)
  have HX1 : Hid (XB W1 x (.int .i64 p.kind) (.int .i64 p.n) (.int .i64 p.m) (.slice bo p.b.length bc) (nmv p.name) (.slice po p.picks.length pc)) := Lib.hid ⟨by rw [hW1, hx]; exact heap_alloc_new w _⟩
  have HO1 := Lib.hid (h.below HB1.out)
  have HBW1 : Hid (B ≤ W1.heap.size) := Nat.le_trans HBW.out HB1.out.size
  have HXU : Hid (¬ U x) := Lib.hid (fun e => by have := (h.lp.lt x e).2; omega)
  have HXV : Hid (¬ V x) := Lib.hid (fun e => by have := (h.rp.lt x e).2; omega)
  have HUB : Hid (Below B w W1) := Lib.hid (HB1.out.mono HBW.out)
  have cx : W1.cell? ⟨x, 0, none⟩ = some (.int .i64 7) := by rw [← hkind]; exact HX1.out.c0
  have HWD : Hid (Below W1.heap.size W1 W1.drew) := (Below.refl _ W1).drew
  have HOD := Lib.hid (HO1.out.below HWD.out)
  have HXD := Lib.hid (HX1.out.below HWD.out)
  have HBWD : Hid (B ≤ W1.drew.heap.size) := Nat.le_trans HBW1.out HWD.out.size
  have HUD : Hid (Below B w W1.drew) := Lib.hid (HUB.out.trans (HWD.out.mono HBW1.out))
  have b2 := HO1.out.c2
  have b3 := HO1.out.c3
  clear h hT hb hpi hE hw hp hd ht hkind
  unfold woV
  go_enter Tryz.func15, Tryz.ntmps15
  go_upto_region 1 with (fail)
  rw [← hW1, ← hx]
  clear hW1 hx
  go_upto_region 5 with (fail)
  have ck := HOD.out.c0
  have xx := HXD.out.c5
  go_region_held (fun w' => w'.cell? ⟨k, 0, none⟩ = some (ptr dp) ∧ w'.cell? ⟨x, 5, none⟩ = some (.slice po p.picks.length pc)) (exact ⟨ck, xx⟩) (first
    | (go_at_call 42; (refine (lp_crash HOD.out.lp HBWD.out ((HPI.out.below HB1.out).below HWD.out) HE.out).mono ?_); rintro e w2 ⟨rfl, U2, hl2, hg2⟩; have HL2 := Lib.hid hl2; have HG2 := Lib.hid hg2; have ck := hg2.tn.cell ck HOD.out.ku; have xx := hg2.tn.cell xx HXU.out; clear hl2 hg2))
  clear ck xx
  go_upto_region 6 with (fail)
  have HWM : Hid (Went V w2 w2.drew V) := went_below (Below.refl _ w2).drew
  have HRM : Hid (RP B w2.drew mv c o d V) := Lib.hid ((HOD.out.rp1 HG2.out).tn (Tn.of_below (S := fun _ => False) (Below.refl _ w2).drew) (fun _ _ e => e))
  have HBM : Hid (B ≤ w2.drew.heap.size) := Nat.le_trans HBWD.out HG2.out.tn.size
  have HPM : Hid (SI E w2.drew po p.picks.length pc p.picks) := Lib.hid ((((HPI.out.below HB1.out).below HWD.out).tn HG2.out.tn (fun j hj e => by have := HE.out j hj; have := (HOD.out.lp.lt j e).1; omega)).below (Below.refl _ w2).drew)
  have ck : w2.drew.cell? ⟨k, 1, none⟩ = some (ptr c) := HG2.out.tn.cell HOD.out.c1 HOD.out.ku
  have xx : w2.drew.cell? ⟨x, 5, none⟩ = some (.slice po p.picks.length pc) := HG2.out.tn.cell HXD.out.c5 HXU.out
  go_region_held (fun w' => w'.cell? ⟨k, 1, none⟩ = some (ptr c) ∧ w'.cell? ⟨x, 5, none⟩ = some (.slice po p.picks.length pc)) (exact ⟨ck, xx⟩) (first
    | (go_at_call 43; (refine (rp_crash (HRM.out) HBM.out HPM.out HE.out).mono ?_); rintro e w3 ⟨rfl, V3, hr3, hg3⟩; have HR3 := Lib.hid hr3; have HG3 := Lib.hid (HWM.out.trans hg3); have ck := hg3.tn.cell ck HOD.out.kv; have xx := hg3.tn.cell xx HXV.out; clear hr3 hg3))
  have hbo := HOD.out.both HL2.out HG2.out HR3.out HG3.out
  have hun := HUD.out.trans (HOD.out.went HG2.out HG3.out)
  have HBO := Lib.hid hbo
  have HUN := Lib.hid hun
  have HTC : Hid (tot (d.crash p.picks).f ≤ 60000) := Nat.le_trans (tot_tear _ _ _) HTO.out
  have HDC : Hid ((d.crash p.picks).done ≤ 900000000) := HD.out
  have HT3 : Hid (Tabs w3) := Lib.hid (HT.out.on (HUN.out.mono h6))
  clear hbo hun ck xx
  go_wp2_with (go_at_call 14; (refine (HOPN.out _ _ _ _ _ _ _ HBO.out HT3.out HTC.out HDC.out).mono ?_); rintro e w5 ⟨rfl, lv5, mv5, U5, V5, hb5, hu5⟩; have HB5 := Lib.hid hb5; have HU5 := Lib.hid hu5; clear hb5 hu5)
  go_ret
  rw [HST.out]
  exact ⟨rfl, _, _, _, _, HB5.out, HUN.out.trans HU5.out⟩
set_option maxRecDepth 100000 in
set_option maxHeartbeats 8000000 in
theorem does_4 (h : Bo B w k lv mv dp c dir seg (some lg) d U V) (hT : Tabs w) (h6 : 6 ≤ B) (hp : Pl n T lg d ∧ T ≤ 60000 ∧ n ≤ 999998) (ht : tot d.f ≤ 60000) (hd : d.done ≤ 900000000) (hw : p.wf) (hkind : p.kind = 4)
    (hb : SB E w bo p.b.length bc p.b) (hpi : SI E w po p.picks.length pc p.picks) (hE : ∀ j, E j → j < B) :
    Calls Tryz.prog 15 #[ptr k, woV p bo bc po pc] w (Did B k dp c dir seg w (pStep dir seg ((some lg), d) p)) := by
  have _h6 := h6
  have HST : Hid (pStep dir seg ((some lg), d) p = (some lg, d)) := Lib.hid (by unfold pStep; simp [hkind])
  have HO := Lib.hid h
  have HT := Lib.hid hT
  have HPI := Lib.hid hpi
  have HPB := Lib.hid hb
  have HE := Lib.hid hE
  have HBW : Hid (B ≤ w.heap.size) := Nat.le_trans h.kb (Nat.le_of_lt h.lt)
  have HW := Lib.hid hw
  have HP := Lib.hid hp
  have HTO := Lib.hid ht
  have HD := Lib.hid hd
  have HD2 : Hid (d.done ≤ 1000000000) := Nat.le_trans hd (by decide)
  obtain ⟨la, rfl⟩ : ∃ la, lv = ptr la := by obtain ⟨a, _, _, e, _⟩ := h.lp; exact ⟨a, e⟩
  obtain ⟨mb, rfl⟩ : ∃ mb, mv = ptr mb := by obtain ⟨b, _, _, e, _⟩ := h.rp; exact ⟨b, e⟩
  obtain ⟨x, hx⟩ : ∃ x, x = w.heap.size := ⟨_, rfl⟩
  obtain ⟨W1, hW1⟩ : ∃ W1, W1 = w.alloc (.cells #[.int .i64 p.kind, .int .i64 p.n, .int .i64 p.m, .slice bo p.b.length bc, nmv p.name, .slice po p.picks.length pc] 39) := ⟨_, rfl⟩
  have HB1 : Hid (Below w.heap.size w W1) := Lib.hid (by rw [hW1]; exact below1 _ _)
  have HX1 : Hid (XB W1 x (.int .i64 p.kind) (.int .i64 p.n) (.int .i64 p.m) (.slice bo p.b.length bc) (nmv p.name) (.slice po p.picks.length pc)) := Lib.hid ⟨by rw [hW1, hx]; exact heap_alloc_new w _⟩
  have HO1 := Lib.hid (h.below HB1.out)
  have HBW1 : Hid (B ≤ W1.heap.size) := Nat.le_trans HBW.out HB1.out.size
  have HXU : Hid (¬ U x) := Lib.hid (fun e => by have := (h.lp.lt x e).2; omega)
  have HXV : Hid (¬ V x) := Lib.hid (fun e => by have := (h.rp.lt x e).2; omega)
  have HUB : Hid (Below B w W1) := Lib.hid (HB1.out.mono HBW.out)
  have cx : W1.cell? ⟨x, 0, none⟩ = some (.int .i64 4) := by rw [← hkind]; exact HX1.out.c0
  have HWD : Hid (Below W1.heap.size W1 W1.drew) := (Below.refl _ W1).drew
  have HOD := Lib.hid (HO1.out.below HWD.out)
  have HXD := Lib.hid (HX1.out.below HWD.out)
  have HBWD : Hid (B ≤ W1.drew.heap.size) := Nat.le_trans HBW1.out HWD.out.size
  have HUD : Hid (Below B w W1.drew) := Lib.hid (HUB.out.trans (HWD.out.mono HBW1.out))
  have b2 := HO1.out.c2
  have b3 := HO1.out.c3
  clear h hT hb hpi hE hw hp hd ht hkind
  unfold woV
  go_enter Tryz.func15, Tryz.ntmps15
  go_upto_region 1 with (fail)
  rw [← hW1, ← hx]
  clear hW1 hx
  have HKL : Hid (k < W1.heap.size) := HO1.out.lt
  have HXL : Hid (x < W1.heap.size) := Lib.hid (lt_of_at HX1.out.box)
  cases hrd : lg.read p.n with
  | none =>
    have HRD := Lib.hid hrd
    clear hrd
    go_upto_region 29 with (fail)
    have ck := HOD.out.c2
    have x1 := HXD.out.c1
    go_region_held (fun w' => w'.cell? ⟨k, 2, none⟩ = some (ptr la) ∧ w'.cell? ⟨x, 1, none⟩ = some (.int .i64 p.n)) (exact ⟨ck, x1⟩) (first
      | (go_at_call 39; (refine (lp_read HOD.out.lp HP.out.1 p.n).mono ?_); rw [HRD.out]; rintro e w2 ⟨rfl, hb⟩; have HB2c := Lib.hid hb; have ck := (hb.cell (p := ⟨k, 2, none⟩) HKL.out).trans ck; have x1 := (hb.cell (p := ⟨x, 1, none⟩) HXL.out).trans x1; clear hb))
    have HBA : Hid (Below W1.heap.size W1 w2) := HWD.out.trans (HB2c.out.mono HWD.out.size)
    have HBA2 : Hid (Below W1.heap.size W1 w2.drew) := HBA.out.trans ((Below.refl _ w2).drew.mono HBA.out.size)
    have HOA := Lib.hid (HO1.out.below HBA2.out)
    have HXA := Lib.hid (HX1.out.below HBA2.out)
    clear ck x1
    go_upto_region 30 with (fail)
    have ck := HOA.out.c3
    have x1 := HXA.out.c1
    go_region_held (fun w' => w'.cell? ⟨k, 3, none⟩ = some (ptr mb) ∧ w'.cell? ⟨x, 1, none⟩ = some (.int .i64 p.n)) (exact ⟨ck, x1⟩) (first
      | (go_at_call 49; (refine (rp_read HOA.out.rp HP.out.1 HP.out.2.1 p.n).mono ?_); rw [HRD.out]; rintro e w3 ⟨rfl, hb⟩; have HB3c := Lib.hid hb; have ck := (hb.cell (p := ⟨k, 3, none⟩) HOA.out.lt).trans ck; have x1 := (hb.cell (p := ⟨x, 1, none⟩) (lt_of_at HXA.out.box)).trans x1; clear hb))
    have HBC : Hid (Below W1.heap.size W1 w3) := HBA2.out.trans (HB3c.out.mono HBA2.out.size)
    have HOC := Lib.hid (HO1.out.below HBC.out)
    clear ck x1
    go_wp2_with (go_at_call 40; (refine (bytes_any (sb_none _) (sb_none _)).mono ?_); rw [beq_self_eq_true]; rintro e w4 ⟨rfl, hww⟩; obtain rfl := hww)
    go_ret
    rw [HST.out]
    exact ⟨rfl, _, _, _, _, HOC.out, HUB.out.trans (HBC.out.mono HBW1.out)⟩
  | some q =>
    have HRD := Lib.hid hrd
    clear hrd
    go_upto_region 29 with (fail)
    have ck := HOD.out.c2
    have x1 := HXD.out.c1
    go_region_held (fun w' => w'.cell? ⟨k, 2, none⟩ = some (ptr la) ∧ w'.cell? ⟨x, 1, none⟩ = some (.int .i64 p.n)) (exact ⟨ck, x1⟩) (first
      | (go_at_call 39; (refine (lp_read HOD.out.lp HP.out.1 p.n).mono ?_); rw [HRD.out]; rintro e w2 ⟨⟨lo, lc, rfl, ho⟩, hb⟩; have HLO := Lib.hid ho; clear ho; have HB2c := Lib.hid hb; have ck := (hb.cell (p := ⟨k, 2, none⟩) HKL.out).trans ck; have x1 := (hb.cell (p := ⟨x, 1, none⟩) HXL.out).trans x1; clear hb))
    have HBA : Hid (Below W1.heap.size W1 w2) := HWD.out.trans (HB2c.out.mono HWD.out.size)
    have HBA2 : Hid (Below W1.heap.size W1 w2.drew) := HBA.out.trans ((Below.refl _ w2).drew.mono HBA.out.size)
    have HOA := Lib.hid (HO1.out.below HBA2.out)
    have HXA := Lib.hid (HX1.out.below HBA2.out)
    clear ck x1
    go_upto_region 30 with (fail)
    have ck := HOA.out.c3
    have x1 := HXA.out.c1
    go_region_held (fun w' => w'.cell? ⟨k, 3, none⟩ = some (ptr mb) ∧ w'.cell? ⟨x, 1, none⟩ = some (.int .i64 p.n)) (exact ⟨ck, x1⟩) (first
      | (go_at_call 49; (refine (rp_read HOA.out.rp HP.out.1 HP.out.2.1 p.n).mono ?_); rw [HRD.out]; rintro e w3 ⟨⟨ro, rc, rfl, hs⟩, hb⟩; have HRO := Lib.hid hs; clear hs; have HB3c := Lib.hid hb; have ck := (hb.cell (p := ⟨k, 3, none⟩) HOA.out.lt).trans ck; have x1 := (hb.cell (p := ⟨x, 1, none⟩) (lt_of_at HXA.out.box)).trans x1; clear hb))
    have HBC : Hid (Below W1.heap.size W1 w3) := HBA2.out.trans (HB3c.out.mono HBA2.out.size)
    have HOC := Lib.hid (HO1.out.below HBC.out)
    clear ck x1
    go_wp2_with (go_at_call 40; (refine (bytes_any (own_sb (own_below HLO.out ((Below.refl _ w2).drew.trans (HB3c.out.mono (Nat.le_refl _))))) HRO.out).mono ?_); rw [beq_self_eq_true]; rintro e w4 ⟨rfl, hww⟩; obtain rfl := hww)
    go_ret
    rw [HST.out]
    exact ⟨rfl, _, _, _, _, HOC.out, HUB.out.trans (HBC.out.mono HBW1.out)⟩
set_option maxRecDepth 100000 in
set_option maxHeartbeats 8000000 in
theorem does_5 (h : Bo B w k lv mv dp c dir seg (some lg) d U V) (hT : Tabs w) (h6 : 6 ≤ B) (hp : Pl n T lg d ∧ T ≤ 60000 ∧ n ≤ 999998) (ht : tot d.f ≤ 60000) (hd : d.done ≤ 900000000) (hw : p.wf) (hkind : p.kind = 5)
    (hb : SB E w bo p.b.length bc p.b) (hpi : SI E w po p.picks.length pc p.picks) (hE : ∀ j, E j → j < B) :
    Calls Tryz.prog 15 #[ptr k, woV p bo bc po pc] w (Did B k dp c dir seg w (pStep dir seg ((some lg), d) p)) := by
  have _h6 := h6
  have HST : Hid (pStep dir seg ((some lg), d) p = (some lg, d)) := Lib.hid (by unfold pStep; simp [hkind])
  have HO := Lib.hid h
  have HT := Lib.hid hT
  have HPI := Lib.hid hpi
  have HPB := Lib.hid hb
  have HE := Lib.hid hE
  have HBW : Hid (B ≤ w.heap.size) := Nat.le_trans h.kb (Nat.le_of_lt h.lt)
  have HW := Lib.hid hw
  have HP := Lib.hid hp
  have HTO := Lib.hid ht
  have HD := Lib.hid hd
  have HD2 : Hid (d.done ≤ 1000000000) := Nat.le_trans hd (by decide)
  obtain ⟨la, rfl⟩ : ∃ la, lv = ptr la := by obtain ⟨a, _, _, e, _⟩ := h.lp; exact ⟨a, e⟩
  obtain ⟨mb, rfl⟩ : ∃ mb, mv = ptr mb := by obtain ⟨b, _, _, e, _⟩ := h.rp; exact ⟨b, e⟩
  obtain ⟨x, hx⟩ : ∃ x, x = w.heap.size := ⟨_, rfl⟩
  obtain ⟨W1, hW1⟩ : ∃ W1, W1 = w.alloc (.cells #[.int .i64 p.kind, .int .i64 p.n, .int .i64 p.m, .slice bo p.b.length bc, nmv p.name, .slice po p.picks.length pc] 39) := ⟨_, rfl⟩
  have HB1 : Hid (Below w.heap.size w W1) := Lib.hid (by rw [hW1]; exact below1 _ _)
  have HX1 : Hid (XB W1 x (.int .i64 p.kind) (.int .i64 p.n) (.int .i64 p.m) (.slice bo p.b.length bc) (nmv p.name) (.slice po p.picks.length pc)) := Lib.hid ⟨by rw [hW1, hx]; exact heap_alloc_new w _⟩
  have HO1 := Lib.hid (h.below HB1.out)
  have HBW1 : Hid (B ≤ W1.heap.size) := Nat.le_trans HBW.out HB1.out.size
  have HXU : Hid (¬ U x) := Lib.hid (fun e => by have := (h.lp.lt x e).2; omega)
  have HXV : Hid (¬ V x) := Lib.hid (fun e => by have := (h.rp.lt x e).2; omega)
  have HUB : Hid (Below B w W1) := Lib.hid (HB1.out.mono HBW.out)
  have cx : W1.cell? ⟨x, 0, none⟩ = some (.int .i64 5) := by rw [← hkind]; exact HX1.out.c0
  have HWD : Hid (Below W1.heap.size W1 W1.drew) := (Below.refl _ W1).drew
  have HOD := Lib.hid (HO1.out.below HWD.out)
  have HXD := Lib.hid (HX1.out.below HWD.out)
  have HBWD : Hid (B ≤ W1.drew.heap.size) := Nat.le_trans HBW1.out HWD.out.size
  have HUD : Hid (Below B w W1.drew) := Lib.hid (HUB.out.trans (HWD.out.mono HBW1.out))
  have b2 := HO1.out.c2
  have b3 := HO1.out.c3
  clear h hT hb hpi hE hw hp hd ht hkind
  unfold woV
  go_enter Tryz.func15, Tryz.ntmps15
  go_upto_region 1 with (fail)
  rw [← hW1, ← hx]
  clear hW1 hx
  have HKL : Hid (k < W1.heap.size) := HO1.out.lt
  have HXL : Hid (x < W1.heap.size) := Lib.hid (lt_of_at HX1.out.box)
  cases hrd : lg.from p.n p.m with
  | none =>
    have HRD := Lib.hid hrd
    clear hrd
    go_upto_region 33 with (fail)
    have ck := HOD.out.c2
    have x1 := HXD.out.c1
    have x2 := HXD.out.c2
    go_region_held (fun w' => w'.cell? ⟨k, 2, none⟩ = some (ptr la) ∧ w'.cell? ⟨x, 1, none⟩ = some (.int .i64 p.n) ∧ w'.cell? ⟨x, 2, none⟩ = some (.int .i64 p.m)) (exact ⟨ck, x1, x2⟩) (first
      | (go_at_call 33; (refine (lp_from HOD.out.lp HP.out.1 HP.out.2.1 p.n p.m).mono ?_); rw [HRD.out]; rintro e w2 ⟨rfl, hb⟩; have HB2c := Lib.hid hb; have ck := (hb.cell (p := ⟨k, 2, none⟩) HKL.out).trans ck; have x1 := (hb.cell (p := ⟨x, 1, none⟩) HXL.out).trans x1; have x2 := (hb.cell (p := ⟨x, 2, none⟩) HXL.out).trans x2; clear hb))
    have HBA : Hid (Below W1.heap.size W1 w2) := HWD.out.trans (HB2c.out.mono HWD.out.size)
    have HBA2 : Hid (Below W1.heap.size W1 w2.drew) := HBA.out.trans ((Below.refl _ w2).drew.mono HBA.out.size)
    have HOA := Lib.hid (HO1.out.below HBA2.out)
    have HXA := Lib.hid (HX1.out.below HBA2.out)
    clear ck x1 x2
    go_upto_region 34 with (fail)
    have ck := HOA.out.c3
    have x1 := HXA.out.c1
    have x2 := HXA.out.c2
    go_region_held (fun w' => w'.cell? ⟨k, 3, none⟩ = some (ptr mb) ∧ w'.cell? ⟨x, 1, none⟩ = some (.int .i64 p.n) ∧ w'.cell? ⟨x, 2, none⟩ = some (.int .i64 p.m)) (exact ⟨ck, x1, x2⟩) (first
      | (go_at_call 50; (refine (rp_from HOA.out.rp HP.out.1 HP.out.2.1 p.n p.m HW.out.m.1 HW.out.m.2).mono ?_); rw [HRD.out]; rintro e w3 ⟨rfl, hb⟩; have HB3c := Lib.hid hb; have ck := (hb.cell (p := ⟨k, 3, none⟩) HOA.out.lt).trans ck; have x1 := (hb.cell (p := ⟨x, 1, none⟩) (lt_of_at HXA.out.box)).trans x1; have x2 := (hb.cell (p := ⟨x, 2, none⟩) (lt_of_at HXA.out.box)).trans x2; clear hb))
    have HBC : Hid (Below W1.heap.size W1 w3) := HBA2.out.trans (HB3c.out.mono HBA2.out.size)
    have HOC := Lib.hid (HO1.out.below HBC.out)
    clear ck x1 x2
    go_wp2_with (go_at_call 34; (refine (Fr.rows_any (rb_none 0 _) (rb_none 0 _)).mono ?_); rw [beq_self_eq_true]; rintro e w4 ⟨rfl, q4, hq⟩; have HB4 := Lib.hid (below_of_drew hq); clear hq)
    go_ret
    rw [HST.out]
    exact ⟨rfl, _, _, _, _, HOC.out.below HB4.out, (HUB.out.trans (HBC.out.mono HBW1.out)).trans (HB4.out.mono (Nat.le_trans HBW1.out HBC.out.size))⟩
  | some q =>
    have HRD := Lib.hid hrd
    clear hrd
    go_upto_region 33 with (fail)
    have ck := HOD.out.c2
    have x1 := HXD.out.c1
    have x2 := HXD.out.c2
    go_region_held (fun w' => w'.cell? ⟨k, 2, none⟩ = some (ptr la) ∧ w'.cell? ⟨x, 1, none⟩ = some (.int .i64 p.n) ∧ w'.cell? ⟨x, 2, none⟩ = some (.int .i64 p.m)) (exact ⟨ck, x1, x2⟩) (first
      | (go_at_call 33; (refine (lp_from HOD.out.lp HP.out.1 HP.out.2.1 p.n p.m).mono ?_); rw [HRD.out]; rintro e w2 ⟨⟨v, us, rfl, ho⟩, hb⟩; obtain ⟨lo, lc, rfl⟩ := own_slice ho.own; have HLO := Lib.hid ho; clear ho; have HB2c := Lib.hid hb; have ck := (hb.cell (p := ⟨k, 2, none⟩) HKL.out).trans ck; have x1 := (hb.cell (p := ⟨x, 1, none⟩) HXL.out).trans x1; have x2 := (hb.cell (p := ⟨x, 2, none⟩) HXL.out).trans x2; clear hb))
    have HBA : Hid (Below W1.heap.size W1 w2) := HWD.out.trans (HB2c.out.mono HWD.out.size)
    have HBA2 : Hid (Below W1.heap.size W1 w2.drew) := HBA.out.trans ((Below.refl _ w2).drew.mono HBA.out.size)
    have HOA := Lib.hid (HO1.out.below HBA2.out)
    have HXA := Lib.hid (HX1.out.below HBA2.out)
    clear ck x1 x2
    go_upto_region 34 with (fail)
    have ck := HOA.out.c3
    have x1 := HXA.out.c1
    have x2 := HXA.out.c2
    go_region_held (fun w' => w'.cell? ⟨k, 3, none⟩ = some (ptr mb) ∧ w'.cell? ⟨x, 1, none⟩ = some (.int .i64 p.n) ∧ w'.cell? ⟨x, 2, none⟩ = some (.int .i64 p.m)) (exact ⟨ck, x1, x2⟩) (first
      | (go_at_call 50; (refine (rp_from HOA.out.rp HP.out.1 HP.out.2.1 p.n p.m HW.out.m.1 HW.out.m.2).mono ?_); rw [HRD.out]; rintro e w3 ⟨⟨ro, rc, rfl, hs⟩, hb⟩; have HRO := Lib.hid hs; clear hs; have HB3c := Lib.hid hb; have ck := (hb.cell (p := ⟨k, 3, none⟩) HOA.out.lt).trans ck; have x1 := (hb.cell (p := ⟨x, 1, none⟩) (lt_of_at HXA.out.box)).trans x1; have x2 := (hb.cell (p := ⟨x, 2, none⟩) (lt_of_at HXA.out.box)).trans x2; clear hb))
    have HBC : Hid (Below W1.heap.size W1 w3) := HBA2.out.trans (HB3c.out.mono HBA2.out.size)
    have HOC := Lib.hid (HO1.out.below HBC.out)
    clear ck x1 x2
    go_wp2_with (go_at_call 34; (refine (Fr.rows_any (ro_rb2 (HLO.out.below ((Below.refl _ w2).drew.trans (HB3c.out.mono (Nat.le_refl _)))) rfl) HRO.out).mono ?_); rw [beq_self_eq_true]; rintro e w4 ⟨rfl, q4, hq⟩; have HB4 := Lib.hid (below_of_drew hq); clear hq)
    go_ret
    rw [HST.out]
    exact ⟨rfl, _, _, _, _, HOC.out.below HB4.out, (HUB.out.trans (HBC.out.mono HBW1.out)).trans (HB4.out.mono (Nat.le_trans HBW1.out HBC.out.size))⟩
set_option maxRecDepth 100000 in
set_option maxHeartbeats 8000000 in
theorem does_1 (h : Bo B w k lv mv dp c dir seg (some lg) d U V) (hT : Tabs w) (h6 : 6 ≤ B) (hp : Pl n T lg d ∧ T ≤ 60000 ∧ n ≤ 999998) (ht : tot d.f ≤ 60000) (hd : d.done ≤ 900000000) (hw : p.wf) (hkind : p.kind = 1)
    (hb : SB E w bo p.b.length bc p.b) (hpi : SI E w po p.picks.length pc p.picks) (hE : ∀ j, E j → j < B) (hbl : p.b.length ≤ 20000) :
    Calls Tryz.prog 15 #[ptr k, woV p bo bc po pc] w (Did B k dp c dir seg w (pStep dir seg ((some lg), d) p)) := by
  have _h6 := h6
  have HST : Hid (pStep dir seg ((some lg), d) p = (some (lg.append d p.b).1, (lg.append d p.b).2.1)) := Lib.hid (by unfold pStep; simp [hkind])
  have HO := Lib.hid h
  have HT := Lib.hid hT
  have HPI := Lib.hid hpi
  have HPB := Lib.hid hb
  have HE := Lib.hid hE
  have HBW : Hid (B ≤ w.heap.size) := Nat.le_trans h.kb (Nat.le_of_lt h.lt)
  have HW := Lib.hid hw
  have HP := Lib.hid hp
  have HTO := Lib.hid ht
  have HD := Lib.hid hd
  have HD2 : Hid (d.done ≤ 1000000000) := Nat.le_trans hd (by decide)
  obtain ⟨la, rfl⟩ : ∃ la, lv = ptr la := by obtain ⟨a, _, _, e, _⟩ := h.lp; exact ⟨a, e⟩
  obtain ⟨mb, rfl⟩ : ∃ mb, mv = ptr mb := by obtain ⟨b, _, _, e, _⟩ := h.rp; exact ⟨b, e⟩
  obtain ⟨x, hx⟩ : ∃ x, x = w.heap.size := ⟨_, rfl⟩
  obtain ⟨W1, hW1⟩ : ∃ W1, W1 = w.alloc (.cells #[.int .i64 p.kind, .int .i64 p.n, .int .i64 p.m, .slice bo p.b.length bc, nmv p.name, .slice po p.picks.length pc] 39) := ⟨_, rfl⟩
  have HB1 : Hid (Below w.heap.size w W1) := Lib.hid (by rw [hW1]; exact below1 _ _)
  have HX1 : Hid (XB W1 x (.int .i64 p.kind) (.int .i64 p.n) (.int .i64 p.m) (.slice bo p.b.length bc) (nmv p.name) (.slice po p.picks.length pc)) := Lib.hid ⟨by rw [hW1, hx]; exact heap_alloc_new w _⟩
  have HO1 := Lib.hid (h.below HB1.out)
  have HBW1 : Hid (B ≤ W1.heap.size) := Nat.le_trans HBW.out HB1.out.size
  have HXU : Hid (¬ U x) := Lib.hid (fun e => by have := (h.lp.lt x e).2; omega)
  have HXV : Hid (¬ V x) := Lib.hid (fun e => by have := (h.rp.lt x e).2; omega)
  have HUB : Hid (Below B w W1) := Lib.hid (HB1.out.mono HBW.out)
  have cx : W1.cell? ⟨x, 0, none⟩ = some (.int .i64 1) := by rw [← hkind]; exact HX1.out.c0
  have HWD : Hid (Below W1.heap.size W1 W1.drew) := (Below.refl _ W1).drew
  have HOD := Lib.hid (HO1.out.below HWD.out)
  have HXD := Lib.hid (HX1.out.below HWD.out)
  have HBWD : Hid (B ≤ W1.drew.heap.size) := Nat.le_trans HBW1.out HWD.out.size
  have HUD : Hid (Below B w W1.drew) := Lib.hid (HUB.out.trans (HWD.out.mono HBW1.out))
  have b2 := HO1.out.c2
  have b3 := HO1.out.c3
  clear h hT hb hpi hE hw hp hd ht hkind
  unfold woV
  go_enter Tryz.func15, Tryz.ntmps15
  go_upto_region 1 with (fail)
  rw [← hW1, ← hx]
  clear hW1 hx
  have HNB : Hid (p.b.length ≤ 140737488355328) := Lib.hid (by have := hbl; omega)
  have x3 := HX1.out.c3
  clear hbl
  go_upto_region 16 with (go_at_call 26; (refine (copyBytes_any (HPB.out.below HB1.out) HNB.out).mono ?_); rintro e w2 ⟨io, ic, rfl, ho2, hb2⟩; have HO2 := Lib.hid ho2; have HB2 := Lib.hid hb2; clear ho2 hb2)
  have HOD2 := Lib.hid (HO1.out.below HB2.out)
  have HXD2 := Lib.hid (HX1.out.below HB2.out)
  have HBW2 : Hid (B ≤ w2.heap.size) := Nat.le_trans HBW1.out HB2.out.size
  have HUD2 : Hid (Below B w w2) := Lib.hid (HUB.out.trans (HB2.out.mono HBW1.out))
  have HT2 : Hid (Tabs w2) := Lib.hid (HT.out.on (HUD2.out.mono h6))
  have HIN : Hid (SB (fun j => W1.heap.size ≤ j ∧ j < w2.heap.size) w2 io p.b.length ic p.b) := Lib.hid ((own_sb HO2.out).mono fun j _ hj => HO2.out.lt j hj)
  have HINE : Hid (∀ j, (W1.heap.size ≤ j ∧ j < w2.heap.size) → j < w2.heap.size ∧ ¬ U j) := Lib.hid (fun j hj => ⟨hj.2, fun e => by have := (HO1.out.lp.lt j e).2; omega⟩)
  have c2 := HOD2.out.c2
  clear x3 b2 b3
  go_upto_region 17 with (go_at_call 25; (refine (lp_append HOD2.out.lp HBW2.out HT2.out h6 HP.out.1 HP.out.2.2 HD2.out HIN.out HINE.out).mono ?_); rintro e w3 ⟨rfl, U3, hl3, hg3⟩; have HL2 := Lib.hid hl3; have HG2 := Lib.hid hg3; clear hl3 hg3)
  clear c2
  have HWM : Hid (Went V w3 w3.drew V) := went_below (Below.refl _ w3).drew
  have HRM : Hid (RP B w3.drew (ptr mb) c (some lg) d V) := Lib.hid ((HOD2.out.rp1 HG2.out).tn (Tn.of_below (S := fun _ => False) (Below.refl _ w3).drew) (fun _ _ e => e))
  have HBM : Hid (B ≤ w3.drew.heap.size) := Nat.le_trans HBW2.out HG2.out.tn.size
  have HPM : Hid (SB E w3.drew bo p.b.length bc p.b) := Lib.hid ((((HPB.out.below HB1.out).below HB2.out).tn HG2.out.tn (fun j hj e => by have := HE.out j hj; have := (HOD2.out.lp.lt j e).1; omega)).below (Below.refl _ w3).drew)
  have HEM : Hid (∀ j, E j → j < w3.drew.heap.size ∧ ¬ V j) := Lib.hid (fun j hj => ⟨Nat.lt_of_lt_of_le (HE.out j hj) HBM.out, fun e => by have := HE.out j hj; have := (HRM.out.lt j e).1; omega⟩)
  have ck : w3.drew.cell? ⟨k, 3, none⟩ = some (ptr mb) := HG2.out.tn.cell HOD2.out.c3 HOD2.out.ku
  have xx : w3.drew.cell? ⟨x, 3, none⟩ = some (.slice bo p.b.length bc) := HG2.out.tn.cell HXD2.out.c3 HXU.out
  go_region_held (fun w' => w'.cell? ⟨k, 3, none⟩ = some (ptr mb) ∧ w'.cell? ⟨x, 3, none⟩ = some (.slice bo p.b.length bc)) (exact ⟨ck, xx⟩) (first
    | (go_at_call 46; (refine (rp_append HRM.out HBM.out HP.out.1 HP.out.2.1 HP.out.2.2 HD2.out HPM.out HEM.out).mono ?_); rintro e w4 ⟨rfl, V4, hr4, hg4⟩; have HR3 := Lib.hid hr4; have HG4 := Lib.hid hg4; have HG3 := Lib.hid (HWM.out.trans hg4); have ck := hg4.tn.cell ck HOD2.out.kv; have xx := hg4.tn.cell xx HXV.out; clear hr4 hg4))
  have hbo := HOD2.out.both HL2.out HG2.out HR3.out HG3.out
  have hun := HUD2.out.trans (HOD2.out.went HG2.out HG3.out)
  have HBO := Lib.hid hbo
  have HUN := Lib.hid hun
  have HS4 : Hid (Tn (fun j => U j ∨ V j) w2 w4) := Lib.hid ((HG2.out.tn.mono (fun _ _ e => .inl e)).trans (HG3.out.tn.mono (fun _ _ e => .inr e)) (fun _ _ e => e))
  have HNI : Hid (∀ j, (W1.heap.size ≤ j ∧ j < w2.heap.size) → ¬ (U j ∨ V j)) := Lib.hid (fun j hj e => by rcases e with e | e; (have := (HO1.out.lp.lt j e).2; omega); (have := (HO1.out.rp.lt j e).2; omega))
  have HIN4 : Hid (SB (fun j => W1.heap.size ≤ j ∧ j < w2.heap.size) w4 io p.b.length ic p.b) := Lib.hid (HIN.out.tn HS4.out HNI.out)
  have HPB4 : Hid (SB E w4 bo p.b.length bc p.b) := Lib.hid (HPB.out.on2 HUN.out HE.out)
  have HON4 : Hid (w4.ownsRow W1.heap.size 5 1 (.slice io p.b.length ic) p.b.length (bys p.b)) := Lib.hid (own_tn HO2.out HS4.out (fun j hj => HNI.out j (HO2.out.lt j hj)))
  have HNU : Hid (∀ j, (W1.heap.size ≤ j ∧ j < w2.heap.size) → ¬ U3 j ∧ ¬ V4 j) := Lib.hid (fun j hj => by
    have h1 := HNI.out j hj
    refine ⟨fun e => ?_, fun e => ?_⟩
    · rcases HG2.out.sub j e with e2 | e2
      · exact h1 (.inl e2)
      · omega
    · rcases HG3.out.sub j e with e2 | e2
      · exact h1 (.inr e2)
      · have := HG2.out.tn.size; omega)
  have x3 := xx
  clear hbo hun ck xx
  go_upto_region 19 with (go_at_call 40; (refine (bytes_any HIN4.out HPB4.out).mono ?_); rw [beq_self_eq_true]; rintro e w5 ⟨rfl, hww⟩; obtain rfl := hww)
  clear x3
  go_wp2
  obtain ⟨nb, hnb⟩ : ∃ nb, nb = p.b.length := ⟨_, rfl⟩
  have HNBB := Lib.hid hnb
  rw [← hnb]
  have HNLT : Hid (nb ≤ 140737488355328) := Lib.hid (by rw [hnb]; exact HNB.out)
  clear hnb
  go_loopg [11] nb (fun gk v11 wr => ∃ j, gk + j = nb ∧ v11 = .int .i64 (j : Int) ∧ Hid (Bo B wr k (ptr la) (ptr mb) dp c dir seg (some (lg.append d p.b).1) (lg.append d p.b).2.1 U3 V4) ∧ Hid (Below B w wr) ∧ Hid (∀ g, io = some g → ∃ cs, wr.heap[g.block]? = some (.cells cs 5 (0, 0)) ∧ nb ≤ cs.size))
  case atStart => exact ⟨0, rfl, rfl, HBO, HUN, Lib.hid (fun g hg => by
    rcases HON4.out.2 with ⟨e, _⟩ | ⟨g2, c2, cs, e, _, h2, h3, _, h5, _⟩
    · injection e with e1; rw [hg] at e1; cases e1
    · injection e with e1
      rw [hg] at e1
      obtain rfl := Option.some.inj e1
      exact ⟨cs, h2, by rw [HNBB.out]; omega⟩)⟩
  case round =>
    obtain ⟨j, hj, rfl, HBO, HUN, HCE⟩ := hrel
    by_cases hjn : j < nb
    · have hlt : decide ((j : Int) < (nb : Int)) = true := decide_eq_true (by omega)
      have hlt2 : (j : Int) < (nb : Int) := by omega
      obtain ⟨g, cp, hv⟩ := own_shape HON4.out (by have := HNBB.out; omega)
      obtain ⟨hv1, hv2⟩ : io = some ⟨g, 0, none⟩ ∧ cp = ic := by cases hv; exact ⟨rfl, rfl⟩
      subst hv2
      clear hv
      obtain ⟨cs, hcs, hsz⟩ := HCE.out _ hv1
      have hcs : wr.heap[g]? = some (.cells cs 5 (0, 0)) := hcs
      have cg : wr.cell? ⟨g, j, none⟩ = some (cs[j]'(by omega)) := by
        have : j < cs.size := by omega
        simp [World.cell?, hcs, this]
      have fz : wr.frozen? ⟨g, j, none⟩ = false := frozen_zero hcs
      have HI := Lib.hid hv1
      have hgr := HO2.out.lt g (by rw [hv1]; rfl)
      have HGR := Lib.hid hgr
      have HCS := Lib.hid hcs
      have HSZ := Lib.hid hsz
      have hni2 : Hid (wrap64 ((j : Int) + 1) = ((j + 1 : Nat) : Int)) := Lib.hid (by have := HNLT.out; unfold wrap64; omega)
      obtain ⟨gk2, rfl⟩ : ∃ gk2, gk = gk2 + 1 := ⟨gk - 1, by omega⟩
      subst hv1
      clear hgr hcs
      go_wp2
      have hTg : Tn (· = g) wr (wr.setCell ⟨g, j, none⟩ (.int .u8 88)) := tn_set (Tn.refl _ _) _
      have HTG := Lib.hid hTg
      have hgB : B ≤ g := Nat.le_trans HBW1.out HGR.out.1
      have HGB := Lib.hid hgB
      have hkg : ¬ k = g := fun e => by have := HO1.out.lt; have := HGR.out.1; omega
      have HKG := Lib.hid hkg
      have HHS := Lib.hid (heap_set (o := j) HCS.out (.int .u8 88) rfl)
      clear hTg hgB hkg cg fz hlt hlt2 hsz
      go_roundg gk2
      case measure => omega
      case rel => rw [hni2.out]; exact ⟨j + 1, by omega, rfl, Lib.hid (HBO.out.tn HTG.out (fun q hq e => (HNU.out q (e ▸ HGR.out)).1 hq) (fun q hq e => (HNU.out q (e ▸ HGR.out)).2 hq) HKG.out), Lib.hid (HUN.out.trans (HTG.out.below (Nat.le_trans HBW.out HUN.out.size) (fun q hq => hq ▸ HGB.out))), Lib.hid (fun g3 hg3 => by
        obtain rfl := Option.some.inj hg3
        exact ⟨_, HHS.out, by have := HSZ.out; simpa using this⟩)⟩
    · have hlt : decide ((j : Int) < (nb : Int)) = false := decide_eq_false (by omega)
      have hlt2 : ¬ (j : Int) < (nb : Int) := by omega
      go_wp2
      go_ret
      rw [HST.out]
      exact ⟨by simp, _, _, _, _, HBO.out, HUN.out⟩
set_option maxRecDepth 100000 in
set_option maxHeartbeats 8000000 in
theorem does_N (h : Bo B w k lv mv dp c dir seg none d U V) (hT : Tabs w) (h6 : 6 ≤ B) (hp : True) (ht : tot d.f ≤ 60000) (hd : d.done ≤ 900000000) (hw : p.wf) (hkind : (p.kind == 6) = false ∧ (p.kind == 7) = false ∧ (p.kind == 8) = false ∧ (p.kind == 9) = false)
    (hb : SB E w bo p.b.length bc p.b) (hpi : SI E w po p.picks.length pc p.picks) (hE : ∀ j, E j → j < B) :
    Calls Tryz.prog 15 #[ptr k, woV p bo bc po pc] w (Did B k dp c dir seg w (pStep dir seg (none, d) p)) := by
  have _h6 := h6
  have HST : Hid (pStep dir seg (none, d) p = (none, d)) := Lib.hid (by unfold pStep; have h6 : p.kind ≠ 6 := fun e => (by rw [e] at hkind; exact absurd hkind.1 (by decide)); have h7 : p.kind ≠ 7 := fun e => (by rw [e] at hkind; exact absurd hkind.2.1 (by decide)); have h8 : p.kind ≠ 8 := fun e => (by rw [e] at hkind; exact absurd hkind.2.2.1 (by decide)); have h9 : p.kind ≠ 9 := fun e => (by rw [e] at hkind; exact absurd hkind.2.2.2 (by decide)); rw [if_neg h6, if_neg h7, if_neg h8, if_neg h9])
  have HO := Lib.hid h
  have HT := Lib.hid hT
  have HPI := Lib.hid hpi
  have HPB := Lib.hid hb
  have HE := Lib.hid hE
  have HBW : Hid (B ≤ w.heap.size) := Nat.le_trans h.kb (Nat.le_of_lt h.lt)
  have HW := Lib.hid hw
  have HP := Lib.hid hp
  have HTO := Lib.hid ht
  have HD := Lib.hid hd
  have HD2 : Hid (d.done ≤ 1000000000) := Nat.le_trans hd (by decide)
  obtain ⟨hk6, hk7, hk8, hk9⟩ := hkind
  obtain rfl : mv = .pointer none := h.rp.1
  obtain ⟨x, hx⟩ : ∃ x, x = w.heap.size := ⟨_, rfl⟩
  obtain ⟨W1, hW1⟩ : ∃ W1, W1 = w.alloc (.cells #[.int .i64 p.kind, .int .i64 p.n, .int .i64 p.m, .slice bo p.b.length bc, nmv p.name, .slice po p.picks.length pc] 39) := ⟨_, rfl⟩
  have HB1 : Hid (Below w.heap.size w W1) := Lib.hid (by rw [hW1]; exact below1 _ _)
  have HX1 : Hid (XB W1 x (.int .i64 p.kind) (.int .i64 p.n) (.int .i64 p.m) (.slice bo p.b.length bc) (nmv p.name) (.slice po p.picks.length pc)) := Lib.hid ⟨by rw [hW1, hx]; exact heap_alloc_new w _⟩
  have HO1 := Lib.hid (h.below HB1.out)
  have HBW1 : Hid (B ≤ W1.heap.size) := Nat.le_trans HBW.out HB1.out.size
  have HXU : Hid (¬ U x) := Lib.hid (fun e => by have := (h.lp.lt x e).2; omega)
  have HXV : Hid (¬ V x) := Lib.hid (fun e => by have := (h.rp.lt x e).2; omega)
  have HUB : Hid (Below B w W1) := Lib.hid (HB1.out.mono HBW.out)
  have cx : W1.cell? ⟨x, 0, none⟩ = some (.int .i64 p.kind) := by rw [show p.kind = p.kind from rfl]; exact HX1.out.c0
  have HWD : Hid (Below W1.heap.size W1 W1.drew) := (Below.refl _ W1).drew
  have HOD := Lib.hid (HO1.out.below HWD.out)
  have HXD := Lib.hid (HX1.out.below HWD.out)
  have HBWD : Hid (B ≤ W1.drew.heap.size) := Nat.le_trans HBW1.out HWD.out.size
  have HUD : Hid (Below B w W1.drew) := Lib.hid (HUB.out.trans (HWD.out.mono HBW1.out))
  have b2 := HO1.out.c2
  have b3 := HO1.out.c3
  clear h hT hb hpi hE hw hp hd ht 
  unfold woV
  go_enter Tryz.func15, Tryz.ntmps15
  go_upto_region 1 with (fail)
  rw [← hW1, ← hx]
  clear hW1 hx
  go_wp2
  go_ret
  rw [HST.out]
  exact ⟨rfl, _, _, _, _, HO1.out, HUB.out⟩
set_option maxRecDepth 100000 in
set_option maxHeartbeats 8000000 in
theorem does_E (h : Bo B w k lv mv dp c dir seg (some lg) d U V) (hT : Tabs w) (h6 : 6 ≤ B) (hp : Pl n T lg d ∧ T ≤ 60000 ∧ n ≤ 999998) (ht : tot d.f ≤ 60000) (hd : d.done ≤ 900000000) (hw : p.wf) (hkind : (p.kind == 6) = false ∧ (p.kind == 7) = false ∧ (p.kind == 8) = false ∧ (p.kind == 9) = false ∧ (p.kind == 1) = false ∧ (p.kind == 2) = false ∧ (p.kind == 3) = false ∧ (p.kind == 4) = false ∧ (p.kind == 5) = false)
    (hb : SB E w bo p.b.length bc p.b) (hpi : SI E w po p.picks.length pc p.picks) (hE : ∀ j, E j → j < B) :
    Calls Tryz.prog 15 #[ptr k, woV p bo bc po pc] w (Did B k dp c dir seg w (pStep dir seg ((some lg), d) p)) := by
  have _h6 := h6
  have HST : Hid (pStep dir seg ((some lg), d) p = (some lg, d)) := Lib.hid (by unfold pStep; obtain ⟨k6, k7, k8, k9, k1, k2, k3, k4, k5⟩ := hkind; have h6 : p.kind ≠ 6 := fun e => (by rw [e] at k6; exact absurd k6 (by decide)); have h7 : p.kind ≠ 7 := fun e => (by rw [e] at k7; exact absurd k7 (by decide)); have h8 : p.kind ≠ 8 := fun e => (by rw [e] at k8; exact absurd k8 (by decide)); have h9 : p.kind ≠ 9 := fun e => (by rw [e] at k9; exact absurd k9 (by decide)); have h1 : p.kind ≠ 1 := fun e => (by rw [e] at k1; exact absurd k1 (by decide)); have h2 : p.kind ≠ 2 := fun e => (by rw [e] at k2; exact absurd k2 (by decide)); have h3 : p.kind ≠ 3 := fun e => (by rw [e] at k3; exact absurd k3 (by decide)); have h4 : p.kind ≠ 4 := fun e => (by rw [e] at k4; exact absurd k4 (by decide)); have h5 : p.kind ≠ 5 := fun e => (by rw [e] at k5; exact absurd k5 (by decide)); rw [if_neg h6, if_neg h7, if_neg h8, if_neg h9]; show (if p.kind = 1 then _ else _) = _; rw [if_neg h1, if_neg h2, if_neg h3])
  have HO := Lib.hid h
  have HT := Lib.hid hT
  have HPI := Lib.hid hpi
  have HPB := Lib.hid hb
  have HE := Lib.hid hE
  have HBW : Hid (B ≤ w.heap.size) := Nat.le_trans h.kb (Nat.le_of_lt h.lt)
  have HW := Lib.hid hw
  have HP := Lib.hid hp
  have HTO := Lib.hid ht
  have HD := Lib.hid hd
  have HD2 : Hid (d.done ≤ 1000000000) := Nat.le_trans hd (by decide)
  obtain ⟨la, rfl⟩ : ∃ la, lv = ptr la := by obtain ⟨a, _, _, e, _⟩ := h.lp; exact ⟨a, e⟩
  obtain ⟨mb, rfl⟩ : ∃ mb, mv = ptr mb := by obtain ⟨b, _, _, e, _⟩ := h.rp; exact ⟨b, e⟩
  obtain ⟨hk6, hk7, hk8, hk9, hk1, hk2, hk3, hk4, hk5⟩ := hkind
  obtain ⟨x, hx⟩ : ∃ x, x = w.heap.size := ⟨_, rfl⟩
  obtain ⟨W1, hW1⟩ : ∃ W1, W1 = w.alloc (.cells #[.int .i64 p.kind, .int .i64 p.n, .int .i64 p.m, .slice bo p.b.length bc, nmv p.name, .slice po p.picks.length pc] 39) := ⟨_, rfl⟩
  have HB1 : Hid (Below w.heap.size w W1) := Lib.hid (by rw [hW1]; exact below1 _ _)
  have HX1 : Hid (XB W1 x (.int .i64 p.kind) (.int .i64 p.n) (.int .i64 p.m) (.slice bo p.b.length bc) (nmv p.name) (.slice po p.picks.length pc)) := Lib.hid ⟨by rw [hW1, hx]; exact heap_alloc_new w _⟩
  have HO1 := Lib.hid (h.below HB1.out)
  have HBW1 : Hid (B ≤ W1.heap.size) := Nat.le_trans HBW.out HB1.out.size
  have HXU : Hid (¬ U x) := Lib.hid (fun e => by have := (h.lp.lt x e).2; omega)
  have HXV : Hid (¬ V x) := Lib.hid (fun e => by have := (h.rp.lt x e).2; omega)
  have HUB : Hid (Below B w W1) := Lib.hid (HB1.out.mono HBW.out)
  have cx : W1.cell? ⟨x, 0, none⟩ = some (.int .i64 p.kind) := by rw [show p.kind = p.kind from rfl]; exact HX1.out.c0
  have HWD : Hid (Below W1.heap.size W1 W1.drew) := (Below.refl _ W1).drew
  have HOD := Lib.hid (HO1.out.below HWD.out)
  have HXD := Lib.hid (HX1.out.below HWD.out)
  have HBWD : Hid (B ≤ W1.drew.heap.size) := Nat.le_trans HBW1.out HWD.out.size
  have HUD : Hid (Below B w W1.drew) := Lib.hid (HUB.out.trans (HWD.out.mono HBW1.out))
  have b2 := HO1.out.c2
  have b3 := HO1.out.c3
  clear h hT hb hpi hE hw hp hd ht 
  unfold woV
  go_enter Tryz.func15, Tryz.ntmps15
  go_upto_region 1 with (fail)
  rw [← hW1, ← hx]
  clear hW1 hx
  go_wp2
  go_ret
  rw [HST.out]
  exact ⟨rfl, _, _, _, _, HO1.out, HUB.out⟩
end
end Go.Proofs.YtkilkhnoldfhcaaGreatDoor
