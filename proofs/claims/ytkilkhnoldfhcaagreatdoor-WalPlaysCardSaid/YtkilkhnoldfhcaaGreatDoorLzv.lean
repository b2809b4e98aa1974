/- racelaw7.opens: both are opened. Conditions: disks of few bytes. racelaw7's both: any operation, and what stands behind it. Conditions: what a play keeps to. -/
import Derived.Test.YtkilkhnoldfhcaaGreatDoorLzu
import Derived.Test.YtkilkhnoldfhcaaGreatDoorLzo
import Derived.Test.YtkilkhnoldfhcaaGreatDoorLzw
namespace Go.Proofs.YtkilkhnoldfhcaaGreatDoor
open Go.RowKit
section
variable {B : Nat} {w w1 w2 w3 : World} {k dp c : Nat} {lv mv lv' mv' : Value} {dir : Nm} {seg : Int} {o o' : Option Lg} {d d' : Dk} {U V U' V' S : Nat → Prop}
theorem Bo.opened (h : Bo B w1 k lv mv dp c dir seg o d U V) (hl : LP B w2 lv' dp o' d' U') (hg : Went U w1 w2 U') (hr : RP B w3 mv' c o' d' V') (hg2 : Went V w2 w3 V') :
    Bo B ((w3.setCell ⟨k, 2, none⟩ lv').setCell ⟨k, 3, none⟩ mv') k lv' mv' dp c dir seg o' d' U' V' := by
  obtain ⟨h1, h2, h3, h4, h5⟩ := h.apart hl hg hr hg2
  have ht : Tn (· = k) w3 ((w3.setCell ⟨k, 2, none⟩ lv').setCell ⟨k, 3, none⟩ mv') := tn_set (tn_set (Tn.refl _ _) _) _
  exact ⟨heap_set (o := 3) (heap_set (o := 2) h5 lv' rfl) mv' rfl, h1.tn ht (fun j hj e => h3 (e ▸ hj)), hr.tn ht (fun j hj e => h4 (e ▸ hj)), h2, h3, h4, h.kb⟩
theorem lp_opened (h : LP B w lv dp o d U) (hB : B ≤ w.heap.size) (hT : Tabs w) (h6 : 6 ≤ B) (hdl : dir.length ≤ 1000) (hroom : tot d.f ≤ 60000) (hd : d.done ≤ 1000000000) :
    Calls Tryz.prog 23 #[ptr dp, nmv dir, .int .i64 seg] w fun e w' => ∃ lv' U', e = .returned (.tuple #[lv', .int .i64 ((openL dir seg d).2.2 : Int)]) ∧ LP B w' lv' dp (openL dir seg d).1 (openL dir seg d).2.1 U' ∧ Went U w w' U' := by
  obtain ⟨S, hk, hS, _⟩ := h.turn hB
  refine (lopen_any hk (fun j hj => (h.lt j (hS j hj)).1) hB hT h6 dir hdl seg (Nat.le_trans hroom (by decide)) hd).mono ?_
  intro e w' ho
  have hw : ∀ {X : Nat → Prop}, Went S w w' X → Went U w w' X := fun hg => ⟨hg.tn.mono (fun j _ e => hS j e), fun j hj => (hg.sub j hj).elim (fun e => .inl (hS j e)) .inr⟩
  unfold Opened at ho
  cases hr : (openL dir seg d).1 with
  | some lg =>
    rw [hr] at ho
    obtain ⟨h0, a, C, S', rfl, hwl, hg⟩ := ho
    exact ⟨ptr a, _, by rw [h0]; rfl, ⟨a, C, S', rfl, hwl, rfl⟩, hw hg⟩
  | none =>
    rw [hr] at ho
    obtain ⟨h0, rfl, S', hd', hs', hg⟩ := ho
    exact ⟨_, S', rfl, ⟨rfl, hd', hs'⟩, hw hg⟩
theorem rp_opened (h : RP B w mv c o d V) (hok : Ok d) (hB : B ≤ w.heap.size) (hdl : dir.length ≤ 1000) (hroom : tot d.f ≤ 60000) (hd : d.done ≤ 1000000000) :
    Calls Tryz.prog 41 #[ptr c, nmv dir, .int .i64 seg] w fun e w' => ∃ mv' V', e = .returned (.tuple #[mv', .int .i64 ((openL dir seg d).2.2 : Int)]) ∧ RP B w' mv' c (openL dir seg d).1 (openL dir seg d).2.1 V' ∧ Went V w w' V' := by
  obtain ⟨S, hk, hS, _⟩ := h.turn hB
  refine (rlopen_any hk hok (fun j hj => (h.lt j (hS j hj)).1) hB dir hdl seg hroom hd).mono ?_
  intro e w' ho
  have hw : ∀ {X : Nat → Prop}, Went S w w' X → Went V w w' X := fun hg => ⟨hg.tn.mono (fun j _ e => hS j e), fun j hj => (hg.sub j hj).elim (fun e => .inl (hS j e)) .inr⟩
  unfold ROpened at ho
  cases hr : (openL dir seg d).1 with
  | some lg =>
    rw [hr] at ho
    obtain ⟨h0, a, C, S', rfl, hwl, hg⟩ := ho
    exact ⟨ptr a, _, by rw [h0]; rfl, ⟨a, C, S', rfl, hwl, rfl⟩, hw hg⟩
  | none =>
    rw [hr] at ho
    obtain ⟨h0, rfl, S', hd', hs', hg⟩ := ho
    exact ⟨_, S', rfl, ⟨rfl, hd', hs'⟩, hw hg⟩
theorem LP.ok (h : LP B w lv dp o d U) : Ok d := by
  unfold LP at h
  cases o with
  | some lg => obtain ⟨_, _, _, _, hw, _⟩ := h; exact hw.dk.ok
  | none => exact h.2.1.ok
set_option maxRecDepth 100000 in
set_option maxHeartbeats 8000000 in
theorem opens_any (h6 : 6 ≤ B) (hdl : dir.length ≤ 1000) : OpensOk B k dp c dir seg := by
  intro w lv mv o d U V h hT ht hd
  have HO := Lib.hid h
  have HT := Lib.hid hT
  have HTO := Lib.hid ht
  have HD2 : Hid (d.done ≤ 1000000000) := Nat.le_trans hd (by decide)
  have HOK := Lib.hid h.lp.ok
  have HDL := Lib.hid hdl
  have HBW : Hid (B ≤ w.heap.size) := Nat.le_trans h.kb (Nat.le_of_lt h.lt)
  have HWD : Hid (Below w.heap.size w w.drew) := (Below.refl _ w).drew
  have HOD := Lib.hid (h.below HWD.out)
  have HBWD : Hid (B ≤ w.drew.heap.size) := Nat.le_trans HBW.out HWD.out.size
  have HUD : Hid (Below B w w.drew) := Lib.hid (HWD.out.mono HBW.out)
  have HTD := Lib.hid (hT.below HWD.out)
  have c0 := HOD.out.c0
  have c4 := HOD.out.c4
  have c5 := HOD.out.c5
  obtain ⟨r, hr⟩ : ∃ r, openL dir seg d = r := ⟨_, rfl⟩
  have HR := Lib.hid hr
  rw [hr]
  clear h hT ht hd hdl hr
  go_enter Tryz.func14, Tryz.ntmps14
  go_upto_region 1 with (fail)
  go_region_held (fun w' => w'.cell? ⟨k, 0, none⟩ = some (ptr dp) ∧ w'.cell? ⟨k, 4, none⟩ = some (nmv dir) ∧ w'.cell? ⟨k, 5, none⟩ = some (.int .i64 seg)) (exact ⟨c0, c4, c5⟩) (first
    | (go_at_call 23; (refine (lp_opened HOD.out.lp HBWD.out HTD.out h6 HDL.out HTO.out HD2.out).mono ?_); rw [HR.out]; rintro e w2 ⟨lv2, U2, rfl, hl2, hg2⟩; have HL2 := Lib.hid hl2; have HG2 := Lib.hid hg2; have c0 := hg2.tn.cell c0 HOD.out.ku; have c4 := hg2.tn.cell c4 HOD.out.ku; have c5 := hg2.tn.cell c5 HOD.out.ku; clear hl2 hg2))
  clear c0 c4 c5
  go_upto_region 2 with (fail)
  have HWM : Hid (Went V w2 w2.drew V) := went_below (Below.refl _ w2).drew
  have HRM : Hid (RP B w2.drew mv c o d V) := Lib.hid ((HOD.out.rp1 HG2.out).tn (Tn.of_below (S := fun _ => False) (Below.refl _ w2).drew) (fun _ _ e => e))
  have HBM : Hid (B ≤ w2.drew.heap.size) := Nat.le_trans HBWD.out HG2.out.tn.size
  have c1 : w2.drew.cell? ⟨k, 1, none⟩ = some (ptr c) := HG2.out.tn.cell HOD.out.c1 HOD.out.ku
  have c4 : w2.drew.cell? ⟨k, 4, none⟩ = some (nmv dir) := HG2.out.tn.cell HOD.out.c4 HOD.out.ku
  have c5 : w2.drew.cell? ⟨k, 5, none⟩ = some (.int .i64 seg) := HG2.out.tn.cell HOD.out.c5 HOD.out.ku
  go_region_held (fun w' => w'.cell? ⟨k, 1, none⟩ = some (ptr c) ∧ w'.cell? ⟨k, 4, none⟩ = some (nmv dir) ∧ w'.cell? ⟨k, 5, none⟩ = some (.int .i64 seg)) (exact ⟨c1, c4, c5⟩) (first
    | (go_at_call 41; (refine (rp_opened HRM.out HOK.out HBM.out HDL.out HTO.out HD2.out).mono ?_); rw [HR.out]; rintro e w3 ⟨mv3, V3, rfl, hr3, hg3⟩; have HR3 := Lib.hid hr3; have HG3 := Lib.hid (HWM.out.trans hg3); have c1 := hg3.tn.cell c1 HOD.out.kv; have c4 := hg3.tn.cell c4 HOD.out.kv; have c5 := hg3.tn.cell c5 HOD.out.kv; clear hr3 hg3))
  clear c1 c4 c5
  have HBO := Lib.hid (HOD.out.opened HL2.out HG2.out HR3.out HG3.out)
  have HUN := Lib.hid (HUD.out.trans (HOD.out.went HG2.out HG3.out))
  obtain ⟨_, _, _, _, hbx⟩ := HOD.out.apart HL2.out HG2.out HR3.out HG3.out
  have c2 : w3.cell? ⟨k, 2, none⟩ = some lv := by simp [World.cell?, hbx]
  have c3 : w3.cell? ⟨k, 3, none⟩ = some mv := by simp [World.cell?, hbx]
  have f2 : w3.frozen? ⟨k, 2, none⟩ = false := frozen_zero hbx
  have f3 : w3.frozen? ⟨k, 3, none⟩ = false := frozen_zero hbx
  have HKB : Hid (B ≤ k) := HO.out.kb
  have HBW3 : Hid (B ≤ w3.heap.size) := Nat.le_trans HBM.out (HG3.out.tn.size)
  clear hbx
  have HEND : Hid (Below B w3 ((w3.setCell ⟨k, 2, none⟩ lv2).setCell ⟨k, 3, none⟩ mv3)) := Lib.hid ((tn_set (tn_set (Tn.refl (· = k) w3) lv2) mv3).below HBW3.out (fun j e => e ▸ HKB.out))
  cases ho : r.1 with
  | some lg =>
    obtain ⟨a2, rfl⟩ : ∃ a2, lv2 = ptr a2 := by have e := HL2.out; rw [ho] at e; obtain ⟨a, _, _, e2, _⟩ := e; exact ⟨a, e2⟩
    obtain ⟨b3, rfl⟩ : ∃ b3, mv3 = ptr b3 := by have e := HR3.out; rw [ho] at e; obtain ⟨a, _, _, e2, _⟩ := e; exact ⟨a, e2⟩
    have HHO := Lib.hid ho
    clear ho
    go_wp2
    go_ret
    exact ⟨by simp, _, _, _, _, HBO.out, HUN.out.trans HEND.out⟩
  | none =>
    obtain rfl : lv2 = .pointer none := by have e := HL2.out; rw [ho] at e; exact e.1
    obtain rfl : mv3 = .pointer none := by have e := HR3.out; rw [ho] at e; exact e.1
    have HHO := Lib.hid ho
    clear ho
    go_wp2
    go_ret
    exact ⟨by simp, _, _, _, _, HBO.out, HUN.out.trans HEND.out⟩
end
end Go.Proofs.YtkilkhnoldfhcaaGreatDoor
namespace Go.Proofs.YtkilkhnoldfhcaaGreatDoor
open Go.RowKit
section
variable {B : Nat} {w w1 : World} {k dp c n T D : Nat} {lv mv : Value} {dir : Nm} {seg : Int} {o : Option Lg} {d : Dk} {U V E S : Nat → Prop} {p : Wo} {bo po : Option Addr} {bc pc : Nat}
theorem neb {x y : Int} (h : ¬ x = y) : (x == y) = false := by simpa using h
theorem does_any (h : Bo B w k lv mv dp c dir seg o d U V) (hT : Tabs w) (h6 : 6 ≤ B) (hp : Pi n T D dir seg o d) (hn : n ≤ 999990) (hT2 : T ≤ 60000) (hD : D ≤ 900000000) (hdl : dir.length ≤ 1000) (hw : p.wf) (hbl : p.b.length ≤ 20000) (hnl : p.kind = 9 → p.name.length ≤ 4)
    (hb : SB E w bo p.b.length bc p.b) (hpi : SI E w po p.picks.length pc p.picks) (hE : ∀ j, E j → j < B) :
    Calls Tryz.prog 15 #[ptr k, woV p bo bc po pc] w (Did B k dp c dir seg w (pStep dir seg (o, d) p)) := by
  have ht : tot d.f ≤ 60000 := Nat.le_trans hp.tot hT2
  have hd : d.done ≤ 900000000 := Nat.le_trans hp.done hD
  have hop := opens_any (B := B) (k := k) (dp := dp) (c := c) (seg := seg) h6 hdl
  by_cases k6 : p.kind = 6
  · exact does_6 h hT h6 trivial ht hd hw k6 hb hpi hE
  by_cases k7 : p.kind = 7
  · exact does_7 h hT h6 trivial ht hd hw k7 hb hpi hE hop
  by_cases k8 : p.kind = 8
  · exact does_8 h hT h6 trivial ht hd hw k8 hb hpi hE hop
  by_cases k9 : p.kind = 9
  · exact does_9 h hT h6 trivial ht hd hw k9 hb hpi hE (Nat.le_trans (hnl k9) (by decide))
  cases o with
  | none => exact does_N h hT h6 trivial ht hd hw ⟨neb k6, neb k7, neb k8, neb k9⟩ hb hpi hE
  | some lg =>
    have hl : Pl n T lg d ∧ T ≤ 60000 ∧ n ≤ 999998 := ⟨hp.log lg rfl, hT2, by omega⟩
    by_cases k1 : p.kind = 1
    · exact does_1 h hT h6 hl ht hd hw k1 hb hpi hE hbl
    by_cases k2 : p.kind = 2
    · exact does_2 h hT h6 hl ht hd hw k2 hb hpi hE
    by_cases k3 : p.kind = 3
    · exact does_3 h hT h6 hl ht hd hw k3 hb hpi hE
    by_cases k4 : p.kind = 4
    · exact does_4 h hT h6 hl ht hd hw k4 hb hpi hE
    by_cases k5 : p.kind = 5
    · exact does_5 h hT h6 hl ht hd hw k5 hb hpi hE
    · exact does_E h hT h6 hl ht hd hw ⟨neb k6, neb k7, neb k8, neb k9, neb k1, neb k2, neb k3, neb k4, neb k5⟩ hb hpi hE
theorem stands_any (h : Bo B w k lv mv dp c dir seg o d U V) (hp : Pi n T D dir seg o d) (hT2 : T ≤ 60000) : Calls Tryz.prog 16 #[ptr k] w fun e w' => e = .returned (.bool true) ∧ Below w.heap.size w w' := by
  cases o with
  | none => exact stands_none h
  | some lg => exact stands_some h ⟨hp.log lg rfl, hT2⟩
/-- The document's empty disk. -/
theorem rk_new (w : World) : RK (· = w.heap.size) (w.alloc (.cells #[.slice none 0 0, .bool false, .int .i64 0, .int .i64 0] 31)) w.heap.size .zero :=
  ⟨.slice none 0 0, [], ok_zero, by decide, heap_alloc_new w _, FO.nil _ _, rfl, fun j hj => by rw [hj]; simp⟩
/-- The box of both, before they are opened. -/
theorem bo_new {B : Nat} (hB : B ≤ w.heap.size) (hd : DK S w dp d) (hS : ∀ j, S j → B ≤ j) (hr : RK V w c d) (hV : ∀ j, V j → B ≤ j) (hsv : ∀ j, S j → ¬ V j) :
    Bo B (w.alloc (.cells #[ptr dp, ptr c, .pointer none, .pointer none, nmv dir, .int .i64 seg] 35)) w.heap.size (.pointer none) (.pointer none) dp c dir seg none d S V := by
  have hb := below1 w (.cells #[ptr dp, ptr c, .pointer none, .pointer none, nmv dir, .int .i64 seg] 35)
  exact ⟨heap_alloc_new w _, ⟨rfl, hd.below hb, hS⟩, ⟨rfl, hr.below hb, hV⟩, hsv, fun e => by have := hd.lt _ e; omega, fun e => by have := hr.lt _ e; omega, hB⟩
theorem Bo.okd (h : Bo B w k lv mv dp c dir seg o d U V) : Ok d := h.lp.ok
end
theorem weiw_take_le (l : List Wo) (k : Nat) : weiw (l.take k) ≤ weiw l := by
  have e : weiw l = weiw (l.take k) + weiw (l.drop k) := by
    unfold weiw
    conv => lhs; rw [← List.take_append_drop k l, List.map_append, List.sum_append]
  omega
/-- An operation, its name cut off. -/
def cutN (p : Wo) : Wo := if 4 < p.name.length ∧ p.kind = 9 then { p with name := p.name.take 4 } else p
theorem cutN_facts (p : Wo) (hw : p.wf) : (cutN p).wf ∧ (cutN p).b = p.b ∧ (cutN p).picks = p.picks ∧ ((cutN p).kind = 9 → (cutN p).name.length ≤ 4) ∧ (cutN p).kind = p.kind ∧ (cutN p).n = p.n ∧ (cutN p).m = p.m := by
  unfold cutN
  split
  · refine ⟨⟨hw.kind, hw.n, hw.m, ?_⟩, rfl, rfl, fun _ => ?_, rfl, rfl, rfl⟩
    · show (p.name.take 4).length ≤ maxLen
      rw [List.length_take]
      exact Nat.le_trans (Nat.min_le_right _ _) hw.name
    · show (p.name.take 4).length ≤ 4
      rw [List.length_take]
      exact Nat.min_le_left _ _
  · rename_i h
    exact ⟨hw, rfl, rfl, fun h9 => by omega, rfl, rfl, rfl⟩
section
variable {n T D i x : Nat} {dir : Nm} {seg : Int} {o : Option Lg} {d : Dk} {l : List Wo}
theorem play_pi {p : Wo} {W N : Nat} (h : Pi (64 + i) (W + 12 * i) (2 + 300 * i) dir seg o d) (hok : Ok d) (hn : 64 + i ≤ 999990) (hT : W + 12 * i + (p.b.length + 12) ≤ 60000) (hp : p.kind = 9 → p.name.length ≤ 4) (hw : N = W + (min p.b.length 20001 + min x 20001)) (hb : p.b.length ≤ 20000) (hi : i ≤ 200) :
    Pi (64 + (i + 1)) (N + 12 * (i + 1)) (2 + 300 * (i + 1)) dir seg (pStep dir seg (o, d) p).1 (pStep dir seg (o, d) p).2 :=
  (pi_step h hok (by omega) hn hT hp).mono (by omega) (by omega) (by omega)
theorem ext_take (s : Nm) (n : Nat) : (⟨s.toArray⟩ : ByteArray).extract 0 n = ⟨(s.take n).toArray⟩ := by
  apply ByteArray.ext
  rw [ByteArray.data_extract]
  simp
theorem si_on {B : Nat} {C : Nat → Prop} {w w' : World} {ao : Option Addr} {n cap : Nat} {l : List Int} (h : SI C w ao n cap l) (hb : Below B w w') (hC : ∀ k, C k → k < B) : SI C w' ao n cap l :=
  h.tn (S := fun j => B ≤ j) ⟨hb.os, hb.tape, hb.output, hb.size, fun k _ hn => hb.block k (Nat.lt_of_not_le hn)⟩ (fun k hk e => absurd (hC k hk) (Nat.not_lt.2 e))
end
end Go.Proofs.YtkilkhnoldfhcaaGreatDoor
