/- racelaw13.does: Send of both. Conditions: no more mails than there is room for, bytes as few operations have them. -/
import Derived.Test.YtcgbjpmmbbldpaaLb
namespace Go.Proofs.Ytcgbjpmmbbldpaa
open Go.ChangeShapes Go.WideShapes Go.ChangeAt Go.RowKit Go.Deep
theorem tn_low {B : Nat} {w w' : World} (hb : Below B w w') : Tn (fun k => B ≤ k) w w' := ⟨hb.os, hb.tape, hb.output, hb.size, fun k _ hn => hb.block k (by omega)⟩
theorem SB.low {B : Nat} {w w' : World} {ao : Option Addr} {n cap : Nat} {l : List UInt8} (h : SB (· < B) w ao n cap l) (hb : Below B w w') : SB (· < B) w' ao n cap l := h.tn (tn_low hb) (fun k h1 h2 => by omega)
theorem box_cells {w : World} {b : Nat} {o : OpN} {ao : Option Addr} {cap : Nat} (h : w.heap[b]? = some (opo o ao cap)) :
    w.cell? ⟨b, 0, none⟩ = some (.int .i64 o.k) ∧ w.cell? ⟨b, 1, none⟩ = some (.int .i64 o.a) ∧ w.cell? ⟨b, 2, none⟩ = some (.int .i64 o.b) ∧ w.cell? ⟨b, 3, none⟩ = some (.slice ao o.d.length cap) := by
  refine ⟨?_, ?_, ?_, ?_⟩ <;> simp [World.cell?, h]
theorem heap_new (w : World) (o : Obj) : (w.alloc o).heap[w.heap.size]? = some o := by
  show (Array.push w.heap _)[w.heap.size]? = some _
  exact Array.getElem?_push_size
section
variable {B n x : Nat} {w w' : World} {room : Int} {l ln lx : List MV} {C1 C2 S : Nat → Prop}
theorem NBB.tnn (h : NBB B w n x room ln lx C1 C2) (ht : Tn S w w') (h1 : ∀ k, C1 k → ¬ S k) (h2 : ∀ k, C2 k → ¬ S k) (hS : ∀ k, S k → B ≤ k) : NBB B w' n x room ln lx C1 C2 ∧ Below B w w' :=
  ⟨⟨h.hn.tn ht h1, h.hx.tn ht h2, h.dis, h.b1, h.b2, Nat.le_trans h.bw ht.size⟩, ht.below h.bw hS⟩
set_option maxRecDepth 100000 in
set_option maxHeartbeats 4000000 in
theorem does_1 (h : NB B w n x room l) (hok : Okn l) {a b : Int} {d : List UInt8} {ao : Option Addr} {cap : Nat} (hd : SB (· < B) w ao d.length cap d) (hdl : d.length ≤ 20000) :
    Calls Try.prog 11 #[ptr n, ptr x, opv ⟨1, a, b, d⟩ ao cap] w (Did B w n x room (sentL room l ⟨a, b, d⟩)) := by
  obtain ⟨C1, C2, h0⟩ := h
  have HLo := Lib.hid h0
  have hl6 : l.length ≤ 1000000 := Nat.le_trans hok.len (by decide)
  have h1 := h0.below (below1 w (opo ⟨1, a, b, d⟩ ao cap))
  have hw1 := below1 w (opo ⟨1, a, b, d⟩ ao cap)
  have hbx := heap_new w (opo ⟨1, a, b, d⟩ ao cap)
  have hsz : (w.alloc (opo ⟨1, a, b, d⟩ ao cap)).heap.size = w.heap.size + 1 := by simp
  obtain ⟨W1, hW1⟩ : ∃ W1, w.alloc (opo ⟨1, a, b, d⟩ ao cap) = W1 := ⟨_, rfl⟩
  rw [hW1] at h1 hw1 hbx hsz
  obtain ⟨q0, q1, q2, q3⟩ := box_cells hbx
  have HD1 := Lib.hid (hd.below hw1)
  have HCB := Lib.hid (copyBytes_any HD1.out (by omega))
  have HSN := fun w' (hn : NK C1 w' n room l) {ao' : Option Addr} {cap' : Nat} {D : Nat → Prop} (hs : SB D w' ao' d.length cap' d) => Lib.hid (show Calls Try.prog 14 #[ptr n, .int .i64 a, .int .i64 b, .slice ao' d.length cap'] w' (NWent C1 w' n room (sentL room l ⟨a, b, d⟩) (.int .i64 (sentE room l))) from nsend_any hn a b hs (by omega) hl6)
  have HSX := fun w' (hx : RN C2 w' x room l) {ao' : Option Addr} {cap' : Nat} {D : Nat → Prop} (hs : SB D w' ao' d.length cap' d) => Lib.hid (show Calls Try.prog 25 #[ptr x, .int .i64 a, .int .i64 b, .slice ao' d.length cap'] w' (RSent C2 w' x room (sentL room l ⟨a, b, d⟩) (sentE room l)) from rsend_any hx a b hs (by omega) hl6)
  generalize sentL room l ⟨a, b, d⟩ = l1 at *
  generalize sentE room l = e1 at *
  have H1 := Lib.hid h1
  have HW1 := Lib.hid hw1
  have HBX := Lib.hid hbx
  have HSZ := Lib.hid hsz
  simp only at q0 q1 q2 q3
  clear h0 hok hd h1 hbx hl6 hw1 hsz
  go_enter Try.func11, Try.ntmps11
  go_wp2_with (first
    | (go_at_call 24; refine (HCB.out).mono ?_; rintro e w2 ⟨io, ic, rfl, ho, hb⟩; have HO2 := Lib.hid ho; have HB2 := Lib.hid hb; have HBX2 := Lib.hid ((Tn.of_below (S := fun _ => False) hb).at_ HBX.out (fun e => e)); obtain ⟨q0, q1, q2, q3⟩ := box_cells HBX2.out; simp only at q0 q1 q2 q3; clear ho hb)
    | (go_at_call 14; refine (HSN _ (H1.out.hn.below HB2.out) (own_sb HO2.out)).out.mono ?_; rintro e w3 ⟨rfl, C1', h2, h3⟩; have HK3 := Lib.hid h2; have HW3 := Lib.hid h3; clear h2 h3)
    | fail)
  obtain ⟨hN3, hB3⟩ := (H1.out.below HB2.out).stepn HK3.out HW3.out
  have hC1 : ∀ k, C1 k → k < w.heap.size := HLo.out.hn.lt
  have hC2 : ∀ k, C2 k → k < w.heap.size := HLo.out.hx.lt
  have hsz1 := HSZ.out
  have hin : ∀ k, (Value.slice io d.length ic).ownBlock = some k → W1.heap.size ≤ k ∧ k < w2.heap.size := fun k hk => HO2.out.lt k hk
  have hBX3 := HW3.out.tn.at_ HBX2.out (fun e => by have := hC1 _ e; omega)
  have hn1 : ∀ k, C1' k → ¬ (Value.slice io d.length ic).ownBlock = some k := fun k h1 hk => by
    have h5 := hin k hk
    rcases HW3.out.new k h1 with h | h
    · have := hC1 k h; omega
    · omega
  have hn2 : ∀ k, C2 k → ¬ (Value.slice io d.length ic).ownBlock = some k := fun k h1 hk => by have h5 := hin k hk; have := hC2 k h1; omega
  have hnb : ∀ k, (Value.slice io d.length ic).ownBlock = some k → B ≤ k := fun k hk => by have h5 := hin k hk; have := HLo.out.bw; omega
  have hro : w3.ownsRow W1.heap.size 5 1 (.slice io d.length ic) d.length (bys d) := own_tn HO2.out HW3.out.tn (fun k hk e => by have := hC1 k e; have := hin k hk; omega)
  have HR : Hid (∃ xs, w3.ownsRow W1.heap.size 5 1 (.slice io d.length ic) d.length xs) := Lib.hid ⟨_, hro⟩
  have HB03 := Lib.hid (show Below B w w3 from (HW1.out.mono HLo.out.bw).trans ((HB2.out.mono (Nat.le_trans HLo.out.bw (by omega))).trans hB3))
  have HN3 := Lib.hid hN3
  have HBX3 := Lib.hid hBX3
  have HN1 := Lib.hid hn1
  have HN2 := Lib.hid hn2
  have HNB := Lib.hid hnb
  have HIN := Lib.hid hin
  have HBW1 := Lib.hid (show Below B W1 w3 from (HB2.out.mono (Nat.le_trans HLo.out.bw (by omega))).trans hB3)
  clear hN3 hB3 hC1 hC2 hin hBX3 hn1 hn2 hnb hro q0 q1 q2 q3
  go_loopw [9] (fun i wr => ∃ k : Nat, k ≤ d.length ∧ i = .int .i64 k ∧ Hid (∃ xs, wr.ownsRow W1.heap.size 5 1 (.slice io d.length ic) d.length xs) ∧ Hid (Tn (fun k => (Value.slice io d.length ic).ownBlock = some k) w3 wr)) (fun i _ => d.length - (intOf i).toNat)
  case atStart => exact ⟨0, Nat.zero_le _, rfl, HR, Lib.hid (Tn.refl _ _)⟩
  case round =>
    obtain ⟨k, hk, rfl, HX, HW⟩ := hrel
    by_cases hlt : k < d.length
    · obtain ⟨xs, hx⟩ := HX.out
      obtain ⟨g, gc, hg⟩ := own_shape hx (by omega)
      cases hg
      have hsz := hx.1
      have hcell : wr.cell? ⟨g, k, none⟩ = some (xs.getD k undef) := by
        rw [hx.cellAt k (by omega), List.getD_eq_getElem?_getD, List.getElem?_eq_getElem (by omega)]; rfl
      have hfz := hx.frozenAt k
      obtain ⟨hx2, hg2⟩ := hx.stored k (.int .u8 88)
      have HX2 := Lib.hid hx2
      have HWx := Lib.hid (HW.out.grown hg2 (fun j hj _ => hj))
      generalize xs.getD k undef = old at *
      clear hx hx2 hg2 hsz HR HO2 HX
      go_wp2
      go_roundw
      case rel => exact ⟨k + 1, by omega, by go_num, Lib.hid ⟨_, HX2.out⟩, HWx⟩
      case measure => simp [intOf]; omega
    · obtain rfl : k = d.length := by omega
      obtain ⟨hN4, hB4⟩ := HN3.out.tnn HW.out HN1.out HN2.out HNB.out
      have hBX4 := HW.out.at_ HBX3.out (fun e => by have := HIN.out _ e; have := HSZ.out; omega)
      obtain ⟨q0, q1, q2, q3⟩ := box_cells hBX4
      simp only at q0 q1 q2 q3
      have HN4 := Lib.hid hN4
      have HD4 := Lib.hid (HD1.out.low (HBW1.out.trans hB4))
      have HB04 := Lib.hid (HB03.out.trans hB4)
      clear hN4 hB4 hBX4 HR HX
      go_wp2_with (go_at_call 25; refine (HSX _ HN4.out.hx HD4.out).out.mono ?_; rintro e w5 ⟨rfl, C2', h2, _, h3⟩; have HK5 := Lib.hid h2; have HW5 := Lib.hid h3; clear h2 h3)
      go_ret
      obtain ⟨hN5, hB5⟩ := HN4.out.stepx HK5.out HW5.out
      exact ⟨rfl, ⟨_, _, hN5⟩, HB04.out.trans hB5⟩
end
end Go.Proofs.Ytcgbjpmmbbldpaa
