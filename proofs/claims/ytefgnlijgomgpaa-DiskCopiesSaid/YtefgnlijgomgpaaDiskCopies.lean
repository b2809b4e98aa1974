/- racelaw6.DiskCopies answers true, whatever came in: a copy is a disk of its own. Conditions: none. -/
import Derived.Test.YtefgnlijgomgpaaXk
import Derived.Test.YtefgnlijgomgpaaY
namespace Go.Proofs.Ytefgnlijgomgpaa
open Go.ChangeShapes Go.WideShapes Go.ChangeAt Go.RowKit
section
/-- A disk, its list of files, and two copies in blocks of their own from B on. -/
structure Tri (B : Nat) (w : World) (p : Nat) (d : Dk) (S : Nat → Prop) (ao : Option Addr) (cap : Nat) (C : Nat → Prop) (q r : Nat) (A E : Nat → Prop) (e1 e2 : Dk) : Prop where
  dk : DK S w p d
  was : SF C w ao (fvs d.f).length cap (fvs d.f)
  ka : DK A w q e1
  kb : DK E w r e2
  sa : ∀ k, S k → k < B
  ca : ∀ k, C k → k < B
  ab : ∀ k, A k → B ≤ k
  eb : ∀ k, E k → B ≤ k
  ae : ∀ k, A k → ¬ E k
  size : B ≤ w.heap.size
variable {B : Nat} {w w' : World} {p : Nat} {d : Dk} {S : Nat → Prop} {ao : Option Addr} {cap : Nat} {C : Nat → Prop} {q r : Nat} {A E : Nat → Prop} {e1 e2 : Dk}
theorem Tri.below (h : Tri B w p d S ao cap C q r A E e1 e2) (hb : Below w.heap.size w w') : Tri B w' p d S ao cap C q r A E e1 e2 :=
  ⟨h.dk.below hb, h.was.below hb, h.ka.below hb, h.kb.below hb, h.sa, h.ca, h.ab, h.eb, h.ae, Nat.le_trans h.size hb.size⟩
theorem Tri.a {x : Dk} (h : Tri B w p d S ao cap C q r A E e1 e2) (hd : DK (Gw A w w') w' q x) (ht : Tn A w w') : Tri B w' p d S ao cap C q r (Gw A w w') E x e2 := by
  refine ⟨h.dk.tn ht (fun k hk e => ?_), h.was.tn ht (fun k hk e => ?_), hd, h.kb.tn ht (fun k hk e => h.ae k e hk), h.sa, h.ca, fun k hk => Gw.lo h.ab h.size hk, h.eb, fun k hk e => ?_, Nat.le_trans h.size ht.size⟩
  · have := h.sa k hk; have := h.ab k e; omega
  · have := h.ca k hk; have := h.ab k e; omega
  · rcases hk with hk | hk
    · exact h.ae k hk e
    · have := h.kb.lt k e; omega
theorem Tri.b {x : Dk} (h : Tri B w p d S ao cap C q r A E e1 e2) (hd : DK (Gw E w w') w' r x) (ht : Tn E w w') : Tri B w' p d S ao cap C q r A (Gw E w w') e1 x := by
  refine ⟨h.dk.tn ht (fun k hk e => ?_), h.was.tn ht (fun k hk e => ?_), h.ka.tn ht (fun k hk e => h.ae k hk e), hd, h.sa, h.ca, h.ab, fun k hk => Gw.lo h.eb h.size hk, fun k hk e => ?_, Nat.le_trans h.size ht.size⟩
  · have := h.sa k hk; have := h.eb k e; omega
  · have := h.ca k hk; have := h.eb k e; omega
  · rcases e with e | e
    · exact h.ae k hk e
    · have := h.ka.lt k hk; omega
theorem tri_new {w3 w4 w5 w6 : World} (hS : ∀ k, S k → k < w4.heap.size) (h1 : DK S w5 p d) (h2 : SF (fun k => w3.heap.size ≤ k ∧ k < w4.heap.size) w5 ao (fvs d.f).length cap (fvs d.f)) (h3 : DK (fun k => w4.heap.size ≤ k ∧ k < w5.heap.size) w5 q d) (h4 : DK (fun k => w5.heap.size ≤ k ∧ k < w6.heap.size) w6 r d) (hb : Below w5.heap.size w5 w6) :
    Tri w4.heap.size w6 p d S ao cap (fun k => w3.heap.size ≤ k ∧ k < w4.heap.size) q r (fun k => w4.heap.size ≤ k ∧ k < w5.heap.size) (fun k => w5.heap.size ≤ k ∧ k < w6.heap.size) d d := by
  have h5 := h3.sa
  have h6 := h5.1
  have h7 := h5.2
  have h8 := hb.size
  exact ⟨h1.below hb, h2.below hb, h3.below hb, h4, hS, fun k hk => hk.2, fun k hk => hk.1, fun k hk => by have := hk.1; omega, fun k hk e => by have := hk.2; have := e.1; omega, by omega⟩
end
set_option maxRecDepth 100000 in
set_option maxHeartbeats 8000000 in
theorem diskCopies_walk (w : World) (ao : Option Addr) (cap : Nat) (l : List Do) (hl : SO (fun k => k < w.heap.size) w ao l.length cap l)
    (mo : Option Addr) (mc : Nat) (m : List Do) (hm : SO (fun k => k < w.heap.size) w mo m.length mc m) :
    Calls Try.prog 7 #[.slice ao l.length cap, .slice mo m.length mc] w fun e w' => e = .returned (.bool true) ∧ Below w.heap.size w w' := by
  have H := Lib.hid hl
  have HM := Lib.hid hm
  have hlt := hl.lt
  have hmlt := hm.lt
  clear hl hm
  cases hf : fewB l with
  | false =>
    have HF := Lib.hid hf
    clear hf
    go_enter Try.func7, Try.ntmps7
    go_wp2_with (first
      | (go_at_call 10; (with_reducible refine (first_any _).mono ?_); rintro e w1 ⟨rfl, hb⟩; have HB1 := Lib.hid hb; clear hb)
      | (go_at_call 11; (with_reducible refine (few_any (H.out.below HB1.out)).mono ?_); rw [HF.out]; rintro e w2 ⟨rfl, hb⟩; have HB2 := Lib.hid (HB1.out.trans (hb.mono HB1.out.size)); clear hb))
    go_ret
    exact ⟨rfl, HB2.out.trans (HB1.out.mono HB2.out.size)⟩
  | true =>
    have HF := Lib.hid hf
    cases hg : fewB m with
    | false =>
      have HG := Lib.hid hg
      clear hg
      go_enter Try.func7, Try.ntmps7
      go_wp2_with (first
        | (go_at_call 10; (with_reducible refine (first_any _).mono ?_); rintro e w1 ⟨rfl, hb⟩; have HB1 := Lib.hid hb; clear hb)
        | (go_at_call 11; (with_reducible refine (few_any (H.out.below HB1.out)).mono ?_); rw [HF.out]; rintro e w2 ⟨rfl, hb⟩; have HB2 := Lib.hid (HB1.out.trans (hb.mono HB1.out.size)); clear hb)
        | (go_at_call 11; (with_reducible refine (few_any (HM.out.below HB2.out)).mono ?_); rw [HG.out]; rintro e w3 ⟨rfl, hb⟩; have HB3 := Lib.hid (HB2.out.trans (hb.mono HB2.out.size)); clear hb))
      go_ret
      exact ⟨rfl, HB3.out.trans (HB1.out.mono HB3.out.size)⟩
    | true =>
    have HG := Lib.hid hg
    have hsm := few_small hf (H.out.wf)
    have hlen := (few_yes hf).1
    have HSM := Lib.hid hsm
    have hsmm := few_small hg (HM.out.wf)
    have hmlen := (few_yes hg).1
    have HSMM := Lib.hid hsmm
    clear hf hsm hg hsmm
    go_enter Try.func7, Try.ntmps7
    go_wp2_with (first
      | (go_at_call 10; (with_reducible refine (first_any _).mono ?_); rintro e w1 ⟨rfl, hb⟩; have HB1 := Lib.hid hb; clear hb)
      | (go_at_call 11; (with_reducible refine (few_any (H.out.below HB1.out)).mono ?_); rw [HF.out]; rintro e w2 ⟨rfl, hb⟩; have HB2 := Lib.hid (HB1.out.trans (hb.mono HB1.out.size)); clear hb)
      | (go_at_call 11; (with_reducible refine (few_any (HM.out.below HB2.out)).mono ?_); rw [HG.out]; rintro e w3 ⟨rfl, hb⟩; have HB3 := Lib.hid (HB2.out.trans (hb.mono HB2.out.size)); clear hb))
    have HB2' := HB3
    clear HB2
    generalize w3 = w2 at *
    clear HB3
    have HB2 := HB2'
    clear HB2'
    go_wp2_with (go_at_call 12; (with_reducible refine (one_new _).mono ?_); rintro e w3 ⟨rfl, hd, hb⟩; have HD3 := Lib.hid hd; have HB3 := Lib.hid hb; clear hd hb)
    go_loopw [6] (fun i wr => ∃ k : Nat, k ≤ l.length ∧ i = .int .i64 k ∧ Hid (OneD w2.heap.size wr (w2.heap.size + 1) (Dk.zero.run (l.take k))) ∧ Hid (Below w2.heap.size w2 wr)) (fun i _ => l.length - (intOf i).toNat)
    case atStart => exact ⟨0, Nat.zero_le _, rfl, HD3, HB3⟩
    case round =>
      obtain ⟨k, hk, rfl, HD, HB⟩ := hrel
      by_cases hlt2 : k < l.length
      · have hso := (H.out.below (HB2.out.trans (HB.out.mono HB2.out.size)))
        obtain ⟨b, off, rfl, hbw, ho, _⟩ := hso.at_ hlt2
        have hsk := HSM.out _ (List.getElem_mem hlt2)
        have HRT := Lib.hid (run_take Dk.zero l hlt2)
        generalize l[k] = p at *
        have c0 := ho.c0
        have c1 := ho.c1
        have c2 := ho.c2
        have c3 := ho.c3
        obtain ⟨a4, k4, c4, s4⟩ := ho.c4
        obtain ⟨a5, k5, c5, s5⟩ := ho.c5
        have HSK := Lib.hid hsk
        have HS4 := Lib.hid s4
        have HS5 := Lib.hid s5
        clear hsk s4 s5 ho hso
        have HDN := Lib.hid (done_take l k (by omega))
        go_wp2_with (go_at_call 13; (refine (one_does HD.out (Nat.le_trans (Nat.le_refl _) HB.out.size) HSK.out HS4.out HS5.out (fun j hj => Nat.lt_of_lt_of_le hj HB2.out.size) HDN.out).mono ?_); rintro e w4 ⟨rfl, hd, hb⟩; have HD4 := Lib.hid hd; have HB4 := Lib.hid (HB.out.trans hb); clear hd hb)
        go_roundw
        case rel => exact ⟨k + 1, by omega, by go_num, by rw [HRT.out]; exact HD4, HB4⟩
        case measure => simp [intOf]; omega
      · obtain rfl : k = l.length := by omega
        rw [List.take_length] at HD
        have HBW := Lib.hid (HB2.out.trans (HB.out.mono HB2.out.size))
        have HW2 := Lib.hid HB2.out.size
        have hdn : (Dk.zero.run l).done ≤ 300 := Nat.le_trans (done_run _ l) (by show 0 + l.length ≤ 300; omega)
        clear HB2 HF HG HSM hlen
        generalize Dk.zero.run l = d at *
        obtain ⟨S, hS, hkk⟩ := HD.out
        have HK := Lib.hid hkk
        have HSL := Lib.hid hkk.lt
        have HDONE := Lib.hid hdn
        clear hS hkk HD HB hdn
        go_wp2_with (first
          | (go_at_call 23; (with_reducible refine (dk_files HK.out).mono ?_); rintro e w4 ⟨fo, fc, rfl, hs, hb⟩; have HSF4 := Lib.hid hs; have HK4 := Lib.hid (HK.out.below hb); have HB4 := Lib.hid (HBW.out.trans (hb.mono HBW.out.size)); have HSL4 := Lib.hid (fun j (hj : S j) => Nat.lt_of_lt_of_le (HSL.out j hj) hb.size); clear hs hb)
          | (go_at_call 27; (with_reducible refine (dk_copy HK4.out).mono ?_); rintro e w5 ⟨q, rfl, hd, hb⟩; have HKA := Lib.hid hd; have HK5 := Lib.hid (HK4.out.below hb); have HSF5 := Lib.hid (HSF4.out.below hb); have HB5 := Lib.hid (HB4.out.trans (hb.mono HB4.out.size)); clear hd hb)
          | (go_at_call 27; (with_reducible refine (dk_copy HK5.out).mono ?_); rintro e w6 ⟨r, rfl, hd, hb⟩; have HT6 := Lib.hid (tri_new HSL4.out HK5.out HSF5.out HKA.out hd hb); have HB6 := Lib.hid (HB5.out.trans (hb.mono HB5.out.size)); clear hd hb)
          | (go_at_call 23; (with_reducible refine (dk_files HT6.out.ka).mono ?_); rintro e w7 ⟨go, gc, rfl, hs, hb⟩; have HSF7 := Lib.hid hs; have HT7 := Lib.hid (HT6.out.below hb); have HB7 := Lib.hid (HB6.out.trans (hb.mono HB6.out.size)); clear hs hb)
          | (go_at_call 22; (with_reducible refine (same_any HSF7.out HT7.out.was).mono ?_); rintro e w8 ⟨rfl, qz, hq⟩; rw [sameF_self]; have HT8 := Lib.hid (HT7.out.below (below_of_drew hq)); have HB8 := Lib.hid (HB7.out.trans ((below_of_drew hq).mono HB7.out.size)); clear hq))
        have HB4L := Lib.hid HB4.out.size
        clear HBW HK HSL HW2 HK4 HK5 HSF4 HSF5 HKA HT6 HT7 HSF7 HSL4 HB5 HB6 HB7
        go_loopw [10] (fun i wr => ∃ k : Nat, k ≤ m.length ∧ i = .int .i64 k ∧ Hid (∃ C A E, Tri w4.heap.size wr (w2.heap.size + 1) d S fo fc C q r A E (d.run (m.take k)) (d.run (m.take k))) ∧ Hid (Below w.heap.size w wr)) (fun i _ => m.length - (intOf i).toNat)
        case atStart => exact ⟨0, Nat.zero_le _, rfl, ⟨_, _, _, HT8.out⟩, HB8⟩
        case round =>
          obtain ⟨k, hk, rfl, HT, HB⟩ := hrel
          by_cases hlt3 : k < m.length
          · have hso := (HM.out.below HB.out)
            obtain ⟨b, off, rfl, hbw, ho, _⟩ := hso.at_ hlt3
            have hsk := HSMM.out _ (List.getElem_mem hlt3)
            have HRT := Lib.hid (run_take d m hlt3)
            generalize m[k] = p at *
            have c0 := ho.c0
            have c1 := ho.c1
            have c2 := ho.c2
            have c3 := ho.c3
            obtain ⟨a4, k4, c4, s4⟩ := ho.c4
            obtain ⟨a5, k5, c5, s5⟩ := ho.c5
            have HSK := Lib.hid hsk
            have HS4 := Lib.hid s4
            have HS5 := Lib.hid s5
            clear hsk s4 s5 ho hso
            obtain ⟨C, A, E, ht⟩ := HT.out
            have HDN : Hid ((d.run (m.take k)).done < 9223372036854775807) := by
              have h1 := done_run d (m.take k)
              have h2 := HDONE.out
              have h3 : (m.take k).length = k := by rw [List.length_take]; omega
              show _ < _
              omega
            generalize hx : d.run (m.take k) = x at *
            have HTT := Lib.hid (ht.below (Below.refl _ wr).drew)
            have HS4 := Lib.hid (HS4.out.below (Below.refl _ wr).drew)
            have HS5 := Lib.hid (HS5.out.below (Below.refl _ wr).drew)
            have HBD := Lib.hid HB.out.drew
            have HCA : Hid (∀ j, (fun j => j < w.heap.size) j → ¬ A j) := fun j hj e => by have h1 := ht.ab j e; have h2 := HB4L.out; simp only at hj; omega
            have HCE : Hid (∀ j, (fun j => j < w.heap.size) j → ¬ E j) := fun j hj e => by have h1 := ht.eb j e; have h2 := HB4L.out; simp only at hj; omega
            have HAW : Hid (∀ j, A j → w.heap.size ≤ j) := fun j hj => Nat.le_trans HB4L.out (ht.ab j hj)
            have HEW : Hid (∀ j, E j → w.heap.size ≤ j) := fun j hj => Nat.le_trans HB4L.out (ht.eb j hj)
            have HNB : Hid (¬ A b) := HCA.out b hbw
            have HNE : Hid (¬ E b) := HCE.out b hbw
            clear ht HT hx
            go_wp2
            refine wp_region_held (S := (fun w' => w'.cell? ⟨b, off + k * 6, none⟩ = some (.int .i64 p.kind) ∧ w'.cell? ⟨b, off + k * 6 + 1, none⟩ = some (.int .i64 p.n) ∧ w'.cell? ⟨b, off + k * 6 + 2, none⟩ = some (nmv p.name) ∧ w'.cell? ⟨b, off + k * 6 + 3, none⟩ = some (nmv p.to) ∧ w'.cell? ⟨b, off + k * 6 + 4, none⟩ = some (.slice a4 p.b.length k4) ∧ w'.cell? ⟨b, off + k * 6 + 5, none⟩ = some (.slice a5 p.picks.length k5))) (by kernel_rfl) ?_
            change wpAnyH _ _ _ _ _ _ _ _ (World.drew _)
            refine wpAnyH_take (i := 0) (v := ?vf_0) rfl (by kernel_rfl) (by kernel_rfl) (by kernel_rfl) (fun _ _ _ h => h) (Or.inl ⟨by rfl, ?yf_0⟩) ⟨c0, c1, c2, c3, c4, c5⟩ ?rf_0
            case yf_0 => (intro W hSw; (try dsimp only at hSw); obtain ⟨_, _, _, _, _, _⟩ := hSw; first | (go_simp; done) | (go_simp; with_reducible rfl))
            try go_simp
            refine wpAnyH_take (i := 1) (v := ?vf_1) rfl (by kernel_rfl) (by kernel_rfl) (by kernel_rfl) (fun _ _ _ h => h) (Or.inl ⟨by rfl, ?yf_1⟩) ⟨c0, c1, c2, c3, c4, c5⟩ ?rf_1
            case yf_1 => (intro W hSw; (try dsimp only at hSw); obtain ⟨_, _, _, _, _, _⟩ := hSw; first | (go_simp; done) | (go_simp; with_reducible rfl))
            try go_simp
            refine wpAnyH_take (i := 2) (v := ?vf_2) rfl (by kernel_rfl) (by kernel_rfl) (by kernel_rfl) (fun _ _ _ h => h) (Or.inl ⟨by rfl, ?yf_2⟩) ⟨c0, c1, c2, c3, c4, c5⟩ ?rf_2
            case yf_2 => (intro W hSw; (try dsimp only at hSw); obtain ⟨_, _, _, _, _, _⟩ := hSw; first | (go_simp; done) | (go_simp; with_reducible rfl))
            try go_simp
            refine wpAnyH_take (i := 3) (v := ?vf_3) rfl (by kernel_rfl) (by kernel_rfl) (by kernel_rfl) (fun _ _ _ h => h) (Or.inl ⟨by rfl, ?yf_3⟩) ⟨c0, c1, c2, c3, c4, c5⟩ ?rf_3
            case yf_3 => (intro W hSw; (try dsimp only at hSw); obtain ⟨_, _, _, _, _, _⟩ := hSw; first | (go_simp; done) | (go_simp; with_reducible rfl))
            try go_simp
            refine wpAnyH_take (i := 4) (v := ?vf_4) rfl (by kernel_rfl) (by kernel_rfl) (by kernel_rfl) (fun _ _ _ h => h) (Or.inl ⟨by rfl, ?yf_4⟩) ⟨c0, c1, c2, c3, c4, c5⟩ ?rf_4
            case yf_4 => (intro W hSw; (try dsimp only at hSw); obtain ⟨_, _, _, _, _, _⟩ := hSw; first | (go_simp; done) | (go_simp; with_reducible rfl))
            try go_simp
            refine wpAnyH_take (i := 6) (v := ?vf_6) rfl (by kernel_rfl) (by kernel_rfl) (by kernel_rfl) (fun _ _ _ h => h) (Or.inl ⟨by rfl, ?yf_6⟩) ⟨c0, c1, c2, c3, c4, c5⟩ ?rf_6
            case yf_6 => (intro W hSw; (try dsimp only at hSw); obtain ⟨_, _, _, _, _, _⟩ := hSw; first | (go_simp; done) | (go_simp; with_reducible rfl))
            try go_simp
            refine wpAnyH_take (i := 7) (v := ?vf_7) rfl (by kernel_rfl) (by kernel_rfl) (by kernel_rfl) (fun _ _ _ h => h) (Or.inl ⟨by rfl, ?yf_7⟩) ⟨c0, c1, c2, c3, c4, c5⟩ ?rf_7
            case yf_7 => (intro W hSw; (try dsimp only at hSw); obtain ⟨_, _, _, _, _, _⟩ := hSw; first | (go_simp; done) | (go_simp; with_reducible rfl))
            try go_simp
            refine wpAnyH_take (i := 8) (v := ?vf_8) rfl (by kernel_rfl) (by kernel_rfl) (by kernel_rfl) (fun _ _ _ h => h) (Or.inl ⟨by rfl, ?yf_8⟩) ⟨c0, c1, c2, c3, c4, c5⟩ ?rf_8
            case yf_8 => (intro W hSw; (try dsimp only at hSw); obtain ⟨_, _, _, _, _, _⟩ := hSw; first | (go_simp; done) | (go_simp; with_reducible rfl))
            try go_simp
            refine wpAnyH_take (i := 9) (v := ?vf_9) rfl (by kernel_rfl) (by kernel_rfl) (by kernel_rfl) (fun _ _ _ h => h) (Or.inl ⟨by rfl, ?yf_9⟩) ⟨c0, c1, c2, c3, c4, c5⟩ ?rf_9
            case yf_9 => (intro W hSw; (try dsimp only at hSw); obtain ⟨_, _, _, _, _, _⟩ := hSw; first | (go_simp; done) | (go_simp; with_reducible rfl))
            try go_simp
            refine wpAnyH_take (i := 10) (v := ?vf_10) rfl (by kernel_rfl) (by kernel_rfl) (by kernel_rfl) (fun _ _ _ h => h) (Or.inl ⟨by rfl, ?yf_10⟩) ⟨c0, c1, c2, c3, c4, c5⟩ ?rf_10
            case yf_10 => (intro W hSw; (try dsimp only at hSw); obtain ⟨_, _, _, _, _, _⟩ := hSw; first | (go_simp; done) | (go_simp; with_reducible rfl))
            try go_simp
            refine wpAnyH_ready (rs := [5]) (by kernel_rfl) (by simp) ?_
            refine AllReadyH.cons rfl (fun K hK => ?_) AllReadyH.nil
            go_simp
            (go_wp2_with (first | (go_at_call 13; (refine (does_any HTT.out.ka HSK.out HS4.out HS5.out HCA.out HDN.out).mono ?_); rintro e w15 ⟨rfl, hd, ht⟩; have HTA := Lib.hid (HTT.out.a hd ht); have HBA := Lib.hid (HBD.out.trans (ht.below HBD.out.size HAW.out)); have h0 := ht.cell (w := wr.drew) c0 HNB.out; have h1 := ht.cell (w := wr.drew) c1 HNB.out; have h2 := ht.cell (w := wr.drew) c2 HNB.out; have h3 := ht.cell (w := wr.drew) c3 HNB.out; have h4 := ht.cell (w := wr.drew) c4 HNB.out; have h5 := ht.cell (w := wr.drew) c5 HNB.out; have HS44 := Lib.hid (HS4.out.tn ht HCA.out); have HS55 := Lib.hid (HS5.out.tn ht HCA.out); clear hd ht)))
            refine hK.out _ _ ⟨h0, h1, h2, h3, h4, h5⟩ (fun _ => ?_)
            clear hK K
            try go_simp
            refine wpAnyH_ready (rs := [11]) (by kernel_rfl) (by simp) ?_
            refine AllReadyH.cons rfl (fun K hK => ?_) AllReadyH.nil
            go_simp
            (go_wp2_with (first | (go_at_call 13; (refine (does_any HTA.out.kb HSK.out HS44.out HS55.out HCE.out HDN.out).mono ?_); rintro e w16 ⟨rfl, hd, ht⟩; have HTB := Lib.hid (HTA.out.b hd ht); have HBB := Lib.hid (HBA.out.trans (ht.below HBA.out.size HEW.out)); have g0 := ht.cell h0 HNE.out; have g1 := ht.cell h1 HNE.out; have g2 := ht.cell h2 HNE.out; have g3 := ht.cell h3 HNE.out; have g4 := ht.cell h4 HNE.out; have g5 := ht.cell h5 HNE.out; clear hd ht)))
            refine hK.out _ _ ⟨g0, g1, g2, g3, g4, g5⟩ (fun _ => ?_)
            clear hK K
            try go_simp
            refine wpAnyH_take (i := 12) (v := ?vf_12) rfl (by kernel_rfl) (by kernel_rfl) (by kernel_rfl) (fun _ _ _ h => h) (Or.inl ⟨by rfl, ?yf_12⟩) ⟨g0, g1, g2, g3, g4, g5⟩ ?rf_12
            case yf_12 => (intro W hSw; (try dsimp only at hSw); obtain ⟨_, _, _, _, _, _⟩ := hSw; first | (go_simp; done) | (go_simp; with_reducible rfl))
            try go_simp
            refine wpAnyH_done (by kernel_rfl) ?_ _
            try go_wp2
            go_roundw
            case rel => exact ⟨k + 1, by omega, by go_num, by rw [HRT.out]; exact ⟨_, _, _, HTB.out⟩, HBB⟩
            case measure => simp [intOf]; omega
          · obtain rfl : k = m.length := by omega
            rw [List.take_length] at HT
            obtain ⟨C, A, E, ht⟩ := HT.out
            have HTE := Lib.hid ht
            clear HT ht
            go_wp2_with (first
              | (go_at_call 10; (with_reducible refine (first_any wr).mono ?_); rintro e w9 ⟨rfl, hb⟩; have HT9 := Lib.hid (HTE.out.below hb); have HB9 := Lib.hid (HB.out.trans (hb.mono HB.out.size)); clear hb)
              | (go_at_call 23; (with_reducible refine (dk_files HT9.out.ka).mono ?_); rintro e w10 ⟨xo, xc, rfl, hs, hb⟩; have HSF10 := Lib.hid hs; have HT10 := Lib.hid (HT9.out.below hb); have HB10 := Lib.hid (HB9.out.trans (hb.mono HB9.out.size)); clear hs hb)
              | (go_at_call 23; (with_reducible refine (dk_files HT10.out.kb).mono ?_); rintro e w11 ⟨yo, yc, rfl, hs, hb⟩; have HSF11 := Lib.hid hs; have HSFX := Lib.hid (HSF10.out.below hb); have HT11 := Lib.hid (HT10.out.below hb); have HB11 := Lib.hid (HB10.out.trans (hb.mono HB10.out.size)); clear hs hb)
              | (go_at_call 22; (with_reducible refine (same_any HSFX.out HSF11.out).mono ?_); rintro e w12 ⟨rfl, qz, hq⟩; rw [sameF_self]; have HT12 := Lib.hid (HT11.out.below (below_of_drew hq)); have HB12 := Lib.hid (HB11.out.trans ((below_of_drew hq).mono HB11.out.size)); clear hq)
              | (go_at_call 23; (with_reducible refine (dk_files HT12.out.dk).mono ?_); rintro e w13 ⟨zo, zc, rfl, hs, hb⟩; have HSF13 := Lib.hid hs; have HT13 := Lib.hid (HT12.out.below hb); have HB13 := Lib.hid (HB12.out.trans (hb.mono HB12.out.size)); clear hs hb)
              | (go_at_call 22; (with_reducible refine (same_any HSF13.out HT13.out.was).mono ?_); rintro e w14 ⟨rfl, qz, hq⟩; rw [sameF_self]; have HT14 := Lib.hid (HT13.out.below (below_of_drew hq)); have HB14 := Lib.hid (HB13.out.trans ((below_of_drew hq).mono HB13.out.size)); clear hq)
              | (go_at_call 26; (with_reducible refine (dk_writes HT14.out.ka).mono ?_); rintro e w' ⟨rfl, rfl⟩)
              | (go_at_call 26; (with_reducible refine (dk_writes HT14.out.kb).mono ?_); rintro e w' ⟨rfl, rfl⟩)
              | (go_at_call 25; (with_reducible refine (dk_down HT14.out.ka).mono ?_); rintro e w' ⟨rfl, rfl⟩)
              | (go_at_call 25; (with_reducible refine (dk_down HT14.out.kb).mono ?_); rintro e w' ⟨rfl, rfl⟩))
            go_ret
            exact ⟨rfl, HB14.out⟩

set_option maxRecDepth 100000 in
theorem diskCopies_lifted (os : Os) (started : os.Started) (H : Type) (enc : TypeId × Value → H) :
    ReturnsInHanded {} Try.checked os 7 .any (Rows.diskCopiesSpec.pre6 enc Try.prog Try.f7 [] false) (Rows.diskCopiesSpec.post enc Try.prog Try.f7 false true false false) := by
  refine returnsInHanded_of_change (C := Try.checked) own started (by kernel_rfl) Try.func7
    (ChangeSpec.witness6 (enc := enc) (C := Try.checked) false ⟨#[], #[.slice none 0 0, .slice none 0 0], []⟩ 8 (by kernel_rfl) (by kernel_rfl) (by kernel_rfl) (by kernel_rfl)) ?_
  intro W base args ds gs before hval0 hW _ _
  have hval : ∀ (j : Nat) t v, Try.f7.params[j]? = some t → args[j]? = some v → Value.okWide Try.prog W .any base t v := hval0
  have hW' := hW
  obtain ⟨p, q, hA0, hV, rfl, hfz, hnd⟩ := hW
  have hA : DataW.TrodAll enc Try.prog W 0 (fun _ => true) true Try.f7.params.toList args.toList ds p := hA0
  rw [Try.params7] at hA hval
  obtain ⟨v0, v1, d0, d1, p0, p1, rfl, rfl, rfl, h0, h1⟩ := trodAll_two hA
  obtain ⟨b0, len0, cap0, rfl⟩ := okWide_slice Try.underlying22 (hval 0 22 v0 rfl rfl)
  have k0 := h0
  obtain ⟨fuel0, g0⟩ := h0
  obtain ⟨b1, len1, cap1, rfl⟩ := okWide_slice Try.underlying22 (hval 1 22 v1 rfl rfl)
  have k1 := h1
  obtain ⟨fuel1, g1⟩ := h1
  obtain ⟨rfl, rfl⟩ := trodVars_none hV
  clear hA0 hval0
  simp only [List.append_nil] at hW'
  have hlt : ∀ x ∈ p0 ++ p1, x.block < W.heap.size := fun x hx => hW'.lt x (by simpa using hx)
  obtain ⟨ao0, c0, xs0, hv0, r0⟩ := open_so g0
  obtain ⟨ao1, c1, xs1, hv1, r1⟩ := open_so g1
  refine Calls.mono (?walk : Calls _ _ _ _ fun e w' => e = .returned (.bool true) ∧ Below W.heap.size W w') fun e W' ⟨he, hw⟩ => ?_
  case walk =>
    rw [hv0]
    rw [hv1]
    exact diskCopies_walk W ao0 c0 xs0 r0 ao1 c1 xs1 r1
  subst he
  exact ⟨_, rfl, post_of_below (pa := p0 ++ p1) (pv := []) hW' (fun _ _ _ => trodAll_mk1 (shut_bool Try.underlying4 _)) (fun sp hsp => trodAll_mk2 (WideElems.Trod_stays laidOut (by kernel_rfl) (of_decide_eq_true (by kernel_rfl)) k0 (fun x hx => hw.same (hlt x (by first | (simp [hx]; done) | exact nomatch hx))) (fun x hx => hsp x (by first | (simp [hx]; done) | exact nomatch hx))) (WideElems.Trod_stays laidOut (by kernel_rfl) (of_decide_eq_true (by kernel_rfl)) k1 (fun x hx => hw.same (hlt x (by first | (simp [hx]; done) | exact nomatch hx))) (fun x hx => hsp x (by first | (simp [hx]; done) | exact nomatch hx)))) (fun _ _ => rfl) (by simp) hw (ok_one (by kernel_rfl) rfl (okWide_bool_mk Try.underlying4 _))⟩
/-- THE ROW. -/
theorem diskCopies_holds : Rows.DiskCopiesSaid :=
  OpenClaim.holds_of_wide 7 Try.f7 rfl rfl rfl rfl rfl rfl rfl ⟨rfl, rfl, rfl, rfl, rfl⟩ rfl rfl rfl rfl rfl (by kernel_rfl) Try.func7 (by kernel_rfl)
    (of_decide_eq_true (by kernel_rfl)) (by unfold Func.isWrapper; first | (rw [if_pos (by decide +kernel)]; kernel_rfl) | (rw [if_neg (by decide +kernel)]; exact ⟨rfl, rfl⟩))
    (fun os started H enc _ => diskCopies_lifted os started H enc)
#print axioms diskCopies_holds
end Go.Proofs.Ytefgnlijgomgpaa
