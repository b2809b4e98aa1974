/- disk: strings.Clone, put, Create, Rename. Conditions: names as Go has them. -/
import Derived.Test.YtefgnlijgomgpaaF
import Derived.Test.YtefgnlijgomgpaaShelf
import Derived.Deep.RegionHeld
namespace Go.Proofs.Ytefgnlijgomgpaa
open Go.RowKit
theorem sclone_any (s : Nm) (w : World) (hs : s.length ≤ 281474976710656) : Calls Try.prog 62 #[nmv s] w fun e w' => e = .returned (nmv s) ∧ Below w.heap.size w w' := by
  have h1 : (⟨s.toArray⟩ : ByteArray).size ≤ 281474976710656 := by simpa [ByteArray.size] using hs
  have H1 := Lib.hid h1
  clear h1
  go_enter Try.func62, Try.ntmps62
  go_wp2_with (go_at_call 66; (refine (Try.stringslite_Clone ⟨s.toArray⟩ w H1.out).mono ?_); rintro e w1 ⟨rfl, hb⟩; have HB := Lib.hid hb; clear hb)
  go_ret
  exact ⟨rfl, HB.out⟩
theorem MAt.below {w w' : World} {m : Nat} {L : Ent Nat} (h : MAt w m L) (hb : Below w.heap.size w w') : MAt w' m L := h.tn (Tn.of_below (S := fun _ => False) hb) (fun e => e)
theorem MAt.store {w : World} {m : Nat} {L : Ent Nat} (h : MAt w m L) {s : Nm} (hs : s.length ≤ maxLen) (hl : L.length < maxLen) (b : Nat) : ∃ w', (Instr.mapUpdate 62 (.map (some m)) (nmv s) (ptr b)).run Try.prog w = .ok () w' ∧ MAt w' m (put L s b) ∧ Tn (· = m) w w' := by
  obtain ⟨w', h1, h2, h3⟩ := World.ownsMap.store h law9 under62 hl (key9 hs) (refE_ptr b)
  have hg := h3.grown
  exact ⟨w', h1, mat_tight (by rw [← put_dmap]; exact h2), hg.os, hg.tape, hg.output, hg.size, fun k hk hne => hg.block k hk (fun e => hne (by simpa using e))⟩
section
variable {S : Nat → Prop} {w : World} {a m : Nat} {d : Dk} {ρ : Nm → Nat} {δ : Nm → Value} {s : Nm} {x : Fi}
set_option maxRecDepth 100000 in
theorem put_walk {L : Ent Nat} (c0 : w.cell? ⟨a, 0, none⟩ = some (.map (some m))) (hm : MAt w m L) (hl : L.length < maxLen) (hs : s.length ≤ 281474976710656) (b : Nat) :
    Calls Try.prog 51 #[ptr a, nmv s, ptr b] w fun e w' => e = .returned (.tuple #[]) ∧ ∃ w1, Below w.heap.size w w1 ∧ Tn (· = m) w1 w' ∧ MAt w' m (put L s b) := by
  have ha : a < w.heap.size := World.block_lt_of_cell? _ _ c0
  have hs9 : s.length ≤ maxLen := by unfold maxLen; omega
  have HS9 := Lib.hid hs9
  clear hs9
  have HM := Lib.hid hm
  have HL := Lib.hid hl
  have HS := Lib.hid hs
  have HA := Lib.hid ha
  clear hm hl hs ha
  go_enter Try.func51, Try.ntmps51
  go_wp2
  refine wp_region_held (S := (fun w' => w'.cell? ⟨a, 0, none⟩ = some (.map (some m)))) (by kernel_rfl) ?_
  change wpAnyH _ _ _ _ _ _ _ _ (World.drew _)
  refine wpAnyH_take (i := 0) (v := ?vp_0) rfl (by kernel_rfl) (by kernel_rfl) (by kernel_rfl) (fun _ _ _ h => h) (Or.inl ⟨by rfl, ?yp_0⟩) c0 ?rp_0
  case yp_0 => (intro W hSw; (try dsimp only at hSw); obtain c0 := hSw; first | (go_simp; done) | (go_simp; with_reducible rfl))
  try go_simp
  refine wpAnyH_take (i := 1) (v := ?vp_1) rfl (by kernel_rfl) (by kernel_rfl) (by kernel_rfl) (fun _ _ _ h => h) (Or.inl ⟨by rfl, ?yp_1⟩) c0 ?rp_1
  case yp_1 => (intro W hSw; (try dsimp only at hSw); obtain c0 := hSw; first | (go_simp; done) | (go_simp; with_reducible rfl))
  try go_simp
  refine wpAnyH_take (i := 2) (v := ?vp_2) rfl (by kernel_rfl) (by kernel_rfl) (by kernel_rfl) (fun _ _ _ h => h) (Or.inl ⟨by rfl, ?yp_2⟩) c0 ?rp_2
  case yp_2 => (intro W hSw; (try dsimp only at hSw); obtain c0 := hSw; first | (go_simp; done) | (go_simp; with_reducible rfl))
  try go_simp
  refine wpAnyH_take (i := 3) (v := ?vp_3) rfl (by kernel_rfl) (by kernel_rfl) (by kernel_rfl) (fun _ _ _ h => h) (Or.inl ⟨by rfl, ?yp_3⟩) c0 ?rp_3
  case yp_3 => (intro W hSw; (try dsimp only at hSw); obtain c0 := hSw; first | (go_simp; done) | (go_simp; with_reducible rfl))
  try go_simp
  refine wpAnyH_take (i := 4) (v := ?vp_4) rfl (by kernel_rfl) (by kernel_rfl) (by kernel_rfl) (fun _ _ _ h => h) (Or.inl ⟨by rfl, ?yp_4⟩) c0 ?rp_4
  case yp_4 => (intro W hSw; (try dsimp only at hSw); obtain c0 := hSw; first | (go_simp; done) | (go_simp; with_reducible rfl))
  try go_simp
  refine wpAnyH_take (i := 6) (v := ?vp_6) rfl (by kernel_rfl) (by kernel_rfl) (by kernel_rfl) (fun _ _ _ h => h) (Or.inl ⟨by rfl, ?yp_6⟩) c0 ?rp_6
  case yp_6 => (intro W hSw; (try dsimp only at hSw); obtain c0 := hSw; first | (go_simp; done) | (go_simp; with_reducible rfl))
  try go_simp
  refine wpAnyH_ready (rs := [5]) (by kernel_rfl) (by simp) ?_
  refine AllReadyH.cons rfl (fun K hK => ?_) AllReadyH.nil
  go_simp
  (go_wp2_with (first | (go_at_call 62; (refine (sclone_any s _ HS.out).mono ?_); rintro e w1 ⟨rfl, hb⟩; have HB := Lib.hid hb; have c1 := (hb.cell (p := ⟨a, 0, none⟩) HA.out).trans c0; clear hb)))
  refine hK.out _ _ c1 (fun _ => ?_)
  clear hK K
  try go_simp
  refine wpAnyH_ready (rs := [7]) (by kernel_rfl) (by simp) ?_
  refine AllReadyH.cons rfl (fun K hK => ?_) AllReadyH.nil
  go_simp
  have hb := (Below.refl _ w).drew.trans HB.out
  have hm1 := HM.out.below hb
  have ham : a ≠ m := fun e => by
    obtain ⟨es, clock, hh, _⟩ := hm1
    rw [← e] at hh
    simp [World.cell?, hh] at c1
  obtain ⟨w2, hr, hm2, ht2⟩ := MAt.store (s := s) hm1 HS9.out HL.out b
  have c2 := ht2.cell (p := ⟨a, 0, none⟩) c1 ham
  rw [hr]
  go_simp
  refine hK.out _ _ c2 (fun _ => ?_)
  clear hK K hr
  try go_simp
  refine wpAnyH_done (by kernel_rfl) ?_ _
  try go_wp2
  go_returns
  exact ⟨rfl, w1, hb, ht2, hm2⟩
theorem DAt.len (h : DAt S w a d m ρ δ) (ty : TypeId) : (Builtin.len_ #[62] ty #[.map (some m)]).run Try.prog w = .ok (.int .i64 (d.f.length : Nat)) w := by
  have := World.ownsMap.len h.map under62 ty
  rw [size_dmap, length_refs] at this
  exact this
/-- What put leaves of a disk beside which a file lies. -/
theorem DAt.put_of (h : DAt S w a d m ρ δ) {w1 w' : World} {v : Value} {b : Nat} {d' : Dk} (hb1 : Below w.heap.size w w1) (ht : Tn (· = m) w1 w') (hm : MAt w' m (Ytefgnlijgomgpaa.put (refs d.f ρ) s b)) (hf : w.heap[b]? = some (.cells #[v, .int .i64 (x.safe : Int)] 71 (0, 0)))
    (hr : w.ownsRow 0 5 1 v x.data.length (bys x.data)) (hb : ∀ p ∈ d.f, p.1 ≠ s → ρ p.1 ≠ b) (hv : ∀ p ∈ d.f, p.1 ≠ s → ∀ k, v.ownBlock = some k → (δ p.1).ownBlock ≠ some k)
    (hok : Ok d') (hd : d'.f = Ytefgnlijgomgpaa.put d.f s x) (h1 : d'.off = d.off) (h2 : d'.left = d.left) (h3 : d'.done = d.done) {U : Nat → Prop}
    (hS : ∀ k, S k → U k) (hUb : U b) (hU : ∀ k, v.ownBlock = some k → U k) (hlt : ∀ k, U k → k < w'.heap.size) : DAt U w' a d' m (at_ ρ s b) (at_ δ s v) := by
  have hbm : b ≠ m := fun e => by
    obtain ⟨es, clock, hh, _⟩ := h.map
    rw [← e, hf] at hh
    cases hh
  have hvm : ∀ k, v.ownBlock = some k → ¬ k = m := fun k hk e => by
    obtain ⟨cur, hc⟩ := own_at hr hk
    obtain ⟨es, clock, hh, _⟩ := h.map
    rw [e, hh] at hc
    cases hc
  exact (h.below hb1).put ht hm (ht.at_ ((Tn.of_below (S := fun _ => False) hb1).at_ hf (fun e => e)) hbm) (own_tn (own_below hr hb1) ht hvm) hb hv hok hd h1 h2 h3 hS hUb hU hlt
theorem put_none {f : Ent Fi} (hx : get f s = none) : ∀ p ∈ f, p.1 ≠ s := get_none hx
set_option maxRecDepth 100000 in
theorem create_any (h : DAt S w a d m ρ δ) (hs : s.length ≤ 281474976710656) (hd : d.done < 9223372036854775807) : Calls Try.prog 32 #[ptr a, nmv s] w (Wrote S w a (d.create s)) := by
  have hs2 : s.length ≤ 9223372036854775807 := by omega
  have hs3 : s.length ≤ maxLen := by unfold maxLen; omega
  have H := Lib.hid h
  have HS := Lib.hid hs
  have HS2 := Lib.hid hs2
  have HS3 := Lib.hid hs3
  have HD := Lib.hid hd
  have c0 := h.c0
  have c3 := h.c3
  have hlen := h.len
  have hfew := h.ok.few
  clear h hs hd hs2 hs3
  cases ho : d.off with
  | true =>
    have e : d.create s = (d, 12) := by unfold Dk.create; rw [if_pos ho]
    rw [e]
    rw [ho] at c3
    clear ho e
    go_enter Try.func32, Try.ntmps32
    go_wp2
    go_ret
    exact wrote_same (r := (d, 12)) H.out (Tn.refl _ _) H.out.lt
  | false =>
    rw [ho] at c3
    cases hn : isNm s with
    | false =>
      have e : d.create s = (d, 10) := by unfold Dk.create; rw [ho, hn]; rfl
      rw [e]
      have HN := Lib.hid hn
      clear ho e hn
      go_enter Try.func32, Try.ntmps32
      go_wp2_with (go_at_call 57; (with_reducible refine (isName_any s _ HS2.out).mono ?_); rw [HN.out]; rintro e w' ⟨rfl, rfl⟩)
      go_ret
      exact wrote_same (r := (d, 10)) H.out (Tn.refl _ _) H.out.lt
    | true =>
      have HN := Lib.hid hn
      cases hx : get d.f s with
      | some x =>
        have e : d.create s = (d, 9) := by unfold Dk.create; rw [ho, hn, has_get, hx]; rfl
        rw [e]
        have l0 := H.out.look HS3.out hx
        clear ho e hn hx
        go_enter Try.func32, Try.ntmps32
        go_wp2_with (go_at_call 57; (with_reducible refine (isName_any s _ HS2.out).mono ?_); rw [HN.out]; rintro e w' ⟨rfl, rfl⟩)
        go_ret
        exact wrote_same (r := (d, 9)) H.out (Tn.refl _ _) H.out.lt
      | none =>
        have l0 := H.out.look0 HS3.out hx
        have HX := Lib.hid hx
        by_cases hf : 64 ≤ d.f.length
        · have e : d.create s = (d, 3) := by unfold Dk.create; rw [ho, hn, has_get, hx]; simp [hf]
          rw [e]
          clear ho e hn hx
          go_enter Try.func32, Try.ntmps32
          go_wp2_with (go_at_call 57; (with_reducible refine (isName_any s _ HS2.out).mono ?_); rw [HN.out]; rintro e w' ⟨rfl, rfl⟩)
          go_ret
          exact wrote_same (r := (d, 3)) H.out (Tn.refl _ _) H.out.lt
        · have hf2 : ¬ (64 : Int) ≤ (d.f.length : Int) := by omega
          cases hq : d.spend.2 with
          | false =>
            have e : d.create s = (d.spend.1, 12) := by unfold Dk.create; rw [ho, hn, has_get, hx, hq]; simp [hf]
            rw [e]
            have HQ := Lib.hid hq
            clear ho e hn hx hq hf hfew
            go_enter Try.func32, Try.ntmps32
            go_wp2_with (first
              | (go_at_call 57; (with_reducible refine (isName_any s _ HS2.out).mono ?_); rw [HN.out]; rintro e w' ⟨rfl, rfl⟩)
              | (go_at_call 56; (with_reducible refine (spend_any H.out HD.out).mono ?_); rw [HQ.out]; rintro e w1 ⟨rfl, h1, ht⟩; have H1 := Lib.hid h1; have HT := Lib.hid ht; clear h1 ht))
            go_ret
            exact wrote_same (r := (d.spend.1, 12)) H1.out (H.out.tna HT.out) H.out.lt
          | true =>
            have e : d.create s = ({ d.spend.1 with f := put d.f s ⟨[], 0⟩ }, 0) := by unfold Dk.create; rw [ho, hn, has_get, hx, hq]; simp [hf]
            have HQ := Lib.hid hq
            have HE := Lib.hid e
            have HF := Lib.hid hf
            have HFW := Lib.hid hfew
            clear ho e hn hx hq hf hfew
            go_enter Try.func32, Try.ntmps32
            go_wp2_with (first
              | (go_at_call 57; (with_reducible refine (isName_any s _ HS2.out).mono ?_); rw [HN.out]; rintro e w' ⟨rfl, rfl⟩)
              | (go_at_call 56; (with_reducible refine (spend_any H.out HD.out).mono ?_); rw [HQ.out]; rintro e w1 ⟨rfl, h1, ht⟩; have H1 := Lib.hid h1; have HT := Lib.hid ht; clear h1 ht)
              | (go_at_call 51; (refine (put_walk (L := refs d.spend.1.f ρ) (H1.out.below (below1 w1 _)).c0 (H1.out.below (below1 w1 _)).map (by rw [length_refs, spend_f]; have := HFW.out; unfold maxLen; omega) HS.out _).mono ?_); rintro e w3 ⟨rfl, w2, hb2, ht2, hm2⟩; have HB2 := Lib.hid hb2; have HT2 := Lib.hid ht2; have HM2 := Lib.hid hm2; clear hb2 ht2 hm2))
            go_ret
            have h1a := H1.out.below (below1 w1 (.cells #[.slice none 0 0, .int .i64 0] 71))
            have hT1 : Tn S w (w1.alloc (.cells #[.slice none 0 0, .int .i64 0] 71)) := (H.out.tna HT.out).alloc _
            have hT2 : Tn S w w2 := hT1.trans (Tn.of_below (S := fun _ => False) HB2.out) (fun _ _ e => e.elim)
            have hT : Tn S w w3 := hT2.trans HT2.out fun k _ e => e ▸ H.out.sm
            have hz : w1.heap.size < w3.heap.size := by have := HB2.out.size; have := HT2.out.size; simp at *; omega
            refine ⟨by rw [HE.out]; rfl, ⟨m, at_ ρ s w1.heap.size, at_ δ s (.slice none 0 0), h1a.put_of (x := ⟨[], 0⟩) HB2.out HT2.out HM2.out (heap_alloc_new w1 _) (World.ownsRow_nil _ _ _ _) (fun p hp _ e => ?_) (fun _ _ _ k hk => by cases hk) H.out.ok.create
              (by rw [HE.out, spend_f]) (by rw [HE.out]) (by rw [HE.out]) (by rw [HE.out]) (gw_self S w w3) (.inr ⟨HT.out.size, hz⟩) (fun k hk => by cases hk) (fun k hk => Gw.size hT.size H.out.lt hk)⟩, hT⟩
            have := H1.out.lt _ (H1.out.sf p hp)
            omega
set_option maxRecDepth 100000 in
theorem rename_any (h : DAt S w a d m ρ δ) (hs : s.length ≤ maxLen) (hd : d.done < 9223372036854775807) {t : Nm} (ht : t.length ≤ 281474976710656) : Calls Try.prog 29 #[ptr a, nmv s, nmv t] w (Wrote S w a (d.rename s t)) := by
  have ht2 : t.length ≤ 9223372036854775807 := by omega
  have ht3 : t.length ≤ maxLen := by unfold maxLen; omega
  have HT2 := Lib.hid ht2
  have HT3 := Lib.hid ht3
  have HTT := Lib.hid ht
  clear ht ht2 ht3
  have H := Lib.hid h
  have HS := Lib.hid hs
  have HD := Lib.hid hd
  clear h hs hd
  cases ho : d.off with
  | true =>
    have e : d.rename s t = (d, 12) := by unfold Dk.rename; rw [if_pos ho]
    rw [e]
    have HO := Lib.hid ho
    clear ho e
    go_enter Try.func29, Try.ntmps29
    go_wp2_with (go_at_call 55; (with_reducible refine (find_off H.out HO.out).mono ?_); rintro e w' ⟨rfl, rfl⟩)
    go_ret
    exact wrote_same (r := (d, 12)) H.out (Tn.refl _ _) H.out.lt
  | false =>
    cases hx : get d.f s with
    | none =>
      have e : d.rename s t = (d, 8) := by unfold Dk.rename; rw [ho, has_get, hx]; rfl
      rw [e]
      have HO := Lib.hid ho
      have HX := Lib.hid hx
      clear ho e hx
      go_enter Try.func29, Try.ntmps29
      go_wp2_with (go_at_call 55; (with_reducible refine (find_none H.out HS.out HO.out HX.out).mono ?_); rintro e w' ⟨rfl, rfl⟩)
      go_ret
      exact wrote_same (r := (d, 8)) H.out (Tn.refl _ _) H.out.lt
    | some x =>
      have HO := Lib.hid ho
      have HX := Lib.hid hx
      cases hn : isNm t with
      | false =>
        have e : d.rename s t = (d, 10) := by unfold Dk.rename; rw [ho, has_get, hx, hn]; rfl
        rw [e]
        have HN := Lib.hid hn
        clear ho e hx hn
        go_enter Try.func29, Try.ntmps29
        go_wp2_with (first
          | (go_at_call 55; (with_reducible refine (find_some H.out HS.out HO.out HX.out).mono ?_); rintro e w' ⟨rfl, rfl⟩)
          | (go_at_call 57; (with_reducible refine (isName_any t _ HT2.out).mono ?_); rw [HN.out]; rintro e w' ⟨rfl, rfl⟩))
        go_ret
        exact wrote_same (r := (d, 10)) H.out (Tn.refl _ _) H.out.lt
      | true =>
        have HN := Lib.hid hn
        cases hq : d.spend.2 with
        | false =>
          have e : d.rename s t = (d.spend.1, 12) := by unfold Dk.rename; rw [ho, has_get, hx, hn, hq]; rfl
          rw [e]
          have HQ := Lib.hid hq
          clear ho e hx hq hn
          go_enter Try.func29, Try.ntmps29
          go_wp2_with (first
            | (go_at_call 55; (with_reducible refine (find_some H.out HS.out HO.out HX.out).mono ?_); rintro e w' ⟨rfl, rfl⟩)
            | (go_at_call 57; (with_reducible refine (isName_any t _ HT2.out).mono ?_); rw [HN.out]; rintro e w' ⟨rfl, rfl⟩)
            | (go_at_call 56; (with_reducible refine (spend_any H.out HD.out).mono ?_); rw [HQ.out]; rintro e w1 ⟨rfl, h1, ht⟩; have H1 := Lib.hid h1; have HT := Lib.hid ht; clear h1 ht))
          go_ret
          exact wrote_same (r := (d.spend.1, 12)) H1.out (H.out.tna HT.out) H.out.lt
        | true =>
          have e : d.rename s t = ({ d.spend.1 with f := move d.f s t }, 0) := by unfold Dk.rename; rw [ho, has_get, hx, hn, hq]; rfl
          have e2 : d.remove s = ({ d.spend.1 with f := del d.f s }, 0) := by unfold Dk.remove; rw [ho, has_get, hx, hq]; rfl
          have HQ := Lib.hid hq
          have HE := Lib.hid e
          have HE2 := Lib.hid e2
          clear ho e hx hq hn e2
          go_enter Try.func29, Try.ntmps29
          go_wp2_with (first
            | (go_at_call 55; (with_reducible refine (find_some H.out HS.out HO.out HX.out).mono ?_); rintro e w' ⟨rfl, rfl⟩)
            | (go_at_call 57; (with_reducible refine (isName_any t _ HT2.out).mono ?_); rw [HN.out]; rintro e w' ⟨rfl, rfl⟩)
            | (go_at_call 56; (with_reducible refine (spend_any H.out HD.out).mono ?_); rw [HQ.out]; rintro e w1 ⟨rfl, h1, ht⟩; have H1 := Lib.hid h1; have HT := Lib.hid ht; have c0 := h1.c0; clear h1 ht)
            | (at_delete; refine wpList_del rfl _ _ rfl rfl rfl H1.out.map HS.out ?_; intro w2 hm2 ht2; have H2 := Lib.hid (H1.out.del (d' := (d.remove s).1) ht2 hm2 H.out.ok.remove (by rw [HE2.out, spend_f]) (by rw [HE2.out]) (by rw [HE2.out]) (by rw [HE2.out])); have HW2 := Lib.hid ht2; have c02 := H2.out.c0; clear hm2 ht2)
            | (go_at_call 51; (refine (put_walk (L := refs (d.remove s).1.f ρ) c02 H2.out.map (by rw [length_refs]; have := H2.out.ok.few; unfold maxLen; omega) HTT.out _).mono ?_); rintro e w4 ⟨rfl, w3, hb3, ht3, hm3⟩; have HB3 := Lib.hid hb3; have HW3 := Lib.hid ht3; have HM3 := Lib.hid hm3; clear hb3 ht3 hm3))
          go_ret
          have hT1 : Tn S w w2 := (H.out.tna HT.out).trans HW2.out fun k _ e => e ▸ H.out.sm
          have hT2 : Tn S w w3 := hT1.trans (Tn.of_below (S := fun _ => False) HB3.out) (fun _ _ e => e.elim)
          have hT : Tn S w w4 := hT2.trans HW3.out fun k _ e => e ▸ H.out.sm
          have hx1 := get_spend HX.out
          have hmem := get_mem hx1
          have hf2 := HW2.out.at_ (H1.out.file _ hmem) (fun e => H1.out.mf hmem e.symm)
          have hr2 := own_tn (H1.out.row _ hmem) HW2.out (fun k hk e => H1.out.mr hmem (e ▸ hk))
          have hdf : (d.remove s).1.f = del d.spend.1.f s := by rw [HE2.out, spend_f]
          refine ⟨by rw [HE.out]; rfl, ⟨m, at_ ρ t (ρ s), at_ δ t (δ s), H2.out.put_of (x := x) HB3.out HW3.out HM3.out hf2 hr2 (fun p hp _ => ?_) (fun p hp _ k hk => ?_) H.out.ok.rename
            ?_ (by rw [HE.out, HE2.out]) (by rw [HE.out, HE2.out]) (by rw [HE.out, HE2.out]) (gw_self S w w4) (.inl (H1.out.sf _ hmem)) (fun k hk => .inl (H1.out.sr _ hmem k hk)) (fun k hk => Gw.size hT.size H.out.lt hk)⟩, hT⟩
          · rw [hdf] at hp
            exact H1.out.inj p (mem_del.1 hp).1 _ hmem (mem_del.1 hp).2
          · rw [hdf] at hp
            exact H1.out.dis _ hmem p (mem_del.1 hp).1 (fun e => (mem_del.1 hp).2 e.symm) k hk
          · rw [HE.out, HE2.out]
            unfold move
            rw [HX.out]

end
end Go.Proofs.Ytefgnlijgomgpaa
