/- disk: strings.Clone, put, Create, Rename. Conditions: names as Go has them. bytes.Clone; disk: Read, Size, Append. Conditions: no more bytes than a disk has room for, and 2^47 at the append. disk.List tells the names by rising order; slices of ints as they read; disk.kept. Conditions: none of its own. -/
import Derived.Test.YtkilkhnoldfhcaaGreatDoorF
import Derived.Test.YtkilkhnoldfhcaaGreatDoorShelf
import Derived.Deep.RegionHeld
namespace Go.Proofs.YtkilkhnoldfhcaaGreatDoor
open Go.RowKit
theorem sclone_any (s : Nm) (w : World) (hs : s.length ≤ 281474976710656) : Calls Tryz.prog 65 #[nmv s] w fun e w' => e = .returned (nmv s) ∧ Below w.heap.size w w' := by
  have h1 : (⟨s.toArray⟩ : ByteArray).size ≤ 281474976710656 := by simpa [ByteArray.size] using hs
  have H1 := Lib.hid h1
  clear h1
  go_enter Tryz.func65, Tryz.ntmps65
  go_wp2_with (go_at_call 102; (refine (Tryz.stringslite_Clone ⟨s.toArray⟩ w H1.out).mono ?_); rintro e w1 ⟨rfl, hb⟩; have HB := Lib.hid hb; clear hb)
  go_ret
  exact ⟨rfl, HB.out⟩
theorem MAt.below {w w' : World} {m : Nat} {L : Ent Nat} (h : MAt w m L) (hb : Below w.heap.size w w') : MAt w' m L := h.tn (Tn.of_below (S := fun _ => False) hb) (fun e => e)
theorem MAt.store {w : World} {m : Nat} {L : Ent Nat} (h : MAt w m L) {s : Nm} (hs : s.length ≤ maxLen) (hl : L.length < maxLen) (b : Nat) : ∃ w', (Instr.mapUpdate 83 (.map (some m)) (nmv s) (ptr b)).run Tryz.prog w = .ok () w' ∧ MAt w' m (put L s b) ∧ Tn (· = m) w w' := by
  obtain ⟨w', h1, h2, h3⟩ := World.ownsMap.store h law9 under62 hl (key9 hs) (refE_ptr b)
  have hg := h3.grown
  exact ⟨w', h1, mat_tight (by rw [← put_dmap]; exact h2), hg.os, hg.tape, hg.output, hg.size, fun k hk hne => hg.block k hk (fun e => hne (by simpa using e))⟩
section
variable {S : Nat → Prop} {w : World} {a m : Nat} {d : Dk} {ρ : Nm → Nat} {δ : Nm → Value} {s : Nm} {x : Fi}
set_option maxRecDepth 100000 in
theorem put_walk {L : Ent Nat} (c0 : w.cell? ⟨a, 0, none⟩ = some (.map (some m))) (hm : MAt w m L) (hl : L.length < maxLen) (hs : s.length ≤ 281474976710656) (b : Nat) :
    Calls Tryz.prog 56 #[ptr a, nmv s, ptr b] w fun e w' => e = .returned (.tuple #[]) ∧ ∃ w1, Below w.heap.size w w1 ∧ Tn (· = m) w1 w' ∧ MAt w' m (put L s b) := by
  have ha : a < w.heap.size := World.block_lt_of_cell? _ _ c0
  have hs9 : s.length ≤ maxLen := by unfold maxLen; omega
  have HS9 := Lib.hid hs9
  clear hs9
  have HM := Lib.hid hm
  have HL := Lib.hid hl
  have HS := Lib.hid hs
  have HA := Lib.hid ha
  clear hm hl hs ha
  go_enter Tryz.func56, Tryz.ntmps56
  go_wp2
  refine wp_region_held (S := (fun w' => w'.cell? ⟨a, 0, none⟩ = some (.map (some m)))) (by kernel_rfl) ?_
  change wpAnyH _ _ _ _ _ _ _ _ (World.drew _)
  refine wpAnyH_take (i := 0) (v := ?vp_0) rfl (by kernel_rfl) (by kernel_rfl) (by kernel_rfl) (fun _ _ _ h => h) (Or.inl ⟨by rfl, ?yp_0⟩) c0 ?rp_0
  case yp_0 => (intro W hSw; (try dsimp only at hSw); obtain c0 := hSw; first | (go_simp; done) | (go_simp; with_reducible rfl))
  try go_simp
  refine wpAnyH_take (i := 1) (v := ?vp_1) rfl (by kernel_rfl) (by kernel_rfl) (by kernel_rfl) (fun _ _ _ h => h) (Or.inl ⟨by rfl, ?yp_1⟩) c0 ?rp_1
  case yp_1 => (intro W hSw; (try dsimp only at hSw); obtain c0 := hSw; first | (go_simp; done) | (go_simp; with_reducible rfl))
  try go_simp
  refine wpAnyH_take (i := 2) (v := ?vp_2) rfl (by kernel_rfl) (by kernel_rfl) (by kernel_rfl) (fun _ _ _ h => h) (Or.inl ⟨by rfl, ?yp_2⟩) c0 ?rp_2
  case yp_2 => (intro W hSw; (try dsimp only at hSw); obtain c0 := hSw; first | (go_simp; done) | (go_simp; with_reducible rfl))
  try go_simp
  refine wpAnyH_take (i := 3) (v := ?vp_3) rfl (by kernel_rfl) (by kernel_rfl) (by kernel_rfl) (fun _ _ _ h => h) (Or.inl ⟨by rfl, ?yp_3⟩) c0 ?rp_3
  case yp_3 => (intro W hSw; (try dsimp only at hSw); obtain c0 := hSw; first | (go_simp; done) | (go_simp; with_reducible rfl))
  try go_simp
  refine wpAnyH_take (i := 4) (v := ?vp_4) rfl (by kernel_rfl) (by kernel_rfl) (by kernel_rfl) (fun _ _ _ h => h) (Or.inl ⟨by rfl, ?yp_4⟩) c0 ?rp_4
  case yp_4 => (intro W hSw; (try dsimp only at hSw); obtain c0 := hSw; first | (go_simp; done) | (go_simp; with_reducible rfl))
  try go_simp
  refine wpAnyH_take (i := 6) (v := ?vp_6) rfl (by kernel_rfl) (by kernel_rfl) (by kernel_rfl) (fun _ _ _ h => h) (Or.inl ⟨by rfl, ?yp_6⟩) c0 ?rp_6
  case yp_6 => (intro W hSw; (try dsimp only at hSw); obtain c0 := hSw; first | (go_simp; done) | (go_simp; with_reducible rfl))
  try go_simp
  refine wpAnyH_ready (rs := [5]) (by kernel_rfl) (by simp) ?_
  refine AllReadyH.cons rfl (fun K hK => ?_) AllReadyH.nil
  go_simp
  (go_wp2_with (first | (go_at_call 65; (refine (sclone_any s _ HS.out).mono ?_); rintro e w1 ⟨rfl, hb⟩; have HB := Lib.hid hb; have c1 := (hb.cell (p := ⟨a, 0, none⟩) HA.out).trans c0; clear hb)))
  refine hK.out _ _ c1 (fun _ => ?_)
  clear hK K
  try go_simp
  refine wpAnyH_ready (rs := [7]) (by kernel_rfl) (by simp) ?_
  refine AllReadyH.cons rfl (fun K hK => ?_) AllReadyH.nil
  go_simp
  have hb := (Below.refl _ w).drew.trans HB.out
  have hm1 := HM.out.below hb
  have ham : a ≠ m := fun e => by
    obtain ⟨es, clock, hh, _⟩ := hm1
    rw [← e] at hh
    simp [World.cell?, hh] at c1
  obtain ⟨w2, hr, hm2, ht2⟩ := MAt.store (s := s) hm1 HS9.out HL.out b
  have c2 := ht2.cell (p := ⟨a, 0, none⟩) c1 ham
  rw [hr]
  go_simp
  refine hK.out _ _ c2 (fun _ => ?_)
  clear hK K hr
  try go_simp
  refine wpAnyH_done (by kernel_rfl) ?_ _
  try go_wp2
  go_returns
  exact ⟨rfl, w1, hb, ht2, hm2⟩
theorem DAt.len (h : DAt S w a d m ρ δ) (ty : TypeId) : (Builtin.len_ #[83] ty #[.map (some m)]).run Tryz.prog w = .ok (.int .i64 (d.f.length : Nat)) w := by
  have := World.ownsMap.len h.map under62 ty
  rw [size_dmap, length_refs] at this
  exact this
/-- What put leaves of a disk beside which a file lies. -/
theorem DAt.put_of (h : DAt S w a d m ρ δ) {w1 w' : World} {v : Value} {b : Nat} {d' : Dk} (hb1 : Below w.heap.size w w1) (ht : Tn (· = m) w1 w') (hm : MAt w' m (YtkilkhnoldfhcaaGreatDoor.put (refs d.f ρ) s b)) (hf : w.heap[b]? = some (.cells #[v, .int .i64 (x.safe : Int)] 95 (0, 0)))
    (hr : w.ownsRow 0 5 1 v x.data.length (bys x.data)) (hb : ∀ p ∈ d.f, p.1 ≠ s → ρ p.1 ≠ b) (hv : ∀ p ∈ d.f, p.1 ≠ s → ∀ k, v.ownBlock = some k → (δ p.1).ownBlock ≠ some k)
    (hok : Ok d') (hd : d'.f = YtkilkhnoldfhcaaGreatDoor.put d.f s x) (h1 : d'.off = d.off) (h2 : d'.left = d.left) (h3 : d'.done = d.done) {U : Nat → Prop}
    (hS : ∀ k, S k → U k) (hUb : U b) (hU : ∀ k, v.ownBlock = some k → U k) (hlt : ∀ k, U k → k < w'.heap.size) : DAt U w' a d' m (at_ ρ s b) (at_ δ s v) := by
  have hbm : b ≠ m := fun e => by
    obtain ⟨es, clock, hh, _⟩ := h.map
    rw [← e, hf] at hh
    cases hh
  have hvm : ∀ k, v.ownBlock = some k → ¬ k = m := fun k hk e => by
    obtain ⟨cur, hc⟩ := own_at hr hk
    obtain ⟨es, clock, hh, _⟩ := h.map
    rw [e, hh] at hc
    cases hc
  exact (h.below hb1).put ht hm (ht.at_ ((Tn.of_below (S := fun _ => False) hb1).at_ hf (fun e => e)) hbm) (own_tn (own_below hr hb1) ht hvm) hb hv hok hd h1 h2 h3 hS hUb hU hlt
theorem put_none {f : Ent Fi} (hx : get f s = none) : ∀ p ∈ f, p.1 ≠ s := get_none hx
set_option maxRecDepth 100000 in
theorem create_any (h : DAt S w a d m ρ δ) (hs : s.length ≤ 281474976710656) (hd : d.done < 9223372036854775807) : Calls Tryz.prog 44 #[ptr a, nmv s] w (Wrote S w a (d.create s)) := by
  have hs2 : s.length ≤ 9223372036854775807 := by omega
  have hs3 : s.length ≤ maxLen := by unfold maxLen; omega
  have H := Lib.hid h
  have HS := Lib.hid hs
  have HS2 := Lib.hid hs2
  have HS3 := Lib.hid hs3
  have HD := Lib.hid hd
  have c0 := h.c0
  have c3 := h.c3
  have hlen := h.len
  have hfew := h.ok.few
  clear h hs hd hs2 hs3
  cases ho : d.off with
  | true =>
    have e : d.create s = (d, 12) := by unfold Dk.create; rw [if_pos ho]
    rw [e]
    rw [ho] at c3
    clear ho e
    go_enter Tryz.func44, Tryz.ntmps44
    go_wp2
    go_ret
    exact wrote_same (r := (d, 12)) H.out (Tn.refl _ _) H.out.lt
  | false =>
    rw [ho] at c3
    cases hn : isNm s with
    | false =>
      have e : d.create s = (d, 10) := by unfold Dk.create; rw [ho, hn]; rfl
      rw [e]
      have HN := Lib.hid hn
      clear ho e hn
      go_enter Tryz.func44, Tryz.ntmps44
      go_wp2_with (go_at_call 85; (with_reducible refine (isName_any s _ HS2.out).mono ?_); rw [HN.out]; rintro e w' ⟨rfl, rfl⟩)
      go_ret
      exact wrote_same (r := (d, 10)) H.out (Tn.refl _ _) H.out.lt
    | true =>
      have HN := Lib.hid hn
      cases hx : get d.f s with
      | some x =>
        have e : d.create s = (d, 9) := by unfold Dk.create; rw [ho, hn, has_get, hx]; rfl
        rw [e]
        have l0 := H.out.look HS3.out hx
        clear ho e hn hx
        go_enter Tryz.func44, Tryz.ntmps44
        go_wp2_with (go_at_call 85; (with_reducible refine (isName_any s _ HS2.out).mono ?_); rw [HN.out]; rintro e w' ⟨rfl, rfl⟩)
        go_ret
        exact wrote_same (r := (d, 9)) H.out (Tn.refl _ _) H.out.lt
      | none =>
        have l0 := H.out.look0 HS3.out hx
        have HX := Lib.hid hx
        by_cases hf : 64 ≤ d.f.length
        · have e : d.create s = (d, 3) := by unfold Dk.create; rw [ho, hn, has_get, hx]; simp [hf]
          rw [e]
          clear ho e hn hx
          go_enter Tryz.func44, Tryz.ntmps44
          go_wp2_with (go_at_call 85; (with_reducible refine (isName_any s _ HS2.out).mono ?_); rw [HN.out]; rintro e w' ⟨rfl, rfl⟩)
          go_ret
          exact wrote_same (r := (d, 3)) H.out (Tn.refl _ _) H.out.lt
        · have hf2 : ¬ (64 : Int) ≤ (d.f.length : Int) := by omega
          cases hq : d.spend.2 with
          | false =>
            have e : d.create s = (d.spend.1, 12) := by unfold Dk.create; rw [ho, hn, has_get, hx, hq]; simp [hf]
            rw [e]
            have HQ := Lib.hid hq
            clear ho e hn hx hq hf hfew
            go_enter Tryz.func44, Tryz.ntmps44
            go_wp2_with (first
              | (go_at_call 85; (with_reducible refine (isName_any s _ HS2.out).mono ?_); rw [HN.out]; rintro e w' ⟨rfl, rfl⟩)
              | (go_at_call 86; (with_reducible refine (spend_any H.out HD.out).mono ?_); rw [HQ.out]; rintro e w1 ⟨rfl, h1, ht⟩; have H1 := Lib.hid h1; have HT := Lib.hid ht; clear h1 ht))
            go_ret
            exact wrote_same (r := (d.spend.1, 12)) H1.out (H.out.tna HT.out) H.out.lt
          | true =>
            have e : d.create s = ({ d.spend.1 with f := put d.f s ⟨[], 0⟩ }, 0) := by unfold Dk.create; rw [ho, hn, has_get, hx, hq]; simp [hf]
            have HQ := Lib.hid hq
            have HE := Lib.hid e
            have HF := Lib.hid hf
            have HFW := Lib.hid hfew
            clear ho e hn hx hq hf hfew
            go_enter Tryz.func44, Tryz.ntmps44
            go_wp2_with (first
              | (go_at_call 85; (with_reducible refine (isName_any s _ HS2.out).mono ?_); rw [HN.out]; rintro e w' ⟨rfl, rfl⟩)
              | (go_at_call 86; (with_reducible refine (spend_any H.out HD.out).mono ?_); rw [HQ.out]; rintro e w1 ⟨rfl, h1, ht⟩; have H1 := Lib.hid h1; have HT := Lib.hid ht; clear h1 ht)
              | (go_at_call 56; (refine (put_walk (L := refs d.spend.1.f ρ) (H1.out.below (below1 w1 _)).c0 (H1.out.below (below1 w1 _)).map (by rw [length_refs, spend_f]; have := HFW.out; unfold maxLen; omega) HS.out _).mono ?_); rintro e w3 ⟨rfl, w2, hb2, ht2, hm2⟩; have HB2 := Lib.hid hb2; have HT2 := Lib.hid ht2; have HM2 := Lib.hid hm2; clear hb2 ht2 hm2))
            go_ret
            have h1a := H1.out.below (below1 w1 (.cells #[.slice none 0 0, .int .i64 0] 95))
            have hT1 : Tn S w (w1.alloc (.cells #[.slice none 0 0, .int .i64 0] 95)) := (H.out.tna HT.out).alloc _
            have hT2 : Tn S w w2 := hT1.trans (Tn.of_below (S := fun _ => False) HB2.out) (fun _ _ e => e.elim)
            have hT : Tn S w w3 := hT2.trans HT2.out fun k _ e => e ▸ H.out.sm
            have hz : w1.heap.size < w3.heap.size := by have := HB2.out.size; have := HT2.out.size; simp at *; omega
            refine ⟨by rw [HE.out]; rfl, ⟨m, at_ ρ s w1.heap.size, at_ δ s (.slice none 0 0), h1a.put_of (x := ⟨[], 0⟩) HB2.out HT2.out HM2.out (heap_alloc_new w1 _) (World.ownsRow_nil _ _ _ _) (fun p hp _ e => ?_) (fun _ _ _ k hk => by cases hk) H.out.ok.create
              (by rw [HE.out, spend_f]) (by rw [HE.out]) (by rw [HE.out]) (by rw [HE.out]) (gw_self S w w3) (.inr ⟨HT.out.size, hz⟩) (fun k hk => by cases hk) (fun k hk => Gw.size hT.size H.out.lt hk)⟩, hT⟩
            have := H1.out.lt _ (H1.out.sf p hp)
            omega
end
end Go.Proofs.YtkilkhnoldfhcaaGreatDoor
namespace Go.Proofs.YtkilkhnoldfhcaaGreatDoor
open Go.RowKit
theorem own_nil (w : World) : (w.alloc (.cells #[] 5)).ownsRow w.heap.size 5 1 (.slice (some ⟨w.heap.size, 0, none⟩) 0 0) ([] : List UInt8).length (bys []) := World.ownsRow_lit w #[] 0 (Nat.le_refl _) (by decide) rfl
theorem own_below_grown {B : Nat} {w w' : World} {e k : Nat} {v : Value} {n : Nat} {xs : List Value} (h : w.ownsRow B e k v n xs) (hB : B ≤ w.heap.size) (hg : w.grownBy w' v.ownBlock) : Below B w w' :=
  (Below.refl B w).grown hg hB (fun k hk => (h.lt k hk).1)
set_option maxRecDepth 100000 in
theorem clone_any {C : Nat → Prop} {w : World} {ao : Option Addr} {n cap : Nat} {l : List UInt8} (h : SB C w ao n cap l) (hroom : n ≤ 140737488355328) : Calls Tryz.prog 57 #[.slice ao n cap] w fun e w' => ∃ v', e = .returned v' ∧ w'.ownsRow w.heap.size 5 1 v' l.length (bys l) ∧ Below w.heap.size w w' := by
  have H := Lib.hid h
  cases ao with
  | none =>
    have h0 := h.nil rfl
    have h1 := h.le
    have h2 := h.len
    obtain rfl : cap = 0 := h0
    obtain rfl : n = 0 := by omega
    obtain rfl : l = [] := List.eq_nil_of_length_eq_zero h2.symm
    clear H h1 h2 h
    have hq := fun w => Lib.run_eql_slice_nil (P := Tryz.prog) w 36 5 none 0 0 0 0 under33
    go_enter Tryz.func57, Tryz.ntmps57
    go_wp2
    go_ret
    exact ⟨_, rfl, World.ownsRow_nil _ _ _ _, Below.refl _ _⟩
  | some ad =>
    clear h
    have hq := fun w => Lib.run_eql_slice_nil (P := Tryz.prog) w 36 5 (some ad) n cap 0 0 under33
    go_enter Tryz.func57, Tryz.ntmps57
    go_wp2_with (first
      | (at_builtin; refine wpList_append_sb (wanted_none rfl _) (.tmp 5) (.tmp 6) rfl rfl (own_nil w) (by simp) rfl ((H.out.below (below1 w _))) (by simpa using hroom) ?_; intro v1 w1 ho1 hg1 _; have hb := (below1 w (.cells #[] 5)).trans (own_below_grown (own_nil w) (by simp) hg1); have HB := Lib.hid hb; rw [List.nil_append] at ho1; have HO := Lib.hid ho1; clear ho1 hg1 hb))
    go_ret
    exact ⟨_, rfl, HO.out, HB.out⟩
theorem clone_own {w : World} {v : Value} {l : List UInt8} (h : w.ownsRow 0 5 1 v l.length (bys l)) (hl : l.length ≤ 4194304) : Calls Tryz.prog 57 #[v] w fun e w' => ∃ v', e = .returned v' ∧ w'.ownsRow w.heap.size 5 1 v' l.length (bys l) ∧ Below w.heap.size w w' := by
  obtain ⟨ao, cap, rfl⟩ := own_slice h
  exact clone_any (own_sb h) (by omega)
/-- How many bytes have come. -/
def come (left : Lit → Bool) (f : Ent Fi) : Nat := ((f.filter fun p => !left (.string p.1)).map fun p => p.2.data.length).sum
theorem come_nil (left : Lit → Bool) : come left [] = 0 := rfl
theorem come_cons (left : Lit → Bool) (p : Nm × Fi) (f : Ent Fi) : come left (p :: f) = (if left (.string p.1) then 0 else p.2.data.length) + come left f := by
  unfold come
  rw [List.filter_cons]
  cases left (.string p.1) <;> simp
theorem come_le (left : Lit → Bool) : ∀ f : Ent Fi, come left f ≤ tot f
  | [] => Nat.le_refl _
  | p :: f => by
    rw [come_cons, tot_cons]
    have := come_le left f
    split <;> omega
theorem come_end {left : Lit → Bool} (h : ∀ k, left k = false) : ∀ f : Ent Fi, come left f = tot f
  | [] => rfl
  | p :: f => by rw [come_cons, tot_cons, h, come_end h f]; simp
theorem come_none {left : Lit → Bool} : ∀ {f : Ent Fi}, (∀ p ∈ f, left (.string p.1) = true) → come left f = 0
  | [], _ => rfl
  | p :: f, h => by rw [come_cons, h p (by simp), come_none (fun q hq => h q (by simp [hq]))]; simp
theorem come_step {left : Lit → Bool} {s : Nm} {x : Fi} (hl : left (.string s) = true) : ∀ {f : Ent Fi}, Rising f → get f s = some x → come (fun z => left z && !z.sameKey (.string s)) f = come left f + x.data.length
  | [], _, h => by cases h
  | p :: f, hr, h => by
    rw [come_cons, come_cons]
    rw [get_cons] at h
    by_cases e : p.1 = s
    · rw [if_pos (by simpa using e)] at h
      cases h
      have hn : ∀ q ∈ f, q.1 ≠ s := fun q hq k => by have := hr.head q hq; rw [e, k] at this; exact nm_irrefl _ this
      have hc : ∀ g : Ent Fi, (∀ q ∈ g, q.1 ≠ s) → come (fun z => left z && !z.sameKey (.string s)) g = come left g := by
        intro g hg
        induction g with
        | nil => rfl
        | cons q g ih =>
          rw [come_cons, come_cons, ih (fun q hq => hg q (by simp [hq]))]
          have : (Lit.string q.1).sameKey (.string s) = false := by
            show (q.1 == s) = false
            simpa using hg q (by simp)
          simp [this]
      rw [hc f hn]
      have : (Lit.string p.1).sameKey (.string s) = true := by
        show (p.1 == s) = true
        simpa using e
      rw [e] at this ⊢
      simp [hl, this]
      omega
    · rw [if_neg (by simpa using e)] at h
      rw [come_step hl hr.tail h]
      have : (Lit.string p.1).sameKey (.string s) = false := by
        show (p.1 == s) = false
        simpa using e
      simp [this]
      omega
theorem refE_ptrs {v : Value} {y : DataW Unit × List MemPlace} (h : refE v = some y) : ∃ c, v = .pointer c := by
  unfold refE at h
  split at h
  · exact ⟨_, rfl⟩
  · exact ⟨_, rfl⟩
  · cases h
theorem keyOf9 {key : Value} {kl : Lit} (h : keyOf Tryz.prog 9 key = some kl) : ∃ s : Nm, key = nmv s ∧ kl = .string s ∧ s.length ≤ maxLen := Maps.keyOf_str Tryz.underlying9 h
section
variable {S : Nat → Prop} {w : World} {a m : Nat} {d : Dk} {ρ : Nm → Nat} {δ : Nm → Value} {s : Nm} {x : Fi}
/-- An entry of the map, as a step of a loop over it hands it out. -/
theorem entry_of {f : Ent Fi} {kl : Lit} {b : Option Addr} {y : DataW Unit × List MemPlace} {s : Nm} (hk : kl = .string s) (hat : ∀ zd, (dmap (refs f ρ)).atKey kl zd = y.1) (hv : refE (.pointer b) = some y) : ∃ x, get f s = some x ∧ b = some ⟨ρ s, 0, none⟩ := by
  subst hk
  have h1 := hat .nil
  have h2 := hat (.lit (.int .i64 (-1)))
  rw [atKey_dmap, get_refs] at h1 h2
  cases hg : get f s with
  | none =>
    rw [hg] at h1 h2
    simp only [Option.map_none] at h1 h2
    rw [← h1] at h2
    cases h2
  | some x =>
    rw [hg] at h1
    simp only [Option.map_some] at h1
    have : refE (.pointer b) = some (.lit (.int .i64 (ρ s : Int)), y.2) := by rw [hv, h1]
    have := refE_inv this
    exact ⟨x, rfl, by injection this⟩
set_option maxRecDepth 100000 in
theorem read_any (h : DAt S w a d m ρ δ) (hs : s.length ≤ maxLen) : Calls Tryz.prog 122 #[ptr a, nmv s] w fun e w' => ∃ v, e = .returned (.tuple #[v, .int .i64 ((d.read s).2 : Nat)]) ∧ w'.ownsRow w.heap.size 5 1 v (d.read s).1.length (bys (d.read s).1) ∧ Below w.heap.size w w' := by
  have H := Lib.hid h
  have c0 := h.c0
  cases hx : get d.f s with
  | none =>
    have e : d.read s = ([], 8) := by unfold Dk.read; rw [hx]
    rw [e]
    have l0 := h.look0 hs hx
    clear h hx e hs
    go_enter Tryz.func122, Tryz.ntmps122
    go_wp2
    go_ret2
    exact ⟨_, rfl, World.ownsRow_nil _ _ _ _, Below.refl _ _⟩
  | some x =>
    have e : d.read s = (x.data, 0) := by unfold Dk.read; rw [hx]
    rw [e]
    have l0 := h.look hs hx
    have f0 := h.f0 hx
    have hr := h.own hx
    have hl := get_tot h.ok.rising hx
    have hroom := h.ok.room
    have HR := Lib.hid hr
    have hl2 : x.data.length ≤ 4194304 := by omega
    have HL := Lib.hid hl2
    clear h hx e hs hr hl hroom hl2
    go_enter Tryz.func122, Tryz.ntmps122
    go_wp2_with (go_at_call 57; (refine (clone_own HR.out HL.out).mono ?_); rintro e w1 ⟨v, rfl, ho, hb⟩; have HO := Lib.hid ho; have HB := Lib.hid hb; clear ho hb)
    go_ret2
    exact ⟨_, rfl, HO.out, HB.out⟩
set_option maxRecDepth 100000 in
theorem size_any (h : DAt S w a d m ρ δ) : Calls Tryz.prog 93 #[ptr a] w fun e w' => e = .returned (.int .i64 (tot d.f : Nat)) ∧ Below w.heap.size w w' := by
  have hroom := h.ok.room
  have hown := h.map
  have H := Lib.hid h
  have c0 := h.c0
  clear h
  go_enter Tryz.func93, Tryz.ntmps93
  go_wp2_with (first
    | (at_range; refine wpList_range_own _ rfl _ 83 rfl 9 93 law9 under62 refE m _ _ rfl hown ?_; intro w0 hrg0 hg0 hs0)
    | go_in)
  go_frame
  have HG := Lib.hid hrg0
  have HB0 : Hid (Below w.heap.size w w0) := (Below.refl _ _).grown hg0 (Nat.le_refl _) (fun k hk => by cases hk)
  clear hrg0 hg0 hs0
  go_loopw [3, 5] (fun n _ wr => ∃ (left : Lit → Bool) (cnt : Nat), n = .int .i64 (come left d.f : Nat) ∧ Hid (wr.ranges Tryz.prog 9 refE m w.heap.size (refs d.f ρ).length (dmap (refs d.f ρ)) left cnt) ∧ Hid (Below w.heap.size w wr)) (fun _ _ wr => wr.rangeLeft m w.heap.size)
  case atStart =>
    refine ⟨_, _, ?_, HG, HB0⟩
    rw [come_none (fun p hp => ?_)]
    · rfl
    · rw [has_dmap, has_refs, has_get, mem_get H.out.ok.rising hp]; rfl
  case round =>
    obtain ⟨left, cnt, rfl, hrg, hb⟩ := hrel
    have hcl := come_le left d.f
    go_wp2_with (first
      | (at_next; refine wpList_next_ranges _ rfl _ rfl 9 law9 refE nmv Value.pointer (fun key kl hk => by obtain ⟨s, hs, _⟩ := keyOf9 hk; exact ⟨s, hs⟩) (fun v y hv => refE_ptrs hv) m w.heap.size _ _ _ _ rfl hrg.out ?_ ?_)
      | go_in)
    · intro _ hl0
      have HC := Lib.hid (come_end hl0 d.f)
      clear hl0
      go_wp2
      go_ret
      exact ⟨by rw [← HC.out]; rfl, hb.out⟩
    · intro s b kl yd yp w1 cnt1 hkey hlk hv hat hrg1 hlt hg1 hs1 hen
      obtain ⟨s', es, rfl, _⟩ := keyOf9 hkey
      obtain rfl : s = s' := encStr_inj es
      obtain ⟨x, hx, rfl⟩ := entry_of (f := d.f) (y := (yd, yp)) rfl hat hv
      have HS := Lib.hid (come_step hlk H.out.ok.rising hx)
      have hb1 : Below w.heap.size w w1 := hb.out.grown hg1 hb.out.size (fun k hk => by cases hk; exact Nat.le_refl _)
      have hcl1 := come_le (fun z => left z && !z.sameKey (.string s)) d.f
      rw [HS.out] at hcl1
      have h1 := H.out.below hb1
      have f0 := h1.f0 hx
      obtain ⟨ao, cap, hdv⟩ := own_slice (h1.own hx)
      rw [hdv] at f0
      have HB1 := Lib.hid hb1
      have HRG := Lib.hid hrg1
      have HLT := Lib.hid hlt
      clear hkey hlk hv hat hrg1 hlt hg1 hs1 es h1 hdv hb1 hx
      go_wp2
      go_roundw
      case rel => exact ⟨_, cnt1, by rw [HS.out]; go_num, HRG, HB1⟩
      case measure => rw [HRG.out.left_eq, hrg.out.left_eq]; exact HLT.out
theorem spend_with (g : Ent Fi) : ({ d with f := g } : Dk).spend = ({ d.spend.1 with f := g }, d.spend.2) := by
  unfold Dk.spend
  simp only
  split <;> rfl
theorem DAt.app {w1 w2 : World} {v2 : Value} {y : List UInt8} (h : DAt S w1 a d m ρ δ) (hx : get d.f s = some x) (hg : w1.grownBy w2 (δ s).ownBlock) (ho : w2.ownsRow 0 5 1 v2 y.length (bys y)) (hl : v2.ownBlock = (δ s).ownBlock ∨ v2.ownBlock = some w1.heap.size)
    (hok : Ok { d with f := upd d.f s fun _ => ⟨y, x.safe⟩ }) : DAt (Gw S w1 (w2.setCell ⟨ρ s, 0, none⟩ v2)) (w2.setCell ⟨ρ s, 0, none⟩ v2) a { d with f := upd d.f s fun _ => ⟨y, x.safe⟩ } m ρ (at_ δ s v2) := by
  have hm := get_mem hx
  have hlt : ρ s < w1.heap.size := h.lt _ (h.sf _ hm)
  have hne : some (ρ s) ≠ (δ s).ownBlock := fun e => h.fr hm hm e.symm
  have hz : w1.heap.size ≤ (w2.setCell ⟨ρ s, 0, none⟩ v2).heap.size := by have := hg.size; simp [World.setCell]; exact this
  have hv2 : ∀ k, v2.ownBlock = some k → ¬ (k = ρ s) := fun k hk e => by
    rcases hl with e2 | e2
    · exact hne (by rw [← e, ← hk, e2])
    · rw [e2] at hk; cases hk; omega
  refine h.turn (y := ⟨y, x.safe⟩) hx ?_ (heap_set ((hg.block _ hlt hne).trans (h.file _ hm)) _ rfl) (own_minus ho (tn_set (Tn.refl _ _) _) (fun e => hv2 _ e rfl)) (fun k hk => ?_) hok rfl rfl rfl rfl (gw_self _ _ _) (fun k hk => ?_) (fun k hk => Gw.size hz h.lt hk)
  · exact tn_file ((Tn.refl _ _).grown hg (fun k hk _ => .inr hk)) _
  · rcases hl with e | e
    · exact .inl (e ▸ hk)
    · rw [e] at hk; cases hk; exact .inr (Nat.le_refl _)
  · rcases hl with e | e
    · exact .inl (h.sr _ hm k (e ▸ hk))
    · have := (ho.lt k hk).2
      rw [e] at hk; cases hk; exact .inr ⟨Nat.le_refl _, by simp [World.setCell]; exact this⟩
theorem tn_app {w1 w2 : World} {v2 : Value} (h : DAt S w1 a d m ρ δ) (hx : get d.f s = some x) (hg : w1.grownBy w2 (δ s).ownBlock) : Tn S w1 (w2.setCell ⟨ρ s, 0, none⟩ v2) :=
  (((Tn.refl S w1).grown hg (fun k hk _ => h.sr _ (get_mem hx) k hk))).setCell (fun _ => h.sf _ (get_mem hx)) _
theorem append_end {w1 w3 w4 : World} {b : List UInt8} {δ' : Nm → Value} {e : Ending} (h : DAt S w a d m ρ δ) (hx : get d.f s = some x) (hb : Below w.heap.size w w1) (ht : Tn S w1 w3)
    (h4 : DAt (Gw S w1 w3) w4 a ({ d with f := upd d.f s fun _ => ⟨x.data ++ b, x.safe⟩ } : Dk).spend.1 m ρ δ') (ht4 : Tn (· = a) w3 w4) (r : Dk × Nat) (hr : r.1 = { d.spend.1 with f := upd d.f s fun x => ⟨x.data ++ b, x.safe⟩ }) (he : e = .returned (.int .i64 (r.2 : Int))) : Wrote S w a r e w4 := by
  have hT : Tn S w w4 := ((Tn.of_below hb).trans ht (fun _ _ e => e)).trans ht4 (fun k _ e => e ▸ h.sa)
  refine ⟨he, ⟨m, ρ, δ', ?_⟩, hT⟩
  rw [hr, upd_const h.ok.rising (fun x => ⟨x.data ++ b, x.safe⟩) hx]
  rw [spend_with] at h4
  exact h4.grow (fun k hk => by
    rcases hk with hk | hk
    · exact .inl hk
    · have := hb.size; have := ht4.size; exact .inr (by omega)) (fun k hk => Gw.size hT.size h.lt hk)
set_option maxRecDepth 100000 in
theorem append_any {C : Nat → Prop} {ao : Option Addr} {n cap : Nat} {b : List UInt8} (h : DAt S w a d m ρ δ) (hs : s.length ≤ maxLen) (hd : d.done < 9223372036854775807) (hb : SB C w ao n cap b) (hroom : n ≤ 70000000000000) :
    Calls Tryz.prog 70 #[ptr a, nmv s, .slice ao n cap] w (Wrote S w a (d.append s b)) := by
  have H := Lib.hid h
  have HS := Lib.hid hs
  have HD := Lib.hid hd
  have HB := Lib.hid hb
  have hn := hb.len
  have HN := Lib.hid hn
  have HR := Lib.hid hroom
  have htot := h.ok.room
  clear h hs hd hb hn
  cases ho : d.off with
  | true =>
    have e : d.append s b = (d, 12) := by unfold Dk.append; rw [if_pos ho]
    rw [e]
    have HO := Lib.hid ho
    clear ho e
    go_enter Tryz.func70, Tryz.ntmps70
    go_wp2_with (go_at_call 108; (with_reducible refine (find_off H.out HO.out).mono ?_); rintro e w' ⟨rfl, rfl⟩)
    go_ret
    exact wrote_same (r := (d, 12)) H.out (Tn.refl _ _) H.out.lt
  | false =>
    cases hx : get d.f s with
    | none =>
      have e : d.append s b = (d, 8) := by unfold Dk.append; rw [ho, has_get, hx]; rfl
      rw [e]
      have HO := Lib.hid ho
      have HX := Lib.hid hx
      clear ho e hx
      go_enter Tryz.func70, Tryz.ntmps70
      go_wp2_with (go_at_call 108; (with_reducible refine (find_none H.out HS.out HO.out HX.out).mono ?_); rintro e w' ⟨rfl, rfl⟩)
      go_ret
      exact wrote_same (r := (d, 8)) H.out (Tn.refl _ _) H.out.lt
    | some x =>
      have HO := Lib.hid ho
      have HX := Lib.hid hx
      by_cases hf : 4194304 - tot d.f < b.length
      · have e : d.append s b = (d, 11) := by unfold Dk.append; rw [ho, has_get, hx]; simp [hf]
        rw [e]
        have hf2 : (4194304 : Int) - (tot d.f : Nat) < (n : Int) := by have := HN.out; omega
        clear ho e hx hf
        go_enter Tryz.func70, Tryz.ntmps70
        go_wp2_with (first
          | (go_at_call 108; (with_reducible refine (find_some H.out HS.out HO.out HX.out).mono ?_); rintro e w' ⟨rfl, rfl⟩)
          | (go_at_call 93; (with_reducible refine (size_any H.out).mono ?_); rintro e w1 ⟨rfl, hb1⟩; have HB1 := Lib.hid hb1; clear hb1))
        go_ret
        exact wrote_same (r := (d, 11)) (H.out.below HB1.out) (Tn.of_below HB1.out) H.out.lt
      · have hf2 : (n : Int) ≤ (4194304 : Int) - (tot d.f : Nat) := by have := HN.out; omega
        have e : d.append s b = ({ d.spend.1 with f := upd d.f s fun x => ⟨x.data ++ b, x.safe⟩ }, if d.spend.2 then 0 else 12) := by unfold Dk.append; rw [ho, has_get, hx]; simp [hf]
        have HE := Lib.hid e
        have hlx := get_tot H.out.ok.rising hx
        have hal : x.data.length + n ≤ 140737488355328 := by have := HN.out; omega
        have HAL := Lib.hid hal
        have hok : Ok { d with f := upd d.f s fun _ => ⟨x.data ++ b, x.safe⟩ } := by
          have := H.out.ok.append (s := s) (b := b)
          rw [e] at this
          exact this.of_f (by rw [upd_const H.out.ok.rising (fun x => ⟨x.data ++ b, x.safe⟩) hx])
        obtain ⟨y, hy⟩ : ∃ y, x.data ++ b = y := ⟨_, rfl⟩
        have HY := Lib.hid hy
        rw [hy] at hok
        clear hy
        have HOK := Lib.hid hok
        have f0 := H.out.f0 hx
        have HF0 := Lib.hid f0
        clear ho e hx hf hlx hal hok f0
        cases hq : d.spend.2 with
        | false =>
          have HQ := Lib.hid hq
          clear hq
          go_enter Tryz.func70, Tryz.ntmps70
          go_wp2_with (first
            | (go_at_call 108; (with_reducible refine (find_some H.out HS.out HO.out HX.out).mono ?_); rintro e w' ⟨rfl, rfl⟩)
            | (go_at_call 93; (with_reducible refine (size_any H.out).mono ?_); rintro e w1 ⟨rfl, hb1⟩; have H1 := Lib.hid (H.out.below hb1); have HB1 := Lib.hid hb1; have f0 := H1.out.f0 HX.out; clear hb1)
            | (at_builtin; refine wpList_append_sb (wanted_none rfl _) (.tmp 28) (.tmp 29) rfl rfl (H1.out.own HX.out) (Nat.zero_le _) rfl (HB.out.below HB1.out) HAL.out ?_; intro v2 w2 ho2 hg2 hl2; rw [HY.out] at ho2; obtain ⟨ao2, cap2, rfl⟩ := own_slice ho2; have HG2 := Lib.hid hg2; have HO2 := Lib.hid ho2; have HL2 := Lib.hid hl2; have g0 := hg2.cell f0 (fun e => H1.out.fr (get_mem HX.out) (get_mem HX.out) e.symm); have g1 := (World.frozen?_of_block (a := ⟨ρ s, 0, none⟩) (hg2.block (ρ s) (H1.out.lt _ (H1.out.sf _ (get_mem HX.out))) (fun e => H1.out.fr (get_mem HX.out) (get_mem HX.out) e.symm))).trans (H1.out.ff HX.out 0); clear ho2 hg2 hl2)
            | (go_at_call 86; (refine (spend_any (H1.out.app HX.out HG2.out HO2.out HL2.out HOK.out) HD.out).mono ?_); rw [spend_with, HQ.out]; rintro e w4 ⟨rfl, h4, ht4⟩; have H4 := Lib.hid h4; have HT4 := Lib.hid ht4; clear h4 ht4))
          go_ret
          exact append_end H.out HX.out HB1.out (tn_app H1.out HX.out HG2.out) (by rw [spend_with, HY.out]; exact H4.out) HT4.out _ (by rw [HE.out]) (by rw [HE.out, HQ.out]; rfl)
        | true =>
          have HQ := Lib.hid hq
          clear hq
          go_enter Tryz.func70, Tryz.ntmps70
          go_wp2_with (first
            | (go_at_call 108; (with_reducible refine (find_some H.out HS.out HO.out HX.out).mono ?_); rintro e w' ⟨rfl, rfl⟩)
            | (go_at_call 93; (with_reducible refine (size_any H.out).mono ?_); rintro e w1 ⟨rfl, hb1⟩; have H1 := Lib.hid (H.out.below hb1); have HB1 := Lib.hid hb1; have f0 := H1.out.f0 HX.out; clear hb1)
            | (at_builtin; refine wpList_append_sb (wanted_none rfl _) (.tmp 28) (.tmp 29) rfl rfl (H1.out.own HX.out) (Nat.zero_le _) rfl (HB.out.below HB1.out) HAL.out ?_; intro v2 w2 ho2 hg2 hl2; rw [HY.out] at ho2; obtain ⟨ao2, cap2, rfl⟩ := own_slice ho2; have HG2 := Lib.hid hg2; have HO2 := Lib.hid ho2; have HL2 := Lib.hid hl2; have g0 := hg2.cell f0 (fun e => H1.out.fr (get_mem HX.out) (get_mem HX.out) e.symm); have g1 := (World.frozen?_of_block (a := ⟨ρ s, 0, none⟩) (hg2.block (ρ s) (H1.out.lt _ (H1.out.sf _ (get_mem HX.out))) (fun e => H1.out.fr (get_mem HX.out) (get_mem HX.out) e.symm))).trans (H1.out.ff HX.out 0); clear ho2 hg2 hl2)
            | (go_at_call 86; (refine (spend_any (H1.out.app HX.out HG2.out HO2.out HL2.out HOK.out) HD.out).mono ?_); rw [spend_with, HQ.out]; rintro e w4 ⟨rfl, h4, ht4⟩; have H4 := Lib.hid h4; have HT4 := Lib.hid ht4; clear h4 ht4))
          go_ret
          exact append_end H.out HX.out HB1.out (tn_app H1.out HX.out HG2.out) (by rw [spend_with, HY.out]; exact H4.out) HT4.out _ (by rw [HE.out]) (by rw [HE.out, HQ.out]; rfl)
end
end Go.Proofs.YtkilkhnoldfhcaaGreatDoor
namespace Go.Proofs.YtkilkhnoldfhcaaGreatDoor
open Go.RowKit Go.Maps Go.Sort Go.Shelf
theorem sorts58 (m : Nat) : AnyZ.SortsIn Tryz.prog Tryz.sorted76_ren Fence.wide m :=
  ⟨fun blk off cap ss W hH hblk hsz => callsIn_wide.2 (AnyM.slices_Sort_string Tryz.laysSlM6_f110 blk off cap ss W hH hblk hsz),
   fun p cap W => callsIn_wide.2 (AnyM.slices_Sort_string_none Tryz.laysSlM6_f110 p cap W)⟩

theorem maps_Keys_59 (mb : Option Nat) (W : World) : CallsIn Fence.wide 5 Tryz.prog 77 #[.map mb] W fun e w' => e = .returned (.func (.func 111) #[] #[.pointer (some ⟨W.heap.size, 0, none⟩)]) ∧ w' = W.alloc (.cells #[.map mb] 83) :=
  AnyZ.keys_in Tryz.keys77 Fence.wide 5 trivial rfl mb W

set_option maxHeartbeats 1000000 in
theorem sorted_keys_58_59 {H : Type} (b nn : Nat) (D0 : DataW H) (R : Value → Option (DataW H × List MemPlace)) (w : World) (hown : w.ownsMap Tryz.prog 9 R b nn D0) (hmax : Maps.size D0 ≤ maxLen) (hbytes : Maps.size D0 * 16 ≤ 140737488355328) :
    CallsIn Fence.wide 5 Tryz.prog 76 #[.func (.func 111) #[] #[.pointer (some ⟨w.heap.size, 0, none⟩)]] (w.alloc (.cells #[.map (some b)] 83)) fun e w' => ∃ (v : Value) (ss : List (List UInt8)), e = .returned v ∧ ss.Perm (strKeys D0) ∧
      w'.ownsRow (w.alloc (.cells #[.map (some b)] 83)).heap.size 9 1 v ss.length ((ss.mergeSort (fun x y => decide (x ≤ y))).map encStr) ∧ (v = .slice none 0 0 ↔ ss = []) ∧ Below (w.alloc (.cells #[.map (some b)] 83)).heap.size (w.alloc (.cells #[.map (some b)] 83)) w' := by
  have hbl := hown.lt
  have hseq : SeqGives Fence.wide 2 Tryz.prog 111 #[.pointer (some ⟨w.heap.size, 0, none⟩)] encStr (fun ss => ss.Perm (strKeys D0)) (Maps.size D0) (w.alloc (.cells #[.map (some b)] 83)) :=
    AnyZ.keys_gives (ρ := Tryz.keys77_ren) { Tryz.keys77 with } Fence.wide _ trivial rfl (by omega) w.heap.size b nn D0 _ (by simp) (by simp) (by
      obtain ⟨es, clock, hb, Ft, hs, hD⟩ := hown
      exact ⟨es, clock, (Below.heap_alloc _ _ b hbl).trans hb, Ft, hs, hD⟩)
  exact AnyZ.sorted_in Tryz.sorted76 Fence.wide 5 trivial trivial trivial trivial rfl (by omega) (sorts58 _) (enters_of Tryz.func110 (by kernel_rfl) rfl) 111 #[.pointer (some ⟨w.heap.size, 0, none⟩)] trivial (enters_of Tryz.func111 (by kernel_rfl) rfl) _ _ hmax hbytes _ hseq

theorem sort_names {f : Ent Fi} (h : Rising f) {ss : List Nm} (hp : ss.Perm (names f)) : ss.mergeSort (fun x y => decide (x ≤ y)) = names f := by
  have tr : ∀ a b c : Nm, leB a b = true → leB b c = true → leB a c = true := fun a b c h1 h2 => by simp only [leB, decide_eq_true_eq] at *; exact List.le_trans h1 h2
  have to : ∀ a b : Nm, (leB a b || leB b a) = true := fun a b => by simp only [leB, Bool.or_eq_true, decide_eq_true_eq]; exact List.le_total a b
  refine List.Perm.eq_of_pairwise (le := fun a b => leB a b = true) (fun a b _ _ h1 h2 => ?_) (List.pairwise_mergeSort tr to ss) ?_ ((List.mergeSort_perm ss leB).trans hp)
  · simp only [leB, decide_eq_true_eq] at h1 h2
    exact List.le_antisymm h1 h2
  · refine (rising_names.1 h).imp fun {a b} hab => ?_
    simp only [leB, decide_eq_true_eq]
    exact List.le_of_lt hab
section
variable {S : Nat → Prop} {w : World} {a m : Nat} {d : Dk} {ρ : Nm → Nat} {δ : Nm → Value} {s : Nm} {x : Fi}
set_option maxHeartbeats 1000000 in
theorem list_any (h : DAt S w a d m ρ δ) : Calls Tryz.prog 37 #[ptr a] w fun e w' => ∃ v, e = .returned v ∧ w'.ownsRow w.heap.size 9 1 v d.f.length ((names d.f).map nmv) ∧ Below w.heap.size w w' := by
  have c0 := h.c0
  have hmap := h.map
  have hfew := h.ok.few
  have hmax : Maps.size (dmap (refs d.f ρ)) ≤ maxLen := by rw [size_dmap, length_refs]; unfold maxLen; omega
  have hbytes : Maps.size (dmap (refs d.f ρ)) * 16 ≤ 140737488355328 := by rw [size_dmap, length_refs]; omega
  have hkeys : ∀ ss : List Nm, ss.Perm (strKeys (dmap (refs d.f ρ))) → ss.mergeSort (fun x y => decide (x ≤ y)) = names d.f ∧ ss.length = d.f.length := fun ss hp => by
    rw [keys_dmap, names_refs] at hp
    exact ⟨sort_names h.ok.rising hp, by rw [hp.length_eq, length_names]⟩
  have HM := Lib.hid hmap
  have HX := Lib.hid hmax
  have HY := Lib.hid hbytes
  have HK := Lib.hid hkeys
  clear h hmap hmax hbytes hkeys hfew
  refine (callsIn_wide (n := 6)).1 ?_
  have hfK : Fence.wide.fn 77 := trivial
  have hfS : Fence.wide.fn 76 := trivial
  refine callsIn_of_wp Tryz.func37 rfl trivial ?_ rfl
  simp only [Tryz.ntmps37, List.size_toArray, List.length_cons, List.length_nil, Nat.reduceAdd, Nat.reduceSub, Array.replicate_succ, Array.replicate_zero, List.push_toArray, List.append_toArray, List.nil_append, List.cons_append]
  gi_wp2_with (first
    | (gi_at_call 77; refine (maps_Keys_59 _ _).mono ?_; rintro e w' ⟨rfl, rfl⟩)
    | (gi_at_call 76; refine (sorted_keys_58_59 m _ _ refE w HM.out HX.out HY.out).mono ?_; rintro e w' ⟨v, ss, rfl, hS, hrow, hnil, hb⟩; have HS := Lib.hid hS; have HR := Lib.hid hrow; have HB := Lib.hid hb; clear hS hrow hnil hb))
  go_ret
  obtain ⟨h1, h2⟩ := HK.out ss HS.out
  have hrow := HR.out
  rw [h1, h2] at hrow
  exact ⟨v, rfl, ownsRow_base_a hrow (by simp), ((Below.refl _ w).alloc (Nat.le_refl _) _).trans (HB.out.mono (by simp))⟩
end
/-- A slice of ints, as it reads; what is read lies in blocks of C. -/
structure SI (C : Nat → Prop) (w : World) (ao : Option Addr) (n cap : Nat) (l : List Int) : Prop where
  len : n = l.length
  le : n ≤ cap
  max : cap ≤ maxLen
  wf : ∀ p ∈ l, -9223372036854775808 ≤ p ∧ p ≤ 9223372036854775807
  cells : n = 0 ∨ ∃ b off, ao = some ⟨b, off, none⟩ ∧ C b ∧ ∀ i, i < n → w.cell? ⟨b, off + i, none⟩ = some (.int .i64 (l.getD i 0))
theorem SI.tn {C S : Nat → Prop} {w w' : World} {ao : Option Addr} {n cap : Nat} {l : List Int} (h : SI C w ao n cap l) (ht : Tn S w w') (hd : ∀ k, C k → ¬ S k) : SI C w' ao n cap l := by
  refine ⟨h.len, h.le, h.max, h.wf, ?_⟩
  rcases h.cells with h0 | ⟨b, off, rfl, hB, hc⟩
  · exact .inl h0
  · exact .inr ⟨b, off, rfl, hB, fun i hi => ht.cell (hc i hi) (hd b hB)⟩
theorem SI.below {C : Nat → Prop} {w w' : World} {ao : Option Addr} {n cap : Nat} {l : List Int} (h : SI C w ao n cap l) (hb : Below w.heap.size w w') : SI C w' ao n cap l := h.tn (Tn.of_below (S := fun _ => False) hb) (fun _ _ e => e)
theorem SI.lt {C : Nat → Prop} {w : World} {ao : Option Addr} {n cap : Nat} {l : List Int} (h : SI C w ao n cap l) : n ≤ 9223372036854775807 := by have := h.le; have := h.max; unfold maxLen at this; omega
theorem kept_any {C : Nat → Prop} {w : World} {ao : Option Addr} {n cap : Nat} {l : List Int} (h : SI C w ao n cap l) (i loose : Nat) (hi : i ≤ 4194304) (hl : loose ≤ 4194304) :
    Calls Tryz.prog 84 #[.slice ao n cap, .int .i64 (i : Int), .int .i64 (loose : Int)] w fun e w' => e = .returned (.int .i64 (kept l i loose : Nat)) ∧ w = w' := by
  have hlt := h.lt
  have hn := h.len
  by_cases h1 : l.length ≤ i
  · have e : kept l i loose = 0 := if_pos (.inl h1)
    rw [e]
    have h2 : n ≤ i := by omega
    clear h e h1 hn
    go_enter Tryz.func84, Tryz.ntmps84
    go_wp2
    go_ret
    exact ⟨rfl, rfl⟩
  · rcases h.cells with h0 | ⟨b, off, rfl, _, hc⟩
    · omega
    have hci := hc i (by omega)
    have hw := h.wf (l.getD i 0) (by rw [List.getD_eq_getElem?_getD, List.getElem?_eq_getElem (by omega)]; exact List.getElem_mem _)
    generalize hp : l.getD i 0 = p at *
    have h2 : i < n := by omega
    by_cases hp0 : p < 0
    · have e : kept l i loose = 0 := if_pos (.inr (by rw [hp]; exact hp0))
      rw [e]
      clear h e h1 hn hp hc
      go_enter Tryz.func84, Tryz.ntmps84
      go_wp2
      go_ret
      exact ⟨rfl, rfl⟩
    · have hp1 : 0 ≤ p := by omega
      have e : kept l i loose = p.toNat % (loose + 1) := by unfold kept; rw [if_neg (by rw [hp]; omega), hp]
      have HE := Lib.hid e
      clear h e h1 hn hp hc
      go_enter Tryz.func84, Tryz.ntmps84
      go_wp2
      go_ret
      refine ⟨?_, rfl⟩
      have hm : p % ((loose : Int) + 1) = ((p.toNat % (loose + 1) : Nat) : Int) := by rw [Int.natCast_emod, Int.toNat_of_nonneg hp1]; rfl
      rw [HE.out, ← hm]
      rfl
end Go.Proofs.YtkilkhnoldfhcaaGreatDoor
