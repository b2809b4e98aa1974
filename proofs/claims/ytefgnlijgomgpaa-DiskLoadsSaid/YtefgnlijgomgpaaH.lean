/- bytes.Clone; disk: Read, Size, Append. Conditions: no more bytes than a disk has room for, and 2^47 at the append. -/
import Derived.Test.YtefgnlijgomgpaaG
namespace Go.Proofs.Ytefgnlijgomgpaa
open Go.RowKit
theorem own_nil (w : World) : (w.alloc (.cells #[] 5)).ownsRow w.heap.size 5 1 (.slice (some ⟨w.heap.size, 0, none⟩) 0 0) ([] : List UInt8).length (bys []) := World.ownsRow_lit w #[] 0 (Nat.le_refl _) (by decide) rfl
theorem own_below_grown {B : Nat} {w w' : World} {e k : Nat} {v : Value} {n : Nat} {xs : List Value} (h : w.ownsRow B e k v n xs) (hB : B ≤ w.heap.size) (hg : w.grownBy w' v.ownBlock) : Below B w w' :=
  (Below.refl B w).grown hg hB (fun k hk => (h.lt k hk).1)
set_option maxRecDepth 100000 in
theorem clone_any {C : Nat → Prop} {w : World} {ao : Option Addr} {n cap : Nat} {l : List UInt8} (h : SB C w ao n cap l) (hroom : n ≤ 140737488355328) : Calls Try.prog 48 #[.slice ao n cap] w fun e w' => ∃ v', e = .returned v' ∧ w'.ownsRow w.heap.size 5 1 v' l.length (bys l) ∧ Below w.heap.size w w' := by
  have H := Lib.hid h
  cases ao with
  | none =>
    have h0 := h.nil rfl
    have h1 := h.le
    have h2 := h.len
    obtain rfl : cap = 0 := h0
    obtain rfl : n = 0 := by omega
    obtain rfl : l = [] := List.eq_nil_of_length_eq_zero h2.symm
    clear H h1 h2 h
    have hq := fun w => Lib.run_eql_slice_nil (P := Try.prog) w 33 5 none 0 0 0 0 under33
    go_enter Try.func48, Try.ntmps48
    go_wp2
    go_ret
    exact ⟨_, rfl, World.ownsRow_nil _ _ _ _, Below.refl _ _⟩
  | some ad =>
    clear h
    have hq := fun w => Lib.run_eql_slice_nil (P := Try.prog) w 33 5 (some ad) n cap 0 0 under33
    go_enter Try.func48, Try.ntmps48
    go_wp2_with (first
      | (at_builtin; refine wpList_append_sb (wanted_none rfl _) (.tmp 5) (.tmp 6) rfl rfl (own_nil w) (by simp) rfl ((H.out.below (below1 w _))) (by simpa using hroom) ?_; intro v1 w1 ho1 hg1 _; have hb := (below1 w (.cells #[] 5)).trans (own_below_grown (own_nil w) (by simp) hg1); have HB := Lib.hid hb; rw [List.nil_append] at ho1; have HO := Lib.hid ho1; clear ho1 hg1 hb))
    go_ret
    exact ⟨_, rfl, HO.out, HB.out⟩
theorem clone_own {w : World} {v : Value} {l : List UInt8} (h : w.ownsRow 0 5 1 v l.length (bys l)) (hl : l.length ≤ 4194304) : Calls Try.prog 48 #[v] w fun e w' => ∃ v', e = .returned v' ∧ w'.ownsRow w.heap.size 5 1 v' l.length (bys l) ∧ Below w.heap.size w w' := by
  obtain ⟨ao, cap, rfl⟩ := own_slice h
  exact clone_any (own_sb h) (by omega)
/-- How many bytes have come. -/
def come (left : Lit → Bool) (f : Ent Fi) : Nat := ((f.filter fun p => !left (.string p.1)).map fun p => p.2.data.length).sum
theorem come_nil (left : Lit → Bool) : come left [] = 0 := rfl
theorem come_cons (left : Lit → Bool) (p : Nm × Fi) (f : Ent Fi) : come left (p :: f) = (if left (.string p.1) then 0 else p.2.data.length) + come left f := by
  unfold come
  rw [List.filter_cons]
  cases left (.string p.1) <;> simp
theorem come_le (left : Lit → Bool) : ∀ f : Ent Fi, come left f ≤ tot f
  | [] => Nat.le_refl _
  | p :: f => by
    rw [come_cons, tot_cons]
    have := come_le left f
    split <;> omega
theorem come_end {left : Lit → Bool} (h : ∀ k, left k = false) : ∀ f : Ent Fi, come left f = tot f
  | [] => rfl
  | p :: f => by rw [come_cons, tot_cons, h, come_end h f]; simp
theorem come_none {left : Lit → Bool} : ∀ {f : Ent Fi}, (∀ p ∈ f, left (.string p.1) = true) → come left f = 0
  | [], _ => rfl
  | p :: f, h => by rw [come_cons, h p (by simp), come_none (fun q hq => h q (by simp [hq]))]; simp
theorem come_step {left : Lit → Bool} {s : Nm} {x : Fi} (hl : left (.string s) = true) : ∀ {f : Ent Fi}, Rising f → get f s = some x → come (fun z => left z && !z.sameKey (.string s)) f = come left f + x.data.length
  | [], _, h => by cases h
  | p :: f, hr, h => by
    rw [come_cons, come_cons]
    rw [get_cons] at h
    by_cases e : p.1 = s
    · rw [if_pos (by simpa using e)] at h
      cases h
      have hn : ∀ q ∈ f, q.1 ≠ s := fun q hq k => by have := hr.head q hq; rw [e, k] at this; exact nm_irrefl _ this
      have hc : ∀ g : Ent Fi, (∀ q ∈ g, q.1 ≠ s) → come (fun z => left z && !z.sameKey (.string s)) g = come left g := by
        intro g hg
        induction g with
        | nil => rfl
        | cons q g ih =>
          rw [come_cons, come_cons, ih (fun q hq => hg q (by simp [hq]))]
          have : (Lit.string q.1).sameKey (.string s) = false := by
            show (q.1 == s) = false
            simpa using hg q (by simp)
          simp [this]
      rw [hc f hn]
      have : (Lit.string p.1).sameKey (.string s) = true := by
        show (p.1 == s) = true
        simpa using e
      rw [e] at this ⊢
      simp [hl, this]
      omega
    · rw [if_neg (by simpa using e)] at h
      rw [come_step hl hr.tail h]
      have : (Lit.string p.1).sameKey (.string s) = false := by
        show (p.1 == s) = false
        simpa using e
      simp [this]
      omega
theorem refE_ptrs {v : Value} {y : DataW Unit × List MemPlace} (h : refE v = some y) : ∃ c, v = .pointer c := by
  unfold refE at h
  split at h
  · exact ⟨_, rfl⟩
  · exact ⟨_, rfl⟩
  · cases h
theorem keyOf9 {key : Value} {kl : Lit} (h : keyOf Try.prog 9 key = some kl) : ∃ s : Nm, key = nmv s ∧ kl = .string s ∧ s.length ≤ maxLen := Maps.keyOf_str Try.underlying9 h
section
variable {S : Nat → Prop} {w : World} {a m : Nat} {d : Dk} {ρ : Nm → Nat} {δ : Nm → Value} {s : Nm} {x : Fi}
/-- An entry of the map, as a step of a loop over it hands it out. -/
theorem entry_of {f : Ent Fi} {kl : Lit} {b : Option Addr} {y : DataW Unit × List MemPlace} {s : Nm} (hk : kl = .string s) (hat : ∀ zd, (dmap (refs f ρ)).atKey kl zd = y.1) (hv : refE (.pointer b) = some y) : ∃ x, get f s = some x ∧ b = some ⟨ρ s, 0, none⟩ := by
  subst hk
  have h1 := hat .nil
  have h2 := hat (.lit (.int .i64 (-1)))
  rw [atKey_dmap, get_refs] at h1 h2
  cases hg : get f s with
  | none =>
    rw [hg] at h1 h2
    simp only [Option.map_none] at h1 h2
    rw [← h1] at h2
    cases h2
  | some x =>
    rw [hg] at h1
    simp only [Option.map_some] at h1
    have : refE (.pointer b) = some (.lit (.int .i64 (ρ s : Int)), y.2) := by rw [hv, h1]
    have := refE_inv this
    exact ⟨x, rfl, by injection this⟩
set_option maxRecDepth 100000 in
theorem read_any (h : DAt S w a d m ρ δ) (hs : s.length ≤ maxLen) : Calls Try.prog 16 #[ptr a, nmv s] w fun e w' => ∃ v, e = .returned (.tuple #[v, .int .i64 ((d.read s).2 : Nat)]) ∧ w'.ownsRow w.heap.size 5 1 v (d.read s).1.length (bys (d.read s).1) ∧ Below w.heap.size w w' := by
  have H := Lib.hid h
  have c0 := h.c0
  cases hx : get d.f s with
  | none =>
    have e : d.read s = ([], 8) := by unfold Dk.read; rw [hx]
    rw [e]
    have l0 := h.look0 hs hx
    clear h hx e hs
    go_enter Try.func16, Try.ntmps16
    go_wp2
    go_ret2
    exact ⟨_, rfl, World.ownsRow_nil _ _ _ _, Below.refl _ _⟩
  | some x =>
    have e : d.read s = (x.data, 0) := by unfold Dk.read; rw [hx]
    rw [e]
    have l0 := h.look hs hx
    have f0 := h.f0 hx
    have hr := h.own hx
    have hl := get_tot h.ok.rising hx
    have hroom := h.ok.room
    have HR := Lib.hid hr
    have hl2 : x.data.length ≤ 4194304 := by omega
    have HL := Lib.hid hl2
    clear h hx e hs hr hl hroom hl2
    go_enter Try.func16, Try.ntmps16
    go_wp2_with (go_at_call 48; (refine (clone_own HR.out HL.out).mono ?_); rintro e w1 ⟨v, rfl, ho, hb⟩; have HO := Lib.hid ho; have HB := Lib.hid hb; clear ho hb)
    go_ret2
    exact ⟨_, rfl, HO.out, HB.out⟩
set_option maxRecDepth 100000 in
theorem size_any (h : DAt S w a d m ρ δ) : Calls Try.prog 30 #[ptr a] w fun e w' => e = .returned (.int .i64 (tot d.f : Nat)) ∧ Below w.heap.size w w' := by
  have hroom := h.ok.room
  have hown := h.map
  have H := Lib.hid h
  have c0 := h.c0
  clear h
  go_enter Try.func30, Try.ntmps30
  go_wp2_with (first
    | (at_range; refine wpList_range_own _ rfl _ 62 rfl 9 68 law9 under62 refE m _ _ rfl hown ?_; intro w0 hrg0 hg0 hs0)
    | go_in)
  go_frame
  have HG := Lib.hid hrg0
  have HB0 : Hid (Below w.heap.size w w0) := (Below.refl _ _).grown hg0 (Nat.le_refl _) (fun k hk => by cases hk)
  clear hrg0 hg0 hs0
  go_loopw [3, 5] (fun n _ wr => ∃ (left : Lit → Bool) (cnt : Nat), n = .int .i64 (come left d.f : Nat) ∧ Hid (wr.ranges Try.prog 9 refE m w.heap.size (refs d.f ρ).length (dmap (refs d.f ρ)) left cnt) ∧ Hid (Below w.heap.size w wr)) (fun _ _ wr => wr.rangeLeft m w.heap.size)
  case atStart =>
    refine ⟨_, _, ?_, HG, HB0⟩
    rw [come_none (fun p hp => ?_)]
    · rfl
    · rw [has_dmap, has_refs, has_get, mem_get H.out.ok.rising hp]; rfl
  case round =>
    obtain ⟨left, cnt, rfl, hrg, hb⟩ := hrel
    have hcl := come_le left d.f
    go_wp2_with (first
      | (at_next; refine wpList_next_ranges _ rfl _ rfl 9 law9 refE nmv Value.pointer (fun key kl hk => by obtain ⟨s, hs, _⟩ := keyOf9 hk; exact ⟨s, hs⟩) (fun v y hv => refE_ptrs hv) m w.heap.size _ _ _ _ rfl hrg.out ?_ ?_)
      | go_in)
    · intro _ hl0
      have HC := Lib.hid (come_end hl0 d.f)
      clear hl0
      go_wp2
      go_ret
      exact ⟨by rw [← HC.out]; rfl, hb.out⟩
    · intro s b kl yd yp w1 cnt1 hkey hlk hv hat hrg1 hlt hg1 hs1 hen
      obtain ⟨s', es, rfl, _⟩ := keyOf9 hkey
      obtain rfl : s = s' := encStr_inj es
      obtain ⟨x, hx, rfl⟩ := entry_of (f := d.f) (y := (yd, yp)) rfl hat hv
      have HS := Lib.hid (come_step hlk H.out.ok.rising hx)
      have hb1 : Below w.heap.size w w1 := hb.out.grown hg1 hb.out.size (fun k hk => by cases hk; exact Nat.le_refl _)
      have hcl1 := come_le (fun z => left z && !z.sameKey (.string s)) d.f
      rw [HS.out] at hcl1
      have h1 := H.out.below hb1
      have f0 := h1.f0 hx
      obtain ⟨ao, cap, hdv⟩ := own_slice (h1.own hx)
      rw [hdv] at f0
      have HB1 := Lib.hid hb1
      have HRG := Lib.hid hrg1
      have HLT := Lib.hid hlt
      clear hkey hlk hv hat hrg1 hlt hg1 hs1 es h1 hdv hb1 hx
      go_wp2
      go_roundw
      case rel => exact ⟨_, cnt1, by rw [HS.out]; go_num, HRG, HB1⟩
      case measure => rw [HRG.out.left_eq, hrg.out.left_eq]; exact HLT.out
theorem spend_with (g : Ent Fi) : ({ d with f := g } : Dk).spend = ({ d.spend.1 with f := g }, d.spend.2) := by
  unfold Dk.spend
  simp only
  split <;> rfl
theorem DAt.app {w1 w2 : World} {v2 : Value} {y : List UInt8} (h : DAt S w1 a d m ρ δ) (hx : get d.f s = some x) (hg : w1.grownBy w2 (δ s).ownBlock) (ho : w2.ownsRow 0 5 1 v2 y.length (bys y)) (hl : v2.ownBlock = (δ s).ownBlock ∨ v2.ownBlock = some w1.heap.size)
    (hok : Ok { d with f := upd d.f s fun _ => ⟨y, x.safe⟩ }) : DAt (Gw S w1 (w2.setCell ⟨ρ s, 0, none⟩ v2)) (w2.setCell ⟨ρ s, 0, none⟩ v2) a { d with f := upd d.f s fun _ => ⟨y, x.safe⟩ } m ρ (at_ δ s v2) := by
  have hm := get_mem hx
  have hlt : ρ s < w1.heap.size := h.lt _ (h.sf _ hm)
  have hne : some (ρ s) ≠ (δ s).ownBlock := fun e => h.fr hm hm e.symm
  have hz : w1.heap.size ≤ (w2.setCell ⟨ρ s, 0, none⟩ v2).heap.size := by have := hg.size; simp [World.setCell]; exact this
  have hv2 : ∀ k, v2.ownBlock = some k → ¬ (k = ρ s) := fun k hk e => by
    rcases hl with e2 | e2
    · exact hne (by rw [← e, ← hk, e2])
    · rw [e2] at hk; cases hk; omega
  refine h.turn (y := ⟨y, x.safe⟩) hx ?_ (heap_set ((hg.block _ hlt hne).trans (h.file _ hm)) _ rfl) (own_minus ho (tn_set (Tn.refl _ _) _) (fun e => hv2 _ e rfl)) (fun k hk => ?_) hok rfl rfl rfl rfl (gw_self _ _ _) (fun k hk => ?_) (fun k hk => Gw.size hz h.lt hk)
  · exact tn_file ((Tn.refl _ _).grown hg (fun k hk _ => .inr hk)) _
  · rcases hl with e | e
    · exact .inl (e ▸ hk)
    · rw [e] at hk; cases hk; exact .inr (Nat.le_refl _)
  · rcases hl with e | e
    · exact .inl (h.sr _ hm k (e ▸ hk))
    · have := (ho.lt k hk).2
      rw [e] at hk; cases hk; exact .inr ⟨Nat.le_refl _, by simp [World.setCell]; exact this⟩
theorem tn_app {w1 w2 : World} {v2 : Value} (h : DAt S w1 a d m ρ δ) (hx : get d.f s = some x) (hg : w1.grownBy w2 (δ s).ownBlock) : Tn S w1 (w2.setCell ⟨ρ s, 0, none⟩ v2) :=
  (((Tn.refl S w1).grown hg (fun k hk _ => h.sr _ (get_mem hx) k hk))).setCell (fun _ => h.sf _ (get_mem hx)) _
theorem append_end {w1 w3 w4 : World} {b : List UInt8} {δ' : Nm → Value} {e : Ending} (h : DAt S w a d m ρ δ) (hx : get d.f s = some x) (hb : Below w.heap.size w w1) (ht : Tn S w1 w3)
    (h4 : DAt (Gw S w1 w3) w4 a ({ d with f := upd d.f s fun _ => ⟨x.data ++ b, x.safe⟩ } : Dk).spend.1 m ρ δ') (ht4 : Tn (· = a) w3 w4) (r : Dk × Nat) (hr : r.1 = { d.spend.1 with f := upd d.f s fun x => ⟨x.data ++ b, x.safe⟩ }) (he : e = .returned (.int .i64 (r.2 : Int))) : Wrote S w a r e w4 := by
  have hT : Tn S w w4 := ((Tn.of_below hb).trans ht (fun _ _ e => e)).trans ht4 (fun k _ e => e ▸ h.sa)
  refine ⟨he, ⟨m, ρ, δ', ?_⟩, hT⟩
  rw [hr, upd_const h.ok.rising (fun x => ⟨x.data ++ b, x.safe⟩) hx]
  rw [spend_with] at h4
  exact h4.grow (fun k hk => by
    rcases hk with hk | hk
    · exact .inl hk
    · have := hb.size; have := ht4.size; exact .inr (by omega)) (fun k hk => Gw.size hT.size h.lt hk)
set_option maxRecDepth 100000 in
theorem append_any {C : Nat → Prop} {ao : Option Addr} {n cap : Nat} {b : List UInt8} (h : DAt S w a d m ρ δ) (hs : s.length ≤ maxLen) (hd : d.done < 9223372036854775807) (hb : SB C w ao n cap b) (hroom : n ≤ 70000000000000) :
    Calls Try.prog 33 #[ptr a, nmv s, .slice ao n cap] w (Wrote S w a (d.append s b)) := by
  have H := Lib.hid h
  have HS := Lib.hid hs
  have HD := Lib.hid hd
  have HB := Lib.hid hb
  have hn := hb.len
  have HN := Lib.hid hn
  have HR := Lib.hid hroom
  have htot := h.ok.room
  clear h hs hd hb hn
  cases ho : d.off with
  | true =>
    have e : d.append s b = (d, 12) := by unfold Dk.append; rw [if_pos ho]
    rw [e]
    have HO := Lib.hid ho
    clear ho e
    go_enter Try.func33, Try.ntmps33
    go_wp2_with (go_at_call 55; (with_reducible refine (find_off H.out HO.out).mono ?_); rintro e w' ⟨rfl, rfl⟩)
    go_ret
    exact wrote_same (r := (d, 12)) H.out (Tn.refl _ _) H.out.lt
  | false =>
    cases hx : get d.f s with
    | none =>
      have e : d.append s b = (d, 8) := by unfold Dk.append; rw [ho, has_get, hx]; rfl
      rw [e]
      have HO := Lib.hid ho
      have HX := Lib.hid hx
      clear ho e hx
      go_enter Try.func33, Try.ntmps33
      go_wp2_with (go_at_call 55; (with_reducible refine (find_none H.out HS.out HO.out HX.out).mono ?_); rintro e w' ⟨rfl, rfl⟩)
      go_ret
      exact wrote_same (r := (d, 8)) H.out (Tn.refl _ _) H.out.lt
    | some x =>
      have HO := Lib.hid ho
      have HX := Lib.hid hx
      by_cases hf : 4194304 - tot d.f < b.length
      · have e : d.append s b = (d, 11) := by unfold Dk.append; rw [ho, has_get, hx]; simp [hf]
        rw [e]
        have hf2 : (4194304 : Int) - (tot d.f : Nat) < (n : Int) := by have := HN.out; omega
        clear ho e hx hf
        go_enter Try.func33, Try.ntmps33
        go_wp2_with (first
          | (go_at_call 55; (with_reducible refine (find_some H.out HS.out HO.out HX.out).mono ?_); rintro e w' ⟨rfl, rfl⟩)
          | (go_at_call 30; (with_reducible refine (size_any H.out).mono ?_); rintro e w1 ⟨rfl, hb1⟩; have HB1 := Lib.hid hb1; clear hb1))
        go_ret
        exact wrote_same (r := (d, 11)) (H.out.below HB1.out) (Tn.of_below HB1.out) H.out.lt
      · have hf2 : (n : Int) ≤ (4194304 : Int) - (tot d.f : Nat) := by have := HN.out; omega
        have e : d.append s b = ({ d.spend.1 with f := upd d.f s fun x => ⟨x.data ++ b, x.safe⟩ }, if d.spend.2 then 0 else 12) := by unfold Dk.append; rw [ho, has_get, hx]; simp [hf]
        have HE := Lib.hid e
        have hlx := get_tot H.out.ok.rising hx
        have hal : x.data.length + n ≤ 140737488355328 := by have := HN.out; omega
        have HAL := Lib.hid hal
        have hok : Ok { d with f := upd d.f s fun _ => ⟨x.data ++ b, x.safe⟩ } := by
          have := H.out.ok.append (s := s) (b := b)
          rw [e] at this
          exact this.of_f (by rw [upd_const H.out.ok.rising (fun x => ⟨x.data ++ b, x.safe⟩) hx])
        obtain ⟨y, hy⟩ : ∃ y, x.data ++ b = y := ⟨_, rfl⟩
        have HY := Lib.hid hy
        rw [hy] at hok
        clear hy
        have HOK := Lib.hid hok
        have f0 := H.out.f0 hx
        have HF0 := Lib.hid f0
        clear ho e hx hf hlx hal hok f0
        cases hq : d.spend.2 with
        | false =>
          have HQ := Lib.hid hq
          clear hq
          go_enter Try.func33, Try.ntmps33
          go_wp2_with (first
            | (go_at_call 55; (with_reducible refine (find_some H.out HS.out HO.out HX.out).mono ?_); rintro e w' ⟨rfl, rfl⟩)
            | (go_at_call 30; (with_reducible refine (size_any H.out).mono ?_); rintro e w1 ⟨rfl, hb1⟩; have H1 := Lib.hid (H.out.below hb1); have HB1 := Lib.hid hb1; have f0 := H1.out.f0 HX.out; clear hb1)
            | (at_builtin; refine wpList_append_sb (wanted_none rfl _) (.tmp 28) (.tmp 29) rfl rfl (H1.out.own HX.out) (Nat.zero_le _) rfl (HB.out.below HB1.out) HAL.out ?_; intro v2 w2 ho2 hg2 hl2; rw [HY.out] at ho2; obtain ⟨ao2, cap2, rfl⟩ := own_slice ho2; have HG2 := Lib.hid hg2; have HO2 := Lib.hid ho2; have HL2 := Lib.hid hl2; have g0 := hg2.cell f0 (fun e => H1.out.fr (get_mem HX.out) (get_mem HX.out) e.symm); have g1 := (World.frozen?_of_block (a := ⟨ρ s, 0, none⟩) (hg2.block (ρ s) (H1.out.lt _ (H1.out.sf _ (get_mem HX.out))) (fun e => H1.out.fr (get_mem HX.out) (get_mem HX.out) e.symm))).trans (H1.out.ff HX.out 0); clear ho2 hg2 hl2)
            | (go_at_call 56; (refine (spend_any (H1.out.app HX.out HG2.out HO2.out HL2.out HOK.out) HD.out).mono ?_); rw [spend_with, HQ.out]; rintro e w4 ⟨rfl, h4, ht4⟩; have H4 := Lib.hid h4; have HT4 := Lib.hid ht4; clear h4 ht4))
          go_ret
          exact append_end H.out HX.out HB1.out (tn_app H1.out HX.out HG2.out) (by rw [spend_with, HY.out]; exact H4.out) HT4.out _ (by rw [HE.out]) (by rw [HE.out, HQ.out]; rfl)
        | true =>
          have HQ := Lib.hid hq
          clear hq
          go_enter Try.func33, Try.ntmps33
          go_wp2_with (first
            | (go_at_call 55; (with_reducible refine (find_some H.out HS.out HO.out HX.out).mono ?_); rintro e w' ⟨rfl, rfl⟩)
            | (go_at_call 30; (with_reducible refine (size_any H.out).mono ?_); rintro e w1 ⟨rfl, hb1⟩; have H1 := Lib.hid (H.out.below hb1); have HB1 := Lib.hid hb1; have f0 := H1.out.f0 HX.out; clear hb1)
            | (at_builtin; refine wpList_append_sb (wanted_none rfl _) (.tmp 28) (.tmp 29) rfl rfl (H1.out.own HX.out) (Nat.zero_le _) rfl (HB.out.below HB1.out) HAL.out ?_; intro v2 w2 ho2 hg2 hl2; rw [HY.out] at ho2; obtain ⟨ao2, cap2, rfl⟩ := own_slice ho2; have HG2 := Lib.hid hg2; have HO2 := Lib.hid ho2; have HL2 := Lib.hid hl2; have g0 := hg2.cell f0 (fun e => H1.out.fr (get_mem HX.out) (get_mem HX.out) e.symm); have g1 := (World.frozen?_of_block (a := ⟨ρ s, 0, none⟩) (hg2.block (ρ s) (H1.out.lt _ (H1.out.sf _ (get_mem HX.out))) (fun e => H1.out.fr (get_mem HX.out) (get_mem HX.out) e.symm))).trans (H1.out.ff HX.out 0); clear ho2 hg2 hl2)
            | (go_at_call 56; (refine (spend_any (H1.out.app HX.out HG2.out HO2.out HL2.out HOK.out) HD.out).mono ?_); rw [spend_with, HQ.out]; rintro e w4 ⟨rfl, h4, ht4⟩; have H4 := Lib.hid h4; have HT4 := Lib.hid ht4; clear h4 ht4))
          go_ret
          exact append_end H.out HX.out HB1.out (tn_app H1.out HX.out HG2.out) (by rw [spend_with, HY.out]; exact H4.out) HT4.out _ (by rw [HE.out]) (by rw [HE.out, HQ.out]; rfl)
end
end Go.Proofs.Ytefgnlijgomgpaa
