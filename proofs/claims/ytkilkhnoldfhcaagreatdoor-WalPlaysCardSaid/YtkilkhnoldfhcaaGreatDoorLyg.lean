/- wal.Open; what Trim and Open make of a log whose disk bears just its segments. Conditions: a disk as it lies. Rows of bytes that came in; a log of a new disk of which nothing falls, step by step. Conditions: none of its own. -/
import Derived.Test.YtkilkhnoldfhcaaGreatDoorLyf
import Derived.Test.YtkilkhnoldfhcaaGreatDoorFrT
namespace Go.Proofs.YtkilkhnoldfhcaaGreatDoor
open Go.RowKit
section
variable {B : Nat} {w w' w1 : World} {a dp : Nat} {C S : Nat → Prop} {lg lg' : Lg} {d d' : Dk}
set_option maxRecDepth 100000 in
set_option maxHeartbeats 4000000 in
theorem open_over (h : DK S w dp d) (hS : ∀ k, S k → B ≤ k) (hB : B ≤ w.heap.size) (hT : Tabs w) (h6 : 6 ≤ B) (dir : Nm) (hdl : dir.length ≤ 1000) (full : Int) (hfew : (found dir (names d.f)).length ≤ 1000000) (hd : d.done < 9223372036854775807)
    (hld : 1 ≤ dir.length ∧ dir.length ≤ 11 → d.off = false → found dir (names d.f) ≠ [] → ∀ (w1 : World) (a : Nat) (C1 : Nat → Prop), WL B w1 a C1 ⟨dir, full.toNat, found dir (names d.f), 0⟩ dp S d → B ≤ w1.heap.size → Tabs w1 → Calls Tryz.prog 105 #[ptr a] w1 (Started C1 S B w1 a dp (Lg.load ⟨dir, full.toNat, found dir (names d.f), 0⟩ d))) :
    Calls Tryz.prog 23 #[ptr dp, nmv dir, .int .i64 full] w (Opened S B w dp (openL dir full d)) := by
  have HN := Lib.hid (name_any w hT dir (Nat.le_trans hdl (by decide)) 1 (by decide) (by decide))
  have HW := Lib.hid h
  have HT := Lib.hid hT
  have HBW := Lib.hid hB
  have HDN := Lib.hid hd
  have HLD := Lib.hid hld
  have HFW := Lib.hid hfew
  have HS := Lib.hid hS
  have HO : Hid (openL dir full d = if dir = [] ∨ 11 < dir.length then (none, d, 10) else if full < 64 ∨ 262144 < full then (none, d, 1) else if d.off then (none, d, 12) else Lg.start ⟨dir, full.toNat, [], 0⟩ d) := rfl
  have HV : Hid (nameV dir 1 = if dir = [] ∨ 11 < dir.length then ([], 10) else if (1 : Int) < 1 ∨ 99999999 < (1 : Int) then ([], 1) else (segN dir (1 : Int).toNat, 0)) := rfl
  clear h hS hB hT hfew hd hld
  by_cases h1 : dir = [] ∨ 11 < dir.length
  · rw [HV.out, if_pos h1] at HN
    have HO := Lib.hid (HO.out.trans (if_pos h1))
    clear HV h1
    go_enter Tryz.func23, Tryz.ntmps23
    go_wp2_with (go_at_call 21; (refine HN.out.mono ?_); rintro e w1 ⟨rfl, hb⟩; have HB := Lib.hid hb; clear hb)
    go_ret2
    rw [HO.out]
    exact opened_none (by decide) HW.out HS.out HB.out
  rw [HV.out, if_neg h1, if_neg (by decide)] at HN
  have HO := Lib.hid (HO.out.trans (if_neg h1))
  have h11 : 1 ≤ dir.length ∧ dir.length ≤ 11 := by
    cases dir with
    | nil => exact absurd (.inl rfl) h1
    | cons x r => exact ⟨by simp, by by_cases h : (x :: r).length ≤ 11; exact h; exact absurd (.inr (by omega)) h1⟩
  clear HV h1
  by_cases h2 : full < 64 ∨ 262144 < full
  · have HO := Lib.hid (HO.out.trans (if_pos h2))
    rcases (show full < 64 ∨ (¬ full < 64 ∧ 262144 < full) by omega) with h3 | ⟨h3, h4⟩
    · have d1 : decide (full < 64) = true := decide_eq_true h3
      clear h2 h3
      go_enter Tryz.func23, Tryz.ntmps23
      go_wp2_with (go_at_call 21; (refine HN.out.mono ?_); rintro e w1 ⟨rfl, hb⟩; have HB := Lib.hid hb; clear hb)
      go_ret2
      rw [HO.out]
      exact opened_none (by decide) HW.out HS.out HB.out
    · have d1 : decide (full < 64) = false := decide_eq_false h3
      have d2 : decide (262144 < full) = true := decide_eq_true h4
      clear h2 h3 h4
      go_enter Tryz.func23, Tryz.ntmps23
      go_wp2_with (go_at_call 21; (refine HN.out.mono ?_); rintro e w1 ⟨rfl, hb⟩; have HB := Lib.hid hb; clear hb)
      go_ret2
      rw [HO.out]
      exact opened_none (by decide) HW.out HS.out HB.out
  have HO := Lib.hid (HO.out.trans (if_neg h2))
  have d1 : decide (full < 64) = false := decide_eq_false (by omega)
  have d2 : decide (262144 < full) = false := decide_eq_false (by omega)
  have HF : Hid (((full.toNat : Nat) : Int) = full) := by show _ = _; omega
  have hde : d.done < 9223372036854775807 := HDN.out
  clear h2
  cases hoff : d.off with
  | true =>
    have HO := Lib.hid (HO.out.trans (if_pos hoff))
    have HDW := fun w h => Lib.hid (dk_down (S := S) (w := w) (a := dp) (d := d) h)
    rw [hoff] at HDW
    go_enter Tryz.func23, Tryz.ntmps23
    go_wp2_with (first
      | (go_at_call 21; (refine HN.out.mono ?_); rintro e w1 ⟨rfl, hb⟩; have HB := Lib.hid hb; clear hb)
      | (go_at_call 24; (refine (HDW _ (HW.out.below HB.out)).out.mono ?_); rintro e w2 ⟨rfl, rfl⟩))
    go_ret2
    rw [HO.out]
    exact opened_none (by decide) HW.out HS.out HB.out
  | false =>
    have HO := Lib.hid (HO.out.trans (if_neg (by rw [hoff]; decide)))
    have HDW := fun w h => Lib.hid (dk_down (S := S) (w := w) (a := dp) (d := d) h)
    rw [hoff] at HDW
    generalize hst : Lg.start ⟨dir, full.toNat, [], 0⟩ d = r at *
    go_enter Tryz.func23, Tryz.ntmps23
    go_upto_region 9 with (first
      | (go_at_call 21; (refine HN.out.mono ?_); rintro e w1 ⟨rfl, hb⟩; have HB := Lib.hid hb; clear hb)
      | (go_at_call 24; (refine (HDW _ (HW.out.below HB.out)).out.mono ?_); rintro e w2 ⟨rfl, rfl⟩)
      | (go_at_call 65; (refine (sclone_any dir _ (Nat.le_trans hdl (by decide))).mono ?_); rintro e w3 ⟨rfl, hb⟩; have HB := Lib.hid (HB.out.trans (hb.mono HB.out.size)); clear hb))
    have HSZ := Lib.hid HB.out.size
    have HWL := Lib.hid (new_log (HW.out.below HB.out) HS.out (Nat.le_trans HBW.out HB.out.size) dir full HF.out)
    have HWE : Hid (Went S w (w3.alloc (.cells #[ptr dp, nmv dir, .int .i64 full, .slice none 0 0, .int .i64 0] 104)) (fun k => k = w3.heap.size ∨ S k)) :=
      Lib.hid ⟨Tn.of_below (HB.out.trans ((below1 w3 _).mono HB.out.size)), fun k hk => hk.elim (fun e => .inr (e ▸ HSZ.out)) .inl⟩
    have HST := Lib.hid (start_any HWL.out (Nat.le_trans HBW.out (Nat.le_trans HSZ.out (below1 w3 _).size)) (HT.out.below (HB.out.trans ((below1 w3 _).mono HB.out.size))) h6 h11 HFW.out HDN.out (fun hne w1 C1 hw hb ht => HLD.out h11 hoff hne w1 _ C1 hw hb ht))
    rw [hst] at HST
    clear hst
    by_cases h0 : r.2.2 = 0
    · have hb0 : (((r.2.2 : Nat) : Int) != 0) = false := by rw [h0]; rfl
      have HR0 := Lib.hid h0
      clear h0
      go_wp2_with (go_at_call 66; (refine HST.out.mono ?_); rintro e w5 he; have HE := Lib.hid (opened_of he HWE.out); obtain ⟨rfl, _⟩ := he)
      go_ret2
      have h1 := HE.out
      rw [if_pos HR0.out] at h1
      rw [HO.out]
      exact h1
    · have hb0 : (((r.2.2 : Nat) : Int) != 0) = true := by simpa using h0
      have HR0 := Lib.hid h0
      clear h0
      go_wp2_with (go_at_call 66; (refine HST.out.mono ?_); rintro e w5 he; have HE := Lib.hid (opened_of he HWE.out); obtain ⟨rfl, _⟩ := he)
      go_ret2
      have h1 := HE.out
      rw [if_neg HR0.out] at h1
      rw [HO.out]
      exact h1

theorem found_mem {dir : Nm} {l : List Nm} {g : Sg} (h : g ∈ found dir l) : segN dir g.first ∈ l ∧ 1 ≤ g.first ∧ g.first ≤ 99999999 := by
  unfold found at h
  obtain ⟨nm, hn, e⟩ := List.mem_filterMap.1 h
  by_cases h0 : 0 < numR dir nm
  · rw [if_pos h0] at e
    obtain rfl := Option.some.inj e
    obtain ⟨h1, h2⟩ := numR_pos h0
    exact ⟨h1 ▸ hn, h0, h2⟩
  · rw [if_neg h0] at e
    cases e
theorem read_in {d : Dk} (hr : Rising d.f) {s : Nm} (hs : s ∈ names d.f) : (d.read s).2 = 0 ∧ (d.read s).1.length ≤ tot d.f := by
  obtain ⟨q, hq, rfl⟩ := List.mem_map.1 hs
  have h1 : get d.f q.1 = some q.2 := mem_get hr hq
  have h2 := get_tot hr h1
  unfold Dk.read
  simp only [h1]
  exact ⟨trivial, h2⟩
/-- wal.Open of a disk. -/
theorem lopen_any (h : DK S w dp d) (hS : ∀ k, S k → B ≤ k) (hB : B ≤ w.heap.size) (hT : Tabs w) (h6 : 6 ≤ B) (dir : Nm) (hdl : dir.length ≤ 1000) (full : Int) (hroom : tot d.f ≤ 1000000) (hd : d.done ≤ 1000000000) :
    Calls Tryz.prog 23 #[ptr dp, nmv dir, .int .i64 full] w (Opened S B w dp (openL dir full d)) := by
  have hfw : (found dir (names d.f)).length ≤ 1000000 := Nat.le_trans (found_length _ _) (by rw [length_names]; exact Nat.le_trans h.ok.few (by decide))
  have hri := h.ok.rising
  refine open_over h hS hB hT h6 dir hdl full hfw (Nat.lt_of_le_of_lt hd (by decide)) (fun h11 _ hne w1 a C1 hw hb ht => ?_)
  exact lload_any hw hb (List.length_pos_iff.2 hne) hfw h11 (fun g hg => (found_mem hg).2) (fun g hg => let h := read_in hri (found_mem hg).1; ⟨h.1, Nat.le_trans h.2 hroom⟩) hd
end
section
variable {lg : Lg} {lo full safe : Nat} {dir : Nm} {gs : List Sg} {s s2 : Sg} {r : List Sg} {all : List (List UInt8)} {d : Dk} {p : List UInt8} {below : Int}
/-- The disk has lost the first segment's file. -/
theorem Mir.remove (h : Mir ⟨dir, full, s :: gs, safe⟩ d) (hr : Rising d.f) : (d.remove (segN dir s.first)).2 = 0 ∧ Mir ⟨dir, full, gs, safe⟩ (d.remove (segN dir s.first)).1 ∧ Rising (d.remove (segN dir s.first)).1.f ∧ tot (d.remove (segN dir s.first)).1.f ≤ tot d.f := by
  have hh := h.has (g := s) List.mem_cons_self
  have hh : Go.Proofs.YtkilkhnoldfhcaaGreatDoor.has d.f (segN dir s.first) = true := hh
  have e : d.remove (segN dir s.first) = ({ d with f := del d.f (segN dir s.first), left := 0, done := d.done + 1 }, 0) := by
    unfold Dk.remove
    rw [if_neg (by rw [h.on]; decide), if_neg (by rw [hh]; decide), spend_calm h.left, if_pos rfl]
  rw [e]
  refine ⟨rfl, ⟨h.on, rfl, ?_⟩, hr.del _, ?_⟩
  · have hf := h.files
    show (del d.f (segN dir s.first)).map _ = _
    cases hd : d.f with
    | nil => rw [hd] at hf; cases hf
    | cons q r =>
      rw [hd] at hf hr
      rw [List.map_cons, List.map_cons] at hf
      injection hf with h1 h2
      injection h1 with h1 _
      have e1 : del (q :: r) (segN dir s.first) = r := by
        unfold del
        rw [List.filter_cons, if_neg (by simpa using h1)]
        rw [List.filter_eq_self]
        intro x hx
        have := hr.head x hx
        rw [h1] at this
        simpa using (nm_ne this).symm
      rw [e1]
      exact h2
  · have hg := hh
    rw [has_get] at hg
    obtain ⟨x, hx⟩ := Option.isSome_iff_exists.1 hg
    have := tot_del hr hx
    show tot (del d.f _) ≤ _
    omega
theorem Ch.tail (h : Ch ⟨dir, full, s :: s2 :: r, safe⟩ lo all) : s.first = lo ∧ s.recs.length ≤ all.length ∧ Ch ⟨dir, full, s2 :: r, safe⟩ (lo + s.recs.length) (all.drop s.recs.length) := by
  obtain ⟨g, r', h1, h2, h3, h4⟩ := h.cons
  injection h1 with h1 h5
  subst h1 h5
  have hl : s2.first = s.first + s.recs.length := h2.1
  have ha : all = s.recs ++ allR (s2 :: r) := by rw [← h3, allR_cons]
  have hsf := h.safe
  have hle : s.recs.length ≤ all.length := by rw [ha, List.length_append]; omega
  refine ⟨h4, hle, ⟨⟨by simp, ?_, h.ok.dir, fun g hg => h.ok.num g (List.mem_cons_of_mem _ hg), fun g hg => h.ok.room g (List.mem_cons_of_mem _ hg)⟩, ?_, ?_, ?_⟩⟩
  · have := h.ok.few
    simp at this ⊢
    omega
  · obtain ⟨init, g, e1, e2, e3⟩ := h.seg
    cases init with
    | nil => simp at e1
    | cons x i =>
      rw [List.cons_append] at e1
      injection e1 with e1 e4
      refine ⟨i, g, e4, ?_, ?_⟩
      · rw [← e4]; exact h2.2
      · rw [← e4, ha, List.drop_left]
  · show s2.first = _
    omega
  · rw [List.length_drop]
    show safe < _
    have : safe < lo + all.length := hsf
    omega
theorem Fu.tail (h : Fu ⟨dir, full, s :: s2 :: r, safe⟩) : Fu ⟨dir, full, s2 :: r, safe⟩ := ⟨fun g hg => h.tight g (List.mem_cons_of_mem _ hg), fun g hg => h.full g (List.mem_cons_of_mem _ hg), h.pos⟩
/-- What Trim leaves, while nothing falls. -/
structure Trimmed (lg : Lg) (lo : Nat) (all : List (List UInt8)) (d : Dk) (below : Int) (r : Lg × Dk × Nat) (lo' : Nat) : Prop where
  code : r.2.2 = 0
  ch : Ch r.1 lo' (all.drop (lo' - lo))
  fu : Fu r.1
  mir : Mir r.1 r.2.1
  rise : Rising r.2.1.f
  low : lo ≤ lo'
  hi : lo' - lo ≤ all.length
  why : lo' = lo ∨ (lo' : Int) ≤ below
  len : r.1.segs.length ≤ lg.segs.length
  done : r.2.1.done + r.1.segs.length ≤ d.done + lg.segs.length
  tot : tot r.2.1.f ≤ Go.Proofs.YtkilkhnoldfhcaaGreatDoor.tot d.f
  dir : r.1.dir = lg.dir
  full : r.1.full = lg.full
  safe : r.1.safe = lg.safe
theorem trim_mir : ∀ (gs : List Sg) (d : Dk) (lo : Nat) (all : List (List UInt8)), Ch ⟨dir, full, gs, safe⟩ lo all → Fu ⟨dir, full, gs, safe⟩ → Mir ⟨dir, full, gs, safe⟩ d → Rising d.f → ∃ lo', Trimmed ⟨dir, full, gs, safe⟩ lo all d below (Lg.trim ⟨dir, full, gs, safe⟩ d below) lo'
  | [], _, _, _, hc, _, _, _ => absurd hc.ok.ne (Nat.lt_irrefl 0)
  | [g], d, lo, all, hc, hf, hm, hr => ⟨lo, rfl, by rw [Nat.sub_self, List.drop_zero]; exact hc, hf, hm, hr, Nat.le_refl _, by omega, .inl rfl, Nat.le_refl _, Nat.le_refl _, Nat.le_refl _, rfl, rfl, rfl⟩
  | s :: s2 :: r, d, lo, all, hc, hf, hm, hr => by
    by_cases hle : (s.next : Int) ≤ below
    · obtain ⟨h0, h1, h2, h3⟩ := hm.remove hr
      obtain ⟨c0, c1, c2⟩ := hc.tail
      have hd := remove_done d (segN dir s.first)
      obtain ⟨lo', ht⟩ := trim_mir (s2 :: r) _ _ _ c2 hf.tail h1 h2
      have e : Lg.trim ⟨dir, full, s :: s2 :: r, safe⟩ d below = Lg.trim ⟨dir, full, s2 :: r, safe⟩ (d.remove (segN dir s.first)).1 below := by
        unfold Lg.trim
        rw [trim_go hle rfl h0]
      rw [e]
      have hhi := ht.hi
      have hlo := ht.low
      rw [List.length_drop] at hhi
      have hn : s.next = s.first + s.recs.length := rfl
      have hdn := ht.done
      have hln := ht.len
      refine ⟨lo', ht.code, ?_, ht.fu, ht.mir, ht.rise, by omega, by omega, ?_, ?_, ?_, Nat.le_trans ht.tot h3, ht.dir, ht.full, ht.safe⟩
      · have hch := ht.ch
        rw [List.drop_drop, show s.recs.length + (lo' - (lo + s.recs.length)) = lo' - lo by omega] at hch
        exact hch
      · rcases ht.why with h | h
        · exact .inr (by omega)
        · exact .inr h
      · simp at hln ⊢; omega
      · simp at hdn ⊢; omega
    · have e : Lg.trim ⟨dir, full, s :: s2 :: r, safe⟩ d below = (⟨dir, full, s :: s2 :: r, safe⟩, d, 0) := by
        unfold Lg.trim
        rw [trim_stay hle]
      rw [e]
      exact ⟨lo, rfl, by rw [Nat.sub_self, List.drop_zero]; exact hc, hf, hm, hr, Nat.le_refl _, by omega, .inl rfl, Nat.le_refl _, Nat.le_refl _, Nat.le_refl _, rfl, rfl, rfl⟩
theorem linked_get : ∀ {l : List Sg}, linked l → ∀ k (h : k + 1 < l.length), l[k + 1].first = l[k].next
  | [], _, k, h => by simp at h
  | [_], _, k, h => by simp at h
  | g :: g2 :: r, ⟨h1, h2⟩, k, h => by
    cases k with
    | zero => exact h1
    | succ k => exact linked_get h2 k (by simpa using h)
/-- Opened anew, a log tells what it told. -/
theorem open_mir (hc : Ch lg lo all) (hm : Mir lg d) (hr : Rising d.f) (h64 : 64 ≤ lg.full ∧ lg.full ≤ 262144) (hp : ∀ g ∈ lg.segs, ∀ p ∈ g.recs, p.length ≤ 262144) :
    openL lg.dir (lg.full : Int) d = (some { lg with safe := lg.next - 1 }, (d.sync (segN lg.dir lg.last.first)).1, 0) := by
  have hdir := hc.ok.dir
  have hnm : names d.f = lg.segs.map (fun g => segN lg.dir g.first) := by
    have := congrArg (List.map Prod.fst) hm.files
    rw [List.map_map, List.map_map] at this
    exact this
  have hfd : found lg.dir (names d.f) = lg.segs.map (fun g => ⟨g.first, []⟩) := by
    rw [hnm]
    have hnum := hc.ok.num
    generalize lg.segs = l at hnum
    induction l with
    | nil => rfl
    | cons x r ih =>
      have hx := hnum x List.mem_cons_self
      unfold found at ih ⊢
      rw [List.map_cons, List.filterMap_cons, numR_seg _ hx.2, if_pos (by omega), ih (fun g hg => hnum g (List.mem_cons_of_mem _ hg))]
      rfl
  have hrd : ∀ g ∈ lg.segs, ldSeg lg.dir d g = g ∧ ldTorn lg.dir d g = false := fun g hg => (read_mir hm hr hg (hp g hg)).2
  have hseg : ∀ g : Sg, ldSeg lg.dir d ⟨g.first, []⟩ = ldSeg lg.dir d g := fun _ => rfl
  have htor : ∀ g : Sg, ldTorn lg.dir d ⟨g.first, []⟩ = ldTorn lg.dir d g := fun _ => rfl
  have hne : found lg.dir (names d.f) ≠ [] := by
    rw [hfd]
    intro e
    have h1 := congrArg List.length e
    rw [List.length_map] at h1
    have h2 := hc.ok.ne
    rw [h1] at h2
    exact Nat.lt_irrefl 0 h2
  unfold openL
  rw [if_neg (by intro e; rcases e with e | e; (rw [e] at hdir; simp at hdir); omega), if_neg (by omega), if_neg (by rw [hm.on]; decide), Int.toNat_natCast]
  unfold Lg.start
  rw [if_neg hne, hfd]
  obtain ⟨g0, r0, e0, hlk, _, _⟩ := hc.cons
  rw [← e0] at hlk
  have hok : ldOk lg.dir d (lg.segs.map (fun g => (⟨g.first, []⟩ : Sg))) = true := (ldOk_iff _ _ _).2 fun k h => by
    have h' : k + 1 < lg.segs.length := by simpa using h
    rw [List.getElem_map, List.getElem_map, htor, hseg]
    obtain ⟨h1, h2⟩ := hrd _ (List.getElem_mem (Nat.lt_of_succ_lt h'))
    exact ⟨h2, by rw [h1]; exact (linked_get hlk k h').symm⟩
  have hmap : (lg.segs.map (fun g => (⟨g.first, []⟩ : Sg))).map (ldSeg lg.dir d) = lg.segs := by
    rw [List.map_map]
    conv => rhs; rw [← List.map_id lg.segs]
    exact List.map_congr_left fun g hg => (hrd g hg).1
  have hlast : (⟨lg.dir, lg.full, lg.segs.map (fun g => (⟨g.first, []⟩ : Sg)), 0⟩ : Lg).last = ⟨lg.last.first, []⟩ := by
    obtain ⟨_, hk, e⟩ := hc.ok.last
    unfold Lg.last
    rw [List.length_map, List.getD_eq_getElem?_getD, List.getElem?_map, List.getElem?_eq_getElem hk, List.getD_eq_getElem?_getD, List.getElem?_eq_getElem hk]
    rfl
  have hw := load_whole (lg := ⟨lg.dir, lg.full, lg.segs.map (fun g => (⟨g.first, []⟩ : Sg)), 0⟩) (d := d) (N := lg.segs.length) (by simp) hok (by rw [hlast, htor]; exact (hrd _ hc.ok.last.1).2)
  rw [hw, mid_all _ _ (by simp)]
  show ok3 (Lg.sync ⟨lg.dir, lg.full, (lg.segs.map (fun g => (⟨g.first, []⟩ : Sg))).map (ldSeg lg.dir d), 0⟩ d) = _
  rw [hmap]
  have hs := (hm.sync hc.ok.last.1).1
  have e1 : Lg.sync ⟨lg.dir, lg.full, lg.segs, 0⟩ d = ({ lg with safe := lg.next - 1 }, (d.sync (segN lg.dir lg.last.first)).1, 0) := by
    unfold Lg.sync
    have e2 : (⟨lg.dir, lg.full, lg.segs, 0⟩ : Lg).last = lg.last := rfl
    rw [e2, if_pos hs]
    rfl
  rw [e1]
  rfl
/-- Append while nothing falls: it is refused only where there is no room for a file more. -/
theorem append_res (hc : Ch lg lo all) (hf : Fu lg) (hm : Mir lg d) (hfew : lg.segs.length ≤ 999999) (hw : wt all + (p.length + 12) ≤ 4194304) (hp : p.length ≤ 262144) (hn : lg.next ≤ 99999999) : (lg.append d p).2.2.2 = 0 ∨ ((lg.append d p).2.2.2 ≠ 0 ∧ 64 ≤ (lg.append d p).2.1.f.length) := by
  unfold Lg.append
  rw [if_neg (by omega), if_neg (by omega)]
  by_cases hl : lg.last.size < lg.full
  · have hr : lg.room d = (lg, d, 0) := by unfold Lg.room; rw [if_pos hl]
    rw [hr, if_pos rfl]
    exact .inl (write_mir hc hf hm hl hw lg.next).1
  · obtain ⟨s1, s2, s3, s4, s5, s6, s7, s8⟩ := lsync_mir hc hf hm
    have hr : lg.room d = (lg.sync d).1.begin (lg.sync d).2.1 lg.next := by unfold Lg.room; rw [if_neg hl, if_pos s1]
    rw [hr]
    by_cases h6 : d.f.length < 64
    · have hb := begin_mir s2 s3 s4 (by rw [s5, s6]; exact hl) (by rw [s7]; omega) (by rw [s8]; exact h6)
      have hbc := s2.begin (by obtain ⟨_, c2, _⟩ := hc.sync d; rw [c2]; exact hfew) (by rw [s7]; omega) (lg.sync d).2.1
      rw [s7] at hb hbc
      obtain ⟨b1, b2, b3, b4⟩ := hb
      rw [if_pos b1]
      obtain ⟨c1, _⟩ := hbc
      have hlast : ((lg.sync d).1.begin (lg.sync d).2.1 lg.next).1.last.size < ((lg.sync d).1.begin (lg.sync d).2.1 lg.next).1.full := by
        have hp := b3.pos
        rw [b2] at hp ⊢
        rw [last_snoc]
        exact Nat.lt_of_lt_of_le (by decide : 0 < 64) hp
      have e : (lg.sync d).1.begin (lg.sync d).2.1 lg.next = (((lg.sync d).1.begin (lg.sync d).2.1 lg.next).1, ((lg.sync d).1.begin (lg.sync d).2.1 lg.next).2.1, 0) := by rw [← b1]
      rw [e]
      exact .inl (write_mir c1 b3 b4 hlast hw lg.next).1
    · have hb := begin_full s2 s3 s4 (by rw [s5, s6]; exact hl) (by rw [s7]; omega) (by rw [s8]; omega)
      rw [s7] at hb
      rw [hb, if_neg (show ¬ (3 : Nat) = 0 by decide)]
      exact .inr ⟨(fun e => by cases e), by show 64 ≤ (lg.sync d).2.1.f.length; rw [s8]; omega⟩
end
end Go.Proofs.YtkilkhnoldfhcaaGreatDoor
namespace Go.Proofs.YtkilkhnoldfhcaaGreatDoor
open Go.RowKit
section
variable {H : Type} {enc : TypeId × Value → H} {w : World} {base : Nat} {held : Bool}
end
section
variable {B : Nat} {w w' : World} {ao : Option Addr} {n cap : Nat} {l : List UInt8} {L : List (List UInt8)}
end
section
variable {C : Nat → Prop} {w : World}
theorem ro_rb2 {ao : Option Addr} {n cap : Nat} {us : List Value} {L : List (List UInt8)} (h : RO C w (.slice ao n cap) us L) (hn : n = L.length) : Fr.RB w.heap.size w ao n cap L := by
  have ho := h.own
  rcases ho.2 with ⟨e, h0⟩ | ⟨g, c, cur, e, _, hg, h1, h2, _⟩
  · injection e with e1 e2 e3
    subst e1 e2 e3
    exact ⟨hn, Nat.le_refl _, by decide, fun _ => rfl, .inl rfl⟩
  · injection e with e1 e2 e3
    subst e1 e3
    refine ⟨hn, by omega, h2, (fun e => by cases e), ?_⟩
    by_cases hz : n = 0
    · exact .inl hz
    refine .inr ⟨g, 0, rfl, (Array.getElem?_eq_some_iff.1 hg).1, fun i hi => ?_⟩
    have hiL : i < L.length := by omega
    obtain ⟨co, cc, c0, o0⟩ := ro_get h rfl hiL
    have e : L.getD i [] = L[i] := by rw [List.getD_eq_getElem?_getD, List.getElem?_eq_getElem hiL]; rfl
    rw [Nat.zero_add, e]
    exact ⟨co, _, cc, c0, fr_sb (own_sb o0)⟩
end
/-- How many bytes rows have. -/
def weiR (L : List (List UInt8)) : Nat := (L.map fun p => min p.length 20001).sum
theorem wt_drop_le (L : List (List UInt8)) (i : Nat) : wt (L.drop i) ≤ wt L := by
  conv => rhs; rw [← List.take_append_drop i L]
  rw [wt_append]
  omega
theorem segs_recs {lg : Lg} {lo : Nat} {all : List (List UInt8)} (h : Ch lg lo all) {m : Nat} (hp : ∀ p ∈ all, p.length ≤ m) : ∀ g ∈ lg.segs, ∀ p ∈ g.recs, p.length ≤ m := by
  obtain ⟨init, g, h1, h2, h3⟩ := h.seg
  intro x hx p hpx
  refine hp p ?_
  rw [← h3, ← h1]
  exact List.mem_flatten.2 ⟨x.recs, List.mem_map.2 ⟨x, hx, rfl⟩, hpx⟩
/-- A log over its disk, of which nothing falls: k steps have been done. -/
structure Calm (full k W : Nat) (lg : Lg) (d : Dk) (lo : Nat) (all : List (List UInt8)) : Prop where
  ch : Ch lg lo all
  fu : Fu lg
  mir : Mir lg d
  few : lg.segs.length ≤ k + 1
  next : lo + all.length ≤ k + 1
  wt : wt all ≤ W + 12 * k
  mem : ∀ p ∈ all, p.length ≤ 20000
  done : d.done + lg.segs.length ≤ 2 + 4 * k
  dir : lg.dir = dLog
  full : lg.full = full
section
variable {full k W V : Nat} {lg : Lg} {d : Dk} {lo : Nat} {all : List (List UInt8)} {p : List UInt8}
theorem Calm.append (h : Calm full k W lg d lo all) (hk : k ≤ 1000) (hW : W ≤ 20000) (hp : p.length ≤ 20000) (hV : W + p.length ≤ V) :
    Calm full (k + 1) V (lg.append d p).1 (lg.append d p).2.1 lo (if (lg.append d p).2.2.2 = 0 then all ++ [p] else all) ∧ ((lg.append d p).2.2.2 = 0 → (lg.append d p).2.2.1 = lo + all.length) ∧ ((lg.append d p).2.2.2 = 0 ∨ ((lg.append d p).2.2.2 ≠ 0 ∧ 64 ≤ (lg.append d p).2.1.f.length)) := by
  have hw := h.wt
  have hf := h.few
  have hn := h.ch.next
  have hx := h.next
  obtain ⟨c1, c2, c3, c4, c5, c6⟩ := h.ch.append (p := p) (by omega) (by omega) d
  obtain ⟨m1, m2⟩ := append_mir (p := p) h.ch h.fu h.mir (by omega) (by omega)
  refine ⟨⟨c1, m1, m2, by omega, ?_, ?_, ?_, by have := h.done; omega, c3.trans h.dir, c4.trans h.full⟩, c6, append_res h.ch h.fu h.mir (by omega) (by omega) (by omega) (by omega)⟩
  · split
    · rw [List.length_append]; simp; omega
    · omega
  · split
    · rw [wt_append, wt_one]; omega
    · omega
  · split
    · intro q hq
      rcases List.mem_append.1 hq with hq | hq
      · exact h.mem q hq
      · obtain rfl : q = p := by simpa using hq
        exact hp
    · exact h.mem
theorem Calm.sync (h : Calm full k W lg d lo all) : Calm full (k + 1) W (lg.sync d).1 (lg.sync d).2.1 lo all ∧ (lg.sync d).2.2 = 0 ∧ (lg.sync d).1.safe + 1 = lo + all.length ∧ (lg.sync d).1.segs = lg.segs := by
  obtain ⟨s1, s2, s3, s4, s5, s6, s7, s8⟩ := lsync_mir h.ch h.fu h.mir
  obtain ⟨c1, c2, c3, c4, c5, c6, c7⟩ := h.ch.sync d
  exact ⟨⟨s2, s3, s4, by rw [c2]; have := h.few; omega, by have := h.next; omega, by have := h.wt; omega, h.mem, by have := h.done; rw [c2]; omega, c3.trans h.dir, c4.trans h.full⟩, s1, c7 s1, c2⟩
theorem Calm.trim (h : Calm full k W lg d lo all) (hr : Rising d.f) (below : Int) : ∃ lo', Calm full (k + 1) W (lg.trim d below).1 (lg.trim d below).2.1 lo' (all.drop (lo' - lo)) ∧ (lg.trim d below).2.2 = 0 ∧ lo ≤ lo' ∧ lo' - lo ≤ all.length ∧ (lo' = lo ∨ (lo' : Int) ≤ below) ∧ (lg.trim d below).1.safe = lg.safe ∧ Rising (lg.trim d below).2.1.f := by
  obtain ⟨lo', ht⟩ := trim_mir (below := below) lg.segs d lo all h.ch h.fu h.mir hr
  have h1 := ht.low
  have h2 := ht.hi
  have h3 : (lg.trim d below).1.segs.length ≤ lg.segs.length := ht.len
  have h4 : (lg.trim d below).2.1.done + (lg.trim d below).1.segs.length ≤ d.done + lg.segs.length := ht.done
  have h5 := h.few
  have h6 := h.next
  have h7 := h.wt
  have h8 := h.done
  have h9 := wt_drop_le all (lo' - lo)
  exact ⟨lo', ⟨ht.ch, ht.fu, ht.mir, by omega, by rw [List.length_drop]; omega, by omega, fun p hp => h.mem p (List.mem_of_mem_drop hp), by omega, ht.dir.trans h.dir, ht.full.trans h.full⟩, ht.code, h1, h2, ht.why, ht.safe, ht.rise⟩
theorem Calm.tot (h : Calm full k W lg d lo all) : Go.Proofs.YtkilkhnoldfhcaaGreatDoor.tot d.f ≤ W + 12 * k := by
  obtain ⟨init, g, h1, _, h3⟩ := h.ch.seg
  rw [tot_mir h.mir, h1, h3]
  exact h.wt
/-- Opened anew, a log tells what it told. -/
theorem Calm.open (h : Calm full k W lg d lo all) (hr : Rising d.f) (h64 : 64 ≤ full ∧ full ≤ 262144) : openL dLog (full : Int) d = (some { lg with safe := lg.next - 1 }, (d.sync (segN lg.dir lg.last.first)).1, 0) ∧ Ch { lg with safe := lg.next - 1 } lo all := by
  have h1 := open_mir h.ch h.mir hr (by rw [h.full]; exact h64) (segs_recs h.ch (fun p hp => Nat.le_trans (h.mem p hp) (by decide)))
  refine ⟨?_, h.ch.ok.safe _, h.ch.seg, h.ch.low, ?_⟩
  · rw [← h.full, show dLog = lg.dir from h.dir.symm]
    exact h1
  · have h2 := h.ch.next
    have h3 := h.ch.pos
    show lg.next - 1 < _
    omega
/-- From tells all, where all are safe. -/
theorem Ch.whole (h : Ch lg lo all) (hs : lg.safe + 1 = lo + all.length) (hl : all.length ≤ 1073741824) : lg.from (lo : Int) 1073741824 = some all ∧ (lg.rests (lo : Int)).length = all.length := by
  refine ⟨?_, ?_⟩
  · rw [h.from, if_neg (by omega), show ((lo : Int) - (lo : Int)).toNat = 0 by omega, List.drop_zero, show (min (1073741824 : Int) ((lg.safe : Int) + 1 - (lo : Int))).toNat = all.length by omega, List.take_length]
  · rw [h.rests, show ((lo : Int) - (lo : Int)).toNat = 0 by omega, List.drop_zero]
theorem Calm.more (h : Calm full k W lg d lo all) : Calm full (k + 1) W lg d lo all := ⟨h.ch, h.fu, h.mir, by have := h.few; omega, by have := h.next; omega, by have := h.wt; omega, h.mem, by have := h.done; omega, h.dir, h.full⟩
end
end Go.Proofs.YtkilkhnoldfhcaaGreatDoor
