/- disk.check. Conditions: files whose bytes are few. -/
import Derived.Test.YtefgnlijgomgpaaNa
namespace Go.Proofs.Ytefgnlijgomgpaa
open Go.RowKit
/-- How a number reads. -/
def intE (v : Value) : Option (DataW Unit × List MemPlace) :=
  match v with
  | .int .i64 n => some (.lit (.int .i64 n), [])
  | _ => none
theorem under84 : Try.prog.underlying 84 = some (.map 9 3) := by kernel_rfl
theorem zero3 (w : World) : (zeroValue 3).run Try.prog w = .ok (.int .i64 0) w := by kernel_rfl
/-- A map of numbers as it lies in memory. -/
abbrev IAt (w : World) (m : Nat) (L : Ent Nat) : Prop := w.ownsMap Try.prog 9 intE m L.length (dmap L)
theorem iat_tight {w : World} {m n : Nat} {L : Ent Nat} (h : w.ownsMap Try.prog 9 intE m n (dmap L)) : IAt w m L := by
  obtain ⟨es, clock, hb, F, hs, hD⟩ := h
  refine ⟨es, clock, hb, F, ?_, hD⟩
  have h1 : Maps.size (dmap L) = es.size := by rw [hD]; simp [Maps.size, length_sorted]
  rw [← h1, size_dmap]
  exact Nat.le_refl _
theorem IAt.tn {S : Nat → Prop} {w w' : World} {m : Nat} {L : Ent Nat} (h : IAt w m L) (ht : Tn S w w') (hm : ¬ S m) : IAt w' m L := by
  obtain ⟨es, clock, hb, r⟩ := h
  exact ⟨es, clock, ht.at_ hb hm, r⟩
theorem IAt.below {w w' : World} {m : Nat} {L : Ent Nat} (h : IAt w m L) (hb : Below w.heap.size w w') : IAt w' m L := h.tn (Tn.of_below (S := fun _ => False) hb) (fun e => e)
theorem IAt.store {w : World} {m : Nat} {L : Ent Nat} (h : IAt w m L) {s : Nm} (hs : s.length ≤ maxLen) (hl : L.length < maxLen) (b : Nat) : ∃ w', (Instr.mapUpdate 84 (.map (some m)) (nmv s) (.int .i64 (b : Int))).run Try.prog w = .ok () w' ∧ IAt w' m (put L s b) ∧ Tn (· = m) w w' := by
  obtain ⟨w', h1, h2, h3⟩ := World.ownsMap.store h law9 under84 hl (key9 hs) (show intE (.int .i64 (b : Int)) = some (.lit (.int .i64 (b : Int)), []) from rfl)
  have hg := h3.grown
  exact ⟨w', h1, iat_tight (by rw [← put_dmap]; exact h2), hg.os, hg.tape, hg.output, hg.size, fun k hk hne => hg.block k hk (fun e => hne (by simpa using e))⟩
theorem IAt.look {w : World} {m : Nat} {L : Ent Nat} (h : IAt w m L) {s : Nm} (hs : s.length ≤ maxLen) : ∃ v, (Instr.lookup 84 (.map (some m)) (nmv s) true).run Try.prog w = .ok (.tuple #[v, .bool (has L s)]) w := by
  obtain ⟨v, ps, hrun, hv⟩ := h.look_ok law9 under84 (zero3 w) (zd := .lit (.int .i64 0)) (zp := []) rfl (key9 hs)
  rw [has_dmap] at hrun
  exact ⟨v, hrun⟩
theorem has_putN {f : Ent Nat} {s t : Nm} {x : Nat} : has (put f s x) t = (s == t || has f t) := by
  rw [Bool.eq_iff_iff]
  unfold has
  simp only [List.any_eq_true, Bool.or_eq_true, beq_iff_eq]
  constructor
  · rintro ⟨p, hp, e⟩
    rcases mem_put.1 hp with rfl | ⟨hp, _⟩
    · exact .inl e
    · exact .inr ⟨p, hp, e⟩
  · rintro (rfl | ⟨p, hp, rfl⟩)
    · exact ⟨_, mem_put.2 (.inl rfl), rfl⟩
    · by_cases e : p.1 = s
      · exact ⟨_, mem_put.2 (.inl rfl), e.symm⟩
      · exact ⟨p, mem_put.2 (.inr ⟨hp, e⟩), rfl⟩
theorem length_putN (f : Ent Nat) (s : Nm) (x : Nat) : (put f s x).length ≤ f.length + 1 := by
  unfold put
  rw [length_ins]
  have : (del f s).length ≤ f.length := List.length_filter_le _ _
  omega
/-- What has been seen. -/
def Seen (l : List FV) (L : Ent Nat) : Prop := (∀ s, has L s = l.any fun q => q.name == s) ∧ L.length ≤ l.length
theorem Seen.snoc {l : List FV} {L : Ent Nat} (h : Seen l L) (p : FV) (x : Nat) : Seen (l ++ [p]) (put L p.name x) := by
  refine ⟨fun s => ?_, ?_⟩
  · rw [has_putN, h.1, List.any_append, Bool.or_comm]
    simp
  · have := length_putN L p.name x
    have := h.2
    rw [List.length_append]
    show _ ≤ l.length + 1
    omega
theorem cells43 {w : World} {b : Nat} {v0 v1 v2 : Value} (h : w.heap[b]? = some (.cells #[v0, v1, v2] 43 (0, 0))) : w.cell? ⟨b, 0, none⟩ = some v0 ∧ w.cell? ⟨b, 1, none⟩ = some v1 ∧ w.cell? ⟨b, 2, none⟩ = some v2 := by
  refine ⟨?_, ?_, ?_⟩ <;> simp [World.cell?, h]
def box43 (p : FV) (bo : Option Addr) (bc : Nat) : Obj := .cells #[nmv p.name, .slice bo p.data.length bc, .int .i64 p.safe] 43
set_option maxRecDepth 100000 in
set_option maxHeartbeats 4000000 in
theorem check_any {D : Nat → Prop} {w : World} {ao : Option Addr} {n cap : Nat} {l : List FV} (hs : SF D w ao n cap l) (hl : l.length ≤ 100000) (ht : totF l ≤ 4194304) :
    Calls Try.prog 50 #[.slice ao n cap] w fun e w' => ∃ er : Nat, e = .returned (.int .i64 (er : Int)) ∧ Chk l er ∧ Below w.heap.size w w' := by
  obtain rfl : n = l.length := hs.len
  have HSF := Lib.hid hs
  have HTOT := Lib.hid ht
  have hmm := @run_makeMap Try.prog
  clear hs ht
  go_enter Try.func50, Try.ntmps50
  go_wp2
  have hm0 : IAt (w.alloc (.map #[] 0)) w.heap.size ([] : Ent Nat) := World.ownsMap_made w Try.prog 9 intE
  go_loopw [4, 5, 6, 7, 14] (fun _ _ _ _ i wr => ∃ j : Nat, j ≤ l.length ∧ i = .int .i64 j ∧ Hid (good l j) ∧ Hid (∃ L, Seen (l.take j) L ∧ IAt wr w.heap.size L) ∧ Hid (Below w.heap.size w wr)) (fun _ _ _ _ i _ => l.length - (intOf i).toNat)
  case atStart => exact ⟨0, Nat.zero_le _, rfl, fun _ _ h => absurd h (Nat.not_lt_zero _), ⟨[], ⟨fun _ => rfl, Nat.zero_le _⟩, hm0⟩, below1 _ _⟩
  case round =>
    obtain ⟨j, hj, rfl, HG, HM, HB⟩ := hrel
    by_cases hlt : j < l.length
    · obtain ⟨b, off, rfl, _, f1, wf1⟩ := (HSF.out.below HB.out).at_ hlt
      have c0 := f1.c0
      have c2 := f1.c2
      obtain ⟨bo, bc, c1, s1⟩ := f1.c1
      have hdl := s1.lt
      obtain ⟨L, hseen, hm⟩ := HM.out
      have hnl := wf1.name
      have hns := wf1.safe
      have hn9 : (l[j].name).length ≤ 9223372036854775807 := by unfold maxLen at hnl; omega
      have HT : Hid (l.take (j + 1) = l.take j ++ [l[j]]) := List.take_succ_eq_append_getElem hlt
      have HGS : Hid (errOf (l.take j) l[j] = 0 → good l (j + 1)) := fun he => good_succ HG.out hlt he
      have HBAD : Hid (∀ e : Nat, e ≠ 0 → errOf (l.take j) l[j] = e → Chk l e) := fun e h0 he => .inl ⟨h0, j, hlt, HG.out, he⟩
      generalize l[j] = p at *
      have HSEEN := Lib.hid hseen
      have HMM := Lib.hid hm
      have HNL := Lib.hid hnl
      have HN9 := Lib.hid hn9
      clear HM hseen hm f1 wf1 hnl hn9 hm0 s1
      go_upto_region 5 with (fail)
      have HBB := Lib.hid (below1 wr (.cells #[nmv p.name, .slice bo p.data.length bc, .int .i64 p.safe] 43))
      have HBX := Lib.hid (heap_alloc_new wr (.cells #[nmv p.name, .slice bo p.data.length bc, .int .i64 p.safe] 43))
      generalize wr.alloc (.cells #[nmv p.name, .slice bo p.data.length bc, .int .i64 p.safe] 43) = wB at *
      obtain ⟨b0, b1, b2⟩ := cells43 HBX.out
      have HMB := Lib.hid (HMM.out.below HBB.out)
      obtain ⟨lv, hlk⟩ := HMB.out.look HNL.out
      rw [HSEEN.out.1] at hlk
      have HB2 := Lib.hid (HB.out.trans (HBB.out.mono HB.out.size))
      clear c0 c1 c2
      cases hnm : isNm p.name with
      | false =>
        have HN := Lib.hid hnm
        have HC := HBAD.out 10 (by decide) (by unfold errOf; rw [hnm]; rfl)
        clear hnm hlk
        go_wp2_with (go_at_call 57; (with_reducible refine (isName_any _ _ HN9.out).mono ?_); rw [HN.out]; rintro e w' ⟨rfl, rfl⟩)
        go_ret
        exact ⟨10, rfl, HC, HB2.out⟩
      | true =>
      have HN := Lib.hid hnm
      cases hany : (l.take j).any fun q => q.name == p.name with
      | true =>
        have HC := HBAD.out 9 (by decide) (by unfold errOf; rw [hnm, hany]; rfl)
        rw [hany] at hlk
        clear hnm hany
        go_wp2_with (go_at_call 57; (with_reducible refine (isName_any _ _ HN9.out).mono ?_); rw [HN.out]; rintro e w' ⟨rfl, rfl⟩)
        go_ret
        exact ⟨9, rfl, HC, HB2.out⟩
      | false =>
      rw [hany] at hlk
      by_cases hsf : p.safe < 0 ∨ (p.data.length : Int) < p.safe
      · have HC := HBAD.out 1 (by decide) (by unfold errOf; rw [hnm, hany, if_pos hsf]; rfl)
        clear hnm hany
        by_cases hs0 : p.safe < 0
        · clear hsf
          go_wp2_with (go_at_call 57; (with_reducible refine (isName_any _ _ HN9.out).mono ?_); rw [HN.out]; rintro e w' ⟨rfl, rfl⟩)
          go_ret
          exact ⟨1, rfl, HC, HB2.out⟩
        · have hs1 : (p.data.length : Int) < p.safe := by omega
          have hd0 : decide (p.safe < 0) = false := decide_eq_false hs0
          clear hsf
          go_wp2_with (go_at_call 57; (with_reducible refine (isName_any _ _ HN9.out).mono ?_); rw [HN.out]; rintro e w' ⟨rfl, rfl⟩)
          go_ret
          exact ⟨1, rfl, HC, HB2.out⟩
      · have HG2 := Lib.hid (HGS.out (by unfold errOf; rw [hnm, hany, if_neg hsf]; rfl))
        have hs0 : ¬ p.safe < 0 := by omega
        have hs1 : ¬ (p.data.length : Int) < p.safe := by omega
        have hd0 : decide (p.safe < 0) = false := decide_eq_false hs0
        have hd1 : decide ((p.data.length : Int) < p.safe) = false := decide_eq_false hs1
        have hLl : L.length < maxLen := by have h1 := HSEEN.out.2; rw [List.length_take] at h1; unfold maxLen; omega
        obtain ⟨w3, hst, hm3, ht3⟩ := HMB.out.store HNL.out hLl j
        have HM3 := Lib.hid hm3
        have HB3 := Lib.hid (HB2.out.trans (ht3.below HB2.out.size (fun k hk => by subst hk; exact Nat.le_refl _)))
        have HS3 := Lib.hid (HSEEN.out.snoc p j)
        clear hnm hany hsf hm3 ht3 hLl
        go_wp2_with (go_at_call 57; (with_reducible refine (isName_any _ _ HN9.out).mono ?_); rw [HN.out]; rintro e w' ⟨rfl, rfl⟩)
        go_roundw
        case rel => exact ⟨j + 1, by omega, by go_num, HG2, ⟨_, by rw [HT.out]; exact HS3.out, HM3.out⟩, HB3⟩
        case measure => simp [intOf]; omega
    · obtain rfl : j = l.length := by omega
      by_cases hmany : 64 < l.length
      · have hm64 : (64 : Int) < (l.length : Int) := by omega
        go_wp2
        go_ret
        exact ⟨3, rfl, .inr ⟨HG.out, by rw [if_pos hmany]⟩, HB.out⟩
      · have hm64 : ¬ (64 : Int) < (l.length : Int) := by omega
        clear HM hm0
        go_wp2
        go_loopw [8, 10, 52] (fun r _ i wt => ∃ j : Nat, j ≤ l.length ∧ i = .int .i64 j ∧ r = .int .i64 (4194304 - (totF (l.take j) : Int)) ∧ Hid (Below w.heap.size w wt)) (fun _ _ i _ => l.length - (intOf i).toNat)
        case atStart => exact ⟨0, Nat.zero_le _, rfl, rfl, HB⟩
        case round =>
          obtain ⟨j, hj, rfl, rfl, HBt⟩ := hrel
          by_cases hlt : j < l.length
          · obtain ⟨b, off, rfl, _, f1, wf1⟩ := (HSF.out.below HBt.out).at_ hlt
            have c0 := f1.c0
            have c2 := f1.c2
            obtain ⟨bo, bc, c1, s1⟩ := f1.c1
            have htk := totF_take hlt
            have hle := totF_le l (j + 1)
            have htot := HTOT.out
            rw [htk] at hle
            have hsub : IntKind.i64.wrap (4194304 - (totF (l.take j) : Int) - (l[j].data.length : Int)) = 4194304 - (totF (l.take (j + 1)) : Int) := by rw [htk, wrap_in (by omega)]; omega
            have hnl : ¬ 4194304 - (totF (l.take j) : Int) < (l[j].data.length : Int) := by omega
            have HTK := Lib.hid htk
            clear htk hle htot f1 wf1 s1
            generalize hT2 : totF (l.take (j + 1)) = T2 at *
            have HT2 := Lib.hid hT2
            clear hT2
            generalize totF (l.take j) = T at *
            generalize l[j] = p at *
            have HB4 := Lib.hid (HBt.out.trans ((below1 wr (.cells #[nmv p.name, .slice bo p.data.length bc, .int .i64 p.safe] 43)).mono HBt.out.size))
            go_wp2
            go_roundw
            case rel => exact ⟨j + 1, by omega, by go_num, by rw [HT2.out], HB4⟩
            case measure => simp [intOf]; omega
          · obtain rfl : j = l.length := by omega
            go_wp2
            go_ret
            exact ⟨0, rfl, .inr ⟨HG.out, by rw [if_neg hmany, if_neg (by have := HTOT.out; omega)]⟩, HBt.out⟩
end Go.Proofs.Ytefgnlijgomgpaa
