/- raceref9.Run. Conditions: no more than a million of what was seen; values as Go has them. -/
import Derived.Test.YtbgccaconhmbaaaGreatDoorJRm
import Derived.Test.YtbgccaconhmbaaaGreatDoorJNl
import Derived.IntWalk
import Derived.Deep.CutRange
namespace Go.Proofs.YtbgccaconhmbaaaGreatDoor
open Go.ChangeShapes Go.WideShapes Go.ChangeAt Go.RowKit Go.Deep
/-- What Run's rounds carry: the row of writes, the stack. -/
structure RunS (w wr : World) (vo vs : Value) (W : Ent DV) (st : List DV) : Prop where
  hb : Below w.heap.size w wr
  ho : wr.ownsRow w.heap.size 54 4 vo W.length (cellsG wrC W)
  hs : wr.ownsRow w.heap.size 48 3 vs st.length (cellsG dvC st)
section
variable {w w1 w2 : World} {vo vs u : Value} {W : Ent DV} {st : List DV}
theorem RunS.below (h : RunS w w1 vo vs W st) (hb : Below w1.heap.size w1 w2) : RunS w w2 vo vs W st :=
  ⟨h.hb.trans (hb.mono h.hb.size), own_below h.ho hb, own_below h.hs hb⟩
theorem RunS.hsn (h : RunS w w1 vo vs W st) {n : Nat} (hn : st.length = n) : w1.ownsRow w.heap.size 48 3 vs n (cellsG dvC st) := by rw [← hn]; exact h.hs
theorem RunS.push (h : RunS w w1 vo vs W st) {x : DV} {n : Nat} (hn : st.length = n) (hown : w2.ownsRow w.heap.size 48 3 u (n + 1) (cellsG dvC st ++ dvC x)) (hg : w1.grownBy w2 vs.ownBlock) : RunS w w2 vo u W (st ++ [x]) :=
  ⟨h.hb.grown hg h.hb.size (fun q hq => (h.hs.lt q hq).1), own_grown_by h.ho h.hs (by decide) hg, by rw [List.length_append, cellsG_append, cellsG_one, hn]; exact hown⟩
theorem RunS.put (h : RunS w w1 vo vs W st) (hb : Below w1.heap.size w1 w2) {s : Nm} {x : DV} (hown : w2.ownsRow w1.heap.size 54 4 u (put W s x).length (cellsG wrC (put W s x))) : RunS w w2 u vs (YtbgccaconhmbaaaGreatDoor.put W s x) st :=
  ⟨h.hb.trans (hb.mono h.hb.size), own_mono hown h.hb.size, own_below h.hs hb⟩
theorem RunS.cut {ao : Option Addr} {n cap k : Nat} (h : RunS w w1 vo (.slice ao n cap) W st) (hn : st.length = n) (hk : k ≤ n) : RunS w w1 vo (.slice ao k cap) W (st.take k) :=
  ⟨h.hb, h.ho, by
    have h3 := h.hs
    rw [hn] at h3
    rw [List.length_take, hn, Nat.min_eq_left hk]
    exact own_cut dvC_len h3 hk⟩
theorem RunS.set {g n cap j : Nat} (h : RunS w w1 vo (.slice (some ⟨g, 0, none⟩) n cap) W st) (hn : st.length = n) (hj : j < n) (x : DV) : RunS w (setV3 w1 g (j * 3) x) vo (.slice (some ⟨g, 0, none⟩) n cap) W (st.set j x) := by
  have h3 := h.hs
  rw [hn] at h3
  obtain ⟨a, b⟩ := own_set3 h3 (by rw [hn]; exact hj) x
  refine ⟨h.hb.grown b h.hb.size (fun q hq => (h.hs.lt q hq).1), own_grown_by h.ho h3 (by decide) b, by rw [List.length_set, hn]; exact a⟩
end
set_option maxRecDepth 100000 in
set_option maxHeartbeats 16000000 in
theorem rrun_seen {P Q : Nat → Prop} {w : World} {vp vs : Value} {p : List OpV} {l : List SeenV} (hp : HasO P w vp p) (hs : HasN Q w vs l) (hc : chkV p = 0) (_hl : l.length ≤ 1000000) (hwp : ∀ o ∈ p, o.v.wf) (hws : ∀ s ∈ l, s.wf) :
    Calls Tryz.prog 25 #[vp, vs] w (Ran w (runV p l)) := by
  have hst := run_stf
  obtain ⟨iw, hi, hz0, hz1, hz2⟩ := info_parts info_val
  have hp40 : p.length ≤ 40 := by
    unfold chkV at hc
    by_cases h : 40 < p.length
    · rw [if_pos h] at hc; cases hc
    · omega
  have hc0 : chkL 0 p = 0 := by
    unfold chkV at hc
    rw [if_neg (by omega)] at hc
    by_cases h : chkL 0 p = 0
    · exact h
    · rw [if_neg h] at hc; exact hc
  have HF : Hid (∀ k, (seenF l k).wf) := Lib.hid (fun k => by
    unfold seenF
    rcases seen_idx (l := l) (k := k) with ⟨_, h⟩ | ⟨i, hi, _, h⟩
    · rw [h]; exact none_wf
    · rw [h]; exact (hws _ (List.getElem_mem hi)).2.1)
  have HG0 := Lib.hid (Go1.start (f := seenF l) hc0)
  have HMR := Lib.hid (fun o (ho : o ∈ p) h => mem_reads hc0 ho h)
  have HR8 : Hid (∀ x ∈ readsV p, seenO l x = none → runV p l = ([], 8)) := Lib.hid (fun x hx h => by
    unfold runV; rw [if_pos hc, saw_none hx h]; rfl)
  have HR4 : Hid ((∀ x ∈ readsV p, (seenO l x).isSome = true) → ∀ x ∈ readsV p, mayV (seenF l x) = false → runV p l = ([], 4)) := Lib.hid (fun ha x hx h => by
    unfold runV; rw [if_pos hc, saw_bad ha hx h]; rfl)
  have HR0 : Hid ((∀ x ∈ readsV p, (seenO l x).isSome = true) → (∀ x ∈ readsV p, mayV (seenF l x) = true) → runV p l = outV (runL (seenF l) p [] [])) := Lib.hid (fun ha hm => runV_ok hc (saw_good ha hm))
  have HCK := fun w (hp : HasO P w vp p) => Lib.hid (rcheck_any hp)
  simp only [hc] at HCK
  have HRR := fun w (hp : HasO P w vp p) => Lib.hid (rreads_any hp (by omega))
  have HSA := fun w (hs : HasN Q w vs l) (x : Nm) => Lib.hid (seenAt_any hs x)
  have HP := Lib.hid hp
  have HS := Lib.hid hs
  have HWP := Lib.hid hwp
  obtain ⟨ap, cp, rfl⟩ := hasg_sl hp
  obtain ⟨aq, cq, rfl⟩ := hasg_sl hs
  obtain ⟨n, hn⟩ : ∃ n, p.length = n := ⟨_, rfl⟩
  obtain ⟨m, hm⟩ : ∃ m, l.length = m := ⟨_, rfl⟩
  rw [hn] at hp40 HP HCK HRR
  rw [hm] at HS HSA
  rw [hn, hm]
  have HN := Lib.hid hn
  have HM := Lib.hid hm
  obtain ⟨rs, hrs⟩ : ∃ rs, readsV p = rs := ⟨_, rfl⟩
  rw [hrs] at HR8 HR4 HR0
  simp only [hrs] at HMR HRR
  obtain ⟨rn, hrn⟩ : ∃ n, rs.length = n := ⟨_, rfl⟩
  obtain ⟨R, hR⟩ : ∃ R, runL (seenF l) p [] [] = R := ⟨_, rfl⟩
  rw [hR] at HG0 HR0
  have HRN := Lib.hid hrn
  have HRL : Hid (rn ≤ 1000000) := Lib.hid (by
    rw [← hrn, ← hrs]
    exact Nat.le_trans (length_setV _) (Nat.le_trans (keysV_le _ _) (by omega)))
  clear hp hs hc hn hm hrs hrn hR hwp hws hc0
  go_enter Tryz.func25, Tryz.ntmps25
  go_wp2_with (first
    | (go_at_call 17; refine (HCK _ HP.out).out.mono ?_; rintro e w1 ⟨rfl, h2⟩; have HB1 := Lib.hid h2; clear h2)
    | (go_at_call 19; refine (HRR _ (HP.out.below HB1.out)).out.mono ?_; rintro e w2 ⟨u, rfl, h2, h3⟩; have HB2 := Lib.hid (HB1.out.trans (h2.mono HB1.out.size)); have HKS := Lib.hid (own_keys h3); clear h2 h3))
  obtain ⟨ak, ck, rfl⟩ := hasg_sl HKS.out
  rw [HRN.out] at HKS
  rw [HRN.out]
  have hrl := HRL.out
  go_loopw [8] (fun vi wr => ∃ k : Nat, vi = .int .i64 (k : Int) ∧ k ≤ rn ∧ Hid (∀ x ∈ rs.take k, (seenO l x).isSome = true) ∧ Hid (Below w2.heap.size w2 wr)) (fun vi _ => rn - (RowKit.intOf vi).toNat)
  case atStart => exact ⟨0, rfl, Nat.zero_le _, Lib.hid (fun x hx => by simp at hx), Lib.hid (Below.refl _ _)⟩
  case round =>
    obtain ⟨k, rfl, hk, HA, HB⟩ := hrel
    by_cases hlt : k < rn
    · have hk' : k < rs.length := by rw [HRN.out]; exact hlt
      obtain ⟨b, o, rfl, c0⟩ := keyS_at (HKS.out.below HB.out) hk'
      have HBB := Lib.hid (HB2.out.trans (HB.out.mono HB2.out.size))
      have HSX := Lib.hid (HSA _ (HS.out.below HBB.out) rs[k]).out
      have hmem : rs[k] ∈ rs := List.getElem_mem hk'
      have HA2 : (seenO l rs[k]).isSome = true → ∀ x ∈ rs.take (k + 1), (seenO l x).isSome = true := fun hy x hx => by
        rw [List.take_add_one, List.getElem?_eq_getElem hk'] at hx
        rcases List.mem_append.1 hx with hx | hx
        · exact HA.out x hx
        · obtain rfl : x = rs[k] := by simpa using hx
          exact hy
      cases hso : seenO l rs[k] with
      | none =>
        rw [seen_neg hso] at HSX
        rw [HR8.out _ hmem hso]
        clear HA2 hso hmem
        generalize rs[k] = x at *
        go_wp2_with (go_at_call 48; refine HSX.out.mono ?_; rintro e w3 ⟨rfl, hb⟩; have HB3 := Lib.hid (HBB.out.trans (hb.mono HBB.out.size)); clear hb)
        go_ret2
        exact ⟨_, rfl, HB3.out, World.ownsRow_nil _ _ _ _⟩
      | some z =>
        have hse : (seenO l rs[k]).isSome = true := by rw [hso]; rfl
        obtain ⟨i, hi2, h1, hzz⟩ := seen_at hse
        rw [h1] at HSX
        have HA3 := Lib.hid (HA2 hse)
        clear HA2 hso hmem hse h1 hzz hi2
        generalize rs[k] = x at *
        go_wp2_with (go_at_call 48; refine HSX.out.mono ?_; rintro e w3 ⟨rfl, hb⟩; have HB3 := Lib.hid (HB.out.trans (hb.mono HB.out.size)); clear hb)
        go_roundw
        case rel => exact ⟨k + 1, by go_num, by omega, HA3, HB3⟩
        case measure => simp [RowKit.intOf]; omega
    · obtain rfl : k = rn := by omega
      have HAA : Hid (∀ x ∈ rs, (seenO l x).isSome = true) := Lib.hid (by
        have := HA.out
        rwa [List.take_of_length_le (by rw [HRN.out]; exact Nat.le_refl _)] at this)
      have HR4 := Lib.hid (HR4.out HAA.out)
      have HR0 := Lib.hid (HR0.out HAA.out)
      have HBx := Lib.hid (HB2.out.trans (HB.out.mono HB2.out.size))
      have HKS := Lib.hid (HKS.out.below HB.out)
      clear HA HB HR8 HB2
      obtain ⟨w4, h9⟩ : ∃ w4, wr = w4 := ⟨_, rfl⟩
      rw [h9] at HBx HKS
      rw [h9]
      clear h9
      go_wp2
      go_loopw [9] (fun vi wr => ∃ q : Nat, vi = .int .i64 (q : Int) ∧ q ≤ k ∧ Hid (∀ x ∈ rs.take q, mayV (seenF l x) = true) ∧ Hid (Below w4.heap.size w4 wr)) (fun vi _ => k - (RowKit.intOf vi).toNat)
      case atStart => exact ⟨0, rfl, Nat.zero_le _, Lib.hid (fun x hx => by simp at hx), Lib.hid (Below.refl _ _)⟩
      case round =>
        obtain ⟨q, rfl, hq, HA, HB⟩ := hrel
        by_cases hlt : q < k
        · have hk' : q < rs.length := by rw [HRN.out]; exact hlt
          obtain ⟨b, o, rfl, c0⟩ := keyS_at (HKS.out.below HB.out) hk'
          have HBB := Lib.hid (HBx.out.trans (HB.out.mono HBx.out.size))
          have HSX := Lib.hid (HSA _ (HS.out.below HBB.out) rs[q]).out
          have hmem : rs[q] ∈ rs := List.getElem_mem hk'
          obtain ⟨i, hi2, h1, h2⟩ := seen_at (HAA.out _ hmem)
          rw [h1] at HSX
          have him : i < m := by rw [← HM.out]; exact hi2
          obtain ⟨b2, o2, rfl, hbl, _, hli⟩ := hasg_at HS.out hi2
          have HNA := fun w' (hb : Below w.heap.size w w') => Lib.hid (hli.below hb hbl).sn
          have HMY := fun w => Lib.hid (rmay_any l[i].v w)
          have HA2 : mayV l[i].v = true → ∀ x ∈ rs.take (q + 1), mayV (seenF l x) = true := fun hy x hx => by
            rw [List.take_add_one, List.getElem?_eq_getElem hk'] at hx
            rcases List.mem_append.1 hx with hx | hx
            · exact HA.out x hx
            · obtain rfl : x = rs[q] := by simpa using hx
              rw [← h2]; exact hy
          have HX2 : mayV l[i].v = false → runV p l = ([], 4) := fun hy => HR4.out _ hmem (by rw [← h2]; exact hy)
          clear hli hmem h1 h2
          generalize l[i] = y at *
          generalize rs[q] = x at *
          obtain ⟨yk, ⟨vk, vx, vt⟩, ya, yb, yc⟩ := y
          simp only at HNA HMY HA2 HX2
          cases hmy : mayV ⟨vk, vx, vt⟩ with
          | false =>
            rw [HX2 hmy]
            simp only [hmy] at HMY
            clear HA2 HX2 hmy
            go_wp2_with (first
              | (go_at_call 48; refine HSX.out.mono ?_; rintro e w3 ⟨rfl, hb⟩; have HB3 := Lib.hid (HBB.out.trans (hb.mono HBB.out.size)); clear hb; have c1 := (HNA _ HB3.out).out.c1; have c2 := (HNA _ HB3.out).out.c2; have c3 := (HNA _ HB3.out).out.c3; dsimp only at c1 c2 c3)
              | (go_at_call 33; refine (HMY _).out.mono ?_; rintro e w5 ⟨rfl, hb⟩; have HB5 := Lib.hid (HB3.out.trans (hb.mono HB3.out.size)); clear hb))
            go_ret2
            exact ⟨_, rfl, HB5.out, World.ownsRow_nil _ _ _ _⟩
          | true =>
            have HA3 := Lib.hid (HA2 hmy)
            simp only [hmy] at HMY
            clear HA2 HX2 hmy
            go_wp2_with (first
              | (go_at_call 48; refine HSX.out.mono ?_; rintro e w3 ⟨rfl, hb⟩; have HB3 := Lib.hid (HBB.out.trans (hb.mono HBB.out.size)); have HC3 := Lib.hid (HB.out.trans (hb.mono HB.out.size)); clear hb; have c1 := (HNA _ HB3.out).out.c1; have c2 := (HNA _ HB3.out).out.c2; have c3 := (HNA _ HB3.out).out.c3; dsimp only at c1 c2 c3)
              | (go_at_call 33; refine (HMY _).out.mono ?_; rintro e w5 ⟨rfl, hb⟩; have HC5 := Lib.hid (HC3.out.trans (hb.mono HC3.out.size)); clear hb))
            go_roundw
            case rel => exact ⟨q + 1, by go_num, by omega, HA3, HC5⟩
            case measure => simp [RowKit.intOf]; omega
        · obtain rfl : q = k := by omega
          have HAM : Hid (∀ x ∈ rs, mayV (seenF l x) = true) := Lib.hid (by
            have := HA.out
            rwa [List.take_of_length_le (by rw [HRN.out]; exact Nat.le_refl _)] at this)
          have HRV := Lib.hid (HR0.out HAM.out)
          have HBy := Lib.hid (HBx.out.trans (HB.out.mono HBx.out.size))
          clear HA HB HR4 HR0 HBx HKS HAM
          obtain ⟨w6, h9⟩ : ∃ w6, wr = w6 := ⟨_, rfl⟩
          rw [h9] at HBy
          rw [h9]
          clear h9
          have HRS : Hid (RunS w w6 (.slice none 0 0) (.slice none 0 0) [] []) := Lib.hid ⟨HBy.out, World.ownsRow_nil _ _ _ _, World.ownsRow_nil _ _ _ _⟩
          go_wp2
          go_loopw [10, 11, 12] (fun vo vst vi wr => ∃ (k : Nat) (st : List DV) (W : Ent DV), vi = .int .i64 (k : Int) ∧ k ≤ n ∧ Hid (Go1 p (seenF l) R k st W) ∧ Hid (RunS w wr vo vst W st)) (fun _ _ vi _ => n - (RowKit.intOf vi).toNat)
          case atStart => exact ⟨0, [], [], rfl, Nat.zero_le _, HG0, HRS⟩
          case round =>
            clear HRS HBy HG0
            obtain ⟨k, st, W, rfl, hk, HG, HRS⟩ := hrel
            by_cases hlt : k < n
            · have hk' : k < p.length := by rw [HN.out]; exact hlt
              obtain ⟨b, o, rfl, hb, _, hli⟩ := hasg_at HP.out hk'
              have HQ := Lib.hid (hli.below HRS.out.hb hb).op
              have hbad := badV_zero (HG.out.bad hk')
              have hgo := fun st' W' => Lib.hid (HG.out.go hk' HWP.out HF.out (st' := st') (W' := W'))
              have hno := fun x => Lib.hid (HG.out.no hk' (x := x))
              have hmr := HMR.out _ (List.getElem_mem hk')
              have hwr := HWP.out _ (List.getElem_mem hk')
              have HWS := Lib.hid HG.out.wfs
              have HRI := Lib.hid HG.out.ris
              have HLW := HG.out.len
              have hfew := HG.out.few
              clear hli hb
              generalize p[k] = r at *
              have r0 := HQ.out.c0; have r1 := HQ.out.c1; have r2 := HQ.out.c2; have r3 := HQ.out.c3; have r4 := HQ.out.c4
              have HOB := Lib.hid (obox_new wr r)
              have q0 := HOB.out.c0; have q1 := HOB.out.c1; have q2 := HOB.out.c2; have q3 := HOB.out.c3; have q4 := HOB.out.c4
              have HR1 := Lib.hid (HRS.out.below (below1 wr (oobj r)))
              obtain ⟨ao, co, rfl⟩ := own_sl HRS.out.ho
              obtain ⟨a2, c2, rfl⟩ := own_sl HRS.out.hs
              obtain ⟨M, hM⟩ : ∃ M, st.length = M := ⟨_, rfl⟩
              obtain ⟨NW, hNW⟩ : ∃ M, W.length = M := ⟨_, rfl⟩
              have HML := Lib.hid hM
              have HNW := Lib.hid hNW
              rw [hM] at hbad hfew HR1
              rw [hNW] at HR1 HLW
              rw [hM, hNW]
              have hok := ok_cases hbad.1
              have hpop := hbad.2.2.1
              have hpush := hbad.2.2.2
              clear hM hNW hbad HG HRS HQ
              obtain ⟨c, key, ⟨vk, vx, vt⟩⟩ := r
              simp only at hok hpop hpush hmr hgo hno hwr q0 q1 q2 q3 q4 r0 r1 r2 r3 r4
              have h9 : n ≤ 1000000 := by omega
              have hcc : c = 1 ∨ c = 2 ∨ c = 3 ∨ c = 4 ∨ c = 13 ∨ c = 14 ∨ c = 15 ∨ (5 ≤ c ∧ c ≤ 12) := by omega
              clear hok
              rcases hcc with rfl | rfl | rfl | rfl | rfl | rfl | rfl | hc
              · as_aux_lemma =>
                  obtain ⟨i, hi2, h1, h2⟩ := seen_at (HAA.out key (hmr rfl))
                  have HSX := fun w1 (hb : Below w.heap.size w w1) => Lib.hid (HSA _ (HS.out.below hb) key).out
                  rw [h1] at HSX
                  have him : i < m := by rw [← HM.out]; exact hi2
                  obtain ⟨b2, o2, rfl, hbl, _, hli⟩ := hasg_at HS.out hi2
                  have HNA := fun w' (hb : Below w.heap.size w w') => Lib.hid (hli.below hb hbl).sn
                  have HG2 := Lib.hid ((hgo _ _).out (step_one rfl))
                  simp only at HG2
                  rw [← h2] at HG2
                  clear hli h1 h2 hgo hno hmr
                  generalize l[i] = y at *
                  obtain ⟨yk, ⟨zk, zx, zs⟩, ya, yb, yc⟩ := y
                  simp only at HNA HG2
                  go_wp2_with (go_at_call 48; refine (HSX _ HR1.out.hb).out.mono ?_; rintro e w3 ⟨rfl, hb⟩; have HR3 := Lib.hid (HR1.out.below hb); have HOB3 := Lib.hid (HOB.out.below hb (by simp)); clear hb; have u1 := (HNA _ HR3.out.hb).out.c1; have u2 := (HNA _ HR3.out.hb).out.c2; have u3 := (HNA _ HR3.out.hb).out.c3; dsimp only at u1 u2 u3)
                  have hs3 := HR3.out.hb.size
                  have HSZ := Lib.hid HOB3.out.1
                  clear q0 q1 q2 q3 q4 r0 r1 r2 r3 r4 u1 u2 u3 HSX HNA HOB HR1
                  generalize wr.heap.size = ob at *
                  have HGW := Lib.hid (own_hasG wrC_len HR3.out.ho)
                  have HA0 := Lib.hid (at_new w3 ⟨zk, zx, zs⟩)
                  have HB0 := Lib.hid (below1 w3 (vobj ⟨zk, zx, zs⟩))
                  go_loopw [16] (fun vi wq => ∃ q2 : Nat, vi = .int .i64 (q2 : Int) ∧ q2 ≤ NW ∧ Hid (At wq w3.heap.size ((get (W.take q2) key).getD ⟨zk, zx, zs⟩)) ∧ Hid (Below w3.heap.size w3 wq)) (fun vi _ => NW - (RowKit.intOf vi).toNat)
                  case atStart => exact ⟨0, rfl, Nat.zero_le _, HA0, HB0⟩
                  case round =>
                    clear HA0 HB0
                    obtain ⟨q2, rfl, hq2, HV, HBq⟩ := hrel
                    by_cases hlt2 : q2 < NW
                    · have hqw : q2 < W.length := by rw [HNW.out]; exact hlt2
                      obtain ⟨b5, o5, rfl, hb5, _, hli5⟩ := hasg_at HGW.out hqw
                      have HWA := Lib.hid (hli5.below HBq.out hb5).wr
                      have HOq := Lib.hid (HOB3.out.below HBq.out HSZ.out)
                      have hyes := fun he => get_take_yes HRI.out hqw (s := key) he ⟨zk, zx, zs⟩
                      have hnot := fun he => get_take_no (W := W) hqw (s := key) he ⟨zk, zx, zs⟩
                      have hb6 := Nat.lt_of_lt_of_le hb5 HBq.out.size
                      have hs6 := Nat.lt_of_lt_of_le HSZ.out HBq.out.size
                      clear hli5
                      generalize W[q2] = x at *
                      obtain ⟨yk, ⟨y1, y2, y3⟩⟩ := x
                      have q1 := HOq.out.c1
                      have d0 := HWA.out.c0
                      simp only at q1 d0 hyes hnot
                      by_cases he : yk = key
                      · subst he
                        have HY := Lib.hid (hyes rfl)
                        clear hyes hnot
                        go_wp2
                        go_quiet (fail)
                        have HBq := Lib.hid (HBq.out.trans ((below_drewN wr nq).mono HBq.out.size))
                        have HWA := Lib.hid (HWA.out.below (below_drewN wr nq) hb6)
                        have HV := Lib.hid (HV.out.below (below_drewN wr nq) HV.out.lt)
                        clear HOq q1 d0 hb6 hs6
                        generalize wr.drewN nq = wq at *
                        have d1 := HWA.out.c1; have d2 := HWA.out.c2; have d3 := HWA.out.c3
                        have v0 := HV.out.c0; have v1 := HV.out.c1; have v2 := HV.out.c2; have v3 := HV.out.f0; have v4 := HV.out.f1; have v5 := HV.out.f2
                        simp only at d1 d2 d3
                        go_wp2
                        go_roundw
                        case rel => exact ⟨q2 + 1, by go_num, by omega, Lib.hid (by rw [HY.out]; exact HV.out.setAll ⟨y1, y2, y3⟩), Lib.hid (below_set3 HBq.out (Nat.le_refl _) _ _ _)⟩
                        case measure => simp [RowKit.intOf]; omega
                      · have HY := Lib.hid (hnot he)
                        have hne : (yk == key) = false := beq_eq_false_iff_ne.2 he
                        have hnd : decide (yk = key) = false := decide_eq_false he
                        clear hyes hnot he
                        go_wp2
                        go_quiet (fail)
                        have HBq := Lib.hid (HBq.out.trans ((below_drewN wr nq).mono HBq.out.size))
                        have HV := Lib.hid (HV.out.below (below_drewN wr nq) HV.out.lt)
                        clear HOq q1 d0 hb6 hs6 HWA
                        generalize wr.drewN nq = wq at *
                        go_wp2
                        go_roundw
                        case rel => exact ⟨q2 + 1, by go_num, by omega, Lib.hid (by rw [HY.out]; exact HV.out), HBq⟩
                        case measure => simp [RowKit.intOf]; omega
                    · obtain rfl : q2 = NW := by omega
                      have e : W.take q2 = W := List.take_of_length_le (by rw [HNW.out]; exact Nat.le_refl _)
                      rw [e] at HV
                      clear e
                      obtain ⟨fin, hfin⟩ : ∃ fin, (get W key).getD ⟨zk, zx, zs⟩ = fin := ⟨_, rfl⟩
                      rw [hfin] at HG2 HV
                      clear hfin
                      have HR5 := Lib.hid (HR3.out.below HBq.out)
                      obtain ⟨fk, fx, fs⟩ := fin
                      have v0 := HV.out.c0; have v1 := HV.out.c1; have v2 := HV.out.c2
                      simp only at v0 v1 v2
                      go_wp2_with (at_builtin; refine wpList_append_own _ rfl (.tmp 126) (.tmp 128) 80 rfl w.heap.size 48 iw (vagg DV.none) 3 32 under_vals hi hz0 hz1 hz2 rfl (by decide) _ _ _ rfl ((HR5.out.hsn HML.out).alloc _) ⟨wr.heap.size, 0, none⟩ 1 1 (dvC ⟨fk, fx, fs⟩) rfl rfl (cells_dv _ ⟨fk, fx, fs⟩ _ (by simp)) (one_dv _) (by unfold maxLen; omega) (by omega) (by have := HR5.out.hb.size; simp at this ⊢; omega) ?_; intro v2 w9 hown' hgrow _; have HO9 := Lib.hid hown'; have HG9 := Lib.hid hgrow; clear hown' hgrow)
                      have HR2 := Lib.hid ((HR5.out.below (below1 _ _)).push HML.out HO9.out HG9.out)
                      go_roundw
                      case rel => exact ⟨k + 1, st ++ [⟨fk, fx, fs⟩], W, by go_num, by omega, HG2, HR2⟩
                      case measure => simp [RowKit.intOf]; omega
              · as_aux_lemma =>
                  obtain ⟨m0, rfl⟩ : ∃ m0, M = m0 + 1 := ⟨M - 1, by have : 1 ≤ M := hpop; omega⟩
                  obtain ⟨g, cap, e, hca, hcm, hgl, hwg, hvt⟩ := stk_one (HR1.out.hsn HML.out) HML.out rfl
                  injection e with e1 e2 e3
                  subst e1 e3
                  clear e2
                  unfold maxLen at hcm
                  have HVT := Lib.hid hvt
                  have hpw : (pop1 st).wf := HWS.out _ (by
                    have e : pop1 st = st[m0]'(by have := HML.out; omega) := by
                      unfold pop1
                      rw [show st.length - 1 = m0 by have := HML.out; omega, List.getD_eq_getElem?_getD, List.getElem?_eq_getElem (by have := HML.out; omega)]
                      rfl
                    rw [e]; exact List.getElem_mem _)
                  have HRT : Hid (rest1 st = st.take m0) := Lib.hid (by unfold rest1; rw [HML.out]; rfl)
                  clear hvt
                  have HG2 := Lib.hid ((hgo _ _).out (step_two rfl))
                  have HPT := fun w1 (h : RunS w w1 (.slice ao NW co) (.slice (some ⟨g, 0, none⟩) (m0 + 1) c2) W st) => Lib.hid (rput_any (own_hasG wrC_len h.ho) (by rw [HNW.out]; omega) HRI.out key (pop1 st))
                  clear hgo hno hmr hpw
                  generalize pop1 st = x at *
                  obtain ⟨xk, xx, xs⟩ := x
                  have t0 := HVT.out.c0; have t1 := HVT.out.c1; have t2 := HVT.out.c2
                  simp only at HPT t0 t1 t2
                  obtain ⟨W1, hW1⟩ : ∃ W1, wr.alloc (oobj ⟨2, key, ⟨vk, vx, vt⟩⟩) = W1 := ⟨_, rfl⟩
                  have hsz : wr.heap.size < W1.heap.size := by rw [← hW1]; simp
                  have hgl2 : g < W1.heap.size := by rw [← hW1]; exact hgl
                  rw [hW1] at HR1 HOB HVT q0 q1 q2 q3 q4 t0 t1 t2
                  have hz1 : IntKind.i64.wrap ((m0 : Int) + 1 - 1) = (m0 : Int) := by rw [show (m0 : Int) + 1 - 1 = m0 by omega]; simp [IntKind.wrap, IntKind.signed, IntKind.bits]; omega
                  have hz2 : IntKind.i64.wrap (m0 : Int) = (m0 : Int) := by simp [IntKind.wrap, IntKind.signed, IntKind.bits]; omega
                  have hz3 : (m0 : Int) < (m0 : Int) + 1 := by omega
                  have hz4 : (0 : Int) ≤ (m0 : Int) := by omega
                  have hz5 : m0 < m0 + 1 := by omega
                  go_wp2_with fail
                  clear hW1
                  have HR1 := Lib.hid (HR1.out.below (Below.refl _ _).drew)
                  have HVT := Lib.hid (HVT.out.below (Below.refl W1.heap.size _).drew hgl2)
                  have HOB := Lib.hid (HOB.out.below (Below.refl W1.heap.size _).drew hsz)
                  have hsz' : wr.heap.size < W1.drew.heap.size := hsz
                  have hgl' : g < W1.drew.heap.size := hgl2
                  go_region_held (fun w' => w'.cell? ⟨wr.heap.size, 1, none⟩ = some (.string ⟨key.toArray⟩) ∧ w'.cell? ⟨g, m0 * 3, none⟩ = some (.int .i64 xk) ∧ w'.cell? ⟨g, m0 * 3 + 1, none⟩ = some (.float .f64 xx) ∧ w'.cell? ⟨g, m0 * 3 + 2, none⟩ = some (.string ⟨xs.toArray⟩)) (exact ⟨HOB.out.c1, HVT.out.c0, HVT.out.c1, HVT.out.c2⟩)
                    ((go_at_call 49; refine (HPT _ HR1.out).out.mono ?_; rintro e w2 ⟨u, rfl, hb, ho⟩; have HR2 := Lib.hid ((HR1.out.put hb ho).cut HML.out (k := m0) (by omega)); have HVT := Lib.hid (HVT.out.below hb hgl'); have HOB := Lib.hid (HOB.out.below hb hsz'); clear hb ho))
                  rw [HRT.out] at HG2
                  go_wp2
                  go_roundw
                  case rel => exact ⟨k + 1, st.take m0, put W key ⟨xk, xx, xs⟩, by go_num, by omega, HG2, HR2⟩
                  case measure => simp [RowKit.intOf]; omega
              · as_aux_lemma =>
                  have HG2 := Lib.hid ((hgo _ _).out (step_three rfl))
                  have HPT := fun w1 (h : RunS w w1 (.slice ao NW co) (.slice a2 M c2) W st) => Lib.hid (rput_any (own_hasG wrC_len h.ho) (by rw [HNW.out]; omega) HRI.out key DV.none)
                  clear hgo hno hmr
                  go_wp2_with (go_at_call 49; refine (HPT _ HR1.out).out.mono ?_; rintro e w2 ⟨u, rfl, hb, ho⟩; have HR2 := Lib.hid (HR1.out.put hb ho); clear hb ho)
                  go_roundw
                  case rel => exact ⟨k + 1, st, put W key DV.none, by go_num, by omega, HG2, HR2⟩
                  case measure => simp [RowKit.intOf]; omega
              · as_aux_lemma =>
                  have HG2 := Lib.hid ((hgo _ _).out (step_four rfl))
                  clear hgo hno hmr
                  go_wp2_with (at_builtin; refine wpList_append_own _ rfl (.tmp 161) (.tmp 164) 80 rfl w.heap.size 48 iw (vagg DV.none) 3 32 under_vals hi hz0 hz1 hz2 rfl (by decide) _ _ _ rfl ((HR1.out.hsn HML.out).alloc _) ⟨wr.heap.size + 1, 0, none⟩ 1 1 (dvC ⟨vk, vx, vt⟩) rfl rfl (cells_dv _ ⟨vk, vx, vt⟩ _ (by simp)) (one_dv _) (by unfold maxLen; omega) (by omega) (by have := HR1.out.hb.size; simp at this ⊢; omega) ?_; intro v2 w9 hown' hgrow _; have HO9 := Lib.hid hown'; have HG9 := Lib.hid hgrow; clear hown' hgrow)
                  have HR2 := Lib.hid ((HR1.out.below (below1 _ _)).push HML.out HO9.out HG9.out)
                  go_roundw
                  case rel => exact ⟨k + 1, st ++ [⟨vk, vx, vt⟩], W, by go_num, by omega, HG2, HR2⟩
                  case measure => simp [RowKit.intOf]; omega
              · as_aux_lemma =>
                  obtain ⟨m0, rfl⟩ : ∃ m0, M = m0 + 1 := ⟨M - 1, by have : 1 ≤ M := hpop; omega⟩
                  obtain ⟨g, cap, e, hca, hcm, hgl, hwg, hvt⟩ := stk_one (HR1.out.hsn HML.out) HML.out rfl
                  injection e with e1 e2 e3
                  subst e1 e3
                  clear e2
                  unfold maxLen at hcm
                  have HVT := Lib.hid hvt
                  have hpw : (pop1 st).wf := HWS.out _ (by
                    have e : pop1 st = st[m0]'(by have := HML.out; omega) := by
                      unfold pop1
                      rw [show st.length - 1 = m0 by have := HML.out; omega, List.getD_eq_getElem?_getD, List.getElem?_eq_getElem (by have := HML.out; omega)]
                      rfl
                    rw [e]; exact List.getElem_mem _)
                  have HRT : Hid (rest1 st = st.take m0) := Lib.hid (by unfold rest1; rw [HML.out]; rfl)
                  clear hvt
                  have HTR := fun w => Lib.hid (rtruth_any (pop1 st) hpw.2.1 w)
                  have hs1 : truthV (pop1 st) = true → stepV (seenF l) st W ⟨13, key, ⟨vk, vx, vt⟩⟩ = .go (rest1 st) W := fun h => by rw [step_need rfl, if_pos h]
                  have hs2 : truthV (pop1 st) = false → stepV (seenF l) st W ⟨13, key, ⟨vk, vx, vt⟩⟩ = .no 22 := fun h => by rw [step_need rfl, if_neg (by rw [h]; decide)]
                  cases htr : truthV (pop1 st) with
                  | false =>
                    have HX := Lib.hid ((hno 22).out (hs2 htr))
                    simp only [htr] at HTR
                    clear hgo hno hmr hpw hs1 hs2 htr
                    generalize pop1 st = x at *
                    obtain ⟨xk, xx, xs⟩ := x
                    have t0 := HVT.out.c0; have t1 := HVT.out.c1; have t2 := HVT.out.c2
                    simp only at HTR t0 t1 t2
                    go_wp2_with (go_at_call 50; refine (HTR _).out.mono ?_; rintro e w2 ⟨rfl, hb⟩; have HR2 := Lib.hid (HR1.out.below hb); clear hb)
                    have HRV := Lib.hid (HRV.out.trans (by rw [HX.out] : outV R = outV (.no 22)))
                    go_ret2
                    rw [HRV.out]
                    exact ⟨_, rfl, HR2.out.hb, World.ownsRow_nil _ _ _ _⟩
                  | true =>
                    have HG2 := Lib.hid ((hgo _ _).out (hs1 htr))
                    rw [HRT.out] at HG2
                    simp only [htr] at HTR
                    clear hgo hno hmr hpw hs1 hs2 htr
                    generalize pop1 st = x at *
                    obtain ⟨xk, xx, xs⟩ := x
                    have t0 := HVT.out.c0; have t1 := HVT.out.c1; have t2 := HVT.out.c2
                    simp only at HTR t0 t1 t2
                    go_wp2_with (go_at_call 50; refine (HTR _).out.mono ?_; rintro e w2 ⟨rfl, hb⟩; have HR2 := Lib.hid ((HR1.out.below hb).cut HML.out (k := m0) (by omega)); clear hb)
                    go_roundw
                    case rel => exact ⟨k + 1, st.take m0, W, by go_num, by omega, HG2, HR2⟩
                    case measure => simp [RowKit.intOf]; omega
              · as_aux_lemma =>
                  obtain ⟨m0, rfl⟩ : ∃ m0, M = m0 + 1 := ⟨M - 1, by have : 1 ≤ M := hpop; omega⟩
                  obtain ⟨g, cap, e, hca, hcm, hgl, hwg, hvt⟩ := stk_one (HR1.out.hsn HML.out) HML.out rfl
                  injection e with e1 e2 e3
                  subst e1 e3
                  clear e2
                  unfold maxLen at hcm
                  have HVT := Lib.hid hvt
                  have hpw : (pop1 st).wf := HWS.out _ (by
                    have e : pop1 st = st[m0]'(by have := HML.out; omega) := by
                      unfold pop1
                      rw [show st.length - 1 = m0 by have := HML.out; omega, List.getD_eq_getElem?_getD, List.getElem?_eq_getElem (by have := HML.out; omega)]
                      rfl
                    rw [e]; exact List.getElem_mem _)
                  have HRT : Hid (rest1 st = st.take m0) := Lib.hid (by unfold rest1; rw [HML.out]; rfl)
                  clear hvt
                  have HG2 := Lib.hid ((hgo _ _).out (step_dup rfl))
                  rw [dup_eq (by have := HML.out; omega)] at HG2
                  clear hgo hno hmr hpw
                  generalize pop1 st = x at *
                  obtain ⟨xk, xx, xs⟩ := x
                  have t0 := HVT.out.c0; have t1 := HVT.out.c1; have t2 := HVT.out.c2
                  simp only at t0 t1 t2
                  go_wp2_with (at_builtin; refine wpList_append_own _ rfl (.tmp 185) (.tmp 191) 80 rfl w.heap.size 48 iw (vagg DV.none) 3 32 under_vals hi hz0 hz1 hz2 rfl (by decide) _ _ _ rfl ((HR1.out.hsn HML.out).alloc _) ⟨wr.heap.size + 1, 0, none⟩ 1 1 (dvC ⟨xk, xx, xs⟩) rfl rfl (cells_dv _ ⟨xk, xx, xs⟩ _ (by simp)) (one_dv _) (by unfold maxLen; omega) (by omega) (by have := HR1.out.hb.size; simp at this ⊢; omega) ?_; intro v2 w9 hown' hgrow _; have HO9 := Lib.hid hown'; have HG9 := Lib.hid hgrow; clear hown' hgrow)
                  have HR2 := Lib.hid ((HR1.out.below (below1 _ _)).push HML.out HO9.out HG9.out)
                  go_roundw
                  case rel => exact ⟨k + 1, st ++ [⟨xk, xx, xs⟩], W, by go_num, by omega, HG2, HR2⟩
                  case measure => simp [RowKit.intOf]; omega
              · as_aux_lemma =>
                  obtain ⟨m0, m1, hm1, hmM⟩ : ∃ m0 m1, m1 = m0 + 1 ∧ M = m0 + 2 := ⟨M - 2, M - 1, by have : 2 ≤ M := hpop; omega, by have : 2 ≤ M := hpop; omega⟩
                  obtain ⟨g, cap, e, hca, hcm, hgl, hwg, hvt⟩ := stk_one (HR1.out.hsn HML.out) HML.out (m := m1) (by omega)
                  injection e with e1 e2 e3
                  subst e1 e3
                  clear e2
                  have hv2 := stk_two (HR1.out.hsn HML.out) HML.out hmM
                  unfold maxLen at hcm
                  have HVT := Lib.hid hvt
                  have HV2 := Lib.hid hv2
                  have hpw : (pop1 st).wf := HWS.out _ (by
                    have e : pop1 st = st[m1]'(by have := HML.out; omega) := by
                      unfold pop1
                      rw [show st.length - 1 = m1 by have := HML.out; omega, List.getD_eq_getElem?_getD, List.getElem?_eq_getElem (by have := HML.out; omega)]
                      rfl
                    rw [e]; exact List.getElem_mem _)
                  have hpw2 : (pop2 st).wf := HWS.out _ (by
                    have e : pop2 st = st[m0]'(by have := HML.out; omega) := by
                      unfold pop2
                      rw [show st.length - 2 = m0 by have := HML.out; omega, List.getD_eq_getElem?_getD, List.getElem?_eq_getElem (by have := HML.out; omega)]
                      rfl
                    rw [e]; exact List.getElem_mem _)
                  have HRT : Hid (rest2 st = st.take m0) := Lib.hid (by unfold rest2; rw [HML.out, hmM]; rfl)
                  have hy1 : IntKind.i64.wrap ((M : Int) - 1) = (m1 : Int) := by rw [IntWalk.i64_in _ (by omega)]; omega
                  have hy2 : IntKind.i64.wrap ((M : Int) - 2) = (m0 : Int) := by rw [IntWalk.i64_in _ (by omega)]; omega
                  have hy3 : m0 < M := by omega
                  have hy4 : m1 < M := by omega
                  have hmc : m0 ≤ c2 := by omega
                  have HMM := Lib.hid hmM
                  have HM1 := Lib.hid hm1
                  clear hvt hv2 hmM hm1 hpop hpush
                  have HG2 := Lib.hid ((hgo _ _).out (step_swap rfl))
                  rw [← set_two (m := m0) (by rw [HML.out, HMM.out])] at HG2
                  rw [← HM1.out] at HG2
                  clear hgo hno hmr hpw hpw2
                  generalize pop1 st = x at *
                  generalize pop2 st = y at *
                  obtain ⟨xk, xx, xs⟩ := x
                  obtain ⟨yk, yx, ys⟩ := y
                  have t0 := HVT.out.c0; have t1 := HVT.out.c1; have t2 := HVT.out.c2
                  have s0 := HV2.out.c0; have s1 := HV2.out.c1; have s2 := HV2.out.c2
                  simp only at t0 t1 t2 s0 s1 s2
                  obtain ⟨W1, hW1⟩ : ∃ W1, wr.alloc (oobj ⟨15, key, ⟨vk, vx, vt⟩⟩) = W1 := ⟨_, rfl⟩
                  have hsz : wr.heap.size < W1.heap.size := by rw [← hW1]; simp
                  have hgl2 : g < W1.heap.size := by rw [← hW1]; exact hgl
                  rw [hW1] at HR1 HOB HVT HV2 q0 q1 q2 q3 q4 t0 t1 t2 s0 s1 s2
                  go_wp2_with fail
                  clear hW1
                  have HR1 := Lib.hid (HR1.out.below (Below.refl _ _).drew)
                  have HVT := Lib.hid (HVT.out.below (Below.refl W1.heap.size _).drew hgl2)
                  have HV2 := Lib.hid (HV2.out.below (Below.refl W1.heap.size _).drew hgl2)
                  refine wp_region_any (by kernel_rfl) ?_
                  change wpAny _ _ _ _ _ _ _ (World.drew _)
                  generalize W1.drew = W2 at *
                  clear q0 q1 q2 q3 q4 t0 t1 t2 s0 s1 s2 HOB
                  have t0 := HVT.out.c0; have t1 := HVT.out.c1; have t2 := HVT.out.c2; have t3 := HVT.out.f0; have t4 := HVT.out.f1; have t5 := HVT.out.f2
                  have s0 := HV2.out.c0; have s1 := HV2.out.c1; have s2 := HV2.out.c2
                  simp only at t0 t1 t2 s0 s1 s2
                  refine wpAny_take (i := 0) (v := ?vpa_0) rfl (by kernel_rfl) (by kernel_rfl) (by kernel_rfl) (fun _ _ _ h => h) (Or.inl ⟨by rfl, ?ypa_0⟩) ?rpa_0
                  case ypa_0 => first | (intro W; go_simp; done) | (intro W; go_simp; with_reducible rfl)
                  go_simp
                  refine wpAny_take (i := 1) (v := ?vpa_1) rfl (by kernel_rfl) (by kernel_rfl) (by kernel_rfl) (fun _ _ _ h => h) (Or.inl ⟨by rfl, ?ypa_1⟩) ?rpa_1
                  case ypa_1 => first | (intro W; go_simp; done) | (intro W; go_simp; with_reducible rfl)
                  go_simp
                  refine wpAny_take (i := 2) (v := ?vpa_2) rfl (by kernel_rfl) (by kernel_rfl) (by kernel_rfl) (fun _ _ _ h => h) (Or.inl ⟨by rfl, ?ypa_2⟩) ?rpa_2
                  case ypa_2 => first | (intro W; go_simp; done) | (intro W; go_simp; with_reducible rfl)
                  go_simp
                  refine wpAny_take (i := 3) (v := ?vpa_3) rfl (by kernel_rfl) (by kernel_rfl) (by kernel_rfl) (fun _ _ _ h => h) (Or.inl ⟨by rfl, ?ypa_3⟩) ?rpa_3
                  case ypa_3 => first | (intro W; go_simp; done) | (intro W; go_simp; with_reducible rfl)
                  go_simp
                  refine wpAny_take (i := 4) (v := ?vpa_4) rfl (by kernel_rfl) (by kernel_rfl) (by kernel_rfl) (fun _ _ _ h => h) (Or.inl ⟨by rfl, ?ypa_4⟩) ?rpa_4
                  case ypa_4 => first | (intro W; go_simp; done) | (intro W; go_simp; with_reducible rfl)
                  go_simp
                  refine wpAny_take (i := 5) (v := ?vpa_5) rfl (by kernel_rfl) (by kernel_rfl) (by kernel_rfl) (fun _ _ _ h => h) (Or.inl ⟨by rfl, ?ypa_5⟩) ?rpa_5
                  case ypa_5 => first | (intro W; go_simp; done) | (intro W; go_simp; with_reducible rfl)
                  go_simp
                  refine wpAny_take (i := 6) (v := ?vpa_6) rfl (by kernel_rfl) (by kernel_rfl) (by kernel_rfl) (fun _ _ _ h => h) (Or.inl ⟨by rfl, ?ypa_6⟩) ?rpa_6
                  case ypa_6 => first | (intro W; go_simp; done) | (intro W; go_simp; with_reducible rfl)
                  go_simp
                  refine wpAny_take (i := 7) (v := ?vpa_7) rfl (by kernel_rfl) (by kernel_rfl) (by kernel_rfl) (fun _ _ _ h => h) (Or.inl ⟨by rfl, ?ypa_7⟩) ?rpa_7
                  case ypa_7 => first | (intro W; go_simp; done) | (intro W; go_simp; with_reducible rfl)
                  go_simp
                  refine wpAny_take (i := 8) (v := ?vpa_8) rfl (by kernel_rfl) (by kernel_rfl) (by kernel_rfl) (fun _ _ _ h => h) (Or.inl ⟨by rfl, ?ypa_8⟩) ?rpa_8
                  case ypa_8 => first | (intro W; go_simp; done) | (intro W; go_simp; with_reducible rfl)
                  go_simp
                  refine wpAny_take (i := 9) (v := ?vpa_9) rfl (by kernel_rfl) (by kernel_rfl) (by kernel_rfl) (fun _ _ _ h => h) (Or.inl ⟨by rfl, ?ypa_9⟩) ?rpa_9
                  case ypa_9 => first | (intro W; go_simp; done) | (intro W; go_simp; with_reducible rfl)
                  go_simp
                  refine wpAny_take (i := 11) (v := ?vpa_11) rfl (by kernel_rfl) (by kernel_rfl) (by kernel_rfl) (fun _ _ _ h => h) (Or.inl ⟨by rfl, ?ypa_11⟩) ?rpa_11
                  case ypa_11 => first | (intro W; go_simp; done) | (intro W; go_simp; with_reducible rfl)
                  go_simp
                  refine wpAny_take (i := 12) (v := ?vpa_12) rfl (by kernel_rfl) (by kernel_rfl) (by kernel_rfl) (fun _ _ _ h => h) (Or.inl ⟨by rfl, ?ypa_12⟩) ?rpa_12
                  case ypa_12 => first | (intro W; go_simp; done) | (intro W; go_simp; with_reducible rfl)
                  go_simp
                  refine wpAny_take (i := 13) (v := ?vpa_13) rfl (by kernel_rfl) (by kernel_rfl) (by kernel_rfl) (fun _ _ _ h => h) (Or.inl ⟨by rfl, ?ypa_13⟩) ?rpa_13
                  case ypa_13 => first | (intro W; go_simp; done) | (intro W; go_simp; with_reducible rfl)
                  go_simp
                  refine wpAny_take (i := 14) (v := ?vpa_14) rfl (by kernel_rfl) (by kernel_rfl) (by kernel_rfl) (fun _ _ _ h => h) (Or.inl ⟨by rfl, ?ypa_14⟩) ?rpa_14
                  case ypa_14 => first | (intro W; go_simp; done) | (intro W; go_simp; with_reducible rfl)
                  go_simp
                  refine wpAny_ready (rs := [10, 15]) (by kernel_rfl) (by simp) ?_
                  refine AllReady.cons rfl (fun K hK => ?_) (AllReady.cons rfl (fun K hK => ?_) (AllReady.nil))
                  · go_simp
                    go_wp2_with (first | fail)
                    refine wpAny_ready (rs := [15]) (by kernel_rfl) (by simp) ?_
                    refine AllReady.cons rfl (fun K hK => ?_) (AllReady.nil)
                    go_simp
                    go_wp2_with (first | fail)
                    refine wpAny_take (i := 16) (v := ?vpb10_16) rfl (by kernel_rfl) (by kernel_rfl) (by kernel_rfl) (fun _ _ _ h => h) (Or.inl ⟨by rfl, ?ypb10_16⟩) ?rpb10_16
                    case ypb10_16 => first | (intro W; go_simp; done) | (intro W; go_simp; with_reducible rfl)
                    go_simp
                    refine wpAny_ready (rs := [17]) (by kernel_rfl) (by simp) ?_
                    refine AllReady.cons rfl (fun K hK => ?_) (AllReady.nil)
                    go_simp
                    go_wp2_with (first | fail)
                    have hl2 : (st.set m1 ⟨yk, yx, ys⟩).length = M := by rw [List.length_set]; exact HML.out
                    have HR3 := Lib.hid (show RunS w (((W2.setCell ⟨g, m1 * 3, none⟩ (.int .i64 yk)).setCell ⟨g, m1 * 3 + 1, none⟩ (.float .f64 yx)).setCell ⟨g, m1 * 3 + 2, none⟩ (.string ⟨ys.toArray⟩)) (.slice ao NW co) (.slice (some ⟨g, 0, none⟩) M c2) W (st.set m1 ⟨yk, yx, ys⟩) from HR1.out.set HML.out (j := m1) hy4 ⟨yk, yx, ys⟩)
                    have HV3 := own_vat (HR3.out.hsn hl2) (j := m0) (by first | exact hy3 | (rw [hl2]; exact hy3))
                    generalize (((W2.setCell ⟨g, m1 * 3, none⟩ (.int .i64 yk)).setCell ⟨g, m1 * 3 + 1, none⟩ (.float .f64 yx)).setCell ⟨g, m1 * 3 + 2, none⟩ (.string ⟨ys.toArray⟩)) = W3 at *
                    generalize (st.set m1 ⟨yk, yx, ys⟩)[m0] = z at *
                    obtain ⟨zk, zx, zs⟩ := z
                    clear t0 t1 t2 t3 t4 t5 s0 s1 s2 HVT HV2
                    obtain ⟨s0, s1, s2, f0, f1, f2⟩ := HV3
                    simp only at s0 s1 s2
                    refine wpAny_take (i := 18) (v := ?vpc10_18) rfl (by kernel_rfl) (by kernel_rfl) (by kernel_rfl) (fun _ _ _ h => h) (Or.inl ⟨by rfl, ?ypc10_18⟩) ?rpc10_18
                    case ypc10_18 => first | (intro W; go_simp; done) | (intro W; go_simp; with_reducible rfl)
                    go_simp
                    refine wpAny_ready (rs := [19]) (by kernel_rfl) (by simp) ?_
                    refine AllReady.cons rfl (fun K hK => ?_) (AllReady.nil)
                    go_simp
                    go_wp2_with (first | fail)
                    refine wpAny_done (by kernel_rfl) ?_ _
                    have HR2 := Lib.hid (HR3.out.set hl2 (j := m0) (by first | exact hy3 | (rw [hl2]; exact hy3)) ⟨xk, xx, xs⟩)
                    clear s0 s1 s2 f0 f1 f2
                    go_wp2
                    go_roundw
                    case rel => exact ⟨k + 1, (st.set m1 ⟨yk, yx, ys⟩).set m0 ⟨xk, xx, xs⟩, W, by go_num, by omega, HG2, HR2⟩
                    case measure => simp [RowKit.intOf]; omega
                  · go_simp
                    go_wp2_with (first | fail)
                    refine wpAny_ready (rs := [10]) (by kernel_rfl) (by simp) ?_
                    refine AllReady.cons rfl (fun K hK => ?_) (AllReady.nil)
                    go_simp
                    go_wp2_with (first | fail)
                    refine wpAny_take (i := 16) (v := ?vpb15_16) rfl (by kernel_rfl) (by kernel_rfl) (by kernel_rfl) (fun _ _ _ h => h) (Or.inl ⟨by rfl, ?ypb15_16⟩) ?rpb15_16
                    case ypb15_16 => first | (intro W; go_simp; done) | (intro W; go_simp; with_reducible rfl)
                    go_simp
                    refine wpAny_ready (rs := [17]) (by kernel_rfl) (by simp) ?_
                    refine AllReady.cons rfl (fun K hK => ?_) (AllReady.nil)
                    go_simp
                    go_wp2_with (first | fail)
                    have hl2 : (st.set m1 ⟨yk, yx, ys⟩).length = M := by rw [List.length_set]; exact HML.out
                    have HR3 := Lib.hid (show RunS w (((W2.setCell ⟨g, m1 * 3, none⟩ (.int .i64 yk)).setCell ⟨g, m1 * 3 + 1, none⟩ (.float .f64 yx)).setCell ⟨g, m1 * 3 + 2, none⟩ (.string ⟨ys.toArray⟩)) (.slice ao NW co) (.slice (some ⟨g, 0, none⟩) M c2) W (st.set m1 ⟨yk, yx, ys⟩) from HR1.out.set HML.out (j := m1) hy4 ⟨yk, yx, ys⟩)
                    have HV3 := own_vat (HR3.out.hsn hl2) (j := m0) (by first | exact hy3 | (rw [hl2]; exact hy3))
                    generalize (((W2.setCell ⟨g, m1 * 3, none⟩ (.int .i64 yk)).setCell ⟨g, m1 * 3 + 1, none⟩ (.float .f64 yx)).setCell ⟨g, m1 * 3 + 2, none⟩ (.string ⟨ys.toArray⟩)) = W3 at *
                    generalize (st.set m1 ⟨yk, yx, ys⟩)[m0] = z at *
                    obtain ⟨zk, zx, zs⟩ := z
                    clear t0 t1 t2 t3 t4 t5 s0 s1 s2 HVT HV2
                    obtain ⟨s0, s1, s2, f0, f1, f2⟩ := HV3
                    simp only at s0 s1 s2
                    refine wpAny_take (i := 18) (v := ?vpc15_18) rfl (by kernel_rfl) (by kernel_rfl) (by kernel_rfl) (fun _ _ _ h => h) (Or.inl ⟨by rfl, ?ypc15_18⟩) ?rpc15_18
                    case ypc15_18 => first | (intro W; go_simp; done) | (intro W; go_simp; with_reducible rfl)
                    go_simp
                    refine wpAny_ready (rs := [19]) (by kernel_rfl) (by simp) ?_
                    refine AllReady.cons rfl (fun K hK => ?_) (AllReady.nil)
                    go_simp
                    go_wp2_with (first | fail)
                    refine wpAny_done (by kernel_rfl) ?_ _
                    have HR2 := Lib.hid (HR3.out.set hl2 (j := m0) (by first | exact hy3 | (rw [hl2]; exact hy3)) ⟨xk, xx, xs⟩)
                    clear s0 s1 s2 f0 f1 f2
                    go_wp2
                    go_roundw
                    case rel => exact ⟨k + 1, (st.set m1 ⟨yk, yx, ys⟩).set m0 ⟨xk, xx, xs⟩, W, by go_num, by omega, HG2, HR2⟩
                    case measure => simp [RowKit.intOf]; omega
              · as_aux_lemma =>
                  have hpop : 2 ≤ M := by
                    have e : popC c = 2 := by unfold popC; rw [if_neg (by omega), if_neg (by omega)]
                    rw [e] at hpop; exact hpop
                  have n1 : (c == 1) = false := beq_eq_false_iff_ne.2 (by omega)
                  have n2 : (c == 2) = false := beq_eq_false_iff_ne.2 (by omega)
                  have n3 : (c == 3) = false := beq_eq_false_iff_ne.2 (by omega)
                  have n4 : (c == 4) = false := beq_eq_false_iff_ne.2 (by omega)
                  have n13 : (c == 13) = false := beq_eq_false_iff_ne.2 (by omega)
                  have n14 : (c == 14) = false := beq_eq_false_iff_ne.2 (by omega)
                  have n15 : (c == 15) = false := beq_eq_false_iff_ne.2 (by omega)
                  obtain ⟨m0, m1, hm1, hmM⟩ : ∃ m0 m1, m1 = m0 + 1 ∧ M = m0 + 2 := ⟨M - 2, M - 1, by have : 2 ≤ M := hpop; omega, by have : 2 ≤ M := hpop; omega⟩
                  obtain ⟨g, cap, e, hca, hcm, hgl, hwg, hvt⟩ := stk_one (HR1.out.hsn HML.out) HML.out (m := m1) (by omega)
                  injection e with e1 e2 e3
                  subst e1 e3
                  clear e2
                  have hv2 := stk_two (HR1.out.hsn HML.out) HML.out hmM
                  unfold maxLen at hcm
                  have HVT := Lib.hid hvt
                  have HV2 := Lib.hid hv2
                  have hpw : (pop1 st).wf := HWS.out _ (by
                    have e : pop1 st = st[m1]'(by have := HML.out; omega) := by
                      unfold pop1
                      rw [show st.length - 1 = m1 by have := HML.out; omega, List.getD_eq_getElem?_getD, List.getElem?_eq_getElem (by have := HML.out; omega)]
                      rfl
                    rw [e]; exact List.getElem_mem _)
                  have hpw2 : (pop2 st).wf := HWS.out _ (by
                    have e : pop2 st = st[m0]'(by have := HML.out; omega) := by
                      unfold pop2
                      rw [show st.length - 2 = m0 by have := HML.out; omega, List.getD_eq_getElem?_getD, List.getElem?_eq_getElem (by have := HML.out; omega)]
                      rfl
                    rw [e]; exact List.getElem_mem _)
                  have HRT : Hid (rest2 st = st.take m0) := Lib.hid (by unfold rest2; rw [HML.out, hmM]; rfl)
                  have hy1 : IntKind.i64.wrap ((M : Int) - 1) = (m1 : Int) := by rw [IntWalk.i64_in _ (by omega)]; omega
                  have hy2 : IntKind.i64.wrap ((M : Int) - 2) = (m0 : Int) := by rw [IntWalk.i64_in _ (by omega)]; omega
                  have hy3 : m0 < M := by omega
                  have hy4 : m1 < M := by omega
                  have hmc : m0 ≤ c2 := by omega
                  have HMM := Lib.hid hmM
                  have HM1 := Lib.hid hm1
                  clear hvt hv2 hmM hm1 hpop hpush
                  have HRK := fun w => Lib.hid (reckons_any c hc.1 hc.2 (pop2 st) (pop1 st) hpw2 hpw w)
                  have hs1 := fun (h : (reckV c (pop2 st) (pop1 st)).2 = 0) => (step_reck (f := seenF l) (st := st) (wr := W) (o := ⟨c, key, ⟨vk, vx, vt⟩⟩) hc.1 hc.2).trans (if_pos h)
                  have hs2 := fun (h : ¬ (reckV c (pop2 st) (pop1 st)).2 = 0) => (step_reck (f := seenF l) (st := st) (wr := W) (o := ⟨c, key, ⟨vk, vx, vt⟩⟩) hc.1 hc.2).trans (if_neg h)
                  simp only at hs1 hs2
                  obtain ⟨rv, hrv⟩ : ∃ rv, reckV c (pop2 st) (pop1 st) = rv := ⟨_, rfl⟩
                  rw [hrv] at hs1 hs2
                  simp only [hrv] at HRK
                  clear hrv hmr hpw hpw2
                  generalize pop1 st = x at *
                  generalize pop2 st = y at *
                  obtain ⟨⟨rk, rx, rs'⟩, f⟩ := rv
                  obtain ⟨xk, xx, xs⟩ := x
                  obtain ⟨yk, yx, ys⟩ := y
                  have t0 := HVT.out.c0; have t1 := HVT.out.c1; have t2 := HVT.out.c2
                  have s0 := HV2.out.c0; have s1 := HV2.out.c1; have s2 := HV2.out.c2
                  simp only at t0 t1 t2 s0 s1 s2 HRK hs1 hs2
                  obtain ⟨W1, hW1⟩ : ∃ W1, wr.alloc (oobj ⟨c, key, ⟨vk, vx, vt⟩⟩) = W1 := ⟨_, rfl⟩
                  have hsz : wr.heap.size < W1.heap.size := by rw [← hW1]; simp
                  have hgl2 : g < W1.heap.size := by rw [← hW1]; exact hgl
                  rw [hW1] at HR1 HOB HVT HV2 q0 q1 q2 q3 q4 t0 t1 t2 s0 s1 s2
                  have HS1 := Lib.hid hs1
                  have HS2 := Lib.hid hs2
                  clear hs1 hs2
                  go_upto_region 22 with (fail)
                  go_cut [17, 18] from 57 to 214 (fun va vb wx => ∃ xb, va = .pointer (some ⟨xb, 0, none⟩) ∧ vb = .int .i64 f ∧ Hid (RunS w wx (.slice ao NW co) (.slice (some ⟨g, 0, none⟩) M c2) W st) ∧ Hid (At wx xb ⟨rk, rx, rs'⟩))
                  case first => as_aux_lemma =>
                    clear hW1 HS1 HS2 hgo hno
                    have HR1 := Lib.hid (HR1.out.below (Below.refl _ _).drew)
                    have HVT := Lib.hid (HVT.out.below (Below.refl W1.heap.size _).drew hgl2)
                    have HV2 := Lib.hid (HV2.out.below (Below.refl W1.heap.size _).drew hgl2)
                    have HOB := Lib.hid (HOB.out.below (Below.refl W1.heap.size _).drew hsz)
                    have hsz' : wr.heap.size < W1.drew.heap.size := hsz
                    have hgl' : g < W1.drew.heap.size := hgl2
                    clear q0 q1 q2 q3 q4 t0 t1 t2 s0 s1 s2 hsz hgl2
                    refine wp_region_held (S := (fun w' => w'.cell? ⟨wr.heap.size, 0, none⟩ = some (.int .i64 c) ∧ w'.cell? ⟨g, m0 * 3, none⟩ = some (.int .i64 yk) ∧ w'.cell? ⟨g, m0 * 3 + 1, none⟩ = some (.float .f64 yx) ∧ w'.cell? ⟨g, m0 * 3 + 2, none⟩ = some (.string ⟨ys.toArray⟩) ∧ w'.cell? ⟨g, m1 * 3, none⟩ = some (.int .i64 xk) ∧ w'.cell? ⟨g, m1 * 3 + 1, none⟩ = some (.float .f64 xx) ∧ w'.cell? ⟨g, m1 * 3 + 2, none⟩ = some (.string ⟨xs.toArray⟩))) (by kernel_rfl) ?_
                    change wpAnyH _ _ _ _ _ _ _ _ (World.drew _)
                    generalize W1.drew = W2 at *
                    refine wpAnyH_take (i := 0) (v := ?vza_0) rfl (by kernel_rfl) (by kernel_rfl) (by kernel_rfl) (fun _ _ _ h => h) (Or.inl ⟨by rfl, ?yza_0⟩) ⟨HOB.out.c0, HV2.out.c0, HV2.out.c1, HV2.out.c2, HVT.out.c0, HVT.out.c1, HVT.out.c2⟩ ?rza_0
                    case yza_0 => (intro W hSw; (try dsimp only at hSw); obtain ⟨e0, e1, e2, e3, e4, e5, e6⟩ := hSw; first | (go_simp; done) | (go_simp; with_reducible rfl))
                    try go_simp
                    refine wpAnyH_take (i := 1) (v := ?vza_1) rfl (by kernel_rfl) (by kernel_rfl) (by kernel_rfl) (fun _ _ _ h => h) (Or.inl ⟨by rfl, ?yza_1⟩) ⟨HOB.out.c0, HV2.out.c0, HV2.out.c1, HV2.out.c2, HVT.out.c0, HVT.out.c1, HVT.out.c2⟩ ?rza_1
                    case yza_1 => (intro W hSw; (try dsimp only at hSw); obtain ⟨e0, e1, e2, e3, e4, e5, e6⟩ := hSw; first | (go_simp; done) | (go_simp; with_reducible rfl))
                    try go_simp
                    refine wpAnyH_take (i := 2) (v := ?vza_2) rfl (by kernel_rfl) (by kernel_rfl) (by kernel_rfl) (fun _ _ _ h => h) (Or.inl ⟨by rfl, ?yza_2⟩) ⟨HOB.out.c0, HV2.out.c0, HV2.out.c1, HV2.out.c2, HVT.out.c0, HVT.out.c1, HVT.out.c2⟩ ?rza_2
                    case yza_2 => (intro W hSw; (try dsimp only at hSw); obtain ⟨e0, e1, e2, e3, e4, e5, e6⟩ := hSw; first | (go_simp; done) | (go_simp; with_reducible rfl))
                    try go_simp
                    refine wpAnyH_take (i := 3) (v := ?vza_3) rfl (by kernel_rfl) (by kernel_rfl) (by kernel_rfl) (fun _ _ _ h => h) (Or.inl ⟨by rfl, ?yza_3⟩) ⟨HOB.out.c0, HV2.out.c0, HV2.out.c1, HV2.out.c2, HVT.out.c0, HVT.out.c1, HVT.out.c2⟩ ?rza_3
                    case yza_3 => (intro W hSw; (try dsimp only at hSw); obtain ⟨e0, e1, e2, e3, e4, e5, e6⟩ := hSw; first | (go_simp; done) | (go_simp; with_reducible rfl))
                    try go_simp
                    refine wpAnyH_take (i := 4) (v := ?vza_4) rfl (by kernel_rfl) (by kernel_rfl) (by kernel_rfl) (fun _ _ _ h => h) (Or.inl ⟨by rfl, ?yza_4⟩) ⟨HOB.out.c0, HV2.out.c0, HV2.out.c1, HV2.out.c2, HVT.out.c0, HVT.out.c1, HVT.out.c2⟩ ?rza_4
                    case yza_4 => (intro W hSw; (try dsimp only at hSw); obtain ⟨e0, e1, e2, e3, e4, e5, e6⟩ := hSw; first | (go_simp; done) | (go_simp; with_reducible rfl))
                    try go_simp
                    refine wpAnyH_take (i := 5) (v := ?vza_5) rfl (by kernel_rfl) (by kernel_rfl) (by kernel_rfl) (fun _ _ _ h => h) (Or.inl ⟨by rfl, ?yza_5⟩) ⟨HOB.out.c0, HV2.out.c0, HV2.out.c1, HV2.out.c2, HVT.out.c0, HVT.out.c1, HVT.out.c2⟩ ?rza_5
                    case yza_5 => (intro W hSw; (try dsimp only at hSw); obtain ⟨e0, e1, e2, e3, e4, e5, e6⟩ := hSw; first | (go_simp; done) | (go_simp; with_reducible rfl))
                    try go_simp
                    refine wpAnyH_take (i := 6) (v := ?vza_6) rfl (by kernel_rfl) (by kernel_rfl) (by kernel_rfl) (fun _ _ _ h => h) (Or.inl ⟨by rfl, ?yza_6⟩) ⟨HOB.out.c0, HV2.out.c0, HV2.out.c1, HV2.out.c2, HVT.out.c0, HVT.out.c1, HVT.out.c2⟩ ?rza_6
                    case yza_6 => (intro W hSw; (try dsimp only at hSw); obtain ⟨e0, e1, e2, e3, e4, e5, e6⟩ := hSw; first | (go_simp; done) | (go_simp; with_reducible rfl))
                    try go_simp
                    refine wpAnyH_take (i := 7) (v := ?vza_7) rfl (by kernel_rfl) (by kernel_rfl) (by kernel_rfl) (fun _ _ _ h => h) (Or.inl ⟨by rfl, ?yza_7⟩) ⟨HOB.out.c0, HV2.out.c0, HV2.out.c1, HV2.out.c2, HVT.out.c0, HVT.out.c1, HVT.out.c2⟩ ?rza_7
                    case yza_7 => (intro W hSw; (try dsimp only at hSw); obtain ⟨e0, e1, e2, e3, e4, e5, e6⟩ := hSw; first | (go_simp; done) | (go_simp; with_reducible rfl))
                    try go_simp
                    refine wpAnyH_take (i := 8) (v := ?vza_8) rfl (by kernel_rfl) (by kernel_rfl) (by kernel_rfl) (fun _ _ _ h => h) (Or.inl ⟨by rfl, ?yza_8⟩) ⟨HOB.out.c0, HV2.out.c0, HV2.out.c1, HV2.out.c2, HVT.out.c0, HVT.out.c1, HVT.out.c2⟩ ?rza_8
                    case yza_8 => (intro W hSw; (try dsimp only at hSw); obtain ⟨e0, e1, e2, e3, e4, e5, e6⟩ := hSw; first | (go_simp; done) | (go_simp; with_reducible rfl))
                    try go_simp
                    refine wpAnyH_take (i := 9) (v := ?vza_9) rfl (by kernel_rfl) (by kernel_rfl) (by kernel_rfl) (fun _ _ _ h => h) (Or.inl ⟨by rfl, ?yza_9⟩) ⟨HOB.out.c0, HV2.out.c0, HV2.out.c1, HV2.out.c2, HVT.out.c0, HVT.out.c1, HVT.out.c2⟩ ?rza_9
                    case yza_9 => (intro W hSw; (try dsimp only at hSw); obtain ⟨e0, e1, e2, e3, e4, e5, e6⟩ := hSw; first | (go_simp; done) | (go_simp; with_reducible rfl))
                    try go_simp
                    refine wpAnyH_take (i := 10) (v := ?vza_10) rfl (by kernel_rfl) (by kernel_rfl) (by kernel_rfl) (fun _ _ _ h => h) (Or.inl ⟨by rfl, ?yza_10⟩) ⟨HOB.out.c0, HV2.out.c0, HV2.out.c1, HV2.out.c2, HVT.out.c0, HVT.out.c1, HVT.out.c2⟩ ?rza_10
                    case yza_10 => (intro W hSw; (try dsimp only at hSw); obtain ⟨e0, e1, e2, e3, e4, e5, e6⟩ := hSw; first | (go_simp; done) | (go_simp; with_reducible rfl))
                    try go_simp
                    refine wpAnyH_take (i := 11) (v := ?vza_11) rfl (by kernel_rfl) (by kernel_rfl) (by kernel_rfl) (fun _ _ _ h => h) (Or.inl ⟨by rfl, ?yza_11⟩) ⟨HOB.out.c0, HV2.out.c0, HV2.out.c1, HV2.out.c2, HVT.out.c0, HVT.out.c1, HVT.out.c2⟩ ?rza_11
                    case yza_11 => (intro W hSw; (try dsimp only at hSw); obtain ⟨e0, e1, e2, e3, e4, e5, e6⟩ := hSw; first | (go_simp; done) | (go_simp; with_reducible rfl))
                    try go_simp
                    refine wpAnyH_ready (rs := [12, 16]) (by kernel_rfl) (by simp) ?_
                    refine AllReadyH.cons rfl (fun K hK => ?_) (AllReadyH.cons rfl (fun K hK => ?_) AllReadyH.nil)
                    · go_simp
                      (go_wp2_with (go_at_call 51; refine (HRK _).out.mono ?_; rintro e w5 ⟨rfl, hb⟩; have HR1 := Lib.hid (HR1.out.below hb); have HVT := Lib.hid (HVT.out.below hb hgl'); have HV2 := Lib.hid (HV2.out.below hb hgl'); have HOB := Lib.hid (HOB.out.below hb hsz'); have hsz' := Nat.lt_of_lt_of_le hsz' hb.size; have hgl' := Nat.lt_of_lt_of_le hgl' hb.size; clear hb))
                      refine hK.out _ _ ⟨HOB.out.c0, HV2.out.c0, HV2.out.c1, HV2.out.c2, HVT.out.c0, HVT.out.c1, HVT.out.c2⟩ (fun _ => ?_)
                      clear hK K
                      try go_simp
                      refine wpAnyH_take (i := 13) (v := ?vzb_13) rfl (by kernel_rfl) (by kernel_rfl) (by kernel_rfl) (fun _ _ _ h => h) (Or.inl ⟨by rfl, ?yzb_13⟩) ⟨HOB.out.c0, HV2.out.c0, HV2.out.c1, HV2.out.c2, HVT.out.c0, HVT.out.c1, HVT.out.c2⟩ ?rzb_13
                      case yzb_13 => (intro W hSw; (try dsimp only at hSw); obtain ⟨e0, e1, e2, e3, e4, e5, e6⟩ := hSw; first | (go_simp; done) | (go_simp; with_reducible rfl))
                      try go_simp
                      refine wpAnyH_take (i := 14) (v := ?vzb_14) rfl (by kernel_rfl) (by kernel_rfl) (by kernel_rfl) (fun _ _ _ h => h) (Or.inl ⟨by rfl, ?yzb_14⟩) ⟨HOB.out.c0, HV2.out.c0, HV2.out.c1, HV2.out.c2, HVT.out.c0, HVT.out.c1, HVT.out.c2⟩ ?rzb_14
                      case yzb_14 => (intro W hSw; (try dsimp only at hSw); obtain ⟨e0, e1, e2, e3, e4, e5, e6⟩ := hSw; first | (go_simp; done) | (go_simp; with_reducible rfl))
                      try go_simp
                      refine wpAnyH_take (i := 15) (v := ?vzb_15) rfl (by kernel_rfl) (by kernel_rfl) (by kernel_rfl) (fun _ _ _ h => h) (Or.inl ⟨by rfl, ?yzb_15⟩) ⟨HOB.out.c0, HV2.out.c0, HV2.out.c1, HV2.out.c2, HVT.out.c0, HVT.out.c1, HVT.out.c2⟩ ?rzb_15
                      case yzb_15 => (intro W hSw; (try dsimp only at hSw); obtain ⟨e0, e1, e2, e3, e4, e5, e6⟩ := hSw; first | (go_simp; done) | (go_simp; with_reducible rfl))
                      try go_simp
                      refine wpAnyH_ready (rs := [16]) (by kernel_rfl) (by simp) ?_
                      refine AllReadyH.cons rfl (fun K hK => ?_) AllReadyH.nil
                      go_simp
                      refine hK.out _ _ ⟨(HOB.out.below (below1 w5 _) hsz').c0, (HV2.out.below (below1 w5 _) hgl').c0, (HV2.out.below (below1 w5 _) hgl').c1, (HV2.out.below (below1 w5 _) hgl').c2, (HVT.out.below (below1 w5 _) hgl').c0, (HVT.out.below (below1 w5 _) hgl').c1, (HVT.out.below (below1 w5 _) hgl').c2⟩ (fun _ => ?_)
                      clear hK K
                      try go_simp
                      refine wpAnyH_ready (rs := [17]) (by kernel_rfl) (by simp) ?_
                      refine AllReadyH.cons rfl (fun K hK => ?_) AllReadyH.nil
                      go_simp
                      refine hK.out _ _ ⟨(HOB.out.below (below1 w5 _) hsz').c0, (HV2.out.below (below1 w5 _) hgl').c0, (HV2.out.below (below1 w5 _) hgl').c1, (HV2.out.below (below1 w5 _) hgl').c2, (HVT.out.below (below1 w5 _) hgl').c0, (HVT.out.below (below1 w5 _) hgl').c1, (HVT.out.below (below1 w5 _) hgl').c2⟩ (fun _ => ?_)
                      clear hK K
                      try go_simp
                      refine wpAnyH_take (i := 18) (v := ?vzc_18) rfl (by kernel_rfl) (by kernel_rfl) (by kernel_rfl) (fun _ _ _ h => h) (Or.inl ⟨by rfl, ?yzc_18⟩) ⟨(HOB.out.below (below1 w5 _) hsz').c0, (HV2.out.below (below1 w5 _) hgl').c0, (HV2.out.below (below1 w5 _) hgl').c1, (HV2.out.below (below1 w5 _) hgl').c2, (HVT.out.below (below1 w5 _) hgl').c0, (HVT.out.below (below1 w5 _) hgl').c1, (HVT.out.below (below1 w5 _) hgl').c2⟩ ?rzc_18
                      case yzc_18 => (intro W hSw; (try dsimp only at hSw); obtain ⟨e0, e1, e2, e3, e4, e5, e6⟩ := hSw; first | (go_simp; done) | (go_simp; with_reducible rfl))
                      try go_simp
                      refine wpAnyH_done (by kernel_rfl) ?_ _
                      go_wp2
                      go_meet
                      exact ⟨w5.heap.size, rfl, rfl, Lib.hid (HR1.out.below (below1 w5 (vobj ⟨rk, rx, rs'⟩))), Lib.hid (at_new w5 ⟨rk, rx, rs'⟩)⟩
                    · go_simp
                      refine hK.out _ _ ⟨(HOB.out.below (below1 W2 _) hsz').c0, (HV2.out.below (below1 W2 _) hgl').c0, (HV2.out.below (below1 W2 _) hgl').c1, (HV2.out.below (below1 W2 _) hgl').c2, (HVT.out.below (below1 W2 _) hgl').c0, (HVT.out.below (below1 W2 _) hgl').c1, (HVT.out.below (below1 W2 _) hgl').c2⟩ (fun _ => ?_)
                      clear hK K
                      try go_simp
                      refine wpAnyH_ready (rs := [12]) (by kernel_rfl) (by simp) ?_
                      refine AllReadyH.cons rfl (fun K hK => ?_) AllReadyH.nil
                      go_simp
                      (go_wp2_with (go_at_call 51; refine (HRK _).out.mono ?_; rintro e w5 ⟨rfl, hb⟩; have HB5 := Lib.hid ((below1 W2 (vobj DV.none)).trans (hb.mono (below1 W2 (vobj DV.none)).size)); have HX5 := Lib.hid ((at_new W2 DV.none).below hb (by simp)); clear hb))
                      refine hK.out _ _ ⟨(HOB.out.below (HB5.out) hsz').c0, (HV2.out.below (HB5.out) hgl').c0, (HV2.out.below (HB5.out) hgl').c1, (HV2.out.below (HB5.out) hgl').c2, (HVT.out.below (HB5.out) hgl').c0, (HVT.out.below (HB5.out) hgl').c1, (HVT.out.below (HB5.out) hgl').c2⟩ (fun _ => ?_)
                      clear hK K
                      try go_simp
                      refine wpAnyH_take (i := 13) (v := ?vzd_13) rfl (by kernel_rfl) (by kernel_rfl) (by kernel_rfl) (fun _ _ _ h => h) (Or.inl ⟨by rfl, ?yzd_13⟩) ⟨(HOB.out.below (HB5.out) hsz').c0, (HV2.out.below (HB5.out) hgl').c0, (HV2.out.below (HB5.out) hgl').c1, (HV2.out.below (HB5.out) hgl').c2, (HVT.out.below (HB5.out) hgl').c0, (HVT.out.below (HB5.out) hgl').c1, (HVT.out.below (HB5.out) hgl').c2⟩ ?rzd_13
                      case yzd_13 => (intro W hSw; (try dsimp only at hSw); obtain ⟨e0, e1, e2, e3, e4, e5, e6⟩ := hSw; first | (go_simp; done) | (go_simp; with_reducible rfl))
                      try go_simp
                      refine wpAnyH_take (i := 14) (v := ?vzd_14) rfl (by kernel_rfl) (by kernel_rfl) (by kernel_rfl) (fun _ _ _ h => h) (Or.inl ⟨by rfl, ?yzd_14⟩) ⟨(HOB.out.below (HB5.out) hsz').c0, (HV2.out.below (HB5.out) hgl').c0, (HV2.out.below (HB5.out) hgl').c1, (HV2.out.below (HB5.out) hgl').c2, (HVT.out.below (HB5.out) hgl').c0, (HVT.out.below (HB5.out) hgl').c1, (HVT.out.below (HB5.out) hgl').c2⟩ ?rzd_14
                      case yzd_14 => (intro W hSw; (try dsimp only at hSw); obtain ⟨e0, e1, e2, e3, e4, e5, e6⟩ := hSw; first | (go_simp; done) | (go_simp; with_reducible rfl))
                      try go_simp
                      refine wpAnyH_take (i := 15) (v := ?vzd_15) rfl (by kernel_rfl) (by kernel_rfl) (by kernel_rfl) (fun _ _ _ h => h) (Or.inl ⟨by rfl, ?yzd_15⟩) ⟨(HOB.out.below (HB5.out) hsz').c0, (HV2.out.below (HB5.out) hgl').c0, (HV2.out.below (HB5.out) hgl').c1, (HV2.out.below (HB5.out) hgl').c2, (HVT.out.below (HB5.out) hgl').c0, (HVT.out.below (HB5.out) hgl').c1, (HVT.out.below (HB5.out) hgl').c2⟩ ?rzd_15
                      case yzd_15 => (intro W hSw; (try dsimp only at hSw); obtain ⟨e0, e1, e2, e3, e4, e5, e6⟩ := hSw; first | (go_simp; done) | (go_simp; with_reducible rfl))
                      try go_simp
                      have x0 := HX5.out.c0; have x1 := HX5.out.c1; have x2 := HX5.out.c2; have x3 := HX5.out.f0; have x4 := HX5.out.f1; have x5 := HX5.out.f2
                      refine wpAnyH_ready (rs := [17]) (by kernel_rfl) (by simp) ?_
                      refine AllReadyH.cons rfl (fun K hK => ?_) AllReadyH.nil
                      go_simp
                      refine hK.out _ _ ⟨(HOB.out.below (below_set3 HB5.out (Nat.le_refl _) _ _ _) hsz').c0, (HV2.out.below (below_set3 HB5.out (Nat.le_refl _) _ _ _) hgl').c0, (HV2.out.below (below_set3 HB5.out (Nat.le_refl _) _ _ _) hgl').c1, (HV2.out.below (below_set3 HB5.out (Nat.le_refl _) _ _ _) hgl').c2, (HVT.out.below (below_set3 HB5.out (Nat.le_refl _) _ _ _) hgl').c0, (HVT.out.below (below_set3 HB5.out (Nat.le_refl _) _ _ _) hgl').c1, (HVT.out.below (below_set3 HB5.out (Nat.le_refl _) _ _ _) hgl').c2⟩ (fun _ => ?_)
                      clear hK K
                      try go_simp
                      refine wpAnyH_take (i := 18) (v := ?vze_18) rfl (by kernel_rfl) (by kernel_rfl) (by kernel_rfl) (fun _ _ _ h => h) (Or.inl ⟨by rfl, ?yze_18⟩) ⟨(HOB.out.below (below_set3 HB5.out (Nat.le_refl _) _ _ _) hsz').c0, (HV2.out.below (below_set3 HB5.out (Nat.le_refl _) _ _ _) hgl').c0, (HV2.out.below (below_set3 HB5.out (Nat.le_refl _) _ _ _) hgl').c1, (HV2.out.below (below_set3 HB5.out (Nat.le_refl _) _ _ _) hgl').c2, (HVT.out.below (below_set3 HB5.out (Nat.le_refl _) _ _ _) hgl').c0, (HVT.out.below (below_set3 HB5.out (Nat.le_refl _) _ _ _) hgl').c1, (HVT.out.below (below_set3 HB5.out (Nat.le_refl _) _ _ _) hgl').c2⟩ ?rze_18
                      case yze_18 => (intro W hSw; (try dsimp only at hSw); obtain ⟨e0, e1, e2, e3, e4, e5, e6⟩ := hSw; first | (go_simp; done) | (go_simp; with_reducible rfl))
                      try go_simp
                      refine wpAnyH_done (by kernel_rfl) ?_ _
                      go_wp2
                      go_meet
                      exact ⟨W2.heap.size, rfl, rfl, Lib.hid (HR1.out.below (below_set3 HB5.out (Nat.le_refl _) _ _ _)), Lib.hid (HX5.out.setAll ⟨rk, rx, rs'⟩)⟩
                  case rest =>
                    obtain ⟨xb, hva, hvb, HR2, HX⟩ := hcut
                    subst hva
                    subst hvb
                    clear hW1 hsz hgl2 q0 q1 q2 q3 q4 t0 t1 t2 s0 s1 s2 HR1 HOB HVT HV2 HRK
                    have hX := HX.out.drew
                    have x0 := hX.c0; have x1 := hX.c1; have x2 := hX.c2
                    simp only at x0 x1 x2
                    have hlx := HX.out.lt
                    by_cases hf : f = 0
                    · subst hf
                      have HG2 := Lib.hid ((hgo _ _).out (HS1.out rfl))
                      rw [HRT.out] at HG2
                      have hl3 : (st.take m0).length = m0 := by rw [List.length_take, HML.out]; omega
                      have HL3 := Lib.hid hl3
                      have HC := Lib.hid ((HR2.out.cut HML.out (k := m0) (by omega)).below ((Below.refl _ wc).drew.alloc (Nat.le_refl _) (vobj ⟨rk, rx, rs'⟩)))
                      clear hgo hno HS1 HS2 hl3
                      go_wp2_with fail
                      go_region_law (refine step_append_at rfl (.tmp 91) (.tmp 93) 80 rfl w.heap.size 48 iw (vagg DV.none) 3 32 under_vals hi hz0 hz1 hz2 rfl (by decide) _ _ _ (by simp [Act.eval]) (HC.out.hsn HL3.out) ⟨wc.heap.size, 0, none⟩ 1 1 (dvC ⟨rk, rx, rs'⟩) (by simp [Act.eval]) rfl (cells_dv _ _ _ (by simp)) (one_dv _) (by unfold maxLen; omega) (by omega) (HC.out.hb.size) ?_; intro v2 w9 hown' hgrow _; have HR9 := Lib.hid (HC.out.push HL3.out hown' hgrow); clear hown' hgrow)
                      all_goals go_wp2
                      exact ⟨⟨k + 1, st.take m0 ++ [⟨rk, rx, rs'⟩], W, by go_num, by omega, HG2, HR9⟩, by simp [RowKit.intOf]; omega⟩
                    · have hne : (f != 0) = true := by simpa using hf
                      have HX2 := Lib.hid ((hno f).out (HS2.out hf))
                      have HRV := Lib.hid (HRV.out.trans (by rw [HX2.out] : outV R = outV (.no f)))
                      clear hgo hno HS1 HS2 hf
                      go_wp2
                      go_ret2
                      rw [HRV.out]
                      exact ⟨_, rfl, HR2.out.hb, World.ownsRow_nil _ _ _ _⟩
            · obtain rfl : k = n := by omega
              have hRg : R = .go st W := by
                have := HG.out.run
                rw [List.drop_of_length_le (by rw [HN.out]; exact Nat.le_refl _)] at this
                exact this.symm
              have HRV := Lib.hid (HRV.out.trans (by rw [hRg] : outV R = outV (.go st W)))
              clear hRg HG
              go_wp2
              go_ret2
              rw [HRV.out]
              exact ⟨_, rfl, HRS.out.hb, HRS.out.ho⟩
set_option maxRecDepth 100000 in
set_option maxHeartbeats 4000000 in
/-- raceref9.Run: it answers as the plain program does. -/
theorem rrun_any {P Q : Nat → Prop} {w : World} {vp vs : Value} {p : List OpV} {l : List SeenV} (hp : HasO P w vp p) (hs : HasN Q w vs l) (hl : l.length ≤ 1000000) (hwp : ∀ o ∈ p, o.v.wf) (hws : ∀ s ∈ l, s.wf) :
    Calls Tryz.prog 25 #[vp, vs] w (Ran w (runV p l)) := by
  by_cases hc : chkV p = 0
  · exact rrun_seen hp hs hc hl hwp hws
  · have e : runV p l = ([], chkV p) := by unfold runV; rw [if_neg hc]
    rw [e]
    have HCK := Lib.hid (rcheck_any hp)
    have hne : (chkV p != 0) = true := by simp [hc]
    clear e hc
    generalize chkV p = c at *
    go_enter Tryz.func25, Tryz.ntmps25
    go_wp2_with (go_at_call 17; refine HCK.out.mono ?_; rintro e w1 ⟨rfl, h2⟩; have HB1 := Lib.hid h2; clear h2)
    go_ret2
    exact ⟨_, rfl, HB1.out, World.ownsRow_nil _ _ _ _⟩
end Go.Proofs.YtbgccaconhmbaaaGreatDoor
