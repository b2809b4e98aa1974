/- raceref6.Disk: List; raceref.Texts; racelaw6.Model. Conditions: none of its own. -/
import Derived.Test.YtefgnlijgomgpaaMk
namespace Go.Proofs.Ytefgnlijgomgpaa
open Go.RowKit
theorem info9 : (Try.prog.info? 9).map (fun i => (i.zero, i.size, i.bytes)) = some (some (.string ⟨#[]⟩), 1, 16) := by kernel_rfl
theorem under59 : Try.prog.underlying 59 = some (.slice 9) := by kernel_rfl
theorem names_snoc {α : Type} {f : Ent α} {k : Nat} {s : Nm} {x : α} (hk : k < f.length) (hs : f[k] = (s, x)) : (names f).take (k + 1) = (names f).take k ++ [s] := by
  unfold names
  rw [← List.map_take, ← List.map_take, List.take_succ_eq_append_getElem hk, List.map_append, hs]
  rfl
theorem nmv_one (l : List Nm) : ∀ u ∈ l.map nmv, u.oneCell' = true := by
  intro u hu
  obtain ⟨s, _, rfl⟩ := List.mem_map.1 hu
  rfl
/-- A slice of strings, as it reads; what is read lies in blocks of C. -/
structure SN (C : Nat → Prop) (w : World) (ao : Option Addr) (n cap : Nat) (l : List Nm) : Prop where
  len : n = l.length
  le : n ≤ cap
  max : cap ≤ maxLen
  cells : n = 0 ∨ ∃ b off, ao = some ⟨b, off, none⟩ ∧ C b ∧ ∀ i (h : i < l.length), w.cell? ⟨b, off + i, none⟩ = some (nmv l[i])
theorem SN.tn {C S : Nat → Prop} {w w' : World} {ao : Option Addr} {n cap : Nat} {l : List Nm} (h : SN C w ao n cap l) (ht : Tn S w w') (hd : ∀ k, C k → ¬ S k) : SN C w' ao n cap l := by
  refine ⟨h.len, h.le, h.max, ?_⟩
  rcases h.cells with h0 | ⟨b, off, rfl, hB, hc⟩
  · exact .inl h0
  · exact .inr ⟨b, off, rfl, hB, fun i hi => ht.cell (hc i hi) (hd b hB)⟩
theorem SN.below {C : Nat → Prop} {w w' : World} {ao : Option Addr} {n cap : Nat} {l : List Nm} (h : SN C w ao n cap l) (hb : Below w.heap.size w w') : SN C w' ao n cap l := h.tn (Tn.of_below (S := fun _ => False) hb) (fun _ _ e => e)
theorem SN.lt {C : Nat → Prop} {w : World} {ao : Option Addr} {n cap : Nat} {l : List Nm} (h : SN C w ao n cap l) : n ≤ 9223372036854775807 := by have := h.le; have := h.max; unfold maxLen at this; omega
theorem SN.at_ {C : Nat → Prop} {w : World} {ao : Option Addr} {n cap : Nat} {l : List Nm} (h : SN C w ao n cap l) {i : Nat} (hi : i < l.length) : ∃ b off, ao = some ⟨b, off, none⟩ ∧ w.cell? ⟨b, off + i, none⟩ = some (nmv l[i]) := by
  rcases h.cells with h0 | ⟨b, off, rfl, _, hc⟩
  · have := h.len; omega
  · exact ⟨b, off, rfl, hc i hi⟩
theorem own_sn {w : World} {base : Nat} {ao : Option Addr} {n cap : Nat} {l : List Nm} (h : w.ownsRow base 9 1 (.slice ao n cap) n (l.map nmv)) : SN (fun k => (Value.slice ao n cap).ownBlock = some k) w ao n cap l := by
  have hl : n = l.length := by have := h.1; rw [List.length_map] at this; omega
  rcases h.2 with ⟨e, h0⟩ | ⟨g, c, cur, e, _, hg, h1, h2, _⟩
  · cases e
    exact ⟨hl, Nat.le_refl _, by decide, .inl rfl⟩
  · cases e
    refine ⟨hl, h1, h2, .inr ⟨g, 0, rfl, rfl, fun i hi => ?_⟩⟩
    rw [Nat.zero_add, h.cellAt i (by omega)]
    simp [hi]
section
variable {C D S : Nat → Prop} {w w' : World} {a : Nat} {d : Dk} {v : Value} {us : List (Nm × Value × Int)} {s : Nm} {x : Fi}
set_option maxRecDepth 100000 in
set_option maxHeartbeats 2000000 in
theorem rlist_any (h : RAt C w a d v us) : Calls Try.prog 46 #[ptr a] w fun e w' => ∃ v', e = .returned v' ∧ w'.ownsRow w.heap.size 9 1 v' d.f.length ((names d.f).map nmv) ∧ Below w.heap.size w w' := by
  obtain ⟨i0, hi, hz0, hz1, hz2⟩ := info_parts info9
  have H := Lib.hid h
  have hfew := h.ok.few
  have hfl := fvs_length d.f
  obtain ⟨vo, vc, rfl⟩ := own_slice h.fo.own
  clear h
  go_enter Try.func46, Try.ntmps46
  go_wp2
  go_loopw [3, 4] (fun o i wr => ∃ k : Nat, k ≤ d.f.length ∧ i = .int .i64 k ∧ Hid (wr.ownsRow w.heap.size 9 1 o k (((names d.f).take k).map nmv)) ∧ Hid (Below w.heap.size w wr)) (fun _ i _ => d.f.length - (intOf i).toNat)
  case atStart => exact ⟨0, Nat.zero_le _, rfl, World.ownsRow_nil _ _ _ _, Below.refl _ _⟩
  case round =>
    obtain ⟨k, hk, rfl, HO, HB⟩ := hrel
    have c0 := (H.out.below HB.out).c0
    rw [hfl] at c0
    by_cases hlt : k < d.f.length
    · obtain ⟨⟨s, x⟩, hsx⟩ : ∃ p, d.f[k] = p := ⟨_, rfl⟩
      obtain ⟨g, cap, bo, bc, hv, g0, _, _, _, _⟩ := (H.out.below HB.out).elem hlt hsx
      injection hv with e1 e2 e3
      subst e1; subst e3
      have HT : Hid (((names d.f).take (k + 1)).map nmv = ((names d.f).take k).map nmv ++ [nmv s]) := by
        rw [names_snoc hlt hsx, List.map_append]
        exact rfl
      generalize ((names d.f).take k).map nmv = M at *
      have hs := HB.out.size
      have ho := HO.out
      clear hsx e2
      go_wp2_with (first
        | (at_builtin; refine wpList_append_own_at _ rfl (.tmp 14) (.tmp 23) 59 rfl w.heap.size 9 i0 (.string ⟨#[]⟩) 1 16 under59 hi hz0 hz1 hz2 rfl (by decide) _ _ _ rfl (ho.alloc _) ⟨wr.heap.size, 0, none⟩ 1 1 [nmv s] rfl rfl (cell_one_new _ _ _) (nmv_one [s]) (by unfold maxLen; omega) (by omega) (by simp; omega) ?_; intro v2 w2 hown' hgrow _ hat; have HO2 := Lib.hid hown'; have HB2 := Lib.hid ((HB.out.alloc hs _).grown hgrow (by simp; omega) (fun k hk => (ho.lt k hk).1)); clear hown' hgrow hat))
      go_roundw
      case rel => exact ⟨k + 1, by omega, by go_num, by rw [HT.out]; exact HO2, HB2⟩
      case measure => simp [intOf]; omega
    · obtain rfl : k = d.f.length := by omega
      have ho := HO.out
      rw [show (names d.f).take d.f.length = names d.f by rw [← length_names d.f, List.take_length]] at ho
      have HO3 := Lib.hid ho
      clear ho HO
      go_wp2
      go_ret
      exact ⟨_, rfl, HO3.out, HB.out⟩
end
set_option maxRecDepth 100000 in
set_option maxHeartbeats 2000000 in
theorem texts_any {B C : Nat → Prop} {w : World} {ao bo : Option Addr} {n cap m bcap : Nat} {l k : List Nm} (h : SN B w ao n cap l) (h2 : SN C w bo m bcap k) :
    Calls Try.prog 45 #[.slice ao n cap, .slice bo m bcap] w fun e w' => e = .returned (.bool (l == k)) ∧ ∃ q, w' = w.drewN q := by
  have hl := h.len
  have hl2 := h2.len
  have hlt := h.lt
  have H := Lib.hid h
  have H2 := Lib.hid h2
  clear h h2
  by_cases hnm : n = m
  · subst hnm
    have HL := Lib.hid hl
    have HM := Lib.hid hl2
    clear hl hl2
    go_enter Try.func45, Try.ntmps45
    go_wp2
    go_loopw [5] (fun i wr => ∃ j : Nat, i = .int .i64 j ∧ j ≤ n ∧ Hid (l.take j = k.take j) ∧ ∃ q, Hid (wr = w.drewN q)) (fun i _ => n - (intOf i).toNat)
    case atStart => exact ⟨0, rfl, Nat.zero_le _, rfl, 0, rfl⟩
    case round =>
      obtain ⟨j, rfl, hj, HT, q, HQ⟩ := hrel
      by_cases hjn : j < n
      · have hkl : j < l.length := by rw [← HL.out]; exact hjn
        have hkm : j < k.length := by rw [← HM.out]; exact hjn
        have h1 : SN B wr ao n cap l := by rw [HQ.out]; exact H.out.below (below_drewN w q)
        have h2 : SN C wr bo n bcap k := by rw [HQ.out]; exact H2.out.below (below_drewN w q)
        obtain ⟨b, off, rfl, f1⟩ := h1.at_ hkl
        obtain ⟨b2, off2, rfl, f2⟩ := h2.at_ hkm
        have HE1 := Lib.hid (List.take_succ_eq_append_getElem hkl)
        have HE2 := Lib.hid (List.take_succ_eq_append_getElem hkm)
        have HN : Hid (l[j] ≠ k[j] → (l == k) = false) := fun hne => by rw [beq_eq_false_iff_ne]; intro e; subst e; exact hne rfl
        generalize l[j] = p at *
        generalize k[j] = r at *
        clear h1 h2
        by_cases e1 : p = r
        · subst e1
          have HT2 : Hid (l.take (j + 1) = k.take (j + 1)) := by rw [HE1.out, HE2.out, HT.out]; exact rfl
          clear HN HE1 HE2
          go_wp2
          go_quiet (fail)
          go_wp2
          go_roundw
          case rel => exact ⟨j + 1, by go_num, by omega, HT2, q + nq, by rw [HQ.out, drewN_add]; exact rfl⟩
          case measure => simp [intOf]; omega
        · have hb : (p != r) = true := by rw [bne_iff_ne]; exact e1
          have hb2 : (p == r) = false := by rw [beq_eq_false_iff_ne]; exact e1
          have HNE := Lib.hid (HN.out e1)
          clear e1 HN HE1 HE2
          go_wp2
          go_quiet (fail)
          go_wp2
          go_ret
          rw [HNE.out]
          exact ⟨rfl, q + nq, by rw [HQ.out, drewN_add]⟩
      · have hlk : (l == k) = true := by
          have h3 := HT.out
          rw [List.take_of_length_le (by rw [← HL.out]; omega), List.take_of_length_le (by rw [← HM.out]; omega)] at h3
          rw [h3]; exact beq_self_eq_true _
        have HLK := Lib.hid hlk
        clear hlk
        go_wp2
        go_ret
        rw [HLK.out]
        exact ⟨rfl, q, HQ.out⟩
  · have hlk : (l == k) = false := by rw [beq_eq_false_iff_ne]; intro e; subst e; omega
    have HLK := Lib.hid hlk
    clear hlk
    go_enter Try.func45, Try.ntmps45
    go_wp2
    go_ret
    rw [HLK.out]
    exact ⟨rfl, 0, rfl⟩
section
variable {C D S : Nat → Prop} {w w' : World} {a : Nat} {d : Dk} {v : Value} {us : List (Nm × Value × Int)} {s : Nm} {x : Fi}
theorem rwrote_from {w1 w' : World} {r : Dk × Nat} {e : Ending} (h : RWrote C w1 a r e w') (hb : Below w.heap.size w w1) (hl : ∀ k, C k → k < w.heap.size) : RWrote C w a r e w' := by
  obtain ⟨h1, ⟨v, us, h2⟩, h3⟩ := h
  have ht : Tn C w w' := (Tn.of_below hb).trans h3 (fun _ _ e => e)
  refine ⟨h1, ⟨v, us, h2.grow (fun k hk => ?_) (fun k hk => Gw.size ht.size hl hk)⟩, ht⟩
  rcases hk with hk | hk
  · exact .inl hk
  · have := hb.size; exact .inr (by omega)
set_option maxRecDepth 100000 in
theorem model_1 {ao po : Option Addr} {cap pc : Nat} {n : Int} {name to : Nm} {b : List UInt8} {picks : List Int} (h : RAt C w a d v us) (hs : Do.small ⟨1, n, name, to, b, picks⟩) (hb : SB D w ao b.length cap b) (hp : SI D w po picks.length pc picks) (hC : ∀ k, D k → ¬ C k) (hd : d.done < 9223372036854775807) :
    Calls Try.prog 14 #[ptr a, .agg #[.int .i64 1, .int .i64 n, nmv name, nmv to, .slice ao b.length cap, .slice po picks.length pc]] w (RWrote C w a (d.step ⟨1, n, name, to, b, picks⟩)) := by
  have H1 := Lib.hid (h.below (below1 w (.cells #[.int .i64 1, .int .i64 n, nmv name, nmv to, .slice ao b.length cap, .slice po picks.length pc] 36)))
  have HL := Lib.hid h.lt
  have HS := Lib.hid hs
  have HB := Lib.hid (hb.below (below1 w (.cells #[.int .i64 1, .int .i64 n, nmv name, nmv to, .slice ao b.length cap, .slice po picks.length pc] 36)))
  have HP := Lib.hid (hp.below (below1 w (.cells #[.int .i64 1, .int .i64 n, nmv name, nmv to, .slice ao b.length cap, .slice po picks.length pc] 36)))
  have HC := Lib.hid hC
  have HD := Lib.hid hd
  have e : d.step ⟨1, n, name, to, b, picks⟩ = d.create name := by unfold Dk.step; simp
  rw [e]
  clear h hs hb hp hC hd e
  go_enter Try.func14, Try.ntmps14
  go_wp2_with (go_at_call 37; (refine (rcreate_any H1.out _ (Nat.le_trans HS.out.name1 (by decide)) HD.out).mono ?_); rintro e w' ⟨rfl, hk, ht⟩; have HK := Lib.hid hk; have HT := Lib.hid ht; clear hk ht)
  go_ret
  exact rwrote_from ⟨rfl, HK.out, HT.out⟩ (below1 w _) HL.out
set_option maxRecDepth 100000 in
theorem model_2 {ao po : Option Addr} {cap pc : Nat} {n : Int} {name to : Nm} {b : List UInt8} {picks : List Int} (h : RAt C w a d v us) (hs : Do.small ⟨2, n, name, to, b, picks⟩) (hb : SB D w ao b.length cap b) (hp : SI D w po picks.length pc picks) (hC : ∀ k, D k → ¬ C k) (hd : d.done < 9223372036854775807) :
    Calls Try.prog 14 #[ptr a, .agg #[.int .i64 2, .int .i64 n, nmv name, nmv to, .slice ao b.length cap, .slice po picks.length pc]] w (RWrote C w a (d.step ⟨2, n, name, to, b, picks⟩)) := by
  have H1 := Lib.hid (h.below (below1 w (.cells #[.int .i64 2, .int .i64 n, nmv name, nmv to, .slice ao b.length cap, .slice po picks.length pc] 36)))
  have HL := Lib.hid h.lt
  have HS := Lib.hid hs
  have HB := Lib.hid (hb.below (below1 w (.cells #[.int .i64 2, .int .i64 n, nmv name, nmv to, .slice ao b.length cap, .slice po picks.length pc] 36)))
  have HP := Lib.hid (hp.below (below1 w (.cells #[.int .i64 2, .int .i64 n, nmv name, nmv to, .slice ao b.length cap, .slice po picks.length pc] 36)))
  have HC := Lib.hid hC
  have HD := Lib.hid hd
  have e : d.step ⟨2, n, name, to, b, picks⟩ = d.append name b := by unfold Dk.step; simp
  rw [e]
  clear h hs hb hp hC hd e
  go_enter Try.func14, Try.ntmps14
  go_wp2_with (go_at_call 38; (refine (rappend_any H1.out _ HD.out HB.out).mono ?_); rintro e w' ⟨rfl, hk, ht⟩; have HK := Lib.hid hk; have HT := Lib.hid ht; clear hk ht)
  go_ret
  exact rwrote_from ⟨rfl, HK.out, HT.out⟩ (below1 w _) HL.out
set_option maxRecDepth 100000 in
theorem model_3 {ao po : Option Addr} {cap pc : Nat} {n : Int} {name to : Nm} {b : List UInt8} {picks : List Int} (h : RAt C w a d v us) (hs : Do.small ⟨3, n, name, to, b, picks⟩) (hb : SB D w ao b.length cap b) (hp : SI D w po picks.length pc picks) (hC : ∀ k, D k → ¬ C k) (hd : d.done < 9223372036854775807) :
    Calls Try.prog 14 #[ptr a, .agg #[.int .i64 3, .int .i64 n, nmv name, nmv to, .slice ao b.length cap, .slice po picks.length pc]] w (RWrote C w a (d.step ⟨3, n, name, to, b, picks⟩)) := by
  have H1 := Lib.hid (h.below (below1 w (.cells #[.int .i64 3, .int .i64 n, nmv name, nmv to, .slice ao b.length cap, .slice po picks.length pc] 36)))
  have HL := Lib.hid h.lt
  have HS := Lib.hid hs
  have HB := Lib.hid (hb.below (below1 w (.cells #[.int .i64 3, .int .i64 n, nmv name, nmv to, .slice ao b.length cap, .slice po picks.length pc] 36)))
  have HP := Lib.hid (hp.below (below1 w (.cells #[.int .i64 3, .int .i64 n, nmv name, nmv to, .slice ao b.length cap, .slice po picks.length pc] 36)))
  have HC := Lib.hid hC
  have HD := Lib.hid hd
  have e : d.step ⟨3, n, name, to, b, picks⟩ = d.sync name := by unfold Dk.step; simp
  rw [e]
  clear h hs hb hp hC hd e
  go_enter Try.func14, Try.ntmps14
  go_wp2_with (go_at_call 39; (refine (rsync_any H1.out _ HD.out).mono ?_); rintro e w' ⟨rfl, hk, ht⟩; have HK := Lib.hid hk; have HT := Lib.hid ht; clear hk ht)
  go_ret
  exact rwrote_from ⟨rfl, HK.out, HT.out⟩ (below1 w _) HL.out
set_option maxRecDepth 100000 in
theorem model_4 {ao po : Option Addr} {cap pc : Nat} {n : Int} {name to : Nm} {b : List UInt8} {picks : List Int} (h : RAt C w a d v us) (hs : Do.small ⟨4, n, name, to, b, picks⟩) (hb : SB D w ao b.length cap b) (hp : SI D w po picks.length pc picks) (hC : ∀ k, D k → ¬ C k) (hd : d.done < 9223372036854775807) :
    Calls Try.prog 14 #[ptr a, .agg #[.int .i64 4, .int .i64 n, nmv name, nmv to, .slice ao b.length cap, .slice po picks.length pc]] w (RWrote C w a (d.step ⟨4, n, name, to, b, picks⟩)) := by
  have H1 := Lib.hid (h.below (below1 w (.cells #[.int .i64 4, .int .i64 n, nmv name, nmv to, .slice ao b.length cap, .slice po picks.length pc] 36)))
  have HL := Lib.hid h.lt
  have HS := Lib.hid hs
  have HB := Lib.hid (hb.below (below1 w (.cells #[.int .i64 4, .int .i64 n, nmv name, nmv to, .slice ao b.length cap, .slice po picks.length pc] 36)))
  have HP := Lib.hid (hp.below (below1 w (.cells #[.int .i64 4, .int .i64 n, nmv name, nmv to, .slice ao b.length cap, .slice po picks.length pc] 36)))
  have HC := Lib.hid hC
  have HD := Lib.hid hd
  have e : d.step ⟨4, n, name, to, b, picks⟩ = d.cut name n := by unfold Dk.step; simp
  rw [e]
  clear h hs hb hp hC hd e
  go_enter Try.func14, Try.ntmps14
  go_wp2_with (go_at_call 40; (refine (rcut_any H1.out _ HD.out n HS.out.n.1 HS.out.n.2).mono ?_); rintro e w' ⟨rfl, hk, ht⟩; have HK := Lib.hid hk; have HT := Lib.hid ht; clear hk ht)
  go_ret
  exact rwrote_from ⟨rfl, HK.out, HT.out⟩ (below1 w _) HL.out
set_option maxRecDepth 100000 in
theorem model_5 {ao po : Option Addr} {cap pc : Nat} {n : Int} {name to : Nm} {b : List UInt8} {picks : List Int} (h : RAt C w a d v us) (hs : Do.small ⟨5, n, name, to, b, picks⟩) (hb : SB D w ao b.length cap b) (hp : SI D w po picks.length pc picks) (hC : ∀ k, D k → ¬ C k) (hd : d.done < 9223372036854775807) :
    Calls Try.prog 14 #[ptr a, .agg #[.int .i64 5, .int .i64 n, nmv name, nmv to, .slice ao b.length cap, .slice po picks.length pc]] w (RWrote C w a (d.step ⟨5, n, name, to, b, picks⟩)) := by
  have H1 := Lib.hid (h.below (below1 w (.cells #[.int .i64 5, .int .i64 n, nmv name, nmv to, .slice ao b.length cap, .slice po picks.length pc] 36)))
  have HL := Lib.hid h.lt
  have HS := Lib.hid hs
  have HB := Lib.hid (hb.below (below1 w (.cells #[.int .i64 5, .int .i64 n, nmv name, nmv to, .slice ao b.length cap, .slice po picks.length pc] 36)))
  have HP := Lib.hid (hp.below (below1 w (.cells #[.int .i64 5, .int .i64 n, nmv name, nmv to, .slice ao b.length cap, .slice po picks.length pc] 36)))
  have HC := Lib.hid hC
  have HD := Lib.hid hd
  have e : d.step ⟨5, n, name, to, b, picks⟩ = d.rename name to := by unfold Dk.step; simp
  rw [e]
  clear h hs hb hp hC hd e
  go_enter Try.func14, Try.ntmps14
  go_wp2_with (go_at_call 41; (refine (rrename_any H1.out _ _ (Nat.le_trans HS.out.to1 (by decide)) HD.out).mono ?_); rintro e w' ⟨rfl, hk, ht⟩; have HK := Lib.hid hk; have HT := Lib.hid ht; clear hk ht)
  go_ret
  exact rwrote_from ⟨rfl, HK.out, HT.out⟩ (below1 w _) HL.out
set_option maxRecDepth 100000 in
theorem model_6 {ao po : Option Addr} {cap pc : Nat} {n : Int} {name to : Nm} {b : List UInt8} {picks : List Int} (h : RAt C w a d v us) (hs : Do.small ⟨6, n, name, to, b, picks⟩) (hb : SB D w ao b.length cap b) (hp : SI D w po picks.length pc picks) (hC : ∀ k, D k → ¬ C k) (hd : d.done < 9223372036854775807) :
    Calls Try.prog 14 #[ptr a, .agg #[.int .i64 6, .int .i64 n, nmv name, nmv to, .slice ao b.length cap, .slice po picks.length pc]] w (RWrote C w a (d.step ⟨6, n, name, to, b, picks⟩)) := by
  have H1 := Lib.hid (h.below (below1 w (.cells #[.int .i64 6, .int .i64 n, nmv name, nmv to, .slice ao b.length cap, .slice po picks.length pc] 36)))
  have HL := Lib.hid h.lt
  have HS := Lib.hid hs
  have HB := Lib.hid (hb.below (below1 w (.cells #[.int .i64 6, .int .i64 n, nmv name, nmv to, .slice ao b.length cap, .slice po picks.length pc] 36)))
  have HP := Lib.hid (hp.below (below1 w (.cells #[.int .i64 6, .int .i64 n, nmv name, nmv to, .slice ao b.length cap, .slice po picks.length pc] 36)))
  have HC := Lib.hid hC
  have HD := Lib.hid hd
  have e : d.step ⟨6, n, name, to, b, picks⟩ = d.remove name := by unfold Dk.step; simp
  rw [e]
  clear h hs hb hp hC hd e
  go_enter Try.func14, Try.ntmps14
  go_wp2_with (go_at_call 42; (refine (rremove_any H1.out _ HD.out).mono ?_); rintro e w' ⟨rfl, hk, ht⟩; have HK := Lib.hid hk; have HT := Lib.hid ht; clear hk ht)
  go_ret
  exact rwrote_from ⟨rfl, HK.out, HT.out⟩ (below1 w _) HL.out
set_option maxRecDepth 100000 in
theorem model_7 {ao po : Option Addr} {cap pc : Nat} {n : Int} {name to : Nm} {b : List UInt8} {picks : List Int} (h : RAt C w a d v us) (hs : Do.small ⟨7, n, name, to, b, picks⟩) (hb : SB D w ao b.length cap b) (hp : SI D w po picks.length pc picks) (hC : ∀ k, D k → ¬ C k) (hd : d.done < 9223372036854775807) :
    Calls Try.prog 14 #[ptr a, .agg #[.int .i64 7, .int .i64 n, nmv name, nmv to, .slice ao b.length cap, .slice po picks.length pc]] w (RWrote C w a (d.step ⟨7, n, name, to, b, picks⟩)) := by
  have H1 := Lib.hid (h.below (below1 w (.cells #[.int .i64 7, .int .i64 n, nmv name, nmv to, .slice ao b.length cap, .slice po picks.length pc] 36)))
  have HL := Lib.hid h.lt
  have HS := Lib.hid hs
  have HB := Lib.hid (hb.below (below1 w (.cells #[.int .i64 7, .int .i64 n, nmv name, nmv to, .slice ao b.length cap, .slice po picks.length pc] 36)))
  have HP := Lib.hid (hp.below (below1 w (.cells #[.int .i64 7, .int .i64 n, nmv name, nmv to, .slice ao b.length cap, .slice po picks.length pc] 36)))
  have HC := Lib.hid hC
  have HD := Lib.hid hd
  have e : d.step ⟨7, n, name, to, b, picks⟩ = (d.arm n, 0) := by unfold Dk.step; simp
  rw [e]
  clear h hs hb hp hC hd e
  go_enter Try.func14, Try.ntmps14
  go_wp2_with (go_at_call 43; (refine (rarm_any H1.out n HS.out.n.1 HS.out.n.2).mono ?_); rintro e w' ⟨rfl, hk, ht⟩; have HK := Lib.hid hk; have HT := Lib.hid ht; clear hk ht)
  go_ret
  exact rwrote_from (rwrote_same (r := (d.arm n, 0)) HK.out HT.out H1.out.lt) (below1 w _) HL.out
set_option maxRecDepth 100000 in
theorem model_8 {ao po : Option Addr} {cap pc : Nat} {n : Int} {name to : Nm} {b : List UInt8} {picks : List Int} (h : RAt C w a d v us) (hs : Do.small ⟨8, n, name, to, b, picks⟩) (hb : SB D w ao b.length cap b) (hp : SI D w po picks.length pc picks) (hC : ∀ k, D k → ¬ C k) (hd : d.done < 9223372036854775807) :
    Calls Try.prog 14 #[ptr a, .agg #[.int .i64 8, .int .i64 n, nmv name, nmv to, .slice ao b.length cap, .slice po picks.length pc]] w (RWrote C w a (d.step ⟨8, n, name, to, b, picks⟩)) := by
  have H1 := Lib.hid (h.below (below1 w (.cells #[.int .i64 8, .int .i64 n, nmv name, nmv to, .slice ao b.length cap, .slice po picks.length pc] 36)))
  have HL := Lib.hid h.lt
  have HS := Lib.hid hs
  have HB := Lib.hid (hb.below (below1 w (.cells #[.int .i64 8, .int .i64 n, nmv name, nmv to, .slice ao b.length cap, .slice po picks.length pc] 36)))
  have HP := Lib.hid (hp.below (below1 w (.cells #[.int .i64 8, .int .i64 n, nmv name, nmv to, .slice ao b.length cap, .slice po picks.length pc] 36)))
  have HC := Lib.hid hC
  have HD := Lib.hid hd
  have e : d.step ⟨8, n, name, to, b, picks⟩ = (d.crash picks, 0) := by unfold Dk.step; simp
  rw [e]
  clear h hs hb hp hC hd e
  go_enter Try.func14, Try.ntmps14
  go_wp2_with (go_at_call 44; (refine (rcrash_any H1.out HP.out HC.out).mono ?_); rintro e w' ⟨rfl, hk, ht⟩; have HK := Lib.hid hk; have HT := Lib.hid ht; clear hk ht)
  go_ret
  exact rwrote_from ⟨rfl, HK.out, HT.out⟩ (below1 w _) HL.out
set_option maxRecDepth 100000 in
theorem model_9 {ao po : Option Addr} {cap pc : Nat} {n : Int} {name to : Nm} {b : List UInt8} {picks : List Int} (h : RAt C w a d v us) (hs : Do.small ⟨9, n, name, to, b, picks⟩) (hb : SB D w ao b.length cap b) (hp : SI D w po picks.length pc picks) (hC : ∀ k, D k → ¬ C k) (hd : d.done < 9223372036854775807) :
    Calls Try.prog 14 #[ptr a, .agg #[.int .i64 9, .int .i64 n, nmv name, nmv to, .slice ao b.length cap, .slice po picks.length pc]] w (RWrote C w a (d.step ⟨9, n, name, to, b, picks⟩)) := by
  have H1 := Lib.hid (h.below (below1 w (.cells #[.int .i64 9, .int .i64 n, nmv name, nmv to, .slice ao b.length cap, .slice po picks.length pc] 36)))
  have HL := Lib.hid h.lt
  have HS := Lib.hid hs
  have HB := Lib.hid (hb.below (below1 w (.cells #[.int .i64 9, .int .i64 n, nmv name, nmv to, .slice ao b.length cap, .slice po picks.length pc] 36)))
  have HP := Lib.hid (hp.below (below1 w (.cells #[.int .i64 9, .int .i64 n, nmv name, nmv to, .slice ao b.length cap, .slice po picks.length pc] 36)))
  have HC := Lib.hid hC
  have HD := Lib.hid hd
  have e : d.step ⟨9, n, name, to, b, picks⟩ = (d, (d.read name).2) := by unfold Dk.step; simp
  rw [e]
  clear h hs hb hp hC hd e
  go_enter Try.func14, Try.ntmps14
  go_wp2_with (go_at_call 17; (refine (rread_any H1.out _).mono ?_); rintro e w' ⟨ao2, cap2, rfl, hsb, hww⟩; have HWW := Lib.hid hww; clear hsb hww)
  go_ret
  have hww := HWW.out
  subst hww
  exact rwrote_from (rwrote_same (r := (d, (d.read name).2)) H1.out (Tn.refl _ _) H1.out.lt) (below1 w _) HL.out
set_option maxRecDepth 100000 in
set_option maxHeartbeats 1000000 in
theorem model_0 {ao po : Option Addr} {cap pc : Nat} {q n : Int} {name to : Nm} {b : List UInt8} {picks : List Int} (h : RAt C w a d v us) (hs : Do.small ⟨q, n, name, to, b, picks⟩) (hb : SB D w ao b.length cap b) (hp : SI D w po picks.length pc picks) (hC : ∀ k, D k → ¬ C k) (hd : d.done < 9223372036854775807) (h1 : q ≠ 1) (h2 : q ≠ 2) (h3 : q ≠ 3) (h4 : q ≠ 4) (h5 : q ≠ 5) (h6 : q ≠ 6) (h7 : q ≠ 7) (h8 : q ≠ 8) (h9 : q ≠ 9) :
    Calls Try.prog 14 #[ptr a, .agg #[.int .i64 q, .int .i64 n, nmv name, nmv to, .slice ao b.length cap, .slice po picks.length pc]] w (RWrote C w a (d.step ⟨q, n, name, to, b, picks⟩)) := by
  have H1 := Lib.hid (h.below (below1 w (.cells #[.int .i64 q, .int .i64 n, nmv name, nmv to, .slice ao b.length cap, .slice po picks.length pc] 36)))
  have HL := Lib.hid h.lt
  have HS := Lib.hid hs
  have HB := Lib.hid (hb.below (below1 w (.cells #[.int .i64 q, .int .i64 n, nmv name, nmv to, .slice ao b.length cap, .slice po picks.length pc] 36)))
  have HP := Lib.hid (hp.below (below1 w (.cells #[.int .i64 q, .int .i64 n, nmv name, nmv to, .slice ao b.length cap, .slice po picks.length pc] 36)))
  have HC := Lib.hid hC
  have HD := Lib.hid hd
  have e : d.step ⟨q, n, name, to, b, picks⟩ = (d, 0) := by unfold Dk.step; simp [h1, h2, h3, h4, h5, h6, h7, h8, h9]
  rw [e]
  clear h hs hb hp hC hd e
  go_enter Try.func14, Try.ntmps14
  go_wp2
  go_ret
  exact rwrote_from (rwrote_same (r := (d, 0)) H1.out (Tn.refl _ _) H1.out.lt) (below1 w _) HL.out
theorem model_any {p : Do} {ao po : Option Addr} {cap pc : Nat} (h : RK C w a d) (hs : p.small) (hb : SB D w ao p.b.length cap p.b) (hp : SI D w po p.picks.length pc p.picks) (hC : ∀ k, D k → ¬ C k) (hd : d.done < 9223372036854775807) :
    Calls Try.prog 14 #[ptr a, opv p ao cap po pc] w (RWrote C w a (d.step p)) := by
  obtain ⟨v, us, h⟩ := h
  obtain ⟨kind, n, name, to, b, picks⟩ := p
  unfold opv
  by_cases h1 : kind = 1
  · subst h1; exact model_1 h hs hb hp hC hd
  by_cases h2 : kind = 2
  · subst h2; exact model_2 h hs hb hp hC hd
  by_cases h3 : kind = 3
  · subst h3; exact model_3 h hs hb hp hC hd
  by_cases h4 : kind = 4
  · subst h4; exact model_4 h hs hb hp hC hd
  by_cases h5 : kind = 5
  · subst h5; exact model_5 h hs hb hp hC hd
  by_cases h6 : kind = 6
  · subst h6; exact model_6 h hs hb hp hC hd
  by_cases h7 : kind = 7
  · subst h7; exact model_7 h hs hb hp hC hd
  by_cases h8 : kind = 8
  · subst h8; exact model_8 h hs hb hp hC hd
  by_cases h9 : kind = 9
  · subst h9; exact model_9 h hs hb hp hC hd
  exact model_0 h hs hb hp hC hd h1 h2 h3 h4 h5 h6 h7 h8 h9
end
end Go.Proofs.Ytefgnlijgomgpaa
