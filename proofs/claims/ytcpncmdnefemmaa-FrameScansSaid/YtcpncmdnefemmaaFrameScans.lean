/- Any bytes are scanned as the document says, and what is told is new memory: racelaw5.FrameScans answers true and leaves its argument as it was. Conditions: none. -/
import Derived.Test.YtcpncmdnefemmaaW
import Derived.Test.YtcpncmdnefemmaaZ
import Derived.Test.YtcpncmdnefemmaaI
import Derived.Test.YtcpncmdnefemmaaT
namespace Go.Proofs.Ytcpncmdnefemmaa
open Go.ChangeShapes Go.WideShapes Go.ChangeAt Go.RowKit
/-- The first k rows are of the byte 88 alone, those behind are no longer than records. -/
def Fill (n k : Nat) (M : List (List UInt8)) : Prop := M.length = n ∧ (∀ r, r < k → ∀ x ∈ M.getD r [], x = 88) ∧ ∀ r, k ≤ r → (M.getD r []).length ≤ 262144
theorem Fill.step {n k : Nat} {M : List (List UInt8)} (h : Fill n k M) (hk : k < n) {l : List UInt8} (hl : ∀ x ∈ l, x = 88) : Fill n (k + 1) (M.set k l) := by
  obtain ⟨h1, h2, h3⟩ := h
  refine ⟨by rw [List.length_set]; exact h1, fun r hr => ?_, fun r hr => ?_⟩
  · by_cases e : r = k
    · subst e; rw [getD_set_eq (by omega)]; exact hl
    · rw [getD_set_ne (fun e' => e e'.symm)]; exact h2 r (by omega)
  · rw [getD_set_ne (by omega)]; exact h3 r (by omega)
theorem bys_set (l : List UInt8) (i : Nat) (y : UInt8) : bys (l.set i y) = (bys l).set i (.int .u8 (y.toNat : Int)) := by
  unfold bys; rw [List.map_set]
theorem set_take {l : List UInt8} {q : Nat} (h : q < l.length) (y : UInt8) : (l.set q y).take (q + 1) = l.take q ++ [y] := by
  rw [List.take_add_one, List.getElem?_set_self h, List.take_set, List.set_eq_of_length_le (by rw [List.length_take]; omega)]; rfl
theorem frameScans_long (w : World) (ao : Option Addr) (n cap : Nat) (h : 20000 < n) :
    Calls Try.prog 5 #[.slice ao n cap] w fun e w' => e = .returned (.bool true) ∧ Below w.heap.size w w' := by
  have HB := Lib.hid (Below.refl w.heap.size w)
  have hgt : (20000 : Int) < (n : Int) := by omega
  clear h
  go_enter Try.func5, Try.ntmps5
  go_wp2_with (first
    | (go_at_call 10; (with_reducible refine (first_any _).mono ?_); rintro e w1 ⟨rfl, hb⟩; have HB := Lib.hid (HB.out.trans (hb.mono HB.out.size)); clear hb))
  go_ret
  exact ⟨rfl, HB.out⟩
set_option maxHeartbeats 4000000 in
set_option maxRecDepth 100000 in
theorem frameScans_walk (w : World) (ao : Option Addr) (cap : Nat) (l : List UInt8) (h : SB w.heap.size w ao l.length cap l) :
    Calls Try.prog 5 #[.slice ao l.length cap] w fun e w' => e = .returned (.bool true) ∧ Below w.heap.size w w' := by
  by_cases hn : 20000 < l.length
  · exact frameScans_long w ao _ cap hn
  obtain ⟨i0, hi, hz0, hz1, hz2⟩ := info_parts info5
  have HB := Lib.hid (Below.refl w.heap.size w)
  obtain ⟨g1, _, g3, _⟩ := scan_small (b := l)
  have H := Lib.hid h
  have HL := Lib.hid (beq_self_eq_true l)
  generalize hN : l.length = N at *
  have HN := Lib.hid hN
  generalize hS : scanV l = S at *
  obtain ⟨L, m⟩ := S
  simp only at g1 g3
  have HS := Lib.hid hS
  have HLL := Lib.hid (beq_self_eq_true L)
  have HF : Hid (Fill L.length 0 L) := ⟨rfl, fun r hr => by omega, fun r _ => get_small g1 r⟩
  generalize hq : L.length = n at *
  have HQ := Lib.hid hq
  have hmm : ((m : Int) != (m : Int)) = false := by simp
  clear h hN hS g1 hq
  go_enter Try.func5, Try.ntmps5
  go_wp2_with (first
    | (go_at_call 10; (with_reducible refine (first_any _).mono ?_); rintro e w1 ⟨rfl, hb⟩; have HB := Lib.hid (HB.out.trans (hb.mono HB.out.size)); clear hb)
    | (go_at_call 11; (with_reducible refine (copyBytes_any ((H.out.below HB.out).mono HB.out.size) (by omega)).mono ?_); rintro e w2 ⟨co, cc, rfl, ho, hb⟩; have HI := Lib.hid (own_sb ho); have HB2 := Lib.hid (HB.out.trans (hb.mono HB.out.size)); clear ho hb)
    | (go_at_call 17; (with_reducible refine (scan_any HI.out (by omega)).mono ?_); rintro e w3 ⟨v4, us4, rfl, hr, hb⟩; rw [HS.out] at hr ⊢; obtain ⟨ro, rc, rfl⟩ := own_slice hr.own; have HR := Lib.hid hr; dsimp only at HR ⊢; rw [HQ.out] at HR ⊢; have HW := Lib.hid hb; clear hr hb)
    | (go_at_call 18; (with_reducible refine (rscan_any (((H.out.below HB2.out).below (HW.out.mono HB2.out.size)).mono (Nat.le_trans HB2.out.size HW.out.size)) (by omega)).mono ?_); rintro e w4 ⟨v5, us5, rfl, hr, hb⟩; rw [HS.out] at hr ⊢; obtain ⟨ro2, rc2, rfl⟩ := own_slice hr.own; have HR2 := Lib.hid hr; dsimp only at HR2 ⊢; rw [HQ.out] at HR2 ⊢; have HR := Lib.hid (HR.out.below hb); have HW := Lib.hid (HW.out.trans (hb.mono HW.out.size)); clear hr hb)
    | (go_at_call 19; (with_reducible refine (rows_any (HR.out.rb HQ.out.symm) (HR2.out.rb HQ.out.symm)).mono ?_); rw [HLL.out]; rintro e w5 ⟨rfl, q, hq⟩; have hb := below_drewN w4 q; rw [← hq] at hb; have HR := Lib.hid (HR.out.below hb); have HW := Lib.hid (HW.out.trans (hb.mono HW.out.size)); clear hb hq))
  clear hmm
  have hn63 := (HR.out.rb HQ.out.symm).lt
  go_loopw [8] (fun i wr => ∃ (k : Nat) (us : List Value) (M : List (List UInt8)), i = .int .i64 k ∧ k ≤ n ∧ Hid (Rs w2.heap.size wr (.slice ro n rc) us M) ∧ Hid (Fill n k M) ∧ Hid (Below w2.heap.size w2 wr)) (fun i _ => n - (intOf i).toNat)
  case atStart => exact ⟨0, us4, L, rfl, Nat.zero_le _, HR, HF, HW⟩
  case round =>
    obtain ⟨k, us, M, rfl, hk, HR, HF, HW⟩ := hrel
    by_cases hkn : k < n
    · have hkM : k < M.length := by rw [HF.out.1]; exact hkn
      have HKM := Lib.hid hkM
      have hlen := HR.out.len
      have ho := HR.out.own
      rw [HF.out.1] at ho
      obtain ⟨g, rc', hv⟩ := own_shape ho (by omega)
      cases hv
      have c1 := ho.cellAt k (by omega)
      have hrow := HR.out.row k hkM
      obtain ⟨uo, uc, hu⟩ := own_slice hrow
      have hul := HF.out.2.2 k (Nat.le_refl _)
      rw [show us[k]? = some (us.getD k undef) by rw [List.getD_eq_getElem?_getD, List.getElem?_eq_getElem (by omega)]; rfl, hu] at c1
      have HU := Lib.hid hu
      rw [hu] at hrow
      generalize hr : M.getD k [] = r at *
      generalize hrl : r.length = rl at *
      have HRL := Lib.hid hrl
      have HO := Lib.hid hrow
      have hsz := HW.out.size
      have HSZ := Lib.hid hsz
      clear hu hr hrl ho hrow hkM hlen hsz
      go_wp2_with (first
        | (at_builtin; refine wpList_append_own_at _ rfl (.tmp 50) (.tmp 51) 22 rfl w2.heap.size 5 i0 (.int .u8 0) 1 1 under22 hi hz0 hz1 hz2 rfl (by decide) (.slice uo rl uc) rl (bys r) rfl (HO.out.alloc _) ⟨wr.heap.size, 0, none⟩ 1 1 (bys [88]) rfl rfl (cell_one_new _ _ _) (bys_one _) (by unfold maxLen; omega) (by omega) (by have := HSZ.out; simp; omega) ?_; intro v2 w6 hown hg _ hat; obtain ⟨g2, uc2, hv2⟩ := own_shape hown (by omega); subst hv2; have hR6 := HR.out.below (below1 wr (.cells #[.int .u8 88] 5)); have h6 := hR6.own.kept hg (own_apart (HO.out.alloc (.cells #[.int .u8 88] 5)) hR6.own (by decide)); rw [HF.out.1] at h6; have c2 := h6.cellAt k (by omega); have fr2 := h6.frozenAt k; rw [show us[k]? = some (us.getD k undef) by rw [List.getD_eq_getElem?_getD, List.getElem?_eq_getElem (by rw [HR.out.len]; exact HKM.out)]; rfl, HU.out] at c2; have hs7 := hR6.swap (i := k) (l := r ++ [88]) (u := .slice (some ⟨g2, 0, none⟩) (rl + 1) uc2) HF.out.1.symm HKM.out (by rw [HU.out]; exact hg) (by rw [List.length_append, HRL.out, bys_append]; exact hown) (by rw [HU.out]; exact hat); have HS7 := Lib.hid hs7; have hb6 := (HW.out.alloc HSZ.out (.cells #[.int .u8 88] 5)).grown hg (by have := HSZ.out; simp; omega) (fun k hk => (HO.out.lt k hk).1); have HW7 := Lib.hid (hb6.setCell (p := ⟨g, k, none⟩) ((h6.lt g rfl).1) (.slice (some ⟨g2, 0, none⟩) (rl + 1) uc2)); clear hown hg hat hR6 h6 hs7 hb6))
      have HL1 : Hid ((r ++ [88]).length = rl + 1) := by rw [List.length_append, HRL.out]; exact rfl
      generalize w6.setCell ⟨g, k, none⟩ (.slice (some ⟨g2, 0, none⟩) (rl + 1) uc2) = wo at *
      clear c1 c2 fr2
      generalize hus : us.set k (.slice (some ⟨g2, 0, none⟩) (rl + 1) uc2) = us2 at *
      have HUS : Hid (us2[k]? = some (.slice (some ⟨g2, 0, none⟩) (rl + 1) uc2)) := by rw [← hus]; exact List.getElem?_set_self (by rw [HR.out.len]; exact HKM.out)
      have HUD : Hid (us2.getD k undef = .slice (some ⟨g2, 0, none⟩) (rl + 1) uc2) := by rw [List.getD_eq_getElem?_getD, HUS.out]; exact rfl
      clear hus
      go_loopw [9] (fun j wr => ∃ (q : Nat) (l' : List UInt8), j = .int .i64 q ∧ q ≤ rl + 1 ∧ Hid (l'.length = rl + 1) ∧ Hid (∀ x ∈ l'.take q, x = 88) ∧ Hid (Rs w2.heap.size wr (.slice (some ⟨g, 0, none⟩) n rc) us2 (M.set k l')) ∧ Hid (Below w2.heap.size w2 wr)) (fun j _ => rl + 1 - (intOf j).toNat)
      case atStart => exact ⟨0, _, rfl, Nat.zero_le _, HL1, (fun x hx => by simp at hx), HS7, HW7⟩
      case round =>
        obtain ⟨q, l', rfl, hq, HL2, HE, HR8, HW8⟩ := hrel
        have hMl : (M.set k l').length = n := by rw [List.length_set]; exact HF.out.1
        have hMk : (M.set k l').getD k [] = l' := getD_set_eq HKM.out
        have ho := HR8.out.own
        rw [hMl] at ho
        have c1 := ho.cellAt k (by omega)
        rw [HUS.out] at c1
        have hrow := HR8.out.row k (by rw [hMl]; exact hkn)
        rw [HUD.out, hMk, HL2.out] at hrow
        by_cases hqr : q < rl + 1
        · have c2 := hrow.cellAt q (by omega)
          have fr2 := hrow.frozenAt q
          obtain ⟨z, hz⟩ : ∃ z, (bys l')[q]? = some z := ⟨_, List.getElem?_eq_getElem (by rw [bys_length, HL2.out]; exact hqr)⟩
          rw [hz] at c2
          have HST := Lib.hid (hrow.stored q (.int .u8 88))
          have HBK := Lib.hid ((hrow.lt g2 rfl).1)
          clear hz hrow ho hMl hMk
          go_wp2
          refine ⟨⟨q + 1, l'.set q 88, by go_num, by omega, by rw [List.length_set]; exact HL2.out, fun x hx => ?_, ?_, HW8.out.setCell (p := ⟨g2, q, none⟩) HBK.out _⟩, by simp [intOf]; omega⟩
          · rw [set_take (by rw [HL2.out]; exact hqr)] at hx
            rcases List.mem_append.1 hx with hx | hx
            · exact HE.out x hx
            · simpa using hx
          · have hp := HR8.out.put (w' := wr.setCell ⟨g2, q, none⟩ (.int .u8 88)) (i := k) (l := l'.set q 88) (by rw [List.length_set]; exact HKM.out) (by rw [HUD.out]; exact HST.out.2) (by rw [HUD.out, List.length_set, HL2.out, bys_set]; exact HST.out.1)
            rw [List.set_set] at hp
            exact hp
        · obtain rfl : q = rl + 1 := by omega
          clear hrow ho hMl hMk
          go_wp2
          refine ⟨⟨k + 1, us2, M.set k l', by go_num, by omega, HR8, HF.out.step hkn (fun x hx => HE.out x ?_), HW8⟩, by simp [intOf]; omega⟩
          rw [List.take_of_length_le (by rw [HL2.out]; exact Nat.le_refl _)]
          exact hx
    · obtain rfl : n = k := by omega
      go_wp2
      go_loop [10] (fun i => ∃ k : Nat, i = .int .i64 k ∧ k ≤ n) (fun i => n - (intOf i).toNat)
      case atStart => exact ⟨0, rfl, Nat.zero_le _⟩
      case round =>
        obtain ⟨k, rfl, hk2⟩ := hrel
        by_cases hkn2 : k < n
        · have hkM : k < M.length := by rw [HF.out.1]; exact hkn2
          have hlen := HR.out.len
          have ho := HR.out.own
          rw [HF.out.1] at ho
          obtain ⟨g, rc', hv⟩ := own_shape ho (by omega)
          cases hv
          have c1 := ho.cellAt k (by omega)
          have hrow := HR.out.row k hkM
          obtain ⟨uo, uc, hu⟩ := own_slice hrow
          have h88 := HF.out.2.1 k hkn2
          rw [show us[k]? = some (us.getD k undef) by rw [List.getD_eq_getElem?_getD, List.getElem?_eq_getElem (by omega)]; rfl, hu] at c1
          rw [hu] at hrow
          generalize hr : M.getD k [] = r at *
          generalize hrl : r.length = rl at *
          have HRL := Lib.hid hrl
          have HO := Lib.hid hrow
          have H88 := Lib.hid h88
          have hr63 := (own_sb hrow).lt
          clear hu hr hrl ho hrow hkM hlen h88
          go_wp2
          go_loop [11] (fun j => ∃ q : Nat, j = .int .i64 q ∧ q ≤ rl) (fun j => rl - (intOf j).toNat)
          case atStart => exact ⟨0, rfl, Nat.zero_le _⟩
          case round =>
            obtain ⟨q, rfl, hq⟩ := hrel
            by_cases hqr : q < rl
            · obtain ⟨b, c', hv⟩ := own_shape HO.out (by omega)
              cases hv
              have c2 := HO.out.cellAt q (by omega)
              have hz : (bys r)[q]? = some (.int .u8 88) := by
                have h1 : q < r.length := by rw [HRL.out]; exact hqr
                have := H88.out _ (List.getElem_mem h1)
                unfold bys
                rw [List.getElem?_map, List.getElem?_eq_getElem h1, this]; rfl
              rw [hz] at c2
              clear hz
              go_wp2
              exact ⟨⟨q + 1, by go_num, by omega⟩, by simp [intOf]; omega⟩
            · obtain rfl : rl = q := by omega
              go_wp2
              exact ⟨⟨k + 1, by go_num, by omega⟩, by simp [intOf]; omega⟩
        · obtain rfl : n = k := by omega
          have HBW := Lib.hid (HB2.out.trans (HW.out.mono HB2.out.size))
          have HIW := Lib.hid (HI.out.below HW.out)
          go_wp2_with (first
            | (go_at_call 10; (with_reducible refine (first_any _).mono ?_); rintro e w8 ⟨rfl, hb⟩; have HIW := Lib.hid (HIW.out.below (hb.mono HW.out.size)); have HBW := Lib.hid (HBW.out.trans (hb.mono HBW.out.size)); clear hb)
            | (go_at_call 16; (with_reducible refine (bytes_any HIW.out (H.out.below HBW.out)).mono ?_); rw [HL.out]; rintro e w9 ⟨rfl, rfl⟩))
          go_ret
          exact ⟨rfl, HBW.out⟩

set_option maxRecDepth 100000 in
theorem frameScans_lifted (os : Os) (started : os.Started) (H : Type) (enc : TypeId × Value → H) :
    ReturnsInHanded {} Try.checked os 5 .any (Rows.frameScansSpec.pre6 enc Try.prog Try.f5 [] false) (Rows.frameScansSpec.post enc Try.prog Try.f5 false true false false) := by
  refine returnsInHanded_of_change (C := Try.checked) own started (by kernel_rfl) Try.func5
    (ChangeSpec.witness6 (enc := enc) (C := Try.checked) false ⟨#[], #[.slice none 0 0], []⟩ 8 (by kernel_rfl) (by kernel_rfl) (by kernel_rfl) (by kernel_rfl)) ?_
  intro W base args ds gs before hval0 hW _ _
  have hval : ∀ (j : Nat) t v, Try.f5.params[j]? = some t → args[j]? = some v → Value.okWide Try.prog W .any base t v := hval0
  have hW' := hW
  obtain ⟨p, q, hA0, hV, rfl, hfz, hnd⟩ := hW
  have hA : DataW.TrodAll enc Try.prog W 0 (fun _ => true) true Try.f5.params.toList args.toList ds p := hA0
  rw [Try.params5] at hA hval
  obtain ⟨v0, d0, rfl, rfl, h0⟩ := trodAll_one hA
  obtain ⟨b0, len0, cap0, rfl⟩ := okWide_slice Try.underlying22 (hval 0 22 v0 rfl rfl)
  have k0 := h0
  obtain ⟨fuel0, g0⟩ := h0
  obtain ⟨rfl, rfl⟩ := trodVars_none hV
  clear hA0 hval0
  simp only [List.append_nil] at hW'
  have hlt : ∀ x ∈ p, x.block < W.heap.size := fun x hx => hW'.lt x (by simpa using hx)
  obtain ⟨ao0, c0, xs0, hv0, r0⟩ := open_sb g0
  refine Calls.mono (?walk : Calls _ _ _ _ fun e w' => e = .returned (.bool true) ∧ Below W.heap.size W w') fun e W' ⟨he, hw⟩ => ?_
  case walk =>
    rw [hv0]
    exact frameScans_walk W ao0 c0 xs0 r0
  subst he
  exact ⟨_, rfl, post_of_below (pa := p) (pv := []) hW' (fun _ _ _ => trodAll_mk1 (shut_bool Try.underlying4 _)) (fun sp hsp => trodAll_mk1 (WideElems.Trod_stays laidOut (by kernel_rfl) (of_decide_eq_true (by kernel_rfl)) k0 (fun x hx => hw.same (hlt x (by first | (simp [hx]; done) | exact nomatch hx))) (fun x hx => hsp x (by first | (simp [hx]; done) | exact nomatch hx)))) (fun _ _ => rfl) (by simp) hw (ok_one (by kernel_rfl) rfl (okWide_bool_mk Try.underlying4 _))⟩
/-- THE ROW. -/
theorem frameScans_holds : Rows.FrameScansSaid :=
  OpenClaim.holds_of_wide 5 Try.f5 rfl rfl rfl rfl rfl rfl rfl ⟨rfl, rfl, rfl, rfl, rfl⟩ rfl rfl rfl rfl rfl (by kernel_rfl) Try.func5 (by kernel_rfl)
    (of_decide_eq_true (by kernel_rfl)) (by unfold Func.isWrapper; first | (rw [if_pos (by decide +kernel)]; kernel_rfl) | (rw [if_neg (by decide +kernel)]; exact ⟨rfl, rfl⟩))
    (fun os started H enc _ => frameScans_lifted os started H enc)
#print axioms frameScans_holds
end Go.Proofs.Ytcpncmdnefemmaa
