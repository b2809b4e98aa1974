/- Texts as values, and values as texts, by the code and by the document. Conditions: no more than 20000 bytes; the library's tables hold what their initialisers lay. -/
import Derived.Test.YtbgccaconhmbaaaGreatDoorJSm
import Derived.Test.YtbgccaconhmbaaaGreatDoorJSaid
namespace Go.Proofs.YtbgccaconhmbaaaGreatDoor
open Go.RowKit
theorem ext_pre (s : ByteArray) (h : 0 < s.size) (hb : s[0] = 45) : (s.extract 1 s.size).data.toList = Lib.trimPrefix s.data.toList [45] ∧ Lib.hasPrefix s.data.toList [45] = true := by
  have e := head_eq s h
  rw [hb] at e
  obtain ⟨p1, p2⟩ := pre_true (s.data.toList.drop 1)
  rw [← e] at p1 p2
  exact ⟨by rw [Lib.extract_to_end, p2], p1⟩
/-- raceref1.Parse, any text of at most 20000 bytes. -/
theorem rparse_any (s : ByteArray) (hs : s.size ≤ 20000) (w : World) :
    Calls Tryz.prog 99 #[.string s] w fun e w' => e = .returned (.tuple #[.float .f64 (parseN s.data.toList).1, .int .i64 (parseN s.data.toList).2]) ∧ Below w.heap.size w w' := by
  cases n1 : (s.data.toList == [110, 97, 110])
  case true =>
    have e : s.data.toList = [110, 97, 110] := by simpa using n1
    rw [e, of_list e]
    refine (rparse_nan w).mono ?_; rintro e w' ⟨he, rfl⟩; exact ⟨he, Below.refl _ _⟩
  cases n2 : (s.data.toList == [105, 110, 102])
  case true =>
    have e : s.data.toList = [105, 110, 102] := by simpa using n2
    rw [e, of_list e]
    refine (rparse_inf w).mono ?_; rintro e w' ⟨he, rfl⟩; exact ⟨he, Below.refl _ _⟩
  cases n3 : (s.data.toList == [45, 105, 110, 102])
  case true =>
    have e : s.data.toList = [45, 105, 110, 102] := by simpa using n3
    rw [e, of_list e]
    refine (rparse_minf w).mono ?_; rintro e w' ⟨he, rfl⟩; exact ⟨he, Below.refl _ _⟩
  cases n4 : (s.data.toList == [48])
  case true =>
    have e : s.data.toList = [48] := by simpa using n4
    rw [e, of_list e]
    refine (rparse_zero w).mono ?_; rintro e w' ⟨he, rfl⟩; exact ⟨he, Below.refl _ _⟩
  cases n5 : (s.data.toList == [45, 48])
  case true =>
    have e : s.data.toList = [45, 48] := by simpa using n5
    rw [e, of_list e]
    refine (rparse_mzero w).mono ?_; rintro e w' ⟨he, rfl⟩; exact ⟨he, Below.refl _ _⟩
  have hpl : parseN s.data.toList = coreN s.data.toList := by
    unfold parseN; rw [n1, n2, n3, n4, n5]; rfl
  rw [← toList_data] at n1 n2 n3 n4 n5
  by_cases h0 : s.size = 0
  · have e : s.data.toList = [] := by rw [Lib.size_eq] at h0; exact List.length_eq_zero_iff.1 h0
    rw [hpl, e, of_list e]
    refine (rparse_empty w).mono ?_; rintro e w' ⟨he, rfl⟩; exact ⟨he, Below.refl _ _⟩
  have hs0 : 0 < s.size := by omega
  by_cases hb : s[0] = 45
  · obtain ⟨e1, e2⟩ := ext_pre s hs0 hb
    exact rparse_m s _ rfl hs hs0 (byte_t 45 45 rfl hb) rfl e1.symm e2 n1 n2 n3 n4 n5 hpl w
  · have hnp := pre_false (l := s.data.toList) (fun u hu => hb (by rw [idx_get s 0 hs0, hu]; rfl))
    exact rparse_p s rfl hs hs0 (byte_f 45 45 rfl hb) hnp.2 hnp.1 n1 n2 n3 n4 n5 hpl w

def pnV (l : List UInt8) : DV × Int := if (parseN l).2 = 0 then (⟨1, canon (parseN l).1, []⟩, 0) else (DV.none, (parseN l).2)
def dparseV (l : List UInt8) : DV × Int := if Lib.hasPrefix l [34] = true then ptV l else if l = [110, 111, 110, 101] then (DV.none, 0) else pnV l
theorem parseNumber_any (s : ByteArray) (hs : s.size ≤ 20000) (w : World) :
    Calls Tryz.prog 130 #[.string s] w fun e w' => e = .returned (.tuple #[vagg (pnV s.data.toList).1, .int .i64 (pnV s.data.toList).2]) ∧ Below w.heap.size w w' := by
  have hst := run_stf
  have HP := fun w => Lib.hid (parse_any s (by omega) w)
  have H1 := Lib.hid (below1 w (vobj DV.none))
  have HT := Lib.hid (at_new w DV.none)
  unfold pnV
  generalize parseN s.data.toList = R at *
  obtain ⟨x, e⟩ := R
  simp only at HP ⊢
  have HN := fun w => Lib.hid (number_any x w)
  by_cases he : e = 0
  · subst he
    rw [if_pos rfl]
    go_enter Tryz.func130, Tryz.ntmps130
    go_wp2_with (first
      | (go_at_call 168; ((with_reducible refine (HP _).out.mono ?_); rintro e w1 ⟨rfl, hb⟩; have HZ0 := Lib.hid (HT.out.below hb HT.out.lt); have HB0 := Lib.hid (H1.out.trans (hb.mono H1.out.size)); clear hb))
      | (go_at_call 113; ((with_reducible refine (HN _).out.mono ?_); rintro e w2 ⟨rfl, hb⟩; have hz := HZ0.out.below hb HZ0.out.lt; have d3 := hz.c0; have d4 := hz.c1; have d5 := hz.c2; have g0 := hz.f0; have g1 := hz.f1; have g2 := hz.f2; have HZ := Lib.hid hz; have HB1 := Lib.hid (HB0.out.trans (hb.mono HB0.out.size)); clear hb hz)))
    exact bodyPost_ret (res_pair rfl _ rfl (HZ.out.setAll ⟨1, canon x, []⟩)) rfl ⟨rfl, below_set3 HB1.out (Nat.le_refl _) _ _ _⟩
  · rw [if_neg he]
    have he' : (e != 0) = true := by rw [bne_iff_ne]; exact he
    clear he
    go_enter Tryz.func130, Tryz.ntmps130
    go_wp2_with (first
      | (go_at_call 168; ((with_reducible refine (HP _).out.mono ?_); rintro e w1 ⟨rfl, hb⟩; have hz := HT.out.below hb HT.out.lt; have d3 := hz.c0; have d4 := hz.c1; have d5 := hz.c2; have g0 := hz.f0; have g1 := hz.f1; have g2 := hz.f2; have HZ := Lib.hid hz; have HB1 := Lib.hid (H1.out.trans (hb.mono H1.out.size)); clear hb hz)))
    exact bodyPost_ret (res_pair rfl _ rfl (HZ.out.setAll DV.none)) rfl ⟨rfl, below_set3 HB1.out (Nat.le_refl _) _ _ _⟩
theorem dparse_any (s : ByteArray) (hs : s.size ≤ 20000) (w : World) :
    Calls Tryz.prog 96 #[.string s] w fun e w' => e = .returned (.tuple #[vagg (dparseV s.data.toList).1, .int .i64 (dparseV s.data.toList).2]) ∧ Below w.heap.size w w' := by
  unfold dparseV
  cases hp : Lib.hasPrefix s.data.toList [34]
  case true =>
    rw [if_pos rfl]
    exact parse_quoted s (by omega) hp w
  rw [if_neg (by simp)]
  have hst := run_stf
  have HP := fun w => Lib.hid (Tryz.strings_HasPrefix s ⟨#[34]⟩ w)
  rw [show (⟨#[34]⟩ : ByteArray).data.toList = [34] from rfl, hp] at HP
  have HU := fun w => Lib.hid (parseNumber_any s hs w)
  have H1 := Lib.hid (below1 w (vobj DV.none))
  have HT := Lib.hid (at_new w DV.none)
  clear hp hs
  by_cases hn : s.data.toList = [110, 111, 110, 101]
  · obtain rfl := of_list hn
    rw [if_pos rfl]
    have hz := HT.out
    have d3 := hz.c0
    have d4 := hz.c1
    have d5 := hz.c2
    have g0 := hz.f0
    have g1 := hz.f1
    have g2 := hz.f2
    clear hz hn HU
    go_enter Tryz.func96, Tryz.ntmps96
    go_wp2_with (first
      | (go_at_call 126; refine (HP _).out.mono ?_; rintro e w1 ⟨rfl, hww⟩; obtain rfl := hww.symm))
    exact bodyPost_ret (res_pair rfl _ rfl HT.out) rfl ⟨rfl, H1.out⟩
  · rw [if_neg hn]
    have hne : (s.toList == [110, 111, 110, 101]) = false := by rw [Lib.toList_data, beq_eq_false_iff_ne]; exact hn
    clear hn
    generalize pnV s.data.toList = R at *
    obtain ⟨⟨k, x, l⟩, n⟩ := R
    go_enter Tryz.func96, Tryz.ntmps96
    go_wp2_with (first
      | (go_at_call 126; refine (HP _).out.mono ?_; rintro e w1 ⟨rfl, hww⟩; obtain rfl := hww.symm)
      | (go_at_call 130; ((with_reducible refine (HU _).out.mono ?_); rintro e w1 ⟨rfl, hb⟩; have hz := HT.out.below hb HT.out.lt; have d3 := hz.c0; have d4 := hz.c1; have d5 := hz.c2; have g0 := hz.f0; have g1 := hz.f1; have g2 := hz.f2; have HZ := Lib.hid hz; have HB1 := Lib.hid (H1.out.trans (hb.mono H1.out.size)); clear hb hz)))
    exact bodyPost_ret (res_pair rfl _ rfl (HZ.out.setAll ⟨k, x, l⟩)) rfl ⟨rfl, below_set3 HB1.out (Nat.le_refl _) _ _ _⟩
theorem pre34 {s : ByteArray} (h : Lib.hasPrefix s.data.toList [34] = true) : ∃ h0 : 0 < s.size, s[0] = 34 := by
  unfold Lib.hasPrefix at h
  obtain ⟨r, hr⟩ := List.isPrefixOf_iff_prefix.1 h
  have h0 : 0 < s.size := by rw [Lib.size_eq, ← hr]; simp
  refine ⟨h0, ?_⟩
  rw [at_i s 0 h0, ← hr]
  rfl
theorem npre34 {s : ByteArray} (h : Lib.hasPrefix s.data.toList [34] = false) (h0 : 0 < s.size) : s[0] ≠ 34 := by
  intro e
  have hl := head_eq s h0
  rw [e] at hl
  rw [hl] at h
  simp [Lib.hasPrefix] at h
theorem rdparse_any (s : ByteArray) (hs : s.size ≤ 20000) (w : World) :
    Calls Tryz.prog 58 #[.string s] w fun e w' => e = .returned (.tuple #[vagg (dparseV s.data.toList).1, .int .i64 (dparseV s.data.toList).2]) ∧ Below w.heap.size w w' := by
  have hst := run_stf
  have H1 := Lib.hid (below1 w (vobj DV.none))
  have HT := Lib.hid (at_new w DV.none)
  unfold dparseV
  cases hp : Lib.hasPrefix s.data.toList [34]
  case true =>
    obtain ⟨h0, h34⟩ := pre34 hp
    have i34 : ((s[0].toNat : Int) == 34) = true := by rw [h34]; rfl
    have i0 : (0 : Int) < (s.size : Int) := by omega
    rw [if_pos rfl]
    have HU := fun w => Lib.hid (runquote_any s hs w)
    unfold ptV
    clear hp h34 hs
    cases hu : unqV s.data.toList with
    | none =>
      rw [hu] at HU
      simp only [unqS, unqE] at HU
      clear hu
      go_enter Tryz.func58, Tryz.ntmps58
      go_wp2_with (first
        | (go_at_call 57; ((with_reducible refine (HU _).out.mono ?_); rintro e w1 ⟨rfl, hb⟩; have hz := HT.out.below hb HT.out.lt; have d3 := hz.c0; have d4 := hz.c1; have d5 := hz.c2; have g0 := hz.f0; have g1 := hz.f1; have g2 := hz.f2; have HZ := Lib.hid hz; have HB1 := Lib.hid (H1.out.trans (hb.mono H1.out.size)); clear hb hz)))
      exact bodyPost_ret (res_pair rfl _ rfl (HZ.out.setAll DV.none)) rfl ⟨rfl, below_set3 HB1.out (Nat.le_refl _) _ _ _⟩
    | some t =>
      rw [hu] at HU
      simp only [unqS, unqE] at HU
      simp only
      clear hu
      by_cases h64 : 64 < t.length
      · have h64' : (64 : Int) < (t.length : Int) := by omega
        rw [if_pos h64]
        go_enter Tryz.func58, Tryz.ntmps58
        go_wp2_with (first
          | (go_at_call 57; ((with_reducible refine (HU _).out.mono ?_); rintro e w1 ⟨rfl, hb⟩; have hz := HT.out.below hb HT.out.lt; have d3 := hz.c0; have d4 := hz.c1; have d5 := hz.c2; have g0 := hz.f0; have g1 := hz.f1; have g2 := hz.f2; have HZ := Lib.hid hz; have HB1 := Lib.hid (H1.out.trans (hb.mono H1.out.size)); clear hb hz)))
        exact bodyPost_ret (res_pair rfl _ rfl (HZ.out.setAll DV.none)) rfl ⟨rfl, below_set3 HB1.out (Nat.le_refl _) _ _ _⟩
      · have h64' : ¬ (64 : Int) < (t.length : Int) := by omega
        rw [if_neg h64]
        have hw : wordsV t = ⟨2, 0, t⟩ := by unfold wordsV; rw [if_neg h64]
        have HW := fun w => Lib.hid (rwords_any t w)
        rw [hw] at HW
        go_enter Tryz.func58, Tryz.ntmps58
        go_wp2_with (first
          | (go_at_call 57; ((with_reducible refine (HU _).out.mono ?_); rintro e w1 ⟨rfl, hb⟩; have HZ0 := Lib.hid (HT.out.below hb HT.out.lt); have HB0 := Lib.hid (H1.out.trans (hb.mono H1.out.size)); clear hb))
          | (go_at_call 98; refine (HW _).out.mono ?_; rintro e w2 ⟨rfl, hb⟩; have hz := HZ0.out.below hb HZ0.out.lt; have d3 := hz.c0; have d4 := hz.c1; have d5 := hz.c2; have g0 := hz.f0; have g1 := hz.f1; have g2 := hz.f2; have HZ := Lib.hid hz; have HB1 := Lib.hid (HB0.out.trans (hb.mono HB0.out.size)); clear hb hz))
        exact bodyPost_ret (res_pair rfl _ rfl (HZ.out.setAll ⟨2, 0, t⟩)) rfl ⟨rfl, below_set3 HB1.out (Nat.le_refl _) _ _ _⟩
  rw [if_neg (by simp)]
  by_cases hn : s.data.toList = [110, 111, 110, 101]
  · obtain rfl := of_list hn
    rw [if_pos rfl]
    have hz := HT.out
    have d3 := hz.c0
    have d4 := hz.c1
    have d5 := hz.c2
    have g0 := hz.f0
    have g1 := hz.f1
    have g2 := hz.f2
    clear hz hn hp hs
    go_enter Tryz.func58, Tryz.ntmps58
    go_wp2
    exact bodyPost_ret (res_pair rfl _ rfl HT.out) rfl ⟨rfl, H1.out⟩
  · rw [if_neg hn]
    have hne : (s.toList == [110, 111, 110, 101]) = false := by rw [Lib.toList_data, beq_eq_false_iff_ne]; exact hn
    have HP := fun w => Lib.hid (rparse_any s hs w)
    have HNP := fun h0 => Lib.hid (npre34 hp h0)
    unfold pnV
    generalize parseN s.data.toList = R at *
    obtain ⟨x, e⟩ := R
    simp only at HP ⊢
    have HN := fun w => Lib.hid (rnumber_any x w)
    clear hn hp hs
    by_cases he : e = 0
    · subst he
      rw [if_pos rfl]
      by_cases h0 : 0 < s.size
      · have i34 : ((s[0].toNat : Int) == 34) = false := by
          rw [beq_eq_false_iff_ne]
          intro ee
          exact (HNP h0).out (UInt8.toNat_inj.1 (by show s[0].toNat = 34; omega))
        have i0 : (0 : Int) < (s.size : Int) := by omega
        clear HNP
        go_enter Tryz.func58, Tryz.ntmps58
        go_wp2_with (first
          | (go_at_call 99; ((with_reducible refine (HP _).out.mono ?_); rintro e w1 ⟨rfl, hb⟩; have HZ0 := Lib.hid (HT.out.below hb HT.out.lt); have HB0 := Lib.hid (H1.out.trans (hb.mono H1.out.size)); clear hb))
          | (go_at_call 90; ((with_reducible refine (HN _).out.mono ?_); rintro e w2 ⟨rfl, hb⟩; have hz := HZ0.out.below hb HZ0.out.lt; have d3 := hz.c0; have d4 := hz.c1; have d5 := hz.c2; have g0 := hz.f0; have g1 := hz.f1; have g2 := hz.f2; have HZ := Lib.hid hz; have HB1 := Lib.hid (HB0.out.trans (hb.mono HB0.out.size)); clear hb hz)))
        exact bodyPost_ret (res_pair rfl _ rfl (HZ.out.setAll ⟨1, canon x, []⟩)) rfl ⟨rfl, below_set3 HB1.out (Nat.le_refl _) _ _ _⟩
      · have i0 : ¬ (0 : Int) < (s.size : Int) := by omega
        clear HNP
        go_enter Tryz.func58, Tryz.ntmps58
        go_wp2_with (first
          | (go_at_call 99; ((with_reducible refine (HP _).out.mono ?_); rintro e w1 ⟨rfl, hb⟩; have HZ0 := Lib.hid (HT.out.below hb HT.out.lt); have HB0 := Lib.hid (H1.out.trans (hb.mono H1.out.size)); clear hb))
          | (go_at_call 90; ((with_reducible refine (HN _).out.mono ?_); rintro e w2 ⟨rfl, hb⟩; have hz := HZ0.out.below hb HZ0.out.lt; have d3 := hz.c0; have d4 := hz.c1; have d5 := hz.c2; have g0 := hz.f0; have g1 := hz.f1; have g2 := hz.f2; have HZ := Lib.hid hz; have HB1 := Lib.hid (HB0.out.trans (hb.mono HB0.out.size)); clear hb hz)))
        exact bodyPost_ret (res_pair rfl _ rfl (HZ.out.setAll ⟨1, canon x, []⟩)) rfl ⟨rfl, below_set3 HB1.out (Nat.le_refl _) _ _ _⟩
    · rw [if_neg he]
      have he' : (e != 0) = true := by rw [bne_iff_ne]; exact he
      clear he
      by_cases h0 : 0 < s.size
      · have i34 : ((s[0].toNat : Int) == 34) = false := by
          rw [beq_eq_false_iff_ne]
          intro ee
          exact (HNP h0).out (UInt8.toNat_inj.1 (by show s[0].toNat = 34; omega))
        have i0 : (0 : Int) < (s.size : Int) := by omega
        clear HNP
        go_enter Tryz.func58, Tryz.ntmps58
        go_wp2_with (first
          | (go_at_call 99; ((with_reducible refine (HP _).out.mono ?_); rintro e w1 ⟨rfl, hb⟩; have hz := HT.out.below hb HT.out.lt; have d3 := hz.c0; have d4 := hz.c1; have d5 := hz.c2; have g0 := hz.f0; have g1 := hz.f1; have g2 := hz.f2; have HZ := Lib.hid hz; have HB1 := Lib.hid (H1.out.trans (hb.mono H1.out.size)); clear hb hz)))
        exact bodyPost_ret (res_pair rfl _ rfl (HZ.out.setAll DV.none)) rfl ⟨rfl, below_set3 HB1.out (Nat.le_refl _) _ _ _⟩
      · have i0 : ¬ (0 : Int) < (s.size : Int) := by omega
        clear HNP
        go_enter Tryz.func58, Tryz.ntmps58
        go_wp2_with (first
          | (go_at_call 99; ((with_reducible refine (HP _).out.mono ?_); rintro e w1 ⟨rfl, hb⟩; have hz := HT.out.below hb HT.out.lt; have d3 := hz.c0; have d4 := hz.c1; have d5 := hz.c2; have g0 := hz.f0; have g1 := hz.f1; have g2 := hz.f2; have HZ := Lib.hid hz; have HB1 := Lib.hid (H1.out.trans (hb.mono H1.out.size)); clear hb hz)))
        exact bodyPost_ret (res_pair rfl _ rfl (HZ.out.setAll DV.none)) rfl ⟨rfl, below_set3 HB1.out (Nat.le_refl _) _ _ _⟩
theorem vrprint_any (v : DV) (hx : v.x < 18446744073709551616) (w : World) : Calls Tryz.prog 62 #[vagg v] w fun e w' => e = .returned (.string ⟨(printV v).toArray⟩) ∧ Below w.heap.size w w' := by
  have HM := fun w => Lib.hid (rmay_any v w)
  have HX := Lib.hid hx
  have hb := fun h hk => may_bounds (v := v) h hk
  unfold printV
  obtain ⟨k, x, s⟩ := v
  have H1 := Lib.hid (below1 w (vobj ⟨k, x, s⟩))
  have HA := Lib.hid (at_new w ⟨k, x, s⟩)
  simp only at hb HX ⊢
  clear hx
  cases hm : mayV ⟨k, x, s⟩
  · rw [hm] at HM
    rw [if_neg (by simp)]
    clear hb hm
    go_enter Tryz.func62, Tryz.ntmps62
    go_wp2_with (first
      | (go_at_call 33; ((with_reducible refine (HM _).out.mono ?_); rintro e w1 ⟨rfl, hb⟩; have HB1 := Lib.hid (H1.out.trans (hb.mono H1.out.size)); clear hb)))
    go_ret
    exact ⟨rfl, HB1.out⟩
  · rw [if_pos rfl]
    have hb2 := hb hm
    rw [hm] at HM
    clear hb hm
    by_cases h1 : k = 1
    · subst h1
      rw [if_pos rfl]
      clear hb2
      go_enter Tryz.func62, Tryz.ntmps62
      go_wp2_with (first
        | (go_at_call 33; ((with_reducible refine (HM _).out.mono ?_); rintro e w1 ⟨rfl, hb⟩; have hz := HA.out.below hb HA.out.lt; have d3 := hz.c0; have d4 := hz.c1; have HB1 := Lib.hid (H1.out.trans (hb.mono H1.out.size)); clear hb hz))
        | (go_at_call 106; refine (rprint_any _ HX.out _).mono ?_; rintro e w2 ⟨rfl, hb⟩; have HB2 := Lib.hid (HB1.out.trans (hb.mono HB1.out.size)); clear hb))
      go_ret
      exact ⟨rfl, HB2.out⟩
    rw [if_neg h1]
    have b1 : (k == 1) = false := by rw [beq_eq_false_iff_ne]; exact h1
    by_cases h2 : k = 2
    · subst h2
      rw [if_pos rfl]
      have hsz : (⟨s.toArray⟩ : ByteArray).size ≤ 1099511627776 := by
        have : (⟨s.toArray⟩ : ByteArray).size = s.length := rfl
        have := hb2 rfl
        omega
      have HQ := fun w => Lib.hid (rquote_any ⟨s.toArray⟩ hsz w)
      rw [show (⟨s.toArray⟩ : ByteArray).data.toList = s from rfl] at HQ
      clear hb2 hsz h1
      go_enter Tryz.func62, Tryz.ntmps62
      go_wp2_with (first
        | (go_at_call 33; ((with_reducible refine (HM _).out.mono ?_); rintro e w1 ⟨rfl, hb⟩; have hz := HA.out.below hb HA.out.lt; have d3 := hz.c0; have d4 := hz.c2; have HB1 := Lib.hid (H1.out.trans (hb.mono H1.out.size)); clear hb hz))
        | (go_at_call 61; with_reducible refine (HQ _).out.mono ?_; rintro e w2 ⟨rfl, hb⟩; have HB2 := Lib.hid (HB1.out.trans (hb.mono HB1.out.size)); clear hb))
      go_ret
      exact ⟨rfl, HB2.out⟩
    rw [if_neg h2]
    have b2 : (k == 2) = false := by rw [beq_eq_false_iff_ne]; exact h2
    clear hb2 h1 h2
    go_enter Tryz.func62, Tryz.ntmps62
    go_wp2_with (first
      | (go_at_call 33; ((with_reducible refine (HM _).out.mono ?_); rintro e w1 ⟨rfl, hb⟩; have hz := HA.out.below hb HA.out.lt; have d3 := hz.c0; have HB1 := Lib.hid (H1.out.trans (hb.mono H1.out.size)); clear hb hz)))
    go_ret
    exact ⟨rfl, HB1.out⟩
end Go.Proofs.YtbgccaconhmbaaaGreatDoor
