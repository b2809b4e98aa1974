/- raceref1.Parse at any text of at most 2000 bytes: what num.Parse answers. Conditions: at most 2000 bytes. -/
import Derived.Test.YtjkfcmadoeifgaaDoorWays
import Derived.Test.YtjkfcmadoeifgaaDoorRef
namespace Go.Proofs.YtjkfcmadoeifgaaDoor
open Go.RowKit Go.Lib

theorem core_form0 {l : List UInt8} (h : formB l = false) : coreN l = (0, 4) := by unfold coreN; rw [h]; rfl
theorem form_true {l : List UInt8} (h : formB l = true) : ∃ a k, Lib.trimPrefix l [45] = a ++ 112 :: k ∧ cntB a = true ∧ intB k = true ∧ (112 : UInt8) ∉ a := by
  unfold formB at h
  rw [Bool.and_eq_true, Bool.and_eq_true] at h
  rcases cut_split (Lib.trimPrefix l [45]) with ⟨e, _⟩ | ⟨a, k, e, hn, hc⟩
  · rw [e] at h; cases h.1.1
  · rw [hc] at h; exact ⟨a, k, e, h.1.2, h.2, hn⟩
theorem core_of {l a k : List UInt8} (e : Lib.trimPrefix l [45] = a ++ 112 :: k) (hn : (112 : UInt8) ∉ a) :
    formB l = (cntB a && intB k) ∧ numOf l = satN a ∧ powOf l = intN k := by
  have hc := cut_found a k hn
  refine ⟨?_, ?_, ?_⟩
  · unfold formB; rw [e, hc]; rfl
  · unfold numOf; rw [e, hc]
  · unfold powOf; rw [e, hc]
/-- What the last two ways want of Ldexp. -/
theorem ldexp_open (n : Nat) (p : Int) (h0 : n ≠ 0) (hn : n < 100000000000000000) (p1 : -99999 ≤ p) (p2 : p ≤ 99999) :
    ∃ r, r < 18446744073709551616 ∧ (Fits n p → r = ofOdd n p) ∧ ∀ w, Calls Tryd.prog 85 #[.float .f64 (floatOfInt .f64 (n : Int)), .int .i64 p] w fun e w' => e = .returned (.float .f64 r) ∧ w = w' := by
  by_cases hf : Fits n p
  · have := (ofOdd_spec hf).2.1
    unfold infR at this
    exact ⟨ofOdd n p, by omega, fun _ => rfl, fun w => ldexp_fits n p hf w⟩
  · obtain ⟨r, hr, hc⟩ := ldexp_some n p h0 (by omega) (by omega) (by omega)
    exact ⟨r, hr, fun h => absurd h hf, hc⟩
theorem neg_open (r : Nat) (hr : r < 18446744073709551616) : ∃ x, x < 18446744073709551616 ∧ (r < 9223372036854775808 → x = 9223372036854775808 + r) ∧ ∀ w, (Op.unary .neg (.float .f64 r)).run Tryd.prog w = .ok (.float .f64 x) w := by
  by_cases h : r < 9223372036854775808
  · exact ⟨9223372036854775808 + r, by omega, fun _ => rfl, fun w => run_neg_lo h w⟩
  · exact ⟨r - 9223372036854775808, by omega, fun h2 => absurd h2 h, fun w => run_neg_hi (by omega) hr w⟩
theorem byte_ne {c d : UInt8} {n : Nat} (hd : d.toNat = n) : ((c.toNat : Int) == (n : Int)) = decide (c = d) := by
  by_cases h : c = d
  · subst h; rw [hd]; simp
  · have : c.toNat ≠ n := fun e => h (UInt8.toNat_inj.1 (by omega))
    rw [decide_eq_false h]; simp; omega
theorem byte_t {c : UInt8} (d : UInt8) (n : Nat) (hd : d.toNat = n) (h : c = d) : ((c.toNat : Int) == (n : Int)) = true := by rw [byte_ne hd, decide_eq_true h]
theorem byte_f {c : UInt8} (d : UInt8) (n : Nat) (hd : d.toNat = n) (h : c ≠ d) : ((c.toNat : Int) == (n : Int)) = false := by rw [byte_ne hd, decide_eq_false h]
theorem byte_nt {c : UInt8} (d : UInt8) (n : Nat) (hd : d.toNat = n) (h : c = d) : ((c.toNat : Int) != (n : Int)) = false := by unfold bne; rw [byte_t d n hd h]; rfl
theorem byte_nf {c : UInt8} (d : UInt8) (n : Nat) (hd : d.toNat = n) (h : c ≠ d) : ((c.toNat : Int) != (n : Int)) = true := by unfold bne; rw [byte_f d n hd h]; rfl
theorem nat_ne {x y : Nat} (h : x ≠ y) : ((x : Int) == (y : Int)) = false := by simp; omega
theorem nat_nne {x y : Nat} (h : x ≠ y) : ((x : Int) != (y : Int)) = true := by simp; omega
theorem ne_text {z : Nat} {s tx : ByteArray} {p : Nat × Int} (hz : z < 18446744073709551616) (hp : parseN s.data.toList = p) (h1 : p.2 = 1) (ht : textN z = tx.data.toList) : (tx.toList == s.toList) = false := by
  cases h : (tx.toList == s.toList)
  · rfl
  · exfalso
    have e : tx.toList = s.toList := by simpa using h
    rw [toList_data, toList_data] at e
    have := parse_text hz
    rw [ht, e, hp] at this
    rw [this] at h1; cases h1
/-- With the sign ahead. -/
theorem rparse_m (s t : ByteArray) {l : List UInt8} (hl : s.data.toList = l) (hs : s.size ≤ 2000) (hs0 : 0 < s.size) (h45 : ((s[0].toNat : Int) == 45) = true) (hex : s.extract 1 s.size = t) (htp : Lib.trimPrefix l [45] = t.data.toList) (hpre : Lib.hasPrefix l [45] = true)
    (n1 : (s.toList == [110, 97, 110]) = false) (n2 : (s.toList == [105, 110, 102]) = false) (n3 : (s.toList == [45, 105, 110, 102]) = false) (n4 : (s.toList == [48]) = false) (n5 : (s.toList == [45, 48]) = false) (hpl : parseN l = coreN l) (w : World) :
    Calls Tryd.prog 42 #[.string s] w fun e w' => e = .returned (.tuple #[.float .f64 (parseN l).1, .int .i64 (parseN l).2]) ∧ Below w.heap.size w w' := by
  have hTZ : t.size ≤ 1000000 := by
    have := trim_len l [45]
    rw [htp, ← hl, ← Lib.size_eq, ← Lib.size_eq] at this; omega
  cases hok : okD t.data.toList
  case false =>
    have hform : formB l = false := by
      cases h : formB l
      · rfl
      · obtain ⟨a, k, e, h1, h2, h3⟩ := form_true h
        have := (lead_form (k := k) h1).2.1
        rw [← e, htp, hok] at this; cases this
    rw [hpl, core_form0 hform]
    exact rparse_m_R1 s t _ n1 n2 n3 n4 n5 hs0 h45 hex hTZ rfl hok w
  obtain ⟨o1, o2⟩ := okD_facts hok
  have hlt := lead_le t.data.toList
  rw [← Lib.size_eq] at hlt
  have ht0 : 0 < t.size := by omega
  have hg0 := idx_get t 0 ht0
  by_cases hz : t.data.toList.getD 0 0 = 48
  · have hform : formB l = false := by
      cases h : formB l
      · rfl
      · obtain ⟨a, k, e, h1, h2, h3⟩ := form_true h
        have := (lead_form (k := k) h1).2.2.1
        rw [← e, htp] at this; exact absurd hz this
    rw [hpl, core_form0 hform]
    exact rparse_m_R2 s t _ n1 n2 n3 n4 n5 hs0 h45 hex hTZ rfl hok ht0 (byte_t 48 48 rfl (by rw [hg0]; exact hz)) w
  have h48 := byte_f (c := t[0]) 48 48 rfl (by rw [hg0]; exact hz)
  by_cases hn : leadN t.data.toList < t.size
  case neg =>
    have hform : formB l = false := by
      cases h : formB l
      · rfl
      · obtain ⟨a, k, e, h1, h2, h3⟩ := form_true h
        have := (lead_form (k := k) h1).1
        rw [← e, htp] at this
        have h4 := congrArg List.length e
        rw [htp, List.length_append, List.length_cons, ← Lib.size_eq] at h4
        omega
    rw [hpl, core_form0 hform]
    exact rparse_m_R3 s t 0 n1 n2 n3 n4 n5 hs0 h45 hex hTZ (show leadN t.data.toList = t.size by omega) hok ht0 h48 w
  have hgn := idx_get t _ hn
  by_cases hp112 : t.data.toList.getD (leadN t.data.toList) 0 = 112
  case neg =>
    have hform : formB l = false := by
      cases h : formB l
      · rfl
      · obtain ⟨a, k, e, h1, h2, h3⟩ := form_true h
        have h4 := (lead_form (k := k) h1).1
        rw [← e, htp] at h4
        apply absurd _ hp112
        rw [h4, ← htp, e]; simp [List.getD]
    rw [hpl, core_form0 hform]
    exact rparse_m_R4 s t _ n1 n2 n3 n4 n5 hs0 h45 hex hTZ rfl hok ht0 h48 hn (nat_ne (by omega)) (byte_nf 112 112 rfl (by rw [hgn]; exact hp112)) (by omega) w
  have hp := byte_nt (c := t[leadN t.data.toList]) 112 112 rfl (by rw [hgn]; exact hp112)
  have hsplit := split_at t.data.toList (by rw [← Lib.size_eq]; exact hn) hp112
  obtain ⟨a, hadef⟩ : ∃ a, t.data.toList.take (leadN t.data.toList) = a := ⟨_, rfl⟩
  obtain ⟨k, hkdef⟩ : ∃ k, t.data.toList.drop (leadN t.data.toList + 1) = k := ⟨_, rfl⟩
  have had : a.all digB = true := by rw [← hadef]; exact take_lead _
  rw [hadef, hkdef] at hsplit
  have hal : a.length = leadN t.data.toList := by rw [← hadef, List.length_take]; rw [← Lib.size_eq]; omega
  have ha : cntB a = true := by
    cases a with
    | nil => simp at hal; omega
    | cons c u =>
      refine cnt_of (fun hc => hz ?_) had
      rw [hsplit, hc]; rfl
  obtain ⟨c1, c2, c3⟩ := core_of (l := l) (a := a) (k := k) (by rw [htp]; exact hsplit) (not_mem_p had)
  rw [ha, Bool.true_and] at c1
  obtain ⟨m, hm⟩ : ∃ m, t.extract 0 (leadN t.data.toList) = m := ⟨_, rfl⟩
  obtain ⟨e, he⟩ : ∃ e, t.extract (leadN t.data.toList + 1) t.size = e := ⟨_, rfl⟩
  have hmL : m.data.toList = a := by rw [← hm, Lib.extract_data, List.drop_zero, Nat.sub_zero, hadef]
  have heL : e.data.toList = k := by rw [← he, Lib.extract_to_end, hkdef]
  have heZ : e.size ≤ 1000000 := by
    rw [Lib.size_eq, heL, ← hkdef, List.length_drop, ← Lib.size_eq]; omega
  by_cases hez : e.size = 0
  · have hk0 : k = [] := by rw [← heL]; rw [Lib.size_eq] at hez; exact List.length_eq_zero_iff.1 hez
    rw [hpl, core_form0 (by rw [c1, hk0]; rfl)]
    exact rparse_m_R5z s t m e _ n1 n2 n3 n4 n5 hs0 h45 hex hTZ rfl hok ht0 h48 hn (nat_ne (by omega)) hp (by omega) (by omega) (by omega) hm he hez heZ (show leadN e.data.toList = 0 by rw [heL, hk0]; rfl) (show okD e.data.toList = false by rw [heL, hk0]; rfl) w
  have he0 : 0 < e.size := by omega
  have hge := idx_get e 0 he0
  rw [heL] at hge
  by_cases hb : e[0] = 45
  · have hb45 := byte_t (c := e[0]) 45 45 rfl hb
    obtain ⟨e2, hex2⟩ : ∃ e2, e.extract 1 e.size = e2 := ⟨_, rfl⟩
    have hek := head_eq e he0
    rw [heL, hb] at hek
    have hbel : Lib.hasPrefix k [45] = true := by rw [hek]; exact (pre_true _).1
    have hE : Lib.trimPrefix k [45] = e2.data.toList := by rw [← hex2, Lib.extract_to_end, heL]; conv => lhs; rw [hek]
                                                           exact (pre_true _).2
    have hEZ : e2.size ≤ 1000000 := by
      rw [Lib.size_eq, ← hex2, Lib.extract_to_end, List.length_drop, ← Lib.size_eq]; omega
    cases hoe : okD e2.data.toList
    · have hk : intB k = false := by
        cases hk : intB k
        · rfl
        · have := ((int_ref k).1 hk).1; rw [hE, hoe] at this; cases this
      rw [hpl, core_form0 (by rw [c1, hk])]
      exact rparse_m_b_R5a s t m e e2 _ _ n1 n2 n3 n4 n5 hs0 h45 hex hTZ rfl hok ht0 h48 hn (nat_ne (by omega)) hp (by omega) (by omega) (by omega) hm he he0 hb45 hex2 hEZ rfl hoe w
    by_cases hlead : leadN e2.data.toList = e2.size
    case neg =>
      have hk : intB k = false := by
        cases hk : intB k
        · rfl
        · have := ((int_ref k).1 hk).2.1; rw [hE, ← Lib.size_eq] at this; exact absurd this hlead
      rw [hpl, core_form0 (by rw [c1, hk])]
      exact rparse_m_b_R5b s t m e e2 _ _ n1 n2 n3 n4 n5 hs0 h45 hex hTZ rfl hok ht0 h48 hn (nat_ne (by omega)) hp (by omega) (by omega) (by omega) hm he he0 hb45 hex2 hEZ rfl hoe (nat_nne hlead) w
    cases he48 : (e2.toList == [48])
    case true =>
      have he : e2.data.toList = [48] := by rw [← toList_data]; simpa using he48
      have hk : intB k = false := by
        cases hk : intB k
        · rfl
        · exact absurd ⟨hbel, by rw [hE, he]⟩ ((int_ref k).1 hk).2.2
      rw [hpl, core_form0 (by rw [c1, hk])]
      exact rparse_m_b_R5c s t m e e2 _ n1 n2 n3 n4 n5 hs0 h45 hex hTZ rfl hok ht0 h48 hn (nat_ne (by omega)) hp (by omega) (by omega) (by omega) hm (by assumption) he0 hb45 hex2 hEZ hlead hoe he48 w
    have hk : intB k = true := (int_ref k).2 ⟨by rw [hE]; exact hoe, by rw [hE, ← Lib.size_eq]; exact hlead, fun hh => by
      rw [hE] at hh
      rw [toList_data, hh.2] at he48; cases he48⟩
    by_cases hm17 : 17 < m.size
    · have hfit : fitsB (satN a) (intN k) = false := by
        cases h : fitsB (satN a) (intN k)
        · rfl
        · exact absurd ((fits_iff _ _).1 h) (not_fits_m ha (by rw [← hmL, ← Lib.size_eq]; exact hm17))
      have hcore : coreN l = (0, 1) := by unfold coreN; rw [c1, c2, c3, hk, hfit]; rfl
      rw [hpl, hcore]
      exact rparse_m_b_R6m s t m e e2 _ n1 n2 n3 n4 n5 hs0 h45 hex hTZ rfl hok ht0 h48 hn (nat_ne (by omega)) hp (by omega) (by omega) (by omega) hm he he0 hb45 hex2 hEZ hlead hoe he48 hm17 w
    by_cases he5 : 5 < e2.size
    · have hfit : fitsB (satN a) (intN k) = false := by
        cases h : fitsB (satN a) (intN k)
        · rfl
        · exact absurd ((fits_iff _ _).1 h) (not_fits_e hk (by rw [hE, ← Lib.size_eq]; exact he5))
      have hcore : coreN l = (0, 1) := by unfold coreN; rw [c1, c2, c3, hk, hfit]; rfl
      rw [hpl, hcore]
      exact rparse_m_b_R6e s t m e e2 _ n1 n2 n3 n4 n5 hs0 h45 hex hTZ rfl hok ht0 h48 hn (nat_ne (by omega)) hp (by omega) (by omega) (by omega) hm he he0 hb45 hex2 hEZ hlead hoe he48 hm17 he5 w
    · 
      obtain ⟨v1, v2⟩ := intN_val (k := k) (by rw [hE, ← Lib.size_eq]; exact he5) hk
      rw [hE, hbel] at v2
      rw [hE] at v1
      have hvn : satN a = valN a ∨ 9007199254740992 ≤ valN a := by unfold satN; omega
      have hmd : m.data.toList.all digB = true := by rw [hmL]; exact cntB_digits ha
      have hv17 := val_lt_pow _ hmd
      have hp17 : 10 ^ m.data.toList.length ≤ 10 ^ 17 := Nat.pow_le_pow_right (by decide) (by rw [← Lib.size_eq]; omega)
      have hv0 : valN m.data.toList ≠ 0 := by rw [hmL]; exact (val_dec ha).2
      have hed : e2.data.toList.all digB = true := by have := int_digits hk; rw [hE] at this; exact this
      obtain ⟨r, hr, hrf, hcalls⟩ := ldexp_open (valN m.data.toList) (-(valN e2.data.toList : Int)) hv0 (by omega) (by omega) (by omega)
      obtain ⟨x, hx, hxf, hng⟩ := neg_open r hr
      cases hfit : fitsB (satN a) (intN k)
      · have hcore : coreN l = (0, 1) := by unfold coreN; rw [c1, c2, c3, hk, hfit]; rfl
        rw [hpl, hcore]
        have htx : textN x = (⟨(textN x).toArray⟩ : ByteArray).data.toList := by rw [mk_list]
        have hpp : parseN s.data.toList = (0, 1) := by rw [hl, hpl, hcore]
        exact rparse_m_b_R7n s t m e e2 ⟨(textN x).toArray⟩ _ _ _ r x n1 n2 n3 n4 n5 hs0 h45 hex hTZ rfl hok ht0 h48 hn (nat_ne (by omega)) hp (by omega) (by omega) (by omega) hm he he0 hb45 hex2 hEZ hlead hoe he48 hm17 he5 (show m.size ≤ 17 by omega) (show e2.size ≤ 17 by omega) rfl rfl hmd hed (by omega) hcalls hng hx htx (ne_text hx hpp rfl htx) w
      · have hF := (fits_iff _ _).1 hfit
        have hFl := hF.lt
        have hv : satN a = valN a := by unfold satN at hFl ⊢; omega
        have hcore : coreN l = (9223372036854775808 + ofOdd (satN a) (intN k), 0) := by unfold coreN; rw [c1, c2, c3, hk, hfit, hpre]; rfl
        have hr2 : r = ofOdd (satN a) (intN k) := by
          rw [hv, v2]
          rw [hv, v2] at hF
          rw [← hmL] at hF ⊢
          exact hrf hF
        have hlt := (ofOdd_spec hF).2.1
        unfold infR at hlt
        rw [← hr2] at hlt
        have hxr : x = 9223372036854775808 + ofOdd (satN a) (intN k) := by rw [hxf (by omega), hr2]
        rw [hpl, hcore]
        have htx : textN x = s.data.toList := by
          rcases text_parse s.data.toList with ⟨_, h2, _⟩ | ⟨h1, _⟩ | ⟨h1, _⟩
          · rw [hl, hpl, hcore] at h2
            rw [hxr, hl]; exact h2
          · rw [hl, hpl, hcore] at h1; cases h1
          · rw [hl, hpl, hcore] at h1; cases h1
        have := rparse_m_b_R7f s t m e e2 _ _ _ r x n1 n2 n3 n4 n5 hs0 h45 hex hTZ rfl hok ht0 h48 hn (nat_ne (by omega)) hp (by omega) (by omega) (by omega) hm he he0 hb45 hex2 hEZ hlead hoe he48 hm17 he5 (show m.size ≤ 17 by omega) (show e2.size ≤ 17 by omega) rfl rfl hmd hed (by omega) hcalls hng hx htx w
        rw [hxr] at this
        exact this
  · have hb45 := byte_f (c := e[0]) 45 45 rfl hb
    have hnp := pre_false (l := k) (fun u hu => hb (by rw [hge, hu]; rfl))
    have hbel := hnp.1
    have hE : Lib.trimPrefix k [45] = e.data.toList := by rw [hnp.2, heL]
    have hEZ := heZ
    cases hoe : okD e.data.toList
    · have hk : intB k = false := by
        cases hk : intB k
        · rfl
        · have := ((int_ref k).1 hk).1; rw [hE, hoe] at this; cases this
      rw [hpl, core_form0 (by rw [c1, hk])]
      exact rparse_m_a_R5a s t m e _ _ n1 n2 n3 n4 n5 hs0 h45 hex hTZ rfl hok ht0 h48 hn (nat_ne (by omega)) hp (by omega) (by omega) (by omega) hm he he0 hb45 hEZ rfl hoe w
    by_cases hlead : leadN e.data.toList = e.size
    case neg =>
      have hk : intB k = false := by
        cases hk : intB k
        · rfl
        · have := ((int_ref k).1 hk).2.1; rw [hE, ← Lib.size_eq] at this; exact absurd this hlead
      rw [hpl, core_form0 (by rw [c1, hk])]
      exact rparse_m_a_R5b s t m e _ _ n1 n2 n3 n4 n5 hs0 h45 hex hTZ rfl hok ht0 h48 hn (nat_ne (by omega)) hp (by omega) (by omega) (by omega) hm he he0 hb45 hEZ rfl hoe (nat_nne hlead) w
    have hk : intB k = true := (int_ref k).2 ⟨by rw [hE]; exact hoe, by rw [hE, ← Lib.size_eq]; exact hlead, fun hh => by rw [hbel] at hh; cases hh.1⟩
    by_cases hm17 : 17 < m.size
    · have hfit : fitsB (satN a) (intN k) = false := by
        cases h : fitsB (satN a) (intN k)
        · rfl
        · exact absurd ((fits_iff _ _).1 h) (not_fits_m ha (by rw [← hmL, ← Lib.size_eq]; exact hm17))
      have hcore : coreN l = (0, 1) := by unfold coreN; rw [c1, c2, c3, hk, hfit]; rfl
      rw [hpl, hcore]
      exact rparse_m_a_R6m s t m e _ n1 n2 n3 n4 n5 hs0 h45 hex hTZ rfl hok ht0 h48 hn (nat_ne (by omega)) hp (by omega) (by omega) (by omega) hm he he0 hb45 hEZ hlead hoe hm17 w
    by_cases he5 : 5 < e.size
    · have hfit : fitsB (satN a) (intN k) = false := by
        cases h : fitsB (satN a) (intN k)
        · rfl
        · exact absurd ((fits_iff _ _).1 h) (not_fits_e hk (by rw [hE, ← Lib.size_eq]; exact he5))
      have hcore : coreN l = (0, 1) := by unfold coreN; rw [c1, c2, c3, hk, hfit]; rfl
      rw [hpl, hcore]
      exact rparse_m_a_R6e s t m e _ n1 n2 n3 n4 n5 hs0 h45 hex hTZ rfl hok ht0 h48 hn (nat_ne (by omega)) hp (by omega) (by omega) (by omega) hm he he0 hb45 hEZ hlead hoe hm17 he5 w
    · 
      obtain ⟨v1, v2⟩ := intN_val (k := k) (by rw [hE, ← Lib.size_eq]; exact he5) hk
      rw [hE, hbel] at v2
      rw [hE] at v1
      have hvn : satN a = valN a ∨ 9007199254740992 ≤ valN a := by unfold satN; omega
      have hmd : m.data.toList.all digB = true := by rw [hmL]; exact cntB_digits ha
      have hv17 := val_lt_pow _ hmd
      have hp17 : 10 ^ m.data.toList.length ≤ 10 ^ 17 := Nat.pow_le_pow_right (by decide) (by rw [← Lib.size_eq]; omega)
      have hv0 : valN m.data.toList ≠ 0 := by rw [hmL]; exact (val_dec ha).2
      have hed : e.data.toList.all digB = true := by have := int_digits hk; rw [hE] at this; exact this
      obtain ⟨r, hr, hrf, hcalls⟩ := ldexp_open (valN m.data.toList) ((valN e.data.toList : Int)) hv0 (by omega) (by omega) (by omega)
      obtain ⟨x, hx, hxf, hng⟩ := neg_open r hr
      cases hfit : fitsB (satN a) (intN k)
      · have hcore : coreN l = (0, 1) := by unfold coreN; rw [c1, c2, c3, hk, hfit]; rfl
        rw [hpl, hcore]
        have htx : textN x = (⟨(textN x).toArray⟩ : ByteArray).data.toList := by rw [mk_list]
        have hpp : parseN s.data.toList = (0, 1) := by rw [hl, hpl, hcore]
        exact rparse_m_a_R7n s t m e ⟨(textN x).toArray⟩ _ _ _ r x n1 n2 n3 n4 n5 hs0 h45 hex hTZ rfl hok ht0 h48 hn (nat_ne (by omega)) hp (by omega) (by omega) (by omega) hm he he0 hb45 hEZ hlead hoe hm17 he5 (show m.size ≤ 17 by omega) (show e.size ≤ 17 by omega) rfl rfl hmd hed (by omega) hcalls hng hx htx (ne_text hx hpp rfl htx) w
      · have hF := (fits_iff _ _).1 hfit
        have hFl := hF.lt
        have hv : satN a = valN a := by unfold satN at hFl ⊢; omega
        have hcore : coreN l = (9223372036854775808 + ofOdd (satN a) (intN k), 0) := by unfold coreN; rw [c1, c2, c3, hk, hfit, hpre]; rfl
        have hr2 : r = ofOdd (satN a) (intN k) := by
          rw [hv, v2]
          rw [hv, v2] at hF
          rw [← hmL] at hF ⊢
          exact hrf hF
        have hlt := (ofOdd_spec hF).2.1
        unfold infR at hlt
        rw [← hr2] at hlt
        have hxr : x = 9223372036854775808 + ofOdd (satN a) (intN k) := by rw [hxf (by omega), hr2]
        rw [hpl, hcore]
        have htx : textN x = s.data.toList := by
          rcases text_parse s.data.toList with ⟨_, h2, _⟩ | ⟨h1, _⟩ | ⟨h1, _⟩
          · rw [hl, hpl, hcore] at h2
            rw [hxr, hl]; exact h2
          · rw [hl, hpl, hcore] at h1; cases h1
          · rw [hl, hpl, hcore] at h1; cases h1
        have := rparse_m_a_R7f s t m e _ _ _ r x n1 n2 n3 n4 n5 hs0 h45 hex hTZ rfl hok ht0 h48 hn (nat_ne (by omega)) hp (by omega) (by omega) (by omega) hm he he0 hb45 hEZ hlead hoe hm17 he5 (show m.size ≤ 17 by omega) (show e.size ≤ 17 by omega) rfl rfl hmd hed (by omega) hcalls hng hx htx w
        rw [hxr] at this
        exact this
/-- With the sign left out. -/
theorem rparse_p (s : ByteArray) {l : List UInt8} (hl : s.data.toList = l) (hs : s.size ≤ 2000) (hs0 : 0 < s.size) (h45 : ((s[0].toNat : Int) == 45) = false) (htp : Lib.trimPrefix l [45] = s.data.toList) (hpre : Lib.hasPrefix l [45] = false)
    (n1 : (s.toList == [110, 97, 110]) = false) (n2 : (s.toList == [105, 110, 102]) = false) (n3 : (s.toList == [45, 105, 110, 102]) = false) (n4 : (s.toList == [48]) = false) (n5 : (s.toList == [45, 48]) = false) (hpl : parseN l = coreN l) (w : World) :
    Calls Tryd.prog 42 #[.string s] w fun e w' => e = .returned (.tuple #[.float .f64 (parseN l).1, .int .i64 (parseN l).2]) ∧ Below w.heap.size w w' := by
  have hTZ : s.size ≤ 1000000 := by omega
  cases hok : okD s.data.toList
  case false =>
    have hform : formB l = false := by
      cases h : formB l
      · rfl
      · obtain ⟨a, k, e, h1, h2, h3⟩ := form_true h
        have := (lead_form (k := k) h1).2.1
        rw [← e, htp, hok] at this; cases this
    rw [hpl, core_form0 hform]
    exact rparse_p_R1 s _ n1 n2 n3 n4 n5 hs0 h45 hTZ rfl hok w
  obtain ⟨o1, o2⟩ := okD_facts hok
  have hlt := lead_le s.data.toList
  rw [← Lib.size_eq] at hlt
  have ht0 : 0 < s.size := by omega
  have hg0 := idx_get s 0 ht0
  by_cases hz : s.data.toList.getD 0 0 = 48
  · have hform : formB l = false := by
      cases h : formB l
      · rfl
      · obtain ⟨a, k, e, h1, h2, h3⟩ := form_true h
        have := (lead_form (k := k) h1).2.2.1
        rw [← e, htp] at this; exact absurd hz this
    rw [hpl, core_form0 hform]
    exact rparse_p_R2 s _ n1 n2 n3 n4 n5 hs0 h45 hTZ rfl hok ht0 (byte_t 48 48 rfl (by rw [hg0]; exact hz)) w
  have h48 := byte_f (c := s[0]) 48 48 rfl (by rw [hg0]; exact hz)
  by_cases hn : leadN s.data.toList < s.size
  case neg =>
    have hform : formB l = false := by
      cases h : formB l
      · rfl
      · obtain ⟨a, k, e, h1, h2, h3⟩ := form_true h
        have := (lead_form (k := k) h1).1
        rw [← e, htp] at this
        have h4 := congrArg List.length e
        rw [htp, List.length_append, List.length_cons, ← Lib.size_eq] at h4
        omega
    rw [hpl, core_form0 hform]
    exact rparse_p_R3 s 0 n1 n2 n3 n4 n5 hs0 h45 hTZ (show leadN s.data.toList = s.size by omega) hok ht0 h48 w
  have hgn := idx_get s _ hn
  by_cases hp112 : s.data.toList.getD (leadN s.data.toList) 0 = 112
  case neg =>
    have hform : formB l = false := by
      cases h : formB l
      · rfl
      · obtain ⟨a, k, e, h1, h2, h3⟩ := form_true h
        have h4 := (lead_form (k := k) h1).1
        rw [← e, htp] at h4
        apply absurd _ hp112
        rw [h4, ← htp, e]; simp [List.getD]
    rw [hpl, core_form0 hform]
    exact rparse_p_R4 s _ n1 n2 n3 n4 n5 hs0 h45 hTZ rfl hok ht0 h48 hn (nat_ne (by omega)) (byte_nf 112 112 rfl (by rw [hgn]; exact hp112)) (by omega) w
  have hp := byte_nt (c := s[leadN s.data.toList]) 112 112 rfl (by rw [hgn]; exact hp112)
  have hsplit := split_at s.data.toList (by rw [← Lib.size_eq]; exact hn) hp112
  obtain ⟨a, hadef⟩ : ∃ a, s.data.toList.take (leadN s.data.toList) = a := ⟨_, rfl⟩
  obtain ⟨k, hkdef⟩ : ∃ k, s.data.toList.drop (leadN s.data.toList + 1) = k := ⟨_, rfl⟩
  have had : a.all digB = true := by rw [← hadef]; exact take_lead _
  rw [hadef, hkdef] at hsplit
  have hal : a.length = leadN s.data.toList := by rw [← hadef, List.length_take]; rw [← Lib.size_eq]; omega
  have ha : cntB a = true := by
    cases a with
    | nil => simp at hal; omega
    | cons c u =>
      refine cnt_of (fun hc => hz ?_) had
      rw [hsplit, hc]; rfl
  obtain ⟨c1, c2, c3⟩ := core_of (l := l) (a := a) (k := k) (by rw [htp]; exact hsplit) (not_mem_p had)
  rw [ha, Bool.true_and] at c1
  obtain ⟨m, hm⟩ : ∃ m, s.extract 0 (leadN s.data.toList) = m := ⟨_, rfl⟩
  obtain ⟨e, he⟩ : ∃ e, s.extract (leadN s.data.toList + 1) s.size = e := ⟨_, rfl⟩
  have hmL : m.data.toList = a := by rw [← hm, Lib.extract_data, List.drop_zero, Nat.sub_zero, hadef]
  have heL : e.data.toList = k := by rw [← he, Lib.extract_to_end, hkdef]
  have heZ : e.size ≤ 1000000 := by
    rw [Lib.size_eq, heL, ← hkdef, List.length_drop, ← Lib.size_eq]; omega
  by_cases hez : e.size = 0
  · have hk0 : k = [] := by rw [← heL]; rw [Lib.size_eq] at hez; exact List.length_eq_zero_iff.1 hez
    rw [hpl, core_form0 (by rw [c1, hk0]; rfl)]
    exact rparse_p_R5z s m e _ n1 n2 n3 n4 n5 hs0 h45 hTZ rfl hok ht0 h48 hn (nat_ne (by omega)) hp (by omega) (by omega) (by omega) hm he hez heZ (show leadN e.data.toList = 0 by rw [heL, hk0]; rfl) (show okD e.data.toList = false by rw [heL, hk0]; rfl) w
  have he0 : 0 < e.size := by omega
  have hge := idx_get e 0 he0
  rw [heL] at hge
  by_cases hb : e[0] = 45
  · have hb45 := byte_t (c := e[0]) 45 45 rfl hb
    obtain ⟨e2, hex2⟩ : ∃ e2, e.extract 1 e.size = e2 := ⟨_, rfl⟩
    have hek := head_eq e he0
    rw [heL, hb] at hek
    have hbel : Lib.hasPrefix k [45] = true := by rw [hek]; exact (pre_true _).1
    have hE : Lib.trimPrefix k [45] = e2.data.toList := by rw [← hex2, Lib.extract_to_end, heL]; conv => lhs; rw [hek]
                                                           exact (pre_true _).2
    have hEZ : e2.size ≤ 1000000 := by
      rw [Lib.size_eq, ← hex2, Lib.extract_to_end, List.length_drop, ← Lib.size_eq]; omega
    cases hoe : okD e2.data.toList
    · have hk : intB k = false := by
        cases hk : intB k
        · rfl
        · have := ((int_ref k).1 hk).1; rw [hE, hoe] at this; cases this
      rw [hpl, core_form0 (by rw [c1, hk])]
      exact rparse_p_b_R5a s m e e2 _ _ n1 n2 n3 n4 n5 hs0 h45 hTZ rfl hok ht0 h48 hn (nat_ne (by omega)) hp (by omega) (by omega) (by omega) hm he he0 hb45 hex2 hEZ rfl hoe w
    by_cases hlead : leadN e2.data.toList = e2.size
    case neg =>
      have hk : intB k = false := by
        cases hk : intB k
        · rfl
        · have := ((int_ref k).1 hk).2.1; rw [hE, ← Lib.size_eq] at this; exact absurd this hlead
      rw [hpl, core_form0 (by rw [c1, hk])]
      exact rparse_p_b_R5b s m e e2 _ _ n1 n2 n3 n4 n5 hs0 h45 hTZ rfl hok ht0 h48 hn (nat_ne (by omega)) hp (by omega) (by omega) (by omega) hm he he0 hb45 hex2 hEZ rfl hoe (nat_nne hlead) w
    cases he48 : (e2.toList == [48])
    case true =>
      have he : e2.data.toList = [48] := by rw [← toList_data]; simpa using he48
      have hk : intB k = false := by
        cases hk : intB k
        · rfl
        · exact absurd ⟨hbel, by rw [hE, he]⟩ ((int_ref k).1 hk).2.2
      rw [hpl, core_form0 (by rw [c1, hk])]
      exact rparse_p_b_R5c s m e e2 _ n1 n2 n3 n4 n5 hs0 h45 hTZ rfl hok ht0 h48 hn (nat_ne (by omega)) hp (by omega) (by omega) (by omega) hm (by assumption) he0 hb45 hex2 hEZ hlead hoe he48 w
    have hk : intB k = true := (int_ref k).2 ⟨by rw [hE]; exact hoe, by rw [hE, ← Lib.size_eq]; exact hlead, fun hh => by
      rw [hE] at hh
      rw [toList_data, hh.2] at he48; cases he48⟩
    by_cases hm17 : 17 < m.size
    · have hfit : fitsB (satN a) (intN k) = false := by
        cases h : fitsB (satN a) (intN k)
        · rfl
        · exact absurd ((fits_iff _ _).1 h) (not_fits_m ha (by rw [← hmL, ← Lib.size_eq]; exact hm17))
      have hcore : coreN l = (0, 1) := by unfold coreN; rw [c1, c2, c3, hk, hfit]; rfl
      rw [hpl, hcore]
      exact rparse_p_b_R6m s m e e2 _ n1 n2 n3 n4 n5 hs0 h45 hTZ rfl hok ht0 h48 hn (nat_ne (by omega)) hp (by omega) (by omega) (by omega) hm he he0 hb45 hex2 hEZ hlead hoe he48 hm17 w
    by_cases he5 : 5 < e2.size
    · have hfit : fitsB (satN a) (intN k) = false := by
        cases h : fitsB (satN a) (intN k)
        · rfl
        · exact absurd ((fits_iff _ _).1 h) (not_fits_e hk (by rw [hE, ← Lib.size_eq]; exact he5))
      have hcore : coreN l = (0, 1) := by unfold coreN; rw [c1, c2, c3, hk, hfit]; rfl
      rw [hpl, hcore]
      exact rparse_p_b_R6e s m e e2 _ n1 n2 n3 n4 n5 hs0 h45 hTZ rfl hok ht0 h48 hn (nat_ne (by omega)) hp (by omega) (by omega) (by omega) hm he he0 hb45 hex2 hEZ hlead hoe he48 hm17 he5 w
    · 
      obtain ⟨v1, v2⟩ := intN_val (k := k) (by rw [hE, ← Lib.size_eq]; exact he5) hk
      rw [hE, hbel] at v2
      rw [hE] at v1
      have hvn : satN a = valN a ∨ 9007199254740992 ≤ valN a := by unfold satN; omega
      have hmd : m.data.toList.all digB = true := by rw [hmL]; exact cntB_digits ha
      have hv17 := val_lt_pow _ hmd
      have hp17 : 10 ^ m.data.toList.length ≤ 10 ^ 17 := Nat.pow_le_pow_right (by decide) (by rw [← Lib.size_eq]; omega)
      have hv0 : valN m.data.toList ≠ 0 := by rw [hmL]; exact (val_dec ha).2
      have hed : e2.data.toList.all digB = true := by have := int_digits hk; rw [hE] at this; exact this
      obtain ⟨r, hr, hrf, hcalls⟩ := ldexp_open (valN m.data.toList) (-(valN e2.data.toList : Int)) hv0 (by omega) (by omega) (by omega)
      cases hfit : fitsB (satN a) (intN k)
      · have hcore : coreN l = (0, 1) := by unfold coreN; rw [c1, c2, c3, hk, hfit]; rfl
        rw [hpl, hcore]
        have htx : textN r = (⟨(textN r).toArray⟩ : ByteArray).data.toList := by rw [mk_list]
        have hpp : parseN s.data.toList = (0, 1) := by rw [hl, hpl, hcore]
        exact rparse_p_b_R7n s m e e2 ⟨(textN r).toArray⟩ _ _ _ r n1 n2 n3 n4 n5 hs0 h45 hTZ rfl hok ht0 h48 hn (nat_ne (by omega)) hp (by omega) (by omega) (by omega) hm he he0 hb45 hex2 hEZ hlead hoe he48 hm17 he5 (show m.size ≤ 17 by omega) (show e2.size ≤ 17 by omega) rfl rfl hmd hed (by omega) hcalls hr htx (ne_text hr hpp rfl htx) w
      · have hF := (fits_iff _ _).1 hfit
        have hFl := hF.lt
        have hv : satN a = valN a := by unfold satN at hFl ⊢; omega
        have hcore : coreN l = (ofOdd (satN a) (intN k), 0) := by unfold coreN; rw [c1, c2, c3, hk, hfit, hpre]; rfl
        have hr2 : r = ofOdd (satN a) (intN k) := by
          rw [hv, v2]
          rw [hv, v2] at hF
          rw [← hmL] at hF ⊢
          exact hrf hF
        have hlt := (ofOdd_spec hF).2.1
        unfold infR at hlt
        rw [← hr2] at hlt
        have hxr : r = ofOdd (satN a) (intN k) := by exact hr2
        rw [hpl, hcore]
        have htx : textN r = s.data.toList := by
          rcases text_parse s.data.toList with ⟨_, h2, _⟩ | ⟨h1, _⟩ | ⟨h1, _⟩
          · rw [hl, hpl, hcore] at h2
            rw [hxr, hl]; exact h2
          · rw [hl, hpl, hcore] at h1; cases h1
          · rw [hl, hpl, hcore] at h1; cases h1
        have := rparse_p_b_R7f s m e e2 _ _ _ r n1 n2 n3 n4 n5 hs0 h45 hTZ rfl hok ht0 h48 hn (nat_ne (by omega)) hp (by omega) (by omega) (by omega) hm he he0 hb45 hex2 hEZ hlead hoe he48 hm17 he5 (show m.size ≤ 17 by omega) (show e2.size ≤ 17 by omega) rfl rfl hmd hed (by omega) hcalls hr htx w
        rw [hxr] at this
        exact this
  · have hb45 := byte_f (c := e[0]) 45 45 rfl hb
    have hnp := pre_false (l := k) (fun u hu => hb (by rw [hge, hu]; rfl))
    have hbel := hnp.1
    have hE : Lib.trimPrefix k [45] = e.data.toList := by rw [hnp.2, heL]
    have hEZ := heZ
    cases hoe : okD e.data.toList
    · have hk : intB k = false := by
        cases hk : intB k
        · rfl
        · have := ((int_ref k).1 hk).1; rw [hE, hoe] at this; cases this
      rw [hpl, core_form0 (by rw [c1, hk])]
      exact rparse_p_a_R5a s m e _ _ n1 n2 n3 n4 n5 hs0 h45 hTZ rfl hok ht0 h48 hn (nat_ne (by omega)) hp (by omega) (by omega) (by omega) hm he he0 hb45 hEZ rfl hoe w
    by_cases hlead : leadN e.data.toList = e.size
    case neg =>
      have hk : intB k = false := by
        cases hk : intB k
        · rfl
        · have := ((int_ref k).1 hk).2.1; rw [hE, ← Lib.size_eq] at this; exact absurd this hlead
      rw [hpl, core_form0 (by rw [c1, hk])]
      exact rparse_p_a_R5b s m e _ _ n1 n2 n3 n4 n5 hs0 h45 hTZ rfl hok ht0 h48 hn (nat_ne (by omega)) hp (by omega) (by omega) (by omega) hm he he0 hb45 hEZ rfl hoe (nat_nne hlead) w
    have hk : intB k = true := (int_ref k).2 ⟨by rw [hE]; exact hoe, by rw [hE, ← Lib.size_eq]; exact hlead, fun hh => by rw [hbel] at hh; cases hh.1⟩
    by_cases hm17 : 17 < m.size
    · have hfit : fitsB (satN a) (intN k) = false := by
        cases h : fitsB (satN a) (intN k)
        · rfl
        · exact absurd ((fits_iff _ _).1 h) (not_fits_m ha (by rw [← hmL, ← Lib.size_eq]; exact hm17))
      have hcore : coreN l = (0, 1) := by unfold coreN; rw [c1, c2, c3, hk, hfit]; rfl
      rw [hpl, hcore]
      exact rparse_p_a_R6m s m e _ n1 n2 n3 n4 n5 hs0 h45 hTZ rfl hok ht0 h48 hn (nat_ne (by omega)) hp (by omega) (by omega) (by omega) hm he he0 hb45 hEZ hlead hoe hm17 w
    by_cases he5 : 5 < e.size
    · have hfit : fitsB (satN a) (intN k) = false := by
        cases h : fitsB (satN a) (intN k)
        · rfl
        · exact absurd ((fits_iff _ _).1 h) (not_fits_e hk (by rw [hE, ← Lib.size_eq]; exact he5))
      have hcore : coreN l = (0, 1) := by unfold coreN; rw [c1, c2, c3, hk, hfit]; rfl
      rw [hpl, hcore]
      exact rparse_p_a_R6e s m e _ n1 n2 n3 n4 n5 hs0 h45 hTZ rfl hok ht0 h48 hn (nat_ne (by omega)) hp (by omega) (by omega) (by omega) hm he he0 hb45 hEZ hlead hoe hm17 he5 w
    · 
      obtain ⟨v1, v2⟩ := intN_val (k := k) (by rw [hE, ← Lib.size_eq]; exact he5) hk
      rw [hE, hbel] at v2
      rw [hE] at v1
      have hvn : satN a = valN a ∨ 9007199254740992 ≤ valN a := by unfold satN; omega
      have hmd : m.data.toList.all digB = true := by rw [hmL]; exact cntB_digits ha
      have hv17 := val_lt_pow _ hmd
      have hp17 : 10 ^ m.data.toList.length ≤ 10 ^ 17 := Nat.pow_le_pow_right (by decide) (by rw [← Lib.size_eq]; omega)
      have hv0 : valN m.data.toList ≠ 0 := by rw [hmL]; exact (val_dec ha).2
      have hed : e.data.toList.all digB = true := by have := int_digits hk; rw [hE] at this; exact this
      obtain ⟨r, hr, hrf, hcalls⟩ := ldexp_open (valN m.data.toList) ((valN e.data.toList : Int)) hv0 (by omega) (by omega) (by omega)
      cases hfit : fitsB (satN a) (intN k)
      · have hcore : coreN l = (0, 1) := by unfold coreN; rw [c1, c2, c3, hk, hfit]; rfl
        rw [hpl, hcore]
        have htx : textN r = (⟨(textN r).toArray⟩ : ByteArray).data.toList := by rw [mk_list]
        have hpp : parseN s.data.toList = (0, 1) := by rw [hl, hpl, hcore]
        exact rparse_p_a_R7n s m e ⟨(textN r).toArray⟩ _ _ _ r n1 n2 n3 n4 n5 hs0 h45 hTZ rfl hok ht0 h48 hn (nat_ne (by omega)) hp (by omega) (by omega) (by omega) hm he he0 hb45 hEZ hlead hoe hm17 he5 (show m.size ≤ 17 by omega) (show e.size ≤ 17 by omega) rfl rfl hmd hed (by omega) hcalls hr htx (ne_text hr hpp rfl htx) w
      · have hF := (fits_iff _ _).1 hfit
        have hFl := hF.lt
        have hv : satN a = valN a := by unfold satN at hFl ⊢; omega
        have hcore : coreN l = (ofOdd (satN a) (intN k), 0) := by unfold coreN; rw [c1, c2, c3, hk, hfit, hpre]; rfl
        have hr2 : r = ofOdd (satN a) (intN k) := by
          rw [hv, v2]
          rw [hv, v2] at hF
          rw [← hmL] at hF ⊢
          exact hrf hF
        have hlt := (ofOdd_spec hF).2.1
        unfold infR at hlt
        rw [← hr2] at hlt
        have hxr : r = ofOdd (satN a) (intN k) := by exact hr2
        rw [hpl, hcore]
        have htx : textN r = s.data.toList := by
          rcases text_parse s.data.toList with ⟨_, h2, _⟩ | ⟨h1, _⟩ | ⟨h1, _⟩
          · rw [hl, hpl, hcore] at h2
            rw [hxr, hl]; exact h2
          · rw [hl, hpl, hcore] at h1; cases h1
          · rw [hl, hpl, hcore] at h1; cases h1
        have := rparse_p_a_R7f s m e _ _ _ r n1 n2 n3 n4 n5 hs0 h45 hTZ rfl hok ht0 h48 hn (nat_ne (by omega)) hp (by omega) (by omega) (by omega) hm he he0 hb45 hEZ hlead hoe hm17 he5 (show m.size ≤ 17 by omega) (show e.size ≤ 17 by omega) rfl rfl hmd hed (by omega) hcalls hr htx w
        rw [hxr] at this
        exact this
end Go.Proofs.YtjkfcmadoeifgaaDoor
