/- raceref9.word, raceref9.Print. Conditions: texts as the law's sizes have them. raceref9.Parse. Conditions: no more than 20000 bytes. -/
import Derived.Test.YtbgccaconhmbaaaGreatDoorJBk
import Derived.Test.YtbgccaconhmbaaaGreatDoorJKy
import Derived.Test.YtbgccaconhmbaaaGreatDoorJSh
import Derived.Test.YtbgccaconhmbaaaGreatDoorJPu
namespace Go.Proofs.YtbgccaconhmbaaaGreatDoor
open Go.ChangeShapes Go.WideShapes Go.ChangeAt Go.RowKit Go.Deep
def wordQ (c : Int) : List UInt8 := if okC c = false then [63] else wordC c.toNat
set_option maxRecDepth 100000 in
theorem word_any (c : Int) (w : World) : Calls Tryz.prog 56 #[.int .i64 c] w fun e w' => e = .returned (.string ⟨(wordQ c).toArray⟩) ∧ w = w' := by
  by_cases h1 : c = 1
  · subst h1
    go_enter Tryz.func56, Tryz.ntmps56
    go_wp2
    go_ret
    exact ⟨rfl, rfl⟩
  have g1 : (c == 1) = false := beq_eq_false_iff_ne.2 h1
  by_cases h2 : c = 2
  · subst h2
    go_enter Tryz.func56, Tryz.ntmps56
    go_wp2
    go_ret
    exact ⟨rfl, rfl⟩
  have g2 : (c == 2) = false := beq_eq_false_iff_ne.2 h2
  by_cases h3 : c = 3
  · subst h3
    go_enter Tryz.func56, Tryz.ntmps56
    go_wp2
    go_ret
    exact ⟨rfl, rfl⟩
  have g3 : (c == 3) = false := beq_eq_false_iff_ne.2 h3
  by_cases h4 : c = 4
  · subst h4
    go_enter Tryz.func56, Tryz.ntmps56
    go_wp2
    go_ret
    exact ⟨rfl, rfl⟩
  have g4 : (c == 4) = false := beq_eq_false_iff_ne.2 h4
  by_cases h5 : c = 5
  · subst h5
    go_enter Tryz.func56, Tryz.ntmps56
    go_wp2
    go_ret
    exact ⟨rfl, rfl⟩
  have g5 : (c == 5) = false := beq_eq_false_iff_ne.2 h5
  by_cases h6 : c = 6
  · subst h6
    go_enter Tryz.func56, Tryz.ntmps56
    go_wp2
    go_ret
    exact ⟨rfl, rfl⟩
  have g6 : (c == 6) = false := beq_eq_false_iff_ne.2 h6
  by_cases h7 : c = 7
  · subst h7
    go_enter Tryz.func56, Tryz.ntmps56
    go_wp2
    go_ret
    exact ⟨rfl, rfl⟩
  have g7 : (c == 7) = false := beq_eq_false_iff_ne.2 h7
  by_cases h8 : c = 8
  · subst h8
    go_enter Tryz.func56, Tryz.ntmps56
    go_wp2
    go_ret
    exact ⟨rfl, rfl⟩
  have g8 : (c == 8) = false := beq_eq_false_iff_ne.2 h8
  by_cases h9 : c = 9
  · subst h9
    go_enter Tryz.func56, Tryz.ntmps56
    go_wp2
    go_ret
    exact ⟨rfl, rfl⟩
  have g9 : (c == 9) = false := beq_eq_false_iff_ne.2 h9
  by_cases h10 : c = 10
  · subst h10
    go_enter Tryz.func56, Tryz.ntmps56
    go_wp2
    go_ret
    exact ⟨rfl, rfl⟩
  have g10 : (c == 10) = false := beq_eq_false_iff_ne.2 h10
  by_cases h11 : c = 11
  · subst h11
    go_enter Tryz.func56, Tryz.ntmps56
    go_wp2
    go_ret
    exact ⟨rfl, rfl⟩
  have g11 : (c == 11) = false := beq_eq_false_iff_ne.2 h11
  by_cases h12 : c = 12
  · subst h12
    go_enter Tryz.func56, Tryz.ntmps56
    go_wp2
    go_ret
    exact ⟨rfl, rfl⟩
  have g12 : (c == 12) = false := beq_eq_false_iff_ne.2 h12
  by_cases h13 : c = 13
  · subst h13
    go_enter Tryz.func56, Tryz.ntmps56
    go_wp2
    go_ret
    exact ⟨rfl, rfl⟩
  have g13 : (c == 13) = false := beq_eq_false_iff_ne.2 h13
  by_cases h14 : c = 14
  · subst h14
    go_enter Tryz.func56, Tryz.ntmps56
    go_wp2
    go_ret
    exact ⟨rfl, rfl⟩
  have g14 : (c == 14) = false := beq_eq_false_iff_ne.2 h14
  by_cases h15 : c = 15
  · subst h15
    go_enter Tryz.func56, Tryz.ntmps56
    go_wp2
    go_ret
    exact ⟨rfl, rfl⟩
  have g15 : (c == 15) = false := beq_eq_false_iff_ne.2 h15
  have e : wordQ c = [63] := by
    unfold wordQ
    rw [if_pos]
    cases hc : okC c with
    | false => rfl
    | true =>
      rcases ok_cases hc with h | h | h | h | h | h | h | h | h | h | h | h | h | h | h
      all_goals contradiction
  rw [e]
  clear e h1 h2 h3 h4 h5 h6 h7 h8 h9 h10 h11 h12 h13 h14 h15
  go_enter Tryz.func56, Tryz.ntmps56
  go_wp2
  go_ret
  exact ⟨rfl, rfl⟩
theorem stepT_eq (o : OpV) : stepT o = wordQ o.c ++ (if nmsC o.c = 1 then [32] ++ quoteV o.key else if nmsC o.c = 2 then [32] ++ printV o.v else []) := by
  unfold stepT wordQ
  cases h : okC o.c with
  | false =>
    have hn : nmsC o.c = 0 := by
      unfold nmsC
      unfold okC at h
      rw [Bool.and_eq_false_iff] at h
      rw [if_neg, if_neg]
      · intro e; rw [e] at h; revert h; decide
      · intro e
        rcases e with e | e | e <;> (rw [e] at h; revert h; decide)
    rw [if_pos rfl, if_pos rfl, hn, if_neg (by decide), if_neg (by decide)]
    rfl
  | true =>
    rw [if_neg (show ¬ (true = false) by decide), if_neg (show ¬ (true = false) by decide)]
    by_cases h1 : nmsC o.c = 1
    · rw [if_pos h1, if_pos h1, List.append_assoc]
    · rw [if_neg h1, if_neg h1]
      by_cases h2 : nmsC o.c = 2
      · rw [if_pos h2, if_pos h2, List.append_assoc]
      · rw [if_neg h2, if_neg h2, List.append_nil]
theorem join_snoc : ∀ (l : List (List UInt8)) (x : List UInt8), Lib.join (l ++ [x]) [32] = (if l = [] then [] else Lib.join l [32] ++ [32]) ++ x
  | [], x => by simp [Lib.join]
  | [a], x => by simp [Lib.join]
  | a :: b :: l, x => by
    have h := join_snoc (b :: l) x
    rw [if_neg (by simp)] at h ⊢
    unfold Lib.join at h ⊢
    rw [List.cons_append, List.cons_append, List.intercalate_cons_cons, ← List.cons_append, h, List.intercalate_cons_cons]
    simp
theorem print_snoc {p : List OpV} {k : Nat} (h : k < p.length) : printT (p.take (k + 1)) = (if k = 0 then [] else printT (p.take k) ++ [32]) ++ stepT p[k] := by
  unfold printT
  rw [take_snocO h, List.map_append, List.map_cons, List.map_nil, join_snoc]
  by_cases hk : k = 0
  · subst hk; simp
  · rw [if_neg hk, if_neg]
    intro e
    have := congrArg List.length e
    rw [List.length_map, List.length_take, List.length_nil] at this
    omega
theorem step_len {o : OpV} (h : Pok o) {K : Nat} (hk : o.key.length ≤ K) (ht : o.v.s.length ≤ K) : (stepT o).length ≤ 3 * K + 60 := by
  have h1 := word_len o.c.toNat
  have h2 := quote_len o.key
  have h3 := print_len (v := o.v) h.num
  unfold stepT
  split
  · simp
  · split
    · simp only [List.length_append, List.length_cons, List.length_nil]; omega
    · split
      · simp only [List.length_append, List.length_cons, List.length_nil]; omega
      · omega
set_option maxRecDepth 100000 in
set_option maxHeartbeats 4000000 in
theorem r9print_any {P : Nat → Prop} {w : World} {v : Value} {p : List OpV} (hv : HasO P w v p) (hp : ∀ o ∈ p, o.wf) (hp2 : ∀ o ∈ p, o.key.length ≤ 20000 ∧ o.v.s.length ≤ 20000) (hl : p.length ≤ 200) :
    Calls Tryz.prog 31 #[v] w fun e w' => e = .returned (.string ⟨(printT p).toArray⟩) ∧ Below w.heap.size w w' := by
  obtain ⟨ao, cap, rfl⟩ := hasg_sl hv
  have HV := Lib.hid hv
  obtain ⟨n, hn⟩ : ∃ n, p.length = n := ⟨_, rfl⟩
  rw [hn] at HV hl
  rw [hn]
  have HN := Lib.hid hn
  have HWD := fun c w => Lib.hid (word_any c w)
  have HNM := fun c w => Lib.hid (named_any c w)
  clear hv hn
  go_enter Tryz.func31, Tryz.ntmps31
  go_wp2
  go_loopw [3, 4] (fun vs vi wr => ∃ (k : Nat) (T : List UInt8), vi = .int .i64 (k : Int) ∧ vs = .string ⟨T.toArray⟩ ∧ k ≤ n ∧ Hid (T = printT (p.take k) ∧ T.length ≤ k * 70000) ∧ Hid (Below w.heap.size w wr)) (fun _ vi _ => n - (RowKit.intOf vi).toNat)
  case atStart => exact ⟨0, [], rfl, rfl, Nat.zero_le _, Lib.hid ⟨rfl, Nat.zero_le _⟩, Lib.hid (Below.refl _ _)⟩
  case round =>
    obtain ⟨k, T, rfl, rfl, hk, HT, HB⟩ := hrel
    by_cases hlt : k < n
    · have hk' : k < p.length := by rw [HN.out]; exact hlt
      obtain ⟨b, o, rfl, hb, _, hc⟩ := hasg_at (HV.out.below HB.out) hk'
      have HQ := Lib.hid hc.op
      have hr := hp _ (List.getElem_mem hk')
      have hr2 := hp2 _ (List.getElem_mem hk')
      have HSN := Lib.hid (print_snoc hk')
      clear hc
      generalize p[k] = r at *
      have hsl := step_len (o := r) ⟨by omega, by omega, hr.2.2.2.1⟩ hr2.1 hr2.2
      have HSE := Lib.hid (stepT_eq r)
      have hwl : (wordQ r.c).length ≤ 4 := by
        unfold wordQ
        split
        · decide
        · exact word_len _
      have hql := quote_len r.key
      have hpl := print_len (v := r.v) hr.2.2.2.1
      have HQU := fun w => Lib.hid (rquote_any ⟨r.key.toArray⟩ (by rw [Lib.size_eq]; show r.key.length ≤ _; omega) w)
      rw [show (⟨r.key.toArray⟩ : ByteArray).data.toList = r.key from rfl] at HQU
      have HPV := fun w => Lib.hid (vrprint_any r.v hr.2.2.2.1 w)
      obtain ⟨T1, hT1⟩ : ∃ T1, (if k = 0 then [] else T ++ [32]) = T1 := ⟨_, rfl⟩
      have hTl := HT.out.2
      have hk70 : k * 70000 ≤ 14000000 := by omega
      have hT1l : T1.length ≤ k * 70000 + 1 := by
        rw [← hT1]
        split
        · simp
        · simp; omega
      have HF : Hid (printT (p.take (k + 1)) = T1 ++ stepT r) := Lib.hid (by rw [HSN.out, ← HT.out.1, hT1])
      have HTS : Hid (k ≠ 0 → T1 = T ++ [32]) := Lib.hid (fun h => by rw [← hT1, if_neg h])
      have HTZ : Hid (k = 0 → T1 = []) := Lib.hid (fun h => by rw [← hT1, if_pos h])
      have HTE : Hid (k = 0 → T = []) := Lib.hid (fun h => by rw [HT.out.1, h]; rfl)
      clear hT1 HSN HT
      have a1 : ∀ w, (Op.stringOp .add ⟨T.toArray⟩ ⟨#[32]⟩).run Tryz.prog w = .ok (.string ⟨(T ++ [32]).toArray⟩) w := fun w => run_add (x := T) (y := [32]) (by simp; omega) w
      obtain ⟨c, key, vk, vx, vs⟩ := r
      simp only at *
      obtain ⟨Wd, hWd⟩ : ∃ W, wordQ c = W := ⟨_, rfl⟩
      obtain ⟨Qt, hQt⟩ : ∃ W, quoteV key = W := ⟨_, rfl⟩
      obtain ⟨Pv, hPv⟩ : ∃ W, printV ⟨vk, vx, vs⟩ = W := ⟨_, rfl⟩
      rw [hWd, hQt, hPv] at HSE
      rw [hWd] at hwl
      rw [hQt] at hql
      rw [hPv] at hpl
      have HWD := fun w => Lib.hid (HWD c w).out
      have HNM := fun w => Lib.hid (HNM c w).out
      simp only [hWd] at HWD
      simp only [hQt] at HQU
      simp only [hPv] at HPV
      have a2 : ∀ w, (Op.stringOp .add ⟨T1.toArray⟩ ⟨Wd.toArray⟩).run Tryz.prog w = .ok (.string ⟨(T1 ++ Wd).toArray⟩) w := fun w => run_add (x := T1) (y := Wd) (by omega) w
      have a3 : ∀ w, (Op.stringOp .add ⟨#[32]⟩ ⟨Qt.toArray⟩).run Tryz.prog w = .ok (.string ⟨([32] ++ Qt).toArray⟩) w := fun w => run_add (x := [32]) (y := Qt) (by simp; omega) w
      have a4 : ∀ w, (Op.stringOp .add ⟨#[32]⟩ ⟨Pv.toArray⟩).run Tryz.prog w = .ok (.string ⟨([32] ++ Pv).toArray⟩) w := fun w => run_add (x := [32]) (y := Pv) (by simp; omega) w
      obtain ⟨T2, hT2⟩ : ∃ T2, T1 ++ Wd = T2 := ⟨_, rfl⟩
      have hT2l : T2.length ≤ k * 70000 + 5 := by rw [← hT2, List.length_append]; omega
      have a5 : ∀ w, (Op.stringOp .add ⟨T2.toArray⟩ ⟨(32 :: Qt).toArray⟩).run Tryz.prog w = .ok (.string ⟨(T2 ++ (32 :: Qt)).toArray⟩) w := fun w => run_add (x := T2) (y := 32 :: Qt) (by simp; omega) w
      have a6 : ∀ w, (Op.stringOp .add ⟨T2.toArray⟩ ⟨(32 :: Pv).toArray⟩).run Tryz.prog w = .ok (.string ⟨(T2 ++ (32 :: Pv)).toArray⟩) w := fun w => run_add (x := T2) (y := 32 :: Pv) (by simp; omega) w
      simp only [hT2] at a2
      have HT2 := Lib.hid hT2
      have e0 := HQ.out.c0; have e1 := HQ.out.c1; have e2 := HQ.out.c2; have e3 := HQ.out.c3; have e4 := HQ.out.c4
      simp only [List.cons_append, List.nil_append] at a3 a4
      have hQl : Qt.length ≤ 60002 := by omega
      have hPl : Pv.length ≤ 60050 := by omega
      have hTT : T2 = T1 ++ Wd := hT2.symm
      have hFF := HF.out
      have hE := HSE.out
      clear hWd hQt hPv hsl hr hr2 hwl hql hpl hT2 HF HSE HT2
      have hsn := nms_cases c
      generalize nmsC c = sn at *
      have HR0 : Hid (sn = 0 → T2 = printT (p.take (k + 1)) ∧ T2.length ≤ (k + 1) * 70000) := Lib.hid (fun h => ⟨by rw [hFF, hE, h, if_neg (by decide), if_neg (by decide), List.append_nil, hTT], by omega⟩)
      have HR1 : Hid (sn = 1 → T2 ++ 32 :: Qt = printT (p.take (k + 1)) ∧ (T2 ++ 32 :: Qt).length ≤ (k + 1) * 70000) := Lib.hid (fun h => ⟨by rw [hFF, hE, h, if_pos rfl, hTT]; simp, by rw [List.length_append, List.length_cons]; omega⟩)
      have HR2 : Hid (sn = 2 → T2 ++ 32 :: Pv = printT (p.take (k + 1)) ∧ (T2 ++ 32 :: Pv).length ≤ (k + 1) * 70000) := Lib.hid (fun h => ⟨by rw [hFF, hE, h, if_neg (by decide), if_pos rfl, hTT]; simp, by rw [List.length_append, List.length_cons]; omega⟩)
      clear hFF hE hTT hQl hPl hT1l hT2l hTl hk70
      by_cases hk0 : k = 0
      · have hTT : T1 = T := by rw [HTZ.out hk0, HTE.out hk0]
        subst hTT
        subst hk0
        simp only [Nat.zero_mul, Nat.add_zero] at e0 e1 e2 e3 e4
        clear a1 HTZ HTE HTS
        rcases hsn with rfl | rfl | rfl
        · have HRR := Lib.hid (HR0.out rfl)
          clear HR0 HR1 HR2
          go_wp2_with (first
            | (go_at_call 56; ((with_reducible refine (HWD _).out.mono ?_); rintro e w2 ⟨rfl, rfl⟩))
            | (go_at_call 40; ((with_reducible refine (HNM _).out.mono ?_); rintro e w2 ⟨rfl, rfl⟩))
            | (go_at_call 61; (refine (HQU _).out.mono ?_); rintro e w2 ⟨rfl, hb2⟩; have HB2 := Lib.hid (HB.out.trans (hb2.mono HB.out.size)); clear hb2)
            | (go_at_call 62; (refine (HPV _).out.mono ?_); rintro e w2 ⟨rfl, hb2⟩; have HB2 := Lib.hid (HB.out.trans (hb2.mono HB.out.size)); clear hb2))
          go_roundw
          case rel => exact ⟨1, T2, by go_num, rfl, by omega, HRR, HB⟩
          case measure => simp [RowKit.intOf]; omega
        · have HRR := Lib.hid (HR1.out rfl)
          clear HR0 HR1 HR2
          go_wp2_with (first
            | (go_at_call 56; ((with_reducible refine (HWD _).out.mono ?_); rintro e w2 ⟨rfl, rfl⟩))
            | (go_at_call 40; ((with_reducible refine (HNM _).out.mono ?_); rintro e w2 ⟨rfl, rfl⟩))
            | (go_at_call 61; (refine (HQU _).out.mono ?_); rintro e w2 ⟨rfl, hb2⟩; have HB2 := Lib.hid (HB.out.trans (hb2.mono HB.out.size)); clear hb2)
            | (go_at_call 62; (refine (HPV _).out.mono ?_); rintro e w2 ⟨rfl, hb2⟩; have HB2 := Lib.hid (HB.out.trans (hb2.mono HB.out.size)); clear hb2))
          go_roundw
          case rel => exact ⟨1, T2 ++ 32 :: Qt, by go_num, rfl, by omega, HRR, HB2⟩
          case measure => simp [RowKit.intOf]; omega
        · have HRR := Lib.hid (HR2.out rfl)
          clear HR0 HR1 HR2
          go_wp2_with (first
            | (go_at_call 56; ((with_reducible refine (HWD _).out.mono ?_); rintro e w2 ⟨rfl, rfl⟩))
            | (go_at_call 40; ((with_reducible refine (HNM _).out.mono ?_); rintro e w2 ⟨rfl, rfl⟩))
            | (go_at_call 61; (refine (HQU _).out.mono ?_); rintro e w2 ⟨rfl, hb2⟩; have HB2 := Lib.hid (HB.out.trans (hb2.mono HB.out.size)); clear hb2)
            | (go_at_call 62; (refine (HPV _).out.mono ?_); rintro e w2 ⟨rfl, hb2⟩; have HB2 := Lib.hid (HB.out.trans (hb2.mono HB.out.size)); clear hb2))
          go_roundw
          case rel => exact ⟨1, T2 ++ 32 :: Pv, by go_num, rfl, by omega, HRR, HB2⟩
          case measure => simp [RowKit.intOf]; omega
      · have hTS := HTS.out hk0
        have g0 : (k : Int) > 0 := by omega
        have g1 : decide (0 < k) = true := decide_eq_true (by omega)
        have g2 : 0 < k := by omega
        rw [← hTS] at a1
        clear HTZ HTE HTS hk0 hTS
        rcases hsn with rfl | rfl | rfl
        · have HRR := Lib.hid (HR0.out rfl)
          clear HR0 HR1 HR2
          go_wp2_with (first
            | (go_at_call 56; ((with_reducible refine (HWD _).out.mono ?_); rintro e w2 ⟨rfl, rfl⟩))
            | (go_at_call 40; ((with_reducible refine (HNM _).out.mono ?_); rintro e w2 ⟨rfl, rfl⟩))
            | (go_at_call 61; (refine (HQU _).out.mono ?_); rintro e w2 ⟨rfl, hb2⟩; have HB2 := Lib.hid (HB.out.trans (hb2.mono HB.out.size)); clear hb2)
            | (go_at_call 62; (refine (HPV _).out.mono ?_); rintro e w2 ⟨rfl, hb2⟩; have HB2 := Lib.hid (HB.out.trans (hb2.mono HB.out.size)); clear hb2))
          go_roundw
          case rel => exact ⟨k + 1, T2, by go_num, rfl, by omega, HRR, HB⟩
          case measure => simp [RowKit.intOf]; omega
        · have HRR := Lib.hid (HR1.out rfl)
          clear HR0 HR1 HR2
          go_wp2_with (first
            | (go_at_call 56; ((with_reducible refine (HWD _).out.mono ?_); rintro e w2 ⟨rfl, rfl⟩))
            | (go_at_call 40; ((with_reducible refine (HNM _).out.mono ?_); rintro e w2 ⟨rfl, rfl⟩))
            | (go_at_call 61; (refine (HQU _).out.mono ?_); rintro e w2 ⟨rfl, hb2⟩; have HB2 := Lib.hid (HB.out.trans (hb2.mono HB.out.size)); clear hb2)
            | (go_at_call 62; (refine (HPV _).out.mono ?_); rintro e w2 ⟨rfl, hb2⟩; have HB2 := Lib.hid (HB.out.trans (hb2.mono HB.out.size)); clear hb2))
          go_roundw
          case rel => exact ⟨k + 1, T2 ++ 32 :: Qt, by go_num, rfl, by omega, HRR, HB2⟩
          case measure => simp [RowKit.intOf]; omega
        · have HRR := Lib.hid (HR2.out rfl)
          clear HR0 HR1 HR2
          go_wp2_with (first
            | (go_at_call 56; ((with_reducible refine (HWD _).out.mono ?_); rintro e w2 ⟨rfl, rfl⟩))
            | (go_at_call 40; ((with_reducible refine (HNM _).out.mono ?_); rintro e w2 ⟨rfl, rfl⟩))
            | (go_at_call 61; (refine (HQU _).out.mono ?_); rintro e w2 ⟨rfl, hb2⟩; have HB2 := Lib.hid (HB.out.trans (hb2.mono HB.out.size)); clear hb2)
            | (go_at_call 62; (refine (HPV _).out.mono ?_); rintro e w2 ⟨rfl, hb2⟩; have HB2 := Lib.hid (HB.out.trans (hb2.mono HB.out.size)); clear hb2))
          go_roundw
          case rel => exact ⟨k + 1, T2 ++ 32 :: Pv, by go_num, rfl, by omega, HRR, HB2⟩
          case measure => simp [RowKit.intOf]; omega
    · obtain rfl : k = n := by omega
      have hT := HT.out.1
      rw [List.take_of_length_le (by rw [HN.out]; exact Nat.le_refl _)] at hT
      have HTp := Lib.hid hT
      clear HT hT
      go_wp2
      go_ret
      exact ⟨by rw [HTp.out]; rfl, HB.out⟩
end Go.Proofs.YtbgccaconhmbaaaGreatDoor
namespace Go.Proofs.YtbgccaconhmbaaaGreatDoor
open Go.ChangeShapes Go.WideShapes Go.ChangeAt Go.RowKit Go.Deep
theorem own_setCell {w : World} {B : Nat} {e : TypeId} {sz : Nat} {v : Value} {n : Nat} {xs : List Value} (h : w.ownsRow B e sz v n xs) {b : Nat} (hb : ∀ q, v.ownBlock = some q → q < b) (o : Nat) (u : Value) : (w.setCell ⟨b, o, none⟩ u).ownsRow B e sz v n xs := by
  refine ⟨h.1, ?_⟩
  rcases h.2 with h2 | ⟨g, cap, cur, rfl, h3, h4, h5⟩
  · exact .inl h2
  · exact .inr ⟨g, cap, cur, rfl, h3, (heap_setCell_other w ⟨b, o, none⟩ g u (Nat.ne_of_lt (hb g rfl))).trans h4, h5⟩
theorem code_iff (x : Nm) {c : Nat} (h1 : 1 ≤ c) (h2 : c < 16) : wordC c = x ↔ codeV x = c := by
  constructor
  · rintro rfl
    exact (word_code h1 h2).2
  · intro h
    unfold codeV at h
    cases e : (List.range 16).find? fun k => wordC k == x with
    | none => rw [e] at h; simp at h; omega
    | some k =>
      rw [e] at h
      obtain rfl : k = c := h
      have := List.find?_some e
      exact eq_of_beq this
/-- The code that has been found so far. -/
def cdV (x : Nm) (c : Nat) : Int := if codeV x < c then (codeV x : Int) else 0
theorem cd_one (x : Nm) : cdV x 1 = 0 := by
  unfold cdV
  split
  · have : codeV x = 0 := by omega
    rw [this]; rfl
  · rfl
theorem cd_hit {x : Nm} {c : Nat} (h : codeV x = c) : cdV x (c + 1) = (c : Int) := by unfold cdV; rw [if_pos (by omega), h]
theorem cd_miss {x : Nm} {c : Nat} (h : codeV x ≠ c) : cdV x (c + 1) = cdV x c := by
  unfold cdV
  by_cases h2 : codeV x < c
  · rw [if_pos h2, if_pos (by omega)]
  · rw [if_neg h2, if_neg (by omega)]
theorem cd_all (x : Nm) : cdV x 16 = (codeV x : Int) := by unfold cdV; rw [if_pos (code_lt x)]
theorem ps_zero9 {x : Nm} {l : List Nm} (h : codeV x = 0) : psV (x :: l) = (OpV.zero, 0, 7) := by unfold psV; simp [h]
theorem ps_plain9 {x : Nm} {l : List Nm} {n : Nat} (h : codeV x = n) (hn : n ≠ 0) (hm : nmsC (n : Int) = 0) : psV (x :: l) = (⟨n, [], DV.none⟩, 1, 0) := by unfold psV; simp [h, hn, hm]
theorem ps_short9 {x : Nm} {n : Nat} (h : codeV x = n) (hn : n ≠ 0) (hm : nmsC (n : Int) ≠ 0) : psV [x] = (OpV.zero, 0, 5) := by unfold psV; simp [h, hn, hm]
theorem ps_key9 {x y : Nm} {l : List Nm} {n : Nat} (h : codeV x = n) (hn : n ≠ 0) (hm : nmsC (n : Int) = 1) : psV (x :: y :: l) = (⟨n, (pkV y).1, DV.none⟩, 2, (pkV y).2) := by unfold psV; simp [h, hn, hm]
theorem ps_value9 {x y : Nm} {l : List Nm} {n : Nat} (h : codeV x = n) (hn : n ≠ 0) (hm : nmsC (n : Int) = 2) : psV (x :: y :: l) = (⟨n, [], (dparseV y).1⟩, 2, (dparseV y).2) := by unfold psV; simp [h, hn, hm]
def finV (r : List OpV × Int) : List OpV × Int := if r.2 = 0 then (if chkV r.1 = 0 then (r.1, 0) else ([], chkV r.1)) else ([], r.2)
theorem fin_bad {r : List OpV × Int} (h : r.2 ≠ 0) : finV r = ([], r.2) := by unfold finV; rw [if_neg h]
set_option maxRecDepth 100000 in
set_option maxHeartbeats 16000000 in
theorem r9parse_any (s : ByteArray) (hs : s.size ≤ 20000) (w : World) : Calls Tryz.prog 29 #[.string s] w (Prsd w (parseV s.data.toList)) := by
  obtain ⟨i0, hi, hz0, hz1, hz2⟩ := info_parts info_op
  have hst := run_stf
  have HSP := Lib.hid (rsplit_any s (by omega) w)
  have hsl : s.data.toList.length ≤ 20000 := by rw [← Lib.size_eq]; exact hs
  cases hsp : splitV s.data.toList with
  | none =>
    have hP : parseV s.data.toList = ([], 4) := by unfold parseV; rw [hsp]
    rw [hsp] at HSP
    rw [hP]
    clear hP hsp hsl
    go_enter Tryz.func29, Tryz.ntmps29
    go_wp2_with (go_at_call 55; refine HSP.out.mono ?_; rintro e w1 ⟨hb, h⟩; obtain ⟨_, rfl⟩ := h.resolve_right (by rintro ⟨ws, u, h, _⟩; cases h); have HB := Lib.hid hb; clear h hb)
    go_ret2
    exact ⟨_, rfl, HB.out, World.ownsRow_nil _ _ _ _⟩
  | some ws =>
    have hP : parseV s.data.toList = finV (stepsV ws) := by unfold parseV finV; rw [hsp]
    rw [hP]
    have hwl := (split_sum _ _ _ hsp).1
    have hwn := (split_sum _ _ _ hsp).2
    rw [hsp] at HSP
    obtain ⟨n, hn⟩ : ∃ n, ws.length = n := ⟨_, rfl⟩
    have hn20 : n ≤ 20000 := by omega
    have HN := Lib.hid hn
    have HWL : Hid (∀ x ∈ ws, x.length ≤ 20000) := Lib.hid (fun x hx => Nat.le_trans (hwl x hx) hsl)
    have HWD := fun c w => Lib.hid (word_any c w)
    have HNM := fun c w => Lib.hid (named_any c w)
    obtain ⟨RS, hRS⟩ : ∃ r, stepsV ws = r := ⟨_, rfl⟩
    rw [hRS]
    have HRS := Lib.hid hRS
    have HE0 : Hid (∀ e : Int, RS.2 = e → e ≠ 0 → finV RS = ([], e)) := Lib.hid (fun e h1 h2 => by rw [fin_bad (by rw [h1]; exact h2), h1])
    clear hP hsp hsl hn hwl hwn hRS
    go_enter Tryz.func29, Tryz.ntmps29
    go_wp2_with (go_at_call 55; refine HSP.out.mono ?_; rintro e w1 ⟨hb, h⟩; obtain ⟨ws', u, hws, rfl, ho⟩ := h.resolve_left (by rintro ⟨h, _⟩; cases h); obtain rfl := Option.some.inj hws; obtain ⟨a1, c1, rfl⟩ := own_sl ho; have HB1 := Lib.hid hb; have HW1 : Hid (HasS (fun k => w.heap.size ≤ k) w1 (.slice a1 n c1) ws) := Lib.hid (by have h := own_keys ho; simp only [HN.out] at h; exact h); clear h hb ho hws)
    simp only [HN.out]
    go_loopw [5, 6, 7, 8, 9, 10] (fun _ vp vi _ _ _ wr => ∃ (k : Nat) (out : List OpV), vi = .int .i64 k ∧ k ≤ n ∧ Hid (RS = (out ++ (stepsV (ws.drop k)).1, (stepsV (ws.drop k)).2) ∧ out.length ≤ k) ∧ Hid (Below w1.heap.size w1 wr) ∧ Hid (wr.ownsRow w1.heap.size 59 5 vp out.length (cellsG opC out))) (fun _ _ vi _ _ _ _ => n - (intOf vi).toNat)
    case atStart => exact ⟨0, [], rfl, Nat.zero_le _, Lib.hid ⟨by rw [← HRS.out]; rfl, Nat.zero_le _⟩, Lib.hid (Below.refl _ _), Lib.hid (World.ownsRow_nil _ _ _ _)⟩
    case round =>
      obtain ⟨k, out, rfl, hk2, HX, HBk, HO⟩ := hrel
      by_cases hlt : k < n
      · have hk' : k < ws.length := by rw [HN.out]; exact hlt
        obtain ⟨b, o, rfl, hb, _, hc⟩ := hasg_at HW1.out hk'
        have cw := hc 0 _ rfl
        rw [Nat.mul_one, Nat.add_zero] at cw
        have CW := Lib.hid cw
        have hd := List.drop_eq_getElem_cons hk'
        clear hc cw
        generalize ws[k] = x at *
        have HWp := fun c hc1 hc2 => Lib.hid (code_iff x (c := c) hc1 hc2)
        go_wp2_with fail
        obtain ⟨bb, hbb⟩ : ∃ bb, wr.heap.size = bb := ⟨_, rfl⟩
        obtain ⟨W0, hW0⟩ : ∃ W0, wr.alloc ozero = W0 := ⟨_, rfl⟩
        have HOlt : Hid (∀ q, u6.ownBlock = some q → q < bb) := Lib.hid (fun q hq => by rw [← hbb]; exact (HO.out.lt q hq).2)
        have HBB : Hid (w1.heap.size ≤ bb) := Lib.hid (by rw [← hbb]; exact HBk.out.size)
        have HOW : Hid (OW W0 bb ⟨cdV x 1, [], DV.none⟩) := Lib.hid (by rw [← hW0, ← hbb, cd_one]; exact ow_zero wr)
        have HB0 : Hid (Below w1.heap.size w1 W0) := Lib.hid (by rw [← hW0]; exact HBk.out.alloc HBk.out.size _)
        have HO0 : Hid (W0.ownsRow w1.heap.size 59 5 u6 out.length (cellsG opC out)) := Lib.hid (by rw [← hW0]; exact HO.out.alloc _)
        rw [hW0, hbb]
        clear hW0 hbb HO HBk
        go_loopw [9] (fun vc wr2 => ∃ c : Nat, vc = .int .i64 c ∧ 1 ≤ c ∧ c ≤ 16 ∧ Hid (Below w1.heap.size w1 wr2) ∧ Hid (OW wr2 bb ⟨cdV x c, [], DV.none⟩) ∧ Hid (wr2.ownsRow w1.heap.size 59 5 u6 out.length (cellsG opC out))) (fun vc _ => 16 - (intOf vc).toNat)
        case atStart => exact ⟨1, rfl, Nat.le_refl _, by decide, HB0, HOW, HO0⟩
        case round =>
          obtain ⟨c, rfl, hc1, hc2, HBj, HOj, HRj⟩ := hrel
          by_cases hc : c < 16
          · have hcc : ¬ (c : Int) > 15 := by omega
            have hcd : decide ((c : Int) ≤ 15) = true := decide_eq_true (by omega)
            have hce : (c : Int) ≤ 15 := by omega
            have cw := (HBj.out.cell (p := ⟨b, o + k, none⟩) hb).trans CW.out
            have HWc : ∀ w, Hid (Calls Tryz.prog 56 #[.int .i64 (c : Int)] w fun e w' => e = .returned (.string ⟨(wordC c).toArray⟩) ∧ w' = w) := fun w => Lib.hid ((HWD (c : Int) w).out.mono fun e w' ⟨h1, h2⟩ => ⟨by rw [h1]; unfold wordQ; rw [if_neg (by rw [bool_ok hc1 hc]; exact Bool.noConfusion)]; rfl, h2.symm⟩)
            have hiff := (HWp c hc1 hc).out
            have f0 := HOj.out.fz 0
            have c0 := HOj.out.box.c0
            obtain ⟨Wc, hWc⟩ : ∃ W, wordC c = W := ⟨_, rfl⟩
            simp only [hWc] at HWc
            rw [hWc] at hiff
            clear hWc
            by_cases hm : Wc = x
            · have HCD := Lib.hid (cd_hit (hiff.1 hm))
              subst hm
              clear hiff
              go_wp2_with fail
              go_quiet (first | (go_at_call 56; with_reducible exact Calls.quiet_of_same (HWc _).out))
              have HB2 := Lib.hid (HBj.out.trans ((below_drewN wr nq).mono HBj.out.size))
              have HOj := Lib.hid (HOj.out.below (below_drewN wr nq))
              have HR2 := Lib.hid (own_below HRj.out (below_drewN wr nq))
              have f0 := HOj.out.fz 0
              have c0 := HOj.out.box.c0
              generalize wr.drewN nq = wq at *
              go_wp2_with fail
              go_roundw
              case rel => exact ⟨c + 1, by go_num, by omega, by omega, Lib.hid (HB2.out.setCell (p := ⟨bb, 0, none⟩) HBB.out _), Lib.hid (by rw [HCD.out]; exact HOj.out.setC c), Lib.hid (own_setCell HR2.out HOlt.out 0 _)⟩
              case measure => simp [intOf]; omega
            · have HCD := Lib.hid (cd_miss fun e => hm (hiff.2 e))
              have hne : (Wc == x) = false := beq_eq_false_iff_ne.2 hm
              have hnd : decide (Wc = x) = false := decide_eq_false hm
              clear hiff hm
              go_wp2_with fail
              go_quiet (first | (go_at_call 56; with_reducible exact Calls.quiet_of_same (HWc _).out))
              have HB2 := Lib.hid (HBj.out.trans ((below_drewN wr nq).mono HBj.out.size))
              have HOj := Lib.hid (HOj.out.below (below_drewN wr nq))
              have HR2 := Lib.hid (own_below HRj.out (below_drewN wr nq))
              generalize wr.drewN nq = wq at *
              go_wp2_with fail
              go_roundw
              case rel => exact ⟨c + 1, by go_num, by omega, by omega, HB2, by rw [HCD.out]; exact HOj, HR2⟩
              case measure => simp [intOf]; omega
          · obtain rfl : c = 16 := by omega
            rw [cd_all] at HOj
            obtain ⟨nn, hnn⟩ : ∃ n, codeV x = n := ⟨_, rfl⟩
            rw [hnn] at HOj
            have hn16 : nn < 16 := by rw [← hnn]; exact code_lt x
            have HCV := Lib.hid hnn
            clear hnn HWp
            have c0 := HOj.out.box.c0; have c1' := HOj.out.box.c1; have c2 := HOj.out.box.c2; have c3 := HOj.out.box.c3; have c4 := HOj.out.box.c4
            have f0 := HOj.out.fz 0; have f1 := HOj.out.fz 1; have f2 := HOj.out.fz 2; have f3 := HOj.out.fz 3; have f4 := HOj.out.fz 4
            have HX1 := HX.out.1
            have hol := HX.out.2
            have HM1 := Lib.hid (show out.length + 1 ≤ maxLen by unfold maxLen; omega)
            have HM2 := Lib.hid (show (out.length + 1) * 56 ≤ 140737488355328 by omega)
            by_cases hz : nn = 0
            · subst hz
              have HZ : Hid (finV RS = ([], 7)) := Lib.hid (HE0.out 7 (by rw [HX1, hd, steps_bad (by rw [ps_zero9 HCV.out]; show (7 : Int) ≠ 0; decide), ps_zero9 HCV.out]) (by decide))
              clear HX HX1 hd
              go_wp2_with fail
              go_ret2
              rw [HZ.out]
              exact ⟨_, rfl, HB1.out.trans (HBj.out.mono HB1.out.size), World.ownsRow_nil _ _ _ _⟩
            · have nz1 : ((nn : Int) == 0) = false := by rw [beq_eq_false_iff_ne]; omega
              have nz2 : (nn == 0) = false := by rw [beq_eq_false_iff_ne]; exact hz
              have HNn := fun w => Lib.hid ((HNM (nn : Int) w).out)
              rcases nms_cases (nn : Int) with hm | hm | hm
              · simp only [hm] at HNn
                have HX2 : Hid (RS = ((out ++ [(⟨nn, [], DV.none⟩ : OpV)]) ++ (stepsV (ws.drop (k + 1))).1, (stepsV (ws.drop (k + 1))).2) ∧ (out ++ [(⟨nn, [], DV.none⟩ : OpV)]).length ≤ k + 1) := Lib.hid ⟨by rw [HX1, hd, steps_more (by rw [ps_plain9 HCV.out hz hm]), ps_plain9 HCV.out hz hm, List.drop_one, List.tail_cons]; simp, by rw [List.length_append, List.length_singleton]; omega⟩
                clear HX HX1 hd
                go_wp2_with (first
                  | (go_at_call 40; ((with_reducible refine (HNn _).out.mono ?_); rintro e w2 ⟨rfl, rfl⟩))
                  | (at_builtin; refine wpList_append_own _ rfl (.tmp 91) (.tmp 93) 22 rfl w1.heap.size 59 i0 (oagg OpV.zero) 5 56 under_ops hi hz0 hz1 hz2 rfl (by decide) _ _ _ rfl (HRj.out.alloc _) ⟨wr.heap.size, 0, none⟩ 1 1 (opC ⟨nn, [], DV.none⟩) rfl rfl (cells_op _ ⟨nn, [], DV.none⟩ _ rfl) (one_op _) HM1.out HM2.out (by have := HBj.out.size; simp at this ⊢; omega) ?_; intro v2 wz hown' hgrow _; have HOz := Lib.hid hown'; have HBz := Lib.hid ((HBj.out.alloc HBj.out.size _).grown hgrow (HBj.out.alloc HBj.out.size _).size fun z hz => (HRj.out.lt z hz).1); clear hown' hgrow))
                go_roundw
                case rel => exact ⟨k + 1, out ++ [(⟨nn, [], DV.none⟩ : OpV)], by go_num, by omega, HX2, HBz, by rw [List.length_append, cellsG_append, cellsG_one]; exact HOz⟩
                case measure => simp [intOf]; omega
              · simp only [hm] at HNn
                by_cases hk1 : k + 1 < n
                · have hk1' : k + 1 < ws.length := by rw [HN.out]; exact hk1
                  obtain ⟨b', o', hbo, _, _, hc'⟩ := hasg_at HW1.out hk1'
                  injection hbo with hbo
                  injection hbo with h1' h2'
                  subst h1' h2'
                  have cy := hc' 0 _ rfl
                  rw [Nat.mul_one, Nat.add_zero] at cy
                  have hd2 := List.drop_eq_getElem_cons hk1'
                  have hyl := HWL.out _ (List.getElem_mem hk1')
                  have cy := (HBj.out.cell (p := ⟨b, o + (k + 1), none⟩) hb).trans cy
                  clear hc'
                  generalize ws[k + 1] = y at *
                  have hx1 : ((k : Int) + 1).toNat = k + 1 := by omega
                  have q1 : (k : Int) + 1 < (n : Int) := by omega
                  have q2 : (0 : Int) ≤ (k : Int) + 1 := by omega
                  have n1 : ((k : Int) + 1 == (n : Int)) = false := by rw [beq_eq_false_iff_ne]; omega
                  rw [hd2] at hd
                  have HUQ := fun w => Lib.hid (runquote_any ⟨y.toArray⟩ (by rw [Lib.size_eq]; exact hyl) w)
                  rw [show (⟨y.toArray⟩ : ByteArray).data.toList = y from rfl] at HUQ
                  cases hu : unqV y with
                  | none =>
                    have hpk : pkV y = ([], 4) := by unfold pkV; rw [hu]
                    obtain ⟨key, hke⟩ : ∃ k : Nm, [] = k := ⟨_, rfl⟩
                    simp only [hu, unqS, unqE, hke] at HUQ
                    clear hke
                    have HZ : Hid (finV RS = ([], 4)) := Lib.hid (HE0.out 4 (by rw [HX1, hd, steps_bad (by rw [ps_key9 HCV.out hz hm, hpk]; show (4 : Int) ≠ 0; decide), ps_key9 HCV.out hz hm, hpk]) (by decide))
                    clear HX HX1 hd
                    go_wp2_with (first
                      | (go_at_call 40; ((with_reducible refine (HNn _).out.mono ?_); rintro e w2 ⟨rfl, rfl⟩))
                      | (go_at_call 57; refine (HUQ _).out.mono ?_; rintro e w3 ⟨rfl, hb3⟩; have HO3 := Lib.hid (HOj.out.below hb3); have d0 := HO3.out.box.c0; have d1 := HO3.out.box.c1; have d2 := HO3.out.box.c2; have d3 := HO3.out.box.c3; have d4 := HO3.out.box.c4; have g1 := HO3.out.fz 1; have HB4 := Lib.hid ((HBj.out.trans (hb3.mono HBj.out.size)).setCell (p := ⟨bb, 1, none⟩) HBB.out (.string ⟨key.toArray⟩)); have HR4 := Lib.hid (own_setCell (own_below HRj.out hb3) HOlt.out 1 (.string ⟨key.toArray⟩)); have HO4 := Lib.hid (HO3.out.setK key); clear hb3))
                    go_ret2
                    rw [HZ.out]
                    exact ⟨_, rfl, HB1.out.trans (HB4.out.mono HB1.out.size), World.ownsRow_nil _ _ _ _⟩
                  | some key =>
                    simp only [hu, unqS, unqE] at HUQ
                    have HKy := fun w => Lib.hid (rkey_any key w)
                    cases hkv : keyV key with
                    | false =>
                      have hpk : pkV y = ([], 4) := by unfold pkV; rw [hu]; simp [hkv]
                      simp only [hkv] at HKy
                      have HZ : Hid (finV RS = ([], 4)) := Lib.hid (HE0.out 4 (by rw [HX1, hd, steps_bad (by rw [ps_key9 HCV.out hz hm, hpk]; show (4 : Int) ≠ 0; decide), ps_key9 HCV.out hz hm, hpk]) (by decide))
                      clear HX HX1 hd
                      go_wp2_with (first
                        | (go_at_call 40; ((with_reducible refine (HNn _).out.mono ?_); rintro e w2 ⟨rfl, rfl⟩))
                        | (go_at_call 41; ((with_reducible refine (HKy _).out.mono ?_); rintro e w2 ⟨rfl, rfl⟩))
                        | (go_at_call 57; refine (HUQ _).out.mono ?_; rintro e w3 ⟨rfl, hb3⟩; have HO3 := Lib.hid (HOj.out.below hb3); have d0 := HO3.out.box.c0; have d1 := HO3.out.box.c1; have d2 := HO3.out.box.c2; have d3 := HO3.out.box.c3; have d4 := HO3.out.box.c4; have g1 := HO3.out.fz 1; have HB4 := Lib.hid ((HBj.out.trans (hb3.mono HBj.out.size)).setCell (p := ⟨bb, 1, none⟩) HBB.out (.string ⟨key.toArray⟩)); have HR4 := Lib.hid (own_setCell (own_below HRj.out hb3) HOlt.out 1 (.string ⟨key.toArray⟩)); have HO4 := Lib.hid (HO3.out.setK key); clear hb3))
                      go_ret2
                      rw [HZ.out]
                      exact ⟨_, rfl, HB1.out.trans (HB4.out.mono HB1.out.size), World.ownsRow_nil _ _ _ _⟩
                    | true =>
                      have hpk : pkV y = (key, 0) := by unfold pkV; rw [hu]; simp [hkv]
                      simp only [hkv] at HKy
                      have HX2 : Hid (RS = ((out ++ [(⟨nn, key, DV.none⟩ : OpV)]) ++ (stepsV (ws.drop (k + 2))).1, (stepsV (ws.drop (k + 2))).2) ∧ (out ++ [(⟨nn, key, DV.none⟩ : OpV)]).length ≤ k + 2) := Lib.hid ⟨by rw [HX1, hd, steps_more (by rw [ps_key9 HCV.out hz hm, hpk]), ps_key9 HCV.out hz hm, hpk]; simp, by rw [List.length_append, List.length_singleton]; omega⟩
                      clear HX HX1 hd
                      go_wp2_with (first
                        | (go_at_call 40; ((with_reducible refine (HNn _).out.mono ?_); rintro e w2 ⟨rfl, rfl⟩))
                        | (go_at_call 41; ((with_reducible refine (HKy _).out.mono ?_); rintro e w2 ⟨rfl, rfl⟩))
                        | (go_at_call 57; refine (HUQ _).out.mono ?_; rintro e w3 ⟨rfl, hb3⟩; have HO3 := Lib.hid (HOj.out.below hb3); have d0 := HO3.out.box.c0; have d1 := HO3.out.box.c1; have d2 := HO3.out.box.c2; have d3 := HO3.out.box.c3; have d4 := HO3.out.box.c4; have g1 := HO3.out.fz 1; have HB4 := Lib.hid ((HBj.out.trans (hb3.mono HBj.out.size)).setCell (p := ⟨bb, 1, none⟩) HBB.out (.string ⟨key.toArray⟩)); have HR4 := Lib.hid (own_setCell (own_below HRj.out hb3) HOlt.out 1 (.string ⟨key.toArray⟩)); have HO4 := Lib.hid (HO3.out.setK key); clear hb3)
                        | (at_builtin; refine wpList_append_own _ rfl (.tmp 91) (.tmp 93) 22 rfl w1.heap.size 59 i0 (oagg OpV.zero) 5 56 under_ops hi hz0 hz1 hz2 rfl (by decide) _ _ _ rfl (HR4.out.alloc _) ⟨w3.heap.size, 0, none⟩ 1 1 (opC ⟨nn, key, DV.none⟩) rfl rfl (cells_op _ ⟨nn, key, DV.none⟩ _ (by simp)) (one_op _) HM1.out HM2.out (by have := HB4.out.size; simp at this ⊢; omega) ?_; intro v2 wz hown' hgrow _; have HOz := Lib.hid hown'; have HBz := Lib.hid ((HB4.out.alloc HB4.out.size _).grown hgrow (HB4.out.alloc HB4.out.size _).size fun z hz => (HR4.out.lt z hz).1); clear hown' hgrow))
                      go_roundw
                      case rel => exact ⟨k + 2, out ++ [(⟨nn, key, DV.none⟩ : OpV)], by go_num, by omega, HX2, HBz, by rw [List.length_append, cellsG_append, cellsG_one]; exact HOz⟩
                      case measure => simp [intOf]; omega
                · have hkn : k + 1 = n := by omega
                  have hdn : ws.drop (k + 1) = [] := List.drop_of_length_le (by rw [HN.out]; omega)
                  have hnm : nmsC (nn : Int) ≠ 0 := by rw [hm]; decide
                  have n1 : ((k : Int) + 1 == (n : Int)) = true := by rw [beq_iff_eq]; omega
                  clear hkn
                  have HZ : Hid (finV RS = ([], 5)) := Lib.hid (HE0.out 5 (by rw [HX1, hd, hdn, steps_bad (by rw [ps_short9 HCV.out hz hnm]; show (5 : Int) ≠ 0; decide), ps_short9 HCV.out hz hnm]) (by decide))
                  clear HX HX1 hd
                  go_wp2_with (go_at_call 40; ((with_reducible refine (HNn _).out.mono ?_); rintro e w2 ⟨rfl, rfl⟩))
                  go_ret2
                  rw [HZ.out]
                  exact ⟨_, rfl, HB1.out.trans (HBj.out.mono HB1.out.size), World.ownsRow_nil _ _ _ _⟩
              · simp only [hm] at HNn
                by_cases hk1 : k + 1 < n
                · have hk1' : k + 1 < ws.length := by rw [HN.out]; exact hk1
                  obtain ⟨b', o', hbo, _, _, hc'⟩ := hasg_at HW1.out hk1'
                  injection hbo with hbo
                  injection hbo with h1' h2'
                  subst h1' h2'
                  have cy := hc' 0 _ rfl
                  rw [Nat.mul_one, Nat.add_zero] at cy
                  have hd2 := List.drop_eq_getElem_cons hk1'
                  have hyl := HWL.out _ (List.getElem_mem hk1')
                  have cy := (HBj.out.cell (p := ⟨b, o + (k + 1), none⟩) hb).trans cy
                  clear hc'
                  generalize ws[k + 1] = y at *
                  have hx1 : ((k : Int) + 1).toNat = k + 1 := by omega
                  have q1 : (k : Int) + 1 < (n : Int) := by omega
                  have q2 : (0 : Int) ≤ (k : Int) + 1 := by omega
                  have n1 : ((k : Int) + 1 == (n : Int)) = false := by rw [beq_eq_false_iff_ne]; omega
                  rw [hd2] at hd
                  have HDP := fun w => Lib.hid (rdparse_any ⟨y.toArray⟩ (by rw [Lib.size_eq]; exact hyl) w)
                  rw [show (⟨y.toArray⟩ : ByteArray).data.toList = y from rfl] at HDP
                  have hps := ps_value9 (y := y) (l := ws.drop (k + 1 + 1)) HCV.out hz hm
                  generalize dparseV y = K at *
                  obtain ⟨⟨kk, ff, ss⟩, e2⟩ := K
                  simp only at HDP hps
                  by_cases he : e2 = 0
                  · subst he
                    have HX2 : Hid (RS = ((out ++ [(⟨nn, [], ⟨kk, ff, ss⟩⟩ : OpV)]) ++ (stepsV (ws.drop (k + 2))).1, (stepsV (ws.drop (k + 2))).2) ∧ (out ++ [(⟨nn, [], ⟨kk, ff, ss⟩⟩ : OpV)]).length ≤ k + 2) := Lib.hid ⟨by rw [HX1, hd, steps_more (by rw [hps]), hps]; simp, by rw [List.length_append, List.length_singleton]; omega⟩
                    clear HX HX1 hd
                    clear hps
                    go_wp2_with (first
                      | (go_at_call 40; ((with_reducible refine (HNn _).out.mono ?_); rintro e w2 ⟨rfl, rfl⟩))
                      | (go_at_call 58; refine (HDP _).out.mono ?_; rintro e w3 ⟨rfl, hb3⟩; have HO3 := Lib.hid (HOj.out.below hb3); have g2 := HO3.out.box.c2; have g3 := HO3.out.box.c3; have g4 := HO3.out.box.c4; have e2' := HO3.out.fz 2; have e3 := HO3.out.fz 3; have e4 := HO3.out.fz 4; have HB4 := Lib.hid ((((HBj.out.trans (hb3.mono HBj.out.size)).setCell (p := ⟨bb, 2, none⟩) HBB.out (.int .i64 kk)).setCell (p := ⟨bb, 3, none⟩) HBB.out (.float .f64 ff)).setCell (p := ⟨bb, 4, none⟩) HBB.out (.string ⟨ss.toArray⟩)); have HR4 := Lib.hid (own_setCell (own_setCell (own_setCell (own_below HRj.out hb3) HOlt.out 2 (.int .i64 kk)) HOlt.out 3 (.float .f64 ff)) HOlt.out 4 (.string ⟨ss.toArray⟩)); have HO4 := Lib.hid (HO3.out.setV ⟨kk, ff, ss⟩); have t0 := HO4.out.box.c0; have t1 := HO4.out.box.c1; have t2 := HO4.out.box.c2; have t3 := HO4.out.box.c3; have t4 := HO4.out.box.c4; clear hb3)
                      | (at_builtin; refine wpList_append_own _ rfl (.tmp 91) (.tmp 93) 22 rfl w1.heap.size 59 i0 (oagg OpV.zero) 5 56 under_ops hi hz0 hz1 hz2 rfl (by decide) _ _ _ rfl (HR4.out.alloc _) ⟨w3.heap.size, 0, none⟩ 1 1 (opC ⟨nn, [], ⟨kk, ff, ss⟩⟩) rfl rfl (cells_op _ ⟨nn, [], ⟨kk, ff, ss⟩⟩ _ (by simp)) (one_op _) HM1.out HM2.out (by have := HB4.out.size; simp at this ⊢; omega) ?_; intro v2 wz hown' hgrow _; have HOz := Lib.hid hown'; have HBz := Lib.hid ((HB4.out.alloc HB4.out.size _).grown hgrow (HB4.out.alloc HB4.out.size _).size fun z hz => (HR4.out.lt z hz).1); clear hown' hgrow))
                    go_roundw
                    case rel => exact ⟨k + 2, out ++ [(⟨nn, [], ⟨kk, ff, ss⟩⟩ : OpV)], by go_num, by omega, HX2, HBz, by rw [List.length_append, cellsG_append, cellsG_one]; exact HOz⟩
                    case measure => simp [intOf]; omega
                  · have ne1 : (e2 == 0) = false := beq_eq_false_iff_ne.2 he
                    have HZ : Hid (finV RS = ([], e2)) := Lib.hid (HE0.out e2 (by rw [HX1, hd, steps_bad (by rw [hps]; exact he), hps]) (he))
                    clear HX HX1 hd hps
                    go_wp2_with (first
                      | (go_at_call 40; ((with_reducible refine (HNn _).out.mono ?_); rintro e w2 ⟨rfl, rfl⟩))
                      | (go_at_call 58; refine (HDP _).out.mono ?_; rintro e w3 ⟨rfl, hb3⟩; have HO3 := Lib.hid (HOj.out.below hb3); have g2 := HO3.out.box.c2; have g3 := HO3.out.box.c3; have g4 := HO3.out.box.c4; have e2' := HO3.out.fz 2; have e3 := HO3.out.fz 3; have e4 := HO3.out.fz 4; have HB4 := Lib.hid ((((HBj.out.trans (hb3.mono HBj.out.size)).setCell (p := ⟨bb, 2, none⟩) HBB.out (.int .i64 kk)).setCell (p := ⟨bb, 3, none⟩) HBB.out (.float .f64 ff)).setCell (p := ⟨bb, 4, none⟩) HBB.out (.string ⟨ss.toArray⟩)); have HR4 := Lib.hid (own_setCell (own_setCell (own_setCell (own_below HRj.out hb3) HOlt.out 2 (.int .i64 kk)) HOlt.out 3 (.float .f64 ff)) HOlt.out 4 (.string ⟨ss.toArray⟩)); have HO4 := Lib.hid (HO3.out.setV ⟨kk, ff, ss⟩); have t0 := HO4.out.box.c0; have t1 := HO4.out.box.c1; have t2 := HO4.out.box.c2; have t3 := HO4.out.box.c3; have t4 := HO4.out.box.c4; clear hb3))
                    go_ret2
                    rw [HZ.out]
                    exact ⟨_, rfl, HB1.out.trans (HB4.out.mono HB1.out.size), World.ownsRow_nil _ _ _ _⟩
                · have hkn : k + 1 = n := by omega
                  have hdn : ws.drop (k + 1) = [] := List.drop_of_length_le (by rw [HN.out]; omega)
                  have hnm : nmsC (nn : Int) ≠ 0 := by rw [hm]; decide
                  have n1 : ((k : Int) + 1 == (n : Int)) = true := by rw [beq_iff_eq]; omega
                  clear hkn
                  have HZ : Hid (finV RS = ([], 5)) := Lib.hid (HE0.out 5 (by rw [HX1, hd, hdn, steps_bad (by rw [ps_short9 HCV.out hz hnm]; show (5 : Int) ≠ 0; decide), ps_short9 HCV.out hz hnm]) (by decide))
                  clear HX HX1 hd
                  go_wp2_with (go_at_call 40; ((with_reducible refine (HNn _).out.mono ?_); rintro e w2 ⟨rfl, rfl⟩))
                  go_ret2
                  rw [HZ.out]
                  exact ⟨_, rfl, HB1.out.trans (HBj.out.mono HB1.out.size), World.ownsRow_nil _ _ _ _⟩
      · obtain rfl : k = n := by omega
        have hX := HX.out.1
        rw [List.drop_of_length_le (by rw [HN.out]; exact Nat.le_refl _)] at hX
        have hX : RS = (out, 0) := by rw [hX]; show (out ++ [], 0) = _; rw [List.append_nil]
        subst hX
        have HCK := fun (w2 : World) (hO : w2.ownsRow w1.heap.size 59 5 u6 out.length (cellsG opC out)) => Lib.hid (rcheck_any (own_hasG opC_len hO))
        clear HX HRS HE0
        by_cases hc : chkV out = 0
        · have HF : Hid (finV (out, 0) = (out, 0)) := Lib.hid (by unfold finV; simp [hc])
          simp only [hc] at HCK
          clear hc
          go_wp2_with (go_at_call 17; refine (HCK _ HO.out).out.mono ?_; rintro e w2 ⟨rfl, hb2⟩; have HB2 := Lib.hid (HBk.out.trans (hb2.mono HBk.out.size)); have HO2 := Lib.hid (own_below HO.out hb2); clear hb2)
          go_ret2
          rw [HF.out]
          exact ⟨_, rfl, HB1.out.trans (HB2.out.mono HB1.out.size), HO2.out.mono HB1.out.size⟩
        · have HF : Hid (finV (out, 0) = ([], chkV out)) := Lib.hid (by unfold finV; simp [hc])
          generalize chkV out = e2 at *
          have ne1 : (e2 == 0) = false := beq_eq_false_iff_ne.2 hc
          go_wp2_with (go_at_call 17; refine (HCK _ HO.out).out.mono ?_; rintro e w2 ⟨rfl, hb2⟩; have HB2 := Lib.hid (HBk.out.trans (hb2.mono HBk.out.size)); clear hb2)
          go_ret2
          rw [HF.out]
          exact ⟨_, rfl, HB1.out.trans (HB2.out.mono HB1.out.size), World.ownsRow_nil _ _ _ _⟩
end Go.Proofs.YtbgccaconhmbaaaGreatDoor
