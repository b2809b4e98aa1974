/- racelaw14.DirSplits' walk. Conditions: none of its own. -/
import Derived.Test.YtfcdajkgopcmpaaJDw
import Derived.Test.YtfcdajkgopcmpaaJDq
import Derived.Test.YtfcdajkgopcmpaaJMd
import Derived.RegionTactic
import Derived.Deep.RegionHeld
import Derived.Deep.CutRange
import Derived.Deep.DeepCutAuto
namespace Go.Proofs.Ytfcdajkgopcmpaa
open Go.ChangeShapes Go.WideShapes Go.ChangeAt Go.RowKit
theorem new_from : ∀ (l acc : List RV), Rise (acc ++ l) → l.foldl putL acc = acc ++ l
  | [], acc, _ => by simp
  | r :: l, acc, h => by
    have h1 := List.pairwise_append.1 h
    have e : putL acc r = acc ++ [r] := put_top fun q hq => h1.2.2 q hq r List.mem_cons_self
    rw [List.foldl_cons, e, new_from l (acc ++ [r]) (by simpa using h)]
    simp
theorem new_rise {l : List RV} (h : Rise l) : newL l = l := new_from l [] h
def bv (b : Bool) : Value := .bool b
theorem At.tn {S : Nat → Prop} {w w' : World} {b : Nat} {r : RV} (h : At w b r) (ht : Tn S w w') (hb : ¬ S b) : At w' b r := by
  have hf := fun o => World.frozen?_of_block (a := ⟨b, o, none⟩) (ht.block b h.lt hb)
  exact ⟨Nat.lt_of_lt_of_le h.lt ht.size, ht.cell h.c0 hb, ht.cell h.c1 hb, ht.cell h.c2 hb, ht.cell h.c3 hb, (hf 0).trans h.f0, (hf 1).trans h.f1, (hf 2).trans h.f2, (hf 3).trans h.f3⟩
theorem HasR.tn {P S : Nat → Prop} {w w' : World} {v : Value} {l : List RV} (h : HasR P w v l) (ht : Tn S w w') (hd : ∀ k, P k → ¬ S k) : HasR P w' v l := by
  obtain ⟨ao, cap, hv, h1, h2, h3, h4⟩ := h
  refine ⟨ao, cap, hv, h1, h2, h3, ?_⟩
  rcases h4 with h4 | ⟨b, o, h4, h5, h6, h7⟩
  · exact .inl h4
  · exact .inr ⟨b, o, h4, h5, Nat.lt_of_lt_of_le h6 ht.size, fun i hi => ⟨ht.cell (h7 i hi).c0 (hd b h5), ht.cell (h7 i hi).c1 (hd b h5), ht.cell (h7 i hi).c2 (hd b h5), ht.cell (h7 i hi).c3 (hd b h5)⟩⟩
theorem key_size {s : ByteArray} : keyB s = true ↔ 1 ≤ s.size ∧ s.size ≤ 24 := by
  unfold keyB
  rw [Bool.and_eq_true, decide_eq_true_eq, decide_eq_true_eq]
def cut3 {Main : Prop} (P Q R : Prop) (h : Hid P → Hid Q → Hid R → Main) : {p : Prop × Prop × Prop // Hid p.1 → Hid p.2.1 → Hid p.2.2 → Main} := ⟨(P, Q, R), h⟩
def cut2 {Main : Prop} (P Q : Prop) (h : Hid P → Hid Q → Main) : {p : Prop × Prop // Hid p.1 → Hid p.2 → Main} := ⟨(P, Q), h⟩
set_option maxRecDepth 100000 in
set_option maxHeartbeats 100000000 in
def splitsA : {p : Prop × Prop × Prop // Hid p.1 → Hid p.2.1 → Hid p.2.2 → (∀ (w : World) (n : Nat) (_h0 : 0 < n) (_h : n ≤ 12) (tad : Option Addr) (tn tcap : Nat) (t : List I64) (_ht : XB iv ⟨0, by decide⟩ w.heap.size w tad tn tcap t) (po : Option Addr) (pn pcap : Nat) (ps : List F64) (_hp : XB fv ⟨0, by decide⟩ w.heap.size w po pn pcap ps) (uo : Option Addr) (un ucap : Nat) (us : List Bool) (_hu : XB bv false w.heap.size w uo un ucap us) (ko : Option Addr) (kn kcap : Nat) (ks : List Str) (_hk : KS w.heap.size w ko kn kcap ks), Calls Try.prog 4 #[.int .i64 n, .slice tad tn tcap, .slice po pn pcap, .slice uo un ucap, .slice ko kn kcap] w fun e w' => e = .returned (.bool true) ∧ Below w.heap.size w w')} := by
  apply cut3
  case h =>
    intro hP hQ hR
    intro w n h0 h tad tn tcap t ht po pn pcap ps hp uo un ucap us hu ko kn kcap ks hk
    have hst := run_stf
    have HF := fun w => Lib.hid (first14_any w)
    have HE := fun w => Lib.hid (reven_any n h0 h w)
    have HG := Lib.hid (even_gr h0 h (even_wf h0 h))
    have HL := Lib.hid (even_length n)
    have HNW := fun (w' : World) (P : Nat → Prop) v (hh : HasR P w' v (evenV n)) => Lib.hid (dnew_yes hh HG.out.wf (check_zero.2 HG.out.cov))
    simp only [new_rise HG.out.rise] at HNW
    have HTT := Lib.hid ht
    have HPP := Lib.hid hp
    have HUU := Lib.hid hu
    have HKK := Lib.hid hk
    have HFW := fun (w' : World) (hb : Below w.heap.size w w') => Lib.hid (few14_any (HKK.out.below hb) none 0 0)
    have htn := ht.lt
    have hun := hu.lt
    have hkn := hk.lt
    clear ht hp hu hk
    generalize evenV n = E at *
    go_enter Try.func4, Try.ntmps4
    go_wp2_with (first
      | (go_at_call 7; first
        | (refine (HF w1).out.mono ?_; rintro e w9 ⟨rfl, hb⟩; have HB9 := Lib.hid (HB1.out.trans (hb.mono HB1.out.size)); clear hb)
        | (refine (HF _).out.mono ?_; rintro e w1 ⟨rfl, hb⟩; have HB1 := Lib.hid hb; clear hb))
      | (go_at_call 8; refine (HFW w1 HB1.out).out.mono ?_; rintro e w2 ⟨b, rfl, hb, rfl⟩; clear hb)
      | (go_at_call 21; refine (HE _).out.mono ?_; rintro e w2 ⟨v, rfl, ho, hb⟩; obtain ⟨g0, c0, hv⟩ := own_shape ho h0; subst hv; have HO2 := Lib.hid ho; have HB2 := Lib.hid hb; clear ho hb)
      | (go_at_call 9; refine (HNW w2 _ _ (own_ranges (by rw [HL.out]; exact HO2.out))).out.mono ?_; rintro e w3 ⟨a, C, rfl, hd, hC, hb⟩; have HD3 := Lib.hid hd; have HC3 := Lib.hid hC; have HB3 := Lib.hid hb; clear hd hC hb)
      | fail)
    · go_ret
      exact ⟨rfl, HB9.out⟩
    clear HE HNW HFW
    have hinit : Hid (∃ mb, SQ w w3 a mb E E g0 n c0) := Lib.hid (by
      obtain ⟨mb, hd⟩ := HD3.out
      have hb := HB1.out.trans ((HB2.out.trans (HB3.out.mono HB2.out.size)).mono HB1.out.size)
      refine ⟨mb, ⟨hd.tight, own_below (own_mono HO2.out HB1.out.size) HB3.out, HL.out, hb, Nat.le_trans (HB1.out.trans (HB2.out.mono HB1.out.size)).size (HC3.out a hd.ca), Nat.le_trans (HB1.out.trans (HB2.out.mono HB1.out.size)).size (HC3.out mb hd.cm)⟩⟩)
    obtain ⟨mb, hinit2⟩ := hinit.out
    have HI := Lib.hid hinit2
    clear hinit hinit2 HD3 HC3 HB3 HO2 HB2 HB1
    go_loopw [11, 15] (fun v i wr => ∃ (q m g c : Nat) (M : List RV), i = .int .i64 q ∧ q ≤ tn ∧ v = .slice (some ⟨g, 0, none⟩) m c ∧ 0 < m ∧ m ≤ 12 ∧ Hid (Gr M) ∧ Hid (SQ w wr a mb M M g m c)) (fun _ i _ => tn - (intOf i).toNat)
    case atStart => exact ⟨0, n, g0, c0, E, rfl, Nat.zero_le _, rfl, h0, h, HG, HI⟩
    case round =>
      obtain ⟨q, m, g, c, M, rfl, hq, rfl, hm0, hm12, HGr, HSQ⟩ := hrel
      have HO := Lib.hid HSQ.out.row
      have HW := Lib.hid HSQ.out.lo
      have HML := Lib.hid HSQ.out.len
      by_cases hcond : q < tn ∧ q < pn ∧ q < 11 ∧ m < 12
      · obtain ⟨hqt, hqp, hq11, hm11⟩ := hcond
        obtain ⟨tb, toff, rfl, ct⟩ := (HTT.out.below HW.out).at_ hqt
        obtain ⟨pb, poff, rfl, cp⟩ := (HPP.out.below HW.out).at_ hqp
        replace ct : wr.cell? ⟨tb, toff + q, none⟩ = some (.int .i64 (t.getD q ⟨0, by decide⟩).1) := ct
        replace cp : wr.cell? ⟨pb, poff + q, none⟩ = some (.float .f64 (ps.getD q ⟨0, by decide⟩).1) := cp
        have hx := (ps.getD q ⟨0, by decide⟩).2
        generalize (t.getD q ⟨0, by decide⟩).1 = X at *
        generalize (ps.getD q ⟨0, by decide⟩).1 = x at *
        have hJ : (Int.tmod X (m : Int)).natAbs < m := by
          have a1 := Int.tmod_lt_of_pos X (show (0 : Int) < m by omega)
          have a2 := Int.lt_tmod_of_pos X (show (0 : Int) < m by omega)
          omega
        have HJ2 : Hid ((0 < (Int.tmod X (m : Int)).natAbs ∧ Int.tmod X (m : Int) = -((Int.tmod X (m : Int)).natAbs : Int)) ∨ Int.tmod X (m : Int) = ((Int.tmod X (m : Int)).natAbs : Int)) := Lib.hid (by omega)
        generalize hJe : (Int.tmod X (m : Int)).natAbs = J at *
        clear hJe
        have hJM : J < M.length := by rw [HML.out]; exact hJ
        generalize hmJ : M.getD J RV.zero = r
        have hA := own_at HO.out hJM hmJ
        obtain ⟨a0, a1, a2, a3, x0, x1, x2, x3⟩ := hA
        have hwr : r.wf := by rw [← hmJ, getD_in hJM]; exact HGr.out.wf _ (List.getElem_mem hJM)
        have HWR := Lib.hid hwr
        have HSP := fun w => Lib.hid (rsplit_any r hwr x hx ((m : Int) + 1) w)
        have HRM := Lib.hid hmJ
        have hwm : IntKind.i64.wrap ((m : Int) + 1) = (m : Int) + 1 := IntWalk.i64_in _ (by omega)
        have hs := HW.out.size
        generalize hS : splitV r x ((m : Int) + 1) = S at *
        have HS := Lib.hid hS
        obtain ⟨sa, sb, sf⟩ := S
        obtain ⟨sai, sae, sal, sah⟩ := sa
        obtain ⟨sbi, sbe, sbl, sbh⟩ := sb
        simp only at HSP
        obtain ⟨ri, re, rl, rh⟩ := r
        simp only at a0 a1 a2 a3
        clear hmJ hS hwr
        have hgs := Lib.hid (World.block_lt_of_cell? _ _ a0)
        have hpbs := Lib.hid (World.block_lt_of_cell? _ _ cp)
        have ka0 := Lib.hid a0; have ka1 := Lib.hid a1; have ka2 := Lib.hid a2; have ka3 := Lib.hid a3; have kcp := Lib.hid cp
        go_upto_if 85 with fail
        go_cut [16] (fun vk wc => vk = .int .i64 J ∧ wr = wc)
        case first =>
          rcases HJ2.out with ⟨hJ0, e1⟩ | e1
          all_goals
            go_wp2
            go_meet
            case rel => exact ⟨rfl, rfl⟩
        case rest =>
          obtain ⟨rfl, rfl⟩ := hcut
          go_upto_region 17 with fail
          go_cut [17, 18, 19] (fun pa pb' pf wc => ∃ ba bb, pa = .pointer (some ⟨ba, 0, none⟩) ∧ pb' = .pointer (some ⟨bb, 0, none⟩) ∧ pf = .int .i64 sf ∧ Hid (At wc ba ⟨sai, sae, sal, sah⟩) ∧ Hid (At wc bb ⟨sbi, sbe, sbl, sbh⟩) ∧ ba ≠ bb ∧ wr.heap.size ≤ ba ∧ wr.heap.size ≤ bb ∧ Hid (Below wr.heap.size wr wc))
          case first =>
            rename_i z1 z2 z3 z4 z5 z6 z7 z8 z9 z10 z11 z12 z13 z14 z15 z16 z17 z18 z19 z20 z21 z22 z23 z24 z25 z26 z27 z28 z29 z30 z31 z32 z33 z34 z35 z36 z37 z38 z39 z40 z41 z42 z43 z44 z45 z46 z47 z48 z49 z50 z51 z52 z53 z54 z55 z56 z57 z58 z59 z60 z61 z62 z63 z64 z65 z66 z67 z68 z69 z70 z71 z72 z73 z74 z75 z76 z77 z78 z79 z80 z81 z82 z83 z84 z85 z86 z87 z88 z89 z90 z91 z92 z93 z94 z95 z96 z97 z98 z99 z100 z101 z102 z103 z104 z105 z106 z107 z108 z109 z110 z111 z112 z113 z114 z115 z116 z117 z118 z119 z120 z121 z122 z123 z124 z125 z126 z127 z128 z129 z130 z131 z132 z133 z134 z135 z136 z137 z138 z139 z140 z141 z142 z143 z144 z145 z146 z147 z148 z149 z150 z151 z152 z153 z154 z155 z156 z157 z158 z159 z160 z161 z162 z163 z164 z165 z166 z167 z168 z169 z170 z171 z172 z173 z174
            revert w n h0 h tn tcap t pn pcap ps uo un ucap us ko kn kcap ks hst HF HUU HKK htn hun hkn E HG HL z1 w1 b z2 w2 g0 c0 w3 a C z3 z4 mb HI wr u10 u16 u17 u18 u19 u20 u21 u22 u23 u24 u25 z5 z6 z7 z8 z9 z10 z11 z12 z13 z14 z15 z16 z17 z18 z19 z20 z21 z22 z23 z24 z25 z26 z27 z28 z29 z30 z31 z32 z33 z34 z35 z36 z37 z38 z39 z40 z41 z42 z43 z44 z45 z46 z47 z48 z49 z50 z51 z52 z53 z54 z55 z56 z57 z58 z59 z60 z61 z62 z63 z64 z65 z66 z67 z68 z69 z70 z71 z72 z73 z74 z75 z76 z77 z78 z79 z80 z81 z82 z83 z84 z85 z86 z87 z88 z89 z90 z91 z92 z93 z94 z95 z96 z97 z98 z99 z100 z101 z102 z103 z104 z105 z106 z107 z108 z109 z110 z111 z112 z113 z114 z115 z116 z117 z118 z119 z120 z121 z122 z123 z124 z125 z126 z127 z128 z129 z130 z131 z132 z133 z134 z135 z136 z137 z138 z139 z140 z141 z142 z143 z144 z145 z146 z147 z148 z149 z150 z151 z152 z153 z154 z155 z156 z157 z158 z159 z160 z161 z162 z163 q m g c M hq hm0 hm12 HGr HSQ HO HW HML hqt hqp hq11 hm11 tb toff HTT pb poff HPP X ct x cp hx J hJ HJ2 hJM x0 x1 x2 x3 hwm hs sf sai sae sal sah sbi sbe sbl sbh ri re rl rh a0 a1 a2 a3 HWR HRM HSP HS hgs hpbs ka0 ka1 ka2 ka3 kcp z164 z165 z166 z167 z168 u56 u57 u58 u59 u60 u61 u62 u63 u64 u65 u66 u67 u68 u69 u70 u71 u72 u73 u74 u75 u76 u77 u78 u79 u80 u81 u82 u83 u84 u85 u86 u87 u88 u89 u90 u91 u92 u93 u94 u95 u96 u97 u98 u99 u100 u101 u102 u103 u104 u105 u106 u107 u108 u109 u110 u111 u112 u113 u114 u115 u116 u117 u118 u119 u120 u121 u122 u123 u124 u125 u126 u127 u128 u129 u130 u131 u132 u133 u134 u135 u136 u137 u138 u139 u140 u141 u142 u143 u144 u145 u146 u147 u148 u149 u150 u151 u152 u153 u154 u155 u156 u157 u158 u159 u160 u161 u162 u163 u164 u165 u166 u167 u168 u169 u170 u171 u172 u173 u174 u175 u176 u177 u178 u179 u180 u181 u182 u183 u184 u185 u186 u187 u188 u189 u190 u191 u192 u193 u194 u195 u196 u197 u198 u199 u200 u201 u202 u203 u204 u205 u206 u207 u208 u209 u210 u211 u212 u213 u214 z169 z170 z171 z172 z173 z174
            exact hR.out
          case rest =>
            obtain ⟨ba, bb, rfl, rfl, rfl, HpA, HpB, hne, hA, hB, HC⟩ := hcut
            have HSQ1 := Lib.hid (HSQ.out.below HC.out)
            have HWS := Lib.hid HC.out.size
            have HDL := Lib.hid (show a < wr.heap.size ∧ mb < wr.heap.size ∧ g < wr.heap.size from ⟨HSQ.out.d.lt a (.inl rfl), HSQ.out.d.lt mb (.inr rfl), (HSQ.out.row.lt g rfl).2⟩)
            clear HO HW HC HSP ka0 ka1 ka2 ka3 kcp HTT HPP HJ2 hgs hpbs ct cp a0 a1 a2 a3 x0 x1 x2 x3
            rename_i z1 z2 z3 z4 z5 z6 z7 z8 z9 z10 z11 z12 z13 z14 z15 z16 z17 z18 z19 z20 z21 z22 z23 z24 z25 z26 z27 z28 z29 z30 z31 z32 z33 z34 z35 z36 z37 z38 z39 z40 z41 z42 z43 z44 z45 z46 z47 z48 z49 z50 z51 z52 z53 z54 z55 z56 z57 z58 z59 z60 z61 z62 z63 z64 z65 z66 z67 z68 z69 z70 z71 z72 z73 z74 z75 z76 z77 z78 z79 z80 z81 z82 z83 z84 z85 z86 z87 z88 z89 z90 z91 z92 z93 z94 z95 z96 z97 z98 z99 z100 z101 z102 z103 z104 z105 z106 z107 z108 z109 z110 z111 z112 z113 z114 z115 z116 z117 z118 z119 z120 z121 z122 z123 z124 z125 z126 z127 z128 z129 z130 z131 z132 z133 z134 z135 z136 z137 z138 z139 z140 z141 z142 z143 z144 z145 z146 z147 z148 z149 z150 z151 z152 z153 z154 z155 z156 z157 z158 z159 z160 z161 z162 z163 z164 z165 z166 z167 z168 z169 z170 z171 z172 z173 z174 z175 z176 z177 z178 z179 z180 z181 z182 z183 z184 z185 z186 z187 z188 z189 z190 z191 z192 z193 z194 z195 z196 z197 z198 z199 z200 z201 z202 z203 z204 z205 z206 z207 z208 z209 z210 z211 z212 z213 z214 z215 z216 z217 z218 z219 z220 z221 z222 z223 z224 z225 z226 z227 z228 z229 z230 z231 z232 z233 z234 z235 z236 z237 z238 z239 z240 z241 z242 z243 z244 z245 z246 z247 z248 z249 z250 z251 z252 z253 z254 z255 z256 z257 z258 z259 z260 z261 z262 z263 z264 z265 z266 z267 z268 z269 z270 z271 z272 z273 z274 z275 z276 z277 z278 z279 z280 z281 z282 z283 z284 z285 z286 z287 z288 z289 z290 z291 z292 z293 z294 z295 z296 z297 z298 z299 z300 z301 z302 z303 z304 z305 z306 z307 z308 z309 z310 z311 z312 z313 z314 z315 z316 z317 z318 z319 z320 z321 z322 z323 z324 z325 z326 z327 z328 z329
            revert w n h0 h tn tcap t pn pcap ps uo un ucap us ko kn kcap ks hst HF HUU HKK htn hun hkn E HG HL z1 w1 b z2 w2 g0 c0 w3 a C z3 z4 mb HI wr u10 u16 u17 u18 u19 u20 u21 u22 u23 u24 u25 z5 z6 z7 z8 z9 z10 z11 z12 z13 z14 z15 z16 z17 z18 z19 z20 z21 z22 z23 z24 z25 z26 z27 z28 z29 z30 z31 z32 z33 z34 z35 z36 z37 z38 z39 z40 z41 z42 z43 z44 z45 z46 z47 z48 z49 z50 z51 z52 z53 z54 z55 z56 z57 z58 z59 z60 z61 z62 z63 z64 z65 z66 z67 z68 z69 z70 z71 z72 z73 z74 z75 z76 z77 z78 z79 z80 z81 z82 z83 z84 z85 z86 z87 z88 z89 z90 z91 z92 z93 z94 z95 z96 z97 z98 z99 z100 z101 z102 z103 z104 z105 z106 z107 z108 z109 z110 z111 z112 z113 z114 z115 z116 z117 z118 z119 z120 z121 z122 z123 z124 z125 z126 z127 z128 z129 z130 z131 z132 z133 z134 z135 z136 z137 z138 z139 z140 z141 z142 z143 z144 z145 z146 z147 z148 z149 z150 z151 z152 z153 z154 z155 z156 z157 z158 z159 z160 z161 z162 z163 q m g c M hq hm0 hm12 HGr HSQ HML hqt hqp hq11 hm11 tb toff pb poff X x hx J hJ hJM hwm hs sf sai sae sal sah sbi sbe sbl sbh ri re rl rh HWR HRM HS z164 z165 z166 z167 z168 z169 z170 z171 z172 z173 z174 z175 z176 z177 z178 z179 z180 z181 z182 z183 z184 z185 z186 z187 z188 z189 z190 z191 z192 z193 z194 z195 z196 z197 z198 z199 z200 z201 z202 z203 z204 z205 z206 z207 z208 z209 z210 z211 z212 z213 z214 z215 z216 z217 z218 z219 z220 z221 z222 z223 z224 z225 z226 z227 z228 z229 z230 z231 z232 z233 z234 z235 z236 z237 z238 z239 z240 z241 z242 z243 z244 z245 z246 z247 z248 z249 z250 z251 z252 z253 z254 z255 z256 z257 z258 z259 z260 z261 z262 z263 z264 z265 z266 z267 z268 z269 z270 z271 z272 z273 z274 z275 z276 z277 z278 z279 z280 z281 z282 z283 z284 z285 z286 z287 z288 z289 z290 z291 z292 z293 z294 z295 z296 z297 z298 z299 z300 z301 z302 z303 z304 z305 z306 z307 z308 z309 z310 z311 z312 z313 z314 z315 z316 z317 z318 z319 z320 z321 z322 z323 z324 z325 z326 z327 z328 z329 wc u56 u57 u58 u59 u60 u61 u62 u63 u64 u65 u66 u67 u68 u69 u70 u71 u72 u73 u74 u75 u76 u77 u78 u79 u80 u81 u82 u83 u84 u85 u86 u87 u88 u89 u90 u91 u92 u93 u94 u95 u96 u97 u98 u99 u100 u101 u102 u103 u104 u105 u106 u107 u108 u109 u110 u111 u112 u113 u114 u115 u116 u117 u118 u119 u120 u121 u122 u123 u124 u125 u126 u127 u128 u129 u130 u131 u132 u133 u134 u135 u136 u137 u138 u139 u140 u141 u142 u143 u144 u145 u146 u147 u148 u149 u150 u151 u152 u153 u154 u155 u156 u157 u158 u159 u160 u161 u162 u163 u164 u165 u166 u167 u168 u169 u170 u171 u172 u173 u174 u175 u176 u177 u178 u179 u180 u181 u182 u183 u184 u185 u186 u187 u188 u189 u190 u191 u192 u193 u194 u195 u196 u197 u198 u199 u200 u201 u202 u203 u204 u205 u206 u207 u208 u209 u210 u211 u212 u213 u214 ba bb HpA HpB hne hA hB HSQ1 HWS HDL
            exact hP.out
      · have hcase : ¬ q < tn ∨ (q < tn ∧ ¬ q < pn) ∨ (q < tn ∧ q < pn ∧ ¬ q < 11) ∨ (q < tn ∧ q < pn ∧ q < 11 ∧ ¬ (m : Int) < 12) := by omega
        have HRT := fun (y : Nat) (hy : y < oneB) => Lib.hid (HGr.out.route hy)
        clear hcond HTT HPP HUU HGr HG HL htn hun
        go_upto_region 12 with fail
        go_cut [74] (fun vt wc => vt = .bool false ∧ wr = wc)
        case first =>
          rcases hcase with hc1 | ⟨hc1, hc2⟩ | ⟨hc1, hc2, hc3⟩ | ⟨hc1, hc2, hc3, hc4⟩
          all_goals
            go_wp2
            go_meet
            case rel => exact ⟨rfl, rfl⟩
        case rest =>
          obtain ⟨rfl, rfl⟩ := hcut
          clear hcase
          generalize wr = wb at *
          rename_i z1 z2 z3 z4 z5 z6 z7 z8 z9 z10 z11 z12 z13 z14 z15 z16 z17 z18 z19 z20 z21 z22 z23 z24 z25 z26 z27 z28 z29 z30 z31 z32 z33 z34 z35 z36 z37 z38 z39 z40 z41 z42 z43 z44 z45 z46 z47 z48 z49 z50 z51 z52 z53 z54 z55 z56 z57 z58 z59 z60 z61 z62 z63 z64 z65 z66 z67 z68 z69 z70 z71 z72 z73 z74 z75 z76 z77 z78 z79 z80 z81 z82 z83 z84 z85 z86 z87 z88 z89 z90 z91 z92 z93 z94 z95 z96 z97 z98 z99 z100 z101 z102 z103 z104 z105 z106 z107 z108 z109 z110 z111 z112 z113 z114 z115 z116 z117 z118 z119 z120 z121 z122 z123 z124 z125 z126 z127 z128 z129 z130 z131 z132 z133 z134 z135 z136 z137 z138 z139 z140 z141 z142 z143 z144 z145 z146 z147 z148 z149 z150 z151 z152 z153 z154 z155 z156 z157 z158 z159 z160 z161 z162 z163 z164 z165 z166 z167
          revert w n h0 h tad tn tcap t po pn pcap ps uo un ucap us ko kn kcap ks hst HF HKK hkn E z1 w1 b z2 w2 g0 c0 w3 a C z3 z4 mb HI wr u10 u16 u17 u18 u19 u20 u21 u22 u23 u24 u25 z5 z6 z7 z8 z9 z10 z11 z12 z13 z14 z15 z16 z17 z18 z19 z20 z21 z22 u74 z23 z24 z25 z26 z27 z28 z29 z30 z31 z32 z33 z34 z35 z36 z37 z38 z39 z40 z41 z42 z43 z44 z45 z46 z47 z48 z49 z50 z51 z52 z53 z54 z55 z56 z57 z58 z59 z60 z61 z62 z63 z64 z65 z66 z67 z68 z69 z70 z71 z72 z73 z74 z75 z76 z77 z78 z79 z80 z81 z82 z83 z84 z85 z86 z87 z88 z89 z90 z91 z92 z93 z94 z95 z96 z97 z98 z99 z100 z101 z102 z103 z104 z105 z106 z107 z108 z109 z110 z111 z112 z113 z114 z115 z116 z117 z118 z119 z120 z121 z122 z123 z124 z125 z126 z127 z128 z129 z130 z131 z132 z133 z134 z135 z136 z137 z138 z139 z140 z141 z142 z143 z144 z145 z146 z147 z148 z149 z150 z151 z152 z153 z154 z155 z156 z157 z158 z159 z160 z161 z162 q m g c M hq hm0 hm12 HML HRT z163 z164 z165 z166 z167 u56 u57 u58 u59 u60 u61 u62 u63 u64 u65 u66 u67 u68 u69 u70 u71 u72 u73 u75 u76 u77 u78 u79 u80 u81 u82 u83 u84 u85 u86 u87 u88 u89 u90 u91 u92 u93 u94 u95 u96 u97 u98 u99 u100 u101 u102 u103 u104 u105 u106 u107 u108 u109 u110 u111 u112 u113 u114 u115 u116 u117 u118 u119 u120 u121 u122 u123 u124 u125 u126 u127 u128 u129 u130 u131 u132 u133 u134 u135 u136 u137 u138 u139 u140 u141 u142 u143 u144 u145 u146 u147 u148 u149 u150 u151 u152 u153 u154 u155 u156 u157 u158 u159 u160 u161 u162 u163 u164 u165 u166 u167 u168 u169 u170 u171 u172 u173 u174 u175 u176 u177 u178 u179 u180 u181 u182 u183 u184 u185 u186 u187 u188 u189 u190 u191 u192 u193 u194 u195 u196 u197 u198 u199 u200 u201 u202 u203 u204 u205 u206 u207 u208 u209 u210 u211 u212 u213 u214 wb HSQ HO HW
          exact hQ.out
end Go.Proofs.Ytfcdajkgopcmpaa
