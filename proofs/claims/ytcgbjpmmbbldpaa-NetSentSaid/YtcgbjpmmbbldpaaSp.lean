/- Mails in a row of the call's own, whose bytes lie anywhere; racelaw13.place. Conditions: none of its own. -/
import Derived.Test.YtcgbjpmmbbldpaaMv
namespace Go.Proofs.Ytcgbjpmmbbldpaa
open Go.ChangeShapes Go.WideShapes Go.ChangeAt Go.RowKit Go.Deep
/-- Where the first mail lies that is the same. -/
def placeT (l : List MV) (m : MV) : Int := match l.findIdx? (sameM · m) with | some k => (k : Int) | none => -1
/-- The bytes of a mail, readable in blocks of D. -/
def DR (D : Nat → Prop) (w : World) (x : MH) : Prop := ∃ ro c, x.2 = .slice ro x.1.d.length c ∧ SB D w ro x.1.d.length c x.1.d
/-- Mails in a row of the call's own. -/
structure TL (D : Nat → Prop) (B : Nat) (w : World) (v : Value) (T : List MH) : Prop where
  own : w.ownsRow B 40 3 v T.length (cellsG mC T)
  dat : ∀ x ∈ T, DR D w x
section
variable {D E S : Nat → Prop} {B : Nat} {w w' : World} {v : Value} {T : List MH}
theorem TL.tn (h : TL D B w v T) (ht : Tn S w w') (hv : ∀ k, v.ownBlock = some k → ¬ S k) (hd : ∀ k, D k → ¬ S k) : TL D B w' v T :=
  ⟨own_tn h.own ht hv, fun x hx => let ⟨ro, c, h1, h2⟩ := h.dat x hx; ⟨ro, c, h1, h2.tn ht hd⟩⟩
theorem TL.below (h : TL D B w v T) (hb : Below w.heap.size w w') : TL D B w' v T := h.tn (Tn.of_below (S := fun _ => False) hb) (fun _ _ e => e) (fun _ _ e => e)
theorem TL.mono (h : TL D B w v T) (hd : ∀ k, k < w.heap.size → D k → E k) : TL E B w v T := ⟨h.own, fun x hx => let ⟨ro, c, h1, h2⟩ := h.dat x hx; ⟨ro, c, h1, h2.mono hd⟩⟩
theorem TL.at_ {ao : Option Addr} {n cap : Nat} (h : TL D B w (.slice ao n cap) T) {k : Nat} (hk : k < T.length) : ∃ g, ao = some ⟨g, 0, none⟩ ∧ g < w.heap.size ∧ MAt w g (k * 3) T[k] ∧ DR D w T[k] := by
  obtain ⟨g, c, e⟩ := own_shape h.own (by omega)
  injection e with e1 e2 e3
  subst e1
  obtain ⟨b, o, e, hb, _, hl⟩ := hasg_at (own_hasG mC_len (show w.ownsRow B 40 3 (.slice (some ⟨g, 0, none⟩) n cap) T.length (cellsG mC T) from h.own)) hk
  injection e with e
  injection e with e1 e2
  subst e1 e2
  rw [Nat.zero_add] at hl
  exact ⟨g, rfl, hb, hl.ml, h.dat _ (List.getElem_mem hk)⟩
end
theorem TL.push {D : Nat → Prop} {B n : Nat} {w w' : World} {v v' : Value} {T : List MH} {x : MH} (h : TL D B w v T) (hg : w.grownBy w' v.ownBlock) (hv : ∀ k, v.ownBlock = some k → ¬ D k) (hn : T.length = n) (ho : w'.ownsRow B 40 3 v' (n + 1) (cellsG mC T ++ mC x)) (hx : DR D w x) : TL D B w' v' (T ++ [x]) := by
  have ht : Tn (fun k => v.ownBlock = some k) w w' := (Tn.refl _ _).grown hg (fun k hk _ => hk)
  have hd : ∀ y, DR D w y → DR D w' y := fun y ⟨ro, c, h1, h2⟩ => ⟨ro, c, h1, h2.tn ht (fun k h1 h2 => hv k h2 h1)⟩
  refine ⟨by rw [List.length_append, cellsG_append, cellsG_one, hn]; exact ho, fun y hy => ?_⟩
  rcases List.mem_append.1 hy with hy | hy
  · exact hd y (h.dat y hy)
  · obtain rfl : y = x := by simpa using hy
    exact hd _ hx
/-- The mails but one, in a row anew. -/
theorem TL.anew {D : Nat → Prop} {B : Nat} {w w' : World} {v v' : Value} {T : List MH} {S : Nat → Prop} (h : TL D B w v T) (ht : Tn S w w') (hd : ∀ k, D k → ¬ S k) {k : Nat} (hk : k < T.length) {n : Nat} (hn : n = T.length - 1) (ho : w'.ownsRow B 40 3 v' n (cellsG mC (T.take k) ++ cellsG mC (T.drop (k + 1)))) : TL D B w' v' (T.eraseIdx k) := by
  have e : (T.eraseIdx k).length = n := by rw [List.length_eraseIdx, if_pos hk, hn]
  refine ⟨by rw [e, List.eraseIdx_eq_take_drop_succ, cellsG_append]; exact ho, fun y hy => ?_⟩
  obtain ⟨ro, c, h1, h2⟩ := h.dat y (List.mem_of_mem_eraseIdx hy)
  exact ⟨ro, c, h1, h2.tn ht hd⟩
theorem placeT_at {l : List MV} {m : MV} {k : Nat} (hk : k < l.length) (h : ∀ j (hj : j < l.length), j < k → sameM l[j] m = false) (h2 : sameM l[k] m = true) : placeT l m = k := by
  unfold placeT
  have : l.findIdx? (sameM · m) = some k := by
    rw [List.findIdx?_eq_some_iff_getElem]
    exact ⟨hk, h2, fun j hj => by simpa using h j (by omega) hj⟩
  rw [this]
theorem placeT_none {l : List MV} {m : MV} (h : ∀ j (hj : j < l.length), sameM l[j] m = false) : placeT l m = -1 := by
  unfold placeT
  have : l.findIdx? (sameM · m) = none := by
    rw [List.findIdx?_eq_none_iff]
    intro x hx
    obtain ⟨j, hj, rfl⟩ := List.mem_iff_getElem.1 hx
    simpa using h j hj
  rw [this]
theorem cons_erase {l : List MV} {i : Nat} (hi : i < l.length) : l.Perm (l[i] :: l.eraseIdx i) := by
  have e : l = l.take i ++ l[i] :: l.drop (i + 1) := by rw [← List.drop_eq_getElem_cons hi, List.take_append_drop]
  have p : l.Perm (l.take i ++ l[i] :: l.drop (i + 1)) := by rw [← e]
  rw [List.eraseIdx_eq_take_drop_succ]
  exact p.trans List.perm_middle
/-- The list in another order has the mail too, and is the same behind it was taken out of both. -/
theorem placeT_perm {l t : List MV} {i : Nat} (hp : l.Perm t) (hi : i < l.length) : ∃ k, ∃ hk : k < t.length, placeT t l[i] = k ∧ t[k] = l[i] ∧ (l.eraseIdx i).Perm (t.eraseIdx k) := by
  have hm : l[i] ∈ t := hp.subset (List.getElem_mem hi)
  have hs : (t.findIdx? (sameM · l[i])).isSome = true := by
    rw [List.findIdx?_isSome]
    exact List.any_eq_true.2 ⟨l[i], hm, sameM_self _⟩
  obtain ⟨k, hk⟩ := Option.isSome_iff_exists.1 hs
  obtain ⟨hkl, hks, _⟩ := List.findIdx?_eq_some_iff_getElem.1 hk
  have e : t[k] = l[i] := sameM_iff.1 hks
  refine ⟨k, hkl, by unfold placeT; rw [hk], e, ?_⟩
  have p1 := (cons_erase hi).symm.trans (hp.trans (cons_erase hkl))
  rw [e] at p1
  exact p1.cons_inv
theorem placeT_lt {l t : List MV} {m : MV} (hp : l.Perm t) (hm : m ∈ l) : 0 ≤ placeT t m := by
  obtain ⟨i, hi, rfl⟩ := List.mem_iff_getElem.1 hm
  obtain ⟨k, _, e, _⟩ := placeT_perm hp hi
  omega
theorem move_perm {l : List MV} {i : Nat} (hi : i < l.length) (k : Int) : (moveV l i k).Perm l := by
  obtain ⟨e, _⟩ := move_parts hi k
  rw [e]
  refine List.perm_middle.trans ?_
  rw [List.take_append_drop]
  exact (cons_erase hi).symm
set_option maxRecDepth 100000 in
set_option maxHeartbeats 4000000 in
/-- racelaw13.place answers where the first mail lies that is the same. -/
theorem place_any {D E : Nat → Prop} {B : Nat} {w : World} {T : List MH} {m : MV} {ao po : Option Addr} {n cap pc : Nat} (h : TL D B w (.slice ao n cap) T) (hn : n = T.length) (hl : n ≤ 1000000) (hm : SB E w po m.d.length pc m.d) :
    Calls Try.prog 20 #[.slice ao n cap, magg (m, .slice po m.d.length pc)] w fun e w' => e = .returned (.int .i64 (placeT (T.map (·.1)) m)) ∧ Below w.heap.size w w' := by
  obtain ⟨m1, m2, m3⟩ := m
  simp only at hm
  obtain ⟨W, hW⟩ : ∃ W, w.alloc (mobj 40 (⟨m1, m2, m3⟩, .slice po m3.length pc)) = W := ⟨_, rfl⟩
  have H := Lib.hid (hW ▸ h.below (below1 w (mobj 40 (⟨m1, m2, m3⟩, .slice po m3.length pc))))
  have HM := Lib.hid (hW ▸ hm.below (below1 w (mobj 40 (⟨m1, m2, m3⟩, .slice po m3.length pc))))
  have HX := Lib.hid (hW ▸ mx_new w 40 (⟨m1, m2, m3⟩, .slice po m3.length pc))
  have HB := Lib.hid (hW ▸ below1 w (mobj 40 (⟨m1, m2, m3⟩, .slice po m3.length pc)))
  obtain ⟨b, hb⟩ : ∃ b, w.heap.size = b := ⟨_, rfl⟩
  have HN := Lib.hid hn
  rw [hb] at HX
  clear h hm hn
  go_enter Try.func20, Try.ntmps20
  go_wp2
  try rw [hb]
  try rw [show w.alloc (.cells #[.int .i64 m1, .int .i64 m2, .slice po m3.length pc] 40) = W from hW]
  clear hb hW
  go_loopw [5] (fun vi wr => ∃ k : Nat, vi = .int .i64 k ∧ k ≤ n ∧ Hid (∀ j (hj : j < (T.map (·.1)).length), j < k → sameM (T.map (·.1))[j] ⟨m1, m2, m3⟩ = false) ∧ Hid (Below W.heap.size W wr)) (fun vi _ => n - (intOf vi).toNat)
  case atStart => exact ⟨0, rfl, Nat.zero_le _, Lib.hid (fun j _ h => absurd h (Nat.not_lt_zero _)), Lib.hid (Below.refl _ _)⟩
  case round =>
    obtain ⟨k, rfl, hk, HP, HBR⟩ := hrel
    by_cases hlt : k < n
    · have hkl : k < T.length := by rw [← HN.out]; exact hlt
      obtain ⟨g, rfl, hgl, hma, ro, rc, hx2, hsb⟩ := H.out.at_ hkl
      have HMA := Lib.hid hma
      have HSB := Lib.hid hsb
      have HGL := Lib.hid hgl
      have HPA := Lib.hid (fun h => placeT_at (l := T.map (·.1)) (m := ⟨m1, m2, m3⟩) (k := k) (by simpa using hkl) HP.out h)
      have HPN : Hid (sameM T[k].1 ⟨m1, m2, m3⟩ = false → ∀ j (hj : j < (T.map (·.1)).length), j < k + 1 → sameM (T.map (·.1))[j] ⟨m1, m2, m3⟩ = false) := Lib.hid (fun e j hj h => by
        rcases Nat.lt_or_ge j k with h3 | h3
        · exact HP.out j hj h3
        · obtain rfl : j = k := by omega
          rw [List.getElem_map]; exact e)
      rw [List.getElem_map] at HPA
      clear hma hsb hgl HP
      generalize T[k] = x at *
      obtain ⟨⟨x1, x2, x3⟩, xv⟩ := x
      simp only at hx2
      subst hx2
      simp only at HSB HPA HPN
      have HAL := fun w' {D E : Nat → Prop} {po uo : Option Addr} {pc uc : Nat} (s1 : SB D w' po x3.length pc x3) (s2 : SB E w' uo m3.length uc m3) => Lib.hid (alike_any (m := ⟨x1, x2, x3⟩) (y := ⟨m1, m2, m3⟩) s1 s2)
      obtain ⟨sm, hsm⟩ : ∃ sm, sameM ⟨x1, x2, x3⟩ ⟨m1, m2, m3⟩ = sm := ⟨_, rfl⟩
      simp only [hsm] at HAL HPA HPN
      clear hsm
      have hb := (Below.refl wr.heap.size wr).drew
      have HBD := Lib.hid (HBR.out.trans (hb.mono HBR.out.size))
      clear hb
      cases sm with
      | false =>
        go_wp2_with fail
        go_region_held (fun w' => w'.cell? ⟨g, k * 3, none⟩ = some (.int .i64 x1) ∧ w'.cell? ⟨g, k * 3 + 1, none⟩ = some (.int .i64 x2) ∧ w'.cell? ⟨g, k * 3 + 2, none⟩ = some (.slice ro x3.length rc) ∧ w'.cell? ⟨b, 0, none⟩ = some (.int .i64 m1) ∧ w'.cell? ⟨b, 1, none⟩ = some (.int .i64 m2) ∧ w'.cell? ⟨b, 2, none⟩ = some (.slice po m3.length pc)) (exact ⟨(HMA.out.below HBD.out HGL.out).c0, (HMA.out.below HBD.out HGL.out).c1, (HMA.out.below HBD.out HGL.out).c2, (HX.out.below HBD.out HX.out.lt).c0, (HX.out.below HBD.out HX.out.lt).c1, (HX.out.below HBD.out HX.out.lt).c2⟩)
          ((go_at_call 16; refine (HAL _ (HSB.out.below HBD.out) (HM.out.below HBD.out)).out.mono ?_; rintro e wq ⟨rfl, hb⟩; have HBD := Lib.hid (HBD.out.trans (hb.mono HBD.out.size)); clear hb))
        go_wp2
        go_roundw
        case rel => exact ⟨k + 1, by go_num, by omega, Lib.hid (HPN.out (by first | rfl | trivial)), HBD⟩
        case measure => simp [intOf]; omega
      | true =>
        go_wp2_with fail
        go_region_held (fun w' => w'.cell? ⟨g, k * 3, none⟩ = some (.int .i64 x1) ∧ w'.cell? ⟨g, k * 3 + 1, none⟩ = some (.int .i64 x2) ∧ w'.cell? ⟨g, k * 3 + 2, none⟩ = some (.slice ro x3.length rc) ∧ w'.cell? ⟨b, 0, none⟩ = some (.int .i64 m1) ∧ w'.cell? ⟨b, 1, none⟩ = some (.int .i64 m2) ∧ w'.cell? ⟨b, 2, none⟩ = some (.slice po m3.length pc)) (exact ⟨(HMA.out.below HBD.out HGL.out).c0, (HMA.out.below HBD.out HGL.out).c1, (HMA.out.below HBD.out HGL.out).c2, (HX.out.below HBD.out HX.out.lt).c0, (HX.out.below HBD.out HX.out.lt).c1, (HX.out.below HBD.out HX.out.lt).c2⟩)
          ((go_at_call 16; refine (HAL _ (HSB.out.below HBD.out) (HM.out.below HBD.out)).out.mono ?_; rintro e wq ⟨rfl, hb⟩; have HBD := Lib.hid (HBD.out.trans (hb.mono HBD.out.size)); clear hb))
        go_wp2
        go_ret
        rw [HPA.out (by first | rfl | trivial)]
        exact ⟨rfl, HB.out.trans (HBD.out.mono HB.out.size)⟩
    · obtain rfl : k = n := by omega
      have HPZ := Lib.hid (placeT_none (l := T.map (·.1)) (m := ⟨m1, m2, m3⟩) (fun j hj => HP.out j hj (by rw [List.length_map, ← HN.out] at hj; exact hj)))
      go_wp2
      go_ret
      rw [HPZ.out]
      exact ⟨rfl, HB.out.trans (HBR.out.mono HB.out.size)⟩
end Go.Proofs.Ytcgbjpmmbbldpaa
