/- wal and raceref7 read the same number out of a name: that of the segment whose name it is. Conditions: none of its own. (*wal.Log).find. Conditions: a disk as it lies. -/
import Derived.Test.YtkilkhnoldfhcaaGreatDoorLk
import Derived.Lib.AtoiTie
namespace Go.Proofs.YtkilkhnoldfhcaaGreatDoor
open Go.RowKit
theorem dig_mk {r : Nat} (h : r < 10) : isDig (UInt8.ofNat (48 + r)) = true ∧ (UInt8.ofNat (48 + r)).toNat = 48 + r := by
  have e : (UInt8.ofNat (48 + r)).toNat = 48 + r := by rw [UInt8.toNat_ofNat']; omega
  exact ⟨by unfold isDig; rw [e]; simp; omega, e⟩
theorem digits_dig (u : Nat) : (Lib.decDigits u).all isDig = true ∧ dv (Lib.decDigits u) = u := by
  induction u using Nat.strongRecOn with
  | ind u ih =>
    rw [Lib.decDigits]
    by_cases h : u < 10
    · rw [dif_pos h]
      obtain ⟨h1, h2⟩ := dig_mk h
      refine ⟨by simpa using h1, ?_⟩
      show 10 * 0 + ((UInt8.ofNat (48 + u)).toNat - 48) = u
      rw [h2]; omega
    · rw [dif_neg h]
      obtain ⟨h1, h2⟩ := ih (u / 10) (by omega)
      obtain ⟨h3, h4⟩ := dig_mk (r := u % 10) (by omega)
      refine ⟨by rw [List.all_append, h1]; simpa using h3, ?_⟩
      rw [dv_snoc, h2, h4]
      omega
theorem zeros_dig (l : Nm) : ∀ k, dv (Lib.repeatL [48] k ++ l) = dv l ∧ (l.all isDig = true → (Lib.repeatL [48] k ++ l).all isDig = true)
  | 0 => ⟨rfl, fun h => h⟩
  | k + 1 => by
    obtain ⟨h1, h2⟩ := zeros_dig l k
    refine ⟨?_, fun h => ?_⟩
    · rw [← h1]; rfl
    · show (isDig 48 && (Lib.repeatL [48] k ++ l).all isDig) = true
      rw [h2 h]; rfl
theorem num8_dig (n : Nat) : (num8 n).all isDig = true ∧ dv (num8 n) = n := by
  obtain ⟨h1, h2⟩ := digits_dig n
  obtain ⟨h3, h4⟩ := zeros_dig (Lib.decDigits n) (8 - (Lib.decDigits n).length)
  exact ⟨h4 h1, h3.trans h2⟩
/-- Digits of one length that spell one number are the same. -/
theorem dv_inj : ∀ (k : Nat) (l m : Nm), l.length = k → m.length = k → l.all isDig = true → m.all isDig = true → dv l = dv m → l = m
  | 0, l, m, h, h2, _, _, _ => by rw [List.length_eq_zero_iff.1 h, List.length_eq_zero_iff.1 h2]
  | k + 1, l, m, h, h2, h3, h4, h5 => by
    obtain ⟨l, c, rfl⟩ : ∃ x c, l = x ++ [c] := ⟨l.dropLast, l.getLast (by rintro rfl; simp at h), (List.dropLast_concat_getLast _).symm⟩
    obtain ⟨m, d, rfl⟩ : ∃ x c, m = x ++ [c] := ⟨m.dropLast, m.getLast (by rintro rfl; simp at h2), (List.dropLast_concat_getLast _).symm⟩
    rw [List.all_append, Bool.and_eq_true] at h3 h4
    have hc := isDig_le (c := c) (by simpa using h3.2)
    have hd := isDig_le (c := d) (by simpa using h4.2)
    rw [dv_snoc, dv_snoc] at h5
    have e1 := dv_inj k l m (by simpa using h) (by simpa using h2) h3.1 h4.1 (by omega)
    have e2 : c = d := UInt8.toNat_inj.1 (by omega)
    rw [e1, e2]
theorem decFrom_dv : ∀ (l : Nm) (acc : Nat), l.all isDig = true → Lib.decFrom acc l = some (l.foldl (fun n c => 10 * n + (c.toNat - 48)) acc)
  | [], _, _ => rfl
  | c :: l, acc, h => by
    rw [List.all_cons, Bool.and_eq_true] at h
    have hc := isDig_le h.1
    unfold Lib.decFrom Lib.digitVal
    rw [if_pos hc]
    show Lib.decFrom (acc * 10 + (c.toNat - 48)) l = _
    rw [decFrom_dv l _ h.2, Nat.mul_comm acc 10]
    rfl
theorem atoi_dig {l : Nm} (h : l.all isDig = true) (h0 : l ≠ []) (h8 : l.length ≤ 18) : Lib.atoiAll l = .ok (dv l : Int) := by
  rw [Lib.atoiAll_short l h8]
  cases l with
  | nil => exact absurd rfl h0
  | cons c r =>
    have hc := isDig_le (c := c) (by rw [List.all_cons, Bool.and_eq_true] at h; exact h.1)
    have h45 : (c == 45) = false := by
      cases e : c == 45 with
      | false => rfl
      | true => have := eq_of_beq e; subst this; exact absurd hc (by decide)
    have h43 : (c == 43) = false := by
      cases e : c == 43 with
      | false => rfl
      | true => have := eq_of_beq e; subst this; exact absurd hc (by decide)
    unfold Lib.atoi Lib.decNat
    have e := decFrom_dv (c :: r) 0 h
    simp only [h45, h43, List.isEmpty_cons, Bool.false_eq_true, if_false]
    rw [e]
    rfl
theorem seg_pre (dir : Nm) (n : Nat) : segN dir n = (dir ++ [46]) ++ num8 n := by unfold segN; simp
theorem seg_drop (dir : Nm) (n : Nat) : (segN dir n).drop (dir.length + 1) = num8 n := by
  have e : dir.length + 1 = (dir ++ [46]).length := by simp
  rw [seg_pre, e, List.drop_left]
theorem seg_take (dir : Nm) (n : Nat) : (segN dir n).take (dir.length + 1) = dir ++ [46] := by
  have e : dir.length + 1 = (dir ++ [46]).length := by simp
  rw [seg_pre, e, List.take_left]
theorem numR_seg (dir : Nm) {n : Nat} (h : n ≤ 99999999) : numR dir (segN dir n) = n := by
  unfold numR
  rw [seg_drop, seg_take, if_pos ⟨segN_length h, rfl, (num8_dig n).1⟩]
  exact (num8_dig n).2
theorem numR_pos {dir name : Nm} (h : 0 < numR dir name) : name = segN dir (numR dir name) ∧ numR dir name ≤ 99999999 := by
  have h9 := h
  unfold numR at h9
  split at h9
  · rename_i hc
    obtain ⟨hl, ht, hd⟩ := hc
    have e : numR dir name = dv (name.drop (dir.length + 1)) := by unfold numR; rw [if_pos ⟨hl, ht, hd⟩]
    have h8 : (name.drop (dir.length + 1)).length = 8 := by rw [List.length_drop, hl]; omega
    have hlt := dv_lt 8 _ h8 hd
    have hle : dv (name.drop (dir.length + 1)) ≤ 99999999 := by have : (10 : Nat) ^ 8 = 100000000 := by decide
                                                                omega
    rw [e]
    refine ⟨?_, hle⟩
    have hD := dv_inj 8 _ _ h8 (num8_length hle) hd (num8_dig _).1 (num8_dig _).2.symm
    rw [seg_pre, ← ht, ← hD, List.take_append_drop]
  · omega
theorem numA_seg {dir : Nm} (h0 : dir ≠ []) (h11 : dir.length ≤ 11) {n : Nat} (h1 : 1 ≤ n) (h : n ≤ 99999999) : numA dir (segN dir n) = ((n : Int), true) := by
  have hp : Lib.hasPrefix (segN dir n) (dir ++ [46]) = true := by
    unfold Lib.hasPrefix
    rw [seg_pre]
    exact List.isPrefixOf_iff_prefix.2 (List.prefix_append _ _)
  have ht : Lib.trimPrefix (segN dir n) (dir ++ [46]) = num8 n := by
    unfold Lib.trimPrefix
    rw [if_pos hp]
    have e : (dir ++ [46]).length = dir.length + 1 := by simp
    rw [e, seg_drop]
  have h8 := num8_length h
  have ha : Lib.atoiAll (num8 n) = .ok (n : Int) := by
    have := atoi_dig (num8_dig n).1 (by intro e; rw [e] at h8; cases h8) (by omega)
    rw [(num8_dig n).2] at this
    exact this
  rw [numA_ok hp (by rw [ht]; exact ha), if_pos]
  unfold nameV
  rw [if_neg (by rintro (e | e); exact h0 e; omega), if_neg (by omega)]
  rfl
theorem numA_true {dir name : Nm} {v : Int} (h : numA dir name = (v, true)) : ∃ n : Nat, v = n ∧ name = segN dir n ∧ 1 ≤ n ∧ n ≤ 99999999 := by
  unfold numA at h
  split at h
  · split at h
    · rename_i u hu
      split at h
      · rename_i hn
        cases h
        unfold nameV at hn
        split at hn
        · cases hn
        · split at hn
          · cases hn
          · exact ⟨v.toNat, by omega, (congrArg Prod.fst hn).symm, by omega, by omega⟩
      · cases h
    · cases h
  · cases h
/-- Both read the same. -/
theorem num_both {dir : Nm} (h0 : dir ≠ []) (h11 : dir.length ≤ 11) (name : Nm) : numA dir name = if 0 < numR dir name then ((numR dir name : Int), true) else (0, false) := by
  by_cases h : 0 < numR dir name
  · rw [if_pos h]
    obtain ⟨h1, h2⟩ := numR_pos h
    have e := numA_seg h0 h11 (n := numR dir name) h h2
    rw [← h1] at e
    exact e
  · rw [if_neg h]
    cases e : numA dir name with
    | mk v b =>
      cases b with
      | false =>
        unfold numA at e
        split at e
        · split at e
          · split at e
            · cases e
            · exact e.symm
          · exact e.symm
        · exact e.symm
      | true =>
        obtain ⟨n, _, h2, h3, h4⟩ := numA_true e
        exact absurd (by rw [h2, numR_seg dir h4]; exact h3) h
end Go.Proofs.YtkilkhnoldfhcaaGreatDoor
namespace Go.Proofs.YtkilkhnoldfhcaaGreatDoor
open Go.RowKit
/-- The segments that stand among names. -/
def found (dir : Nm) (l : List Nm) : List Sg := l.filterMap fun nm => if 0 < numR dir nm then some ⟨numR dir nm, []⟩ else none
theorem found_snoc (dir : Nm) (l : List Nm) (nm : Nm) : found dir (l ++ [nm]) = found dir l ++ (if 0 < numR dir nm then [⟨numR dir nm, []⟩] else []) := by
  unfold found
  rw [List.filterMap_append]
  by_cases h : 0 < numR dir nm <;> simp [h]
theorem found_length (dir : Nm) (l : List Nm) : (found dir l).length ≤ l.length := List.length_filterMap_le _ _
section
variable {w w' w1 : World} {a dp : Nat} {S : Nat → Prop} {d : Dk} {m : Nat} {ρ : Nm → Nat} {δ : Nm → Value} {dir : Nm}
set_option maxRecDepth 100000 in
set_option maxHeartbeats 4000000 in
theorem find_any (h : DAt S w dp d m ρ δ) (hT : Tabs w) (c0 : w.cell? ⟨a, 0, none⟩ = some (ptr dp)) (c1 : w.cell? ⟨a, 1, none⟩ = some (nmv dir)) (h0 : dir ≠ []) (h11 : dir.length ≤ 11) :
    Calls Tryz.prog 103 #[ptr a] w fun e w' => ∃ v us, e = .returned v ∧ GO (fun k => w.heap.size ≤ k) w' v dir (found dir (names d.f)) us ∧ Below w.heap.size w w' := by
  have H := Lib.hid h
  have HT := Lib.hid hT
  have HC1 := Lib.hid c1
  have HDL : Hid (dir.length ≤ 1000) := by show _ ≤ _; omega
  have HLA : Hid (a < w.heap.size) := World.block_lt_of_cell? w ⟨a, 1, none⟩ c1
  clear h hT c1
  go_enter Tryz.func103, Tryz.ntmps103
  go_wp2_with (go_at_call 37; (refine (list_any H.out).mono ?_); rintro e w1 ⟨v, rfl, ho, hb⟩; obtain ⟨vo, vc, rfl⟩ := own_slice ho; have HO1 := Lib.hid ho; have HB1 := Lib.hid hb; clear ho hb)
  have HN : Hid ((names d.f).length = d.f.length) := by show _ = _; unfold names; rw [List.length_map]
  have HF := Lib.hid H.out.ok.few
  have HNM : Hid (∀ nm ∈ names d.f, nm.length ≤ 1000) := fun nm hn => by
    unfold names at hn
    obtain ⟨p, hp, rfl⟩ := List.mem_map.1 hn
    have := H.out.ok.nm p hp
    unfold isNm at this
    simp at this
    omega
  go_loopw [3, 14] (fun f i wr => ∃ (j : Nat) (us : List Value), j ≤ d.f.length ∧ i = .int .i64 (j : Int) ∧ Hid (GO (fun k => w1.heap.size ≤ k) wr f dir (found dir ((names d.f).take j)) us) ∧ Hid (Below w1.heap.size w1 wr)) (fun _ i _ => d.f.length - (RowKit.intOf i).toNat)
  case atStart => exact ⟨0, [], Nat.zero_le _, rfl, GO.nil _ _ _, Below.refl _ _⟩
  case round =>
    obtain ⟨j, us, hj, rfl, HGO, HBR⟩ := hrel
    have HT2 := Lib.hid ((HT.out.below HB1.out).below HBR.out)
    by_cases hjn : j = d.f.length
    · subst hjn
      clear hj
      have he : (names d.f).take d.f.length = names d.f := List.take_of_length_le (by have := HN.out; omega)
      have hgo := HGO.out
      rw [he] at hgo
      have HG2 := Lib.hid hgo
      clear hgo he HGO
      go_wp2
      go_ret
      exact ⟨_, us, rfl, HG2.out.mono2 (fun k _ h2 => Nat.le_trans HB1.out.size h2), HB1.out.trans (HBR.out.mono HB1.out.size)⟩
    · have hlt : (j : Int) < (d.f.length : Int) := by omega
      have hjl : j < d.f.length := by omega
      have hjm : j < (names d.f).length := by have := HN.out; omega
      obtain ⟨g, cap, hv⟩ := own_shape HO1.out (by omega)
      obtain ⟨rfl, rfl⟩ : vo = some ⟨g, 0, none⟩ ∧ vc = cap := by cases hv; exact ⟨rfl, rfl⟩
      clear hv
      have hg1 : g < w1.heap.size := (HO1.out.lt g rfl).2
      have cn : wr.cell? ⟨g, j, none⟩ = some (nmv (names d.f)[j]) := by
        have h9 := HO1.out.cellAt j (by omega)
        rw [List.getElem?_map, List.getElem?_eq_getElem hjm] at h9
        exact (HBR.out.cell (p := ⟨g, j, none⟩) hg1).trans h9
      have c1r : wr.cell? ⟨a, 1, none⟩ = some (nmv dir) := (HBR.out.cell (p := ⟨a, 1, none⟩) (Nat.lt_of_lt_of_le HLA.out HB1.out.size)).trans ((HB1.out.cell (p := ⟨a, 1, none⟩) HLA.out).trans HC1.out)
      have HNL : Hid ((names d.f)[j].length ≤ 1000) := HNM.out _ (List.getElem_mem hjm)
      have HJ : Hid (j + 1 ≤ d.f.length) := hjl
      have HFS : Hid (found dir ((names d.f).take (j + 1)) = found dir ((names d.f).take j) ++ (if 0 < numR dir (names d.f)[j] then [⟨numR dir (names d.f)[j], []⟩] else [])) := by
        show _ = _
        rw [List.take_succ_eq_append_getElem hjm, found_snoc]
      have hi1 : wrap64 ((j : Int) + 1) = ((j + 1 : Nat) : Int) := by have := HF.out; unfold wrap64; omega
      have HME : Hid (d.f.length - ((j + 1 : Nat) : Int).toNat < d.f.length - (j : Int).toNat) := by show _ < _; omega
      have HNB := Lib.hid (num_both h0 h11 (names d.f)[j])
      have HFL : Hid ((found dir ((names d.f).take j)).length ≤ 1000000) := by
        have h1 := found_length dir ((names d.f).take j)
        have h2 : ((names d.f).take j).length ≤ j := by rw [List.length_take]; omega
        have := HF.out
        show _ ≤ _
        omega
      clear hjl hj hjn
      generalize hz : (names d.f)[j] = z at *
      clear hz hjm
      by_cases hr : 0 < numR dir z
      · have HR := Lib.hid hr
        have HN2 : Hid (numA dir z = ((numR dir z : Int), true)) := by show _ = _; rw [HNB.out, if_pos hr]
        have HZ := Lib.hid (numR_pos hr).1
        clear hr
        generalize hn : numR dir z = n at *
        obtain rfl := HZ.out
        have HGB := Lib.hid (HGO.out)
        go_wp2_with (first
          | (go_at_call 121; (refine (number_any wr HT2.out a dir (segN dir n) HDL.out HNL.out c1r).mono ?_); rw [HN2.out]; rintro e w2 ⟨rfl, hb⟩; have HB2 := Lib.hid hb; clear hb)
          | (at_builtin; obtain ⟨fo, fc, rfl⟩ := own_slice HGO.out.own; refine wpList_append_seg (wanted_none rfl _) (.tmp 25) (.tmp 29) rfl (dir := dir) (g := ⟨n, []⟩) (u := .slice none 0 0) rfl ((HGO.out.below HB2.out).below (below1 w2 _)).own rfl (heap_alloc_new w2 _) rfl HFL.out ?_; intro v3 w3 ho3 hg3 hl3; have HO3 := Lib.hid ho3; have hg4 : (w2.alloc (.cells (cellG dir ⟨n, []⟩ (.slice none 0 0)).toArray 110)).grownBy w3 (Value.slice fo (found dir ((names d.f).take j)).length fc).ownBlock := hg3; have HG3 := Lib.hid hg4; have hl4 : v3.ownBlock = (Value.slice fo (found dir ((names d.f).take j)).length fc).ownBlock ∨ v3.ownBlock = some (w2.alloc (.cells (cellG dir ⟨n, []⟩ (.slice none 0 0)).toArray 110)).heap.size := hl3; have HL3 := Lib.hid hl4; obtain ⟨o3, k3, rfl⟩ := own_slice ho3; clear ho3 hg3 hl3 hg4 hl4))
        have hgo2 := HGO.out.below HB2.out
        have HB5 : Below w1.heap.size w1 w3 := (HBR.out.trans ((HB2.out.trans ((below1 w2 _).mono HB2.out.size)).mono HBR.out.size)).trans (((Tn.refl (S := fun k => w1.heap.size ≤ k) _).grown HG3.out (fun k e _ => HGO.out.row k e)).below (Nat.le_trans HBR.out.size (Nat.le_trans HB2.out.size (below1 w2 _).size)) (fun k hk => hk))
        have hsn := (hgo2.below (below1 w2 (.cells (cellG dir ⟨n, []⟩ (.slice none 0 0)).toArray 110))).snoc (g := ⟨n, []⟩) (u := .slice none 0 0) HG3.out HO3.out HL3.out ⟨[], RO.nil _ _⟩ (fun _ _ _ _ e => nomatch e) (Nat.le_trans HBR.out.size (Nat.le_trans HB2.out.size (below1 w2 _).size))
        have HSN := Lib.hid hsn
        clear hsn hgo2
        go_roundw
        case rel => rw [hi1]; exact ⟨j + 1, _, HJ.out, rfl, by show GO _ _ _ _ _ _; rw [HFS.out, if_pos HR.out]; exact HSN.out, HB5⟩
        case measure => rw [hi1]; exact HME.out
      · have HN2 : Hid (numA dir z = (0, false)) := by show _ = _; rw [HNB.out, if_neg hr]
        have hfe : found dir ((names d.f).take (j + 1)) = found dir ((names d.f).take j) := by rw [HFS.out, if_neg hr]; simp
        have HFE := Lib.hid hfe
        clear hr hfe
        go_wp2_with (go_at_call 121; (refine (number_any wr HT2.out a dir z HDL.out HNL.out c1r).mono ?_); rw [HN2.out]; rintro e w2 ⟨rfl, hb⟩; have HB2 := Lib.hid hb; clear hb)
        go_roundw
        case rel => rw [hi1]; exact ⟨j + 1, us, HJ.out, rfl, by show GO _ _ _ _ _ _; rw [HFE.out]; exact HGO.out.below HB2.out, HBR.out.trans (HB2.out.mono HBR.out.size)⟩
        case measure => rw [hi1]; exact HME.out
end
end Go.Proofs.YtkilkhnoldfhcaaGreatDoor
