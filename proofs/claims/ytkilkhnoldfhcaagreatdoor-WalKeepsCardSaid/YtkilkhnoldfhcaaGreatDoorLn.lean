/- (*wal.Log).find. Conditions: a disk as it lies. -/
import Derived.Test.YtkilkhnoldfhcaaGreatDoorLm
namespace Go.Proofs.YtkilkhnoldfhcaaGreatDoor
open Go.RowKit
/-- The segments that stand among names. -/
def found (dir : Nm) (l : List Nm) : List Sg := l.filterMap fun nm => if 0 < numR dir nm then some ⟨numR dir nm, []⟩ else none
theorem found_snoc (dir : Nm) (l : List Nm) (nm : Nm) : found dir (l ++ [nm]) = found dir l ++ (if 0 < numR dir nm then [⟨numR dir nm, []⟩] else []) := by
  unfold found
  rw [List.filterMap_append]
  by_cases h : 0 < numR dir nm <;> simp [h]
theorem found_length (dir : Nm) (l : List Nm) : (found dir l).length ≤ l.length := List.length_filterMap_le _ _
section
variable {w w' w1 : World} {a dp : Nat} {S : Nat → Prop} {d : Dk} {m : Nat} {ρ : Nm → Nat} {δ : Nm → Value} {dir : Nm}
set_option maxRecDepth 100000 in
set_option maxHeartbeats 4000000 in
theorem find_any (h : DAt S w dp d m ρ δ) (hT : Tabs w) (c0 : w.cell? ⟨a, 0, none⟩ = some (ptr dp)) (c1 : w.cell? ⟨a, 1, none⟩ = some (nmv dir)) (h0 : dir ≠ []) (h11 : dir.length ≤ 11) :
    Calls Tryz.prog 103 #[ptr a] w fun e w' => ∃ v us, e = .returned v ∧ GO (fun k => w.heap.size ≤ k) w' v dir (found dir (names d.f)) us ∧ Below w.heap.size w w' := by
  have H := Lib.hid h
  have HT := Lib.hid hT
  have HC1 := Lib.hid c1
  have HDL : Hid (dir.length ≤ 1000) := by show _ ≤ _; omega
  have HLA : Hid (a < w.heap.size) := World.block_lt_of_cell? w ⟨a, 1, none⟩ c1
  clear h hT c1
  go_enter Tryz.func103, Tryz.ntmps103
  go_wp2_with (go_at_call 37; (refine (list_any H.out).mono ?_); rintro e w1 ⟨v, rfl, ho, hb⟩; obtain ⟨vo, vc, rfl⟩ := own_slice ho; have HO1 := Lib.hid ho; have HB1 := Lib.hid hb; clear ho hb)
  have HN : Hid ((names d.f).length = d.f.length) := by show _ = _; unfold names; rw [List.length_map]
  have HF := Lib.hid H.out.ok.few
  have HNM : Hid (∀ nm ∈ names d.f, nm.length ≤ 1000) := fun nm hn => by
    unfold names at hn
    obtain ⟨p, hp, rfl⟩ := List.mem_map.1 hn
    have := H.out.ok.nm p hp
    unfold isNm at this
    simp at this
    omega
  go_loopw [3, 14] (fun f i wr => ∃ (j : Nat) (us : List Value), j ≤ d.f.length ∧ i = .int .i64 (j : Int) ∧ Hid (GO (fun k => w1.heap.size ≤ k) wr f dir (found dir ((names d.f).take j)) us) ∧ Hid (Below w1.heap.size w1 wr)) (fun _ i _ => d.f.length - (RowKit.intOf i).toNat)
  case atStart => exact ⟨0, [], Nat.zero_le _, rfl, GO.nil _ _ _, Below.refl _ _⟩
  case round =>
    obtain ⟨j, us, hj, rfl, HGO, HBR⟩ := hrel
    have HT2 := Lib.hid ((HT.out.below HB1.out).below HBR.out)
    by_cases hjn : j = d.f.length
    · subst hjn
      clear hj
      have he : (names d.f).take d.f.length = names d.f := List.take_of_length_le (by have := HN.out; omega)
      have hgo := HGO.out
      rw [he] at hgo
      have HG2 := Lib.hid hgo
      clear hgo he HGO
      go_wp2
      go_ret
      exact ⟨_, us, rfl, HG2.out.mono2 (fun k _ h2 => Nat.le_trans HB1.out.size h2), HB1.out.trans (HBR.out.mono HB1.out.size)⟩
    · have hlt : (j : Int) < (d.f.length : Int) := by omega
      have hjl : j < d.f.length := by omega
      have hjm : j < (names d.f).length := by have := HN.out; omega
      obtain ⟨g, cap, hv⟩ := own_shape HO1.out (by omega)
      obtain ⟨rfl, rfl⟩ : vo = some ⟨g, 0, none⟩ ∧ vc = cap := by cases hv; exact ⟨rfl, rfl⟩
      clear hv
      have hg1 : g < w1.heap.size := (HO1.out.lt g rfl).2
      have cn : wr.cell? ⟨g, j, none⟩ = some (nmv (names d.f)[j]) := by
        have h9 := HO1.out.cellAt j (by omega)
        rw [List.getElem?_map, List.getElem?_eq_getElem hjm] at h9
        exact (HBR.out.cell (p := ⟨g, j, none⟩) hg1).trans h9
      have c1r : wr.cell? ⟨a, 1, none⟩ = some (nmv dir) := (HBR.out.cell (p := ⟨a, 1, none⟩) (Nat.lt_of_lt_of_le HLA.out HB1.out.size)).trans ((HB1.out.cell (p := ⟨a, 1, none⟩) HLA.out).trans HC1.out)
      have HNL : Hid ((names d.f)[j].length ≤ 1000) := HNM.out _ (List.getElem_mem hjm)
      have HJ : Hid (j + 1 ≤ d.f.length) := hjl
      have HFS : Hid (found dir ((names d.f).take (j + 1)) = found dir ((names d.f).take j) ++ (if 0 < numR dir (names d.f)[j] then [⟨numR dir (names d.f)[j], []⟩] else [])) := by
        show _ = _
        rw [List.take_succ_eq_append_getElem hjm, found_snoc]
      have hi1 : wrap64 ((j : Int) + 1) = ((j + 1 : Nat) : Int) := by have := HF.out; unfold wrap64; omega
      have HME : Hid (d.f.length - ((j + 1 : Nat) : Int).toNat < d.f.length - (j : Int).toNat) := by show _ < _; omega
      have HNB := Lib.hid (num_both h0 h11 (names d.f)[j])
      have HFL : Hid ((found dir ((names d.f).take j)).length ≤ 1000000) := by
        have h1 := found_length dir ((names d.f).take j)
        have h2 : ((names d.f).take j).length ≤ j := by rw [List.length_take]; omega
        have := HF.out
        show _ ≤ _
        omega
      clear hjl hj hjn
      generalize hz : (names d.f)[j] = z at *
      clear hz hjm
      by_cases hr : 0 < numR dir z
      · have HR := Lib.hid hr
        have HN2 : Hid (numA dir z = ((numR dir z : Int), true)) := by show _ = _; rw [HNB.out, if_pos hr]
        have HZ := Lib.hid (numR_pos hr).1
        clear hr
        generalize hn : numR dir z = n at *
        obtain rfl := HZ.out
        have HGB := Lib.hid (HGO.out)
        go_wp2_with (first
          | (go_at_call 121; (refine (number_any wr HT2.out a dir (segN dir n) HDL.out HNL.out c1r).mono ?_); rw [HN2.out]; rintro e w2 ⟨rfl, hb⟩; have HB2 := Lib.hid hb; clear hb)
          | (at_builtin; obtain ⟨fo, fc, rfl⟩ := own_slice HGO.out.own; refine wpList_append_seg (wanted_none rfl _) (.tmp 25) (.tmp 29) rfl (dir := dir) (g := ⟨n, []⟩) (u := .slice none 0 0) rfl ((HGO.out.below HB2.out).below (below1 w2 _)).own rfl (heap_alloc_new w2 _) rfl HFL.out ?_; intro v3 w3 ho3 hg3 hl3; have HO3 := Lib.hid ho3; have hg4 : (w2.alloc (.cells (cellG dir ⟨n, []⟩ (.slice none 0 0)).toArray 110)).grownBy w3 (Value.slice fo (found dir ((names d.f).take j)).length fc).ownBlock := hg3; have HG3 := Lib.hid hg4; have hl4 : v3.ownBlock = (Value.slice fo (found dir ((names d.f).take j)).length fc).ownBlock ∨ v3.ownBlock = some (w2.alloc (.cells (cellG dir ⟨n, []⟩ (.slice none 0 0)).toArray 110)).heap.size := hl3; have HL3 := Lib.hid hl4; obtain ⟨o3, k3, rfl⟩ := own_slice ho3; clear ho3 hg3 hl3 hg4 hl4))
        have hgo2 := HGO.out.below HB2.out
        have HB5 : Below w1.heap.size w1 w3 := (HBR.out.trans ((HB2.out.trans ((below1 w2 _).mono HB2.out.size)).mono HBR.out.size)).trans (((Tn.refl (S := fun k => w1.heap.size ≤ k) _).grown HG3.out (fun k e _ => HGO.out.row k e)).below (Nat.le_trans HBR.out.size (Nat.le_trans HB2.out.size (below1 w2 _).size)) (fun k hk => hk))
        have hsn := (hgo2.below (below1 w2 (.cells (cellG dir ⟨n, []⟩ (.slice none 0 0)).toArray 110))).snoc (g := ⟨n, []⟩) (u := .slice none 0 0) HG3.out HO3.out HL3.out ⟨[], RO.nil _ _⟩ (fun _ _ _ _ e => nomatch e) (Nat.le_trans HBR.out.size (Nat.le_trans HB2.out.size (below1 w2 _).size))
        have HSN := Lib.hid hsn
        clear hsn hgo2
        go_roundw
        case rel => rw [hi1]; exact ⟨j + 1, _, HJ.out, rfl, by show GO _ _ _ _ _ _; rw [HFS.out, if_pos HR.out]; exact HSN.out, HB5⟩
        case measure => rw [hi1]; exact HME.out
      · have HN2 : Hid (numA dir z = (0, false)) := by show _ = _; rw [HNB.out, if_neg hr]
        have hfe : found dir ((names d.f).take (j + 1)) = found dir ((names d.f).take j) := by rw [HFS.out, if_neg hr]; simp
        have HFE := Lib.hid hfe
        clear hr hfe
        go_wp2_with (go_at_call 121; (refine (number_any wr HT2.out a dir z HDL.out HNL.out c1r).mono ?_); rw [HN2.out]; rintro e w2 ⟨rfl, hb⟩; have HB2 := Lib.hid hb; clear hb)
        go_roundw
        case rel => rw [hi1]; exact ⟨j + 1, us, HJ.out, rfl, by show GO _ _ _ _ _ _; rw [HFE.out]; exact HGO.out.below HB2.out, HBR.out.trans (HB2.out.mono HBR.out.size)⟩
        case measure => rw [hi1]; exact HME.out
end
end Go.Proofs.YtkilkhnoldfhcaaGreatDoor
