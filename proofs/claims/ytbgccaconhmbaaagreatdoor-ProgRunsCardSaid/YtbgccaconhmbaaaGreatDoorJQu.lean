/- datum.Quote. Conditions: no more than 2^40 bytes. -/
import Derived.Test.YtbgccaconhmbaaaGreatDoorJVc
import Derived.Test.YtbgccaconhmbaaaGreatDoorJRo
import Derived.Lib.SlBytesConst
import Derived.Test.YtbgccaconhmbaaaGreatDoorJS
namespace Go.Proofs.YtbgccaconhmbaaaGreatDoor
open Go.RowKit
def hexD (n : Nat) : UInt8 := if n < 10 then UInt8.ofNat (48 + n) else UInt8.ofNat (87 + n)
/-- How a byte is written between quotes. -/
def q1 (c : UInt8) : List UInt8 := if plainB c then [c] else [92, hexD (c.toNat / 16), hexD (c.toNat % 16)]
def quoteV (l : List UInt8) : List UInt8 := 34 :: (l.flatMap q1 ++ [34])
theorem q1_len (c : UInt8) : 1 ≤ (q1 c).length ∧ (q1 c).length ≤ 3 := by
  unfold q1; split <;> simp
theorem q1s_len (l : List UInt8) : (l.flatMap q1).length ≤ 3 * l.length := by
  induction l with
  | nil => simp
  | cons c r ih =>
    have := (q1_len c).2
    rw [List.flatMap_cons, List.length_append, List.length_cons]
    omega
theorem q1s_take {l : List UInt8} {k : Nat} (h : k < l.length) : (l.take (k + 1)).flatMap q1 = (l.take k).flatMap q1 ++ q1 (l.getD k 0) := by
  have e : l.take (k + 1) = l.take k ++ [l.getD k 0] := by
    rw [List.take_add_one, List.getD_eq_getElem?_getD, List.getElem?_eq_getElem h]; rfl
  rw [e, List.flatMap_append]
  simp
theorem q1s_take_le (l : List UInt8) (k : Nat) : ((l.take k).flatMap q1).length ≤ 3 * l.length := by
  have := q1s_len (l.take k)
  rw [List.length_take] at this
  omega
theorem cells_three (w : World) (a b c : Value) (t : TypeId) : ∀ j u, [a, b, c][j]? = some u → (w.alloc (.cells #[a, b, c] t)).cell? ((⟨w.heap.size, 0, none⟩ : Addr).add j) = some u := by
  intro j u h
  rw [Addr.add_lit, Nat.zero_add]
  match j, h with
  | 0, h => simp at h; subst h; simp [World.cell?_alloc_new]
  | 1, h => simp at h; subst h; simp [World.cell?_alloc_new]
  | 2, h => simp at h; subst h; simp [World.cell?_alloc_new]
  | j + 3, h => simp at h
theorem row_lit (w : World) (fz : Nat × Nat) : RowF w.heap.size (w.alloc (.cells #[.int .u8 34] 5 fz)) (.slice (some ⟨w.heap.size, 0, none⟩) 1 1) [34] :=
  .inr ⟨w.heap.size, rfl, Nat.le_refl _, by simp, fun j u hu => by
    match j, hu with
    | 0, hu =>
      have e : u = .int .u8 34 := by simp [bys] at hu; exact hu.symm
      subst e
      exact World.cell?_alloc_mark w _ 5 fz 0
    | j + 1, hu => cases hu⟩
theorem dig_at (i : Nat) (hi : i < 16) (h : i < (⟨#[48, 49, 50, 51, 52, 53, 54, 55, 56, 57, 97, 98, 99, 100, 101, 102]⟩ : ByteArray).size) : (⟨#[48, 49, 50, 51, 52, 53, 54, 55, 56, 57, 97, 98, 99, 100, 101, 102]⟩ : ByteArray)[i]'h = hexD i := by
  have : ∀ i : Fin 16, (⟨#[48, 49, 50, 51, 52, 53, 54, 55, 56, 57, 97, 98, 99, 100, 101, 102]⟩ : ByteArray)[i.val]'(i.isLt) = hexD i.val := by decide
  exact this ⟨i, hi⟩
theorem dig_hi (n : Nat) (hn : n < 256) (h : ((n : Int) / 16).toNat < (⟨#[48, 49, 50, 51, 52, 53, 54, 55, 56, 57, 97, 98, 99, 100, 101, 102]⟩ : ByteArray).size) : ((⟨#[48, 49, 50, 51, 52, 53, 54, 55, 56, 57, 97, 98, 99, 100, 101, 102]⟩ : ByteArray)[((n : Int) / 16).toNat]'h) = hexD (n / 16) := by
  have e : ((n : Int) / 16).toNat = n / 16 := by omega
  simp only [e]
  exact dig_at _ (by omega) _
theorem dig_lo (n : Nat) (h : ((n : Int) % 16).toNat < (⟨#[48, 49, 50, 51, 52, 53, 54, 55, 56, 57, 97, 98, 99, 100, 101, 102]⟩ : ByteArray).size) : ((⟨#[48, 49, 50, 51, 52, 53, 54, 55, 56, 57, 97, 98, 99, 100, 101, 102]⟩ : ByteArray)[((n : Int) % 16).toNat]'h) = hexD (n % 16) := by
  have e : ((n : Int) % 16).toNat = n % 16 := by omega
  simp only [e]
  exact dig_at _ (by omega) _
theorem and15 (n : Nat) (hn : n < 256) : bits .and .u8 (n : Int) 15 = (n : Int) % 16 := by
  have : ∀ i : Fin 256, bits .and .u8 (i.val : Int) 15 = (i.val : Int) % 16 := by decide +kernel
  exact this ⟨n, hn⟩
set_option maxRecDepth 100000 in
theorem quote_any (s : ByteArray) (hs : s.size ≤ 1099511627776) (w : World) :
    Calls Tryz.prog 100 #[.string s] w fun e w' => e = .returned (.string ⟨(quoteV s.data.toList).toArray⟩) ∧ Below w.heap.size w w' := by
  have HROW := Lib.hid (row_lit w (1, 2))
  have H1 := Lib.hid (below1 w (.cells #[.int .u8 34] 5 (1, 2)))
  have hcc := Lib.run_convert_bytes_const (P := Tryz.prog) w 129 5 #[.int .u8 34] 1 1 Tryz.underlying129 Tryz.underlying5
  have hcv := fun w => Lib.run_convert_string_bytes (P := Tryz.prog) w 9 129 5 s (u := .string) Tryz.underlying9 Tryz.underlying129 Tryz.underlying5
  obtain ⟨W0, hW0⟩ : ∃ W0, W0 = w.alloc (.cells #[.int .u8 34] 5 (1, 2)) := ⟨_, rfl⟩
  have hsz : (#[.int .u8 34] : Array Value).size = 1 := rfl
  rw [hsz] at hcc
  simp only [Nat.reduceAdd] at hcc
  rw [← hW0] at hcc HROW H1
  obtain ⟨bs, hL⟩ : ∃ bs, bs = s.data.toList := ⟨_, rfl⟩
  have hLn : bs.length = s.size := by rw [hL, Lib.size_eq]
  have hB : ∀ j, j < s.size → (Lib.bytesWorld W0 5 s).cell? ⟨W0.heap.size, j, none⟩ = some (.int .u8 (bs.getD j 0).toNat) := fun j hj => by rw [hL]; exact Lib.bytesWorld_cell W0 5 s j hj
  have HBW := Lib.hid (Lib.bytesWorld_below W0 5 s)
  have hcv1 := hcv W0
  obtain ⟨W1, hW1⟩ : ∃ W1, W1 = Lib.bytesWorld W0 5 s := ⟨_, rfl⟩
  rw [← hL]
  rw [← hW1] at hcv1 hB HBW
  have HR1 := Lib.hid (HROW.out.below HBW.out)
  have HB1 := Lib.hid (H1.out.trans (HBW.out.mono H1.out.size))
  have HBB := Lib.hid hB
  have HLN := Lib.hid hLn
  have hs' : bs.length ≤ 1099511627776 := by omega
  have HS0 := Lib.hid H1.out.size
  have hlt0 : W0.heap.size < W1.heap.size ∨ s.size = 0 := by
    by_cases h0 : s.size = 0
    · exact .inr h0
    · exact .inl (World.block_lt_of_cell? _ _ (hB 0 (by omega)))
  have HLT0 := Lib.hid hlt0
  have HW0S : Hid (W0.heap.size = w.heap.size + 1) := by show _ = _; rw [hW0]; simp
  clear hB hL hLn hcv hW0 hW1 hlt0 hsz
  go_enter Tryz.func100, Tryz.ntmps100
  go_wp2
  go_loopw [3, 5, 11] (fun b _ i wr => ∃ k : Nat, i = .int .i64 k ∧ k ≤ s.size ∧ Hid (RowF w.heap.size wr b (34 :: (bs.take k).flatMap q1)) ∧ Hid (∀ g, b.ownBlock = some g → g ≠ W0.heap.size) ∧ Hid (∀ j, j < s.size → wr.cell? ⟨W0.heap.size, j, none⟩ = some (.int .u8 (bs.getD j 0).toNat)) ∧ Hid (W0.heap.size < wr.heap.size ∨ s.size = 0) ∧ Hid (Below w.heap.size w wr)) (fun _ _ i _ => s.size - (intOf i).toNat)
  case atStart =>
    exact ⟨0, rfl, Nat.zero_le _, HR1.out, (fun g hg => by simp [Value.ownBlock] at hg; have := HW0S.out; omega), HBB.out, HLT0.out, HB1.out⟩
  case round =>
    obtain ⟨k, rfl, hk, HR, HN, HC, HL, HB⟩ := hrel
    by_cases hlt : k < s.size
    · have hc := HC.out k hlt
      have hgl : W0.heap.size < wr.heap.size := by rcases HL.out with h | h <;> omega
      have HTK := Lib.hid (q1s_take (l := bs) (k := k) (by rw [HLN.out]; exact hlt))
      have hlen := q1s_take_le bs k
      generalize bs.getD k 0 = c at *
      obtain ⟨A, hA⟩ : ∃ A, A = 34 :: (bs.take k).flatMap q1 := ⟨_, rfl⟩
      have hAl : A.length ≤ 3 * bs.length + 1 := by rw [hA, List.length_cons]; omega
      rw [← hA] at HR
      have HA := Lib.hid hA
      have hwsz : w.heap.size ≤ wr.heap.size := HB.out.size
      clear hA hlen
      cases hp : plainB c
      · have HP : Hid (∀ w, Calls Tryz.prog 136 #[.int .u8 (c.toNat : Int)] w fun e w' => e = .returned (.bool false) ∧ w = w') := fun w => by have := plain_any c w; rwa [hp] at this
        have HQ1 : Hid (q1 c = [92, hexD (c.toNat / 16), hexD (c.toNat % 16)]) := by show _ = _; unfold q1; rw [hp]; rfl
        go_wp2_with (go_at_call 136; refine (HP.out _).mono ?_; rintro e w' ⟨rfl, rfl⟩)
        have hc256 : c.toNat < 256 := c.toNat_lt
        have hand := and15 c.toNat hc256
        have hd1 := dig_hi c.toNat hc256
        have hd2 := dig_lo c.toNat
        have hr1 : (0 : Int) ≤ (c.toNat : Int) / 16 ∧ (c.toNat : Int) / 16 < 16 := by omega
        have hr2 : (0 : Int) ≤ (c.toNat : Int) % 16 ∧ (c.toNat : Int) % 16 < 16 := by omega
        go_region_law (refine step_append_F (v := u3) rfl (.tmp 21) (.tmp 28) rfl (by simp [Act.eval]) (HR.out.below (below1 wr _).drew) (by simp; omega) ⟨wr.heap.size, 0, none⟩ 3 [92, hexD (c.toNat / 16), hexD (c.toNat % 16)] (by simp [Act.eval]) (by simp) ?_ (by simp; omega) ?_; exact cells_three wr _ _ _ _; intro v2 w2 hown hgrow hat; have HO2 := Lib.hid hown; have HG2 := Lib.hid hgrow; have HAT := Lib.hid hat; clear hown hgrow hat)
        all_goals go_wp2
        all_goals refine ⟨⟨k + 1, by simp, by omega, ?_, ?_, ?_, ?_, ?_⟩, by simp [intOf]; omega⟩
        all_goals first
          | (left
             have e : (34 :: (bs.take (k + 1)).flatMap q1) = A ++ [92, hexD (c.toNat / 16), hexD (c.toNat % 16)] := by rw [HTK.out, HQ1.out, HA.out]; rfl
             rw [e, List.length_append, bys_append]
             exact HO2.out)
          | (intro g hg
             rcases HAT.out with h | h
             · exact HN.out g (by rw [← h]; exact hg)
             · rw [hg] at h
               simp at h
               omega)
          | (intro j hj
             rw [keep_cells hgl (below1 wr _).drew HG2.out (fun e => HN.out _ e rfl) j]
             exact HC.out j hj)
          | exact .inl (Nat.lt_of_lt_of_le hgl (Nat.le_trans (below1 wr _).drew.size HG2.out.size))
          | exact ((HB.out.alloc HB.out.size _).drew).grown HG2.out ((HB.out.alloc HB.out.size _).drew).size (fun g hg => HR.out.lt g hg)
      · have HP : Hid (∀ w, Calls Tryz.prog 136 #[.int .u8 (c.toNat : Int)] w fun e w' => e = .returned (.bool true) ∧ w = w') := fun w => by have := plain_any c w; rwa [hp] at this
        have HQ1 : Hid (q1 c = [c]) := by show _ = _; unfold q1; rw [hp]; rfl
        clear hp
        go_wp2_with (first
          | (go_at_call 136; refine (HP.out _).mono ?_; rintro e w' ⟨rfl, rfl⟩)
          | (at_builtin; refine wpList_append_F (v := u3) rfl (.tmp 17) (.tmp 19) rfl rfl (HR.out.below (below1 wr _)) (by simp; omega) ⟨wr.heap.size, 0, none⟩ 1 [c] rfl (by simp) (cell_one_new _ _ _) (by simp; omega) ?_; intro v2 w2 hown hgrow hat; have HO2 := Lib.hid hown; have HG2 := Lib.hid hgrow; have HAT := Lib.hid hat; clear hown hgrow hat))
        refine ⟨⟨k + 1, by simp, by omega, ?_, ?_, ?_, ?_, ?_⟩, by simp [intOf]; omega⟩
        · left
          have e : (34 :: (bs.take (k + 1)).flatMap q1) = A ++ [c] := by rw [HTK.out, HQ1.out, HA.out]; rfl
          rw [e, List.length_append, bys_append]
          exact HO2.out
        · intro g hg
          rcases HAT.out with h | h
          · exact HN.out g (by rw [← h]; exact hg)
          · rw [hg] at h
            simp at h
            omega
        · intro j hj
          rw [keep_cells hgl (below1 wr _) HG2.out (fun e => HN.out _ e rfl) j]
          exact HC.out j hj
        · exact .inl (Nat.lt_of_lt_of_le hgl (Nat.le_trans (below1 wr _).size HG2.out.size))
        · exact (HB.out.alloc HB.out.size _).grown HG2.out (HB.out.alloc HB.out.size _).size (fun g hg => HR.out.lt g hg)
    · obtain rfl : k = s.size := by omega
      have HE : Hid ((34 :: (bs.take s.size).flatMap q1) ++ [34] = quoteV bs) := by
        show _ = _
        rw [← HLN.out, List.take_length]
        rfl
      have hlen := q1s_take_le bs s.size
      obtain ⟨A, hA⟩ : ∃ A, A = 34 :: (bs.take s.size).flatMap q1 := ⟨_, rfl⟩
      have hAl : A.length ≤ 3 * bs.length + 1 := by rw [hA, List.length_cons]; omega
      rw [← hA] at HR HE
      clear hA hlen
      go_wp2_with (first
        | (at_builtin; refine wpList_append_strF (v := u3) rfl (.tmp 31) _ rfl rfl HR.out HB.out.size [34] rfl (by simp) (by simp; omega) ?_; intro v2 w2 hown hgrow; have hq : w2.ownsRow w.heap.size 5 1 v2 (A ++ [34]).length (bys (A ++ [34])) := (by rw [List.length_append, bys_append]; exact hown); have hcv2 := conv_own hq; have HG2 := Lib.hid hgrow; clear hown hgrow hq))
      go_ret
      rw [← HE.out]
      exact ⟨rfl, HB.out.grown HG2.out HB.out.size (fun g hg => HR.out.lt g hg)⟩
end Go.Proofs.YtbgccaconhmbaaaGreatDoor
