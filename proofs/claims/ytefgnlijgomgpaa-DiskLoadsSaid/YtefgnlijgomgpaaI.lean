/- disk.List tells the names by rising order; slices of ints as they read; disk.kept. Conditions: none of its own. -/
import Derived.Test.YtefgnlijgomgpaaH
namespace Go.Proofs.Ytefgnlijgomgpaa
open Go.RowKit Go.Maps Go.Sort Go.Shelf
theorem sorts58 (m : Nat) : AnyZ.SortsIn Try.prog Try.sorted58_ren Fence.wide m :=
  ⟨fun blk off cap ss W hH hblk hsz => callsIn_wide.2 (AnyM.slices_Sort_string Try.laysSlM6_f64 blk off cap ss W hH hblk hsz),
   fun p cap W => callsIn_wide.2 (AnyM.slices_Sort_string_none Try.laysSlM6_f64 p cap W)⟩

theorem maps_Keys_59 (mb : Option Nat) (W : World) : CallsIn Fence.wide 5 Try.prog 59 #[.map mb] W fun e w' => e = .returned (.func (.func 65) #[] #[.pointer (some ⟨W.heap.size, 0, none⟩)]) ∧ w' = W.alloc (.cells #[.map mb] 62) :=
  AnyZ.keys_in Try.keys59 Fence.wide 5 trivial rfl mb W

set_option maxHeartbeats 1000000 in
theorem sorted_keys_58_59 {H : Type} (b nn : Nat) (D0 : DataW H) (R : Value → Option (DataW H × List MemPlace)) (w : World) (hown : w.ownsMap Try.prog 9 R b nn D0) (hmax : Maps.size D0 ≤ maxLen) (hbytes : Maps.size D0 * 16 ≤ 140737488355328) :
    CallsIn Fence.wide 5 Try.prog 58 #[.func (.func 65) #[] #[.pointer (some ⟨w.heap.size, 0, none⟩)]] (w.alloc (.cells #[.map (some b)] 62)) fun e w' => ∃ (v : Value) (ss : List (List UInt8)), e = .returned v ∧ ss.Perm (strKeys D0) ∧
      w'.ownsRow (w.alloc (.cells #[.map (some b)] 62)).heap.size 9 1 v ss.length ((ss.mergeSort (fun x y => decide (x ≤ y))).map encStr) ∧ (v = .slice none 0 0 ↔ ss = []) ∧ Below (w.alloc (.cells #[.map (some b)] 62)).heap.size (w.alloc (.cells #[.map (some b)] 62)) w' := by
  have hbl := hown.lt
  have hseq : SeqGives Fence.wide 2 Try.prog 65 #[.pointer (some ⟨w.heap.size, 0, none⟩)] encStr (fun ss => ss.Perm (strKeys D0)) (Maps.size D0) (w.alloc (.cells #[.map (some b)] 62)) :=
    AnyZ.keys_gives (ρ := Try.keys59_ren) { Try.keys59 with } Fence.wide _ trivial rfl (by omega) w.heap.size b nn D0 _ (by simp) (by simp) (by
      obtain ⟨es, clock, hb, Ft, hs, hD⟩ := hown
      exact ⟨es, clock, (Below.heap_alloc _ _ b hbl).trans hb, Ft, hs, hD⟩)
  exact AnyZ.sorted_in Try.sorted58 Fence.wide 5 trivial trivial trivial trivial rfl (by omega) (sorts58 _) (enters_of Try.func64 (by kernel_rfl) rfl) 65 #[.pointer (some ⟨w.heap.size, 0, none⟩)] trivial (enters_of Try.func65 (by kernel_rfl) rfl) _ _ hmax hbytes _ hseq

theorem sort_names {f : Ent Fi} (h : Rising f) {ss : List Nm} (hp : ss.Perm (names f)) : ss.mergeSort (fun x y => decide (x ≤ y)) = names f := by
  have tr : ∀ a b c : Nm, leB a b = true → leB b c = true → leB a c = true := fun a b c h1 h2 => by simp only [leB, decide_eq_true_eq] at *; exact List.le_trans h1 h2
  have to : ∀ a b : Nm, (leB a b || leB b a) = true := fun a b => by simp only [leB, Bool.or_eq_true, decide_eq_true_eq]; exact List.le_total a b
  refine List.Perm.eq_of_pairwise (le := fun a b => leB a b = true) (fun a b _ _ h1 h2 => ?_) (List.pairwise_mergeSort tr to ss) ?_ ((List.mergeSort_perm ss leB).trans hp)
  · simp only [leB, decide_eq_true_eq] at h1 h2
    exact List.le_antisymm h1 h2
  · refine (rising_names.1 h).imp fun {a b} hab => ?_
    simp only [leB, decide_eq_true_eq]
    exact List.le_of_lt hab
section
variable {S : Nat → Prop} {w : World} {a m : Nat} {d : Dk} {ρ : Nm → Nat} {δ : Nm → Value} {s : Nm} {x : Fi}
set_option maxHeartbeats 1000000 in
theorem list_any (h : DAt S w a d m ρ δ) : Calls Try.prog 31 #[ptr a] w fun e w' => ∃ v, e = .returned v ∧ w'.ownsRow w.heap.size 9 1 v d.f.length ((names d.f).map nmv) ∧ Below w.heap.size w w' := by
  have c0 := h.c0
  have hmap := h.map
  have hfew := h.ok.few
  have hmax : Maps.size (dmap (refs d.f ρ)) ≤ maxLen := by rw [size_dmap, length_refs]; unfold maxLen; omega
  have hbytes : Maps.size (dmap (refs d.f ρ)) * 16 ≤ 140737488355328 := by rw [size_dmap, length_refs]; omega
  have hkeys : ∀ ss : List Nm, ss.Perm (strKeys (dmap (refs d.f ρ))) → ss.mergeSort (fun x y => decide (x ≤ y)) = names d.f ∧ ss.length = d.f.length := fun ss hp => by
    rw [keys_dmap, names_refs] at hp
    exact ⟨sort_names h.ok.rising hp, by rw [hp.length_eq, length_names]⟩
  have HM := Lib.hid hmap
  have HX := Lib.hid hmax
  have HY := Lib.hid hbytes
  have HK := Lib.hid hkeys
  clear h hmap hmax hbytes hkeys hfew
  refine (callsIn_wide (n := 6)).1 ?_
  have hfK : Fence.wide.fn 59 := trivial
  have hfS : Fence.wide.fn 58 := trivial
  refine callsIn_of_wp Try.func31 rfl trivial ?_ rfl
  simp only [Try.ntmps31, List.size_toArray, List.length_cons, List.length_nil, Nat.reduceAdd, Nat.reduceSub, Array.replicate_succ, Array.replicate_zero, List.push_toArray, List.append_toArray, List.nil_append, List.cons_append]
  gi_wp2_with (first
    | (gi_at_call 59; refine (maps_Keys_59 _ _).mono ?_; rintro e w' ⟨rfl, rfl⟩)
    | (gi_at_call 58; refine (sorted_keys_58_59 m _ _ refE w HM.out HX.out HY.out).mono ?_; rintro e w' ⟨v, ss, rfl, hS, hrow, hnil, hb⟩; have HS := Lib.hid hS; have HR := Lib.hid hrow; have HB := Lib.hid hb; clear hS hrow hnil hb))
  go_ret
  obtain ⟨h1, h2⟩ := HK.out ss HS.out
  have hrow := HR.out
  rw [h1, h2] at hrow
  exact ⟨v, rfl, ownsRow_base_a hrow (by simp), ((Below.refl _ w).alloc (Nat.le_refl _) _).trans (HB.out.mono (by simp))⟩
end
/-- A slice of ints, as it reads; what is read lies in blocks of C. -/
structure SI (C : Nat → Prop) (w : World) (ao : Option Addr) (n cap : Nat) (l : List Int) : Prop where
  len : n = l.length
  le : n ≤ cap
  max : cap ≤ maxLen
  wf : ∀ p ∈ l, -9223372036854775808 ≤ p ∧ p ≤ 9223372036854775807
  cells : n = 0 ∨ ∃ b off, ao = some ⟨b, off, none⟩ ∧ C b ∧ ∀ i, i < n → w.cell? ⟨b, off + i, none⟩ = some (.int .i64 (l.getD i 0))
theorem SI.tn {C S : Nat → Prop} {w w' : World} {ao : Option Addr} {n cap : Nat} {l : List Int} (h : SI C w ao n cap l) (ht : Tn S w w') (hd : ∀ k, C k → ¬ S k) : SI C w' ao n cap l := by
  refine ⟨h.len, h.le, h.max, h.wf, ?_⟩
  rcases h.cells with h0 | ⟨b, off, rfl, hB, hc⟩
  · exact .inl h0
  · exact .inr ⟨b, off, rfl, hB, fun i hi => ht.cell (hc i hi) (hd b hB)⟩
theorem SI.below {C : Nat → Prop} {w w' : World} {ao : Option Addr} {n cap : Nat} {l : List Int} (h : SI C w ao n cap l) (hb : Below w.heap.size w w') : SI C w' ao n cap l := h.tn (Tn.of_below (S := fun _ => False) hb) (fun _ _ e => e)
theorem SI.lt {C : Nat → Prop} {w : World} {ao : Option Addr} {n cap : Nat} {l : List Int} (h : SI C w ao n cap l) : n ≤ 9223372036854775807 := by have := h.le; have := h.max; unfold maxLen at this; omega
theorem kept_any {C : Nat → Prop} {w : World} {ao : Option Addr} {n cap : Nat} {l : List Int} (h : SI C w ao n cap l) (i loose : Nat) (hi : i ≤ 4194304) (hl : loose ≤ 4194304) :
    Calls Try.prog 54 #[.slice ao n cap, .int .i64 (i : Int), .int .i64 (loose : Int)] w fun e w' => e = .returned (.int .i64 (kept l i loose : Nat)) ∧ w = w' := by
  have hlt := h.lt
  have hn := h.len
  by_cases h1 : l.length ≤ i
  · have e : kept l i loose = 0 := if_pos (.inl h1)
    rw [e]
    have h2 : n ≤ i := by omega
    clear h e h1 hn
    go_enter Try.func54, Try.ntmps54
    go_wp2
    go_ret
    exact ⟨rfl, rfl⟩
  · rcases h.cells with h0 | ⟨b, off, rfl, _, hc⟩
    · omega
    have hci := hc i (by omega)
    have hw := h.wf (l.getD i 0) (by rw [List.getD_eq_getElem?_getD, List.getElem?_eq_getElem (by omega)]; exact List.getElem_mem _)
    generalize hp : l.getD i 0 = p at *
    have h2 : i < n := by omega
    by_cases hp0 : p < 0
    · have e : kept l i loose = 0 := if_pos (.inr (by rw [hp]; exact hp0))
      rw [e]
      clear h e h1 hn hp hc
      go_enter Try.func54, Try.ntmps54
      go_wp2
      go_ret
      exact ⟨rfl, rfl⟩
    · have hp1 : 0 ≤ p := by omega
      have e : kept l i loose = p.toNat % (loose + 1) := by unfold kept; rw [if_neg (by rw [hp]; omega), hp]
      have HE := Lib.hid e
      clear h e h1 hn hp hc
      go_enter Try.func54, Try.ntmps54
      go_wp2
      go_ret
      refine ⟨?_, rfl⟩
      have hm : p % ((loose : Int) + 1) = ((p.toNat % (loose + 1) : Nat) : Int) := by rw [Int.natCast_emod, Int.toNat_of_nonneg hp1]; rfl
      rw [HE.out, ← hm]
      rfl
end Go.Proofs.Ytefgnlijgomgpaa
