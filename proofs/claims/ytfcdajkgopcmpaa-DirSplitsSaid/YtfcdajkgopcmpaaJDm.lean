/- A map of ranges by their numbers, in memory. Conditions: none of its own. -/
import Derived.Test.YtfcdajkgopcmpaaJDe
import Derived.Maps.RangeWalk
import Derived.Maps.OwnSet
import Derived.Maps.Ext
import Derived.Sort.KeysCollected
namespace Go.Proofs.Ytfcdajkgopcmpaa
open Go.RowKit
/-- How a range reads. -/
def rdat (r : RV) : DataW Unit := .agg [.lit (.int .i64 r.i), .lit (.int .i64 r.e), .lit (.float .f64 r.lo), .lit (.float .f64 r.hi)]
def rangeE (v : Value) : Option (DataW Unit × List MemPlace) :=
  match v with
  | .agg cs => match cs.toList with
    | [.int .i64 a, .int .i64 b, .float .f64 c, .float .f64 d] => some (rdat ⟨a, b, c, d⟩, [])
    | _ => none
  | _ => none
theorem rangeE_mk (r : RV) : rangeE (ragg r) = some (rdat r, []) := rfl
theorem rdat_inj {r q : RV} (h : rdat r = rdat q) : r = q := by
  unfold rdat at h
  injection h with h
  injection h with h1 h
  injection h with h2 h
  injection h with h3 h
  injection h with h4 h
  injection h1 with h1; injection h2 with h2; injection h3 with h3; injection h4 with h4
  injection h1 with _ h1; injection h2 with _ h2; injection h3 with _ h3; injection h4 with _ h4
  obtain ⟨a, b, c, d⟩ := r
  obtain ⟨a', b', c', d'⟩ := q
  simp only at h1 h2 h3 h4
  rw [h1, h2, h3, h4]
theorem rangeE_inv {v : Value} {r : RV} {ps : List MemPlace} (h : rangeE v = some (rdat r, ps)) : v = ragg r := by
  unfold rangeE at h
  split at h
  · rename_i cs
    split at h
    · rename_i a b c d hcs
      injection h with h
      injection h with h1 _
      rw [← rdat_inj h1]
      show Value.agg cs = Value.agg #[.int .i64 a, .int .i64 b, .float .f64 c, .float .f64 d]
      rw [← hcs]
    · cases h
  · cases h
def entR (r : RV) : Lit × DataW Unit := (.int .i64 r.i, rdat r)
def dmap (L : List RV) : DataW Unit := .map (L.map entR)
def updL (L : List RV) (r : RV) : List RV := putL (L.filter fun q => !(q.i == r.i)) r
theorem sameR (r : RV) (k : Int) : (entR r).1.sameKey (.int .i64 k) = (r.i == k) := by
  rw [Bool.eq_iff_iff]
  simp [entR, Lit.sameKey]
theorem filterR (L : List RV) (k : Int) : (L.map entR).filter (fun p => !p.1.sameKey (.int .i64 k)) = (L.filter fun q => !(q.i == k)).map entR := by
  rw [List.filter_map]
  congr 1
  refine List.filter_congr fun q _ => ?_
  show (!(entR q).1.sameKey (.int .i64 k)) = _
  rw [sameR]
theorem insertR (r : RV) : ∀ {L : List RV}, (∀ q ∈ L, q.i ≠ r.i) → DataW.insert (entR r) (L.map entR) = (putL L r).map entR
  | [], _ => rfl
  | p :: L, h => by
    have hp := h p (by simp)
    show (if decide (r.i < p.i) = true then _ else _) = _
    rw [putL_cons]
    by_cases k : p.i < r.i
    · have : ¬ r.i < p.i := by omega
      rw [if_neg (by simpa using this), if_pos k, insertR r (fun q hq => h q (by simp [hq]))]
      rfl
    · have : r.i < p.i := by omega
      rw [if_pos (by simpa using this), if_neg k]
      rfl
theorem put_dmap (L : List RV) (r : RV) : (dmap L).put (.int .i64 r.i) (rdat r) = dmap (updL L r) := by
  show DataW.map (DataW.insert (entR r) ((L.map entR).filter fun p => !p.1.sameKey (.int .i64 r.i))) = _
  rw [filterR, insertR r (fun q hq => by simpa using (List.mem_filter.1 hq).2)]
  rfl
theorem has_dmap (L : List RV) (k : Int) : Maps.has (dmap L) (.int .i64 k) = (getL L k).isSome := by
  show (L.map entR).any (fun p => p.1.sameKey (.int .i64 k)) = _
  rw [List.any_map, getL, Bool.eq_iff_iff, List.find?_isSome, List.any_eq_true]
  refine exists_congr fun q => and_congr_right fun _ => ?_
  show (entR q).1.sameKey (.int .i64 k) = true ↔ _
  rw [sameR]
theorem size_dmap (L : List RV) : Maps.size (dmap L) = L.length := by
  show (L.map entR).length = _
  rw [List.length_map]
theorem atKey_dmap (L : List RV) (k : Int) (z : DataW Unit) : (dmap L).atKey (.int .i64 k) z = match getL L k with | some r => rdat r | none => z := by
  unfold dmap getL
  simp only [DataW.atKey, List.find?_map]
  have e : ((fun p : Lit × DataW Unit => p.1.sameKey (.int .i64 k)) ∘ entR) = fun q => q.i == k := funext fun q => sameR q k
  rw [e]
  cases L.find? fun q => q.i == k <;> rfl
theorem upd_get {L : List RV} (h : Rise L) (r : RV) : updL L r = if (getL L r.i).isSome = true then setL L r else putL L r := by
  have hf : Rise (L.filter fun q => !(q.i == r.i)) := List.Pairwise.sublist List.filter_sublist h
  have hn : ∀ q ∈ L.filter (fun q => !(q.i == r.i)), q.i ≠ r.i := fun q hq => by simpa using (List.mem_filter.1 hq).2
  have gf : ∀ (M : List RV) (k : Int), k ≠ r.i → getL (M.filter fun q => !(q.i == r.i)) k = getL M k := by
    intro M k hk
    induction M with
    | nil => rfl
    | cons a M ih =>
      rw [List.filter_cons]
      by_cases ha : a.i = r.i
      · have : (!(a.i == r.i)) = false := by simp [ha]
        rw [this]
        simp only [Bool.false_eq_true, if_false]
        rw [ih, getL_cons, if_neg (by omega)]
      · have : (!(a.i == r.i)) = true := by simp [ha]
        rw [this]
        simp only [if_true]
        rw [getL_cons, getL_cons, ih]
  have g0 : getL (L.filter fun q => !(q.i == r.i)) r.i = none := getL_not hn
  have hup : Rise (updL L r) := rise_putL hf hn
  split
  · rename_i hs
    obtain ⟨q, hq⟩ := Option.isSome_iff_exists.1 hs
    refine rise_ext hup (rise_setL h r) fun k => ?_
    unfold updL
    rw [getL_putL g0, getL_setL hq]
    by_cases hk : r.i = k
    · rw [if_pos hk, if_pos hk]
    · rw [if_neg hk, if_neg hk, gf L k (fun e => hk e.symm)]
  · rename_i hs
    have hnone : getL L r.i = none := by simpa using hs
    unfold updL
    rw [List.filter_eq_self.2 (fun q hq => by simpa using getL_none hnone q hq)]
theorem under_map : Try.prog.underlying 70 = some (.map 3 37) := by kernel_rfl
theorem law_int : Maps.Keyed Try.prog 3 := Maps.int_keyed Try.underlying3
theorem zero_range (w : World) : (zeroValue 37).run Try.prog w = .ok (ragg RV.zero) w := by kernel_rfl
theorem key_int {k : Int} (h : -9223372036854775808 ≤ k ∧ k < 9223372036854775808) : keyOf Try.prog 3 (.int .i64 k) = some (.int .i64 k) :=
  Maps.keyOf_int_mk Try.underlying3 (by simp [Lit.wf, IntKind.min, IntKind.max, IntKind.signed, IntKind.bits]; omega)
/-- A map of ranges as it lies in memory. -/
abbrev MAt (w : World) (m : Nat) (L : List RV) : Prop := w.ownsMap Try.prog 3 rangeE m L.length (dmap L)
theorem mat_tight {w : World} {m n : Nat} {L : List RV} (h : w.ownsMap Try.prog 3 rangeE m n (dmap L)) : MAt w m L := by
  have e := h
  obtain ⟨es, clock, hb, F, hs, hD⟩ := h
  refine ⟨es, clock, hb, F, ?_, hD⟩
  have h1 : Maps.size (dmap L) = es.size := by rw [hD]; simp [Maps.size, length_sorted]
  rw [← h1, size_dmap]
  exact Nat.le_refl _
theorem MAt.tn {S : Nat → Prop} {w w' : World} {m : Nat} {L : List RV} (h : MAt w m L) (ht : Tn S w w') (hm : ¬ S m) : MAt w' m L := by
  obtain ⟨es, clock, hb, r⟩ := h
  exact ⟨es, clock, ht.at_ hb hm, r⟩
theorem MAt.lt {w : World} {m : Nat} {L : List RV} (h : MAt w m L) : m < w.heap.size := by
  obtain ⟨es, clock, hb, _⟩ := h
  exact (Array.getElem?_eq_some_iff.1 hb).1
theorem MAt.look {w : World} {m : Nat} {L : List RV} (h : MAt w m L) {k : Int} (hk : -9223372036854775808 ≤ k ∧ k < 9223372036854775808) :
    (Instr.lookup 70 (.map (some m)) (.int .i64 k) true).run Try.prog w = .ok (.tuple #[ragg ((getL L k).getD RV.zero), .bool (getL L k).isSome]) w := by
  obtain ⟨v, ps, hrun, hv⟩ := World.ownsMap.look_ok h law_int under_map (zero_range w) (zd := rdat RV.zero) (zp := []) rfl (key_int hk)
  rw [has_dmap] at hrun
  rw [atKey_dmap] at hv
  cases hg : getL L k with
  | none => rw [hg] at hrun hv; rw [rangeE_inv hv] at hrun; exact hrun
  | some r => rw [hg] at hrun hv; rw [rangeE_inv hv] at hrun; exact hrun
theorem MAt.store {w : World} {m : Nat} {L : List RV} (h : MAt w m L) (hl : L.length < maxLen) {r : RV} (hk : -9223372036854775808 ≤ r.i ∧ r.i < 9223372036854775808) :
    ∃ w', (Instr.mapUpdate 70 (.map (some m)) (.int .i64 r.i) (ragg r)).run Try.prog w = .ok () w' ∧ MAt w' m (updL L r) ∧ Tn (· = m) w w' := by
  obtain ⟨w', h1, h2, h3⟩ := World.ownsMap.store h law_int under_map hl (key_int hk) (rangeE_mk r)
  rw [put_dmap] at h2
  refine ⟨w', h1, mat_tight h2, ?_⟩
  have hg := h3.grown
  exact ⟨hg.os, hg.tape, hg.output, hg.size, fun k hk hne => hg.block k hk (fun e => hne (Option.some.inj e))⟩
end Go.Proofs.Ytfcdajkgopcmpaa
