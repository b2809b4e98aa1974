/- strings.Cut at a dot, strconv.Atoi at any string, hlc.number. Conditions: strings below 2^48 bytes; the library's errors are errors. -/
import Derived.Test.YtmpokhjchbaleaaDoorZ
import Derived.Test.YtmpokhjchbaleaaDoorShelg
import Derived.Lib.AtoiAllCases
import Derived.Lib.CutLaws
import Derived.Lib.AtoiTie
import Derived.Laws.Strings3
import Derived.Lib.IndexBytes
import Derived.Deep.Cut
namespace Go.Proofs.YtmpokhjchbaleaaDoor
open Go.RowKit
/-- Atoi, whatever it reads. -/
def Read10 (l : Nm) (v : Int) (er : Value) : Prop := (Lib.atoiAll l = .ok v ∧ er = .nilIface) ∨ ((∀ u, Lib.atoiAll l ≠ .ok u) ∧ ∃ N, er = .iface 87 (.pointer (some ⟨N, 0, none⟩)))
theorem atoi_any (w : World) (hT : Tabs w) (l : Nm) (hl : l.length ≤ 281474976710656) : Calls Tryd.prog 43 #[nmv l] w fun e w' => (∃ v er, e = .returned (.tuple #[.int .i64 v, er]) ∧ Read10 l v er) ∧ Below w.heap.size w w' := by
  have hs : (⟨l.toArray⟩ : ByteArray).size ≤ 281474976710656 := by show l.toArray.size ≤ _; simpa using hl
  cases h : Lib.atoiAll l
  · rename_i v
    refine (Tryd.strconv_Atoi_ok ⟨l.toArray⟩ (by omega) v h w).mono ?_
    rintro e w' ⟨rfl, hw⟩
    refine ⟨⟨v, _, rfl, .inl ⟨h, rfl⟩⟩, ?_⟩
    rcases hw with rfl | ⟨t, rfl⟩
    · exact Below.refl _ _
    · exact Lib.bytesWorld_below w 5 t
  · obtain ⟨ev, h1, h2⟩ := hT.syn
    refine (Any.strconv_Atoi_syntax Tryd.laysC172 ⟨l.toArray⟩ hs h ev w h1 h2).mono ?_
    rintro e w' ⟨M, rfl, _, _, hb⟩
    exact ⟨⟨_, _, rfl, .inr ⟨fun u => by rw [h]; exact nofun, M, rfl⟩⟩, hb⟩
  · obtain ⟨ev, h1, h2⟩ := hT.ran
    refine (Tryd.strconv_Atoi_range ⟨l.toArray⟩ hs h ev w h1 h2).mono ?_
    rintro e w' ⟨M, rfl, _, _, hb⟩
    exact ⟨⟨_, _, rfl, .inr ⟨fun u => by rw [h]; exact nofun, M, rfl⟩⟩, hb⟩
/-- The number with a text, or nought. -/
def numV (l : Nm) : Int := match Lib.atoiAll l with | .ok v => v | _ => 0
theorem numV_ok {l : Nm} {v : Int} (h : Lib.atoiAll l = .ok v) : numV l = v := by unfold numV; rw [h]
theorem numV_no {l : Nm} (h : ∀ u, Lib.atoiAll l ≠ .ok u) : numV l = 0 := by
  unfold numV
  split
  · rename_i u hu; exact absurd hu (h u)
  · rfl
theorem number_any (w : World) (hT : Tabs w) (l : Nm) (hl : l.length ≤ 281474976710656) : Calls Tryd.prog 39 #[nmv l] w fun e w' => e = .returned (.int .i64 (numV l)) ∧ Below w.heap.size w w' := by
  have HT := Lib.hid hT
  have HO : Hid (∀ v, Lib.atoiAll l = .ok v → numV l = v) := fun v h => numV_ok h
  have HN : Hid ((∀ u, Lib.atoiAll l ≠ .ok u) → numV l = 0) := fun h => numV_no h
  clear hT
  go_enter Tryd.func39, Tryd.ntmps39
  go_upto_region 2 with (go_at_call 43; (refine (atoi_any _ HT.out _ hl).mono ?_); rintro e w1 ⟨⟨v, er, rfl, hr⟩, hb⟩; have HR := Lib.hid hr; have HB1 := Lib.hid hb; clear hr hb)
  rcases HR.out with ⟨h2, rfl⟩ | ⟨h2, M, rfl⟩
  · have HF := Lib.hid (HO.out v h2)
    clear h2
    go_wp2
    go_ret
    rw [HF.out]
    exact ⟨rfl, HB1.out⟩
  · have HF := Lib.hid (HN.out h2)
    clear h2
    go_wp2
    go_ret
    rw [HF.out]
    exact ⟨rfl, HB1.out⟩
def isDig (c : UInt8) : Bool := decide (48 ≤ c.toNat) && decide (c.toNat ≤ 57)
def dv (l : Nm) : Nat := l.foldl (fun n c => 10 * n + (c.toNat - 48)) 0
theorem dv_snoc (l : Nm) (c : UInt8) : dv (l ++ [c]) = 10 * dv l + (c.toNat - 48) := by unfold dv; rw [List.foldl_append]; rfl
theorem isDig_le {c : UInt8} (h : isDig c = true) : 48 ≤ c.toNat ∧ c.toNat ≤ 57 := by unfold isDig at h; simpa using h
theorem dv_lt : ∀ (k : Nat) (l : Nm), l.length = k → l.all isDig = true → dv l < 10 ^ k
  | 0, l, h, _ => by rw [List.length_eq_zero_iff.1 h]; decide
  | k + 1, l, h, h2 => by
    obtain ⟨m, c, rfl⟩ : ∃ m c, l = m ++ [c] := ⟨l.dropLast, l.getLast (by rintro rfl; simp at h), (List.dropLast_concat_getLast _).symm⟩
    rw [List.all_append, Bool.and_eq_true] at h2
    have h1 := dv_lt k m (by simpa using h) h2.1
    have h3 := isDig_le (c := c) (by simpa using h2.2)
    rw [dv_snoc, Nat.pow_succ]
    omega
theorem dig_mk {r : Nat} (h : r < 10) : isDig (UInt8.ofNat (48 + r)) = true ∧ (UInt8.ofNat (48 + r)).toNat = 48 + r := by
  have e : (UInt8.ofNat (48 + r)).toNat = 48 + r := by rw [UInt8.toNat_ofNat']; omega
  exact ⟨by unfold isDig; rw [e]; simp; omega, e⟩
theorem digits_dig (u : Nat) : (Lib.decDigits u).all isDig = true ∧ dv (Lib.decDigits u) = u := by
  induction u using Nat.strongRecOn with
  | ind u ih =>
    rw [Lib.decDigits]
    by_cases h : u < 10
    · rw [dif_pos h]
      obtain ⟨h1, h2⟩ := dig_mk h
      refine ⟨by simpa using h1, ?_⟩
      show 10 * 0 + ((UInt8.ofNat (48 + u)).toNat - 48) = u
      rw [h2]; omega
    · rw [dif_neg h]
      obtain ⟨h1, h2⟩ := ih (u / 10) (by omega)
      obtain ⟨h3, h4⟩ := dig_mk (r := u % 10) (by omega)
      refine ⟨by rw [List.all_append, h1]; simpa using h3, ?_⟩
      rw [dv_snoc, h2, h4]
      omega
theorem decFrom_dv : ∀ (l : Nm) (acc : Nat), l.all isDig = true → Lib.decFrom acc l = some (l.foldl (fun n c => 10 * n + (c.toNat - 48)) acc)
  | [], _, _ => rfl
  | c :: l, acc, h => by
    rw [List.all_cons, Bool.and_eq_true] at h
    have hc := isDig_le h.1
    unfold Lib.decFrom Lib.digitVal
    rw [if_pos hc]
    show Lib.decFrom (acc * 10 + (c.toNat - 48)) l = _
    rw [decFrom_dv l _ h.2, Nat.mul_comm acc 10]
    rfl
theorem atoi_dig {l : Nm} (h : l.all isDig = true) (h0 : l ≠ []) (h8 : l.length ≤ 18) : Lib.atoiAll l = .ok (dv l : Int) := by
  rw [Lib.atoiAll_short l h8]
  cases l with
  | nil => exact absurd rfl h0
  | cons c r =>
    have hc := isDig_le (c := c) (by rw [List.all_cons, Bool.and_eq_true] at h; exact h.1)
    have h45 : (c == 45) = false := by
      cases e : c == 45 with
      | false => rfl
      | true => have := eq_of_beq e; subst this; exact absurd hc (by decide)
    have h43 : (c == 43) = false := by
      cases e : c == 43 with
      | false => rfl
      | true => have := eq_of_beq e; subst this; exact absurd hc (by decide)
    unfold Lib.atoi Lib.decNat
    have e := decFrom_dv (c :: r) 0 h
    simp only [h45, h43, List.isEmpty_cons, Bool.false_eq_true, if_false]
    rw [e]
    rfl
theorem nDigits_le : ∀ (k u : Nat), u < 10 ^ (k + 1) → Lib.nDigits u ≤ k + 1
  | 0, u, h => by rw [Lib.nDigits_small (by simpa using h)]; exact Nat.le_refl _
  | k + 1, u, h => by
    by_cases h1 : u < 10
    · rw [Lib.nDigits_small h1]; omega
    · rw [Lib.nDigits_big h1]
      have := nDigits_le k (u / 10) (by rw [Nat.pow_succ] at h; omega)
      omega
theorem icut_p (s : ByteArray) (w : World) (hs : s.size ≤ 1000000) :
    Calls Tryd.prog 42 #[.string s, .string ⟨#[46]⟩] w fun e w' => e = .returned (.tuple #[.string ⟨(Lib.cut s.data.toList [46]).1.toArray⟩, .string ⟨(Lib.cut s.data.toList [46]).2.1.toArray⟩, .bool (Lib.cut s.data.toList [46]).2.2]) ∧ ∃ n, w' = w.drewN n := by
  have hi : Lib.indexByte s.data.toList 46 = Lib.indexB s ⟨#[46]⟩ := (Lib.index_one _ _).symm
  have HI := Lib.hid hi; clear hi
  rcases Lib.indexB_cases s ⟨#[46]⟩ with hix | ⟨i, hix, hroom⟩
  · obtain ⟨e1, e2, e3⟩ := Lib.cutB_miss s ⟨#[46]⟩ hix
    have e1' : (⟨(Lib.cut s.data.toList [46]).1.toArray⟩ : ByteArray) = s := e1
    have e2' : (⟨(Lib.cut s.data.toList [46]).2.1.toArray⟩ : ByteArray) = ByteArray.empty := e2
    have e3' : (Lib.cut s.data.toList [46]).2.2 = false := e3
    rw [e1', e2', e3']
    clear e1 e2 e3 e1' e2' e3'
    have HX := Lib.hid hix; clear hix
    go_enter Tryd.func42, Tryd.ntmps42
    go_wp2_with (go_at_call 45; refine (Tryd.stringslite_Index_one s 46 _).mono ?_; rintro e w' ⟨rfl, rfl⟩; rw [HI.out, HX.out])
    go_ret3
    exact ⟨rfl, 0, rfl⟩
  · obtain ⟨e1, e2, e3⟩ := Lib.cutB_hit s ⟨#[46]⟩ i hix
    have e1' : (⟨(Lib.cut s.data.toList [46]).1.toArray⟩ : ByteArray) = s.extract 0 i := e1
    have e2' : (⟨(Lib.cut s.data.toList [46]).2.1.toArray⟩ : ByteArray) = s.extract (i + 1) s.size := e2
    have e3' : (Lib.cut s.data.toList [46]).2.2 = true := e3
    rw [e1', e2', e3']
    clear e1 e2 e3 e1' e2' e3'
    have hroom' : i + 1 ≤ s.size := hroom
    clear hroom
    have HX := Lib.hid hix; clear hix
    have c1 : (0 : Int) ≤ ↑i := by omega
    have c2 : (↑i : Int) ≤ ↑s.size := by omega
    have c3 : (0 : Int) ≤ ↑i + 1 := by omega
    have c4 : (↑i + 1 : Int) ≤ ↑s.size := by omega
    go_enter Tryd.func42, Tryd.ntmps42
    go_wp2_with (go_at_call 45; refine (Tryd.stringslite_Index_one s 46 _).mono ?_; rintro e w' ⟨rfl, rfl⟩; rw [HI.out, HX.out])
    go_region
    all_goals go_wp2
    all_goals go_ret3
    all_goals exact ⟨rfl, 1, rfl⟩

theorem cut_p (s : ByteArray) (w : World) (hs : s.size ≤ 1000000) :
    Calls Tryd.prog 38 #[.string s, .string ⟨#[46]⟩] w fun e w' => e = .returned (.tuple #[.string ⟨(Lib.cut s.data.toList [46]).1.toArray⟩, .string ⟨(Lib.cut s.data.toList [46]).2.1.toArray⟩, .bool (Lib.cut s.data.toList [46]).2.2]) ∧ ∃ n, w' = w.drewN n := by
  have HS := Lib.hid hs; clear hs
  go_enter Tryd.func38, Tryd.ntmps38
  go_wp2_with (go_at_call 42; refine (icut_p s _ HS.out).mono ?_; rintro e w' ⟨rfl, n, rfl⟩)
  go_ret3
  exact ⟨rfl, n, rfl⟩

theorem drewN_below (w : World) (n : Nat) : Below w.heap.size w (w.drewN n) := ⟨rfl, rfl, rfl, Nat.le_refl _, fun _ _ => rfl⟩
/-- A text, cut at its first dot. -/
def cutV (l : Nm) : Nm × Nm × Bool := Lib.cut l [46]
theorem cut_any (w : World) (l : Nm) (hl : l.length ≤ 1000000) : Calls Tryd.prog 38 #[nmv l, .string ⟨#[46]⟩] w fun e w' => e = .returned (.tuple #[nmv (cutV l).1, nmv (cutV l).2.1, .bool (cutV l).2.2]) ∧ Below w.heap.size w w' := by
  refine (cut_p ⟨l.toArray⟩ w (by show l.toArray.size ≤ _; simpa using hl)).mono ?_
  rintro e w' ⟨rfl, n, rfl⟩
  have e : ((⟨l.toArray⟩ : ByteArray).data.toList) = l := by simp
  rw [e]
  exact ⟨rfl, drewN_below w n⟩
theorem index_dot : ∀ (p q : Nm), 46 ∉ p → Lib.indexByte (p ++ 46 :: q) 46 = p.length
  | [], q, _ => by unfold Lib.indexByte; rfl
  | c :: p, q, h => by
    have hc : (c == 46) = false := by
      cases e : c == 46 with
      | false => rfl
      | true => exact absurd (by rw [eq_of_beq e]; exact List.mem_cons_self) h
    have hp := index_dot p q (fun h2 => h (List.mem_cons_of_mem _ h2))
    show Lib.indexByte (c :: (p ++ 46 :: q)) 46 = _
    unfold Lib.indexByte
    rw [hp, hc]
    have hn : (((p.length : Nat) : Int) == -1) = false := by
      cases e : (((p.length : Nat) : Int) == -1) with
      | false => rfl
      | true => have := eq_of_beq e; omega
    rw [hn]
    simp
theorem cut_dot (p q : Nm) (h : 46 ∉ p) : cutV (p ++ 46 :: q) = (p, q, true) := by
  unfold cutV Lib.cut
  rw [Lib.index_one, index_dot p q h, if_pos (by omega)]
  simp
theorem cut_len (l : Nm) : (cutV l).1.length ≤ l.length ∧ (cutV l).2.1.length ≤ l.length := by
  unfold cutV Lib.cut
  split
  · exact ⟨by simp only [List.length_take]; omega, by simp only [List.length_drop]; omega⟩
  · exact ⟨Nat.le_refl _, Nat.zero_le _⟩
theorem no_dot {l : Nm} (h : l.all isDig = true) : 46 ∉ l := by
  intro h2
  have := List.all_eq_true.1 h _ h2
  revert this
  decide
theorem decV_nat (u : Nat) : decV (u : Int) = Lib.decDigits u := Lib.itoa_nonneg u
theorem decV_neg (u : Nat) (h : 1 ≤ u) : decV (-(u : Int)) = 45 :: Lib.decDigits u := Lib.itoa_neg u h
theorem decV_dot (n : Int) : 46 ∉ decV n := by
  by_cases h : 0 ≤ n
  · obtain ⟨u, rfl⟩ : ∃ u : Nat, n = (u : Int) := ⟨n.toNat, by omega⟩
    rw [decV_nat]
    exact no_dot (digits_dig u).1
  · obtain ⟨u, rfl⟩ : ∃ u : Nat, n = -(u : Int) := ⟨n.natAbs, by omega⟩
    rw [decV_neg u (by omega), List.mem_cons, not_or]
    exact ⟨by decide, no_dot (digits_dig u).1⟩
theorem decV_inj {n m : Int} (h : decV n = decV m) : n = m := by
  have d (u v : Nat) : Lib.decDigits u ≠ 45 :: Lib.decDigits v := by
    intro e
    have := (digits_dig u).1
    rw [e] at this
    exact absurd this (by rw [List.all_cons]; simp [isDig])
  by_cases hn : 0 ≤ n
  · obtain ⟨u, rfl⟩ : ∃ u : Nat, n = (u : Int) := ⟨n.toNat, by omega⟩
    by_cases hm : 0 ≤ m
    · obtain ⟨v, rfl⟩ : ∃ u : Nat, m = (u : Int) := ⟨m.toNat, by omega⟩
      rw [decV_nat, decV_nat] at h
      have := congrArg dv h
      rw [(digits_dig u).2, (digits_dig v).2] at this
      omega
    · obtain ⟨v, rfl⟩ : ∃ u : Nat, m = -(u : Int) := ⟨m.natAbs, by omega⟩
      rw [decV_nat, decV_neg v (by omega)] at h
      exact absurd h (d u v)
  · obtain ⟨u, rfl⟩ : ∃ u : Nat, n = -(u : Int) := ⟨n.natAbs, by omega⟩
    by_cases hm : 0 ≤ m
    · obtain ⟨v, rfl⟩ : ∃ u : Nat, m = (u : Int) := ⟨m.toNat, by omega⟩
      rw [decV_nat, decV_neg u (by omega)] at h
      exact absurd h.symm (d v u)
    · obtain ⟨v, rfl⟩ : ∃ u : Nat, m = -(u : Int) := ⟨m.natAbs, by omega⟩
      rw [decV_neg u (by omega), decV_neg v (by omega)] at h
      injection h with _ h
      have := congrArg dv h
      rw [(digits_dig u).2, (digits_dig v).2] at this
      omega
theorem printS_eq (s : St) : printS s = decV s.w ++ 46 :: (decV s.l ++ 46 :: decV s.n) := by unfold printS; simp
theorem print_cut (s : St) : (cutV (printS s)).1 = decV s.w ∧ (cutV (cutV (printS s)).2.1).1 = decV s.l ∧ (cutV (cutV (printS s)).2.1).2.1 = decV s.n := by
  rw [printS_eq, cut_dot _ _ (decV_dot _)]
  simp only
  have e := cut_dot (decV s.l) (decV s.n) (decV_dot _)
  exact ⟨trivial, by rw [e], by rw [e]⟩
theorem print_inj {a b : St} (h : printS a = printS b) : a = b := by
  have h1 := print_cut a
  have h2 := print_cut b
  rw [h] at h1
  obtain ⟨a1, a2, a3⟩ := a
  obtain ⟨b1, b2, b3⟩ := b
  have e1 := decV_inj (h1.1.symm.trans h2.1)
  have e2 := decV_inj (h1.2.1.symm.trans h2.2.1)
  have e3 := decV_inj (h1.2.2.symm.trans h2.2.2)
  simp only at e1 e2 e3
  rw [e1, e2, e3]
theorem numV_dec {n : Int} (h0 : 0 ≤ n) (h1 : n ≤ 281474976710656) : numV (decV n) = n := by
  obtain ⟨u, rfl⟩ : ∃ u : Nat, n = (u : Int) := ⟨n.toNat, by omega⟩
  rw [decV_nat]
  have hl : (Lib.decDigits u).length ≤ 15 := by
    rw [Lib.decDigits_length]
    refine nDigits_le 14 u ?_
    have : (10 : Nat) ^ (14 + 1) = 1000000000000000 := by decide
    omega
  have hne : Lib.decDigits u ≠ [] := by
    intro e
    have := Lib.nDigits_pos u
    rw [← Lib.decDigits_length, e] at this
    simp at this
  have := atoi_dig (digits_dig u).1 hne (by omega)
  rw [(digits_dig u).2] at this
  exact numV_ok this
/-- What a text comes to as a stamp: the one whose text it is, or a fault. -/
def IsParse (l : Nm) (r : St × Int) : Prop := (mayS r.1 = true ∧ printS r.1 = l ∧ r.2 = 0) ∨ (r = (St.zero, 4) ∧ ∀ x, mayS x = true → printS x ≠ l)
theorem IsParse.one {l : Nm} {r r' : St × Int} (h : IsParse l r) (h' : IsParse l r') : r = r' := by
  rcases h with ⟨h1, h2, h3⟩ | ⟨h1, h2⟩
  · rcases h' with ⟨g1, g2, g3⟩ | ⟨g1, g2⟩
    · exact Prod.ext (print_inj (h2.trans g2.symm)) (h3.trans g3.symm)
    · exact absurd h2 (g2 _ h1)
  · rcases h' with ⟨g1, g2, g3⟩ | ⟨g1, g2⟩
    · exact absurd g2 (h2 _ g1)
    · rw [h1, g1]
/-- What hlc.Parse reads. -/
def readS (l : Nm) : St := ⟨numV (cutV l).1, numV (cutV (cutV l).2.1).1, numV (cutV (cutV l).2.1).2.1⟩
theorem read_print {x : St} (h : mayS x = true) : readS (printS x) = x := by
  have hr := mayS_iff.1 h
  obtain ⟨e1, e2, e3⟩ := print_cut x
  unfold readS
  rw [e1, e2, e3, numV_dec hr.1.1 hr.1.2, numV_dec hr.2.1.1 (by omega), numV_dec hr.2.2.1 (by omega)]
def parseS (l : Nm) : St × Int := if mayS (readS l) = true ∧ printS (readS l) = l then (readS l, 0) else (St.zero, 4)
theorem parse_is (l : Nm) : IsParse l (parseS l) := by
  unfold parseS
  split
  · rename_i h; exact .inl ⟨h.1, h.2, rfl⟩
  · rename_i h
    refine .inr ⟨rfl, fun x hx e => h ?_⟩
    subst e
    rw [read_print hx]
    exact ⟨hx, rfl⟩
theorem Tabs.pown {w : World} (h : Tabs w) : Pow w := h.pow
theorem read_may {l : Nm} (h : mayS (readS l) = true) : (readS l).wf := by
  have hr := mayS_iff.1 h
  exact ⟨⟨by omega, by omega⟩, ⟨by omega, by omega⟩, ⟨by omega, by omega⟩⟩
set_option maxRecDepth 100000 in
set_option maxHeartbeats 4000000 in
theorem parse_any (w : World) (hT : Tabs w) (l : Nm) (hl : l.length ≤ 1000000) : Calls Tryd.prog 21 #[nmv l] w fun e w' => e = .returned (.tuple #[sagg (parseS l).1, .int .i64 (parseS l).2]) ∧ Below w.heap.size w w' := by
  have HT := Lib.hid hT
  have hl1 := cut_len l
  have hl2 := cut_len (cutV l).2.1
  have HC1 := fun w => Lib.hid (cut_any w l hl)
  have HC2 := fun w => Lib.hid (cut_any w (cutV l).2.1 (by omega))
  have HN1 := fun w h => Lib.hid (number_any w h (cutV l).1 (by omega))
  have HN2 := fun w h => Lib.hid (number_any w h (cutV (cutV l).2.1).1 (by omega))
  have HN3 := fun w h => Lib.hid (number_any w h (cutV (cutV l).2.1).2.1 (by omega))
  have hr : readS l = ⟨numV (cutV l).1, numV (cutV (cutV l).2.1).1, numV (cutV (cutV l).2.1).2.1⟩ := rfl
  have HM := fun w => Lib.hid (may_any (readS l) w)
  have HP := fun w h hT => Lib.hid (print_any (readS l) (read_may h) w hT)
  have hp : parseS l = if mayS (readS l) = true ∧ printS (readS l) = l then (readS l, 0) else (St.zero, 4) := rfl
  rw [hp]
  have HZ := Lib.hid (at_new w St.zero)
  have HB := Lib.hid (below1 w (sobj St.zero))
  clear hp hT hl hl1 hl2
  generalize cutV (cutV l).2.1 = C2 at *
  generalize cutV l = C1 at *
  obtain ⟨c1, c2, c3⟩ := C1
  obtain ⟨c4, c5, c6⟩ := C2
  simp only at HC1 HC2 HN1 HN2 HN3 hr
  generalize numV c1 = n1 at *
  generalize numV c4 = n2 at *
  generalize numV c5 = n3 at *
  generalize readS l = R at *
  subst hr
  generalize printS ⟨n1, n2, n3⟩ = T at *
  generalize hmb : mayS ⟨n1, n2, n3⟩ = mb at *
  cases mb
  · rw [if_neg (fun h => absurd h.1 (by decide))]
    clear HP
    go_enter Tryd.func21, Tryd.ntmps21
    go_wp2_with (first
      | (go_at_call 38; (with_reducible refine (HC1 _).out.mono ?_); rintro e w1 ⟨rfl, hb⟩; have HZ := Lib.hid (HZ.out.below hb HZ.out.lt); have HB := Lib.hid (HB.out.trans (hb.mono HB.out.size)); clear hb)
      | (go_at_call 38; (with_reducible refine (HC2 _).out.mono ?_); rintro e w2 ⟨rfl, hb⟩; have HZ := Lib.hid (HZ.out.below hb HZ.out.lt); have HB := Lib.hid (HB.out.trans (hb.mono HB.out.size)); clear hb)
      | (go_at_call 39; (with_reducible refine (HN1 _ (HT.out.below HB.out)).out.mono ?_); rintro e w3 ⟨rfl, hb⟩; have HZ := Lib.hid (HZ.out.below hb HZ.out.lt); have HB := Lib.hid (HB.out.trans (hb.mono HB.out.size)); clear hb)
      | (go_at_call 39; (with_reducible refine (HN2 _ (HT.out.below HB.out)).out.mono ?_); rintro e w4 ⟨rfl, hb⟩; have HZ := Lib.hid (HZ.out.below hb HZ.out.lt); have HB := Lib.hid (HB.out.trans (hb.mono HB.out.size)); clear hb)
      | (go_at_call 39; (with_reducible refine (HN3 _ (HT.out.below HB.out)).out.mono ?_); rintro e w5 ⟨rfl, hb⟩; have HZ := Lib.hid ((HZ.out.below hb HZ.out.lt).alloc (sobj ⟨n1, n2, n3⟩)); have HX := Lib.hid (at_new w5 ⟨n1, n2, n3⟩); have HB := Lib.hid ((HB.out.trans (hb.mono HB.out.size)).alloc (Nat.le_trans HB.out.size hb.size) (sobj ⟨n1, n2, n3⟩)); clear hb)
      | (go_at_call 13; (with_reducible refine (HM _).out.mono ?_); rintro e w6 ⟨rfl, hb⟩; have HZ := Lib.hid (HZ.out.below hb HZ.out.lt); have HX := Lib.hid (HX.out.below hb HX.out.lt); have HB := Lib.hid (HB.out.trans (hb.mono HB.out.size)); clear hb; have z0 := HZ.out.c0; have z1 := HZ.out.c1; have z2 := HZ.out.c2; have y0 := HZ.out.f0; have y1 := HZ.out.f1; have y2 := HZ.out.f2; have hz := HZ.out.lt; have x0 := HX.out.c0; have x1 := HX.out.c1; have x2 := HX.out.c2; have hx := HX.out.lt)
      | (go_at_call 19; (with_reducible refine (HP _ (HT.out.below HB.out).pown).out.mono ?_); rintro e w7 ⟨rfl, hb⟩; have HZ := Lib.hid (HZ.out.below hb HZ.out.lt); have HX := Lib.hid (HX.out.below hb HX.out.lt); have HB := Lib.hid (HB.out.trans (hb.mono HB.out.size)); clear hb; have z0 := HZ.out.c0; have z1 := HZ.out.c1; have z2 := HZ.out.c2; have y0 := HZ.out.f0; have y1 := HZ.out.f1; have y2 := HZ.out.f2; have hz := HZ.out.lt; have x0 := HX.out.c0; have x1 := HX.out.c1; have x2 := HX.out.c2; have hx := HX.out.lt))
    exact bodyPost_ret (res_two rfl _ rfl (HZ.out.setAll St.zero)) rfl ⟨rfl, below_set3 (b := w.heap.size) (u := St.zero) HB.out (Nat.le_refl _)⟩
  · replace HP := fun (w : World) (hT : Pow w) => HP w rfl hT
    by_cases ht : T = l
    · rw [if_pos ⟨rfl, ht⟩]
      have ht' : (T != l) = false := by simpa using ht
      subst ht
      go_enter Tryd.func21, Tryd.ntmps21
      go_wp2_with (first
      | (go_at_call 38; (with_reducible refine (HC1 _).out.mono ?_); rintro e w1 ⟨rfl, hb⟩; have HZ := Lib.hid (HZ.out.below hb HZ.out.lt); have HB := Lib.hid (HB.out.trans (hb.mono HB.out.size)); clear hb)
      | (go_at_call 38; (with_reducible refine (HC2 _).out.mono ?_); rintro e w2 ⟨rfl, hb⟩; have HZ := Lib.hid (HZ.out.below hb HZ.out.lt); have HB := Lib.hid (HB.out.trans (hb.mono HB.out.size)); clear hb)
      | (go_at_call 39; (with_reducible refine (HN1 _ (HT.out.below HB.out)).out.mono ?_); rintro e w3 ⟨rfl, hb⟩; have HZ := Lib.hid (HZ.out.below hb HZ.out.lt); have HB := Lib.hid (HB.out.trans (hb.mono HB.out.size)); clear hb)
      | (go_at_call 39; (with_reducible refine (HN2 _ (HT.out.below HB.out)).out.mono ?_); rintro e w4 ⟨rfl, hb⟩; have HZ := Lib.hid (HZ.out.below hb HZ.out.lt); have HB := Lib.hid (HB.out.trans (hb.mono HB.out.size)); clear hb)
      | (go_at_call 39; (with_reducible refine (HN3 _ (HT.out.below HB.out)).out.mono ?_); rintro e w5 ⟨rfl, hb⟩; have HZ := Lib.hid ((HZ.out.below hb HZ.out.lt).alloc (sobj ⟨n1, n2, n3⟩)); have HX := Lib.hid (at_new w5 ⟨n1, n2, n3⟩); have HB := Lib.hid ((HB.out.trans (hb.mono HB.out.size)).alloc (Nat.le_trans HB.out.size hb.size) (sobj ⟨n1, n2, n3⟩)); clear hb)
      | (go_at_call 13; (with_reducible refine (HM _).out.mono ?_); rintro e w6 ⟨rfl, hb⟩; have HZ := Lib.hid (HZ.out.below hb HZ.out.lt); have HX := Lib.hid (HX.out.below hb HX.out.lt); have HB := Lib.hid (HB.out.trans (hb.mono HB.out.size)); clear hb; have z0 := HZ.out.c0; have z1 := HZ.out.c1; have z2 := HZ.out.c2; have y0 := HZ.out.f0; have y1 := HZ.out.f1; have y2 := HZ.out.f2; have hz := HZ.out.lt; have x0 := HX.out.c0; have x1 := HX.out.c1; have x2 := HX.out.c2; have hx := HX.out.lt)
      | (go_at_call 19; (with_reducible refine (HP _ (HT.out.below HB.out).pown).out.mono ?_); rintro e w7 ⟨rfl, hb⟩; have HZ := Lib.hid (HZ.out.below hb HZ.out.lt); have HX := Lib.hid (HX.out.below hb HX.out.lt); have HB := Lib.hid (HB.out.trans (hb.mono HB.out.size)); clear hb; have z0 := HZ.out.c0; have z1 := HZ.out.c1; have z2 := HZ.out.c2; have y0 := HZ.out.f0; have y1 := HZ.out.f1; have y2 := HZ.out.f2; have hz := HZ.out.lt; have x0 := HX.out.c0; have x1 := HX.out.c1; have x2 := HX.out.c2; have hx := HX.out.lt))
      exact bodyPost_ret (res_two rfl _ rfl (HZ.out.setAll ⟨n1, n2, n3⟩)) rfl ⟨rfl, below_set3 (b := w.heap.size) (u := ⟨n1, n2, n3⟩) HB.out (Nat.le_refl _)⟩
    · rw [if_neg (fun h => ht h.2)]
      have ht' : (T != l) = true := by simpa using ht
      have HNE := Lib.hid ht
      clear ht
      go_enter Tryd.func21, Tryd.ntmps21
      go_wp2_with (first
      | (go_at_call 38; (with_reducible refine (HC1 _).out.mono ?_); rintro e w1 ⟨rfl, hb⟩; have HZ := Lib.hid (HZ.out.below hb HZ.out.lt); have HB := Lib.hid (HB.out.trans (hb.mono HB.out.size)); clear hb)
      | (go_at_call 38; (with_reducible refine (HC2 _).out.mono ?_); rintro e w2 ⟨rfl, hb⟩; have HZ := Lib.hid (HZ.out.below hb HZ.out.lt); have HB := Lib.hid (HB.out.trans (hb.mono HB.out.size)); clear hb)
      | (go_at_call 39; (with_reducible refine (HN1 _ (HT.out.below HB.out)).out.mono ?_); rintro e w3 ⟨rfl, hb⟩; have HZ := Lib.hid (HZ.out.below hb HZ.out.lt); have HB := Lib.hid (HB.out.trans (hb.mono HB.out.size)); clear hb)
      | (go_at_call 39; (with_reducible refine (HN2 _ (HT.out.below HB.out)).out.mono ?_); rintro e w4 ⟨rfl, hb⟩; have HZ := Lib.hid (HZ.out.below hb HZ.out.lt); have HB := Lib.hid (HB.out.trans (hb.mono HB.out.size)); clear hb)
      | (go_at_call 39; (with_reducible refine (HN3 _ (HT.out.below HB.out)).out.mono ?_); rintro e w5 ⟨rfl, hb⟩; have HZ := Lib.hid ((HZ.out.below hb HZ.out.lt).alloc (sobj ⟨n1, n2, n3⟩)); have HX := Lib.hid (at_new w5 ⟨n1, n2, n3⟩); have HB := Lib.hid ((HB.out.trans (hb.mono HB.out.size)).alloc (Nat.le_trans HB.out.size hb.size) (sobj ⟨n1, n2, n3⟩)); clear hb)
      | (go_at_call 13; (with_reducible refine (HM _).out.mono ?_); rintro e w6 ⟨rfl, hb⟩; have HZ := Lib.hid (HZ.out.below hb HZ.out.lt); have HX := Lib.hid (HX.out.below hb HX.out.lt); have HB := Lib.hid (HB.out.trans (hb.mono HB.out.size)); clear hb; have z0 := HZ.out.c0; have z1 := HZ.out.c1; have z2 := HZ.out.c2; have y0 := HZ.out.f0; have y1 := HZ.out.f1; have y2 := HZ.out.f2; have hz := HZ.out.lt; have x0 := HX.out.c0; have x1 := HX.out.c1; have x2 := HX.out.c2; have hx := HX.out.lt)
      | (go_at_call 19; (with_reducible refine (HP _ (HT.out.below HB.out).pown).out.mono ?_); rintro e w7 ⟨rfl, hb⟩; have HZ := Lib.hid (HZ.out.below hb HZ.out.lt); have HX := Lib.hid (HX.out.below hb HX.out.lt); have HB := Lib.hid (HB.out.trans (hb.mono HB.out.size)); clear hb; have z0 := HZ.out.c0; have z1 := HZ.out.c1; have z2 := HZ.out.c2; have y0 := HZ.out.f0; have y1 := HZ.out.f1; have y2 := HZ.out.f2; have hz := HZ.out.lt; have x0 := HX.out.c0; have x1 := HX.out.c1; have x2 := HX.out.c2; have hx := HX.out.lt))
      · exact bodyPost_ret (res_two rfl _ rfl (HZ.out.setAll St.zero)) rfl ⟨rfl, below_set3 (b := w.heap.size) (u := St.zero) HB.out (Nat.le_refl _)⟩
      · rename_i hx9
        exact absurd (by simpa using hx9) HNE.out
end Go.Proofs.YtmpokhjchbaleaaDoor
