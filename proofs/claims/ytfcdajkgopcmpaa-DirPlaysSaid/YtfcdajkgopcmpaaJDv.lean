/- raceref.few, raceref.WeighTexts, racelaw14.few: keys that are few. Conditions: none. Groups of keys: how they lie in a map and in a row; a map of groups listed by its numbers; a set of keys. Conditions: none of its own. Groups of keys in plain terms; a set of keys in memory. Conditions: none of its own. The groups' map in memory; one key more. Conditions: no more than 2000 keys. Group. Conditions: keys that are no more than 2000 as far as all are keys. Groups of keys: how many keys they have, where each is routed to; how they are read in memory. Conditions: none of its own. -/
import Derived.Test.YtfcdajkgopcmpaaJDt
import Derived.Test.YtfcdajkgopcmpaaJRr
import Derived.RegionTactic
import Derived.Deep.RegionHeld
namespace Go.Proofs.Ytfcdajkgopcmpaa
open Go.ChangeShapes Go.WideShapes Go.ChangeAt Go.RowKit Go.Deep
def s0 : Str := ⟨⟨#[]⟩, by decide⟩
/-- Texts that came in, below block B. -/
abbrev KS (B : Nat) (w : World) (ao : Option Addr) (n cap : Nat) (l : List Str) : Prop := XB sv ⟨⟨#[]⟩, by decide⟩ B w ao n cap l
/-- As far as all are keys there are no more than 2000 of them. -/
def PK (l : List Str) : Prop := ∀ k, k ≤ l.length → (∀ s ∈ l.take k, keyB s.1 = true) → k ≤ 2000
theorem getD_at9 {α : Type} {l : List α} {k : Nat} (h : k < l.length) (d : α) : l.getD k d = l[k] := by rw [List.getD_eq_getElem?_getD, List.getElem?_eq_getElem h]; rfl
def fewM (n m : Int) : Int := if 2000 < m ∨ 2000 < n then 2001 else IntKind.i64.wrap (n + m)
theorem fewM_any (n m : Int) (w : World) :
    Calls Try.prog 44 #[.int .i64 n, .int .i64 m, .int .i64 2000] w fun e w' => e = .returned (.int .i64 (fewM n m)) ∧ w' = w := by
  by_cases h : 2000 < m
  · rw [show fewM n m = 2001 from if_pos (.inl h)]
    have h1 : m > 2000 := h
    clear h
    go_enter Try.func44, Try.ntmps44
    go_wp2
    go_ret
    exact ⟨rfl, rfl⟩
  · have h1 : ¬ m > 2000 := h
    by_cases h2 : 2000 < n
    · rw [show fewM n m = 2001 from if_pos (.inr h2)]
      have h3 : n > 2000 := h2
      clear h h2
      go_enter Try.func44, Try.ntmps44
      go_wp2
      go_ret
      exact ⟨rfl, rfl⟩
    · have h3 : ¬ n > 2000 := h2
      rw [show fewM n m = IntKind.i64.wrap (n + m) from if_neg (by omega)]
      clear h h2
      obtain ⟨q, hq⟩ : ∃ q, IntKind.i64.wrap (n + m) = q := ⟨_, rfl⟩
      rw [hq]
      go_enter Try.func44, Try.ntmps44
      go_wp2
      go_ret
      exact ⟨rfl, rfl⟩
theorem take_all {l : List Str} {k : Nat} (hk : k < l.length) (h : ∀ s ∈ l.take (k + 1), keyB s.1 = true) : (∀ s ∈ l.take k, keyB s.1 = true) ∧ keyB l[k].1 = true := by
  rw [List.take_succ_eq_append_getElem hk] at h
  exact ⟨fun s hs => h s (List.mem_append_left _ hs), h _ (List.mem_append_right _ (List.mem_singleton.2 rfl))⟩
/-- What the loop keeps to. -/
structure Wg (l : List Str) (k : Nat) (t : Int) : Prop where
  old : ∀ j, j < k → (∀ s ∈ l.take j, keyB s.1 = true) → j ≤ 2000
  now : (∀ s ∈ l.take k, keyB s.1 = true) → (k : Int) ≤ t
theorem Wg.zero (l : List Str) : Wg l 0 0 := ⟨fun _ hj => absurd hj (Nat.not_lt_zero _), fun _ => Int.le_refl _⟩
theorem Wg.step {l : List Str} {k : Nat} {t : Int} (h : Wg l k t) (hk : k < l.length) (ht : t ≤ 2000) : Wg l (k + 1) (fewM t (IntKind.i64.wrap (1 + (l[k].1.size : Int)))) := by
  refine ⟨fun j hj hs => ?_, fun hs => ?_⟩
  · by_cases e : j = k
    · subst e; have := h.now hs; omega
    · exact h.old j (by omega) hs
  · obtain ⟨h1, h2⟩ := take_all hk hs
    have h3 := h.now h1
    unfold keyB at h2
    simp only [Bool.and_eq_true, decide_eq_true_eq] at h2
    rw [show IntKind.i64.wrap (1 + (l[k].1.size : Int)) = 1 + (l[k].1.size : Int) from IntWalk.i64_in _ (by omega)]
    unfold fewM
    rw [if_neg (by omega), IntWalk.i64_in _ (by omega)]
    omega
theorem Wg.all {l : List Str} {t : Int} (h : Wg l l.length t) (ht : t ≤ 2000) : PK l := by
  intro k hk hs
  by_cases e : k = l.length
  · subst e; have := h.now hs; omega
  · exact h.old k (by omega) hs
section
variable {B n cap : Nat} {w : World} {ao : Option Addr} {l : List Str}
set_option maxRecDepth 100000 in
set_option maxHeartbeats 1000000 in
theorem weigh_any (h : KS B w ao n cap l) :
    Calls Try.prog 27 #[.slice ao n cap, .int .i64 2000] w fun e w' => ∃ R : Int, e = .returned (.int .i64 R) ∧ (R ≤ 2000 → PK l) ∧ w = w' := by
  have hlt := h.lt
  have HL := Lib.hid h.len
  have H := Lib.hid h
  clear h
  go_enter Try.func27, Try.ntmps27
  go_wp2
  go_loopw [5, 6] (fun s i wr => ∃ (k : Nat) (t : Int), k ≤ n ∧ i = .int .i64 k ∧ s = .int .i64 t ∧ Hid (Wg l k t) ∧ Hid (w = wr)) (fun _ i _ => n - (intOf i).toNat)
  case atStart => exact ⟨0, 0, Nat.zero_le _, rfl, rfl, Wg.zero l, Lib.hid rfl⟩
  case round =>
    obtain ⟨k, t, hk, rfl, rfl, HK, HE⟩ := hrel
    obtain rfl := HE.out
    by_cases hkn : k < n
    · have hkl : k < l.length := by rw [← HL.out]; exact hkn
      by_cases ht2 : t ≤ 2000
      · obtain ⟨b, off, rfl, c0⟩ := H.out.at_ hkn
        replace c0 := c0.trans (congrArg (fun s : Str => some (Value.string s.1)) (getD_at9 hkl _))
        have HS := Lib.hid (HK.out.step hkl ht2)
        generalize l[k] = s at *
        clear HK
        obtain ⟨q, hq⟩ : ∃ q, IntKind.i64.wrap (1 + (s.1.size : Int)) = q := ⟨_, rfl⟩
        have HM := fun w => Lib.hid (fewM_any t q w)
        rw [hq] at HS
        go_wp2_with (go_at_call 44; refine (HM _).out.mono ?_; rintro e w2 ⟨rfl, rfl⟩)
        go_roundw
        case rel => exact ⟨k + 1, _, by omega, by go_num, rfl, HS, trivial⟩
        case measure => simp [intOf]; omega
      · go_wp2
        go_ret
        exact ⟨t, rfl, fun e => absurd e (by omega), rfl⟩
    · obtain rfl : k = n := by omega
      have HR := Lib.hid (fun ht => (show Wg l l.length t by rw [← HL.out]; exact HK.out).all ht)
      go_wp2
      go_ret
      exact ⟨t, rfl, HR.out, rfl⟩
set_option maxRecDepth 100000 in
theorem few14_any (h : KS B w ao n cap l) (bo : Option Addr) (m bc : Nat) :
    Calls Try.prog 8 #[.slice ao n cap, .slice bo m bc] w fun e w' => ∃ b : Bool, e = .returned (.bool b) ∧ (b = true → m ≤ 100 ∧ PK l) ∧ w = w' := by
  have HW := Lib.hid (weigh_any h)
  clear h
  by_cases h2 : m ≤ 100
  · have h3 : decide ((m : Int) ≤ 100) = true := decide_eq_true (by omega)
    go_enter Try.func8, Try.ntmps8
    go_wp2_with (go_at_call 27; refine HW.out.mono ?_; rintro e w2 ⟨R, rfl, hp, rfl⟩; have HP := Lib.hid hp; clear hp)
    go_ret
    exact ⟨_, rfl, (fun e => ⟨h2, HP.out (by simpa using e)⟩), rfl⟩
  · have h3 : decide ((m : Int) ≤ 100) = false := decide_eq_false (by omega)
    have h5 : ¬ (m : Int) ≤ 100 := by omega
    go_enter Try.func8, Try.ntmps8
    go_wp2_with (fail)
    go_ret
    exact ⟨rfl, rfl⟩
end
end Go.Proofs.Ytfcdajkgopcmpaa
namespace Go.Proofs.Ytfcdajkgopcmpaa
open Go.ChangeShapes Go.WideShapes Go.ChangeAt Go.RowKit Go.Deep Go.Maps Go.Sort Go.Shelf
/-- A group: its range, its keys, the block in which these lie. -/
structure GV where
  r : RV
  ks : List ByteArray
  g : Nat
  cap : Nat
def strC (s : ByteArray) : Value := .string s
def GV.sl (e : GV) : Value := .slice (some ⟨e.g, 0, none⟩) e.ks.length e.cap
def GV.val (e : GV) : Value := .agg #[.int .i64 e.r.i, .int .i64 e.r.e, .float .f64 e.r.lo, .float .f64 e.r.hi, e.sl]
def gcells (e : GV) : List Value := [.int .i64 e.r.i, .int .i64 e.r.e, .float .f64 e.r.lo, .float .f64 e.r.hi, e.sl]
def cellsV (l : List GV) : List Value := l.flatMap gcells
def gdat (a b : Int) (c d g n cap : Nat) : DataW Unit := .agg [.lit (.int .i64 a), .lit (.int .i64 b), .lit (.float .f64 c), .lit (.float .f64 d), .lit (.int .i64 g), .lit (.int .i64 n), .lit (.int .i64 cap)]
def gzd (a b : Int) (c d : Nat) : DataW Unit := .agg [.lit (.int .i64 a), .lit (.int .i64 b), .lit (.float .f64 c), .lit (.float .f64 d)]
def groupE (v : Value) : Option (DataW Unit × List MemPlace) :=
  match v with
  | .agg cs => match cs.toList with
    | [.int .i64 a, .int .i64 b, .float .f64 c, .float .f64 d, .slice (some ⟨g, 0, none⟩) n cap] => some (gdat a b c d g n cap, [])
    | [.int .i64 a, .int .i64 b, .float .f64 c, .float .f64 d, .slice none 0 0] => some (gzd a b c d, [])
    | _ => none
  | _ => none
theorem gdat_inj {a b a' b' : Int} {c d g n cap c' d' g' n' cap' : Nat} (h : gdat a b c d g n cap = gdat a' b' c' d' g' n' cap') : a = a' ∧ b = b' ∧ c = c' ∧ d = d' ∧ g = g' ∧ n = n' ∧ cap = cap' := by
  unfold gdat at h
  simp only [DataW.agg.injEq, List.cons.injEq, DataW.lit.injEq, Lit.int.injEq, Lit.float.injEq, true_and, and_true] at h
  omega
theorem gzd_inj {a b a' b' : Int} {c d c' d' : Nat} (h : gzd a b c d = gzd a' b' c' d') : a = a' ∧ b = b' ∧ c = c' ∧ d = d' := by
  unfold gzd at h
  simp only [DataW.agg.injEq, List.cons.injEq, DataW.lit.injEq, Lit.int.injEq, Lit.float.injEq, true_and, and_true] at h
  exact h
theorem groupE_inv {v : Value} {e : GV} {ps : List MemPlace} (h : groupE v = some (gdat e.r.i e.r.e e.r.lo e.r.hi e.g e.ks.length e.cap, ps)) : v = e.val := by
  unfold groupE at h
  split at h
  · rename_i cs
    split at h
    · rename_i a b c d g n cap hcs
      injection h with h
      injection h with h1 _
      obtain ⟨rfl, rfl, rfl, rfl, rfl, rfl, rfl⟩ := gdat_inj h1
      show Value.agg cs = Value.agg #[_, _, _, _, _]
      unfold GV.sl
      rw [← hcs]
    · injection h with h
      injection h with h1 _
      unfold gzd gdat at h1
      simp at h1
    · cases h
  · cases h
theorem groupE_zero {v : Value} {ps : List MemPlace} (h : groupE v = some (gzd 0 0 0 0, ps)) : v = .agg #[.int .i64 0, .int .i64 0, .float .f64 0, .float .f64 0, .slice none 0 0] := by
  unfold groupE at h
  split at h
  · rename_i cs
    split at h
    · injection h with h
      injection h with h1 _
      unfold gzd gdat at h1
      simp at h1
    · rename_i a b c d hcs
      injection h with h
      injection h with h1 _
      obtain ⟨rfl, rfl, rfl, rfl⟩ := gzd_inj h1
      rw [← hcs]
    · cases h
  · cases h
/-- How groups lie in a map. -/
def GR : Rdr GV where
  key e := e.r.i
  val := GV.val
  dat e := gdat e.r.i e.r.e e.r.lo e.r.hi e.g e.ks.length e.cap
  rd := groupE
  zv := .agg #[.int .i64 0, .int .i64 0, .float .f64 0, .float .f64 0, .slice none 0 0]
  zd := gzd 0 0 0 0
  mkv _ := rfl
  mkz := rfl
  inv := groupE_inv
  invz := groupE_zero
theorem under_gmap : Try.prog.underlying 77 = some (.map 3 52) := by kernel_rfl
theorem zero_group (w : World) : (zeroValue 52).run Try.prog w = .ok GR.zv w := by kernel_rfl
theorem info52 : (Try.prog.info? 52).map (fun i => (i.zero, i.size, i.bytes)) = some (some (.agg #[.int .i64 0, .int .i64 0, .float .f64 0, .float .f64 0, .slice none 0 0]), 5, 56) := by kernel_rfl
theorem info52s : ∃ i0, Try.prog.info? 52 = some i0 ∧ i0.zero = some (.agg #[.int .i64 0, .int .i64 0, .float .f64 0, .float .f64 0, .slice none 0 0]) ∧ i0.size = 5 ∧ i0.bytes = 56 := by
  obtain ⟨i0, h1, h2⟩ := Option.map_eq_some_iff.1 info52
  simp only [Prod.mk.injEq] at h2
  exact ⟨i0, h1, h2.1, h2.2.1, h2.2.2⟩
abbrev gobj (e : GV) : Obj := .cells #[.int .i64 e.r.i, .int .i64 e.r.e, .float .f64 e.r.lo, .float .f64 e.r.hi, e.sl] 52
theorem cellsV_one (e : GV) : ∀ u ∈ cellsV [e], u.oneCell' = true := by
  intro u hu
  simp [cellsV, gcells] at hu
  rcases hu with rfl | rfl | rfl | rfl | rfl <;> rfl
theorem news_group (w : World) (e : GV) : ∀ j u, (cellsV [e])[j]? = some u → (w.alloc (gobj e)).cell? ((⟨w.heap.size, 0, none⟩ : Addr).add j) = some u := by
  intro j u hu
  rw [Addr.add_lit]
  match j, hu with
  | 0, hu => simp [cellsV, gcells] at hu; subst hu; simp [World.cell?_alloc_new]
  | 1, hu => simp [cellsV, gcells] at hu; subst hu; simp [World.cell?_alloc_new]
  | 2, hu => simp [cellsV, gcells] at hu; subst hu; simp [World.cell?_alloc_new]
  | 3, hu => simp [cellsV, gcells] at hu; subst hu; simp [World.cell?_alloc_new]
  | 4, hu => simp [cellsV, gcells] at hu; subst hu; simp [World.cell?_alloc_new]
  | j + 5, hu => simp [cellsV, gcells] at hu
theorem cellsV_snoc (l : List GV) (e : GV) : cellsV (l ++ [e]) = cellsV l ++ cellsV [e] := by simp [cellsV]
section
variable {w w' : World} {m : Nat} {L : List GV}
theorem maps_keysG (mb : Option Nat) (W : World) : CallsIn Fence.wide 5 Try.prog 50 #[.map mb] W fun e w' => e = .returned (.func (.func 61) #[] #[.pointer (some ⟨W.heap.size, 0, none⟩)]) ∧ w' = W.alloc (.cells #[.map mb] 77) :=
  AnyZI.keys_in Try.keys50 Fence.wide 5 trivial rfl mb W
set_option maxHeartbeats 1000000 in
theorem sorted_keysG {H : Type} (b nn : Nat) (D0 : DataW H) (R : Value → Option (DataW H × List MemPlace)) (w : World) (hown : w.ownsMap Try.prog 3 R b nn D0) (hmax : Maps.size D0 ≤ maxLen) (hbytes : Maps.size D0 * 8 ≤ 140737488355328) :
    CallsIn Fence.wide 5 Try.prog 49 #[.func (.func 61) #[] #[.pointer (some ⟨w.heap.size, 0, none⟩)]] (w.alloc (.cells #[.map (some b)] 77)) fun e w' => ∃ (v : Value) (ss : List Int), e = .returned v ∧ ss.Perm (intKeys D0) ∧
      w'.ownsRow (w.alloc (.cells #[.map (some b)] 77)).heap.size 3 1 v ss.length ((ss.mergeSort (fun x y => decide (x ≤ y))).map encZ) ∧ (v = .slice none 0 0 ↔ ss = []) ∧ Below (w.alloc (.cells #[.map (some b)] 77)).heap.size (w.alloc (.cells #[.map (some b)] 77)) w' := by
  have hbl := hown.lt
  have hseq : SeqGives Fence.wide 2 Try.prog 61 #[.pointer (some ⟨w.heap.size, 0, none⟩)] encZ (fun ss => ss.Perm (intKeys D0)) (Maps.size D0) (w.alloc (.cells #[.map (some b)] 77)) :=
    AnyZI.keys_gives (ρ := Try.keys50_ren) { Try.keys50 with } Fence.wide _ trivial rfl (by omega) w.heap.size b nn D0 _ (by simp) (by simp) (by
      obtain ⟨es, clock, hb, Ft, hs, hD⟩ := hown
      exact ⟨es, clock, (Below.heap_alloc _ _ b hbl).trans hb, Ft, hs, hD⟩)
  exact AnyZI.sorted_in Try.sorted49 Fence.wide 5 trivial trivial trivial trivial rfl (by omega) (sortsI _) (enters_of Try.func60 (by kernel_rfl) rfl) 61 #[.pointer (some ⟨w.heap.size, 0, none⟩)] trivial (enters_of Try.func61 (by kernel_rfl) rfl) _ _ hmax hbytes _ hseq
theorem keys_dmapG (L : List GV) : intKeys (dmapG GR L) = L.map (·.r.i) := by
  unfold intKeys dmapG
  simp [entG, Function.comp_def]
  exact fun a _ => rfl
theorem sort_idsG {L : List GV} (h : RiseG GR L) {ss : List Int} (hp : ss.Perm (L.map (·.r.i))) : ss.mergeSort (fun x y => decide (x ≤ y)) = L.map (·.r.i) := by
  refine List.Perm.eq_of_pairwise (le := fun a b : Int => a ≤ b) (fun a b _ _ h1 h2 => Int.le_antisymm h1 h2) ?_ ?_ ((List.mergeSort_perm ss _).trans hp)
  · have := List.pairwise_mergeSort (le := fun x y : Int => decide (x ≤ y)) (fun a b c h1 h2 => by simp at *; omega) (fun a b => by simp; omega) ss
    exact this.imp fun h => by simpa using h
  · rw [List.pairwise_map]
    exact h.imp fun h => Int.le_of_lt h
theorem sorted_anyG (h : MG GR w m L) (hr : RiseG GR L) (h12 : L.length ≤ 12) :
    Calls Try.prog 49 #[.func (.func 61) #[] #[.pointer (some ⟨w.heap.size, 0, none⟩)]] (w.alloc (.cells #[.map (some m)] 77)) fun e w' =>
      ∃ kao kcap, e = .returned (.slice kao L.length kcap) ∧ w'.ownsRow (w.heap.size + 1) 3 1 (.slice kao L.length kcap) (L.map (·.r.i)).length ((L.map (·.r.i)).map encZ) ∧ Below w.heap.size w w' := by
  refine ((callsIn_wide (n := 5)).1 (sorted_keysG m _ _ GR.rd w h (by rw [size_dmapG]; unfold maxLen; omega) (by rw [size_dmapG]; omega))).mono ?_
  rintro e w3 ⟨u, ss, rfl, hS, hrow, _, hb⟩
  rw [keys_dmapG] at hS
  rw [sort_idsG hr hS, hS.length_eq] at hrow
  obtain ⟨kao, kcap, rfl⟩ := own_slice hrow
  rw [List.length_map] at hrow ⊢
  refine ⟨kao, kcap, rfl, ?_, ((Below.refl _ w).alloc (Nat.le_refl _) _).trans (hb.mono (by simp))⟩
  simpa using hrow
set_option maxRecDepth 100000 in
set_option maxHeartbeats 4000000 in
theorem ascG_any (h : MG GR w m L) (hr : RiseG GR L) (hid : ∀ q ∈ L, mayV q.r = true) (h12 : L.length ≤ 12) :
    Calls Try.prog 36 #[.map (some m)] w fun e w' => ∃ ao cap, e = .returned (.slice ao L.length cap) ∧ w'.ownsRow w.heap.size 52 5 (.slice ao L.length cap) L.length (cellsV L) ∧ Below w.heap.size w w' := by
  obtain ⟨i0, hi, hz0, hz1, hz2⟩ := info52s
  have HM := Lib.hid h
  have HRS := Lib.hid hr
  have HMY := Lib.hid hid
  have hln := World.ownsMap.len h under_gmap
  rw [size_dmapG] at hln
  obtain ⟨n, hn⟩ : ∃ n, L.length = n := ⟨_, rfl⟩
  have HN := Lib.hid hn
  have HSRT0 := fun ww (hh : MG GR ww m L) => sorted_anyG hh hr h12
  rw [hn] at hln h12 HSRT0 ⊢
  have HMK := fun ww : World => Lib.hid (run_make_own ww ww.heap.size 41 52 i0 _ 5 Try.underlying41 hi hz0 hz1 .i64 .i64 n (by rw [hz2]; omega) (by unfold maxLen; omega) (Nat.le_refl _))
  obtain ⟨w1, hmk, ho1, hg1⟩ := (HMK w).out
  have HO1 := Lib.hid ho1
  have HB1 : Hid (Below w.heap.size w w1) := Lib.hid ((Below.refl _ w).grown hg1 (Nat.le_refl _) (fun k hk => by cases hk))
  have HSRT := Lib.hid (HSRT0 w1 (HM.out.below HB1.out))
  have HMT : Hid (m < w.heap.size) := Lib.hid h.lt
  clear h hr hid hn ho1 hg1 HMK HSRT0
  go_enter Try.func36, Try.ntmps36
  go_wp2_with (first
    | (go_at_call 50; refine ((callsIn_wide (n := 5)).1 (maps_keysG _ _)).mono ?_; rintro e w2 ⟨rfl, rfl⟩)
    | (go_at_call 49; refine HSRT.out.mono ?_; rintro e w3 ⟨kao, kcap, rfl, hrow, hb⟩; have HKR := Lib.hid hrow; have HB2 := Lib.hid hb; clear hrow hb))
  go_loopw [3, 13] (fun vs vi wr => ∃ k : Nat, vi = .int .i64 k ∧ k ≤ n ∧ Hid (wr.ownsRow w.heap.size 52 5 vs k (cellsV (L.take k))) ∧ Hid (MG GR wr m L) ∧ Hid (wr.ownsRow (w1.heap.size + 1) 3 1 (.slice kao n kcap) (L.map (·.r.i)).length ((L.map (·.r.i)).map encZ)) ∧ Hid (Below w.heap.size w wr)) (fun _ vi _ => n - (RowKit.intOf vi).toNat)
  case atStart =>
    refine ⟨0, rfl, Nat.zero_le _, Lib.hid ?_, Lib.hid ((HM.out.below HB1.out).below HB2.out), HKR, Lib.hid (HB1.out.trans (HB2.out.mono HB1.out.size))⟩
    exact own_mono (own_below HO1.out HB2.out) (Nat.le_refl _)
  case round =>
    obtain ⟨k, rfl, hk, HO, HMr, HKr, HW⟩ := hrel
    by_cases hlt : k < n
    · have hlt2 : (k : Int) < (n : Int) := by omega
      have hkl : k < L.length := by rw [HN.out]; exact hlt
      obtain ⟨g, cap, e9, hkc⟩ := keys_row HKr.out (k := k) (by rw [List.length_map]; exact hkl)
      rw [List.getElem_map] at hkc
      simp only [Value.slice.injEq] at e9
      obtain ⟨rfl, h9, rfl⟩ := e9
      clear h9
      have hfd := HMr.out.find under_gmap (zero_group wr) (id_wide (HMY.out _ (List.getElem_mem hkl)))
      rw [show getG GR L (L[k].r.i) = some L[k] from getG_mem GR HRS.out (List.getElem_mem hkl)] at hfd
      have HT : Hid (L.take (k + 1) = L.take k ++ [L[k]]) := Lib.hid (List.take_succ_eq_append_getElem hkl)
      have hs := HW.out.size
      replace hfd : (Instr.lookup 77 (.map (some m)) (.int .i64 L[k].r.i) false).run Try.prog wr = .ok L[k].val wr := hfd
      obtain ⟨q, hq⟩ : ∃ q, L[k] = q := ⟨_, rfl⟩
      rw [hq] at hfd hkc HT
      clear hkl hq
      obtain ⟨⟨q1, q2, q3, q4⟩, qk, qg, qc⟩ := q
      have HNW := Lib.hid (news_group wr ⟨⟨q1, q2, q3, q4⟩, qk, qg, qc⟩)
      have HCO := Lib.hid (cellsV_one ⟨⟨q1, q2, q3, q4⟩, qk, qg, qc⟩)
      simp only at hfd hkc
      unfold GV.val GV.sl at hfd
      dsimp only [gobj, GV.sl] at HNW
      simp only at hfd
      go_wp2_with (first
        | (at_builtin; refine wpList_append_own _ rfl (.tmp 17) (.tmp 21) 41 rfl w.heap.size 52 i0 _ 5 56 Try.underlying41 hi hz0 hz1 hz2 rfl (by decide) _ k _ rfl (HO.out.alloc _) ⟨wr.heap.size, 0, none⟩ 1 1 (cellsV [⟨⟨q1, q2, q3, q4⟩, qk, qg, qc⟩]) rfl rfl HNW.out HCO.out (by unfold maxLen; omega) (by omega) (by simp; omega) ?_; intro v2 w2 hown hg _; have HO2 := Lib.hid hown; have HG2 := Lib.hid hg; clear hown hg))
      have HT2 : Hid (Tn (fun b => u3.ownBlock = some b) wr w2) := Lib.hid (((Tn.refl _ wr).alloc _).grown HG2.out (fun k hk _ => hk))
      have HM2 : Hid (MG GR w2 m L) := Lib.hid (HMr.out.tn HT2.out (fun e => by have := (HO.out.lt m e).1; have := HMT.out; omega))
      have HK2 := Lib.hid (own_tn HKr.out HT2.out (own_apart HKr.out HO.out (by decide)))
      have HW2 : Hid (Below w.heap.size w w2) := Lib.hid ((HW.out.alloc hs _).grown HG2.out (by simp; omega) (fun k hk => (HO.out.lt k hk).1))
      go_roundw
      case rel => exact ⟨k + 1, by go_num, by omega, by rw [HT.out, cellsV_snoc]; exact HO2, HM2, HK2, HW2⟩
      case measure => simp [RowKit.intOf]; omega
    · obtain rfl : k = n := by omega
      have e : L.take k = L := List.take_of_length_le (by rw [HN.out]; exact Nat.le_refl _)
      rw [e] at HO
      obtain ⟨ao, cap, rfl⟩ := own_slice HO.out
      go_wp2
      go_ret
      exact ⟨ao, cap, rfl, HO.out, HW.out⟩
end
end Go.Proofs.Ytfcdajkgopcmpaa
namespace Go.Proofs.Ytfcdajkgopcmpaa
open Go.ChangeShapes Go.WideShapes Go.ChangeAt Go.RowKit Go.Deep
instance decBytes : DecidableEq ByteArray := fun a b => decidable_of_iff (a.data = b.data) ⟨fun h => by cases a; cases b; simp at h; rw [h], fun h => by rw [h]⟩
instance decMem (s : ByteArray) (l : List ByteArray) : Decidable (s ∈ l) := @List.instDecidableMemOfLawfulBEq _ (@instBEqOfDecidableEq _ decBytes) inferInstance s l
/-- A key's error. -/
def errS (L : List RV) (s : ByteArray) : Int := if keyB s = false then 10 else if (routeL L s).2 = false then 8 else 0
def errK (L : List RV) (ks : List ByteArray) : Int := match ks.find? (fun s => errS L s != 0) with | some s => errS L s | none => 0
def dist (ks : List ByteArray) : List ByteArray := ks.foldl (fun acc s => if s ∈ acc then acc else acc ++ [s]) []
def grp (L : List RV) (D : List ByteArray) (r : RV) : List ByteArray := D.filter (fun s => (routeL L s).1.i == r.i)
def groupsL (L : List RV) (D : List ByteArray) : List (RV × List ByteArray) := (L.map fun r => (r, grp L D r)).filter (fun p => !p.2.isEmpty)
theorem errK_at {L : List RV} {ks : List ByteArray} {i : Nat} (hi : i < ks.length) (h : ∀ s ∈ ks.take i, errS L s = 0) (hb : errS L ks[i] ≠ 0) : errK L ks = errS L ks[i] := by
  have e : ks = ks.take i ++ ks[i] :: ks.drop (i + 1) := by rw [← List.drop_eq_getElem_cons hi, List.take_append_drop]
  have hf : ks.find? (fun s => errS L s != 0) = some ks[i] := by
    generalize ks[i] = s at e hb ⊢
    rw [e, List.find?_append, List.find?_eq_none.2 (fun x hx => by rw [h x hx]; decide), List.find?_cons_of_pos (by simpa using hb)]
    rfl
  unfold errK
  rw [hf]
theorem errK_none {L : List RV} {ks : List ByteArray} (h : ∀ s ∈ ks, errS L s = 0) : errK L ks = 0 := by
  unfold errK
  rw [List.find?_eq_none.2 (fun x hx => by rw [h x hx]; decide)]
theorem errS_zero {L : List RV} {s : ByteArray} (h1 : keyB s = true) (h2 : (routeL L s).2 = true) : errS L s = 0 := by
  unfold errS
  rw [h1, h2]
  rfl
theorem errS_ok {L : List RV} {s : ByteArray} (h : errS L s = 0) : keyB s = true ∧ (routeL L s).2 = true := by
  unfold errS at h
  cases h1 : keyB s with
  | false => rw [h1] at h; simp at h
  | true =>
    cases h2 : (routeL L s).2 with
    | false => rw [h1, h2] at h; simp at h
    | true => exact ⟨rfl, rfl⟩
theorem dist_take {ks : List ByteArray} {i : Nat} (h : i < ks.length) : dist (ks.take (i + 1)) = if ks[i] ∈ dist (ks.take i) then dist (ks.take i) else dist (ks.take i) ++ [ks[i]] := by
  unfold dist
  rw [foldl_take h]
theorem mem_dist : ∀ (ks acc : List ByteArray) (x : ByteArray), x ∈ ks.foldl (fun acc s => if s ∈ acc then acc else acc ++ [s]) acc ↔ x ∈ acc ∨ x ∈ ks
  | [], acc, x => by simp
  | s :: ks, acc, x => by
    rw [List.foldl_cons, mem_dist ks]
    by_cases h : s ∈ acc
    · rw [if_pos h]
      constructor
      · rintro (h1 | h1)
        · exact .inl h1
        · exact .inr (List.mem_cons_of_mem _ h1)
      · rintro (h1 | h1)
        · exact .inl h1
        · rcases List.mem_cons.1 h1 with rfl | h1
          · exact .inl h
          · exact .inr h1
    · rw [if_neg h]
      rw [List.mem_append, List.mem_cons (a := x) (b := s) (l := ks)]
      have e : x ∈ [s] ↔ x = s := by simp
      rw [e, or_assoc]
theorem dist_mem {ks : List ByteArray} {x : ByteArray} : x ∈ dist ks ↔ x ∈ ks := by
  unfold dist
  rw [mem_dist]
  simp
theorem dist_len : ∀ (ks acc : List ByteArray), (ks.foldl (fun acc s => if s ∈ acc then acc else acc ++ [s]) acc).length ≤ acc.length + ks.length
  | [], acc => by simp
  | s :: ks, acc => by
    rw [List.foldl_cons]
    refine Nat.le_trans (dist_len ks _) ?_
    split <;> simp <;> omega
theorem grp_snoc (L : List RV) (D : List ByteArray) (s : ByteArray) (r : RV) : grp L (D ++ [s]) r = grp L D r ++ if (routeL L s).1.i = r.i then [s] else [] := by
  unfold grp
  rw [List.filter_append]
  congr 1
  by_cases h : (routeL L s).1.i = r.i
  · simp [h]
  · simp [h]
/-- The groups that stand so far. -/
structure GI (L : List RV) (D : List ByteArray) (G : List GV) : Prop where
  rise : RiseG GR G
  mem : ∀ e ∈ G, e.r ∈ L ∧ e.ks = grp L D e.r ∧ e.ks ≠ []
  all : ∀ r ∈ L, grp L D r ≠ [] → ∃ e ∈ G, e.r = r
theorem rise_one {L : List RV} (h : Rise L) {a b : RV} (ha : a ∈ L) (hb : b ∈ L) (e : a.i = b.i) : a = b := by
  have h1 := getL_mem h ha
  have h2 := getL_mem h hb
  rw [e, h2] at h1
  exact (Option.some.inj h1).symm
theorem GI.zero (L : List RV) : GI L [] [] := ⟨List.Pairwise.nil, (fun e h => by cases h), fun r _ h => absurd rfl h⟩
theorem GI.few {L : List RV} {D : List ByteArray} {G : List GV} (h : GI L D G) (hm : ∀ q ∈ L, mayV q = true) : G.length ≤ 12 := by
  have key : ∀ (G : List GV) (lo : Int), RiseG GR G → (∀ q ∈ G, lo < q.r.i ∧ q.r.i ≤ 12) → (G.length : Int) ≤ 12 - lo ∨ G = [] := by
    intro G
    induction G with
    | nil => intro lo _ _; exact .inr rfl
    | cons r G ih =>
      intro lo hr hq
      have h1 := hq r List.mem_cons_self
      have h2 := List.pairwise_cons.1 hr
      rcases ih r.r.i h2.2 (fun q hq2 => ⟨h2.1 q hq2, (hq q (List.mem_cons_of_mem _ hq2)).2⟩) with h | h
      · left; rw [List.length_cons]; omega
      · left; subst h; simp; omega
  rcases key G 0 h.rise (fun q hq => by obtain ⟨_, _, _, h1, h2, _⟩ := may_pts (hm _ (h.mem q hq).1); omega) with h | h
  · omega
  · subst h; simp
/-- One more key. -/
theorem GI.step {L : List RV} {D : List ByteArray} {G : List GV} (h : GI L D G) (hL : Rise L) {s : ByteArray} {r : RV} (hr : r ∈ L) (hs : (routeL L s).1 = r) (g cap : Nat) :
    GI L (D ++ [s]) (updG GR G ⟨r, grp L D r ++ [s], g, cap⟩) := by
  refine ⟨rise_updG GR h.rise _, fun e he => ?_, fun q hq hn => ?_⟩
  · rcases (mem_updG GR).1 he with rfl | ⟨he, hne⟩
    · refine ⟨hr, ?_, by simp⟩
      show grp L D r ++ [s] = grp L (D ++ [s]) r
      rw [grp_snoc, if_pos (by rw [hs])]
    · obtain ⟨h1, h2, h3⟩ := h.mem e he
      refine ⟨h1, ?_, h3⟩
      rw [grp_snoc, hs, if_neg (fun e2 => hne e2.symm), List.append_nil]
      exact h2
  · by_cases e : r = q
    · subst e
      exact ⟨_, (mem_updG GR).2 (.inl rfl), rfl⟩
    · rw [grp_snoc, hs, if_neg (fun e2 => e (rise_one hL hr hq e2)), List.append_nil] at hn
      obtain ⟨x, hx, hxr⟩ := h.all q hq hn
      exact ⟨x, (mem_updG GR).2 (.inr ⟨hx, fun e2 => e (rise_one hL hr hq (by rw [← hxr]; exact e2.symm))⟩), hxr⟩
theorem GI.old {L : List RV} {D : List ByteArray} {G : List GV} (h : GI L D G) (hL : Rise L) {r : RV} (hr : r ∈ L) : (getG GR G r.i = none ∧ grp L D r = []) ∨ ∃ e, getG GR G r.i = some e ∧ e ∈ G ∧ e.r = r ∧ e.ks = grp L D r := by
  cases hg : getG GR G r.i with
  | none =>
    refine .inl ⟨rfl, ?_⟩
    by_cases hn : grp L D r = []
    · exact hn
    · obtain ⟨e, he, rfl⟩ := h.all r hr hn
      exact absurd rfl (getG_none GR hg e he)
  | some e =>
    obtain ⟨he, hk⟩ := getG_some GR hg
    obtain ⟨h1, h2, _⟩ := h.mem e he
    have : e.r = r := rise_one hL h1 hr hk
    exact .inr ⟨e, rfl, he, this, by rw [h2, this]⟩
theorem pair_ext {T : Type} (key : T → Int) : ∀ {L M : List T}, L.Pairwise (fun a b => key a < key b) → M.Pairwise (fun a b => key a < key b) → (∀ q, q ∈ L ↔ q ∈ M) → L = M
  | [], [], _, _, _ => rfl
  | [], b :: M, _, _, h => absurd ((h b).2 List.mem_cons_self) List.not_mem_nil
  | a :: L, [], _, _, h => absurd ((h a).1 List.mem_cons_self) List.not_mem_nil
  | a :: L, b :: M, hL, hM, h => by
    have ha := List.pairwise_cons.1 hL
    have hb := List.pairwise_cons.1 hM
    have e : a = b := by
      rcases List.mem_cons.1 ((h a).1 List.mem_cons_self) with e | h1
      · exact e
      · rcases List.mem_cons.1 ((h b).2 List.mem_cons_self) with e | h2
        · exact e.symm
        · have := hb.1 a h1; have := ha.1 b h2; omega
    subst e
    congr 1
    refine pair_ext key ha.2 hb.2 fun q => ?_
    constructor
    · intro hq
      rcases List.mem_cons.1 ((h q).1 (List.mem_cons_of_mem _ hq)) with rfl | h1
      · have := ha.1 q hq; omega
      · exact h1
    · intro hq
      rcases List.mem_cons.1 ((h q).2 (List.mem_cons_of_mem _ hq)) with rfl | h1
      · have := hb.1 q hq; omega
      · exact h1
/-- What comes of it. -/
theorem GI.view {L : List RV} {D : List ByteArray} {G : List GV} (h : GI L D G) (hL : Rise L) : G.map (fun e => (e.r, e.ks)) = groupsL L D := by
  refine pair_ext (fun p : RV × List ByteArray => p.1.i) ?_ ?_ fun p => ?_
  · rw [List.pairwise_map]; exact h.rise
  · refine List.Pairwise.sublist List.filter_sublist ?_
    rw [List.pairwise_map]; exact hL
  · unfold groupsL
    rw [List.mem_filter, List.mem_map, List.mem_map]
    constructor
    · rintro ⟨e, he, rfl⟩
      obtain ⟨h1, h2, h3⟩ := h.mem e he
      exact ⟨⟨e.r, h1, by rw [h2]⟩, by simpa using h3⟩
    · rintro ⟨⟨r, hr, rfl⟩, hn⟩
      obtain ⟨e, he, rfl⟩ := h.all r hr (by simpa using hn)
      exact ⟨e, he, by rw [(h.mem e he).2.1]⟩
/-- Keys of two groups differ. -/
theorem GI.key {L : List RV} {D : List ByteArray} {G : List GV} (h : GI L D G) {e : GV} (he : e ∈ G) {s : ByteArray} (hs : s ∈ e.ks) : (routeL L s).1.i = e.r.i := by
  rw [(h.mem e he).2.1] at hs
  simpa using (List.mem_filter.1 hs).2
theorem GI.same {L : List RV} {D : List ByteArray} {G : List GV} (h : GI L D G) {e f : GV} (he : e ∈ G) (hf : f ∈ G) (hi : e.r.i = f.r.i) : e = f := by
  have h1 : getG GR G e.r.i = some e := getG_mem GR h.rise he
  have h2 : getG GR G f.r.i = some f := getG_mem GR h.rise hf
  rw [hi, h2] at h1
  exact (Option.some.inj h1).symm
/-- A set of keys as it lies in memory. -/
def unitE (v : Value) : Option (DataW Unit × List MemPlace) :=
  match v with
  | .agg cs => match cs.toList with
    | [] => some (.agg [], [])
    | _ => none
  | _ => none
theorem unitE_inv {v : Value} {x : DataW Unit × List MemPlace} (h : unitE v = some x) : v = .agg #[] := by
  unfold unitE at h
  split at h
  · rename_i cs
    split at h
    · rename_i hcs
      rw [show cs = #[] from by simpa using hcs]
    · cases h
  · cases h
def PM (w : World) (m : Nat) (D : List ByteArray) : Prop := ∃ n D0, w.ownsMap Try.prog 9 unitE m n D0 ∧ Maps.IsMap D0 ∧ n ≤ D.length ∧ ∀ s : ByteArray, Maps.has D0 (.string s.data.toList) = decide (s ∈ D)
theorem under_set : Try.prog.underlying 78 = some (.map 9 79) := by kernel_rfl
theorem law_str : Maps.Keyed Try.prog 9 := Maps.string_keyed Try.underlying9
theorem zero_unit (w : World) : (zeroValue 79).run Try.prog w = .ok (.agg #[]) w := by kernel_rfl
theorem key_str {s : ByteArray} (h : s.size ≤ maxLen) : keyOf Try.prog 9 (.string s) = some (.string s.data.toList) := WideMaps.keyOf_string_mk Try.underlying9 h
theorem PM.tn {S : Nat → Prop} {w w' : World} {m : Nat} {D : List ByteArray} (h : PM w m D) (ht : Tn S w w') (hm : ¬ S m) : PM w' m D := by
  obtain ⟨n, D0, ⟨es, clock, hb, r⟩, h2⟩ := h
  exact ⟨n, D0, ⟨es, clock, ht.at_ hb hm, r⟩, h2⟩
theorem PM.below {w w' : World} {m : Nat} {D : List ByteArray} (h : PM w m D) (hb : Below w.heap.size w w') : PM w' m D := h.tn (Tn.of_below (S := fun _ => False) hb) (fun e => e)
theorem PM.lt {w : World} {m : Nat} {D : List ByteArray} (h : PM w m D) : m < w.heap.size := by
  obtain ⟨n, D0, ⟨es, clock, hb, _⟩, _⟩ := h
  exact (Array.getElem?_eq_some_iff.1 hb).1
theorem pm_new (w : World) : PM (w.alloc (.map #[] 0)) w.heap.size [] :=
  ⟨0, .map [], World.ownsMap_made w Try.prog 9 unitE, ⟨[], rfl⟩, Nat.le_refl _, fun _ => by simp [Maps.has_eq]⟩
theorem PM.look {w : World} {m : Nat} {D : List ByteArray} (h : PM w m D) {s : ByteArray} (hs : s.size ≤ maxLen) :
    (Instr.lookup 78 (.map (some m)) (.string s) true).run Try.prog w = .ok (.tuple #[.agg #[], .bool (decide (s ∈ D))]) w := by
  obtain ⟨n, D0, ho, _, _, hh⟩ := h
  obtain ⟨v, ps, hrun, hv⟩ := World.ownsMap.look_ok ho law_str under_set (zero_unit w) (zd := .agg []) (zp := []) rfl (key_str hs)
  rw [hh, unitE_inv hv] at hrun
  exact hrun
theorem str_ne {s t : ByteArray} (h : t ≠ s) : (Lit.string t.data.toList) ≠ (Lit.string s.data.toList) := by
  intro e
  injection e with e
  apply h
  obtain ⟨⟨a⟩⟩ := s
  obtain ⟨⟨b⟩⟩ := t
  simp at e
  subst e
  rfl
theorem PM.store {w : World} {m : Nat} {D : List ByteArray} (h : PM w m D) (hl : D.length < maxLen) {s : ByteArray} (hs : s.size ≤ maxLen) :
    ∃ w', (Instr.mapUpdate 78 (.map (some m)) (.string s) (.agg #[])).run Try.prog w = .ok () w' ∧ PM w' m (D ++ [s]) ∧ Tn (· = m) w w' := by
  obtain ⟨n, D0, ho, hi, hn, hh⟩ := h
  obtain ⟨w', h1, h2, h3⟩ := World.ownsMap.store ho law_str under_set (by omega) (key_str hs) (show unitE (.agg #[]) = some (.agg [], []) from rfl)
  have hg := h3.grown
  refine ⟨w', h1, ⟨n + 1, _, h2, hi.put _ _, by simp; omega, fun t => ?_⟩, ⟨hg.os, hg.tape, hg.output, hg.size, fun k hk hne => hg.block k hk (fun e => hne (Option.some.inj e))⟩⟩
  by_cases e : t = s
  · subst e
    rw [Maps.has_put_same hi (by trivial)]
    simp
  · rw [Maps.has_put_other (str_ne e), hh]
    simp [e]
end Go.Proofs.Ytfcdajkgopcmpaa
namespace Go.Proofs.Ytfcdajkgopcmpaa
open Go.ChangeShapes Go.WideShapes Go.ChangeAt Go.RowKit Go.Deep
structure GM (base : Nat) (w : World) (mg : Nat) (G : List GV) : Prop where
  map : MG GR w mg G
  rows : ∀ e ∈ G, w.ownsRow base 9 1 e.sl e.ks.length (e.ks.map strC)
section
variable {base mg : Nat} {w w' wr : World} {G : List GV} {L : List RV} {D : List ByteArray} {r : RV} {s : ByteArray}
theorem map_not_row {T : Type} {R : Rdr T} {M : List T} {m : Nat} (h : MG R w m M) {base e sz n : Nat} {v : Value} {xs : List Value} (ho : w.ownsRow base e sz v n xs) : v.ownBlock ≠ some m := by
  intro hq
  obtain ⟨cur, hg⟩ := own_cur ho hq
  obtain ⟨es, clock, hb, _⟩ := h
  rw [hb] at hg
  cases hg
theorem GM.tn {S : Nat → Prop} (h : GM base w mg G) (ht : Tn S w w') (hm : ¬ S mg) (hg : ∀ e ∈ G, ¬ S e.g) : GM base w' mg G :=
  ⟨h.map.tn ht hm, fun e he => own_tn (h.rows e he) ht fun k hk => by
    have e2 : k = e.g := (Option.some.inj hk).symm
    rw [e2]; exact hg e he⟩
theorem GM.below (h : GM base w mg G) (hb : Below w.heap.size w w') : GM base w' mg G := h.tn (Tn.of_below (S := fun _ => False) hb) (fun e => e) (fun _ _ e => e)
theorem GM.first (h : GM base w mg G) {e : GV} (he : e ∈ G) {x : ByteArray} {t : List ByteArray} (hx : e.ks = x :: t) : w.cell? ⟨e.g, 0, none⟩ = some (.string x) := by
  have := (h.rows e he).cells (g := e.g) rfl 0 (strC x) (by rw [hx]; rfl)
  rw [Addr.add_lit] at this
  exact this
theorem GM.apart (h : GM base w mg G) (hi : GI L D G) {e f : GV} (he : e ∈ G) (hf : f ∈ G) (hg : e.g = f.g) : e = f := by
  cases hx : e.ks with
  | nil => exact absurd hx (hi.mem e he).2.2
  | cons x t =>
    cases hy : f.ks with
    | nil => exact absurd hy (hi.mem f hf).2.2
    | cons y u =>
      have h1 := h.first he hx
      have h2 := h.first hf hy
      rw [hg, h2] at h1
      have e2 : y = x := by simpa using h1
      subst e2
      exact hi.same he hf ((hi.key he (by rw [hx]; exact List.mem_cons_self)).symm.trans (hi.key hf (by rw [hy]; exact List.mem_cons_self)))
theorem info_str : (Try.prog.info? 9).map (fun i => (i.zero, i.size, i.bytes)) = some (some (.string ⟨#[]⟩), 1, 16) := by kernel_rfl
theorem info_strs : ∃ i0, Try.prog.info? 9 = some i0 ∧ i0.zero = some (.string ⟨#[]⟩) ∧ i0.size = 1 ∧ i0.bytes = 16 := by
  obtain ⟨i0, h1, h2⟩ := Option.map_eq_some_iff.1 info_str
  simp only [Prod.mk.injEq] at h2
  exact ⟨i0, h1, h2.1, h2.2.1, h2.2.2⟩
abbrev sobj (s : ByteArray) : Obj := .cells #[.string s] 9
theorem below_sobj (w : World) (s : ByteArray) : Below w.heap.size w (w.alloc (sobj s)).drew := (below1 w _).drew
theorem run_gfield (x1 x2 : Int) (x3 x4 : Nat) (so : Option Addr) (sn sc : Nat) (W : World) : (Instr.field 52 (.agg #[.int .i64 x1, .int .i64 x2, .float .f64 x3, .float .f64 x4, .slice so sn sc]) 1).run Try.prog W = .ok (.slice so sn sc) W := by kernel_rfl
/-- What the look-up gives. -/
theorem GM.old (h : GM base w mg G) (hi : GI L D G) (hL : Rise L) (hm : ∀ q ∈ L, mayV q = true) (hr : r ∈ L) :
    ∃ (x1 x2 : Int) (x3 x4 : Nat) (sl0 : Value), (∀ w', Below w.heap.size w w' → (Instr.lookup 77 (.map (some mg)) (.int .i64 r.i) false).run Try.prog w' = .ok (.agg #[.int .i64 x1, .int .i64 x2, .float .f64 x3, .float .f64 x4, sl0]) w') ∧
      w.ownsRow base 9 1 sl0 (grp L D r).length ((grp L D r).map strC) ∧ (∀ k, sl0.ownBlock = some k → ∃ e ∈ G, e.g = k ∧ e.r = r) := by
  rcases hi.old hL hr with ⟨hg, hn⟩ | ⟨e, hg, he, her, hks⟩
  · refine ⟨0, 0, 0, 0, .slice none 0 0, fun w' hb => ?_, ?_, fun k hk => by cases hk⟩
    · have := (h.below hb).map.find under_gmap (zero_group w') (id_wide (hm r hr))
      rw [hg] at this
      exact this
    · rw [hn]; exact World.ownsRow_nil _ _ _ _
  · refine ⟨e.r.i, e.r.e, e.r.lo, e.r.hi, e.sl, fun w' hb => ?_, ?_, fun k hk => ⟨e, he, Option.some.inj hk, her⟩⟩
    · have := (h.below hb).map.find under_gmap (zero_group w') (id_wide (hm r hr))
      rw [hg] at this
      exact this
    · rw [← hks]; exact h.rows e he
theorem group_add (h : GM base wr mg G) (hi : GI L D G) (hL : Rise L) (hm : ∀ q ∈ L, mayV q = true) (hr : r ∈ L) (hD : D.length ≤ 2000) (hb : base ≤ wr.heap.size) :
    ∃ (x1 x2 : Int) (x3 x4 : Nat) (so : Option Addr) (sn sc : Nat) (n g cap : Nat) (w2 w3 : World),
      (Instr.lookup 77 (.map (some mg)) (.int .i64 r.i) false).run Try.prog wr.drew = .ok (.agg #[.int .i64 x1, .int .i64 x2, .float .f64 x3, .float .f64 x4, (.slice so sn sc)]) wr.drew ∧
      (Instr.lookup 77 (.map (some mg)) (.int .i64 r.i) false).run Try.prog (wr.alloc (sobj s)).drew = .ok (.agg #[.int .i64 x1, .int .i64 x2, .float .f64 x3, .float .f64 x4, (.slice so sn sc)]) (wr.alloc (sobj s)).drew ∧
      (Builtin.append_ #[24, 24] 24 #[.slice so sn sc, .slice (some ⟨wr.heap.size, 0, none⟩) 1 1]).run Try.prog (wr.alloc (sobj s)).drew = .ok (.slice (some ⟨g, 0, none⟩) n cap) w2 ∧
      (Instr.mapUpdate 77 (.map (some mg)) (.int .i64 r.i) (.agg #[.int .i64 r.i, .int .i64 r.e, .float .f64 r.lo, .float .f64 r.hi, .slice (some ⟨g, 0, none⟩) n cap])).run Try.prog w2 = .ok () w3 ∧
      GM base w3 mg (updG GR G ⟨r, grp L D r ++ [s], g, cap⟩) ∧ Tn (fun k => k = mg ∨ ∃ e ∈ G, k = e.g) wr w3 ∧ Tn (fun k => ∃ e ∈ G, e.r = r ∧ k = e.g) (wr.alloc (sobj s)).drew w2 := by
  obtain ⟨i0, hi0, hz0, hz1, hz2⟩ := info_strs
  obtain ⟨x1, x2, x3, x4, sl1, hlk, hown, hblk⟩ := h.old hi hL hm hr
  obtain ⟨so, sc, rfl⟩ := own_slice hown
  have hbl := below_sobj wr s
  have hown1 := own_below hown hbl
  have hn2 : (grp L D r).length ≤ 2000 := Nat.le_trans (List.length_filter_le _ _) hD
  obtain ⟨v', w2, hap, hown2, hgr, _⟩ := run_append_own (P := Try.prog) (wr.alloc (sobj s)).drew base 24 24 9 i0 _ 1 16 Try.underlying24 hi0 hz0 hz1 hz2 rfl (by decide) _ (grp L D r).length ((grp L D r).map strC) hown1 ⟨wr.heap.size, 0, none⟩ 1 1 [strC s] rfl (by
      intro j u hu
      match j, hu with
      | 0, hu =>
        simp at hu
        subst hu
        rw [Addr.add_lit]
        show (wr.alloc (sobj s)).cell? _ = _
        simp [World.cell?_alloc_new, strC]
      | j + 1, hu => simp at hu) (by intro u hu; obtain rfl := List.mem_singleton.1 hu; rfl) (by unfold maxLen; omega) (by omega) (Nat.le_trans hb hbl.size)
  obtain ⟨g, cap, rfl⟩ := own_shape hown2 (by omega)
  have ht2 : Tn (fun k => ∃ e ∈ G, e.r = r ∧ k = e.g) (wr.alloc (sobj s)).drew w2 := (Tn.refl _ _).grown hgr (fun k hk _ => by
    obtain ⟨e, he, h1, h2⟩ := hblk k hk
    exact ⟨e, he, h2, h1.symm⟩)
  have hmne : ∀ e ∈ G, mg ≠ e.g := fun e he e2 => map_not_row h.map (h.rows e he) (by rw [e2]; rfl)
  have hM2 : MG GR w2 mg G := (h.below hbl).map.tn ht2 (fun ⟨e, he, _, e2⟩ => hmne e he e2)
  have hrows2 : ∀ e ∈ G, e.r ≠ r → w2.ownsRow base 9 1 e.sl e.ks.length (e.ks.map strC) := fun e he hne =>
    own_tn ((h.below hbl).rows e he) ht2 (fun k hk ⟨f, hf, hfr, e2⟩ => by
      have e3 : k = e.g := (Option.some.inj hk).symm
      exact hne ((h.apart hi he hf (e3.symm.trans e2)) ▸ hfr))
  obtain ⟨w3, hmu, hM3, ht3⟩ := hM2.store (r := ⟨r, grp L D r ++ [s], g, cap⟩) (by have := hi.few hm; unfold maxLen; omega) under_gmap (id_wide (hm r hr))
  have hval : (⟨r, grp L D r ++ [s], g, cap⟩ : GV).val = .agg #[.int .i64 r.i, .int .i64 r.e, .float .f64 r.lo, .float .f64 r.hi, .slice (some ⟨g, 0, none⟩) ((grp L D r).length + 1) cap] := by
    unfold GV.val GV.sl
    rw [List.length_append]
    rfl
  refine ⟨x1, x2, x3, x4, so, _, sc, (grp L D r).length + 1, g, cap, w2, w3, hlk _ (Below.refl _ _).drew, hlk _ hbl, hap, ?_, ⟨hM3, fun e he => ?_⟩, ?_, ht2⟩
  · rw [← hval]; exact hmu
  · rcases (mem_updG GR).1 he with rfl | ⟨he, hne⟩
    · have ho : w2.ownsRow base 9 1 (⟨r, grp L D r ++ [s], g, cap⟩ : GV).sl (grp L D r ++ [s]).length ((grp L D r ++ [s]).map strC) := by
        unfold GV.sl
        rw [List.length_append, List.map_append]
        exact hown2
      exact own_tn ho ht3 (fun k hk e2 => map_not_row hM2 ho (by rw [← e2]; exact hk))
    · have ho := hrows2 e he (fun e2 => hne (by show e.r.i = r.i; rw [e2]))
      exact own_tn ho ht3 (fun k hk e2 => map_not_row hM2 ho (by rw [← e2]; exact hk))
  · refine ((Tn.of_below (S := fun k => k = mg ∨ ∃ e ∈ G, k = e.g) hbl).trans ht2 (fun k _ ⟨e, he, _, e2⟩ => .inr ⟨e, he, e2⟩)).trans ht3 (fun k _ e => .inl e)
end
end Go.Proofs.Ytfcdajkgopcmpaa
namespace Go.Proofs.Ytfcdajkgopcmpaa
open Go.ChangeShapes Go.WideShapes Go.ChangeAt Go.RowKit Go.Deep
theorem At.turned {S : Nat → Prop} {w w' : World} {b : Nat} {r : RV} (h : At w b r) (ht : Tn S w w') (hb : ¬ S b) : At w' b r := by
  have hf := fun o => World.frozen?_of_block (a := ⟨b, o, none⟩) (ht.block b h.lt hb)
  exact ⟨Nat.lt_of_lt_of_le h.lt ht.size, ht.cell h.c0 hb, ht.cell h.c1 hb, ht.cell h.c2 hb, ht.cell h.c3 hb, (hf 0).trans h.f0, (hf 1).trans h.f1, (hf 2).trans h.f2, (hf 3).trans h.f3⟩
theorem oper_append_run {ops : Array Oper} {o : Oper} {a : Act} {w : World} {K' : Act → World → Prop} {Q : Exit → Act → World → Prop} {X : Prop} {v1 v2 v' : Value} {w' : World} (hw : Region.wanted o (yielded ops a.tmps) = true) (s x : Operand)
    (ho : o.op = .call { callee := .builtin .append, args := #[s, x], argTypes := #[24, 24] }) (hs : a.eval s = v1) (hx : a.eval x = v2)
    (hr : (Builtin.append_ #[24, 24] o.type #[v1, v2]).run Try.prog w = .ok v' w') (h : K' (a.put o.dst v') w') : if Region.wanted o (yielded ops a.tmps) = true then o.wp Try.prog a w K' Q else X := by
  rw [if_pos hw]
  unfold Oper.wp execOp
  simp only [ho, resolve, invoke, builtin, Sem.run_bind, Sem.run_pure, Result.andThen_ok, List.map_toArray, List.map_cons, List.map_nil, hs, hx, hr]
  exact h
def bys (l : List Str) : List ByteArray := l.map (·.1)
theorem bys_at {l : List Str} {i : Nat} (h : i < l.length) : (bys l)[i]'(by unfold bys; rw [List.length_map]; exact h) = l[i].1 := by simp [bys]
theorem bys_take (l : List Str) (i : Nat) : bys (l.take i) = (bys l).take i := by simp [bys, List.map_take]
theorem PK.le {l : List Str} (h : PK l) {L : List RV} {i : Nat} (hi : i ≤ l.length) (hk : ∀ s ∈ (bys l).take i, errS L s = 0) : i ≤ 2000 :=
  h i hi fun s hs => (errS_ok (hk s.1 (by rw [← bys_take]; exact List.mem_map.2 ⟨s, hs, rfl⟩))).1
theorem pm_not_row {w : World} {m : Nat} {D : List ByteArray} (h : PM w m D) {base e sz n : Nat} {v : Value} {xs : List Value} (ho : w.ownsRow base e sz v n xs) : v.ownBlock ≠ some m := by
  intro hq
  obtain ⟨cur, hg⟩ := own_cur ho hq
  obtain ⟨n, D0, ⟨es, clock, hb, _⟩, _⟩ := h
  rw [hb] at hg
  cases hg
theorem dist_le (ks : List ByteArray) : (dist ks).length ≤ ks.length := by
  have := dist_len ks []
  simpa [dist] using this
section
variable {C : Nat → Prop} {w : World} {a n cap : Nat} {L : List RV} {ao : Option Addr} {l : List Str}
set_option maxRecDepth 100000 in
set_option maxHeartbeats 40000000 in
theorem dgroup_any (h : DKm C w a L) (hk : KS w.heap.size w ao n cap l) (hp : PK l) :
    Calls Try.prog 15 #[ptr a, .slice ao n cap] w fun e w' => Below w.heap.size w w' ∧
      ((errK L (bys l) ≠ 0 ∧ e = .returned (.tuple #[.slice none 0 0, .int .i64 (errK L (bys l))])) ∨
       (errK L (bys l) = 0 ∧ ∃ go gc G, e = .returned (.tuple #[.slice go G.length gc, .int .i64 0]) ∧ w'.ownsRow w.heap.size 52 5 (.slice go G.length gc) G.length (cellsV G) ∧
          (∀ x ∈ G, w'.ownsRow w.heap.size 9 1 x.sl x.ks.length (x.ks.map strC)) ∧ GI L (dist (bys l)) G)) := by
  have hst := run_stf
  have hmm := @run_makeMap Try.prog
  have hlt := hk.lt
  have HL := Lib.hid hk.len
  have HLb : Hid ((bys l).length = n) := Lib.hid (by unfold bys; rw [List.length_map, hk.len])
  have HK := Lib.hid hk
  have HP := Lib.hid hp
  have HRI := Lib.hid h.rise
  have HMY := Lib.hid h.may
  have HD := Lib.hid h
  have hbm := below2 w (.map #[] 0) (.map #[] 0)
  have HG0 := Lib.hid (show MG GR ((w.alloc (.map #[] 0)).alloc (.map #[] 0)) w.heap.size [] from MG.below (World.ownsMap_made w Try.prog 3 GR.rd) (below1 _ _))
  have HP0 := Lib.hid (show PM ((w.alloc (.map #[] 0)).alloc (.map #[] 0)) (w.heap.size + 1) [] from by have := pm_new (w.alloc (.map #[] 0)); simpa using this)
  have HB0 := Lib.hid hbm
  clear h hk hp hbm
  go_enter Try.func15, Try.ntmps15
  go_wp2
  go_loopw [18] (fun vi wr => ∃ i : Nat, vi = .int .i64 i ∧ i ≤ n ∧ Hid (∀ s ∈ (bys l).take i, errS L s = 0) ∧ Hid (∃ G, GI L (dist ((bys l).take i)) G ∧ GM w.heap.size wr w.heap.size G) ∧ Hid (PM wr (w.heap.size + 1) (dist ((bys l).take i))) ∧ Hid (Below w.heap.size w wr)) (fun vi _ => n - (intOf vi).toNat)
  case atStart => exact ⟨0, rfl, Nat.zero_le _, Lib.hid (fun s hs => by simp at hs), Lib.hid ⟨[], GI.zero L, ⟨HG0.out, fun e he => by cases he⟩⟩, HP0, HB0⟩
  case round =>
    obtain ⟨i, rfl, hi, HOK, HGG, HPM, HW⟩ := hrel
    by_cases hin : i < n
    · have hin2 : (i : Int) < (n : Int) := by omega
      obtain ⟨b, off, rfl, ck⟩ := (HK.out.below HW.out).at_ hin
      have hil : i < l.length := by rw [← HL.out]; exact hin
      have hib : i < (bys l).length := by rw [HLb.out]; exact hin
      replace ck := ck.trans (congrArg (fun s : Str => some (Value.string s.1)) (getD_at9 hil _))
      have hsz := l[i].2
      have HAT := Lib.hid (errK_at hib HOK.out)
      have HDT := Lib.hid (dist_take hib)
      have HI2 : Hid (i ≤ 2000) := Lib.hid (HP.out.le (by omega) HOK.out)
      have HTK : Hid ((bys l).take (i + 1) = (bys l).take i ++ [(bys l)[i]]) := Lib.hid (List.take_succ_eq_append_getElem hib)
      rw [bys_at hil] at HAT HDT HTK
      generalize l[i].1 = s at *
      unfold maxLen at hsz
      have HCK := fun w => Lib.hid (key_any s w)
      have HRO := Lib.hid (droute_any (HD.out.tn (Tn.of_below (S := fun _ => False) HW.out) (fun _ _ e => e)) s hsz)
      obtain ⟨⟨r, ok⟩, hro⟩ : ∃ p, routeL L s = p := ⟨_, rfl⟩
      rw [hro] at HRO
      have HRE := Lib.hid hro
      clear hro hil hib
      cases hkey : keyB s with
      | false =>
        have hes : errS L s = 10 := by unfold errS; rw [hkey]; rfl
        have HE := Lib.hid (HAT.out (by rw [hes]; decide))
        rw [hes] at HE
        simp only [hkey] at HCK
        clear hkey hes
        go_wp2_with (first
          | (go_at_call 30; refine (HCK _).out.mono ?_; rintro e w3 ⟨rfl, rfl⟩)
          | fail)
        go_ret2
        exact ⟨HW.out, .inl ⟨by rw [HE.out]; decide, by rw [HE.out]; rfl⟩⟩
      | true =>
        simp only [hkey] at HCK
        simp only at HRO
        cases ok with
        | false =>
          have hes : errS L s = 8 := by unfold errS; rw [hkey, HRE.out]; rfl
          have HE := Lib.hid (HAT.out (by rw [hes]; decide))
          rw [hes] at HE
          clear hkey hes
          obtain ⟨r1, r2, r3, r4⟩ := r
          go_wp2_with (first
            | (go_at_call 30; refine (HCK _).out.mono ?_; rintro e w3 ⟨rfl, rfl⟩)
            | (go_at_call 12; refine HRO.out.mono ?_; rintro e w4 ⟨rfl, hb⟩; have HW4 := Lib.hid ((HW.out.trans (hb.mono HW.out.size)).alloc (Nat.le_trans HW.out.size hb.size) (robj ⟨r1, r2, r3, r4⟩)); clear hb)
            | fail)
          go_ret2
          exact ⟨HW4.out, .inl ⟨by rw [HE.out]; decide, by rw [HE.out]; rfl⟩⟩
        | true =>
          have HES := Lib.hid (errS_zero (L := L) hkey (by rw [HRE.out]))
          have HRM : Hid (r ∈ L) := Lib.hid (by
            have h1 : lastIn L (ofH s.data.toList) = (r, true) := by have := HRE.out; unfold routeL at this; rwa [if_pos hkey] at this
            have := last_mem (L := L) (x := ofH s.data.toList) (by rw [h1])
            rw [h1] at this
            exact this.1)
          have HOK2 : Hid (∀ t ∈ (bys l).take (i + 1), errS L t = 0) := Lib.hid (fun t ht => by
            rw [HTK.out] at ht
            rcases List.mem_append.1 ht with ht | ht
            · exact HOK.out t ht
            · obtain rfl := List.mem_singleton.1 ht; exact HES.out)
          clear hkey HES HAT
          obtain ⟨G, hgi, hgm⟩ := HGG.out
          have HGI := Lib.hid hgi
          have HGM := Lib.hid hgm
          have HDL : Hid ((dist ((bys l).take i)).length ≤ 2000) := Lib.hid (by have := dist_le ((bys l).take i); rw [List.length_take] at this; have := HI2.out; omega)
          clear HGG hgi hgm
          generalize dist ((bys l).take i) = D at *
          obtain ⟨r1, r2, r3, r4⟩ := r
          have HRS : Hid ((routeL L s).1 = ⟨r1, r2, r3, r4⟩) := Lib.hid (by rw [HRE.out])
          clear HRE
          go_upto_region 11 with (first
            | (go_at_call 30; refine (HCK _).out.mono ?_; rintro e w3 ⟨rfl, rfl⟩)
            | (go_at_call 12; refine HRO.out.mono ?_; rintro e w4 ⟨rfl, hb⟩; have HB4 := Lib.hid hb; clear hb)
            | fail)
          have hb5 := HB4.out.alloc HB4.out.size (robj ⟨r1, r2, r3, r4⟩)
          have HX := Lib.hid (at_new w4 ⟨r1, r2, r3, r4⟩)
          have HG5 := Lib.hid (HGM.out.below hb5)
          have HP5 := Lib.hid (HPM.out.below hb5)
          have HW5 := Lib.hid (HW.out.trans (hb5.mono HW.out.size))
          have HLO := Lib.hid (show wr.heap.size ≤ w4.heap.size ∧ w.heap.size + 1 < wr.heap.size ∧ (∀ e ∈ G, e.g < wr.heap.size) from ⟨HB4.out.size, HPM.out.lt, fun e he => ((HGM.out.rows e he).lt e.g rfl).2⟩)
          clear hb5 HB4 HGM HPM HRO HCK ck
          dsimp only [robj] at HX HG5 HP5 HW5
          generalize w4.heap.size = bx at *
          generalize w4.alloc (.cells #[.int .i64 r1, .int .i64 r2, .float .f64 r3, .float .f64 r4] 37) = w5 at *
          have hlk := HP5.out.look (s := s) (by unfold maxLen; omega)
          have hb6 := below1 w5 (.cells #[] 79)
          by_cases hmem : s ∈ D
          · rw [decide_eq_true hmem] at hlk
            have HD2 : Hid (dist ((bys l).take (i + 1)) = D) := Lib.hid (by rw [HDT.out, if_pos hmem])
            have HG6 := Lib.hid (HG5.out.below hb6)
            have HP6 := Lib.hid (HP5.out.below hb6)
            have HW6 := Lib.hid (HW5.out.trans (hb6.mono HW5.out.size))
            clear hmem HDT hb6
            go_wp2
            go_roundw
            case rel => exact ⟨i + 1, by go_num, by omega, HOK2, Lib.hid ⟨G, by rw [HD2.out]; exact HGI.out, HG6.out⟩, by rw [HD2.out]; exact HP6, HW6⟩
            case measure => simp [intOf]; omega
          · rw [decide_eq_false hmem] at hlk
            have HD2 : Hid (dist ((bys l).take (i + 1)) = D ++ [s]) := Lib.hid (by rw [HDT.out, if_neg hmem])
            clear hmem HDT
            obtain ⟨w7, hmu, hp7, ht7⟩ := (HP5.out.below hb6).store (s := s) (by have := HDL.out; unfold maxLen; omega) (by unfold maxLen; omega)
            have HP7 := Lib.hid hp7
            have HX7 := Lib.hid ((HX.out.below hb6 HX.out.lt).turned ht7 (fun e => by have := HLO.out; omega))
            have HG7 := Lib.hid ((HG5.out.below hb6).tn ht7 (fun e => by omega) (fun e he e2 => pm_not_row (HP5.out.below hb6) ((HG5.out.below hb6).rows e he) (by show some e.g = _; rw [e2])))
            have HW7 := Lib.hid ((HW5.out.trans (hb6.mono HW5.out.size)).trans (ht7.below (B := w.heap.size) (Nat.le_trans HW5.out.size hb6.size) (fun k e => by omega)))
            go_upto_region 14 with fail
            clear hmu hlk hb6 hp7 ht7
            obtain ⟨x1, x2, x3, x4, so, sn, sc, n2, g2, c2, w8, w9, hl1, hl2, hap, hmu, hg9, ht9, ht8⟩ := group_add (s := s) HG7.out HGI.out HRI.out HMY.out HRM.out HDL.out HW7.out.size
            have HG9 := Lib.hid hg9
            have HT9 := Lib.hid ht9
            have hx8 := ((HX7.out.below (below_sobj w7 s) HX7.out.lt).turned ht8 (fun ⟨e, he, _, e2⟩ => by have := HLO.out.2.2 e he; have := HLO.out.1; omega))
            have hx9 := HX7.out.turned ht9 (fun e => by
              rcases e with e | ⟨x, hx, e2⟩
              · have := HLO.out; omega
              · have := HLO.out.2.2 x hx; have := HLO.out.1; omega)
            have f0 := hx9.c0; have f1 := hx9.c1; have f2 := hx9.c2; have f3 := hx9.c3
            have hx6 := HX7.out.below (below_sobj w7 s) HX7.out.lt
            have a0 := HX7.out.c0; have a1 := HX7.out.c1; have a2 := HX7.out.c2; have a3 := HX7.out.c3
            have b0 := hx8.c0; have b1 := hx8.c1; have b2 := hx8.c2; have b3 := hx8.c3
            have d0 := hx6.c0; have d1 := hx6.c1; have d2 := hx6.c2; have d3 := hx6.c3
            simp only at a0 a1 a2 a3 b0 b1 b2 b3 d0 d1 d2 d3 f0 f1 f2 f3 hl1 hl2 hmu
            clear hg9 ht9 ht8 hx8 hx6 hx9
            dsimp only [sobj] at hl2 hap d0 d1 d2 d3
            have hgf := run_gfield x1 x2 x3 x4 so sn sc
            refine wp_region_held (S := (fun w' : World => w'.cell? ⟨bx, 0, none⟩ = some (.int .i64 r1) ∧ w'.cell? ⟨bx, 1, none⟩ = some (.int .i64 r2) ∧ w'.cell? ⟨bx, 2, none⟩ = some (.float .f64 r3) ∧ w'.cell? ⟨bx, 3, none⟩ = some (.float .f64 r4))) (by kernel_rfl) ?_
            change wpAnyH _ _ _ _ _ _ _ _ (World.drew _)
            refine wpAnyH_take (i := 0) (v := ?vk_0) rfl (by kernel_rfl) (by kernel_rfl) (by kernel_rfl) (fun _ _ _ h => h) (Or.inl ⟨by rfl, ?yk_0⟩) ⟨a0, a1, a2, a3⟩ ?rk_0
            case yk_0 => (intro W hSw; (try dsimp only at hSw); obtain ⟨s0, s1, s2, s3⟩ := hSw; first | (go_simp; done) | (go_simp; with_reducible rfl))
            try go_simp
            refine wpAnyH_take (i := 1) (v := ?vk_1) rfl (by kernel_rfl) (by kernel_rfl) (by kernel_rfl) (fun _ _ _ h => h) (Or.inl ⟨by rfl, ?yk_1⟩) ⟨a0, a1, a2, a3⟩ ?rk_1
            case yk_1 => (intro W hSw; (try dsimp only at hSw); obtain ⟨s0, s1, s2, s3⟩ := hSw; first | (go_simp; done) | (go_simp; with_reducible rfl))
            try go_simp
            refine wpAnyH_take (i := 2) (v := ?vk_2) rfl (by kernel_rfl) (by kernel_rfl) (by kernel_rfl) (fun _ _ _ h => h) (Or.inl ⟨by rfl, ?yk_2⟩) ⟨a0, a1, a2, a3⟩ ?rk_2
            case yk_2 => (intro W hSw; (try dsimp only at hSw); obtain ⟨s0, s1, s2, s3⟩ := hSw; first | (go_simp; done) | (go_simp; with_reducible rfl))
            try go_simp
            refine wpAnyH_take (i := 3) (v := ?vk_3) rfl (by kernel_rfl) (by kernel_rfl) (by kernel_rfl) (fun _ _ _ h => h) (Or.inl ⟨by rfl, ?yk_3⟩) ⟨a0, a1, a2, a3⟩ ?rk_3
            case yk_3 => (intro W hSw; (try dsimp only at hSw); obtain ⟨s0, s1, s2, s3⟩ := hSw; first | (go_simp; done) | (go_simp; with_reducible rfl))
            try go_simp
            refine wpAnyH_take (i := 4) (v := ?vk_4) rfl (by kernel_rfl) (by kernel_rfl) (by kernel_rfl) (fun _ _ _ h => h) (Or.inl ⟨by rfl, ?yk_4⟩) ⟨a0, a1, a2, a3⟩ ?rk_4
            case yk_4 => (intro W hSw; (try dsimp only at hSw); obtain ⟨s0, s1, s2, s3⟩ := hSw; first | (go_simp; done) | (go_simp; with_reducible rfl))
            try go_simp
            refine wpAnyH_take (i := 5) (v := ?vk_5) rfl (by kernel_rfl) (by kernel_rfl) (by kernel_rfl) (fun _ _ _ h => h) (Or.inl ⟨by rfl, ?yk_5⟩) ⟨a0, a1, a2, a3⟩ ?rk_5
            case yk_5 => (intro W hSw; (try dsimp only at hSw); obtain ⟨s0, s1, s2, s3⟩ := hSw; first | (go_simp; done) | (go_simp; with_reducible rfl))
            try go_simp
            refine wpAnyH_take (i := 6) (v := ?vk_6) rfl (by kernel_rfl) (by kernel_rfl) (by kernel_rfl) (fun _ _ _ h => h) (Or.inl ⟨by rfl, ?yk_6⟩) ⟨a0, a1, a2, a3⟩ ?rk_6
            case yk_6 => (intro W hSw; (try dsimp only at hSw); obtain ⟨s0, s1, s2, s3⟩ := hSw; first | (go_simp; done) | (go_simp; with_reducible rfl))
            try go_simp
            refine wpAnyH_take (i := 9) (v := ?vk_9) rfl (by kernel_rfl) (by kernel_rfl) (by kernel_rfl) (fun _ _ _ h => h) (Or.inl ⟨by rfl, ?yk_9⟩) ⟨a0, a1, a2, a3⟩ ?rk_9
            case yk_9 => (intro W hSw; (try dsimp only at hSw); obtain ⟨s0, s1, s2, s3⟩ := hSw; first | (go_simp; done) | (go_simp; with_reducible rfl))
            try go_simp
            refine wpAnyH_ready (rs := [7, 10]) (by kernel_rfl) (by simp) ?_
            refine AllReadyH.cons rfl (fun K hK => ?_) (AllReadyH.cons rfl (fun K hK => ?_) AllReadyH.nil)
            · go_simp
              refine hK.out _ _ ⟨a0, a1, a2, a3⟩ (fun _ => ?_)
              clear hK K
              try go_simp
              refine wpAnyH_take (i := 8) (v := ?vkx_8) rfl (by kernel_rfl) (by kernel_rfl) (by kernel_rfl) (fun _ _ _ h => h) (Or.inl ⟨by rfl, ?ykx_8⟩) ⟨a0, a1, a2, a3⟩ ?rkx_8
              case ykx_8 => (intro W hSw; (try dsimp only at hSw); obtain ⟨s0, s1, s2, s3⟩ := hSw; first | (go_simp; done) | (go_simp; with_reducible rfl))
              try go_simp
              refine wpAnyH_ready (rs := [10]) (by kernel_rfl) (by simp) ?_
              refine AllReadyH.cons rfl (fun K hK => ?_) AllReadyH.nil
              go_simp
              refine hK.out _ _ ⟨d0, d1, d2, d3⟩ (fun _ => ?_)
              clear hK K
              try go_simp
              refine wpAnyH_ready (rs := [11]) (by kernel_rfl) (by simp) ?_
              refine AllReadyH.cons rfl (fun K hK => ?_) AllReadyH.nil
              refine oper_append_run rfl (.tmp 51) (.tmp 53) rfl rfl rfl hap ?_
              refine hK.out _ _ ⟨b0, b1, b2, b3⟩ (fun _ => ?_)
              clear hK K
              try go_simp
              refine wpAnyH_take (i := 12) (v := ?vkpm_12) rfl (by kernel_rfl) (by kernel_rfl) (by kernel_rfl) (fun _ _ _ h => h) (Or.inl ⟨by rfl, ?ykpm_12⟩) ⟨b0, b1, b2, b3⟩ ?rkpm_12
              case ykpm_12 => (intro W hSw; (try dsimp only at hSw); obtain ⟨s0, s1, s2, s3⟩ := hSw; first | (go_simp; done) | (go_simp; with_reducible rfl))
              try go_simp
              refine wpAnyH_ready (rs := [13]) (by kernel_rfl) (by simp) ?_
              refine AllReadyH.cons rfl (fun K hK => ?_) AllReadyH.nil
              go_simp
              refine hK.out _ _ ⟨f0, f1, f2, f3⟩ (fun _ => ?_)
              clear hK K
              try go_simp
              refine wpAnyH_done (by kernel_rfl) ?_ _
              have HP9 : Hid (PM w9 (w.heap.size + 1) (D ++ [s])) := Lib.hid (HP7.out.tn HT9.out (fun e => by
                rcases e with e | ⟨x, hx, e2⟩
                · omega
                · exact pm_not_row HP7.out (HG7.out.rows x hx) (by rw [e2]; rfl)))
              have HW9 : Hid (Below w.heap.size w w9) := Lib.hid (HW7.out.trans (HT9.out.below (B := w.heap.size) HW7.out.size (fun k hk => by
                rcases hk with e | ⟨x, hx, e2⟩
                · omega
                · rw [e2]; exact ((HG7.out.rows x hx).lt x.g rfl).1)))
              go_wp2
              go_roundw
              case rel => exact ⟨i + 1, by go_num, by omega, HOK2, Lib.hid ⟨_, by rw [HD2.out]; exact HGI.out.step HRI.out HRM.out HRS.out g2 c2, HG9.out⟩, by rw [HD2.out]; exact HP9, HW9⟩
              case measure => simp [intOf]; omega
            · go_simp
              refine hK.out _ _ ⟨d0, d1, d2, d3⟩ (fun _ => ?_)
              clear hK K
              try go_simp
              refine wpAnyH_ready (rs := [7]) (by kernel_rfl) (by simp) ?_
              refine AllReadyH.cons rfl (fun K hK => ?_) AllReadyH.nil
              go_simp
              refine hK.out _ _ ⟨d0, d1, d2, d3⟩ (fun _ => ?_)
              clear hK K
              try go_simp
              refine wpAnyH_take (i := 8) (v := ?vkz_8) rfl (by kernel_rfl) (by kernel_rfl) (by kernel_rfl) (fun _ _ _ h => h) (Or.inl ⟨by rfl, ?ykz_8⟩) ⟨d0, d1, d2, d3⟩ ?rkz_8
              case ykz_8 => (intro W hSw; (try dsimp only at hSw); obtain ⟨s0, s1, s2, s3⟩ := hSw; first | (go_simp; done) | (go_simp; with_reducible rfl))
              try go_simp
              refine wpAnyH_ready (rs := [11]) (by kernel_rfl) (by simp) ?_
              refine AllReadyH.cons rfl (fun K hK => ?_) AllReadyH.nil
              refine oper_append_run rfl (.tmp 51) (.tmp 53) rfl rfl rfl hap ?_
              refine hK.out _ _ ⟨b0, b1, b2, b3⟩ (fun _ => ?_)
              clear hK K
              try go_simp
              refine wpAnyH_take (i := 12) (v := ?vkqm_12) rfl (by kernel_rfl) (by kernel_rfl) (by kernel_rfl) (fun _ _ _ h => h) (Or.inl ⟨by rfl, ?ykqm_12⟩) ⟨b0, b1, b2, b3⟩ ?rkqm_12
              case ykqm_12 => (intro W hSw; (try dsimp only at hSw); obtain ⟨s0, s1, s2, s3⟩ := hSw; first | (go_simp; done) | (go_simp; with_reducible rfl))
              try go_simp
              refine wpAnyH_ready (rs := [13]) (by kernel_rfl) (by simp) ?_
              refine AllReadyH.cons rfl (fun K hK => ?_) AllReadyH.nil
              go_simp
              refine hK.out _ _ ⟨f0, f1, f2, f3⟩ (fun _ => ?_)
              clear hK K
              try go_simp
              refine wpAnyH_done (by kernel_rfl) ?_ _
              have HP9 : Hid (PM w9 (w.heap.size + 1) (D ++ [s])) := Lib.hid (HP7.out.tn HT9.out (fun e => by
                rcases e with e | ⟨x, hx, e2⟩
                · omega
                · exact pm_not_row HP7.out (HG7.out.rows x hx) (by rw [e2]; rfl)))
              have HW9 : Hid (Below w.heap.size w w9) := Lib.hid (HW7.out.trans (HT9.out.below (B := w.heap.size) HW7.out.size (fun k hk => by
                rcases hk with e | ⟨x, hx, e2⟩
                · omega
                · rw [e2]; exact ((HG7.out.rows x hx).lt x.g rfl).1)))
              go_wp2
              go_roundw
              case rel => exact ⟨i + 1, by go_num, by omega, HOK2, Lib.hid ⟨_, by rw [HD2.out]; exact HGI.out.step HRI.out HRM.out HRS.out g2 c2, HG9.out⟩, by rw [HD2.out]; exact HP9, HW9⟩
              case measure => simp [intOf]; omega
    · obtain rfl : i = n := by omega
      obtain ⟨G, hgi, hgm⟩ := HGG.out
      have e : (bys l).take i = bys l := List.take_of_length_le (by rw [HLb.out]; exact Nat.le_refl _)
      rw [e] at HOK hgi
      have HE := Lib.hid (errK_none HOK.out)
      have HGI := Lib.hid hgi
      have HGM := Lib.hid hgm
      have HA := Lib.hid (ascG_any hgm.map hgi.rise (fun q hq => HMY.out _ (hgi.mem q hq).1) (hgi.few HMY.out))
      have HB := Lib.hid HW.out
      clear HGG hgi hgm e HPM
      go_wp2_with (go_at_call 36; refine HA.out.mono ?_; rintro e w9 ⟨go, gc, rfl, ho, hb⟩; have HO9 := Lib.hid ho; have HB9 := Lib.hid hb; clear ho hb)
      go_ret2
      exact ⟨HB.out.trans (HB9.out.mono HB.out.size), .inr ⟨HE.out, go, gc, G, rfl, own_mono HO9.out HB.out.size, (HGM.out.below HB9.out).rows, HGI.out⟩⟩
end
end Go.Proofs.Ytfcdajkgopcmpaa
namespace Go.Proofs.Ytfcdajkgopcmpaa
open Go.ChangeShapes Go.WideShapes Go.ChangeAt Go.RowKit Go.Deep
theorem route_nokey {L : List RV} {s : ByteArray} (h : keyB s = false) : routeL L s = (RV.zero, false) := by unfold routeL; rw [h]; rfl
theorem err_route {L : List RV} {s : ByteArray} : errS L s = 0 ↔ (routeL L s).2 = true := by
  constructor
  · exact fun h => (errS_ok h).2
  · intro h
    cases hk : keyB s with
    | false => rw [route_nokey hk] at h; cases h
    | true => exact errS_zero hk h
theorem err_all {L : List RV} {ks : List ByteArray} : errK L ks = 0 ↔ ∀ s ∈ ks, (routeL L s).2 = true := by
  constructor
  · intro h s hs
    refine err_route.1 ?_
    by_cases e : errS L s = 0
    · exact e
    · exfalso
      unfold errK at h
      split at h
      · rename_i t ht
        have := List.find?_some ht
        simp [h] at this
      · rename_i hf
        have := List.find?_eq_none.1 hf s hs
        simp [e] at this
  · exact fun h => errK_none fun s hs => err_route.2 (h s hs)
theorem route_mem {L : List RV} {s : ByteArray} (h : (routeL L s).2 = true) : (routeL L s).1 ∈ L := by
  cases hk : keyB s with
  | false => rw [route_nokey hk] at h; cases h
  | true =>
    have e : routeL L s = lastIn L (ofH s.data.toList) := by unfold routeL; rw [if_pos hk]
    rw [e] at h ⊢
    exact (last_mem h).1
theorem GI.route {L : List RV} {D : List ByteArray} {G : List GV} (h : GI L D G) (hL : Rise L) (hD : ∀ s ∈ D, (routeL L s).2 = true) {x : GV} (hx : x ∈ G) {s : ByteArray} (hs : s ∈ x.ks) : routeL L s = (x.r, true) := by
  have h1 := h.key hx hs
  have hsD : s ∈ D := by rw [(h.mem x hx).2.1] at hs; exact (List.mem_filter.1 hs).1
  have h2 := hD s hsD
  exact Prod.ext (rise_one hL (route_mem h2) (h.mem x hx).1 h1) h2
theorem nodup_fold : ∀ (ks acc : List ByteArray), acc.Nodup → (ks.foldl (fun acc s => if s ∈ acc then acc else acc ++ [s]) acc).Nodup
  | [], _, h => h
  | s :: ks, acc, h => by
    rw [List.foldl_cons]
    refine nodup_fold ks _ ?_
    split
    · exact h
    · rename_i hn
      refine List.nodup_append.2 ⟨h, by simp, fun x hx y hy => ?_⟩
      obtain rfl := List.mem_singleton.1 hy
      exact fun e => hn (by rw [← e]; exact hx)
theorem dist_nodup (ks : List ByteArray) : (dist ks).Nodup := nodup_fold ks [] List.nodup_nil
theorem GI.nodup {L : List RV} {ks : List ByteArray} {G : List GV} (h : GI L (dist ks) G) {x : GV} (hx : x ∈ G) : x.ks.Nodup := by
  rw [(h.mem x hx).2.1]
  exact (dist_nodup ks).sublist List.filter_sublist
theorem sum_add {T : Type} (f g : T → Nat) : ∀ l : List T, (l.map fun x => f x + g x).sum = (l.map f).sum + (l.map g).sum
  | [] => rfl
  | x :: l => by simp only [List.map_cons, List.sum_cons, sum_add f g l]; omega
theorem sum_one {L : List RV} (hL : Rise L) {r : RV} (hr : r ∈ L) : (L.map fun q => if r.i = q.i then 1 else 0).sum = 1 := by
  induction L with
  | nil => cases hr
  | cons a L ih =>
    have ha := List.pairwise_cons.1 hL
    rw [List.map_cons, List.sum_cons]
    rcases List.mem_cons.1 hr with rfl | hm
    · rw [if_pos rfl]
      have : (L.map fun q => if r.i = q.i then 1 else 0).sum = 0 := by
        have : ∀ M : List RV, (∀ q ∈ M, r.i < q.i) → (M.map fun q => if r.i = q.i then 1 else 0).sum = 0 := by
          intro M
          induction M with
          | nil => intro _; rfl
          | cons b M ih2 =>
            intro h
            have := h b List.mem_cons_self
            rw [List.map_cons, List.sum_cons, if_neg (by omega), ih2 fun q hq => h q (List.mem_cons_of_mem _ hq)]
        exact this L ha.1
      omega
    · have := ha.1 r hm
      rw [if_neg (by omega), ih ha.2 hm]
theorem sum_grp {L : List RV} (hL : Rise L) : ∀ D : List ByteArray, (∀ s ∈ D, (routeL L s).2 = true) → (L.map fun r => (grp L D r).length).sum = D.length := by
  intro D
  rw [← List.reverse_reverse D]
  generalize D.reverse = E
  induction E with
  | nil =>
    intro _
    have : ∀ M : List RV, (M.map fun r => (grp L [] r).length).sum = 0 := by
      intro M
      induction M with
      | nil => rfl
      | cons a M ih => rw [List.map_cons, List.sum_cons, ih]; rfl
    exact this L
  | cons s E ih =>
    intro h
    rw [List.reverse_cons] at h ⊢
    have e : (fun r => (grp L (E.reverse ++ [s]) r).length) = fun r => (grp L E.reverse r).length + if (routeL L s).1.i = r.i then 1 else 0 := by
      funext r
      rw [grp_snoc, List.length_append]
      congr 1
      split <;> rfl
    rw [e, sum_add, ih fun t ht => h t (List.mem_append_left _ ht), sum_one hL (route_mem (h s (List.mem_append_right _ (List.mem_singleton.2 rfl)))), List.length_append]
    rfl
theorem sum_filter : ∀ l : List (RV × List ByteArray), ((l.filter (fun p => !p.2.isEmpty)).map (fun p => p.2.length)).sum = (l.map (fun p => p.2.length)).sum
  | [] => rfl
  | p :: l => by
    rw [List.filter_cons, List.map_cons, List.sum_cons]
    cases h : p.2.isEmpty with
    | true =>
      have : p.2.length = 0 := by rw [List.isEmpty_iff.1 h]; rfl
      simp [sum_filter l, this]
    | false => simp [sum_filter l]
def tot (G : List GV) : Nat := (G.map fun e => e.ks.length).sum
/-- All keys are met, each once. -/
theorem GI.total {L : List RV} {D : List ByteArray} {G : List GV} (h : GI L D G) (hL : Rise L) (hD : ∀ s ∈ D, (routeL L s).2 = true) : tot G = D.length := by
  have h1 : tot G = ((G.map (fun e => (e.r, e.ks))).map (fun p => p.2.length)).sum := by unfold tot; rw [List.map_map]; rfl
  rw [h1, h.view hL]
  unfold groupsL
  rw [sum_filter, List.map_map]
  exact sum_grp hL D hD
theorem tot_take {G : List GV} {i : Nat} (h : i < G.length) : tot (G.take (i + 1)) = tot (G.take i) + G[i].ks.length := by
  unfold tot
  rw [List.take_succ_eq_append_getElem h, List.map_append, List.sum_append]
  simp
theorem tot_le (G : List GV) (i : Nat) : tot (G.take i) ≤ tot G := by
  have e : G = G.take i ++ G.drop i := (List.take_append_drop i G).symm
  have : tot G = tot (G.take i) + tot (G.drop i) := by
    conv => lhs; rw [e]
    unfold tot
    rw [List.map_append, List.sum_append]
  omega
/-- A group's cells. -/
structure Gc (w : World) (g o : Nat) (e : GV) : Prop where
  c0 : w.cell? ⟨g, o, none⟩ = some (.int .i64 e.r.i)
  c1 : w.cell? ⟨g, o + 1, none⟩ = some (.int .i64 e.r.e)
  c2 : w.cell? ⟨g, o + 2, none⟩ = some (.float .f64 e.r.lo)
  c3 : w.cell? ⟨g, o + 3, none⟩ = some (.float .f64 e.r.hi)
  c4 : w.cell? ⟨g, o + 4, none⟩ = some (.slice (some ⟨e.g, 0, none⟩) e.ks.length e.cap)
theorem cellsV_get : ∀ (l : List GV) (i : Nat) (h : i < l.length) (j : Nat) (u : Value), (gcells l[i])[j]? = some u → (cellsV l)[i * 5 + j]? = some u
  | [], i, h, _, _, _ => absurd h (Nat.not_lt_zero _)
  | x :: t, 0, _, j, u, hu => by
    have hj : j < (gcells x).length := by
      have hu : (gcells x)[j]? = some u := hu
      exact (List.getElem?_eq_some_iff.1 hu).1
    show ((gcells x) ++ cellsV t)[0 * 5 + j]? = some u
    rw [Nat.zero_mul, Nat.zero_add, List.getElem?_append_left hj]
    exact hu
  | x :: t, i + 1, h, j, u, hu => by
    have := cellsV_get t i (Nat.lt_of_succ_lt_succ h) j u hu
    show ((gcells x) ++ cellsV t)[(i + 1) * 5 + j]? = some u
    have e : (i + 1) * 5 + j = (gcells x).length + (i * 5 + j) := by show _ = 5 + _; omega
    rw [e, List.getElem?_append_right (Nat.le_add_right _ _), Nat.add_sub_cancel_left]
    exact this
theorem own_group {w : World} {base n gc : Nat} {go : Option Addr} {G : List GV} (h : w.ownsRow base 52 5 (.slice go n gc) n (cellsV G)) {i : Nat} (hi : i < G.length) (hn : G.length = n) : ∃ g, go = some ⟨g, 0, none⟩ ∧ Gc w g (i * 5) G[i] := by
  obtain ⟨g, c, e⟩ := own_shape h (by omega)
  injection e with e1 _ _
  subst e1
  have c := fun j u hu => h.cells (g := g) rfl (i * 5 + j) u (cellsV_get G i hi j u hu)
  have c0 := c 0 _ rfl; have c1 := c 1 _ rfl; have c2 := c 2 _ rfl; have c3 := c 3 _ rfl; have c4 := c 4 _ rfl
  rw [Addr.add_lit, Nat.zero_add] at c0 c1 c2 c3 c4
  exact ⟨g, rfl, c0, c1, c2, c3, c4⟩
theorem own_key {w : World} {base : Nat} {e : GV} (h : w.ownsRow base 9 1 e.sl e.ks.length (e.ks.map strC)) {k : Nat} (hk : k < e.ks.length) : w.cell? ⟨e.g, k, none⟩ = some (.string e.ks[k]) := by
  have := h.cells (g := e.g) rfl k (strC e.ks[k]) (by simp [hk])
  rw [Addr.add_lit, Nat.zero_add] at this
  exact this
end Go.Proofs.Ytfcdajkgopcmpaa
