/- Rows of the call's own whose slice may begin anywhere in its block: what is appended, what is cut off ahead. Conditions: none of its own. The document's log in plain terms and in memory; raceref7: last, First, Next, Safe. Conditions: numbers as a log has them. raceref7: Read. Conditions: a log as it keeps to. raceref7: the log and its disk together; Sync. Conditions: a log as it keeps to. raceref7's log in memory: its rows resliced at the head (Trim). Conditions: a log as it lies. raceref7's log in memory: its rows grown by one (Append, Open). Conditions: a log as it lies. -/
import Derived.Test.YtkilkhnoldfhcaaGreatDoorLyg
import Derived.Maps.AppendAt
namespace Go.Proofs.YtkilkhnoldfhcaaGreatDoor
open Go.RowKit
/-- A slice of one-cell elements in a block of its own, from whatever place on. -/
def OffR (w : World) (e : TypeId) (v : Value) (n : Nat) (xs : List Value) : Prop :=
  xs.length = n ∧ ((v = .slice none 0 0 ∧ n = 0) ∨ ∃ g off cap cur, v = .slice (some ⟨g, off, none⟩) n cap ∧ w.heap[g]? = some (.cells cur e (0, 0)) ∧ n ≤ cap ∧ cap ≤ maxLen ∧ off + cap ≤ cur.size ∧ (cur.toList.drop off).take n = xs)
section
variable {w w' : World} {e : TypeId} {v : Value} {n : Nat} {xs : List Value} {S : Nat → Prop}
theorem OffR.of_own {base : Nat} (h : w.ownsRow base e 1 v n xs) : OffR w e v n xs := by
  obtain ⟨h1, h2⟩ := h
  rw [Nat.mul_one] at h1
  refine ⟨h1, ?_⟩
  rcases h2 with h2 | ⟨g, cap, cur, rfl, _, hg, hn, hc, hs, ht⟩
  · exact .inl h2
  · rw [Nat.mul_one] at hs ht
    exact .inr ⟨g, 0, cap, cur, rfl, hg, hn, hc, by omega, by rw [List.drop_zero]; exact ht⟩
theorem OffR.tn (h : OffR w e v n xs) (ht : Tn S w w') (hd : ∀ k, v.ownBlock = some k → ¬ S k) : OffR w' e v n xs := by
  refine ⟨h.1, ?_⟩
  rcases h.2 with h2 | ⟨g, off, cap, cur, rfl, hg, r⟩
  · exact .inl h2
  · exact .inr ⟨g, off, cap, cur, rfl, ht.at_ hg (hd g rfl), r⟩
theorem OffR.below (h : OffR w e v n xs) (hb : Below w.heap.size w w') : OffR w' e v n xs := h.tn (Tn.of_below (S := fun _ => False) hb) (fun _ _ e => e)
theorem OffR.lt (h : OffR w e v n xs) {k : Nat} (hk : v.ownBlock = some k) : k < w.heap.size := by
  rcases h.2 with ⟨rfl, _⟩ | ⟨g, off, cap, cur, rfl, hg, _⟩
  · cases hk
  · obtain rfl : g = k := Option.some.inj hk
    exact lt_of_at hg
theorem OffR.slice (h : OffR w e v n xs) : ∃ ao cap, v = .slice ao n cap ∧ n ≤ cap ∧ cap ≤ maxLen ∧ (ao = none → n = 0 ∧ cap = 0) ∧ ∀ ad, ao = some ad → ∃ g off, ad = ⟨g, off, none⟩ := by
  rcases h.2 with ⟨rfl, rfl⟩ | ⟨g, off, cap, cur, rfl, hg, hn, hc, _⟩
  · exact ⟨none, 0, rfl, Nat.le_refl _, by decide, fun _ => ⟨rfl, rfl⟩, fun _ e => by cases e⟩
  · exact ⟨some ⟨g, off, none⟩, cap, rfl, hn, hc, fun e => (by cases e), fun ad e => ⟨g, off, (Option.some.inj e).symm⟩⟩
/-- Its cells. -/
theorem OffR.cell {g off cap : Nat} (h : OffR w e (.slice (some ⟨g, off, none⟩) n cap) n xs) {j : Nat} (hj : j < n) : w.cell? ⟨g, off + j, none⟩ = xs[j]? ∧ w.frozen? ⟨g, off + j, none⟩ = false := by
  rcases h.2 with ⟨e1, _⟩ | ⟨g', off', cap', cur, e1, hg, hn, hc, hs, ht⟩
  · cases e1
  · injection e1 with e2 e3 e4
    injection e2 with e2
    injection e2 with e5 e6
    subst e5 e6
    refine ⟨?_, frozen_zero hg⟩
    rw [← ht, List.getElem?_take_of_lt hj, List.getElem?_drop]
    simp [World.cell?, hg]
/-- Cut off ahead, where something may still be appended. -/
theorem OffR.drop {g off cap k : Nat} (h : OffR w e (.slice (some ⟨g, off, none⟩) n cap) n xs) (hk : k ≤ n) : OffR w e (.slice (some ⟨g, off + k, none⟩) (n - k) (cap - k)) (n - k) (xs.drop k) ∧ (cap = k → OffR w e (.slice (some ⟨g, off, none⟩) (n - k) (cap - k)) (n - k) (xs.drop k)) := by
  rcases h.2 with ⟨e1, _⟩ | ⟨g', off', cap', cur, e1, hg, hn, hc, hs, ht⟩
  · cases e1
  · injection e1 with e2 e3 e4
    injection e2 with e2
    injection e2 with e5 e6
    subst e5 e6 e4
    have hl : (xs.drop k).length = n - k := by rw [List.length_drop, h.1]
    refine ⟨⟨hl, .inr ⟨g, off + k, cap - k, cur, rfl, hg, by omega, by omega, by omega, ?_⟩⟩, fun e7 => ⟨hl, .inr ⟨g, off, cap - k, cur, rfl, hg, by omega, by omega, by omega, ?_⟩⟩⟩
    · rw [← ht, List.drop_take, List.drop_drop]
    · have : n - k = 0 := by omega
      rw [this, List.take_zero]
      exact (List.eq_nil_of_length_eq_zero (by rw [hl, this])).symm
end
section
variable {P : Program} {w : World}
theorem setCells_row {g : Nat} {e : TypeId} : ∀ (news : List Value) (o : Nat) {w : World} {cur : Array Value}, w.heap[g]? = some (.cells cur e (0, 0)) → o + news.length ≤ cur.size → ∃ cur', (w.setCells g o news).heap[g]? = some (.cells cur' e (0, 0)) ∧ cur'.size = cur.size ∧ cur'.toList = over cur.toList o news
  | [], _, _, cur, h, _ => ⟨cur, h, rfl, rfl⟩
  | v :: r, o, w, cur, h, hl => by
    have hl' : o + (r.length + 1) ≤ cur.size := by simpa using hl
    have h1 : (w.setCell ⟨g, o, none⟩ v).heap[g]? = some (.cells (cur.setIfInBounds o v) e (0, 0)) := by
      simp [World.setCell, Array.getElem?_modify, h]
    obtain ⟨c2, h2, h3, h4⟩ := setCells_row r (o + 1) h1 (by simp; omega)
    refine ⟨c2, h2, by simpa using h3, ?_⟩
    rw [h4]
    show over _ _ _ = over (cur.toList.set o v) (o + 1) r
    simp
/-- append of cells that lie somewhere onto such a row. -/
theorem run_append_off {t ty e : TypeId} {i : TypeInfo} {z : Value} {bytes : Nat} (ht : P.underlying t = some (.slice e)) (hi : P.info? e = some i) (hz : i.zero = some z) (hsize : i.size = 1) (hby : i.bytes = bytes) (hzs : z.cells.size = 1)
    {v : Value} {n : Nat} {xs : List Value} (hown : OffR w e v n xs) {ad : Addr} {m c : Nat} {news : List Value} (hl : news.length = m) (hnews : ∀ j u, news[j]? = some u → w.cell? (ad.add j) = some u) (h1 : ∀ u ∈ news, u.oneCell' = true)
    (h63 : n + m ≤ maxLen) (hbytes : (n + m) * bytes ≤ 140737488355328) :
    ∃ v' w', (Builtin.append_ #[t, t] ty #[v, .slice (some ad) m c]).run P w = .ok v' w' ∧ OffR w' e v' (n + m) (xs ++ news) ∧ w.grownBy w' v.ownBlock ∧ (v'.ownBlock = v.ownBlock ∨ v'.ownBlock = some w.heap.size) := by
  have hxl := hown.1
  have hlen : (xs ++ news).length = n + m := by rw [List.length_append, hxl, hl]
  have hl1 : news.length = m * i.size := by rw [hsize, Nat.mul_one]; exact hl
  rcases hown.2 with ⟨rfl, rfl⟩ | ⟨g, off, cap, cur, rfl, hg, hnc, hcm, hcs, htake⟩
  · have hx : xs = [] := List.eq_nil_of_length_eq_zero hxl
    subst hx
    obtain ⟨v', w', h2, h3, h4, h5, h6⟩ := run_append_own_at (P := P) (w := w) 0 t ty e i z 1 bytes ht hi hz hsize hby hzs (by decide) (.slice none 0 0) 0 [] (World.ownsRow_nil _ _ _ _) ad m c news (by rw [Nat.mul_one]; exact hl) hnews h1 h63 hbytes (Nat.zero_le _)
    exact ⟨v', w', h2, OffR.of_own h3, h4, h6⟩
  · by_cases hroom : n + m ≤ cap
    · have hcell : ∀ j, j < news.length → (w.cell? ⟨g, off + n * i.size + j, none⟩).isSome = true ∧ w.frozen? ⟨g, off + n * i.size + j, none⟩ = false := fun j hj => by
        rw [hsize, Nat.mul_one]
        refine ⟨?_, frozen_zero hg⟩
        have : off + n + j < cur.size := by omega
        simp [World.cell?, hg, this]
      have hr := run_append_room_cells (P := P) w t ty e i ht hi g off n cap ad m c news hl1 hnews h1 hroom (fun j hj => (hcell j hj).1) (fun j hj => (hcell j hj).2)
      rw [hsize, Nat.mul_one] at hr
      obtain ⟨c2, h2, h3, h4⟩ := setCells_row (e := e) news (off + n) hg (by omega)
      refine ⟨_, _, hr, ⟨hlen, .inr ⟨g, off, cap, c2, rfl, h2, hroom, hcm, by omega, ?_⟩⟩, ?_, .inl rfl⟩
      · rw [h4, over_eq news cur.toList (off + n) (by simp; omega)]
        have e1 : (cur.toList.take (off + n)).drop off = xs := by rw [← htake, List.drop_take]; simp
        have hlo : off ≤ (cur.toList.take (off + n)).length := by rw [List.length_take]; simp; omega
        rw [List.drop_append_of_le_length hlo, e1, ← List.append_assoc, List.take_append_of_le_length (by rw [hlen]; exact Nat.le_refl _), List.take_of_length_le (by rw [hlen]; exact Nat.le_refl _)]
      · have ht2 := tn_setCells (g := g) news (off + n) (Tn.refl (· = g) w)
        exact ⟨ht2.os, ht2.tape, ht2.output, ht2.size, fun k hk hne => ht2.block k hk (fun e => hne (by rw [e]; rfl))⟩
    · have holds : ∀ j u, xs[j]? = some u → w.cell? ((⟨g, off, none⟩ : Addr).add j) = some u := fun j u hu => by
        have hj : j < n := by rw [← hxl]; exact (List.getElem?_eq_some_iff.1 hu).1
        rw [Addr.add_lit, (hown.cell hj).1, hu]
      have hr := run_append_grow (P := P) w t ty e i z ht hi hz ⟨g, off, none⟩ n cap xs (by rw [hsize, Nat.mul_one]; exact hxl) holds ad m c news hl1 hnews (by omega) (by unfold maxLen at h63; omega) (growslice_fits (by omega) (by rw [hby]; exact hbytes))
      refine ⟨_, _, hr, ?_, ⟨rfl, rfl, rfl, by simp, fun k hk _ => heap_alloc_old w.drew _ hk⟩, .inr rfl⟩
      have hge := grownCap_ge w (n + m) cap e
      have hcm2 : grownCap w (n + m) cap e ≤ maxLen := grownCap_le_maxLen w (n + m) cap e h63
      refine ⟨hlen, .inr ⟨w.heap.size, 0, _, _, rfl, heap_alloc_new w.drew _, hge, hcm2, ?_, ?_⟩⟩
      · simp only [Array.size_append, List.size_toArray, size_zeroCells, hzs]
        omega
      · simp only [Array.toList_append, List.drop_zero]
        rw [List.append_assoc, ← List.append_assoc, List.take_append_of_le_length (by rw [hlen]; exact Nat.le_refl _), List.take_of_length_le (by rw [hlen]; exact Nat.le_refl _)]
end
end Go.Proofs.YtkilkhnoldfhcaaGreatDoor
namespace Go.Proofs.YtkilkhnoldfhcaaGreatDoor
open Go.RowKit
/-- The document's log. -/
structure Rl where
  dir : Nm
  seg : Int
  nums : List Nat
  all : List (List UInt8)
  top : Nat
/-- Blocks of C that are none of its own cells. -/
def Free (C : Nat → Prop) (b : Nat) (vn va : Value) (k : Nat) : Prop := C k ∧ k ≠ b ∧ vn.ownBlock ≠ some k ∧ va.ownBlock ≠ some k
/-- As it lies in memory: its cells in block b, over the disk at block c. -/
structure RLt (C : Nat → Prop) (w : World) (b c : Nat) (r : Rl) (vn va : Value) (ua : List Value) : Prop where
  box : w.heap[b]? = some (.cells #[ptr c, nmv r.dir, .int .i64 r.seg, vn, va, .int .i64 (r.top : Int)] 118 (0, 0))
  nums : OffR w 3 vn r.nums.length (r.nums.map fun (n : Nat) => Value.int .i64 (n : Int))
  all : OffR w 36 va r.all.length ua
  rows : ∀ i (h1 : i < ua.length) (h2 : i < r.all.length), ∃ ao cap, ua[i] = .slice ao r.all[i].length cap ∧ SB (Free C b vn va) w ao r.all[i].length cap r.all[i]
  cb : C b
  cn : ∀ k, vn.ownBlock = some k → C k
  ca : ∀ k, va.ownBlock = some k → C k
  lt : ∀ k, C k → k < w.heap.size
/-- What it keeps to. -/
structure ROk (r : Rl) : Prop where
  dir : 1 ≤ r.dir.length ∧ r.dir.length ≤ 11
  ne : 0 < r.nums.length
  few : r.nums.length ≤ 1000000
  num : ∀ n ∈ r.nums, 1 ≤ n ∧ n ≤ 99999999
  all : r.all.length ≤ 100000000
  top : r.top ≤ 1000000000
def Rl.low (r : Rl) : Nat := r.nums.getD 0 0
def Rl.end_ (r : Rl) : Nat := r.nums.getD (r.nums.length - 1) 0
section
variable {C D S : Nat → Prop} {w w' : World} {b c : Nat} {r : Rl} {vn va : Value} {ua : List Value}
theorem RLt.tn (h : RLt C w b c r vn va ua) (ht : Tn S w w') (hd : ∀ k, C k → ¬ S k) : RLt C w' b c r vn va ua :=
  ⟨ht.at_ h.box (hd b h.cb), h.nums.tn ht (fun k hk => hd k (h.cn k hk)), h.all.tn ht (fun k hk => hd k (h.ca k hk)), fun i h1 h2 => let ⟨ao, cap, e, hs⟩ := h.rows i h1 h2; ⟨ao, cap, e, hs.tn ht fun k hk => hd k hk.1⟩, h.cb, h.cn, h.ca, fun k hk => Nat.lt_of_lt_of_le (h.lt k hk) ht.size⟩
theorem RLt.below (h : RLt C w b c r vn va ua) (hb : Below w.heap.size w w') : RLt C w' b c r vn va ua := h.tn (Tn.of_below (S := fun _ => False) hb) (fun _ _ e => e)
theorem RLt.c0 (h : RLt C w b c r vn va ua) : w.cell? ⟨b, 0, none⟩ = some (ptr c) := by simp [World.cell?, h.box]
theorem RLt.c1 (h : RLt C w b c r vn va ua) : w.cell? ⟨b, 1, none⟩ = some (nmv r.dir) := by simp [World.cell?, h.box]
theorem RLt.c2 (h : RLt C w b c r vn va ua) : w.cell? ⟨b, 2, none⟩ = some (.int .i64 r.seg) := by simp [World.cell?, h.box]
theorem RLt.c3 (h : RLt C w b c r vn va ua) : w.cell? ⟨b, 3, none⟩ = some vn := by simp [World.cell?, h.box]
theorem RLt.c4 (h : RLt C w b c r vn va ua) : w.cell? ⟨b, 4, none⟩ = some va := by simp [World.cell?, h.box]
theorem RLt.c5 (h : RLt C w b c r vn va ua) : w.cell? ⟨b, 5, none⟩ = some (.int .i64 (r.top : Int)) := by simp [World.cell?, h.box]
theorem RLt.fz (h : RLt C w b c r vn va ua) (o : Nat) : w.frozen? ⟨b, o, none⟩ = false := frozen_zero h.box
/-- The numbers' row, and one of them. -/
theorem RLt.num (h : RLt C w b c r vn va ua) {i : Nat} (hi : i < r.nums.length) : ∃ g off cap, vn = .slice (some ⟨g, off, none⟩) r.nums.length cap ∧ r.nums.length ≤ cap ∧ cap ≤ maxLen ∧ w.cell? ⟨g, off + i, none⟩ = some (.int .i64 ((r.nums.getD i 0 : Nat) : Int)) := by
  obtain ⟨ao, cap, rfl, h1, h2, h3, h4⟩ := h.nums.slice
  cases ao with
  | none => have := (h3 rfl).1; omega
  | some ad =>
    obtain ⟨g, off, rfl⟩ := h4 ad rfl
    refine ⟨g, off, cap, rfl, h1, h2, ?_⟩
    rw [(h.nums.cell hi).1, List.getElem?_map, List.getElem?_eq_getElem hi, List.getD_eq_getElem?_getD, List.getElem?_eq_getElem hi]
    rfl
theorem mem_getD {l : List Nat} {i : Nat} (h : i < l.length) : l.getD i 0 ∈ l := by
  rw [List.getD_eq_getElem?_getD, List.getElem?_eq_getElem h]
  exact List.getElem_mem h
theorem rfirst_any (h : RLt C w b c r vn va ua) (hk : ROk r) : Calls Tryz.prog 52 #[ptr b] w fun e w' => e = .returned (.int .i64 (r.low : Int)) ∧ w = w' := by
  obtain ⟨g, off, cap, rfl, _, _, g1⟩ := h.num hk.ne
  rw [Nat.add_zero] at g1
  have c3 := h.c3
  have h0 := hk.ne
  have h1 : (0 : Int) < (r.nums.length : Int) := by omega
  have HL : Hid (r.low = r.nums.getD 0 0) := rfl
  clear h hk
  generalize r.nums.getD 0 0 = f at *
  generalize r.nums.length = N at *
  go_enter Tryz.func52, Tryz.ntmps52
  go_wp2
  go_ret
  rw [HL.out]
  exact ⟨rfl, rfl⟩
set_option maxRecDepth 100000 in
theorem rlast_any (h : RLt C w b c r vn va ua) (hk : ROk r) : Calls Tryz.prog 80 #[ptr b] w fun e w' => e = .returned (nmv (segN r.dir r.end_)) ∧ Below w.heap.size w w' := by
  have hN := hk.ne
  have hfew := hk.few
  obtain ⟨g, off, cap, rfl, hcap, hmax, g1⟩ := h.num (i := r.nums.length - 1) (by omega)
  have hmm := hk.num _ (mem_getD (l := r.nums) (i := r.nums.length - 1) (by omega))
  obtain ⟨m, hm⟩ : ∃ m, m = r.nums.getD (r.nums.length - 1) 0 := ⟨_, rfl⟩
  have HE : Hid (r.end_ = m) := Lib.hid (by rw [hm]; rfl)
  rw [← hm] at g1 hmm
  clear hm
  have c1 := h.c1
  have c3 := h.c3
  have HNV : Hid (nameV r.dir (m : Int) = (segN r.dir m, 0)) := Lib.hid (by
    unfold nameV
    rw [if_neg (by intro e; rcases e with e | e; (have := hk.dir.1; rw [e] at this; simp at this); (have := hk.dir.2; omega)), if_neg (by omega), Int.toNat_natCast])
  have HDM : Hid (r.dir.length ≤ maxLen) := Lib.hid (Nat.le_trans hk.dir.2 (by decide))
  have HM1 : Hid (-9223372036854775808 ≤ (m : Int)) := Lib.hid (by omega)
  have HM2 : Hid ((m : Int) ≤ 9223372036854775807) := Lib.hid (by omega)
  have HBS : Hid (b < w.drew.heap.size) := Lib.hid (World.block_lt_of_cell? _ _ c1)
  have HGS : Hid (g < w.drew.heap.size) := Lib.hid (World.block_lt_of_cell? _ _ g1)
  clear h hk hmm hcap hmax
  obtain ⟨N, hNe⟩ : ∃ N, r.nums.length = N := ⟨_, rfl⟩
  rw [hNe] at c3 g1 hN hfew
  clear hNe
  have hn1 : (0 : Int) ≤ (N : Int) - 1 := by omega
  have hn2 : (N : Int) - 1 < (N : Int) := by omega
  have hn4 : (1 : Int) ≤ (N : Int) := by omega
  have hn3 : ((N : Int) - 1).toNat = N - 1 := by omega
  have hw : IntKind.i64.wrap ((N : Int) - 1) = (N : Int) - 1 := by rw [wrap_in (by omega)]
  go_enter Tryz.func80, Tryz.ntmps80
  go_upto_region 1 with (fail)
  go_region_held (fun w' => w'.cell? ⟨b, 1, none⟩ = some (nmv r.dir) ∧ w'.cell? ⟨b, 3, none⟩ = some (.slice (some ⟨g, off, none⟩) N cap) ∧ w'.cell? ⟨g, off + (N - 1), none⟩ = some (.int .i64 (m : Int))) (exact ⟨c1, c3, g1⟩) (first
    | (go_at_call 22; (refine (rwname_any _ r.dir HDM.out (m : Int) HM1.out HM2.out).mono ?_); rw [HNV.out]; rintro e w2 ⟨rfl, hb⟩; have HB2 := Lib.hid hb; have c1 := (hb.cell (p := ⟨b, 1, none⟩) HBS.out).trans c1; have c3 := (hb.cell (p := ⟨b, 3, none⟩) HBS.out).trans c3; have g1 := (hb.cell (p := ⟨g, off + (N - 1), none⟩) HGS.out).trans g1; clear hb))
  go_wp2
  go_ret
  rw [HE.out]
  exact ⟨rfl, (Below.refl _ _).drew.trans HB2.out⟩
set_option maxRecDepth 100000 in
theorem rnext_any (h : RLt C w b c r vn va ua) (hk : ROk r) : Calls Tryz.prog 53 #[ptr b] w fun e w' => e = .returned (.int .i64 ((r.low + r.all.length : Nat) : Int)) ∧ Below w.heap.size w w' := by
  obtain ⟨g, off, cap, rfl, _, _, g1⟩ := h.num hk.ne
  obtain ⟨ao, capa, rfl, _, _, _, _⟩ := h.all.slice
  rw [Nat.add_zero] at g1
  have c3 := h.c3
  have c4 := h.c4
  have h0 := hk.ne
  have hall := hk.all
  have hfi := (hk.num _ (mem_getD (l := r.nums) (i := 0) hk.ne)).2
  have h1 : (0 : Int) < (r.nums.length : Int) := by omega
  have HL : Hid (r.low = r.nums.getD 0 0) := rfl
  clear h hk
  generalize r.nums.getD 0 0 = f at *
  generalize r.nums.length = N at *
  generalize r.all.length = M at *
  have hw : IntKind.i64.wrap ((f : Int) + (M : Int)) = (f : Int) + (M : Int) := wrap_in (by omega)
  go_enter Tryz.func53, Tryz.ntmps53
  go_upto_region 1 with (fail)
  go_region
  go_wp2
  go_ret
  rw [HL.out, Int.natCast_add]
  exact ⟨rfl, (Below.refl _ _).drew⟩
set_option maxRecDepth 100000 in
theorem rsafe_any (h : RLt C w b c r vn va ua) (hk : ROk r) : Calls Tryz.prog 54 #[ptr b] w fun e w' => e = .returned (.int .i64 ((max r.top (r.low - 1) : Nat) : Int)) ∧ Below w.heap.size w w' := by
  have c5 := h.c5
  have hlo := hk.num _ (mem_getD (l := r.nums) (i := 0) hk.ne)
  have HH := Lib.hid h
  have HK := Lib.hid hk
  have HL : Hid (r.low = r.nums.getD 0 0) := rfl
  have hw : IntKind.i64.wrap ((r.low : Int) - 1) = (r.low : Int) - 1 := wrap_in (by rw [HL.out]; omega)
  have hlo2 : 1 ≤ r.low := by rw [HL.out]; omega
  have HM : Hid (((max r.top (r.low - 1) : Nat) : Int) = max (r.top : Int) ((r.low : Int) - 1)) := Lib.hid (by omega)
  have hl : RLt C w.drew b c r vn va ua := h.below (Below.refl _ _).drew
  have hb0 : Below w.heap.size w w.drew := (Below.refl _ _).drew
  clear h hk hlo
  go_enter Tryz.func54, Tryz.ntmps54
  go_upto_region 1 with (fail)
  go_region_held (fun w' => w'.cell? ⟨b, 5, none⟩ = some (.int .i64 (r.top : Int)) ∧ RLt C w' b c r vn va ua ∧ Below w.heap.size w w') (exact ⟨c5, hl, hb0⟩) (first
    | (go_at_call 52; (refine (rfirst_any hl HK.out).mono ?_); rintro e w2 ⟨rfl, rfl⟩))
  go_wp2
  go_ret
  rw [HM.out]
  exact ⟨rfl, hb0⟩
end
end Go.Proofs.YtkilkhnoldfhcaaGreatDoor
namespace Go.Proofs.YtkilkhnoldfhcaaGreatDoor
open Go.RowKit
section
variable {C D S : Nat → Prop} {w w' : World} {b c : Nat} {r : Rl} {vn va : Value} {ua : List Value}
theorem RLt.ual (h : RLt C w b c r vn va ua) : ua.length = r.all.length := h.all.1
theorem RLt.row (h : RLt C w b c r vn va ua) {i : Nat} (hi : i < ua.length) : ∃ g off cap, va = .slice (some ⟨g, off, none⟩) r.all.length cap ∧ w.cell? ⟨g, off + i, none⟩ = some ua[i] := by
  have hl := h.ual
  obtain ⟨ao, cap, rfl, _, _, h3, h4⟩ := h.all.slice
  cases ao with
  | none => have := (h3 rfl).1; omega
  | some ad =>
    obtain ⟨g, off, rfl⟩ := h4 ad rfl
    refine ⟨g, off, cap, rfl, ?_⟩
    rw [(h.all.cell (by omega)).1]
    exact List.getElem?_eq_getElem hi
set_option maxRecDepth 100000 in
theorem rlread_any (h : RLt C w b c r vn va ua) (hk : ROk r) (k : Int) : Calls Tryz.prog 49 #[ptr b, .int .i64 k] w fun e w' =>
    Below w.heap.size w w' ∧ ((e = .returned (.tuple #[.slice none 0 0, .int .i64 8]) ∧ (k < (r.low : Int) ∨ ((r.low + r.all.length : Nat) : Int) ≤ k))
      ∨ ∃ i, ∃ h1 : i < ua.length, k = ((r.low + i : Nat) : Int) ∧ e = .returned (.tuple #[ua[i], .int .i64 0])) := by
  have HF : Hid (Calls Tryz.prog 52 #[ptr b] w fun e w' => e = .returned (.int .i64 (r.low : Int)) ∧ w = w') := Lib.hid (rfirst_any h hk)
  have HN : Hid (Calls Tryz.prog 53 #[ptr b] w fun e w' => e = .returned (.int .i64 ((r.low + r.all.length : Nat) : Int)) ∧ Below w.heap.size w w') := Lib.hid (rnext_any h hk)
  by_cases hlo : k < (r.low : Int)
  · have d1 : decide (k < (r.low : Int)) = true := decide_eq_true hlo
    clear h hk
    have HLO := Lib.hid hlo
    clear hlo
    go_enter Tryz.func49, Tryz.ntmps49
    go_wp2_with (go_at_call 52; (refine HF.out.mono ?_); rintro e w2 ⟨rfl, rfl⟩)
    go_ret2
    exact ⟨Below.refl _ _, Or.inl ⟨rfl, Or.inl HLO.out⟩⟩
  · have d1 : decide (k < (r.low : Int)) = false := decide_eq_false hlo
    by_cases hhi : ((r.low + r.all.length : Nat) : Int) ≤ k
    · have d2 : decide ((r.low : Int) + (r.all.length : Int) ≤ k) = true := decide_eq_true (by omega)
      have HHI := Lib.hid hhi
      clear h hk hlo hhi
      go_enter Tryz.func49, Tryz.ntmps49
      go_wp2_with (first | (go_at_call 52; (refine HF.out.mono ?_); rintro e w2 ⟨rfl, rfl⟩) | (go_at_call 53; (refine HN.out.mono ?_); rintro e w3 ⟨rfl, hb⟩; have HB := Lib.hid hb; clear hb))
      go_ret2
      exact ⟨HB.out, Or.inl ⟨rfl, Or.inr HHI.out⟩⟩
    · have d2 : decide ((r.low : Int) + (r.all.length : Int) ≤ k) = false := decide_eq_false (by omega)
      have hual := h.ual
      obtain ⟨i, hi⟩ : ∃ i : Nat, k = ((r.low + i : Nat) : Int) := ⟨(k - (r.low : Int)).toNat, by omega⟩
      have h1 : i < ua.length := by omega
      obtain ⟨g, off, cap, rfl, g1⟩ := h.row h1
      have c4 := h.c4
      have hall := hk.all
      have hia : (i : Int) < (r.all.length : Int) := by omega
      have hw : IntKind.i64.wrap (k - (r.low : Int)) = (i : Int) := by rw [wrap_in (by omega)]; omega
      have HQ : Hid (k = ((r.low + i : Nat) : Int)) := Lib.hid hi
      have HU : Hid (∃ h : i < ua.length, ua[i] = ua[i]) := Lib.hid ⟨h1, rfl⟩
      obtain ⟨u, hu⟩ : ∃ u, u = ua[i] := ⟨_, rfl⟩
      have HUU : Hid (∃ h : i < ua.length, u = ua[i]) := Lib.hid ⟨h1, hu⟩
      rw [← hu] at g1
      have H := Lib.hid h
      have HK := Lib.hid hk
      clear h hk hi hlo hhi hual h1 hu HU hall
      go_enter Tryz.func49, Tryz.ntmps49
      go_upto_region 3 with (first | (go_at_call 52; (refine HF.out.mono ?_); rintro e w2 ⟨rfl, rfl⟩) | (go_at_call 53; (refine HN.out.mono ?_); rintro e w3 ⟨rfl, hb⟩; have hl := H.out.below (hb.trans (Below.refl _ _).drew); have c4 := hl.c4; have g1 := (hb.cell (World.block_lt_of_cell? _ _ g1)).trans g1; have HB := Lib.hid hb; clear hb))
      go_region_held (fun w' => w'.cell? ⟨b, 4, none⟩ = some (.slice (some ⟨g, off, none⟩) r.all.length cap) ∧ w'.cell? ⟨g, off + i, none⟩ = some u ∧ RLt C w' b c r vn (.slice (some ⟨g, off, none⟩) r.all.length cap) ua) (exact ⟨c4, g1, hl⟩) (first
        | (go_at_call 52; (refine (rfirst_any hl HK.out).mono ?_); rintro e w2 ⟨rfl, rfl⟩))
      go_wp2
      go_ret2
      obtain ⟨h1, hu⟩ := HUU.out
      exact ⟨HB.out.drew, Or.inr ⟨i, h1, HQ.out, by rw [hu]; rfl⟩⟩
end
end Go.Proofs.YtkilkhnoldfhcaaGreatDoor
namespace Go.Proofs.YtkilkhnoldfhcaaGreatDoor
open Go.RowKit
/-- The document's log and its disk, in blocks from B on. -/
structure WR (B : Nat) (w : World) (b : Nat) (C : Nat → Prop) (r : Rl) (c : Nat) (S : Nat → Prop) (d : Dk) : Prop where
  lk : ∃ vn va ua, RLt C w b c r vn va ua
  dk : RK S w c d
  cb : ∀ k, C k → B ≤ k
  sb : ∀ k, S k → B ≤ k
  cs : ∀ k, C k → ¬ S k
section
variable {B : Nat} {w w' w1 : World} {b c : Nat} {C S D : Nat → Prop} {r r' : Rl} {d d' : Dk} {vn va : Value} {ua : List Value}
theorem WR.below (h : WR B w b C r c S d) (hb : Below w.heap.size w w') : WR B w' b C r c S d :=
  ⟨let ⟨_, _, _, hl⟩ := h.lk; ⟨_, _, _, hl.below hb⟩, h.dk.below hb, h.cb, h.sb, h.cs⟩
theorem WR.clt (h : WR B w b C r c S d) : ∀ k, C k → k < w.heap.size := let ⟨_, _, _, hl⟩ := h.lk; hl.lt
theorem WR.disk (h : WR B w b C r c S d) (hB : B ≤ w.heap.size) (hd : RK (Gw S w w') w' c d') (ht : Tn S w w') : WR B w' b C r c (Gw S w w') d' := by
  refine ⟨let ⟨_, _, _, hl⟩ := h.lk; ⟨_, _, _, hl.tn ht h.cs⟩, hd, h.cb, fun k hk => Gw.lo h.sb hB hk, fun k hk e => ?_⟩
  rcases e with e | e
  · exact h.cs k hk e
  · have := h.clt k hk; omega
theorem WR.log (h : WR B w b C r c S d) (hB : B ≤ w.heap.size) (hl : ∃ vn va ua, RLt (Gw C w w') w' b c r' vn va ua) (ht : Tn C w w') : WR B w' b (Gw C w w') r' c S d := by
  refine ⟨hl, h.dk.tn ht (fun k hk e => h.cs k e hk), fun k hk => Gw.lo h.cb hB hk, h.sb, fun k hk e => ?_⟩
  rcases hk with hk | hk
  · exact h.cs k hk e
  · have := h.dk.lt k e; omega
theorem RLt.grow (h : RLt C w b c r vn va ua) (hu : ∀ k, C k → D k) (hl : ∀ k, D k → k < w.heap.size) : RLt D w b c r vn va ua :=
  ⟨h.box, h.nums, h.all, fun i h1 h2 => let ⟨ao, cap, e, hs⟩ := h.rows i h1 h2; ⟨ao, cap, e, hs.mono fun k _ hk => ⟨hu k hk.1, hk.2⟩⟩, hu b h.cb, fun k hk => hu k (h.cn k hk), fun k hk => hu k (h.ca k hk), hl⟩
theorem OffR.ty {e n : Nat} {v : Value} {xs : List Value} (h : OffR w e v n xs) {k : Nat} (hk : v.ownBlock = some k) : ∃ cur, w.heap[k]? = some (.cells cur e (0, 0)) := by
  rcases h.2 with ⟨rfl, _⟩ | ⟨g, off, cap, cur, rfl, hg, _⟩
  · cases hk
  · obtain rfl : g = k := Option.some.inj hk
    exact ⟨cur, hg⟩
/-- Its last safe number is turned. -/
theorem RLt.ctl {t : Nat} (h : RLt C w b c r vn va ua) (ht : Tn (· = b) w w') (hb : w'.heap[b]? = some (.cells #[ptr c, nmv r.dir, .int .i64 r.seg, vn, va, .int .i64 (t : Int)] 118 (0, 0))) : RLt C w' b c { r with top := t } vn va ua := by
  have hx : ∀ {e n : Nat} {u : Value} {xs : List Value}, OffR w e u n xs → e ≠ 118 → ∀ k, u.ownBlock = some k → ¬ k = b := fun ho he k hk e2 => by
    obtain ⟨cur, hc⟩ := ho.ty hk
    rw [e2, h.box] at hc
    simp at hc
    exact he hc.2.symm
  exact ⟨hb, h.nums.tn ht (hx h.nums (by decide)), h.all.tn ht (hx h.all (by decide)), fun i h1 h2 => let ⟨ao, cap, e, hs⟩ := h.rows i h1 h2; ⟨ao, cap, e, hs.tn ht fun k hk => hk.2.1⟩, h.cb, h.cn, h.ca, fun k hk => Nat.lt_of_lt_of_le (h.lt k hk) ht.size⟩
/-- Log and disk stand so, and what has turned. -/
def RStood (C S : Nat → Prop) (B : Nat) (w : World) (b c : Nat) (r : Rl) (d : Dk) (w' : World) : Prop :=
  ∃ C' S', WR B w' b C' r c S' d ∧ Went (fun k => C k ∨ S k) w w' (fun k => C' k ∨ S' k)
def RLogged (C S : Nat → Prop) (B : Nat) (w : World) (b c : Nat) (x : Rl × Dk × Nat) (e : Ending) (w' : World) : Prop :=
  e = .returned (.int .i64 (x.2.2 : Int)) ∧ RStood C S B w b c x.1 x.2.1 w'
def Rl.next (r : Rl) : Nat := r.low + r.all.length
def Rl.sync (r : Rl) (d : Dk) : Rl × Dk × Nat :=
  if (d.sync (segN r.dir r.end_)).2 = 0 then ({ r with top := r.next - 1 }, (d.sync (segN r.dir r.end_)).1, 0) else (r, (d.sync (segN r.dir r.end_)).1, (d.sync (segN r.dir r.end_)).2)
set_option maxRecDepth 100000 in
set_option maxHeartbeats 4000000 in
theorem rlsync_any (h : WR B w b C r c S d) (hB : B ≤ w.heap.size) (hk : ROk r) (hd : d.done < 9223372036854775807) : Calls Tryz.prog 47 #[ptr b] w (RLogged C S B w b c (r.sync d)) := by
  obtain ⟨vn, va, ua, hl⟩ := h.lk
  have c0 := hl.c0
  have HW := Lib.hid (h.below (Below.refl _ w).drew)
  have HL := Lib.hid (hl.below (Below.refl _ w).drew)
  obtain ⟨vd, ud, hra⟩ := HW.out.dk
  have HD := Lib.hid hra
  have HBW : Hid (B ≤ w.drew.heap.size) := hB
  have HK := Lib.hid hk
  have HDN := Lib.hid hd
  have HCB := Lib.hid hl.cb
  have HBS : Hid (b < w.drew.heap.size) := hl.lt b hl.cb
  have hnl := (hk.num _ (mem_getD (l := r.nums) (i := 0) hk.ne))
  have hal := hk.all
  have HNX : Hid (1 ≤ r.low + r.all.length ∧ r.low + r.all.length ≤ 200000000) := Lib.hid (by
    have e : r.low = r.nums.getD 0 0 := rfl
    rw [e]
    omega)
  have HSY : Hid (r.sync d = if (d.sync (segN r.dir r.end_)).2 = 0 then ({ r with top := r.next - 1 }, (d.sync (segN r.dir r.end_)).1, 0) else (r, (d.sync (segN r.dir r.end_)).1, (d.sync (segN r.dir r.end_)).2)) := rfl
  clear h hB hk hd hl hnl hal hra
  have c0 : w.drew.cell? ⟨b, 0, none⟩ = some (ptr c) := c0
  generalize hq : d.sync (segN r.dir r.end_) = q at *
  go_enter Tryz.func47, Tryz.ntmps47
  go_upto_region 1 with (fail)
  go_region_held (fun w' => w'.cell? ⟨b, 0, none⟩ = some (ptr c)) (exact c0) (first
    | (go_at_call 80; (refine (rlast_any HL.out HK.out).mono ?_); rintro e w1 ⟨rfl, hq⟩; have HB1 := Lib.hid hq; have c0 := (HB1.out.cell (p := ⟨b, 0, none⟩) HBS.out).trans c0; clear hq)
    | (go_at_call 90; (refine (rsync_any (HD.out.below HB1.out) (segN r.dir r.end_) HDN.out).mono ?_); rintro e w2 ⟨rfl, hd, ht⟩; rw [hq] at hd ⊢; have HW2 := Lib.hid ((HW.out.below HB1.out).disk (Nat.le_trans HBW.out HB1.out.size) hd ht); have c0 := ht.cell c0 (HW.out.cs _ HCB.out); have HT2 := Lib.hid ht; clear hd ht))
  by_cases h0 : q.2 = 0
  · have hb : (((q.2 : Nat) : Int) == 0) = true := by rw [h0]; rfl
    have HR0 := Lib.hid h0
    obtain ⟨vn2, va2, ua2, hl2⟩ := HW2.out.lk
    have HL2 := Lib.hid hl2
    have hnx := HNX.out
    have hw : IntKind.i64.wrap ((r.low : Int) + (r.all.length : Int) - 1) = ((r.low + r.all.length - 1 : Nat) : Int) := by rw [wrap_in (by omega)]; omega
    clear h0 hl2 c0
    go_wp2_with (go_at_call 53; (refine (rnext_any HL2.out HK.out).mono ?_); rintro e w3 ⟨rfl, hb3⟩; have HB3 := Lib.hid hb3; have fz := frozen_zero (o := 5) (HL2.out.below hb3).box; have c5 := (HL2.out.below hb3).c5; clear hb3)
    go_ret
    rw [HSY.out, if_pos HR0.out]
    have hl3 := HL2.out.below HB3.out
    have ht : Tn (· = b) w3 (w3.setCell ⟨b, 5, none⟩ (.int .i64 ((r.low + r.all.length - 1 : Nat) : Int))) := tn_set (Tn.refl _ _) _
    have hl4 := hl3.ctl (t := r.low + r.all.length - 1) ht (heap_set hl3.box _ rfl)
    have hW3 := HW2.out.below HB3.out
    have htC : Tn C w3 (w3.setCell ⟨b, 5, none⟩ (.int .i64 ((r.low + r.all.length - 1 : Nat) : Int))) := ht.mono fun _ _ e => e ▸ HCB.out
    have hB3 : B ≤ w3.heap.size := Nat.le_trans HBW.out (Nat.le_trans HB1.out.size (Nat.le_trans HT2.out.size HB3.out.size))
    have hW4 := hW3.log hB3 ⟨_, _, _, hl4.grow (fun k hk => .inl hk) (fun k hk => Gw.size htC.size hW3.clt hk)⟩ htC
    exact ⟨congrArg (fun n : Nat => Ending.returned (.int .i64 (n : Int))) HR0.out, _, _, hW4, ((((went_below (Below.refl _ w).drew).trans (went_below HB1.out)).trans (went_disk HT2.out)).trans (went_below HB3.out)).trans (went_log htC)⟩
  · have hb : (((q.2 : Nat) : Int) == 0) = false := by simpa using h0
    have HR0 := Lib.hid h0
    clear h0
    go_wp2
    go_ret
    rw [HSY.out, if_neg HR0.out]
    exact ⟨rfl, _, _, HW2.out, ((went_below (Below.refl _ w).drew).trans (went_below HB1.out)).trans (went_disk HT2.out)⟩
end
end Go.Proofs.YtkilkhnoldfhcaaGreatDoor
namespace Go.Proofs.YtkilkhnoldfhcaaGreatDoor
open Go.RowKit
section
variable {w w' : World} {b c : Nat} {C S : Nat → Prop} {r : Rl} {vn va vn' va' : Value} {ua : List Value}
/-- Its numbers from place j on, its records from place k on. -/
theorem RLt.reslice {j k : Nat} (h : RLt C w b c r vn va ua)
    (hn : OffR w 3 vn' (r.nums.drop j).length ((r.nums.drop j).map fun (n : Nat) => Value.int .i64 (n : Int)))
    (ha : OffR w 36 va' (r.all.drop k).length (ua.drop k)) (en : vn'.ownBlock = vn.ownBlock) (ea : va'.ownBlock = va.ownBlock)
    (ht : Tn (· = b) w w') (hb : w'.heap[b]? = some (.cells #[ptr c, nmv r.dir, .int .i64 r.seg, vn', va', .int .i64 (r.top : Int)] 118 (0, 0))) :
    RLt C w' b c { r with nums := r.nums.drop j, all := r.all.drop k } vn' va' (ua.drop k) := by
  have hx : ∀ {e n : Nat} {u : Value} {xs : List Value}, OffR w e u n xs → e ≠ 118 → ∀ k, u.ownBlock = some k → ¬ k = b := fun ho he k hk e2 => by
    obtain ⟨cur, hc⟩ := ho.ty hk
    rw [e2, h.box] at hc
    simp at hc
    exact he hc.2.symm
  refine ⟨hb, hn.tn ht (hx hn (by decide)), ha.tn ht (hx ha (by decide)), fun i h1 h2 => ?_, h.cb, fun k hk => h.cn k (en ▸ hk), fun k hk => h.ca k (ea ▸ hk), fun k hk => Nat.lt_of_lt_of_le (h.lt k hk) ht.size⟩
  rw [List.length_drop] at h1
  have h2' : i < (r.all.drop k).length := h2
  rw [List.length_drop] at h2'
  obtain ⟨ao, cap, e, hs⟩ := h.rows (k + i) (by omega) (by omega)
  have e1 : (r.all.drop k)[i]'h2 = r.all[k + i]'(by omega) := List.getElem_drop
  refine ⟨ao, cap, ?_, ?_⟩
  · show (ua.drop k)[i]'_ = .slice ao ((r.all.drop k)[i]'h2).length cap
    rw [e1, List.getElem_drop]
    exact e
  · show SB (Free C b vn' va') w' ao ((r.all.drop k)[i]'h2).length cap ((r.all.drop k)[i]'h2)
    rw [e1]
    refine (hs.tn ht fun k hk => hk.2.1).mono fun k _ hk => ⟨hk.1, hk.2.1, ?_, ?_⟩
    · rw [en]; exact hk.2.2.1
    · rw [ea]; exact hk.2.2.2
end
/-- The document's Trim in plain terms, in at most n rounds. -/
def Rl.trimN (low : Int) : Nat → Rl → Dk → Rl × Dk × Nat
  | 0, r, d => (r, d, 0)
  | n + 1, r, d =>
    if 1 < r.nums.length ∧ ((r.nums.getD 1 0 : Nat) : Int) ≤ low then
      let e := d.remove (segN r.dir r.low)
      if e.2 = 0 then ({ r with nums := r.nums.drop 1, all := r.all.drop (r.nums.getD 1 0 - r.low) } : Rl).trimN low n e.1 else (r, e.1, e.2)
    else (r, d, 0)
end Go.Proofs.YtkilkhnoldfhcaaGreatDoor
namespace Go.Proofs.YtkilkhnoldfhcaaGreatDoor
open Go.RowKit
section
variable {w w1 w2 : World} {b c : Nat} {C D E : Nat → Prop} {r : Rl} {vn va vn' va' : Value} {ua : List Value}
theorem OffR.apart {e1 e2 n1 n2 : Nat} {v1 v2 : Value} {x1 x2 : List Value} (h1 : OffR w e1 v1 n1 x1) (h2 : OffR w e2 v2 n2 x2) (he : e1 ≠ e2) : ∀ k, v1.ownBlock = some k → ¬ v2.ownBlock = some k := fun k hk hk2 => by
  obtain ⟨c1, g1⟩ := h1.ty hk
  obtain ⟨c2, g2⟩ := h2.ty hk2
  rw [g1] at g2
  simp at g2
  exact he g2.2
theorem RLt.nb (h : RLt C w b c r vn va ua) {e n : Nat} {u : Value} {xs : List Value} (ho : OffR w e u n xs) (he : e ≠ 118) : ∀ k, u.ownBlock = some k → ¬ k = b := fun k hk e2 => by
  obtain ⟨cur, hc⟩ := ho.ty hk
  rw [e2, h.box] at hc
  simp at hc
  exact he hc.2.symm
/-- One more number. -/
theorem RLt.nums_push {n : Nat} (h : RLt C w b c r vn va ua) (hn : OffR w1 3 vn' (r.nums.length + 1) ((r.nums.map fun (n : Nat) => Value.int .i64 (n : Int)) ++ [.int .i64 (n : Int)]))
    (hg : w.grownBy w1 vn.ownBlock) (en : vn'.ownBlock = vn.ownBlock ∨ vn'.ownBlock = some w.heap.size) (ht : Tn (· = b) w1 w2) (hnb : ∀ k, vn'.ownBlock = some k → k < w1.heap.size)
    (hb : w2.heap[b]? = some (.cells #[ptr c, nmv r.dir, .int .i64 r.seg, vn', va, .int .i64 (r.top : Int)] 118 (0, 0))) :
    RLt (Gw C w w2) w2 b c { r with nums := r.nums ++ [n] } vn' va ua := by
  have hA : Tn (fun k => vn.ownBlock = some k) w w1 := (Tn.refl _ _).grown hg (fun k hk _ => hk)
  have hbs : b < w.heap.size := h.lt b h.cb
  have hn1 : ∀ k, vn'.ownBlock = some k → ¬ k = b := fun k hk e => by
    rcases en with e2 | e2
    · exact h.nb h.nums (by decide) k (e2 ▸ hk) e
    · rw [hk] at e2; have := Option.some.inj e2; omega
  have hall := h.all.tn hA (h.all.apart h.nums (by decide))
  refine ⟨hb, ?_, hall.tn ht (h.nb h.all (by decide)), fun i h1 h2 => ?_, .inl h.cb, fun k hk => ?_, fun k hk => .inl (h.ca k hk), fun k hk => Gw.size (Nat.le_trans hA.size ht.size) h.lt hk⟩
  · have := hn.tn ht hn1
    simpa using this
  · obtain ⟨ao, cap, e, hs⟩ := h.rows i h1 h2
    refine ⟨ao, cap, e, ((hs.tn hA fun k hk => hk.2.2.1).tn ht fun k hk => hk.2.1).mono fun k _ hk => ⟨.inl hk.1, hk.2.1, fun e2 => ?_, hk.2.2.2⟩⟩
    rcases en with e3 | e3
    · exact hk.2.2.1 (e3 ▸ e2)
    · rw [e2] at e3
      have := Option.some.inj e3
      have := h.lt k hk.1
      omega
  · rcases en with e2 | e2
    · exact .inl (h.cn k (e2 ▸ hk))
    · have h3 := hnb k hk
      rw [hk] at e2
      have := Option.some.inj e2
      exact .inr ⟨by omega, Nat.lt_of_lt_of_le h3 ht.size⟩
/-- One more record, whose bytes lie in blocks of E. -/
theorem RLt.all_push {p : List UInt8} {ao : Option Addr} {cap : Nat} (h : RLt C w b c r vn va ua)
    (hp : SB E w ao p.length cap p) (he : ∀ k, E k → D k ∧ ¬ C k) (hel : ∀ k, E k → k < w.heap.size)
    (ha : OffR w1 36 va' (r.all.length + 1) (ua ++ [.slice ao p.length cap]))
    (hg : w.grownBy w1 va.ownBlock) (en : va'.ownBlock = va.ownBlock ∨ va'.ownBlock = some w.heap.size) (ht : Tn (· = b) w1 w2)
    (hb : w2.heap[b]? = some (.cells #[ptr c, nmv r.dir, .int .i64 r.seg, vn, va', .int .i64 (r.top : Int)] 118 (0, 0)))
    (hu : ∀ k, C k → D k) (ho : ∀ k, va'.ownBlock = some k → D k) (hl : ∀ k, D k → k < w2.heap.size) :
    RLt D w2 b c { r with all := r.all ++ [p] } vn va' (ua ++ [.slice ao p.length cap]) := by
  have hA : Tn (fun k => va.ownBlock = some k) w w1 := (Tn.refl _ _).grown hg (fun k hk _ => hk)
  have hbs : b < w.heap.size := h.lt b h.cb
  have hn1 : ∀ k, va'.ownBlock = some k → ¬ k = b := fun k hk e => by
    rcases en with e2 | e2
    · exact h.nb h.all (by decide) k (e2 ▸ hk) e
    · rw [hk] at e2; have := Option.some.inj e2; omega
  have hnw : ∀ k, k < w.heap.size → va.ownBlock ≠ some k → va'.ownBlock ≠ some k := fun k hk h1 h2 => by
    rcases en with e3 | e3
    · exact h1 (e3 ▸ h2)
    · rw [h2] at e3
      have := Option.some.inj e3
      omega
  have hnums := h.nums.tn hA (h.nums.apart h.all (by decide))
  refine ⟨hb, hnums.tn ht (h.nb h.nums (by decide)), ?_, fun i h1 h2 => ?_, hu b h.cb, fun k hk => hu k (h.cn k hk), ho, hl⟩
  · have := ha.tn ht hn1
    simpa using this
  · have hal := h.ual
    by_cases hi : i < r.all.length
    · obtain ⟨ao2, cap2, e, hs⟩ := h.rows i (by omega) hi
      have e1 : (r.all ++ [p])[i]'h2 = r.all[i] := List.getElem_append_left hi
      refine ⟨ao2, cap2, ?_, ?_⟩
      · show (ua ++ [_])[i]'h1 = .slice ao2 ((r.all ++ [p])[i]'h2).length cap2
        rw [e1, List.getElem_append_left (by omega)]
        exact e
      · show SB (Free D b vn va') w2 ao2 ((r.all ++ [p])[i]'h2).length cap2 ((r.all ++ [p])[i]'h2)
        rw [e1]
        exact ((hs.tn hA fun k hk => hk.2.2.2).tn ht fun k hk => hk.2.1).mono fun k _ hk => ⟨hu k hk.1, hk.2.1, hk.2.2.1, hnw k (h.lt k hk.1) hk.2.2.2⟩
    · have h2' : i < (r.all ++ [p]).length := h2
      rw [List.length_append] at h2'
      have hi2 : i = r.all.length := by simp at h2'; omega
      subst hi2
      have e1 : (r.all ++ [p])[r.all.length]'h2 = p := by simp
      refine ⟨ao, cap, ?_, ?_⟩
      · show (ua ++ [_])[r.all.length]'h1 = .slice ao ((r.all ++ [p])[r.all.length]'h2).length cap
        rw [e1, List.getElem_append_right (by omega)]
        simp [hal]
      · show SB (Free D b vn va') w2 ao ((r.all ++ [p])[r.all.length]'h2).length cap ((r.all ++ [p])[r.all.length]'h2)
        rw [e1]
        refine ((hp.tn hA fun k hk hk2 => (he k hk).2 (h.ca k hk2)).tn ht fun k hk e => (he k hk).2 (e ▸ h.cb)).mono fun k _ hk => ⟨(he k hk).1, fun e => (he k hk).2 (e ▸ h.cb), fun e => (he k hk).2 (h.cn k e), hnw k (hel k hk) fun e => (he k hk).2 (h.ca k e)⟩
end
end Go.Proofs.YtkilkhnoldfhcaaGreatDoor
