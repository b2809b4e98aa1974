/- raceref7's log in memory: its rows grown by many (Open). Conditions: a log as it lies. raceref7.Open. Conditions: a disk of few bytes. -/
import Derived.Test.YtkilkhnoldfhcaaGreatDoorLzg
import Derived.Deep.Upon
namespace Go.Proofs.YtkilkhnoldfhcaaGreatDoor
open Go.RowKit
section
/-- append of the rows of an own row onto a row. -/
theorem run_append_rows {w : World} {ty : TypeId} {v : Value} {n : Nat} {xs : List Value} (hown : OffR w 36 v n xs) {base : Nat} {u : Value} {m : Nat} {news : List Value} (hu : w.ownsRow base 36 1 u m news) (h1 : ∀ y ∈ news, y.oneCell' = true) (hn : n ≤ 50000000) (hm : m ≤ 50000000) :
    ∃ v' w', (Builtin.append_ #[57, 57] ty #[v, u]).run Tryz.prog w = .ok v' w' ∧ OffR w' 36 v' (n + m) (xs ++ news) ∧ w.grownBy w' v.ownBlock ∧ (v'.ownBlock = v.ownBlock ∨ v'.ownBlock = some w.heap.size) := by
  obtain ⟨i0, hi, hz0, hz1, hz2⟩ := info_parts info36
  have hl := hu.1
  rw [Nat.mul_one] at hl
  obtain ⟨ao, cap, rfl, hcap, _, hnil, hsome⟩ := (OffR.of_own hu).slice
  cases ao with
  | some ad =>
    obtain ⟨g, off, rfl⟩ := hsome ad rfl
    refine run_append_off (P := Tryz.prog) (w := w) (ty := ty) under57 hi hz0 hz1 hz2 rfl hown (ad := ⟨g, off, none⟩) (m := m) (c := cap) (news := news) hl (fun j y hy => ?_) h1 (by unfold maxLen; omega) (by omega)
    have hj : j < m := by rw [← hl]; exact (List.getElem?_eq_some_iff.1 hy).1
    rw [Addr.add_lit, ((OffR.of_own hu).cell hj).1, hy]
  | none =>
    obtain ⟨rfl, rfl⟩ := hnil rfl
    obtain rfl : news = [] := List.eq_nil_of_length_eq_zero hl
    obtain ⟨ao2, cap2, rfl, hc2, _⟩ := hown.slice
    exact ⟨_, _, run_append_nothing w 57 57 ty 36 i0 under57 hi ao2 n cap2 hc2 (.slice none 0 0) (Src.ofNil w under57 0), by rw [Nat.add_zero, List.append_nil]; exact hown, ⟨rfl, rfl, rfl, Nat.le_refl _, fun _ _ _ => rfl⟩, .inl rfl⟩
end
section
variable {w w1 w2 : World} {b c : Nat} {C D E : Nat → Prop} {r : Rl} {vn va va' : Value} {ua us : List Value} {L : List (List UInt8)}
/-- Many more records, whose bytes lie in blocks of E. -/
theorem RLt.all_cat (h : RLt C w b c r vn va ua) (hus : us.length = L.length)
    (hp : ∀ i (h1 : i < us.length) (h2 : i < L.length), ∃ ao cap, us[i] = .slice ao L[i].length cap ∧ SB E w ao L[i].length cap L[i]) (he : ∀ k, E k → D k ∧ ¬ C k) (hel : ∀ k, E k → k < w.heap.size)
    (ha : OffR w1 36 va' (r.all.length + L.length) (ua ++ us))
    (hg : w.grownBy w1 va.ownBlock) (en : va'.ownBlock = va.ownBlock ∨ va'.ownBlock = some w.heap.size) (ht : Tn (· = b) w1 w2)
    (hb : w2.heap[b]? = some (.cells #[ptr c, nmv r.dir, .int .i64 r.seg, vn, va', .int .i64 (r.top : Int)] 118 (0, 0)))
    (hu : ∀ k, C k → D k) (ho : ∀ k, va'.ownBlock = some k → D k) (hl : ∀ k, D k → k < w2.heap.size) :
    RLt D w2 b c { r with all := r.all ++ L } vn va' (ua ++ us) := by
  have hA : Tn (fun k => va.ownBlock = some k) w w1 := (Tn.refl _ _).grown hg (fun k hk _ => hk)
  have hbs : b < w.heap.size := h.lt b h.cb
  have hn1 : ∀ k, va'.ownBlock = some k → ¬ k = b := fun k hk e => by
    rcases en with e2 | e2
    · exact h.nb h.all (by decide) k (e2 ▸ hk) e
    · rw [hk] at e2; have := Option.some.inj e2; omega
  have hnw : ∀ k, k < w.heap.size → va.ownBlock ≠ some k → va'.ownBlock ≠ some k := fun k hk h1 h2 => by
    rcases en with e3 | e3
    · exact h1 (e3 ▸ h2)
    · rw [h2] at e3
      have := Option.some.inj e3
      omega
  have hnums := h.nums.tn hA (h.nums.apart h.all (by decide))
  refine ⟨hb, hnums.tn ht (h.nb h.nums (by decide)), ?_, fun i h1 h2 => ?_, hu b h.cb, fun k hk => hu k (h.cn k hk), ho, hl⟩
  · have := ha.tn ht hn1
    simpa using this
  · have hal := h.ual
    have h1' : i < (ua ++ us).length := h1
    have h2' : i < (r.all ++ L).length := h2
    rw [List.length_append] at h1' h2'
    by_cases hi : i < r.all.length
    · obtain ⟨ao2, cap2, e, hs⟩ := h.rows i (by omega) hi
      have e1 : (r.all ++ L)[i]'h2 = r.all[i] := List.getElem_append_left hi
      refine ⟨ao2, cap2, ?_, ?_⟩
      · show (ua ++ us)[i]'h1 = .slice ao2 ((r.all ++ L)[i]'h2).length cap2
        rw [e1, List.getElem_append_left (by omega)]
        exact e
      · show SB (Free D b vn va') w2 ao2 ((r.all ++ L)[i]'h2).length cap2 ((r.all ++ L)[i]'h2)
        rw [e1]
        exact ((hs.tn hA fun k hk => hk.2.2.2).tn ht fun k hk => hk.2.1).mono fun k _ hk => ⟨hu k hk.1, hk.2.1, hk.2.2.1, hnw k (h.lt k hk.1) hk.2.2.2⟩
    · obtain ⟨ao2, cap2, e, hs⟩ := hp (i - ua.length) (by omega) (by omega)
      have e1 : (r.all ++ L)[i]'h2 = L[i - ua.length]'(by omega) := by rw [List.getElem_append_right (by omega)]; simp only [hal]
      refine ⟨ao2, cap2, ?_, ?_⟩
      · show (ua ++ us)[i]'h1 = .slice ao2 ((r.all ++ L)[i]'h2).length cap2
        rw [e1, List.getElem_append_right (by omega)]
        exact e
      · show SB (Free D b vn va') w2 ao2 ((r.all ++ L)[i]'h2).length cap2 ((r.all ++ L)[i]'h2)
        rw [e1]
        refine ((hs.tn hA fun k hk hk2 => (he k hk).2 (h.ca k hk2)).tn ht fun k hk e => (he k hk).2 (e ▸ h.cb)).mono fun k _ hk => ⟨(he k hk).1, fun e => (he k hk).2 (e ▸ h.cb), fun e => (he k hk).2 (h.cn k e), hnw k (hel k hk) fun e => (he k hk).2 (h.ca k e)⟩
end
end Go.Proofs.YtkilkhnoldfhcaaGreatDoor
namespace Go.Proofs.YtkilkhnoldfhcaaGreatDoor
open Go.RowKit
/-- What the document's Open answers, and how log and disk stand. -/
def ROpened (S : Nat → Prop) (B : Nat) (w : World) (c : Nat) (x : Option Lg × Dk × Nat) (e : Ending) (w' : World) : Prop :=
  match x.1 with
  | some lg => x.2.2 = 0 ∧ ∃ b C' S', e = .returned (.tuple #[ptr b, .int .i64 0]) ∧ WR B w' b C' lg.ref c S' x.2.1 ∧ Went S w w' (fun k => C' k ∨ S' k)
  | none => x.2.2 ≠ 0 ∧ e = .returned (.tuple #[.pointer none, .int .i64 (x.2.2 : Int)]) ∧ ∃ S', RK S' w' c x.2.1 ∧ (∀ k, S' k → B ≤ k) ∧ Went S w w' S'
section
variable {S : Nat → Prop} {B : Nat} {w w' w1 : World} {b c : Nat} {d d' : Dk} {dir : Nm} {C : Nat → Prop} {r : Rl} {lg : Lg}
theorem ropened_none {k : Nat} (hk : k ≠ 0) (hd : RK S w c d) (hS : ∀ j, S j → B ≤ j) (hb : Below w.heap.size w w') : ROpened S B w c (none, d, k) (.returned (.tuple #[.pointer none, .int .i64 (k : Int)])) w' :=
  ⟨hk, rfl, S, hd.below hb, hS, went_below hb⟩
/-- A new log's struct. -/
theorem new_rlog (h : RK S w c d) (hS : ∀ k, S k → B ≤ k) (hB : B ≤ w.heap.size) (dir : Nm) (full : Int) :
    WR B (w.alloc (.cells #[ptr c, nmv dir, .int .i64 full, .slice none 0 0, .slice none 0 0, .int .i64 0] 118)) w.heap.size (· = w.heap.size) ⟨dir, full, [], [], 0⟩ c S d := by
  have hb := below1 w (.cells #[ptr c, nmv dir, .int .i64 full, .slice none 0 0, .slice none 0 0, .int .i64 0] 118)
  refine ⟨⟨.slice none 0 0, .slice none 0 0, [], heap_alloc_new w _, ⟨rfl, .inl ⟨rfl, rfl⟩⟩, ⟨rfl, .inl ⟨rfl, rfl⟩⟩, fun i h1 _ => (by simp at h1), rfl, fun k hk => (by cases hk), fun k hk => (by cases hk), fun k hk => (by rw [hk]; simp)⟩, h.below hb, fun k hk => (by rw [hk]; exact hB), hS, fun k hk e => by rw [hk] at e; have := h.lt _ e; omega⟩
theorem wpList_append_off {ops : Array Oper} {rest : List Oper} {o : Oper} {a : Act} {w : World} {Q : Exit → Act → World → Prop} {t e : TypeId} {z : Value} {bytes : Nat}
    (ht : Tryz.prog.underlying t = some (.slice e)) (hinf : (Tryz.prog.info? e).map (fun i => (i.zero, i.size, i.bytes)) = some (some z, 1, bytes)) (hzs : z.cells.size = 1) (hby : bytes ≤ 24)
    (hw : Region.wanted o (yielded ops a.tmps) = true) (s x : Operand)
    (ho : o.op = .call { callee := .builtin .append, args := #[s, x], argTypes := #[t, t] })
    {v : Value} {n : Nat} {us : List Value} {u : Value} {b : Nat} (hs : a.eval s = v) (hown : OffR w e v n us) (hx : a.eval x = .slice (some ⟨b, 0, none⟩) 1 1) (hm : w.heap[b]? = some (.cells #[u] e (0, 0)))
    (h1 : u.oneCell' = true) (hroom : n ≤ 100000000)
    (h : ∀ v' w', OffR w' e v' (n + 1) (us ++ [u]) → w.grownBy w' v.ownBlock → (v'.ownBlock = v.ownBlock ∨ v'.ownBlock = some w.heap.size) → wpList Tryz.prog ops Q rest (a.put o.dst v') w') : wpList Tryz.prog ops Q (o :: rest) a w := by
  refine wpList_step fun K hK => ?_
  exact oper_append_off ht hinf hzs hby hw s x ho hs hown hx hm h1 hroom (fun v' w' h2 h3 h5 => hK _ _ (h v' w' h2 h3 h5))
theorem wpList_append_rows {ops : Array Oper} {rest : List Oper} {o : Oper} {a : Act} {w : World} {Q : Exit → Act → World → Prop}
    (hw : Region.wanted o (yielded ops a.tmps) = true) (s x : Operand)
    (ho : o.op = .call { callee := .builtin .append, args := #[s, x], argTypes := #[57, 57] })
    {v u : Value} {n m base : Nat} {us news : List Value} (hs : a.eval s = v) (hown : OffR w 36 v n us) (hx : a.eval x = u) (hu : w.ownsRow base 36 1 u m news)
    (h1 : ∀ y ∈ news, y.oneCell' = true) (hn : n ≤ 50000000) (hm : m ≤ 50000000)
    (h : ∀ v' w', OffR w' 36 v' (n + m) (us ++ news) → w.grownBy w' v.ownBlock → (v'.ownBlock = v.ownBlock ∨ v'.ownBlock = some w.heap.size) → wpList Tryz.prog ops Q rest (a.put o.dst v') w') : wpList Tryz.prog ops Q (o :: rest) a w := by
  refine wpList_step fun K hK => ?_
  obtain ⟨v', w', hr, h2, h3, h5⟩ := run_append_rows (ty := o.type) hown hu h1 hn hm
  rw [if_pos hw]
  unfold Oper.wp execOp
  simp only [ho, resolve, invoke, builtin, Sem.run_bind, Sem.run_pure, Result.andThen_ok, List.map_toArray, List.map_cons, List.map_nil, hs, hx, hr]
  exact hK _ _ (h v' w' h2 h3 h5)
section
variable {S : Nat → Prop} {B : Nat} {w w5 w7 w8 : World} {b c : Nat} {d : Dk} {dir : Nm} {full : Int} {C : Nat → Prop} {r : Rl} {vn va v8 : Value} {ua us : List Value} {L : List (List UInt8)}
theorem rs_one {B : Nat} {w : World} {v : Value} {us : List Value} {L : List (List UInt8)} (h : Fr.Rs B w v us L) : ∀ y ∈ us, y.oneCell' = true := fun y hy => by
  obtain ⟨i, hi, rfl⟩ := List.mem_iff_getElem.1 hy
  have h3 := h.row i (by rw [← h.len]; exact hi)
  rw [List.getD_eq_getElem?_getD, List.getElem?_eq_getElem hi] at h3
  have h3 : w.ownsRow B 5 1 us[i] _ _ := h3
  obtain ⟨ao, cap, e⟩ := own_slice h3
  rw [e]
  rfl
theorem rs_mono {B B' : Nat} {w : World} {v : Value} {us : List Value} {L : List (List UInt8)} (h : Fr.Rs B w v us L) (hb : B' ≤ B) : Fr.Rs B' w v us L := ⟨own_mono h.own hb, fun i hi => own_mono (h.row i hi) hb, h.dis⟩
theorem ch_rok {lg : Lg} {lo : Nat} {all : List (List UInt8)} (h : Ch lg lo all) (hw : wt all ≤ 5000000) : ROk lg.ref := by
  have h3 := recs_size ⟨0, all⟩
  have h4 : (⟨0, all⟩ : Sg).size = wt all := rfl
  have h5 : all.length * 12 ≤ wt all := by rw [← h4]; exact h3
  have hs := h.safe
  have hp := h.pos
  refine ⟨h.ok.dir, by show 0 < (lg.segs.map Sg.first).length; rw [List.length_map]; exact h.ok.ne, by show (lg.segs.map Sg.first).length ≤ _; rw [List.length_map]; exact h.ok.few, fun n hn => ?_, by rw [h.ref_all]; omega, by show lg.safe ≤ _; omega⟩
  obtain ⟨g, hg, rfl⟩ := List.mem_map.1 hn
  exact h.ok.num g hg
/-- The log's first number is laid. -/
theorem rone_end (hW : WR B w5 b C ⟨dir, full, [], [], 0⟩ c S d) (hB : B ≤ w5.heap.size) (hl : RLt C w5 b c ⟨dir, full, [], [], 0⟩ vn va ua) :
    WR B ((w5.alloc (.cells #[.int .i64 1] 3)).setCell ⟨b, 3, none⟩ (.slice (some ⟨w5.heap.size, 0, none⟩) 1 1)) b (Gw C w5 ((w5.alloc (.cells #[.int .i64 1] 3)).setCell ⟨b, 3, none⟩ (.slice (some ⟨w5.heap.size, 0, none⟩) 1 1))) ⟨dir, full, [1], [], 0⟩ c S d ∧
      Tn C w5 ((w5.alloc (.cells #[.int .i64 1] 3)).setCell ⟨b, 3, none⟩ (.slice (some ⟨w5.heap.size, 0, none⟩) 1 1)) := by
  have hba := below1 w5 (.cells #[.int .i64 1] 3)
  have hlA := hl.below hba
  have hbs := hl.lt b hl.cb
  have ht : Tn (· = b) (w5.alloc (.cells #[.int .i64 1] 3)) ((w5.alloc (.cells #[.int .i64 1] 3)).setCell ⟨b, 3, none⟩ (.slice (some ⟨w5.heap.size, 0, none⟩) 1 1)) := tn_set (Tn.refl _ _) _
  have htC : Tn C w5 ((w5.alloc (.cells #[.int .i64 1] 3)).setCell ⟨b, 3, none⟩ (.slice (some ⟨w5.heap.size, 0, none⟩) 1 1)) := (Tn.of_below (S := C) hba).trans (ht.mono fun k hk e => e ▸ hl.cb) (fun _ _ h => h)
  have hn : OffR (w5.alloc (.cells #[.int .i64 1] 3)) 3 (.slice (some ⟨w5.heap.size, 0, none⟩) 1 1) 1 [.int .i64 1] := ⟨rfl, .inr ⟨w5.heap.size, 0, 1, #[.int .i64 1], rfl, heap_alloc_new w5 _, Nat.le_refl _, by decide, Nat.le_refl _, rfl⟩⟩
  refine ⟨hW.log hB ⟨_, _, _, ⟨heap_set hlA.box (o := 3) _ rfl, hn.tn ht (fun k hk e => ?_), hlA.all.tn ht (hlA.nb hlA.all (by decide)), fun i h1 h2 => absurd h2 (Nat.not_lt_zero i), .inl hl.cb, fun k hk => .inr ?_, fun k hk => .inl (hl.ca k hk), fun k hk => Gw.size htC.size hl.lt hk⟩⟩ htC, htC⟩
  · obtain rfl : w5.heap.size = k := Option.some.inj hk
    omega
  · obtain rfl : w5.heap.size = k := Option.some.inj hk
    have := ht.size
    have h2 : w5.heap.size < (w5.alloc (.cells #[.int .i64 1] 3)).heap.size := by simp
    exact ⟨Nat.le_refl _, by omega⟩
/-- Many records more. -/
theorem rcat_end (hW : WR B w5 b C r c S d) (hB : B ≤ w5.heap.size) (hl : RLt C w5 b c r vn va ua) (hb : Below w5.heap.size w5 w7) {u : Value} (hr : Fr.Rs w5.heap.size w7 u us L)
    (ha : OffR w8 36 v8 (r.all.length + L.length) (ua ++ us)) (hg : w7.grownBy w8 va.ownBlock) (en : v8.ownBlock = va.ownBlock ∨ v8.ownBlock = some w7.heap.size) :
    WR B (w8.setCell ⟨b, 4, none⟩ v8) b (Gw C w5 (w8.setCell ⟨b, 4, none⟩ v8)) { r with all := r.all ++ L } c S d ∧ Tn C w5 (w8.setCell ⟨b, 4, none⟩ v8) := by
  have hlA := hl.below hb
  have hbx := hl.box8 hb (.inr rfl) hg
  have ht : Tn (· = b) w8 (w8.setCell ⟨b, 4, none⟩ v8) := tn_set (Tn.refl _ _) _
  have hA : Tn (fun k => va.ownBlock = some k) w7 w8 := (Tn.refl _ _).grown hg (fun k hk _ => hk)
  have hsz : w5.heap.size ≤ w7.heap.size := hb.size
  have hsz8 : w7.heap.size ≤ w8.heap.size := hA.size
  have hsz9 : w8.heap.size ≤ (w8.setCell ⟨b, 4, none⟩ v8).heap.size := ht.size
  have htC : Tn C w5 (w8.setCell ⟨b, 4, none⟩ v8) := ((Tn.of_below (S := C) hb).trans (hA.mono fun k hk e => hl.ca k e) (fun _ _ h => h)).trans (ht.mono fun k hk e => e ▸ hl.cb) (fun _ _ h => h)
  have hul := hr.len
  have hR : RLt (Gw C w5 (w8.setCell ⟨b, 4, none⟩ v8)) (w8.setCell ⟨b, 4, none⟩ v8) b c { r with all := r.all ++ L } vn v8 (ua ++ us) :=
    hlA.all_cat (E := fun k => w5.heap.size ≤ k ∧ k < w7.heap.size) hul (fun i h1 h2 => by
      have h3 := hr.row i h2
      rw [List.getD_eq_getElem?_getD, List.getElem?_eq_getElem h1, List.getD_eq_getElem?_getD, List.getElem?_eq_getElem h2] at h3
      have h3 : w7.ownsRow w5.heap.size 5 1 us[i] L[i].length (bys L[i]) := h3
      obtain ⟨ao, cap, e⟩ := own_slice h3
      rw [e] at h3
      exact ⟨ao, cap, e, (own_sb h3).mono fun k _ hk => h3.lt k hk⟩) (fun k hk => ⟨.inr ⟨hk.1, by omega⟩, fun e => by have := hl.lt k e; omega⟩) (fun k hk => hk.2) ha hg en ht (heap_set hbx _ rfl) (fun k hk => .inl hk) (fun k hk => by
      rcases en with e | e
      · exact .inl (hl.ca k (e ▸ hk))
      · rw [hk] at e
        have := Option.some.inj e
        have := ha.lt hk
        exact .inr ⟨by omega, by omega⟩) (fun k hk => Gw.size htC.size hl.lt hk)
  exact ⟨hW.log hB ⟨_, _, _, hR⟩ htC, htC⟩
end
set_option maxRecDepth 100000 in
set_option maxHeartbeats 8000000 in
theorem rlopen_any (h : RK S w c d) (hok : Ok d) (hS : ∀ k, S k → B ≤ k) (hB : B ≤ w.heap.size) (dir : Nm) (hdl : dir.length ≤ 1000) (full : Int) (hroom : tot d.f ≤ 60000) (hd : d.done ≤ 1000000000) :
    Calls Tryz.prog 41 #[ptr c, nmv dir, .int .i64 full] w (ROpened S B w c (openL dir full d)) := by
  have HR0 := Lib.hid h
  have HS := Lib.hid hS
  have HB := Lib.hid hB
  have HOK := Lib.hid hok
  have HRM := Lib.hid hroom
  have HDN := Lib.hid hd
  obtain ⟨vd, ud, hra⟩ := h
  have HRA := Lib.hid hra
  have o1 := hra.c1
  have HDLM : Hid (dir.length ≤ maxLen) := Lib.hid (Nat.le_trans hdl (by decide))
  clear hS hB hok hroom hd hra
  by_cases hd1 : dir.length < 1
  · have e : openL dir full d = (none, d, 10) := by unfold openL; rw [if_pos (.inl (List.eq_nil_of_length_eq_zero (by omega)))]
    rw [e]
    have d1 : decide ((dir.length : Int) < 1) = true := decide_eq_true (by omega)
    clear hd1 e
    go_enter Tryz.func41, Tryz.ntmps41
    go_wp2
    go_ret2
    exact ropened_none (by decide) HR0.out HS.out (Below.refl _ _)
  have d1 : decide ((dir.length : Int) < 1) = false := decide_eq_false (by omega)
  by_cases hd2 : 11 < dir.length
  · have e : openL dir full d = (none, d, 10) := by unfold openL; rw [if_pos (.inr hd2)]
    rw [e]
    have d2 : decide ((11 : Int) < (dir.length : Int)) = true := decide_eq_true (by omega)
    clear hd1 hd2 e
    go_enter Tryz.func41, Tryz.ntmps41
    go_wp2
    go_ret2
    exact ropened_none (by decide) HR0.out HS.out (Below.refl _ _)
  have d2 : decide ((11 : Int) < (dir.length : Int)) = false := decide_eq_false (by omega)
  have hdir : 1 ≤ dir.length ∧ dir.length ≤ 11 := by omega
  have hnd : ¬ (dir = [] ∨ 11 < dir.length) := by
    rintro (e | e)
    · rw [e] at hdir; simp at hdir
    · omega
  have HDIR := Lib.hid hdir
  clear hd1 hd2 hdir hdl
  by_cases hf1 : full < 64
  · have e : openL dir full d = (none, d, 1) := by unfold openL; rw [if_neg hnd, if_pos (.inl hf1)]
    rw [e]
    have d3 : decide (full < 64) = true := decide_eq_true hf1
    clear hf1 e hnd
    go_enter Tryz.func41, Tryz.ntmps41
    go_wp2
    go_ret2
    exact ropened_none (by decide) HR0.out HS.out (Below.refl _ _)
  have d3 : decide (full < 64) = false := decide_eq_false hf1
  by_cases hf2 : 262144 < full
  · have e : openL dir full d = (none, d, 1) := by unfold openL; rw [if_neg hnd, if_pos (.inr hf2)]
    rw [e]
    have d4 : decide (262144 < full) = true := decide_eq_true hf2
    clear hf1 hf2 e hnd
    go_enter Tryz.func41, Tryz.ntmps41
    go_wp2
    go_ret2
    exact ropened_none (by decide) HR0.out HS.out (Below.refl _ _)
  have d4 : decide (262144 < full) = false := decide_eq_false hf2
  have hnf : ¬ (full < 64 ∨ 262144 < full) := by omega
  have HFT : Hid (((full.toNat : Nat) : Int) = full) := Lib.hid (by omega)
  clear hf1 hf2
  by_cases hoff : d.off = true
  · have e : openL dir full d = (none, d, 12) := by unfold openL; rw [if_neg hnd, if_neg hnf, if_pos hoff]
    rw [e]
    rw [hoff] at o1
    clear e hnd hnf hoff
    go_enter Tryz.func41, Tryz.ntmps41
    go_wp2
    go_ret2
    exact ropened_none (by decide) HR0.out HS.out (Below.refl _ _)
  have he : openL dir full d = Lg.start ⟨dir, full.toNat, [], 0⟩ d := by unfold openL; rw [if_neg hnd, if_neg hnf, if_neg hoff]
  rw [not_true hoff] at o1
  rw [he]
  clear he hnd hnf hoff
  have HWL := Lib.hid (new_rlog HR0.out HS.out HB.out dir full)
  go_enter Tryz.func41, Tryz.ntmps41
  go_upto_region 8 with (fail)
  have hwl := HWL.out
  obtain ⟨w8, hw8⟩ : ∃ w8, w8 = w.alloc (.cells #[ptr c, nmv dir, .int .i64 full, .slice none 0 0, .slice none 0 0, .int .i64 0] 118) := ⟨_, rfl⟩
  obtain ⟨b, hb⟩ : ∃ b, b = w.heap.size := ⟨_, rfl⟩
  have HB8 : Hid (Below w.heap.size w w8) := Lib.hid (by rw [hw8]; exact below1 _ _)
  have HBB : Hid (w.heap.size ≤ b) := Lib.hid (by rw [hb]; exact Nat.le_refl _)
  rw [← hw8, ← hb] at hwl ⊢
  have HW8 := Lib.hid hwl
  have HRA8 := Lib.hid (HRA.out.below HB8.out)
  have HBW8 : Hid (B ≤ w8.heap.size) := Nat.le_trans HB.out HB8.out.size
  have HNL : Hid ((names d.f).length = d.f.length) := Lib.hid (by rw [length_names])
  have HFEW : Hid (d.f.length ≤ 64) := HOK.out.few
  have HDL2 : Hid (dir.length ≤ 1000) := Lib.hid (by have := HDIR.out; omega)
  have HG8 : Hid (Went S w w8 (fun k => k = b ∨ S k)) := ⟨Tn.of_below HB8.out, fun k hk => hk.elim (fun e => .inr (e ▸ HBB.out)) .inl⟩
  clear hwl hw8 hb HWL
  go_wp2_with (go_at_call 78; (refine (rlist_any HRA8.out).mono ?_); rintro e w9 ⟨vN, rfl, ho9, hb9⟩; obtain ⟨no, nc, rfl⟩ := own_slice ho9; have HO9 := Lib.hid ho9; have HB9 := Lib.hid hb9; clear ho9 hb9)
  go_loopg [10, 11] d.f.length (fun gk v10 v11 wr => ∃ (j : Nat) (C' : Nat → Prop), gk + j = d.f.length ∧ v10 = .int .i64 (j : Int) ∧ Hid (WR B wr b C' ⟨dir, full, (found dir ((names d.f).take j)).map Sg.first, [], 0⟩ c S d) ∧ Hid (Went S w wr (fun k => C' k ∨ S k)) ∧ Hid (wr.ownsRow w8.heap.size 9 1 (.slice no d.f.length nc) d.f.length ((names d.f).map nmv)) ∧ Hid (∀ k, (Value.slice no d.f.length nc).ownBlock = some k → ¬ C' k) ∧ Hid (w8.heap.size ≤ wr.heap.size))
  case atStart => exact ⟨0, (· = b), rfl, rfl, Lib.hid (HW8.out.below HB9.out), Lib.hid (HG8.out.trans (went_below HB9.out)), HO9, Lib.hid (fun k hk e => by have := (HO9.out.lt k hk).1; have := HW8.out.clt k e; omega), Lib.hid HB9.out.size⟩
  case round =>
    obtain ⟨j, C', hj, rfl, HWR, HGO, HOR, HNC, HSZ⟩ := hrel
    obtain ⟨vn, va, ua, hl⟩ := HWR.out.lk
    obtain ⟨vo, vc, rfl, _, _, _, _⟩ := hl.nums.slice
    have HL := Lib.hid hl
    have HBWr : Hid (B ≤ wr.heap.size) := Nat.le_trans HBW8.out HSZ.out
    by_cases hjn : j < d.f.length
    · have hlt : decide ((j : Int) < (d.f.length : Int)) = true := decide_eq_true (by omega)
      have hlt2 : (j : Int) < (d.f.length : Int) := by omega
      have hjm : j < (names d.f).length := by have := HNL.out; omega
      obtain ⟨g, cap, hv⟩ := own_shape HOR.out (by omega)
      obtain ⟨rfl, rfl⟩ : no = some ⟨g, 0, none⟩ ∧ nc = cap := by cases hv; exact ⟨rfl, rfl⟩
      clear hv
      have cn : wr.cell? ⟨g, j, none⟩ = some (nmv (names d.f)[j]) := by
        have h9 := HOR.out.cellAt j (by omega)
        rw [List.getElem?_map, List.getElem?_eq_getElem hjm] at h9
        exact h9
      have hi1 : wrap64 ((j : Int) + 1) = ((j + 1 : Nat) : Int) := by have := HFEW.out; unfold wrap64; omega
      have HFS : Hid (found dir ((names d.f).take (j + 1)) = found dir ((names d.f).take j) ++ (if 0 < numR dir (names d.f)[j] then [⟨numR dir (names d.f)[j], []⟩] else [])) := by
        show _ = _
        rw [List.take_succ_eq_append_getElem hjm, found_snoc]
      have HFL : Hid ((found dir ((names d.f).take j)).length ≤ 64) := by
        have h1 := found_length dir ((names d.f).take j)
        have h2 : ((names d.f).take j).length ≤ j := by rw [List.length_take]; omega
        have := HFEW.out
        show _ ≤ _
        omega
      obtain ⟨gk2, rfl⟩ : ∃ gk2, gk = gk2 + 1 := ⟨gk - 1, by omega⟩
      clear hl
      generalize hz : (names d.f)[j] = z at *
      clear hz hjm
      by_cases hr : 0 < numR dir z
      · have HR := Lib.hid hr
        generalize hn : numR dir z = n at *
        have HN := Lib.hid hn
        have d5 : decide ((0 : Int) < (n : Int)) = true := decide_eq_true (by omega)
        have d5' : (0 : Int) < (n : Int) := by omega
        have c3o := HL.out.c3
        obtain ⟨N1, hN1⟩ : ∃ N1, N1 = ((found dir ((names d.f).take j)).map Sg.first).length := ⟨_, rfl⟩
        have c3 : wr.cell? ⟨b, 3, none⟩ = some (.slice vo N1 vc) := by rw [hN1]; exact c3o
        have HN1 := Lib.hid hN1
        have HN1L : Hid (N1 ≤ 100000000) := Lib.hid (by rw [hN1, List.length_map]; have := HFL.out; omega)
        clear hr hn hN1 c3o
        go_wp2_with (first
          | (go_at_call 79; (refine (rnumber_any wr dir z HDL2.out).mono ?_); rw [HN.out]; rintro e w2 ⟨rfl, hww⟩; obtain rfl := hww.symm)
          | (at_builtin
             have hnum : OffR (wr.alloc (.cells #[.int .i64 (n : Int)] 3)) 3 (.slice vo N1 vc) N1 (((found dir ((names d.f).take j)).map Sg.first).map fun (n : Nat) => Value.int .i64 (n : Int)) := by
               have e := (HL.out.below (below1 wr (.cells #[.int .i64 (n : Int)] 3))).nums
               rw [HN1.out]
               exact e
             refine wpList_append_off under37n info3n rfl (by decide) (wanted_none rfl _) (.tmp 67) (.tmp 69) rfl rfl hnum rfl (heap_alloc_new _ _) rfl HN1L.out ?_
             intro v19 w19 ho19 hg19 hl19
             obtain ⟨o19, k19, rfl, _, _, _, _⟩ := ho19.slice
             have hg20 : (wr.alloc (.cells #[.int .i64 (n : Int)] 3)).grownBy w19 (Value.slice vo ((found dir ((names d.f).take j)).map Sg.first).length vc).ownBlock := by rw [← HN1.out]; exact hg19
             have hl20 : (Value.slice o19 (N1 + 1) k19).ownBlock = (Value.slice vo ((found dir ((names d.f).take j)).map Sg.first).length vc).ownBlock ∨ (Value.slice o19 (N1 + 1) k19).ownBlock = some (wr.alloc (.cells #[.int .i64 (n : Int)] 3)).heap.size := by rw [← HN1.out]; exact hl19
             have ho20 : OffR w19 3 (.slice o19 (N1 + 1) k19) (((found dir ((names d.f).take j)).map Sg.first).length + 1) ((((found dir ((names d.f).take j)).map Sg.first).map fun (n : Nat) => Value.int .i64 (n : Int)) ++ [.int .i64 (n : Int)]) := by rw [← HN1.out]; exact ho19
             have hbx := HL.out.box8 (below1 wr (.cells #[.int .i64 (n : Int)] 3)) (.inl rfl) hg20
             have HOO := Lib.hid ho20
             have HGG := Lib.hid hg20
             have HLL := Lib.hid hl20
             have r3 : w19.cell? ⟨b, 3, none⟩ = some (.slice vo N1 vc) := by rw [HN1.out]; simp [World.cell?, hbx]
             have fz3 : w19.frozen? ⟨b, 3, none⟩ = false := frozen_zero hbx
             clear ho19 hg19 hl19 hg20 hl20 ho20 hnum hbx))
        obtain ⟨hwE, htE⟩ := rnum_end HWR.out HBWr.out HL.out (Below.refl _ wr) HOO.out HGG.out HLL.out
        have HTE := Lib.hid htE
        have hnx : (found dir ((names d.f).take (j + 1))).map Sg.first = (found dir ((names d.f).take j)).map Sg.first ++ [n] := by rw [HFS.out, if_pos (by have := HR.out; omega), List.map_append]; rfl
        have HWE : Hid (WR B (w19.setCell ⟨b, 3, none⟩ (.slice o19 (N1 + 1) k19)) b (Gw C' wr (w19.setCell ⟨b, 3, none⟩ (.slice o19 (N1 + 1) k19))) ⟨dir, full, (found dir ((names d.f).take (j + 1))).map Sg.first, [], 0⟩ c S d) := Lib.hid (by rw [hnx]; exact hwE)
        have hsz := HSZ.out
        have hsz2 := htE.size
        clear hwE htE hnx
        go_roundg gk2
        case measure => omega
        case rel => rw [hi1]; exact ⟨j + 1, _, by omega, rfl, HWE, Lib.hid (HGO.out.trans (went_log HTE.out)), Lib.hid (own_tn HOR.out HTE.out HNC.out), Lib.hid (fun k hk e => by
          rcases e with e | e
          · exact HNC.out k hk e
          · have := (HOR.out.lt k hk).2
            omega), Lib.hid (by omega)⟩
      · have HZ0 : Hid (numR dir z = 0) := Lib.hid (by omega)
        have hnx : found dir ((names d.f).take (j + 1)) = found dir ((names d.f).take j) := by rw [HFS.out, if_neg hr, List.append_nil]
        have HNX := Lib.hid hnx
        clear hr hnx
        go_wp2_with (go_at_call 79; (refine (rnumber_any wr dir z HDL2.out).mono ?_); rw [HZ0.out]; rintro e w2 ⟨rfl, hww⟩; obtain rfl := hww.symm)
        go_roundg gk2
        case measure => omega
        case rel => rw [hi1]; exact ⟨j + 1, C', by omega, rfl, Lib.hid (by rw [HNX.out]; exact HWR.out), HGO, HOR, HNC, HSZ⟩
    · have hlt : decide ((j : Int) < (d.f.length : Int)) = false := decide_eq_false (by omega)
      have hjj : j = d.f.length := by omega
      have hall : (names d.f).take j = names d.f := List.take_of_length_le (by have := HNL.out; omega)
      obtain ⟨L, hL⟩ : ∃ L, L = found dir (names d.f) := ⟨_, rfl⟩
      rw [hall, ← hL] at HWR HL
      have HLL := Lib.hid hL
      clear hjj hall hlt HOR HNC hj hl
      have hlt : decide ((j : Int) < (d.f.length : Int)) = false := decide_eq_false (by omega)
      have hlt2 : ¬ (j : Int) < (d.f.length : Int) := by omega
      clear hjn
      by_cases hf : L = []
      · have c3o := HL.out.c3
        rw [hf] at HWR HL hL c3o
        have HE : Hid (Lg.start ⟨dir, full.toNat, [], 0⟩ d = ok3 (Lg.begin ⟨dir, full.toNat, [], 0⟩ d 1)) := Lib.hid (by unfold Lg.start; exact if_pos hL.symm)
        have c3 : wr.cell? ⟨b, 3, none⟩ = some (.slice vo 0 vc) := c3o
        clear hL hf c3o
        have c3a : (wr.alloc (.cells #[.int .i64 1] 3)).cell? ⟨b, 3, none⟩ = some (.slice vo 0 vc) := ((below1 wr (.cells #[.int .i64 1] 3)).cell (p := ⟨b, 3, none⟩) (HL.out.lt b HL.out.cb)).trans c3
        have fz3a : (wr.alloc (.cells #[.int .i64 1] 3)).frozen? ⟨b, 3, none⟩ = false := frozen_zero (HL.out.below (below1 wr (.cells #[.int .i64 1] 3))).box
        go_upto_region 17 with (fail)
        obtain ⟨hwE, htE⟩ := rone_end HWR.out HBWr.out HL.out
        obtain ⟨wx, hwx⟩ : ∃ wx, wx = (wr.alloc (.cells #[.int .i64 1] 3)).setCell ⟨b, 3, none⟩ (.slice (some ⟨wr.heap.size, 0, none⟩) 1 1) := ⟨_, rfl⟩
        rw [← hwx] at hwE htE ⊢
        have HWX := Lib.hid hwE
        have HTX := Lib.hid htE
        have HBX : Hid (B ≤ wx.heap.size) := Nat.le_trans HBWr.out htE.size
        obtain ⟨vnx, vax, uax, hlx⟩ := hwE.lk
        have hkx : ROk ⟨dir, full, [1], [], 0⟩ := ⟨HDIR.out, Nat.succ_pos 0, by show 1 ≤ 1000000; decide, fun n hn => by obtain rfl : n = 1 := List.mem_singleton.1 hn; decide, Nat.zero_le _, Nat.zero_le _⟩
        have HLA : Hid (Calls Tryz.prog 80 #[ptr b] wx fun e w' => e = .returned (nmv (segN dir 1)) ∧ Below wx.heap.size wx w') := Lib.hid (rlast_any hlx hkx)
        obtain ⟨vdx, udx, hrx⟩ := hwE.dk
        have HRX := Lib.hid hrx
        have HGX : Hid (Went S w wx (fun k => Gw C' wr wx k ∨ S k)) := HGO.out.trans (went_log htE)
        have HN1 : Hid ((segN dir 1).length ≤ maxLen) := Lib.hid (by rw [seg_pre, num8_digs (show 1 ≤ 99999999 by decide), List.length_append, digs_length, List.length_append]; have := HDIR.out.2; unfold maxLen; simp; omega)
        have HDX : Hid (d.done < 9223372036854775807) := Nat.lt_of_le_of_lt HDN.out (by decide)
        obtain ⟨q, hq⟩ : ∃ q, d.create (segN dir 1) = q := ⟨_, rfl⟩
        have HQ := Lib.hid hq
        clear hwE htE hwx hlx hkx hrx hq c3 c3a fz3a
        go_upto_region 18 with (first
          | (go_at_call 80; (refine HLA.out.mono ?_); rintro e wy ⟨rfl, hby⟩; have HBY := Lib.hid hby; clear hby)
          | (go_at_call 45; (refine (rcreate_any (HRX.out.below HBY.out) (segN dir 1) HN1.out HDX.out).mono ?_); rintro e wz ⟨rfl, hdz, htz⟩; rw [HQ.out] at hdz ⊢; have HDZ := Lib.hid hdz; have HTZ := Lib.hid htz; clear hdz htz))
        have HWZ := Lib.hid ((HWX.out.below HBY.out).disk (Nat.le_trans HBX.out HBY.out.size) HDZ.out HTZ.out)
        have HGZ : Hid (Went S w wz (fun k => Gw C' wr wx k ∨ Gw S wy wz k)) := (HGX.out.trans (went_below HBY.out)).trans (went_disk HTZ.out)
        by_cases hq0 : q.2 = 0
        · have hb1 : (((q.2 : Nat) : Int) != 0) = false := by rw [hq0]; rfl
          have HQ0 := Lib.hid hq0
          clear hq0
          go_wp2
          go_ret2
          have hbg : Lg.begin ⟨dir, full.toNat, [], 0⟩ d 1 = (⟨dir, full.toNat, [⟨1, []⟩], 0⟩, q.1, 0) := by
            unfold Lg.begin
            show (if (d.create (segN dir 1)).2 = 0 then _ else _) = _
            rw [HQ.out, if_pos HQ0.out]
            rfl
          rw [HE.out, hbg]
          have eref : Lg.ref ⟨dir, full.toNat, [⟨1, []⟩], 0⟩ = ⟨dir, full, [1], [], 0⟩ := by
            show (⟨dir, ((full.toNat : Nat) : Int), [1], [], 0⟩ : Rl) = _
            rw [HFT.out]
          exact ⟨rfl, b, _, _, rfl, by rw [eref]; exact HWZ.out, HGZ.out⟩
        · have hb1 : (((q.2 : Nat) : Int) != 0) = true := by simpa using hq0
          have HQ0 := Lib.hid hq0
          clear hq0
          go_wp2
          go_ret2
          have hbg : ok3 (Lg.begin ⟨dir, full.toNat, [], 0⟩ d 1) = (none, q.1, q.2) := by
            unfold Lg.begin
            show ok3 (if (d.create (segN dir 1)).2 = 0 then _ else _) = _
            rw [HQ.out, if_neg HQ0.out]
            unfold ok3
            show (if q.2 = 0 then _ else _, q.1, q.2) = _
            rw [if_neg HQ0.out]
          rw [HE.out, hbg]
          exact ⟨HQ0.out, rfl, _, HDZ.out, fun k hk => Gw.lo HS.out (Nat.le_trans HBX.out HBY.out.size) hk, ⟨HGZ.out.tn, fun k hk => HGZ.out.sub k (.inr hk)⟩⟩
      · obtain ⟨N, hN⟩ : ∃ N, N = L.length := ⟨_, rfl⟩
        have c3o := HL.out.c3
        have c3 : wr.cell? ⟨b, 3, none⟩ = some (.slice vo N vc) := by rw [hN, ← List.length_map (f := Sg.first)]; exact c3o
        have hN0 : 0 < N := by rw [hN]; exact List.length_pos_iff.2 hf
        have hN64 : N ≤ 64 := by rw [hN, hL]; exact Nat.le_trans (found_length _ _) (by rw [HNL.out]; exact HFEW.out)
        have HE : Hid (Lg.start ⟨dir, full.toNat, [], 0⟩ d = Lg.load ⟨dir, full.toNat, L, 0⟩ d) := Lib.hid (by unfold Lg.start; rw [if_neg (by show ¬ found dir (names d.f) = []; rw [← hL]; exact hf)]; show Lg.load ⟨dir, full.toNat, found dir (names d.f), 0⟩ d = _; rw [← hL])
        have HNUM : Hid (∀ g ∈ L, 1 ≤ g.first ∧ g.first ≤ 99999999) := Lib.hid (fun g hg => (found_mem (dir := dir) (l := names d.f) (hL ▸ hg)).2)
        have HRD : Hid (∀ g ∈ L, (d.read (segN dir g.first)).2 = 0 ∧ (d.read (segN dir g.first)).1.length ≤ 60000) := Lib.hid (fun g hg => let h := read_in HOK.out.rising (found_mem (dir := dir) (l := names d.f) (hL ▸ hg)).1; ⟨h.1, Nat.le_trans h.2 HRM.out⟩)
        have HNE := Lib.hid hf
        have HNN := Lib.hid hN
        have HN0 := Lib.hid hN0
        have HN64 := Lib.hid hN64
        have hn1 : ((N : Int) == 0) = false := by have : (N : Int) ≠ 0 := by omega
                                                  simpa using this
        have hn2 : ¬ (N : Int) = 0 := by omega
        have hn3 : decide ((N : Int) = 0) = false := decide_eq_false hn2
        clear hN hf hN0 hN64 hL c3o
        go_wp2
        clear hn1 hn2 hn3 c3 HL
        go_loopg [13, 14, 15, 16, 17, 18, 19, 20, 21] N (fun gk v13 v14 v15 v16 v17 v18 v19 v20 v21 wq => ∃ (i wh lo : Nat) (C2 : Nat → Prop), gk + i = N ∧ v13 = .int .i64 (wh : Int) ∧ v14 = .int .i64 (lo : Int) ∧ v15 = .int .i64 (i : Int) ∧ Hid (WR B wq b C2 ⟨dir, full, L.map Sg.first, allR ((L.take i).map (ldSeg dir d)), 0⟩ c S d) ∧ Hid (Went S w wq (fun k => C2 k ∨ S k)) ∧ Hid (∀ k (h : k < L.length), i = k + 1 → wh = (Fr.scanV (d.read (segN dir L[k].first)).1).2 ∧ lo = (d.read (segN dir L[k].first)).1.length) ∧ Hid (∀ k (h : k + 1 < L.length), k < i → ldTorn dir d L[k] = false ∧ (ldSeg dir d L[k]).next = L[k + 1].first) ∧ Hid (B ≤ wq.heap.size))
        case atStart => exact ⟨0, 0, 0, C', rfl, rfl, rfl, rfl, HWR, HGO, Lib.hid (fun k h e => by omega), Lib.hid (fun k h e => by omega), HBWr⟩
        case round =>
          clear HWR HGO HSZ HBWr
          obtain ⟨i, wh, lo, C2, hi, rfl, rfl, rfl, HWR, HGO, HLA, HRU, HBWq⟩ := hrel
          by_cases hin : i < N
          · have hlt3 : decide ((i : Int) < (N : Int)) = true := decide_eq_true (by omega)
            have hlt4 : (i : Int) < (N : Int) := by omega
            have hil : i < L.length := by have := HNN.out; omega
            obtain ⟨vn, va, ua, hl⟩ := HWR.out.lk
            obtain ⟨gg, off, cap2, rfl, hcap2, _, gjo⟩ := hl.num (i := i) (by show i < (L.map Sg.first).length; rw [List.length_map]; exact hil)
            obtain ⟨ao, capa, rfl, hcapa, _, _, _⟩ := hl.all.slice
            have HL := Lib.hid hl
            obtain ⟨f0, hf0⟩ : ∃ f0, f0 = L[i].first := ⟨_, rfl⟩
            have gj : wr.cell? ⟨gg, off + i, none⟩ = some (.int .i64 (f0 : Int)) := by
              rw [hf0]
              have e : (L.map Sg.first).getD i 0 = L[i].first := by rw [List.getD_eq_getElem?_getD, List.getElem?_map, List.getElem?_eq_getElem hil]; rfl
              rw [← e]
              exact gjo
            have c3o := hl.c3
            have c3 : wr.cell? ⟨b, 3, none⟩ = some (.slice (some ⟨gg, off, none⟩) N cap2) := by rw [HNN.out, ← List.length_map (f := Sg.first)]; exact c3o
            obtain ⟨vdq, udq, hrq⟩ := HWR.out.dk
            have HRQ := Lib.hid hrq
            have hnum := HNUM.out _ (List.getElem_mem hil)
            have hrd := HRD.out _ (List.getElem_mem hil)
            rw [← hf0] at hnum hrd
            have HNV : Hid (nameV dir (f0 : Int) = (segN dir f0, 0)) := Lib.hid (by
              unfold nameV
              rw [if_neg (by intro e; rcases e with e | e; (have := HDIR.out.1; rw [e] at this; simp at this); (have := HDIR.out.2; omega)), if_neg (by omega), Int.toNat_natCast])
            have HM1 : Hid (-9223372036854775808 ≤ (f0 : Int)) := Lib.hid (by omega)
            have HM2 : Hid ((f0 : Int) ≤ 9223372036854775807) := Lib.hid (by omega)
            have HRL : Hid ((d.read (segN dir f0)).1.length ≤ 60000) := Lib.hid hrd.2
            have HF0 := Lib.hid hf0
            have HIL := Lib.hid hil
            obtain ⟨M1, hM1⟩ : ∃ M1, M1 = (allR ((L.take i).map (ldSeg dir d))).length := ⟨_, rfl⟩
            have HM1L := Lib.hid hM1
            have hM50 : (allR ((L.take i).map (ldSeg dir d))).length ≤ 50000000 := by
              have h1 := wt_load dir d 60000 (L.take i) (fun x hx => (HRD.out x (List.mem_of_mem_take hx)).2)
              have h2 : (L.take i).length ≤ 64 := by rw [List.length_take]; have := HN64.out; omega
              have h3 := recs_size ⟨0, allR ((L.take i).map (ldSeg dir d))⟩
              have h4 : (⟨0, allR ((L.take i).map (ldSeg dir d))⟩ : Sg).size = wt (allR ((L.take i).map (ldSeg dir d))) := rfl
              have h5 : (allR ((L.take i).map (ldSeg dir d))).length * 12 ≤ wt (allR ((L.take i).map (ldSeg dir d))) := by rw [← h4]; exact h3
              have h6 : (L.take i).length * 60000 ≤ 64 * 60000 := Nat.mul_le_mul_right _ h2
              omega
            have HM50 : Hid (M1 ≤ 50000000) := Lib.hid (by rw [hM1]; exact hM50)
            have HBQ : Hid (b < wr.heap.size) := hl.lt b hl.cb
            have HS50 : Hid ((Fr.scanV (d.read (segN dir f0)).1).1.length ≤ 50000000) := Lib.hid (by
              have h1 := recs_size (ldSeg dir d ⟨f0, []⟩)
              have h2 := ldSeg_le dir d ⟨f0, []⟩
              have h3 : (ldSeg dir d ⟨f0, []⟩).recs = (Fr.scanV (d.read (segN dir f0)).1).1 := rfl
              have h4 : (d.read (segN dir (⟨f0, []⟩ : Sg).first)).1.length ≤ 60000 := hrd.2
              rw [h3] at h1
              omega)
            obtain ⟨gk2, rfl⟩ : ∃ gk2, gk = gk2 + 1 := ⟨gk - 1, by omega⟩
            obtain ⟨fl, hfl⟩ : ∃ fl, fl = d.read (segN dir f0) := ⟨_, rfl⟩
            have HFL := Lib.hid hfl
            clear hl gjo c3o hrq hnum hrd hf0 hM1 hM50 hfl hcap2 hcapa
            go_upto_region 31 with (first
              | (go_at_call 22; (refine (rwname_any _ dir HDLM.out (f0 : Int) HM1.out HM2.out).mono ?_); rw [HNV.out]; rintro e w22 ⟨rfl, hb22⟩; have HB22 := Lib.hid hb22; clear hb22)
              | (go_at_call 81; (refine (rread_any (HRQ.out.below HB22.out) (segN dir f0)).mono ?_); rintro e w5 ⟨ro, rc, rfl, hs5, hww⟩; obtain rfl := hww; have HS5 := Lib.hid hs5; clear hs5)
              | (go_at_call 82; (refine (Fr.rscan_any (fr_sb HS5.out) (Nat.le_trans HRL.out (by decide))).mono ?_); rintro e w6 ⟨v6, us6, rfl, hrs6, hb6⟩; obtain ⟨so, sc, rfl⟩ := own_slice hrs6.own; have HRS := Lib.hid hrs6; have HB6 := Lib.hid hb6; have c4 : w6.cell? ⟨b, 4, none⟩ = some (.slice ao M1 capa) := (by rw [HM1L.out]; exact (HL.out.below (HB22.out.trans (hb6.mono HB22.out.size))).c4); clear hrs6 hb6)
              | (at_builtin
                 have hb26 : Below wr.heap.size wr w6 := HB22.out.trans (HB6.out.mono HB22.out.size)
                 have hall : OffR w6 36 (.slice ao M1 capa) M1 ua := by
                   have e := (HL.out.below hb26).all
                   rw [HM1L.out]
                   exact e
                 refine wpList_append_rows (wanted_none rfl _) (.tmp 127) (.tmp 128) rfl rfl hall rfl HRS.out.own (rs_one HRS.out) HM50.out HS50.out ?_
                 intro v19 w19 ho19 hg19 hl19
                 obtain ⟨o19, k19, rfl, _, _, _, _⟩ := ho19.slice
                 have hg20 : w6.grownBy w19 (Value.slice ao (allR ((L.take i).map (ldSeg dir d))).length capa).ownBlock := by rw [← HM1L.out]; exact hg19
                 have hl20 : (Value.slice o19 (M1 + (Fr.scanV (d.read (segN dir f0)).1).1.length) k19).ownBlock = (Value.slice ao (allR ((L.take i).map (ldSeg dir d))).length capa).ownBlock ∨ (Value.slice o19 (M1 + (Fr.scanV (d.read (segN dir f0)).1).1.length) k19).ownBlock = some w6.heap.size := by rw [← HM1L.out]; exact hl19
                 have ho20 : OffR w19 36 (.slice o19 (M1 + (Fr.scanV (d.read (segN dir f0)).1).1.length) k19) ((allR ((L.take i).map (ldSeg dir d))).length + (Fr.scanV (d.read (segN dir f0)).1).1.length) (ua ++ us6) := by rw [← HM1L.out]; exact ho19
                 have hbx := HL.out.box8 hb26 (.inr rfl) hg20
                 have HOO := Lib.hid ho20
                 have HGG := Lib.hid hg20
                 have HLL := Lib.hid hl20
                 have HB26 := Lib.hid hb26
                 have r4 : w19.cell? ⟨b, 4, none⟩ = some (.slice ao M1 capa) := by rw [HM1L.out]; simp [World.cell?, hbx]
                 have fz4 : w19.frozen? ⟨b, 4, none⟩ = false := frozen_zero hbx
                 clear ho19 hg19 hl19 hg20 hl20 ho20 hall hbx hb26))
            obtain ⟨hwE, htE⟩ := rcat_end HWR.out HBWq.out HL.out HB26.out (rs_mono HRS.out HB22.out.size) HOO.out HGG.out HLL.out
            obtain ⟨wx, hwx⟩ : ∃ wx, wx = w19.setCell ⟨b, 4, none⟩ (.slice o19 (M1 + (Fr.scanV (d.read (segN dir f0)).1).1.length) k19) := ⟨_, rfl⟩
            rw [← hwx] at hwE htE ⊢
            obtain ⟨s2, hs2⟩ : ∃ s2, s2 = (Fr.scanV (d.read (segN dir f0)).1).2 := ⟨_, rfl⟩
            obtain ⟨ln, hln⟩ : ∃ ln, ln = (d.read (segN dir f0)).1.length := ⟨_, rfl⟩
            obtain ⟨m1, hm1⟩ : ∃ m1, m1 = (Fr.scanV (d.read (segN dir f0)).1).1.length := ⟨_, rfl⟩
            rw [← hs2, ← hln, ← hm1]
            have HS2 := Lib.hid hs2
            have HLN := Lib.hid hln
            have HMM1 := Lib.hid hm1
            have HLE2 : Hid (s2 ≤ ln) := Lib.hid (by
              have e4 := ldSeg_le dir d ⟨f0, []⟩
              rw [ldSeg_size] at e4
              rw [hs2, hln]
              exact e4)
            have HM150 : Hid (m1 ≤ 50000000) := Lib.hid (by rw [hm1]; exact HS50.out)
            clear hs2 hln hm1
            have HWX := Lib.hid hwE
            have HTX := Lib.hid htE
            have HBX : Hid (B ≤ wx.heap.size) := Nat.le_trans HBWq.out htE.size
            have HGX : Hid (Went S w wx (fun k => Gw C2 wr wx k ∨ S k)) := HGO.out.trans (went_log htE)
            have hrec : allR ((L.take (i + 1)).map (ldSeg dir d)) = allR ((L.take i).map (ldSeg dir d)) ++ (Fr.scanV (d.read (segN dir f0)).1).1 := by
              rw [List.take_succ_eq_append_getElem hil, List.map_append, allR_append]
              show _ ++ allR [ldSeg dir d L[i]] = _
              rw [allR_one]
              unfold ldSeg
              rw [HF0.out]
              rfl
            have HWX2 : Hid (WR B wx b (Gw C2 wr wx) ⟨dir, full, L.map Sg.first, allR ((L.take (i + 1)).map (ldSeg dir d)), 0⟩ c S d) := Lib.hid (by rw [hrec]; exact hwE)
            have HB31 : Hid (Below wx.heap.size wx wx.drew) := (Below.refl _ wx).drew
            obtain ⟨vn3, va3, ua3, hl3⟩ := HWX2.out.lk
            have HBXS : Hid (b < wx.heap.size) := hl3.lt b hl3.cb
            have hgb : gg ≠ b := fun e => HL.out.nb HL.out.nums (by decide) gg rfl e
            have c3 : wx.drew.cell? ⟨b, 3, none⟩ = some (.slice (some ⟨gg, off, none⟩) N cap2) := by
              have e1 : w19.cell? ⟨b, 3, none⟩ = some (.slice (some ⟨gg, off, none⟩) N cap2) := by
                have hbx := HL.out.box8 HB26.out (.inr rfl) HGG.out
                rw [HNN.out, ← List.length_map (f := Sg.first)]
                simp [World.cell?, hbx]
              have e2 : wx.cell? ⟨b, 3, none⟩ = some (.slice (some ⟨gg, off, none⟩) N cap2) := by
                rw [hwx]
                exact (World.cell?_setCell_other _ _ _ _ (fun e => by simp only [Addr.mk.injEq] at e; omega)).trans e1
              exact e2
            have HNUMS : Hid (∀ q u, wr.cell? ⟨gg, q, none⟩ = some u → wx.drew.cell? ⟨gg, q, none⟩ = some u) := Lib.hid (fun q u hu => by
              have hg6 : w6.cell? ⟨gg, q, none⟩ = some u := (HB26.out.cell (p := ⟨gg, q, none⟩) (World.block_lt_of_cell? _ _ hu)).trans hu
              have hg19 : w19.cell? ⟨gg, q, none⟩ = some u := HGG.out.cell hg6 (fun e => HL.out.nums.apart HL.out.all (by decide) gg rfl e.symm)
              have e2 : wx.cell? ⟨gg, q, none⟩ = some u := by
                rw [hwx]
                exact (World.cell?_setCell_other _ _ _ _ (fun e => by simp only [Addr.mk.injEq] at e; exact hgb e.1.symm)).trans hg19
              exact e2)
            have gj : wx.drew.cell? ⟨gg, off + i, none⟩ = some (.int .i64 (f0 : Int)) := HNUMS.out _ _ gj
            have hn64 := HN64.out
            have HWN1 : Hid (IntKind.i64.wrap ((N : Int) - 1) = (N : Int) - 1) := Lib.hid (wrap_in (by omega))
            have HNI : Hid (wrap64 ((i : Int) + 1) = ((i + 1 : Nat) : Int)) := Lib.hid (by unfold wrap64; omega)
            clear hwE htE hrec hl3 hgb hwx c4 r4 fz4
            by_cases hlast : i + 1 < N
            · have d7 : decide ((i : Int) < (N : Int) - 1) = true := decide_eq_true (by omega)
              have d7' : (i : Int) < (N : Int) - 1 := by omega
              have hil2 : i + 1 < L.length := by have := HNN.out; omega
              obtain ⟨f1, hf1⟩ : ∃ f1, f1 = L[i + 1].first := ⟨_, rfl⟩
              obtain ⟨gg', off', cap', e, _, _, g1o⟩ := HL.out.num (i := i + 1) (by show i + 1 < (L.map Sg.first).length; rw [List.length_map]; exact hil2)
              simp only [Value.slice.injEq, Option.some.injEq, Addr.mk.injEq, true_and, and_true] at e
              obtain ⟨⟨rfl, rfl⟩, rfl⟩ := e
              have g1w : wr.cell? ⟨gg, off + (i + 1), none⟩ = some (.int .i64 (f1 : Int)) := by
                rw [hf1]
                have e : (L.map Sg.first).getD (i + 1) 0 = L[i + 1].first := by rw [List.getD_eq_getElem?_getD, List.getElem?_map, List.getElem?_eq_getElem hil2]; rfl
                rw [← e]
                exact g1o
              have g1 : wx.drew.cell? ⟨gg, off + (i + 1), none⟩ = some (.int .i64 (f1 : Int)) := HNUMS.out _ _ g1w
              have hi1 : (i : Int) + 1 < (N : Int) := by omega
              have hi2 : i + 1 < N := hlast
              have hi3 : i < N := by omega
              have hi4 : (0 : Int) ≤ (i : Int) + 1 := by omega
              have hi5 : ((i : Int) + 1).toNat = i + 1 := by omega
              have HWI : Hid (IntKind.i64.wrap ((i : Int) + 1) = (i : Int) + 1) := Lib.hid (wrap_in (by omega))
              have hfn : f0 ≤ 99999999 := by rw [HF0.out]; exact (HNUM.out _ (List.getElem_mem hil)).2
              have hs50 := HM150.out
              have HWF : Hid (IntKind.i64.wrap ((f0 : Int) + (m1 : Int)) = (f0 : Int) + (m1 : Int)) := Lib.hid (wrap_in (by omega))
              have HF1 := Lib.hid hf1
              clear g1o g1w hf1
              by_cases hto : s2 = ln
              · have q1 : ((s2 : Int) != (ln : Int)) = false := by rw [hto]; simp
                by_cases hne : f1 = f0 + m1
                · have q2 : ((f1 : Int) != (f0 : Int) + (m1 : Int)) = false := by rw [hne]; simp
                  have HNE1 := Lib.hid hne
                  have HTO1 := Lib.hid hto
                  clear hne hto
                  have hw1 := HWN1.out
                  have hwi := HWI.out
                  have hwf := HWF.out
                  go_region_held (fun w' => w'.cell? ⟨b, 3, none⟩ = some (.slice (some ⟨gg, off, none⟩) N cap2) ∧ w'.cell? ⟨gg, off + i, none⟩ = some (.int .i64 (f0 : Int)) ∧ w'.cell? ⟨gg, off + (i + 1), none⟩ = some (.int .i64 (f1 : Int))) (exact ⟨c3, gj, g1⟩) (fail)
                  clear hw1 hwi hwf
                  go_wp2
                  have HRU2 : Hid (∀ k (h : k + 1 < L.length), k < i + 1 → ldTorn dir d L[k] = false ∧ (ldSeg dir d L[k]).next = L[k + 1].first) := Lib.hid (fun k h hk => by
                    by_cases hki : k = i
                    · subst hki
                      refine ⟨?_, ?_⟩
                      · unfold ldTorn
                        refine decide_eq_false ?_
                        have e6 := HTO1.out
                        rw [HS2.out, HLN.out, HF0.out] at e6
                        omega
                      · unfold Sg.next ldSeg
                        show L[k].first + (Fr.scanV (d.read (segN dir L[k].first)).1).1.length = _
                        rw [← HF1.out, HNE1.out, HMM1.out, HF0.out]
                        rfl
                    · exact HRU.out k h (by omega))
                  go_roundg gk2
                  case measure => omega
                  case rel =>
                    try rw [HNI.out]
                    exact ⟨i + 1, _, _, _, by omega, rfl, rfl, congrArg (Value.int .i64) (by omega), Lib.hid (HWX2.out.below HB31.out), Lib.hid (HGX.out.trans (went_below HB31.out)), Lib.hid (fun k h e => by
                    obtain rfl : i = k := by omega
                    exact ⟨by rw [HS2.out, HF0.out], by rw [HLN.out, HF0.out]⟩), HRU2, Lib.hid (Nat.le_trans HBX.out HB31.out.size)⟩
                · have q2 : ((f1 : Int) != (f0 : Int) + (m1 : Int)) = true := by
                    have : (f1 : Int) ≠ (f0 : Int) + (m1 : Int) := by omega
                    simpa using this
                  have HBAD : Hid (ldOk dir d L = false) := Lib.hid (bad_of_run (lg := ⟨dir, 0, L, 0⟩) (k := i) hil2 (fun _ e => hne (by
                    have e2 : (ldSeg dir d L[i]).next = L[i + 1].first := e
                    unfold Sg.next ldSeg at e2
                    have e3 : L[i].first + (Fr.scanV (d.read (segN dir L[i].first)).1).1.length = L[i + 1].first := e2
                    rw [HF1.out, HMM1.out, HF0.out]
                    exact e3.symm)))
                  clear hne hto
                  have hw1 := HWN1.out
                  have hwi := HWI.out
                  have hwf := HWF.out
                  go_region_held (fun w' => w'.cell? ⟨b, 3, none⟩ = some (.slice (some ⟨gg, off, none⟩) N cap2) ∧ w'.cell? ⟨gg, off + i, none⟩ = some (.int .i64 (f0 : Int)) ∧ w'.cell? ⟨gg, off + (i + 1), none⟩ = some (.int .i64 (f1 : Int))) (exact ⟨c3, gj, g1⟩) (fail)
                  clear hw1 hwi hwf
                  go_wp2
                  go_ret2
                  rw [HE.out, load_bad (lg := ⟨dir, full.toNat, L, 0⟩) HBAD.out]
                  exact ⟨by show (13 : Nat) ≠ 0; decide, rfl, S, HWX2.out.dk.below HB31.out, HS.out, ⟨(HGX.out.trans (went_below HB31.out)).tn, fun k hk => .inl hk⟩⟩
              · have q1 : ((s2 : Int) != (ln : Int)) = true := by
                  have : (s2 : Int) ≠ (ln : Int) := by omega
                  simpa using this
                have HBAD : Hid (ldOk dir d L = false) := Lib.hid (bad_of_run (lg := ⟨dir, 0, L, 0⟩) (k := i) hil2 (fun e _ => hto (by
                  have e2 : ldTorn dir d L[i] = false := e
                  unfold ldTorn at e2
                  have e3 := of_decide_eq_false e2
                  have e5 := HLE2.out
                  rw [HS2.out, HLN.out, HF0.out] at e5 ⊢
                  omega)))
                clear hto
                have hw1 := HWN1.out
                refine wp_region_held (S := (fun w' => w'.cell? ⟨b, 3, none⟩ = some (.slice (some ⟨gg, off, none⟩) N cap2) ∧ w'.cell? ⟨gg, off + i, none⟩ = some (.int .i64 (f0 : Int)) ∧ w'.cell? ⟨gg, off + (i + 1), none⟩ = some (.int .i64 (f1 : Int)))) (by kernel_rfl) ?_
                change wpAnyH _ _ _ _ _ _ _ _ (World.drew _)
                refine wpAnyH_take (i := 0) (v := ?vG3_0) rfl (by kernel_rfl) (by kernel_rfl) (by kernel_rfl) (fun _ _ _ h => h) (Or.inl ⟨by rfl, ?yG3_0⟩) ⟨c3, gj, g1⟩ ?rG3_0
                case yG3_0 => (intro W hSw; (try dsimp only at hSw); obtain ⟨e0, e1, e2⟩ := hSw; first | (go_simp; done) | (go_simp; with_reducible rfl))
                try go_simp
                refine wpAnyH_take (i := 1) (v := ?vG3_1) rfl (by kernel_rfl) (by kernel_rfl) (by kernel_rfl) (fun _ _ _ h => h) (Or.inl ⟨by rfl, ?yG3_1⟩) ⟨c3, gj, g1⟩ ?rG3_1
                case yG3_1 => (intro W hSw; (try dsimp only at hSw); obtain ⟨e0, e1, e2⟩ := hSw; first | (go_simp; done) | (go_simp; with_reducible rfl))
                try go_simp
                refine wpAnyH_take (i := 2) (v := ?vG3_2) rfl (by kernel_rfl) (by kernel_rfl) (by kernel_rfl) (fun _ _ _ h => h) (Or.inl ⟨by rfl, ?yG3_2⟩) ⟨c3, gj, g1⟩ ?rG3_2
                case yG3_2 => (intro W hSw; (try dsimp only at hSw); obtain ⟨e0, e1, e2⟩ := hSw; first | (go_simp; done) | (go_simp; with_reducible rfl))
                try go_simp
                refine wpAnyH_take (i := 3) (v := ?vG3_3) rfl (by kernel_rfl) (by kernel_rfl) (by kernel_rfl) (fun _ _ _ h => h) (Or.inl ⟨by rfl, ?yG3_3⟩) ⟨c3, gj, g1⟩ ?rG3_3
                case yG3_3 => (intro W hSw; (try dsimp only at hSw); obtain ⟨e0, e1, e2⟩ := hSw; first | (go_simp; done) | (go_simp; with_reducible rfl))
                try go_simp
                refine wpAnyH_take (i := 4) (v := ?vG3_4) rfl (by kernel_rfl) (by kernel_rfl) (by kernel_rfl) (fun _ _ _ h => h) (Or.inl ⟨by rfl, ?yG3_4⟩) ⟨c3, gj, g1⟩ ?rG3_4
                case yG3_4 => (intro W hSw; (try dsimp only at hSw); obtain ⟨e0, e1, e2⟩ := hSw; first | (go_simp; done) | (go_simp; with_reducible rfl))
                try go_simp
                refine wpAnyH_take (i := 5) (v := ?vG3_5) rfl (by kernel_rfl) (by kernel_rfl) (by kernel_rfl) (fun _ _ _ h => h) (Or.inl ⟨by rfl, ?yG3_5⟩) ⟨c3, gj, g1⟩ ?rG3_5
                case yG3_5 => (intro W hSw; (try dsimp only at hSw); obtain ⟨e0, e1, e2⟩ := hSw; first | (go_simp; done) | (go_simp; with_reducible rfl))
                try go_simp
                refine wpAnyH_take (i := 6) (v := ?vG3_6) rfl (by kernel_rfl) (by kernel_rfl) (by kernel_rfl) (fun _ _ _ h => h) (Or.inl ⟨by rfl, ?yG3_6⟩) ⟨c3, gj, g1⟩ ?rG3_6
                case yG3_6 => (intro W hSw; (try dsimp only at hSw); obtain ⟨e0, e1, e2⟩ := hSw; first | (go_simp; done) | (go_simp; with_reducible rfl))
                try go_simp
                refine wpAnyH_take (i := 7) (v := ?vG3_7) rfl (by kernel_rfl) (by kernel_rfl) (by kernel_rfl) (fun _ _ _ h => h) (Or.inl ⟨by rfl, ?yG3_7⟩) ⟨c3, gj, g1⟩ ?rG3_7
                case yG3_7 => (intro W hSw; (try dsimp only at hSw); obtain ⟨e0, e1, e2⟩ := hSw; first | (go_simp; done) | (go_simp; with_reducible rfl))
                try go_simp
                refine wpAnyH_take (i := 8) (v := ?vG3_8) rfl (by kernel_rfl) (by kernel_rfl) (by kernel_rfl) (fun _ _ _ h => h) (Or.inl ⟨by rfl, ?yG3_8⟩) ⟨c3, gj, g1⟩ ?rG3_8
                case yG3_8 => (intro W hSw; (try dsimp only at hSw); obtain ⟨e0, e1, e2⟩ := hSw; first | (go_simp; done) | (go_simp; with_reducible rfl))
                try go_simp
                refine wpAnyH_take (i := 9) (v := ?vG3_9) rfl (by kernel_rfl) (by kernel_rfl) (by kernel_rfl) (fun _ _ _ h => h) (Or.inl ⟨by rfl, ?yG3_9⟩) ⟨c3, gj, g1⟩ ?rG3_9
                case yG3_9 => (intro W hSw; (try dsimp only at hSw); obtain ⟨e0, e1, e2⟩ := hSw; first | (go_simp; done) | (go_simp; with_reducible rfl))
                try go_simp
                refine wpAnyH_take (i := 10) (v := ?vG3_10) rfl (by kernel_rfl) (by kernel_rfl) (by kernel_rfl) (fun _ _ _ h => h) (Or.inl ⟨by rfl, ?yG3_10⟩) ⟨c3, gj, g1⟩ ?rG3_10
                case yG3_10 => (intro W hSw; (try dsimp only at hSw); obtain ⟨e0, e1, e2⟩ := hSw; first | (go_simp; done) | (go_simp; with_reducible rfl))
                try go_simp
                refine wpAnyH_take (i := 11) (v := ?vG3_11) rfl (by kernel_rfl) (by kernel_rfl) (by kernel_rfl) (fun _ _ _ h => h) (Or.inl ⟨by rfl, ?yG3_11⟩) ⟨c3, gj, g1⟩ ?rG3_11
                case yG3_11 => (intro W hSw; (try dsimp only at hSw); obtain ⟨e0, e1, e2⟩ := hSw; first | (go_simp; done) | (go_simp; with_reducible rfl))
                try go_simp
                refine wpAnyH_take (i := 12) (v := ?vG3_12) rfl (by kernel_rfl) (by kernel_rfl) (by kernel_rfl) (fun _ _ _ h => h) (Or.inl ⟨by rfl, ?yG3_12⟩) ⟨c3, gj, g1⟩ ?rG3_12
                case yG3_12 => (intro W hSw; (try dsimp only at hSw); obtain ⟨e0, e1, e2⟩ := hSw; first | (go_simp; done) | (go_simp; with_reducible rfl))
                try go_simp
                refine wpAnyH_take (i := 13) (v := ?vG3_13) rfl (by kernel_rfl) (by kernel_rfl) (by kernel_rfl) (fun _ _ _ h => h) (Or.inl ⟨by rfl, ?yG3_13⟩) ⟨c3, gj, g1⟩ ?rG3_13
                case yG3_13 => (intro W hSw; (try dsimp only at hSw); obtain ⟨e0, e1, e2⟩ := hSw; first | (go_simp; done) | (go_simp; with_reducible rfl))
                try go_simp
                refine wpAnyH_take (i := 14) (v := undef) rfl (by kernel_rfl) (by kernel_rfl) (by kernel_rfl) (fun _ _ _ h => h) (Or.inr ⟨by rfl, rfl⟩) ⟨c3, gj, g1⟩ ?rG3_14
                try go_simp
                refine wpAnyH_take (i := 15) (v := undef) rfl (by kernel_rfl) (by kernel_rfl) (by kernel_rfl) (fun _ _ _ h => h) (Or.inr ⟨by rfl, rfl⟩) ⟨c3, gj, g1⟩ ?rG3_15
                try go_simp
                refine wpAnyH_take (i := 16) (v := undef) rfl (by kernel_rfl) (by kernel_rfl) (by kernel_rfl) (fun _ _ _ h => h) (Or.inr ⟨by rfl, rfl⟩) ⟨c3, gj, g1⟩ ?rG3_16
                try go_simp
                refine wpAnyH_take (i := 17) (v := undef) rfl (by kernel_rfl) (by kernel_rfl) (by kernel_rfl) (fun _ _ _ h => h) (Or.inr ⟨by rfl, rfl⟩) ⟨c3, gj, g1⟩ ?rG3_17
                try go_simp
                refine wpAnyH_take (i := 18) (v := undef) rfl (by kernel_rfl) (by kernel_rfl) (by kernel_rfl) (fun _ _ _ h => h) (Or.inr ⟨by rfl, rfl⟩) ⟨c3, gj, g1⟩ ?rG3_18
                try go_simp
                refine wpAnyH_take (i := 19) (v := undef) rfl (by kernel_rfl) (by kernel_rfl) (by kernel_rfl) (fun _ _ _ h => h) (Or.inr ⟨by rfl, rfl⟩) ⟨c3, gj, g1⟩ ?rG3_19
                try go_simp
                refine wpAnyH_take (i := 20) (v := undef) rfl (by kernel_rfl) (by kernel_rfl) (by kernel_rfl) (fun _ _ _ h => h) (Or.inr ⟨by rfl, rfl⟩) ⟨c3, gj, g1⟩ ?rG3_20
                try go_simp
                refine wpAnyH_take (i := 21) (v := undef) rfl (by kernel_rfl) (by kernel_rfl) (by kernel_rfl) (fun _ _ _ h => h) (Or.inr ⟨by rfl, rfl⟩) ⟨c3, gj, g1⟩ ?rG3_21
                try go_simp
                refine wpAnyH_take (i := 22) (v := undef) rfl (by kernel_rfl) (by kernel_rfl) (by kernel_rfl) (fun _ _ _ h => h) (Or.inr ⟨by rfl, rfl⟩) ⟨c3, gj, g1⟩ ?rG3_22
                try go_simp
                refine wpAnyH_take (i := 23) (v := undef) rfl (by kernel_rfl) (by kernel_rfl) (by kernel_rfl) (fun _ _ _ h => h) (Or.inr ⟨by rfl, rfl⟩) ⟨c3, gj, g1⟩ ?rG3_23
                try go_simp
                refine wpAnyH_take (i := 24) (v := undef) rfl (by kernel_rfl) (by kernel_rfl) (by kernel_rfl) (fun _ _ _ h => h) (Or.inr ⟨by rfl, rfl⟩) ⟨c3, gj, g1⟩ ?rG3_24
                try go_simp
                refine wpAnyH_take (i := 25) (v := undef) rfl (by kernel_rfl) (by kernel_rfl) (by kernel_rfl) (fun _ _ _ h => h) (Or.inr ⟨by rfl, rfl⟩) ⟨c3, gj, g1⟩ ?rG3_25
                try go_simp
                refine wpAnyH_take (i := 26) (v := undef) rfl (by kernel_rfl) (by kernel_rfl) (by kernel_rfl) (fun _ _ _ h => h) (Or.inr ⟨by rfl, rfl⟩) ⟨c3, gj, g1⟩ ?rG3_26
                try go_simp
                refine wpAnyH_take (i := 27) (v := undef) rfl (by kernel_rfl) (by kernel_rfl) (by kernel_rfl) (fun _ _ _ h => h) (Or.inr ⟨by rfl, rfl⟩) ⟨c3, gj, g1⟩ ?rG3_27
                try go_simp
                refine wpAnyH_take (i := 28) (v := undef) rfl (by kernel_rfl) (by kernel_rfl) (by kernel_rfl) (fun _ _ _ h => h) (Or.inr ⟨by rfl, rfl⟩) ⟨c3, gj, g1⟩ ?rG3_28
                try go_simp
                refine wpAnyH_take (i := 29) (v := undef) rfl (by kernel_rfl) (by kernel_rfl) (by kernel_rfl) (fun _ _ _ h => h) (Or.inr ⟨by rfl, rfl⟩) ⟨c3, gj, g1⟩ ?rG3_29
                try go_simp
                refine wpAnyH_take (i := 30) (v := undef) rfl (by kernel_rfl) (by kernel_rfl) (by kernel_rfl) (fun _ _ _ h => h) (Or.inr ⟨by rfl, rfl⟩) ⟨c3, gj, g1⟩ ?rG3_30
                try go_simp
                refine wpAnyH_take (i := 31) (v := undef) rfl (by kernel_rfl) (by kernel_rfl) (by kernel_rfl) (fun _ _ _ h => h) (Or.inr ⟨by rfl, rfl⟩) ⟨c3, gj, g1⟩ ?rG3_31
                try go_simp
                refine wpAnyH_take (i := 32) (v := undef) rfl (by kernel_rfl) (by kernel_rfl) (by kernel_rfl) (fun _ _ _ h => h) (Or.inr ⟨by rfl, rfl⟩) ⟨c3, gj, g1⟩ ?rG3_32
                try go_simp
                refine wpAnyH_take (i := 33) (v := ?vG3_33) rfl (by kernel_rfl) (by kernel_rfl) (by kernel_rfl) (fun _ _ _ h => h) (Or.inl ⟨by rfl, ?yG3_33⟩) ⟨c3, gj, g1⟩ ?rG3_33
                case yG3_33 => (intro W hSw; (try dsimp only at hSw); obtain ⟨e0, e1, e2⟩ := hSw; first | (go_simp; done) | (go_simp; with_reducible rfl))
                try go_simp
                refine wpAnyH_take (i := 34) (v := ?vG3_34) rfl (by kernel_rfl) (by kernel_rfl) (by kernel_rfl) (fun _ _ _ h => h) (Or.inl ⟨by rfl, ?yG3_34⟩) ⟨c3, gj, g1⟩ ?rG3_34
                case yG3_34 => (intro W hSw; (try dsimp only at hSw); obtain ⟨e0, e1, e2⟩ := hSw; first | (go_simp; done) | (go_simp; with_reducible rfl))
                try go_simp
                refine wpAnyH_done (by kernel_rfl) ?_ _
                clear hw1
                go_wp2
                go_ret2
                rw [HE.out, load_bad (lg := ⟨dir, full.toNat, L, 0⟩) HBAD.out]
                exact ⟨by show (13 : Nat) ≠ 0; decide, rfl, S, HWX2.out.dk.below HB31.out, HS.out, ⟨(HGX.out.trans (went_below HB31.out)).tn, fun k hk => .inl hk⟩⟩
            · have d7 : decide ((i : Int) < (N : Int) - 1) = false := decide_eq_false (by omega)
              have d7' : ¬ (i : Int) < (N : Int) - 1 := by omega
              have hw1 := HWN1.out
              refine wp_region_held (S := (fun w' => w'.cell? ⟨b, 3, none⟩ = some (.slice (some ⟨gg, off, none⟩) N cap2))) (by kernel_rfl) ?_
              change wpAnyH _ _ _ _ _ _ _ _ (World.drew _)
              refine wpAnyH_take (i := 0) (v := ?vG4_0) rfl (by kernel_rfl) (by kernel_rfl) (by kernel_rfl) (fun _ _ _ h => h) (Or.inl ⟨by rfl, ?yG4_0⟩) c3 ?rG4_0
              case yG4_0 => (intro W hSw; (try dsimp only at hSw); obtain e0 := hSw; first | (go_simp; done) | (go_simp; with_reducible rfl))
              try go_simp
              refine wpAnyH_take (i := 1) (v := ?vG4_1) rfl (by kernel_rfl) (by kernel_rfl) (by kernel_rfl) (fun _ _ _ h => h) (Or.inl ⟨by rfl, ?yG4_1⟩) c3 ?rG4_1
              case yG4_1 => (intro W hSw; (try dsimp only at hSw); obtain e0 := hSw; first | (go_simp; done) | (go_simp; with_reducible rfl))
              try go_simp
              refine wpAnyH_take (i := 2) (v := ?vG4_2) rfl (by kernel_rfl) (by kernel_rfl) (by kernel_rfl) (fun _ _ _ h => h) (Or.inl ⟨by rfl, ?yG4_2⟩) c3 ?rG4_2
              case yG4_2 => (intro W hSw; (try dsimp only at hSw); obtain e0 := hSw; first | (go_simp; done) | (go_simp; with_reducible rfl))
              try go_simp
              refine wpAnyH_take (i := 3) (v := ?vG4_3) rfl (by kernel_rfl) (by kernel_rfl) (by kernel_rfl) (fun _ _ _ h => h) (Or.inl ⟨by rfl, ?yG4_3⟩) c3 ?rG4_3
              case yG4_3 => (intro W hSw; (try dsimp only at hSw); obtain e0 := hSw; first | (go_simp; done) | (go_simp; with_reducible rfl))
              try go_simp
              refine wpAnyH_take (i := 4) (v := ?vG4_4) rfl (by kernel_rfl) (by kernel_rfl) (by kernel_rfl) (fun _ _ _ h => h) (Or.inl ⟨by rfl, ?yG4_4⟩) c3 ?rG4_4
              case yG4_4 => (intro W hSw; (try dsimp only at hSw); obtain e0 := hSw; first | (go_simp; done) | (go_simp; with_reducible rfl))
              try go_simp
              refine wpAnyH_take (i := 5) (v := ?vG4_5) rfl (by kernel_rfl) (by kernel_rfl) (by kernel_rfl) (fun _ _ _ h => h) (Or.inl ⟨by rfl, ?yG4_5⟩) c3 ?rG4_5
              case yG4_5 => (intro W hSw; (try dsimp only at hSw); obtain e0 := hSw; first | (go_simp; done) | (go_simp; with_reducible rfl))
              try go_simp
              refine wpAnyH_take (i := 6) (v := ?vG4_6) rfl (by kernel_rfl) (by kernel_rfl) (by kernel_rfl) (fun _ _ _ h => h) (Or.inl ⟨by rfl, ?yG4_6⟩) c3 ?rG4_6
              case yG4_6 => (intro W hSw; (try dsimp only at hSw); obtain e0 := hSw; first | (go_simp; done) | (go_simp; with_reducible rfl))
              try go_simp
              refine wpAnyH_take (i := 7) (v := ?vG4_7) rfl (by kernel_rfl) (by kernel_rfl) (by kernel_rfl) (fun _ _ _ h => h) (Or.inl ⟨by rfl, ?yG4_7⟩) c3 ?rG4_7
              case yG4_7 => (intro W hSw; (try dsimp only at hSw); obtain e0 := hSw; first | (go_simp; done) | (go_simp; with_reducible rfl))
              try go_simp
              refine wpAnyH_take (i := 8) (v := ?vG4_8) rfl (by kernel_rfl) (by kernel_rfl) (by kernel_rfl) (fun _ _ _ h => h) (Or.inl ⟨by rfl, ?yG4_8⟩) c3 ?rG4_8
              case yG4_8 => (intro W hSw; (try dsimp only at hSw); obtain e0 := hSw; first | (go_simp; done) | (go_simp; with_reducible rfl))
              try go_simp
              refine wpAnyH_take (i := 9) (v := undef) rfl (by kernel_rfl) (by kernel_rfl) (by kernel_rfl) (fun _ _ _ h => h) (Or.inr ⟨by rfl, rfl⟩) c3 ?rG4_9
              try go_simp
              refine wpAnyH_take (i := 10) (v := undef) rfl (by kernel_rfl) (by kernel_rfl) (by kernel_rfl) (fun _ _ _ h => h) (Or.inr ⟨by rfl, rfl⟩) c3 ?rG4_10
              try go_simp
              refine wpAnyH_take (i := 11) (v := undef) rfl (by kernel_rfl) (by kernel_rfl) (by kernel_rfl) (fun _ _ _ h => h) (Or.inr ⟨by rfl, rfl⟩) c3 ?rG4_11
              try go_simp
              refine wpAnyH_take (i := 12) (v := undef) rfl (by kernel_rfl) (by kernel_rfl) (by kernel_rfl) (fun _ _ _ h => h) (Or.inr ⟨by rfl, rfl⟩) c3 ?rG4_12
              try go_simp
              refine wpAnyH_take (i := 13) (v := undef) rfl (by kernel_rfl) (by kernel_rfl) (by kernel_rfl) (fun _ _ _ h => h) (Or.inr ⟨by rfl, rfl⟩) c3 ?rG4_13
              try go_simp
              refine wpAnyH_take (i := 14) (v := undef) rfl (by kernel_rfl) (by kernel_rfl) (by kernel_rfl) (fun _ _ _ h => h) (Or.inr ⟨by rfl, rfl⟩) c3 ?rG4_14
              try go_simp
              refine wpAnyH_take (i := 15) (v := undef) rfl (by kernel_rfl) (by kernel_rfl) (by kernel_rfl) (fun _ _ _ h => h) (Or.inr ⟨by rfl, rfl⟩) c3 ?rG4_15
              try go_simp
              refine wpAnyH_take (i := 16) (v := undef) rfl (by kernel_rfl) (by kernel_rfl) (by kernel_rfl) (fun _ _ _ h => h) (Or.inr ⟨by rfl, rfl⟩) c3 ?rG4_16
              try go_simp
              refine wpAnyH_take (i := 17) (v := undef) rfl (by kernel_rfl) (by kernel_rfl) (by kernel_rfl) (fun _ _ _ h => h) (Or.inr ⟨by rfl, rfl⟩) c3 ?rG4_17
              try go_simp
              refine wpAnyH_take (i := 18) (v := undef) rfl (by kernel_rfl) (by kernel_rfl) (by kernel_rfl) (fun _ _ _ h => h) (Or.inr ⟨by rfl, rfl⟩) c3 ?rG4_18
              try go_simp
              refine wpAnyH_take (i := 19) (v := undef) rfl (by kernel_rfl) (by kernel_rfl) (by kernel_rfl) (fun _ _ _ h => h) (Or.inr ⟨by rfl, rfl⟩) c3 ?rG4_19
              try go_simp
              refine wpAnyH_take (i := 20) (v := undef) rfl (by kernel_rfl) (by kernel_rfl) (by kernel_rfl) (fun _ _ _ h => h) (Or.inr ⟨by rfl, rfl⟩) c3 ?rG4_20
              try go_simp
              refine wpAnyH_take (i := 21) (v := undef) rfl (by kernel_rfl) (by kernel_rfl) (by kernel_rfl) (fun _ _ _ h => h) (Or.inr ⟨by rfl, rfl⟩) c3 ?rG4_21
              try go_simp
              refine wpAnyH_take (i := 22) (v := undef) rfl (by kernel_rfl) (by kernel_rfl) (by kernel_rfl) (fun _ _ _ h => h) (Or.inr ⟨by rfl, rfl⟩) c3 ?rG4_22
              try go_simp
              refine wpAnyH_take (i := 23) (v := undef) rfl (by kernel_rfl) (by kernel_rfl) (by kernel_rfl) (fun _ _ _ h => h) (Or.inr ⟨by rfl, rfl⟩) c3 ?rG4_23
              try go_simp
              refine wpAnyH_take (i := 24) (v := undef) rfl (by kernel_rfl) (by kernel_rfl) (by kernel_rfl) (fun _ _ _ h => h) (Or.inr ⟨by rfl, rfl⟩) c3 ?rG4_24
              try go_simp
              refine wpAnyH_take (i := 25) (v := undef) rfl (by kernel_rfl) (by kernel_rfl) (by kernel_rfl) (fun _ _ _ h => h) (Or.inr ⟨by rfl, rfl⟩) c3 ?rG4_25
              try go_simp
              refine wpAnyH_take (i := 26) (v := undef) rfl (by kernel_rfl) (by kernel_rfl) (by kernel_rfl) (fun _ _ _ h => h) (Or.inr ⟨by rfl, rfl⟩) c3 ?rG4_26
              try go_simp
              refine wpAnyH_take (i := 27) (v := undef) rfl (by kernel_rfl) (by kernel_rfl) (by kernel_rfl) (fun _ _ _ h => h) (Or.inr ⟨by rfl, rfl⟩) c3 ?rG4_27
              try go_simp
              refine wpAnyH_take (i := 28) (v := undef) rfl (by kernel_rfl) (by kernel_rfl) (by kernel_rfl) (fun _ _ _ h => h) (Or.inr ⟨by rfl, rfl⟩) c3 ?rG4_28
              try go_simp
              refine wpAnyH_take (i := 29) (v := undef) rfl (by kernel_rfl) (by kernel_rfl) (by kernel_rfl) (fun _ _ _ h => h) (Or.inr ⟨by rfl, rfl⟩) c3 ?rG4_29
              try go_simp
              refine wpAnyH_take (i := 30) (v := undef) rfl (by kernel_rfl) (by kernel_rfl) (by kernel_rfl) (fun _ _ _ h => h) (Or.inr ⟨by rfl, rfl⟩) c3 ?rG4_30
              try go_simp
              refine wpAnyH_take (i := 31) (v := undef) rfl (by kernel_rfl) (by kernel_rfl) (by kernel_rfl) (fun _ _ _ h => h) (Or.inr ⟨by rfl, rfl⟩) c3 ?rG4_31
              try go_simp
              refine wpAnyH_take (i := 32) (v := undef) rfl (by kernel_rfl) (by kernel_rfl) (by kernel_rfl) (fun _ _ _ h => h) (Or.inr ⟨by rfl, rfl⟩) c3 ?rG4_32
              try go_simp
              refine wpAnyH_take (i := 33) (v := undef) rfl (by kernel_rfl) (by kernel_rfl) (by kernel_rfl) (fun _ _ _ h => h) (Or.inr ⟨by rfl, rfl⟩) c3 ?rG4_33
              try go_simp
              refine wpAnyH_take (i := 34) (v := ?vG4_34) rfl (by kernel_rfl) (by kernel_rfl) (by kernel_rfl) (fun _ _ _ h => h) (Or.inl ⟨by rfl, ?yG4_34⟩) c3 ?rG4_34
              case yG4_34 => (intro W hSw; (try dsimp only at hSw); obtain e0 := hSw; first | (go_simp; done) | (go_simp; with_reducible rfl))
              try go_simp
              refine wpAnyH_done (by kernel_rfl) ?_ _
              clear hw1
              go_wp2
              go_roundg gk2
              case measure => omega
              case rel =>
                try rw [HNI.out]
                exact ⟨i + 1, _, _, _, by omega, rfl, rfl, congrArg (Value.int .i64) (by omega), Lib.hid (HWX2.out.below HB31.out), Lib.hid (HGX.out.trans (went_below HB31.out)), Lib.hid (fun k h e => by
                obtain rfl : i = k := by omega
                exact ⟨by rw [HS2.out, HF0.out], by rw [HLN.out, HF0.out]⟩), Lib.hid (fun k h hk => by have := HNN.out; exact HRU.out k h (by omega)), Lib.hid (Nat.le_trans HBX.out HB31.out.size)⟩
          · have hlt3 : decide ((i : Int) < (N : Int)) = false := decide_eq_false (by omega)
            have hlt4 : ¬ (i : Int) < (N : Int) := by omega
            have hiN : i = L.length := by have := HNN.out; omega
            have hnl : L.length - 1 < L.length := by have := HNN.out; have := HN0.out; omega
            obtain ⟨sg, hsg⟩ : ∃ sg, sg = Lg.last ⟨dir, full.toNat, L, 0⟩ := ⟨_, rfl⟩
            have hlg : L[L.length - 1] = sg := by
              rw [hsg]
              unfold Lg.last
              show _ = L.getD (L.length - 1) ⟨0, []⟩
              rw [List.getD_eq_getElem?_getD, List.getElem?_eq_getElem hnl]
              rfl
            have hlast := HLA.out (L.length - 1) hnl (by have := HN0.out; have := HNN.out; omega)
            rw [hlg] at hlast
            have hk : ldOk dir d L = true := ok_of_runs (lg := ⟨dir, 0, L, 0⟩) (fun k h => HRU.out k h (by have h2 : k + 1 < L.length := h; omega))
            have hc2 := ch_load (dir := dir) (full := full.toNat) (d := d) HNE.out HDIR.out (by have := HN64.out; have := HNN.out; omega) HNUM.out (fun g hg => ⟨(HRD.out g hg).1, Nat.le_trans (HRD.out g hg).2 (by decide)⟩) hk
            rw [← hsg] at hc2
            have hwt := wt_load dir d 60000 L (fun x hx => (HRD.out x hx).2)
            have hwt2 : wt (allR (L.map (ldSeg dir d))) ≤ 5000000 := by
              have : L.length * 60000 ≤ 64 * 60000 := Nat.mul_le_mul_right _ (by have := HN64.out; have := HNN.out; omega)
              omega
            have HCH := Lib.hid hc2.1
            have HLST := Lib.hid hc2.2
            have HKR := Lib.hid (ch_rok hc2.1 hwt2)
            have HLK := Lib.hid hk
            have HSG := Lib.hid hsg
            have htk : L.take i = L := List.take_of_length_le (by omega)
            have eref : Lg.ref ⟨dir, full.toNat, L.map (ldSeg dir d), 0⟩ = ⟨dir, full, L.map Sg.first, allR (L.map (ldSeg dir d)), 0⟩ := by
              show (⟨dir, ((full.toNat : Nat) : Int), (L.map (ldSeg dir d)).map Sg.first, allR (L.map (ldSeg dir d)), 0⟩ : Rl) = _
              rw [HFT.out, List.map_map]
              rfl
            have HWV : Hid (WR B wr b C2 (Lg.ref ⟨dir, full.toNat, L.map (ldSeg dir d), 0⟩) c S d) := Lib.hid (by rw [eref]; have e := HWR.out; rw [htk] at e; exact e)
            obtain ⟨vn, va, ua, hl⟩ := HWR.out.lk
            obtain ⟨vo2, vc2, rfl, _, _, _, _⟩ := hl.nums.slice
            have c3o := hl.c3
            have c3 : wr.cell? ⟨b, 3, none⟩ = some (.slice vo2 N vc2) := by rw [HNN.out, ← List.length_map (f := Sg.first)]; exact c3o
            have HBS := Lib.hid hl.cb
            obtain ⟨vnv, vav, uav, hlv⟩ := HWV.out.lk
            have HLV := Lib.hid hlv
            have HEND : Hid (segN (Lg.ref ⟨dir, full.toNat, L.map (ldSeg dir d), 0⟩).dir (Lg.ref ⟨dir, full.toNat, L.map (ldSeg dir d), 0⟩).end_ = segN dir sg.first) := Lib.hid (by
              rw [ref_end hc2.1.ok.ne, hc2.2]
              rfl)
            obtain ⟨hwh, hlo⟩ := hlast
            have HWH := Lib.hid hwh
            have HLO := Lib.hid hlo
            clear hiN hnl hlg hk hc2 hwt hwt2 htk eref hl c3o hlv hwh hlo hsg
            by_cases hto : wh < lo
            · have d8 : decide ((wh : Int) < (lo : Int)) = true := decide_eq_true (by omega)
              have d8' : (wh : Int) < (lo : Int) := by omega
              have HTO : Hid (ldTorn dir d (Lg.last ⟨dir, full.toNat, L, 0⟩) = true) := Lib.hid (by rw [← HSG.out]; unfold ldTorn; rw [← HWH.out, ← HLO.out]; exact decide_eq_true hto)
              obtain ⟨vdv, udv, hrv⟩ := HWV.out.dk
              have HRV := Lib.hid hrv
              obtain ⟨q, hq⟩ : ∃ q, d.cut (segN dir sg.first) (wh : Int) = q := ⟨_, rfl⟩
              have HQ := Lib.hid hq
              have hwl : wh ≤ 60000 := by
                have h1 := HRD.out sg (by rw [HSG.out]; unfold Lg.last; show L.getD (L.length - 1) ⟨0, []⟩ ∈ L; rw [List.getD_eq_getElem?_getD, List.getElem?_eq_getElem (by have := HNN.out; have := HN0.out; omega)]; exact List.getElem_mem _)
                have h2 := HLO.out
                omega
              have HW1 : Hid (-9223372036854775808 ≤ (wh : Int)) := Lib.hid (by omega)
              have HW2 : Hid ((wh : Int) ≤ 9223372036854775807) := Lib.hid (by omega)
              have HDQ : Hid (q.1.done ≤ 1000000001) := Lib.hid (by rw [← hq]; exact Nat.le_trans (cut_done _ _ _) (Nat.add_le_add_right HDN.out 1))
              have HCUT : Hid (d.cut (segN dir (Lg.last ⟨dir, full.toNat, L, 0⟩).first) ((ldSeg dir d (Lg.last ⟨dir, full.toNat, L, 0⟩)).size : Int) = q) := Lib.hid (by rw [← HSG.out, ldSeg_size, ← HWH.out]; exact hq)
              have HDN2 : Hid (d.done < 9223372036854775807) := Nat.lt_of_le_of_lt HDN.out (by decide)
              clear hq hrv hwl hto
              go_upto_region 35 with (first
                | (go_at_call 80; (refine (rlast_any HLV.out HKR.out).mono ?_); rw [HEND.out]; rintro e w80 ⟨rfl, hb80⟩; have HB80 := Lib.hid hb80; clear hb80)
                | (go_at_call 83; (refine (rcut_any (HRV.out.below HB80.out) (segN dir sg.first) HDN2.out (wh : Int) HW1.out HW2.out).mono ?_); rintro e w83 ⟨rfl, hd83, ht83⟩; rw [HQ.out] at hd83 ⊢; have HD83 := Lib.hid hd83; have HT83 := Lib.hid ht83; clear hd83 ht83))
              have HW83 := Lib.hid ((HWV.out.below HB80.out).disk (Nat.le_trans HBWq.out HB80.out.size) HD83.out HT83.out)
              have HG83 : Hid (Went S w w83 (fun k => C2 k ∨ Gw S w80 w83 k)) := (HGO.out.trans (went_below HB80.out)).trans (went_disk HT83.out)
              have HB83 : Hid (B ≤ w83.heap.size) := Nat.le_trans HBWq.out (Nat.le_trans HB80.out.size HT83.out.size)
              clear c3
              by_cases hq0 : q.2 = 0
              · have hb2 : (((q.2 : Nat) : Int) != 0) = false := by rw [hq0]; rfl
                have HLD : Hid (Lg.load ⟨dir, full.toNat, L, 0⟩ d = ok3 (Lg.sync ⟨dir, full.toNat, L.map (ldSeg dir d), 0⟩ q.1)) := Lib.hid (by
                  rw [load_cut (lg := ⟨dir, full.toNat, L, 0⟩) (N := L.length) (Nat.le_refl _) HLK.out HTO.out HCUT.out hq0, mid_all _ _ (Nat.le_refl _)])
                clear hq0
                obtain ⟨x, hx⟩ : ∃ x, Lg.sync ⟨dir, full.toNat, L.map (ldSeg dir d), 0⟩ q.1 = x := ⟨_, rfl⟩
                have HX := Lib.hid hx
                have HSY : Hid (Calls Tryz.prog 47 #[ptr b] w83 (RLogged C2 (Gw S w80 w83) B w83 b c (x.1.ref, x.2.1, x.2.2))) := Lib.hid (by
                  have e := HCH.out.ref_sync q.1
                  rw [hx] at e
                  have e2 := rlsync_any HW83.out HB83.out HKR.out (Nat.lt_of_le_of_lt HDQ.out (by decide))
                  rw [e] at e2
                  exact e2)
                clear hx
                go_upto_region 38 with (go_at_call 47; (refine HSY.out.mono ?_); rintro e wz ⟨rfl, C5, S5, hw5, hg5⟩; have HW5 := Lib.hid hw5; have HG5 := Lib.hid hg5; clear hw5 hg5)
                by_cases hx0 : x.2.2 = 0
                · have hb1 : (((x.2.2 : Nat) : Int) != 0) = false := by rw [hx0]; rfl
                  have HX0 := Lib.hid hx0
                  clear hx0
                  go_wp2
                  go_ret2
                  have hok3 : ok3 x = (some x.1, x.2.1, 0) := by unfold ok3; rw [if_pos HX0.out, HX0.out]
                  rw [HE.out, HLD.out, HX.out, hok3]
                  exact ⟨rfl, b, C5, S5, rfl, HW5.out, HG83.out.trans HG5.out⟩
                · have hb1 : (((x.2.2 : Nat) : Int) != 0) = true := by simpa using hx0
                  have HX0 := Lib.hid hx0
                  clear hx0
                  go_wp2
                  go_ret2
                  have hok3 : ok3 x = (none, x.2.1, x.2.2) := by unfold ok3; rw [if_neg HX0.out]
                  rw [HE.out, HLD.out, HX.out, hok3]
                  exact ⟨HX0.out, rfl, S5, HW5.out.dk, HW5.out.sb, ⟨(HG83.out.trans HG5.out).tn, fun k hk => (HG83.out.trans HG5.out).sub k (.inr hk)⟩⟩
              · have hb2 : (((q.2 : Nat) : Int) != 0) = true := by simpa using hq0
                have HQ0 := Lib.hid hq0
                have HLD : Hid (Lg.load ⟨dir, full.toNat, L, 0⟩ d = (none, q.1, q.2)) := Lib.hid (load_fell (lg := ⟨dir, full.toNat, L, 0⟩) HLK.out HTO.out HCUT.out hq0)
                clear hq0
                go_wp2
                go_ret2
                rw [HE.out, HLD.out]
                exact ⟨HQ0.out, rfl, _, HD83.out, fun k hk => Gw.lo HS.out (Nat.le_trans HBWq.out HB80.out.size) hk, ⟨HG83.out.tn, fun k hk => HG83.out.sub k (.inr hk)⟩⟩
            · have d8 : decide ((wh : Int) < (lo : Int)) = false := decide_eq_false (by omega)
              have d8' : ¬ (wh : Int) < (lo : Int) := by omega
              have HTO : Hid (ldTorn dir d (Lg.last ⟨dir, full.toNat, L, 0⟩) = false) := Lib.hid (by rw [← HSG.out]; unfold ldTorn; rw [← HWH.out, ← HLO.out]; exact decide_eq_false hto)
              have HLD : Hid (Lg.load ⟨dir, full.toNat, L, 0⟩ d = ok3 (Lg.sync ⟨dir, full.toNat, L.map (ldSeg dir d), 0⟩ d)) := Lib.hid (by
                rw [load_whole (lg := ⟨dir, full.toNat, L, 0⟩) (N := L.length) (Nat.le_refl _) HLK.out HTO.out, mid_all _ _ (Nat.le_refl _)])
              clear hto
              obtain ⟨x, hx⟩ : ∃ x, Lg.sync ⟨dir, full.toNat, L.map (ldSeg dir d), 0⟩ d = x := ⟨_, rfl⟩
              have HX := Lib.hid hx
              have HSY : Hid (Calls Tryz.prog 47 #[ptr b] wr (RLogged C2 S B wr b c (x.1.ref, x.2.1, x.2.2))) := Lib.hid (by
                have e := HCH.out.ref_sync d
                rw [hx] at e
                have e2 := rlsync_any HWV.out HBWq.out HKR.out (Nat.lt_of_le_of_lt HDN.out (by decide))
                rw [e] at e2
                exact e2)
              clear hx
              go_upto_region 38 with (go_at_call 47; (refine HSY.out.mono ?_); rintro e wz ⟨rfl, C5, S5, hw5, hg5⟩; have HW5 := Lib.hid hw5; have HG5 := Lib.hid hg5; clear hw5 hg5)
              by_cases hx0 : x.2.2 = 0
              · have hb1 : (((x.2.2 : Nat) : Int) != 0) = false := by rw [hx0]; rfl
                have HX0 := Lib.hid hx0
                clear hx0
                go_wp2
                go_ret2
                have hok3 : ok3 x = (some x.1, x.2.1, 0) := by unfold ok3; rw [if_pos HX0.out, HX0.out]
                rw [HE.out, HLD.out, HX.out, hok3]
                exact ⟨rfl, b, C5, S5, rfl, HW5.out, HGO.out.trans HG5.out⟩
              · have hb1 : (((x.2.2 : Nat) : Int) != 0) = true := by simpa using hx0
                have HX0 := Lib.hid hx0
                clear hx0
                go_wp2
                go_ret2
                have hok3 : ok3 x = (none, x.2.1, x.2.2) := by unfold ok3; rw [if_neg HX0.out]
                rw [HE.out, HLD.out, HX.out, hok3]
                exact ⟨HX0.out, rfl, S5, HW5.out.dk, HW5.out.sb, ⟨(HGO.out.trans HG5.out).tn, fun k hk => (HGO.out.trans HG5.out).sub k (.inr hk)⟩⟩
end
end Go.Proofs.YtkilkhnoldfhcaaGreatDoor
