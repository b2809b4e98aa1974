/- The net's Twice, Drop; Send and Twice as the laws ask. Conditions: no more than a million mails; bytes as a row holds them. -/
import Derived.Test.YtcgbjpmmbbldpaaKe
namespace Go.Proofs.Ytcgbjpmmbbldpaa
open Go.ChangeShapes Go.WideShapes Go.ChangeAt Go.RowKit Go.Deep
/-- What a call of the net that answers a number, or whether, leaves. -/
def NWent (C : Nat → Prop) (w : World) (a : Nat) (room : Int) (l' : List MV) (r : Value) (e : Ending) (w' : World) : Prop :=
  e = .returned r ∧ ∃ C', NK C' w' a room l' ∧ Way C w C' w'
section
variable {C D : Nat → Prop} {w : World} {a : Nat} {room : Int} {l : List MV}
theorem NWentS.went {w' : World} {e : Ending} {l' : List MV} {r : Int} (h : NWentS C w a room l' r e w') : NWent C w a room l' (.int .i64 r) e w' := let ⟨h1, C', h2, _, h3⟩ := h; ⟨h1, C', h2, h3⟩
theorem nsend_any (h : NK C w a room l) (f t : Int) {ao : Option Addr} {cap : Nat} {d : List UInt8} (hd : SB D w ao d.length cap d) (hroom : d.length ≤ 100000000) (hl : l.length ≤ 1000000) :
    Calls Try.prog 14 #[ptr a, .int .i64 f, .int .i64 t, .slice ao d.length cap] w (NWent C w a room (if room ≤ l.length then l else l ++ [⟨f, t, d⟩]) (.int .i64 (if room ≤ l.length then 11 else 0))) :=
  (nsendS_any h f t hd hroom hl).mono fun _ _ h => h.went
theorem ntwiceS_no (h : NK C w a room l) {i : Int} (hi : hasB l i = false) : Calls Try.prog 18 #[ptr a, .int .i64 i] w (NWentS C w a room l 8) := by
  have HH := fun w h => Lib.hid (nhas_any (w := w) (a := a) (C := C) (room := room) (l := l) h i)
  simp only [hi] at HH
  have HR := Lib.hid h
  clear h hi
  go_enter Try.func18, Try.ntmps18
  go_wp2_with (go_at_call 32; refine (HH _ HR.out).out.mono ?_; rintro e w1 ⟨rfl, rfl⟩)
  go_ret
  exact ⟨rfl, C, HR.out, fun _ h => h, Way.refl _ _⟩
set_option maxRecDepth 100000 in
set_option maxHeartbeats 4000000 in
theorem ntwiceS_yes (h : NK C w a room l) {i : Nat} (hi : i < l.length) (hl : l.length ≤ 1000000) (hd : l[i].d.length ≤ 100000000) : Calls Try.prog 18 #[ptr a, .int .i64 i] w (NWentS C w a room (if room ≤ l.length then l else l ++ [l[i]]) (if room ≤ l.length then 11 else 0)) := by
  have HH := fun w h => Lib.hid (nhas_any (w := w) (a := a) (C := C) (room := room) (l := l) h i)
  simp only [hasB_of hi] at HH
  have HR := Lib.hid h
  obtain ⟨v, L, hr⟩ := HR.out
  have hk : i < L.length := by rw [hr.len]; exact hi
  have c1 := hr.c1
  obtain ⟨ao, cap, e⟩ := own_slice hr.ml.own
  subst e
  rw [hr.len] at c1
  obtain ⟨g, rfl, hgl, hCg, hm, hda⟩ := hr.ml.at_ hk
  have he := eq_at hr.eq hk hi
  have hal := hr.alt
  have HAL := Lib.hid hal
  clear hr hal
  generalize L[i] = x at *
  obtain ⟨x, u⟩ := x
  simp only at he
  rw [← he] at hd
  rw [← he]
  have HSN : ∀ (w1 : World), NK C w1 a room l → ∀ {ao : Option Addr} {cap : Nat}, SB C w1 ao x.d.length cap x.d → Hid (Calls Try.prog 14 #[ptr a, .int .i64 x.f, .int .i64 x.t, .slice ao x.d.length cap] w1 (NWentS C w1 a room (if room ≤ l.length then l else l ++ [x]) (if room ≤ l.length then 11 else 0))) := fun w1 h {ao cap} hs => Lib.hid (nsendS_any h x.f x.t hs hd hl)
  generalize (if room ≤ (l.length : Int) then l else l ++ [x]) = l1 at *
  generalize (if room ≤ (l.length : Int) then (11 : Int) else 0) = r1 at *
  obtain ⟨n, hn⟩ : ∃ n, l.length = n := ⟨_, rfl⟩
  rw [hn] at c1 hi
  clear he hn hl h hk hd
  obtain ⟨uo, uc, e⟩ := own_slice hda.own
  simp only at e
  subst e
  have HSB := Lib.hid (hda.sb rfl)
  have HM := Lib.hid hm
  clear hda hm
  obtain ⟨xf, xt, xd⟩ := x
  have d0 := HM.out.c0; have d1 := HM.out.c1; have d2 := HM.out.c2
  simp only at d0 d1 d2 HSN
  go_enter Try.func18, Try.ntmps18
  go_wp2_with (first | (go_at_call 32; refine (HH _ HR.out).out.mono ?_; rintro e w1 ⟨rfl, rfl⟩) | (go_at_call 14; refine (HSN _ (HR.out.below (below1 _ _)) (HSB.out.below (below1 _ _))).out.mono ?_; rintro e w2 ⟨rfl, C2, h1, h2, h3⟩; have HN2 := Lib.hid h1; have HC2 := Lib.hid h2; have HW2 := Lib.hid h3; clear h1 h2 h3))
  go_ret
  exact ⟨rfl, C2, HN2.out, HC2.out, (Way.of_below (below1 _ _)).trans HW2.out⟩
theorem ntwice_yes (h : NK C w a room l) {i : Nat} (hi : i < l.length) (hl : l.length ≤ 1000000) (hd : l[i].d.length ≤ 100000000) : Calls Try.prog 18 #[ptr a, .int .i64 i] w (NWent C w a room (if room ≤ l.length then l else l ++ [l[i]]) (.int .i64 (if room ≤ l.length then 11 else 0))) :=
  (ntwiceS_yes h hi hl hd).mono fun _ _ h => h.went
set_option maxRecDepth 100000 in
theorem ntwice_no (h : NK C w a room l) {i : Int} (hi : hasB l i = false) : Calls Try.prog 18 #[ptr a, .int .i64 i] w fun e w' => e = .returned (.int .i64 8) ∧ Below w.heap.size w w' := by
  have HH := fun w h => Lib.hid (nhas_any (w := w) (a := a) (C := C) (room := room) (l := l) h i)
  simp only [hi] at HH
  have HR := Lib.hid h
  clear h hi
  go_enter Try.func18, Try.ntmps18
  go_wp2_with (go_at_call 32; refine (HH _ HR.out).out.mono ?_; rintro e w1 ⟨rfl, rfl⟩)
  go_ret
  exact ⟨rfl, Below.refl _ _⟩
set_option maxRecDepth 100000 in
theorem ndrop_no (h : NK C w a room l) {i : Int} (hi : hasB l i = false) : Calls Try.prog 17 #[ptr a, .int .i64 i] w fun e w' => e = .returned (.bool false) ∧ Below w.heap.size w w' := by
  have HT := Lib.hid (ntake_no h hi)
  clear h hi
  go_enter Try.func17, Try.ntmps17
  go_wp2_with (go_at_call 15; refine HT.out.mono ?_; rintro e w1 ⟨rfl, hb⟩; have HB := Lib.hid hb; clear hb)
  go_ret
  exact ⟨rfl, HB.out.alloc HB.out.size _⟩
set_option maxRecDepth 100000 in
theorem ndrop_yes (h : NK C w a room l) {i : Nat} (hi : i < l.length) (hl : l.length ≤ 1000000) : Calls Try.prog 17 #[ptr a, .int .i64 i] w (NWent C w a room (l.eraseIdx i) (.bool true)) := by
  have HT := Lib.hid (ntake_all h hi hl)
  generalize l[i] = x at *
  generalize l.eraseIdx i = l1 at *
  clear h hi hl
  go_enter Try.func17, Try.ntmps17
  go_wp2_with (go_at_call 15; refine HT.out.mono ?_; rintro e w1 ⟨uo, uc, rfl, C', h1, h2, h3⟩; have HN := Lib.hid h1; have HW := Lib.hid h3; clear h1 h2 h3)
  go_ret
  exact ⟨rfl, C', HN.out.below (below1 _ _), HW.out.below (below1 _ _)⟩
end
end Go.Proofs.Ytcgbjpmmbbldpaa
