/- racelaw14.DirSplits' walk. Conditions: none of its own. -/
import Derived.Test.YtfcdajkgopcmpaaJDxb
import Derived.Test.YtfcdajkgopcmpaaJDxr
import Derived.Test.YtfcdajkgopcmpaaJDxd
import Derived.Test.YtfcdajkgopcmpaaJDxe
namespace Go.Proofs.Ytfcdajkgopcmpaa
open Go.ChangeShapes Go.WideShapes Go.ChangeAt Go.RowKit
theorem splits_ok (w : World) (n : Nat) (h0 : 0 < n) (h : n ≤ 12) (tad : Option Addr) (tn tcap : Nat) (t : List I64) (ht : XB iv ⟨0, by decide⟩ w.heap.size w tad tn tcap t)
    (po : Option Addr) (pn pcap : Nat) (ps : List F64) (hp : XB fv ⟨0, by decide⟩ w.heap.size w po pn pcap ps) (uo : Option Addr) (un ucap : Nat) (us : List Bool) (hu : XB bv false w.heap.size w uo un ucap us)
    (ko : Option Addr) (kn kcap : Nat) (ks : List Str) (hk : KS w.heap.size w ko kn kcap ks) :
    Calls Try.prog 4 #[.int .i64 n, .slice tad tn tcap, .slice po pn pcap, .slice uo un ucap, .slice ko kn kcap] w fun e w' => e = .returned (.bool true) ∧ Below w.heap.size w w' :=
  splitsA.2 (Lib.hid (splitsC.2 (Lib.hid splits_d) (Lib.hid splits_e))) (Lib.hid splits_b) (Lib.hid splits_r) w n h0 h tad tn tcap t ht po pn pcap ps hp uo un ucap us hu ko kn kcap ks hk
end Go.Proofs.Ytfcdajkgopcmpaa
