/- The walk of LimitSplits. -/
import Derived.Test.YthhfpkhmhhcaiaaLive
import Derived.Test.YthhfpkhmhhcaiaaSplit
namespace Go.Proofs.Ythhfpkhmhhcaiaa
open Go Go.RowKit
set_option linter.unusedVariables false
set_option linter.unusedSimpArgs false

theorem walk_LimitSplits (a0 : Int) (a1 : Option Addr) (len1 cap1 : Nat) (z1 : List Int) (w : World) (w0 : (Lit.int .u64 a0).wf = true) (w1 : IsRow .u64 w a1 len1 cap1 z1) :
    Calls Try.prog 7 #[.int .u64 a0, .slice a1 len1 cap1] w fun e w' => e = .returned (.bool true) ∧ Below w.heap.size w w' := by
  obtain ⟨b0, c0⟩ := u64_of w0
  have hl := w1.len_le
  have hl1 := hl.1
  have hl2 := hl.2.1
  have HP := Lib.hid (split_any (cap := cap1) (Rd.of_row w1) hl2 b0 c0)
  have HR := Lib.hid (rsplit_any (cap := cap1) (Rd.of_row w1) hl2 b0 c0)
  clear w0 w1 hl b0 c0
  by_cases hbig : 1000 < len1
  · clear HP HR
    go_enter Try.func7, Try.ntmps7
    go_wp2_with fail
    refine (alive_any _).mono ?_
    rintro e w1 ⟨rfl, hb⟩
    have HB := Lib.hid hb
    clear hb
    go_wp2_with fail
    go_ret
    exact ⟨rfl, HB.out⟩
  · go_enter Try.func7, Try.ntmps7
    go_wp2_with fail
    refine HP.out.mono ?_
    rintro e w1 ⟨n, rfl, hn, rfl⟩
    have HN := Lib.hid hn
    clear hn HP
    go_wp2_with fail
    refine HR.out.mono ?_
    rintro e w1 ⟨m, rfl, hm, rfl⟩
    obtain rfl := HN.out.unique hm
    clear hm HR HN
    generalize left a0 z1 n = r at *
    go_wp2_with fail
    refine (alive_any _).mono ?_
    rintro e w1 ⟨rfl, hb⟩
    have HB := Lib.hid hb
    clear hb
    go_wp2_with fail
    go_ret
    exact ⟨rfl, HB.out⟩
end Go.Proofs.Ythhfpkhmhhcaiaa
