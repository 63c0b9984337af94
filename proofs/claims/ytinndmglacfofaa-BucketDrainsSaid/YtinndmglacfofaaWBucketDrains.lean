/- The walk of BucketDrains. -/
import Derived.Test.YtinndmglacfofaaOwn
namespace Go.Proofs.Ytinndmglacfofaa
open Go Go.RowKit Go.Deep
set_option linter.unusedVariables false
set_option linter.unusedSimpArgs false

set_option maxHeartbeats 3200000 in
theorem walk_BucketDrains (a0 : Int) (a1 : Option Addr) (len1 cap1 : Nat) (z1 : List Int) (w : World) (w0 : (Lit.int .u8 a0).wf = true) (w1 : IsRow .u8 w a1 len1 cap1 z1) :
    Calls Try.prog 6 #[.int .u8 a0, .slice a1 len1 cap1] w fun e w' => e = .returned (.bool true) ∧ Below w.heap.size w w' := by
  have hR := Lib.hid (Rd.of_row w1)
  obtain ⟨_, hl1, _, hz⟩ := w1.len_le
  have hr0 := u8_wf w0
  obtain ⟨z0, zz⟩ := hr0
  clear w0 w1 hz
  obtain ⟨m, hm⟩ : ∃ m : Nat, a0 % 12 = (m : Int) := ⟨(a0 % 12).toNat, by omega⟩
  have hm12 : m < 12 := by omega
  have hm2 : Int.tmod a0 12 = (m : Int) := by rw [Int.tmod_eq_emod_of_nonneg z0]; exact hm
  obtain ⟨n, hn⟩ : ∃ n, n = m + 1 := ⟨_, rfl⟩
  have hmn : (m : Int) + 1 = (n : Int) := by omega
  have hn1 : 1 ≤ n := by omega
  have hn12 : n ≤ 12 := by omega
  clear hn hm
  have HN := Lib.hid (fun w => new_any n w (by omega) (by omega))
  by_cases h100 : (100 : Int) < (len1 : Int)
  · go_enter Try.func6, Try.ntmps6
    go_wp2_with fail
    refine (alive_any _).mono ?_
    rintro e w2 ⟨rfl, hb2⟩
    have HB := Lib.hid hb2
    clear hb2
    go_wp2_with fail
    go_ret
    exact ⟨rfl, HB.out⟩
  · have hbyte : Hid (∀ x ∈ idx z1 len1, 0 ≤ x.1 ∧ x.1 ≤ 255) := Lib.hid (by
      intro x hx
      rw [idx, List.mem_map] at hx
      obtain ⟨i, hi, rfl⟩ := hx
      have hi2 : i < len1 := by simpa using hi
      obtain ⟨_, _, _, _, hc⟩ := hR.out (by omega)
      exact u8_wf (hc i hi2).2)
    go_enter Try.func6, Try.ntmps6
    go_wp2_with fail
    refine (HN.out _).mono ?_
    rintro e w1 ⟨b, S, rfl, hr, hS, hb⟩
    have H1 : Hid (Own w w1 b n (idx z1 0)) := Lib.hid ⟨S, hr, hS, hb⟩
    clear hr hS hb
    go_wp2_with fail
    go_loopw [26] (fun s26 wr => ∃ k : Nat, k ≤ len1 ∧ s26 = .int .i64 k ∧ Hid (Own w wr b n (idx z1 k))) (fun s26 _ => len1 - (intOf s26).toNat)
    case atStart => exact ⟨0, by omega, rfl, H1⟩
    case round =>
      obtain ⟨k, hk, rfl, HR⟩ := hrel
      by_cases hlt : k < len1
      · obtain ⟨g, off, rfl, hg, hc⟩ := (hR.out.below HR.out.bel) (by omega)
        obtain ⟨hcell, hwf⟩ := hc k hlt
        have hx := u8_wf hwf
        have HP := Lib.hid (HR.out.put (z1.getD k 0) k hx.1 (by omega) (by rw [idx_len]; omega))
        rw [idx_succ] at HP
        have hk1 : ¬ (k : Int) < 0 := by omega
        have hk2 : ¬ (len1 : Int) ≤ (k : Int) := by omega
        have hk3 : (k : Int) < (len1 : Int) := by omega
        clear hc hg hwf
        generalize z1.getD k 0 = x at *
        obtain ⟨hx0, hx1⟩ := hx
        go_wp2_with fail
        refine HP.out.mono ?_
        rintro e w2 ⟨rfl, K2⟩
        clear HR HP
        go_wp2_with fail
        go_roundw
        case rel => exact ⟨k + 1, by omega, by go_num, K2⟩
        case measure => simp [intOf]; omega
      · obtain rfl : k = len1 := by omega
        clear hlt
        have hlt : ¬ k < k := by omega
        obtain ⟨W0, hW0⟩ : ∃ W, W = wr := ⟨_, rfl⟩
        subst hW0
        have HR2 : Hid (Own w W0 b n (left ((0 : Nat) : Int) (idx z1 k))) := Lib.hid (by rw [show ((0 : Nat) : Int) = 0 from rfl, left_all (fun x hx => (hbyte.out x hx).1)]; exact HR.out)
        have HC0 : Hid (0 + (left ((0 : Nat) : Int) (idx z1 k)).length = k) := Lib.hid (by rw [show ((0 : Nat) : Int) = 0 from rfl, left_all (fun x hx => (hbyte.out x hx).1), idx_len]; omega)
        clear HR
        go_wp2_with fail
        go_loopw [8, 38] (fun s8 s38 wr => ∃ c e : Nat, e ≤ 256 ∧ c ≤ k ∧ s38 = .int .i64 e ∧ s8 = .int .i64 c ∧ Hid (c + (left (e : Int) (idx z1 k)).length = k) ∧ Hid (Own w wr b n (left (e : Int) (idx z1 k)))) (fun _ s38 _ => 256 - (intOf s38).toNat)
        case atStart => exact ⟨0, 0, by omega, by omega, rfl, rfl, HC0, HR2⟩
        case round =>
          obtain ⟨c, e, he, hck, rfl, rfl, HC, HR3⟩ := hrel
          clear HC0 HR2
          by_cases hlt2 : e < 256
          · have hE3 : (e : Int) < 256 := by omega
            have HL : Hid ((left (e : Int) (idx z1 k)).length ≤ 100) := Lib.hid (by have := HC.out; omega)
            have HD := Lib.hid (HR3.out.due e (by omega) (by omega) (by have := HL.out; omega))
            rw [left_goes, left_stay] at HD
            have HLL := Lib.hid (left_len e (idx z1 k))
            have HASC := Lib.hid (goes_asc z1 k e)
            have HAT := Lib.hid (goes_at z1 k e)
            generalize goes (e : Int) (idx z1 k) = G at *
            obtain ⟨q, hq⟩ : ∃ q, q = G.length := ⟨_, rfl⟩
            have HQ : Hid (q = G.length ∧ c + q + (left ((e : Int) + 1) (idx z1 k)).length = k) := Lib.hid ⟨hq, by have := HC.out; have := HLL.out; omega⟩
            have hq1 : q ≤ k := by have := HQ.out.2; omega
            rw [← hq] at HD
            clear hq HLL
            go_wp2_with fail
            refine HD.out.mono ?_
            rintro x w2 ⟨a, cp, rfl, HI, K2⟩
            clear HR3 HD HC
            go_wp2_with fail
            obtain ⟨W2, hW2⟩ : ∃ W, W = w2 := ⟨_, rfl⟩
            subst hW2
            go_loopw [8, 10, 45] (fun s8 s10 s45 wr => ∃ (j : Nat) (l : Int), j ≤ q ∧ s45 = .int .i64 j ∧ s8 = .int .i64 (c + j : Nat) ∧ s10 = .int .i64 l ∧ Hid (j < q → l < G.getD j 0) ∧ W2 = wr) (fun _ _ s45 _ => q - (intOf s45).toNat)
            case atStart => exact ⟨0, -1, by omega, rfl, rfl, rfl, Lib.hid (fun h => by obtain ⟨i, _, h2, _⟩ := HAT.out 0 (by have := HQ.out.1; omega); rw [h2]; omega), rfl⟩
            case round =>
              obtain ⟨j, l, hj, rfl, rfl, rfl, HJ, rfl⟩ := hrel
              by_cases hjq : j < q
              · have hj1 : ¬ (j : Int) < 0 := by omega
                have hj2 : ¬ (q : Int) ≤ (j : Int) := by omega
                have hj3 : (j : Int) < (q : Int) := by omega
                obtain ⟨g, off, rfl, _, _, hc⟩ := HI.out (by have := HQ.out.1; omega)
                have hcell := hc j (by have := HQ.out.1; omega)
                clear hc
                obtain ⟨i, hi, hgi, hzi⟩ := HAT.out j (by have := HQ.out.1; omega)
                have hli : ¬ (i : Int) ≤ l := by have := HJ.out hjq; omega
                have hlt' : l < (i : Int) := by omega
                have HNX : Hid (j + 1 < q → (i : Int) < G.getD (j + 1) 0) := Lib.hid (fun h => by rw [← hgi]; exact HASC.out j (by have := HQ.out.1; omega))
                rw [hgi] at hcell
                obtain ⟨g1, off1, rfl, _, hc1⟩ := (hR.out.below K2.out.bel) (by omega)
                have hcell1 := (hc1 i hi).1
                rw [hzi] at hcell1
                have hi1 : ¬ (i : Int) < 0 := by omega
                have hi2 : ¬ (k : Int) ≤ (i : Int) := by omega
                have hi3 : (i : Int) < (k : Int) := by omega
                clear hc1 hgi hzi HJ
                go_wp2_with fail
                go_roundw
                case rel => exact ⟨j + 1, i, by omega, by go_num, by go_num, rfl, HNX, trivial⟩
                case measure => simp [intOf]; omega
              · obtain rfl : j = q := by omega
                clear hjq
                have hjq : ¬ j < j := by omega
                have hcj : c + j ≤ k := by have := HQ.out.2; omega
                have HQ2 : Hid (c + j + (left ((e + 1 : Nat) : Int) (idx z1 k)).length = k) := Lib.hid (by have := HQ.out.2; rw [Int.natCast_add]; exact this)
                have K3 : Hid (Own w W2 b n (left ((e + 1 : Nat) : Int) (idx z1 k))) := Lib.hid (by rw [Int.natCast_add]; exact K2.out)
                clear HQ K2
                go_wp2_with fail
                go_roundw
                case rel => exact ⟨c + j, e + 1, by omega, hcj, by go_num, rfl, HQ2, K3⟩
                case measure => simp [intOf]; omega
          · obtain rfl : e = 256 := by omega
            clear hlt2
            have hnone : left ((256 : Nat) : Int) (idx z1 k) = [] := left_none (fun x hx => by have := (hbyte.out x hx).2; omega)
            rw [hnone] at HR3
            have hc : c = k := by have := HC.out; rw [hnone] at this; simpa using this
            subst hc
            clear hnone HC hck
            go_wp2_with fail
            refine (alive_any _).mono ?_
            rintro x w2 ⟨rfl, hb2⟩
            have K2 := Lib.hid (HR3.out.below hb2)
            clear hb2
            go_wp2_with fail
            refine (K2.out.len (by simp)).mono ?_
            rintro x w4 ⟨rfl, K4⟩
            go_wp2_with fail
            go_ret
            exact ⟨by first | rfl | simp, K4.out.bel⟩
end Go.Proofs.Ytinndmglacfofaa
