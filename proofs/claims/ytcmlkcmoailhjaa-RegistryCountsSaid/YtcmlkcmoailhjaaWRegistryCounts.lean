/- The walk of RegistryCounts. (mkwalk.py writes this text.) -/
import Derived.Test.YtcmlkcmoailhjaaWRegistryPlays
namespace Go.Proofs.Ytcmlkcmoailhjaa
open Go Go.RowKit Go.Deep
set_option linter.unusedVariables false
set_option linter.unusedSimpArgs false

set_option maxHeartbeats 1600000 in
theorem walk_RegistryCounts (a0 : Int) (a1 : Option Addr) (len1 cap1 : Nat) (a2 : Int) (w : World) (w0 : (Lit.int .u8 a0).wf = true) (w1 : IsOps w a1 len1 cap1) (w2 : (Lit.int .i64 a2).wf = true) :
    Calls Try.prog 4 #[.int .u8 a0, .slice a1 len1 cap1, .int .i64 a2] w fun e w' => e = .returned (.bool true) ∧ Below w.heap.size w w' := by
  have W1 := Lib.hid w1
  have W2 := Lib.hid w2
  have hl1 : len1 ≤ 9223372036854775807 := by have := w1.1; have := w1.2.1; unfold maxLen at this; omega
  obtain ⟨c0, c1⟩ := bounds_u8 w0
  obtain ⟨cap, hcap, hcap1, hcap2⟩ : ∃ cap : Nat, a0 % 20 + 1 = (cap : Int) ∧ 1 ≤ cap ∧ cap ≤ 4096 := ⟨(a0 % 20 + 1).toNat, by omega, by omega, by omega⟩
  have HN := Lib.hid (fun w => new_any cap w hcap1 hcap2)
  clear w0 w1 w2
  go_enter Try.func4, Try.ntmps4
  go_wp2_with fail
  refine (HN.out _).mono ?_
  rintro e w1 ⟨b, S, rfl, hr, hS, hb⟩
  have H1 : Hid (Held w1 w.heap.size b cap S none []) := Lib.hid ⟨hr, Lst.nil _ _ _, hS⟩
  clear hr hS
  by_cases h60 : (60 : Int) < (len1 : Int)
  · go_wp2_with fail
    refine (alive_any _).mono ?_
    rintro e w2 ⟨rfl, hb2⟩
    have HB := Lib.hid (hb.trans (hb2.mono hb.size))
    clear hb2
    go_wp2_with fail
    go_ret
    exact ⟨rfl, HB.out⟩
  · go_wp2_with fail
    go_loopw [9, 27] (fun s9 s27 wr => ∃ (k : Nat) (S : Nat → Prop) (a : Option Addr) (cp : Nat) (l : List Val), k ≤ len1 ∧ s27 = .int .i64 k ∧ s9 = .slice a l.length cp ∧ Hid (Held wr w.heap.size b cap S a l) ∧ Below w.heap.size w wr) (fun _ s27 _ => len1 - (intOf s27).toNat)
    case atStart => exact ⟨0, S, none, 0, [], by omega, rfl, rfl, H1, hb⟩
    case round =>
      obtain ⟨k, S, a, cp, l, hk, rfl, rfl, HR, BB⟩ := hrel
      by_cases hlt : k < len1
      · obtain ⟨g, off, x, rfl, HX, -, hf⟩ := W1.out.at BB hlt
        have HR' : Hid (Held (wr.alloc (.cells (opCells x) 31)) w.heap.size b cap S a l) := Lib.hid (HR.out.alloc _)
        have BB' : Hid (Below w.heap.size w (wr.alloc (.cells (opCells x) 31))) := Lib.hid (BB.alloc BB.size _)
        have HE : Hid (Blk (wr.alloc (.cells (opCells x) 31)) wr.heap.size 31 (opCells x)) := Lib.hid (Blk.new _ _ _)
        have HF := Lib.hid hf
        have hk1 : ¬ (k : Int) < 0 := by omega
        have hk2 : ¬ (len1 : Int) ≤ (k : Int) := by omega
        have hk3 : (k : Int) < (len1 : Int) := by omega
        clear HR BB hf
        go_wp2_with (first | (refine wpList_load_op rfl 31 _ rfl g (off + k * 8) rfl x _ HX.out Try.underlying31 rfl infoO ?_) | (refine wpList_store_row rfl _ _ _ rfl wr.heap.size (opCells x) rfl rfl 31 _ (heap_alloc_new wr _) infoO rfl (opCells_one x) ?_; rw [World.setRow_alloc_new]) | (refine wpList_load_op rfl 31 _ rfl wr.heap.size 0 rfl x _ HE.out.op Try.underlying31 rfl infoO ?_))
        clear HE HX
        generalize wr.alloc (.cells (opCells x) 31) = W at *
        refine (do_held w.heap.size b cap cp S a x l w W HR'.out HF.out BB'.out BB'.out.size).mono ?_
        rintro e w2 ⟨a2', cp2, l2, S2, rfl, R2, B2⟩
        clear HR' BB' HF
        go_wp2_with fail
        go_roundw
        case rel => exact ⟨k + 1, S2, a2', cp2, l2, by omega, by go_num, rfl, R2, B2⟩
        case measure => simp [intOf]; omega
      · have hlt' : ¬ (k : Int) < (len1 : Int) := by omega
        obtain ⟨f1, f2, f3, f4, f5⟩ := HR.out.1.fits
        have HBB := Lib.hid BB
        clear f5 BB
        go_wp2_with fail
        go_loop [12] (fun s12 => ∃ j : Nat, j ≤ 9 ∧ s12 = .int .i64 j) (fun s12 => 9 - (intOf s12).toNat)
        case atStart => exact ⟨0, by omega, rfl⟩
        case round =>
          obtain ⟨j, hj, rfl⟩ := hrel
          by_cases hj8 : (j : Int) ≤ 8
          · have hwf : (Lit.int .i64 (j : Int)).wf = true := by simp [Lit.wf, IntKind.min, IntKind.max, IntKind.signed, IntKind.bits]; omega
            have HC := Lib.hid (rcount HR.out.1 j hwf)
            clear hwf
            go_wp2_with fail
            refine HC.out.mono ?_
            rintro e w3 ⟨rfl, rfl⟩
            go_wp2_with fail
            refine (refcount_any S a cp j l _ HR.out.2.1 (by omega)).mono ?_
            rintro e w3 ⟨rfl, rfl⟩
            go_wp2_with fail
            go_round
            case rel => exact ⟨j + 1, by omega, by go_num⟩
            case measure => simp [intOf]; omega
          · go_wp2_with fail
            refine (alive_any _).mono ?_
            rintro e w3 ⟨rfl, hb3⟩
            have R3 := Lib.hid (HR.out.below hb3)
            have B3 := Lib.hid (HBB.out.trans (hb3.mono HBB.out.size))
            clear hb3
            go_wp2_with fail
            refine (rcount R3.out.1 a2 W2.out).mono ?_
            rintro e w4 ⟨rfl, rfl⟩
            go_wp2_with fail
            refine (refcount_any S a cp a2 l _ R3.out.2.1 (by omega)).mono ?_
            rintro e w4 ⟨rfl, rfl⟩
            go_wp2_with fail
            go_ret
            exact ⟨rfl, B3.out⟩
end Go.Proofs.Ytcmlkcmoailhjaa
