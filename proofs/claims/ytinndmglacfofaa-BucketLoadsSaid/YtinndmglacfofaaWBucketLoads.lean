/- The walk of BucketLoads. -/
import Derived.Test.YtinndmglacfofaaLaws
namespace Go.Proofs.Ytinndmglacfofaa
open Go Go.RowKit Go.Deep
set_option linter.unusedVariables false
set_option linter.unusedSimpArgs false

def sumb (n : Nat) (L : List Ent) : Nat → Nat
  | 0 => 0
  | k + 1 => sumb n L k + (bk n L k).length
theorem sumb_nil (n : Nat) : ∀ k, sumb n [] k = 0
  | 0 => rfl
  | k + 1 => by rw [sumb, sumb_nil n k]; rfl
theorem sumb_cons (n : Nat) (e : Ent) (L : List Ent) (j : Nat) (hj : e.1 % (n : Int) = (j : Int)) : ∀ k, sumb n (e :: L) k = sumb n L k + if j < k then 1 else 0
  | 0 => by simp [sumb]
  | k + 1 => by
    rw [sumb, sumb, sumb_cons n e L j hj k]
    have h : bk n (e :: L) k = bk n [e] k ++ bk n L k := bk_append n [e] L k
    rw [h, bk_one hj, List.length_append]
    by_cases hk : k = j
    · subst hk
      simp
      omega
    · rw [if_neg hk]
      by_cases h2 : j < k
      · rw [if_pos h2, if_pos (by omega)]; simp; omega
      · rw [if_neg h2, if_neg (by omega)]; simp
theorem sumb_all (n : Nat) (hn : 1 ≤ n) : ∀ L, sumb n L n = L.length
  | [] => sumb_nil n n
  | e :: L => by
    have h0 := Int.emod_nonneg e.1 (b := (n : Int)) (by omega)
    have h1 := Int.emod_lt_of_pos e.1 (b := (n : Int)) (by omega)
    rw [sumb_cons n e L (e.1 % (n : Int)).toNat (by omega) n, sumb_all n hn L, if_pos (by omega), List.length_cons]
theorem sumb_le (n : Nat) (L : List Ent) : ∀ k, sumb n L k ≤ k * L.length
  | 0 => by simp [sumb]
  | k + 1 => by have := sumb_le n L k; have := bk_len n L k; rw [sumb, Nat.succ_mul]; omega

set_option maxHeartbeats 1600000 in
theorem walk_BucketLoads (a0 : Int) (a1 : Option Addr) (len1 cap1 : Nat) (a2 : Int) (w : World) (w0 : (Lit.int .u8 a0).wf = true) (w1 : IsOps w a1 len1 cap1) (w2 : (Lit.int .i64 a2).wf = true) :
    Calls Try.prog 4 #[.int .u8 a0, .slice a1 len1 cap1, .int .i64 a2] w fun e w' => e = .returned (.bool true) ∧ Below w.heap.size w w' := by
  have W1 := Lib.hid w1
  have hl1 : len1 ≤ 9223372036854775807 := by have := w1.1; have := w1.2.1; unfold maxLen at this; omega
  have hr0 : 0 ≤ a0 ∧ a0 ≤ 255 := by
    simp [Lit.wf, IntKind.min, IntKind.max, IntKind.signed, IntKind.bits] at w0
    omega
  obtain ⟨z0, z1⟩ := hr0
  clear w0 w1 w2
  obtain ⟨m, hm⟩ : ∃ m : Nat, a0 % 12 = (m : Int) := ⟨(a0 % 12).toNat, by omega⟩
  have hm12 : m < 12 := by omega
  have hm2 : Int.tmod a0 12 = (m : Int) := by rw [Int.tmod_eq_emod_of_nonneg z0]; exact hm
  obtain ⟨n, hn⟩ : ∃ n, n = m + 1 := ⟨_, rfl⟩
  have hmn : (m : Int) + 1 = (n : Int) := by omega
  have hn1 : 1 ≤ n := by omega
  have hn12 : n ≤ 12 := by omega
  clear hn hm
  have HN := Lib.hid (fun w => new_any n w (by omega) (by omega))
  go_enter Try.func4, Try.ntmps4
  go_wp2_with fail
  refine (HN.out _).mono ?_
  rintro e w1 ⟨b, S, rfl, hr, hS, hb⟩
  have H1 : Hid (Keep w (w1.alloc (.cells #[.slice none 0 0, .slice none 0 0] 29)) b w1.heap.size n []) := Lib.hid (Keep.new hr hS hb)
  clear hr hS hb
  generalize hr0 : w1.heap.size = r at *
  by_cases h100 : (100 : Int) < (len1 : Int)
  · have HB1 := Lib.hid H1.out.bel
    go_wp2_with fail
    refine (alive_any _).mono ?_
    rintro e w2 ⟨rfl, hb2⟩
    have HB := Lib.hid (HB1.out.trans (hb2.mono HB1.out.size))
    clear hb2
    go_wp2_with fail
    go_ret
    exact ⟨rfl, HB.out⟩
  · go_wp2_with fail
    go_loopw [30] (fun s30 wr => ∃ (k : Nat) (L : List Ent), k ≤ len1 ∧ L.length ≤ k ∧ s30 = .int .i64 k ∧ Hid (Keep w wr b r n L)) (fun s30 _ => len1 - (intOf s30).toNat)
    case atStart => exact ⟨0, [], by omega, by simp, rfl, H1⟩
    case round =>
      obtain ⟨k, L, hk, hLk, rfl, HR⟩ := hrel
      by_cases hlt : k < len1
      · obtain ⟨g, off, x, rfl, HX, hf⟩ := W1.out.at HR.out.bel hlt
        have HE : Hid (Blk (wr.alloc (.cells (opCells x) 31)) wr.heap.size 31 (opCells x)) := Lib.hid (Blk.new _ _ _)
        have hk1 : ¬ (k : Int) < 0 := by omega
        have hk2 : ¬ (len1 : Int) ≤ (k : Int) := by omega
        have hk3 : (k : Int) < (len1 : Int) := by omega
        have hl2 := stepL_len L x
        have HR2 := Lib.hid (HR.out.alloc (.cells (opCells x) 31))
        clear hf
        go_wp2_with (first | (refine wpList_load_op rfl 31 _ rfl g (off + k * 3) rfl x _ HX.out Try.underlying31 rfl infoO ?_) | (refine wpList_store_row rfl _ _ _ rfl wr.heap.size (opCells x) rfl rfl 31 _ (heap_alloc_new wr _) infoO rfl (opCells_one x) ?_; rw [World.setRow_alloc_new]) | (refine wpList_load_op rfl 31 _ rfl wr.heap.size 0 rfl x _ HE.out.op Try.underlying31 rfl infoO ?_))
        refine (HR2.out.doit x (by omega)).mono ?_
        rintro e w2 ⟨rfl, K2⟩
        clear HR HR2 HE HX
        go_wp2_with fail
        go_roundw
        case rel => exact ⟨k + 1, stepL L x, by omega, by omega, by go_num, K2⟩
        case measure => simp [intOf]; omega
      · obtain rfl : k = len1 := by omega
        clear hlt
        have hlt : ¬ k < k := by omega
        have HLN : Hid (L.length ≤ 100) := Lib.hid (by omega)
        obtain ⟨W0, hW0⟩ : ∃ W, W = wr := ⟨_, rfl⟩
        subst hW0
        go_wp2
        go_loopw [12, 40] (fun s12 s40 wr => ∃ j c : Nat, j ≤ n ∧ c ≤ 100 * j ∧ s40 = .int .i64 j ∧ s12 = .int .i64 c ∧ Hid (c = sumb n L j) ∧ W0 = wr) (fun _ s40 _ => n - (intOf s40).toNat)
        case atStart => exact ⟨0, 0, by omega, by omega, rfl, rfl, Lib.hid rfl, rfl⟩
        case round =>
          obtain ⟨j, c, hj, hcj, rfl, rfl, HC, rfl⟩ := hrel
          by_cases hjn : j < n
          · have hj3 : (j : Int) < (n : Int) := by omega
            have HL1 := Lib.hid (HR.out.load j hjn)
            have HL2 := Lib.hid (HR.out.rload j (by omega))
            have HZ : Hid (c + (bk n L j).length = sumb n L (j + 1)) := Lib.hid (by rw [sumb, ← HC.out])
            have hbl : (bk n L j).length ≤ 100 := Nat.le_trans (bk_len n L j) HLN.out
            generalize (bk n L j).length = q at *
            go_wp2_with fail
            refine HL1.out.mono ?_
            rintro e w2 ⟨rfl, rfl⟩
            go_wp2_with fail
            refine HL2.out.mono ?_
            rintro e w2 ⟨rfl, rfl⟩
            go_wp2_with fail
            refine HL1.out.mono ?_
            rintro e w2 ⟨rfl, rfl⟩
            go_wp2_with fail
            go_roundw
            case rel => exact ⟨j + 1, c + q, by omega, by omega, by go_num, by go_num, HZ, trivial⟩
            case measure => simp [intOf]; omega
          · obtain rfl : j = n := by omega
            have hc : c = L.length := by rw [HC.out]; exact sumb_all j hn1 L
            have HCL := Lib.hid hc
            clear hjn HC hc
            have hjn : ¬ j < j := by omega
            rcases (show a2 < 0 ∨ (0 ≤ a2 ∧ (j : Int) ≤ a2) ∨ (0 ≤ a2 ∧ a2 < (j : Int)) by omega) with hc1 | ⟨hc1, hc2⟩ | ⟨hc1, hc2⟩
            · go_wp2_with fail
              refine (alive_any _).mono ?_
              rintro e w2 ⟨rfl, hb2⟩
              have K2 := Lib.hid (HR.out.below hb2)
              clear hb2
              obtain ⟨S2, hs2⟩ := K2.out.ring
              have HLO := Lib.hid (load_out b j S2 L a2 w2 hs2 (by omega))
              clear hs2
              go_wp2_with fail
              refine HLO.out.mono ?_
              rintro e w3 ⟨rfl, rfl⟩
              go_wp2_with fail
              refine (K2.out.len (by have := HLN.out; omega)).mono ?_
              rintro e w4 ⟨rfl, K4⟩
              rw [← HCL.out]
              go_wp2_with fail
              go_ret
              exact ⟨by first | rfl | simp, K4.out.bel⟩
            · have hc3 : ¬ a2 < 0 := by omega
              go_wp2_with fail
              refine (alive_any _).mono ?_
              rintro e w2 ⟨rfl, hb2⟩
              have K2 := Lib.hid (HR.out.below hb2)
              clear hb2
              obtain ⟨S2, hs2⟩ := K2.out.ring
              have HLO := Lib.hid (load_out b j S2 L a2 w2 hs2 (by omega))
              clear hs2
              go_wp2_with fail
              refine HLO.out.mono ?_
              rintro e w3 ⟨rfl, rfl⟩
              go_wp2_with fail
              refine (K2.out.len (by have := HLN.out; omega)).mono ?_
              rintro e w4 ⟨rfl, K4⟩
              rw [← HCL.out]
              go_wp2_with fail
              go_ret
              exact ⟨by first | rfl | simp, K4.out.bel⟩
            · have hc3 : ¬ a2 < 0 := by omega
              have hc4 : ¬ (j : Int) ≤ a2 := by omega
              go_wp2_with fail
              refine (alive_any _).mono ?_
              rintro e w2 ⟨rfl, hb2⟩
              have K2 := Lib.hid (HR.out.below hb2)
              clear hb2
              go_wp2_with fail
              refine (K2.out.len (by have := HLN.out; omega)).mono ?_
              rintro e w4 ⟨rfl, K4⟩
              rw [← HCL.out]
              go_wp2_with fail
              go_ret
              exact ⟨by first | rfl | simp, K4.out.bel⟩
end Go.Proofs.Ytinndmglacfofaa
