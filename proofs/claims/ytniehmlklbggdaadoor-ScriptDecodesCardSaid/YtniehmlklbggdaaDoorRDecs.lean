/- The reference's Decode on a whole script. -/
import Derived.Test.YtniehmlklbggdaaDoorMem
import Derived.Test.YtniehmlklbggdaaDoorRefD
namespace Go.Proofs.YtniehmlklbggdaaDoor
open Go Go.RowKit
set_option linter.unusedVariables false
set_option linter.unusedSimpArgs false
set_option maxRecDepth 100000

theorem upS_at (L : List Int) (k : Nat) : upS L (k + 1) = upS L k ++ [opS L k] := upS_succ L k
set_option maxHeartbeats 1600000 in
theorem refdecs_any (L : List Int) (N : Nat) (a : Option Addr) (len cap : Nat) (hS : StopS L N) (hl : L.length = len) (hcap : len ≤ cap) (hm : cap ≤ 9223372036854775807) (hlm : len ≤ 100000) (w : World) (hb : Bys w (fun _ => False) a L) :
    Calls Tryd.prog 12 #[.slice a len cap] w fun e w' => ∃ v, e = .returned v ∧ OwnO w' w.heap.size v N (upS L N) ∧ Below w.heap.size w w' := by
  have HB := Lib.hid hb
  have HL := Lib.hid hl
  have HS := Lib.hid hS
  have HD := Lib.hid (fun (p : Nat) (hp : p < len) (W : World) (h : Bys W (fun _ => False) a L) => refdec_any L a len cap p hl hcap hm hp hlm W h)
  have HNL : Hid (N ≤ len) := Lib.hid (by rw [← hl]; exact stopS_le hS)
  clear hb hl hS
  go_enter Tryd.func12, Tryd.ntmps12
  go_wp2
  go_loopw [3, 4] (fun v i wr => ∃ k p : Nat, k ≤ N ∧ p ≤ len ∧ Hid (p = atS L k) ∧ i = .int .i64 p ∧ Hid (OwnO wr w.heap.size v k (upS L k)) ∧ Hid (Below w.heap.size w wr)) (fun _ i _ => len - (intOf i).toNat)
  case atStart => exact ⟨0, 0, by omega, by omega, Lib.hid rfl, rfl, Lib.hid (OwnO.nil _ _), Lib.hid (Below.refl _ _)⟩
  case round =>
    obtain ⟨k, p, hk, hp, HP, rfl, HO, HW⟩ := hrel
    by_cases hlt : k < N
    · have hpl : p < len := by
        have := (HS.out.end_ hk).2 hlt
        rw [← HP.out, HL.out] at this
        exact this
      have hpi : (p : Int) < (len : Int) := by omega
      have HX := Lib.hid (HD.out p hpl wr (HB.out.below HW.out))
      have HNX : Hid (p < atS L (k + 1) ∧ atS L (k + 1) ≤ len ∧ (decS L p).2 = ((atS L (k + 1) : Nat) : Int)) := Lib.hid (by
        have := atS_next (L := L) (k := k) (by rw [← HP.out, HL.out]; exact hpl)
        rwa [HL.out, ← HP.out] at this)
      rw [HNX.out.2.2] at HX
      have HU : Hid (upS L (k + 1) = upS L k ++ [(decS L p).1]) := Lib.hid (by rw [upS_succ, opS, HP.out])
      obtain ⟨o, ho⟩ : ∃ o, (decS L p).1 = o := ⟨_, rfl⟩
      rw [ho] at HX HU
      have HQ := Lib.hid (And.intro HNX.out.1 HNX.out.2.1)
      have HKN := Lib.hid hlt
      clear ho hpl hlt HNX
      obtain ⟨q, hq⟩ : ∃ q, atS L (k + 1) = q := ⟨_, rfl⟩
      rw [hq] at HX HQ
      have HQE := Lib.hid hq
      clear hq
      go_wp2_with (fail)
      refine HX.out.mono ?_
      rintro e w1 ⟨rfl, b1⟩
      have B1 := Lib.hid (HW.out.trans (b1.mono HW.out.size))
      have O1 := Lib.hid (HO.out.below b1)
      have ba : Below w1.heap.size w1 (w1.alloc (.cells (cellsOq o) 35)) := (Below.refl _ _).alloc (Nat.le_refl _) _
      have B2 := Lib.hid (B1.out.trans (ba.mono B1.out.size))
      have O2 := Lib.hid (O1.out.below ba)
      have K2 : Hid (Blk (w1.alloc (.cells (cellsOq o) 35)) w1.heap.size 35 (cellsOq o)) := Lib.hid (Blk.new w1 _ _)
      clear b1 ba HW HO B1 O1 HX
      go_upto_region 5 with (refine wpList_store_row rfl _ _ _ rfl w1.heap.size (cellsOq o) rfl rfl 35 _ (heap_alloc_new w1 _) infoOq rfl (cellsOq_one _) ?_; rw [World.setRow_alloc_new])
      generalize w1.alloc (.cells (cellsOq o) 35) = w2 at *
      generalize w1.heap.size = g at *
      have bb : Below w2.heap.size w2 (w2.alloc (.cells (cellsOq o) 35)) := (Below.refl _ _).alloc (Nat.le_refl _) _
      have B3 := Lib.hid (B2.out.trans (bb.mono B2.out.size))
      have O3 := Lib.hid (O2.out.below bb)
      have L3 := Lib.hid (lstO_one w2 (fun _ => False) o (fun h => h))
      have HSZ : Hid (k + 1 ≤ 4000000) := Lib.hid (by have := HKN.out; have := HNL.out; omega)
      clear bb B2 O2
      go_wp2_with (first | (refine wpList_load_row rfl 35 _ rfl g rfl 35 (cellsOq o) (0, 0) _ K2.out Tryd.underlying35 rfl infoOq ?_) | (refine wpList_oneOq rfl _ o rfl rfl ?_) | (refine arm_appO O3.out L3.out rfl _ _ rfl rfl rfl rfl HSZ.out B3.out.size ?_; intro v4 w4 q1 q2 q3; have O4 := Lib.hid q1; have B4 := Lib.hid (B3.out.grown q2 B3.out.size (fun i hi => O3.out.ge hi)); clear q1 q2 q3))
      go_roundw
      case rel => exact ⟨k + 1, q, by have := HKN.out; omega, by have := HQ.out; omega, Lib.hid HQE.out.symm, rfl, Lib.hid (by rw [HU.out]; exact O4.out), B4⟩
      case measure => have := HQ.out; simp [intOf]; omega
    · obtain rfl : k = N := by omega
      have hpl : ¬ (p : Int) < (len : Int) := by
        have := HS.out.out
        rw [← HP.out, HL.out] at this
        omega
      clear hlt
      go_wp2_with (fail)
      go_ret
      exact ⟨_, rfl, HO.out, HW.out⟩
end Go.Proofs.YtniehmlklbggdaaDoor
