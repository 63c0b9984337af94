/- The statement OpDecodes, walked: it returns true for all bytes and offsets. -/
import Derived.Test.YtfepfcalfhegfaaDoorLive
import Derived.Test.YtfepfcalfhegfaaDoorRefD
namespace Go.Proofs.YtfepfcalfhegfaaDoor
open Go Go.RowKit
set_option linter.unusedVariables false
set_option linter.unusedSimpArgs false
set_option maxRecDepth 100000

/-- What Decode answers, whatever the offset. -/
theorem dec_all (L : List Int) (a : Option Addr) (len cap : Nat) (at_ : Int) (hl : L.length = len) (hcap : len ≤ cap) (hm : cap ≤ 9223372036854775807) (hlm : len ≤ 100000) :
    ∃ (o : Oq) (n : Int) (ok : Bool), (∀ w, Bys w (fun _ => False) a L → Calls Tryd.prog 16 #[.slice a len cap, .int .i64 at_] w fun e w' => e = .returned (.tuple #[.agg (cellsOq o), .int .i64 n, .bool ok]) ∧ Below w.heap.size w w') ∧
      (∀ w, Bys w (fun _ => False) a L → Calls Tryd.prog 17 #[.slice a len cap, .int .i64 at_] w fun e w' => e = .returned (.tuple #[.agg (cellsOq o), .int .i64 n, .bool ok]) ∧ Below w.heap.size w w') := by
  by_cases h : at_ < 0 ∨ (len : Int) ≤ at_
  · exact ⟨oqZ, 0, false, fun w _ => dec_out a len cap at_ h (by omega) w, fun w _ => refdec_out a len cap at_ h (by omega) w⟩
  · obtain ⟨p, rfl⟩ : ∃ p : Nat, at_ = (p : Int) := ⟨at_.toNat, by omega⟩
    exact ⟨(decS L p).1, (decS L p).2, true, fun w hb => dec_any L a len cap p hl hcap hm (by omega) w hb, fun w hb => refdec_any L a len cap p hl hcap hm (by omega) hlm w hb⟩
set_option maxHeartbeats 1600000 in
theorem walk_OpDecodes (a0 : Option Addr) (len0 cap0 : Nat) (z0 : List Int) (a1 : Int) (w : World) (w0 : IsRow .u8 w a0 len0 cap0 z0) (w1 : (Lit.int .i64 a1).wf = true) (hL : laidMetH Tryd.prog Rows.opDecodesRow.laid w) :
    Calls Tryd.prog 4 #[.slice a0 len0 cap0, .int .i64 a1] w fun e w' => e = .returned (.bool true) ∧ Below w.heap.size w w' := by
  have HN := Lib.hid (names_of_laid hL)
  obtain ⟨hb, hlen, hlc, hcm⟩ := Bys.of_row (S := fun _ => False) w0 (fun _ _ h => h)
  have hcm' : cap0 ≤ 9223372036854775807 := by unfold maxLen at hcm; omega
  clear hL w0 hcm
  by_cases hbig : 1000 < len0
  · have hg : (1000 : Int) < (len0 : Int) := by omega
    have HA := Lib.hid (alive_any w HN.out)
    clear hbig hb hlen
    go_enter Tryd.func4, Tryd.ntmps4
    go_wp2_with (fail)
    refine HA.out.mono ?_
    rintro e w3 ⟨rfl, b3⟩
    have B3 := Lib.hid b3
    clear b3
    go_wp2
    go_ret
    exact ⟨rfl, B3.out⟩
  · have hg : ¬ (1000 : Int) < (len0 : Int) := by omega
    obtain ⟨o, n, ok, hd, hr⟩ := dec_all (z0.take len0) a0 len0 cap0 a1 hlen hlc hcm' (by omega)
    have HD := Lib.hid (hd w hb)
    have HR := Lib.hid hr
    have Y0 := Lib.hid hb
    clear hbig hb hlen hd hr hlc hcm'
    go_enter Tryd.func4, Tryd.ntmps4
    go_wp2_with (fail)
    refine HD.out.mono ?_
    rintro e w1 ⟨rfl, b1⟩
    have B1 := Lib.hid b1
    clear b1 HD
    have b1x : Below w1.heap.size w1 (w1.alloc (.cells (cellsOq o) 24)) := (Below.refl _ _).alloc (Nat.le_refl _) _
    have B2 := Lib.hid (B1.out.trans (b1x.mono B1.out.size))
    have K2 : Hid (Blk (w1.alloc (.cells (cellsOq o) 24)) w1.heap.size 24 (cellsOq o)) := Lib.hid (Blk.new w1 _ _)
    clear b1x
    go_upto_region 4 with (refine wpList_store_row rfl _ _ _ rfl w1.heap.size (cellsOq o) rfl rfl 24 _ (heap_alloc_new w1 _) infoOq rfl (cellsOq_one _) ?_; rw [World.setRow_alloc_new])
    generalize w1.alloc (.cells (cellsOq o) 24) = w2 at *
    generalize w1.heap.size = G at *
    go_wp2_with (fail)
    refine (HR.out w2 (Y0.out.below B2.out)).mono ?_
    rintro e w3 ⟨rfl, b3⟩
    have b3x : Below w3.heap.size w3 (w3.alloc (.cells (cellsOq o) 24)) := (Below.refl _ _).alloc (Nat.le_refl _) _
    have B3 := Lib.hid (B2.out.trans (b3.mono B2.out.size))
    have K3 := Lib.hid (K2.out.below b3 K2.out.lt)
    have B4 := Lib.hid (B3.out.trans (b3x.mono B3.out.size))
    have K4 := Lib.hid (K3.out.below b3x K3.out.lt)
    have N4 : Hid (Blk (w3.alloc (.cells (cellsOq o) 24)) w3.heap.size 24 (cellsOq o)) := Lib.hid (Blk.new w3 _ _)
    clear b3 b3x B1 B2 K2 B3 K3 HR
    go_upto_region 5 with (refine wpList_store_row rfl _ _ _ rfl w3.heap.size (cellsOq o) rfl rfl 24 _ (heap_alloc_new w3 _) infoOq rfl (cellsOq_one _) ?_; rw [World.setRow_alloc_new])
    generalize w3.alloc (.cells (cellsOq o) 24) = w4 at *
    generalize w3.heap.size = G2 at *
    have HA := Lib.hid (alive_any w4 (HN.out.below B4.out))
    go_wp2_with (fail)
    refine HA.out.mono ?_
    rintro e w5 ⟨rfl, b5⟩
    have B5 := Lib.hid (B4.out.trans (b5.mono B4.out.size))
    have K5 := Lib.hid (K4.out.below b5 K4.out.lt)
    have N5 := Lib.hid (N4.out.below b5 N4.out.lt)
    clear b5 B4 K4 N4 HA
    go_wp2_with (first | (refine wpList_load_rowG rfl 24 _ rfl G rfl 24 (cellsOq o) (0, 0) _ K5.out Tryd.underlying24 rfl infoOq ?_) | (refine wpList_load_rowG rfl 24 _ rfl G2 rfl 24 (cellsOq o) (0, 0) _ N5.out Tryd.underlying24 rfl infoOq ?_) | (refine wpList_valG (.bool true) rfl (exec_eqOq (p := o) (q := o) rfl rfl (by simp)) ?_))
    go_ret
    exact ⟨by simp, B5.out⟩
end Go.Proofs.YtfepfcalfhegfaaDoor
