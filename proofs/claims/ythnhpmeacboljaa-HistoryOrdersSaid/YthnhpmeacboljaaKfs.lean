/- keepFirst at full and at Exit. -/
import Derived.Test.YthnhpmeacboljaaKfi
import Derived.Deep.WholeRow
namespace Go.Proofs.Ythnhpmeacboljaa
open Go Go.RowKit Go.Deep
set_option linter.unusedVariables false
set_option linter.unusedSimpArgs false
set_option maxRecDepth 100000
theorem zeroFu (w : World) : (zeroValue 91).run Try.prog w = .ok (.agg (cellsFu fuZ)) w := rfl
set_option maxHeartbeats 1600000 in
theorem keepF_any (m : Nat) (g : Int → Option (Int × Int)) (i : Int) (y : Int × Int) (w : World) (h : MapF w m (fun i => (g i).map fuV)) (hi : (Lit.int .i64 i).wf = true) :
    Calls Try.prog 51 #[.map (some m), .int .i64 i, .agg (cellsFu ⟨y.1, y.2⟩)] w fun e w' => e = .returned (.bool (g i).isNone) ∧ MapF w' m (fun x => (keepF g i y x).map fuV) ∧ Kept (fun x => x = m) w w' := by
  have HI := Lib.hid hi
  have HM0 := Lib.hid (h.alloc (.cells (cellsFu ⟨y.1, y.2⟩) 91))
  have K10 : Hid (Blk (w.alloc (.cells (cellsFu ⟨y.1, y.2⟩) 91)) w.heap.size 91 (cellsFu ⟨y.1, y.2⟩)) := Lib.hid (Blk.new _ _ _)
  have B10 : Hid (Kept (fun x => x = m) w (w.alloc (.cells (cellsFu ⟨y.1, y.2⟩) 91))) := Lib.hid ((Kept.refl _ _).alloc _)
  have HC : Hid (fuV y = .agg (cellsFu ⟨y.1, y.2⟩)) := Lib.hid rfl
  clear h hi
  cases hg : g i with
  | none =>
    have hV : Hid (lookV true (.agg (cellsFu fuZ)) ((g i).map fuV) = .tuple #[.agg (cellsFu fuZ), .bool false]) := Lib.hid (by rw [hg]; rfl)
    have hE : Hid (updF (fun x => (g x).map fuV) i (.agg (cellsFu ⟨y.1, y.2⟩)) = fun x => (keepF g i y x).map fuV) := Lib.hid (by
      funext x
      rw [keepF_map, keep_none, HC.out]
      rw [hg]; rfl)
    clear hg
    go_enter Try.func51, Try.ntmps51
    go_upto_region 1 with (fail)
    obtain ⟨W, hW⟩ : ∃ W, w.alloc (.cells (cellsFu ⟨y.1, y.2⟩) 91) = W := ⟨_, rfl⟩
    rw [hW] at HM0 K10 B10 ⊢
    have HM := HM0
    have K1 := K10
    clear hW HM0 K10 HC
    go_upto_region 2 with (first | (refine wpList_lookF rfl true _ _ rfl HM.out Try.underlying3 Try.underlying74 _ (zeroFu _) i rfl rfl HI.out _ hV.out ?_) | (refine wpList_store_row rfl _ _ _ rfl W.heap.size (cellsFu fuZ) rfl rfl 91 _ (heap_alloc_new W _) infoFu rfl (cellsFu_one _) ?_; rw [World.setRow_alloc_new]))
    have HM2 := Lib.hid (HM.out.alloc (.cells (cellsFu fuZ) 91))
    clear HM
    go_wp2_with (first | (refine wpList_load_row rfl 91 _ rfl w.heap.size rfl 91 (cellsFu ⟨y.1, y.2⟩) (0, 0) _ (K1.out.alloc _) Try.underlying91 rfl infoFu ?_) | (refine wpList_mapF rfl _ _ _ rfl HM2.out Try.underlying3 Try.underlying74 i (.agg (cellsFu ⟨y.1, y.2⟩)) rfl rfl rfl HI.out ?_; intro w1 hm hgr))
    go_ret
    rw [hE.out] at hm
    exact ⟨rfl, hm, (B10.out.alloc _).trans (Kept.of_grown (S := fun j => j = m) hgr (fun j hj => by injection hj)) (fun _ _ h => h)⟩
  | some u =>
    obtain ⟨cu, hcu, hcz⟩ : ∃ cu, fuV u = .agg (cellsFu cu) ∧ True := ⟨_, rfl, trivial⟩
    have hV : Hid (lookV true (.agg (cellsFu fuZ)) ((g i).map fuV) = .tuple #[.agg (cellsFu cu), .bool true]) := Lib.hid (by rw [hg, ← hcu]; rfl)
    have hE : Hid (keepF g i y = g) := Lib.hid (keep_some hg y)
    clear hg hcu hcz
    go_enter Try.func51, Try.ntmps51
    go_upto_region 1 with (fail)
    obtain ⟨W, hW⟩ : ∃ W, w.alloc (.cells (cellsFu ⟨y.1, y.2⟩) 91) = W := ⟨_, rfl⟩
    rw [hW] at HM0 K10 B10 ⊢
    have HM := HM0
    have K1 := K10
    clear hW HM0 K10 HC
    go_wp2_with (first | (refine wpList_lookF rfl true _ _ rfl HM.out Try.underlying3 Try.underlying74 _ (zeroFu _) i rfl rfl HI.out _ hV.out ?_) | (refine wpList_store_row rfl _ _ _ rfl W.heap.size (cellsFu cu) rfl rfl 91 _ (heap_alloc_new W _) infoFu rfl (cellsFu_one _) ?_; rw [World.setRow_alloc_new]))
    go_ret
    rw [hE.out]
    exact ⟨rfl, HM.out.alloc _, B10.out.alloc _⟩
theorem zeroXv (w : World) : (zeroValue 30).run Try.prog w = .ok (.agg (cellsXv xvZ)) w := rfl
set_option maxHeartbeats 1600000 in
theorem keepX_any (m : Nat) (g : Int → Option (Ex0)) (i : Int) (y : Ex0) (w : World) (h : MapF w m (fun i => (g i).map exV)) (hi : (Lit.int .i64 i).wf = true) :
    Calls Try.prog 59 #[.map (some m), .int .i64 i, .agg (cellsXv ⟨y.cl, y.rq, y.dl, 0, 0, 0, 0⟩)] w fun e w' => e = .returned (.bool (g i).isNone) ∧ MapF w' m (fun x => (keepF g i y x).map exV) ∧ Kept (fun x => x = m) w w' := by
  have HI := Lib.hid hi
  have HM0 := Lib.hid (h.alloc (.cells (cellsXv ⟨y.cl, y.rq, y.dl, 0, 0, 0, 0⟩) 30))
  have K10 : Hid (Blk (w.alloc (.cells (cellsXv ⟨y.cl, y.rq, y.dl, 0, 0, 0, 0⟩) 30)) w.heap.size 30 (cellsXv ⟨y.cl, y.rq, y.dl, 0, 0, 0, 0⟩)) := Lib.hid (Blk.new _ _ _)
  have B10 : Hid (Kept (fun x => x = m) w (w.alloc (.cells (cellsXv ⟨y.cl, y.rq, y.dl, 0, 0, 0, 0⟩) 30))) := Lib.hid ((Kept.refl _ _).alloc _)
  have HC : Hid (exV y = .agg (cellsXv ⟨y.cl, y.rq, y.dl, 0, 0, 0, 0⟩)) := Lib.hid rfl
  clear h hi
  cases hg : g i with
  | none =>
    have hV : Hid (lookV true (.agg (cellsXv xvZ)) ((g i).map exV) = .tuple #[.agg (cellsXv xvZ), .bool false]) := Lib.hid (by rw [hg]; rfl)
    have hE : Hid (updF (fun x => (g x).map exV) i (.agg (cellsXv ⟨y.cl, y.rq, y.dl, 0, 0, 0, 0⟩)) = fun x => (keepF g i y x).map exV) := Lib.hid (by
      funext x
      rw [keepF_map, keep_none, HC.out]
      rw [hg]; rfl)
    clear hg
    go_enter Try.func59, Try.ntmps59
    go_upto_region 1 with (fail)
    obtain ⟨W, hW⟩ : ∃ W, w.alloc (.cells (cellsXv ⟨y.cl, y.rq, y.dl, 0, 0, 0, 0⟩) 30) = W := ⟨_, rfl⟩
    rw [hW] at HM0 K10 B10 ⊢
    have HM := HM0
    have K1 := K10
    clear hW HM0 K10 HC
    go_upto_region 2 with (first | (refine wpList_lookF rfl true _ _ rfl HM.out Try.underlying3 Try.underlying72 _ (zeroXv _) i rfl rfl HI.out _ hV.out ?_) | (refine wpList_store_row rfl _ _ _ rfl W.heap.size (cellsXv xvZ) rfl rfl 30 _ (heap_alloc_new W _) infoXv rfl (cellsXv_one _) ?_; rw [World.setRow_alloc_new]))
    have HM2 := Lib.hid (HM.out.alloc (.cells (cellsXv xvZ) 30))
    clear HM
    go_wp2_with (first | (refine wpList_load_row rfl 30 _ rfl w.heap.size rfl 30 (cellsXv ⟨y.cl, y.rq, y.dl, 0, 0, 0, 0⟩) (0, 0) _ (K1.out.alloc _) Try.underlying30 rfl infoXv ?_) | (refine wpList_mapF rfl _ _ _ rfl HM2.out Try.underlying3 Try.underlying72 i (.agg (cellsXv ⟨y.cl, y.rq, y.dl, 0, 0, 0, 0⟩)) rfl rfl rfl HI.out ?_; intro w1 hm hgr))
    go_ret
    rw [hE.out] at hm
    exact ⟨rfl, hm, (B10.out.alloc _).trans (Kept.of_grown (S := fun j => j = m) hgr (fun j hj => by injection hj)) (fun _ _ h => h)⟩
  | some u =>
    obtain ⟨cu, hcu, hcz⟩ : ∃ cu, exV u = .agg (cellsXv cu) ∧ True := ⟨_, rfl, trivial⟩
    have hV : Hid (lookV true (.agg (cellsXv xvZ)) ((g i).map exV) = .tuple #[.agg (cellsXv cu), .bool true]) := Lib.hid (by rw [hg, ← hcu]; rfl)
    have hE : Hid (keepF g i y = g) := Lib.hid (keep_some hg y)
    clear hg hcu hcz
    go_enter Try.func59, Try.ntmps59
    go_upto_region 1 with (fail)
    obtain ⟨W, hW⟩ : ∃ W, w.alloc (.cells (cellsXv ⟨y.cl, y.rq, y.dl, 0, 0, 0, 0⟩) 30) = W := ⟨_, rfl⟩
    rw [hW] at HM0 K10 B10 ⊢
    have HM := HM0
    have K1 := K10
    clear hW HM0 K10 HC
    go_wp2_with (first | (refine wpList_lookF rfl true _ _ rfl HM.out Try.underlying3 Try.underlying72 _ (zeroXv _) i rfl rfl HI.out _ hV.out ?_) | (refine wpList_store_row rfl _ _ _ rfl W.heap.size (cellsXv cu) rfl rfl 30 _ (heap_alloc_new W _) infoXv rfl (cellsXv_one _) ?_; rw [World.setRow_alloc_new]))
    go_ret
    rw [hE.out]
    exact ⟨rfl, HM.out.alloc _, B10.out.alloc _⟩
end Go.Proofs.Ythnhpmeacboljaa
