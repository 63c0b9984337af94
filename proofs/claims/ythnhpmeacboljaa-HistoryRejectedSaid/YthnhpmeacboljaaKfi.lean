/- keepFirst at int, epochOf: a value is kept unless there is one; the epoch of an event. -/
import Derived.Test.YthnhpmeacboljaaLg
namespace Go.Proofs.Ythnhpmeacboljaa
open Go Go.RowKit Go.Deep
set_option linter.unusedVariables false
set_option linter.unusedSimpArgs false
set_option maxRecDepth 100000

theorem keepF_map {β γ : Type} (c : β → γ) (g : Int → Option β) (i : Int) (y : β) (x : Int) : (keepF g i y x).map c = keepF (fun i => (g i).map c) i (c y) x := by
  unfold keepF
  by_cases h : x = i <;> cases hg : g x <;> simp [h, hg] <;> (subst h; simp [hg])
theorem keep_none {β : Type} {g : Int → Option β} {i : Int} (h : g i = none) (y : β) : keepF g i y = updF g i y := by
  funext x
  unfold keepF updF
  by_cases hx : x = i
  · subst hx; simp [h]
  · simp [hx]
theorem keep_some {β : Type} {g : Int → Option β} {i : Int} {u : β} (h : g i = some u) (y : β) : keepF g i y = g := by
  funext x
  unfold keepF
  by_cases hx : x = i
  · subst hx; simp [h]
  · simp [hx]
theorem zeroInt (w : World) : (zeroValue 3).run Try.prog w = .ok (.int .i64 0) w := rfl
set_option maxHeartbeats 800000 in
theorem keepI_any (m : Nat) (g : Int → Option Int) (i y : Int) (w : World) (h : MapF w m (fun i => (g i).map (Value.int .i64))) (hi : (Lit.int .i64 i).wf = true) :
    Calls Try.prog 50 #[.map (some m), .int .i64 i, .int .i64 y] w fun e w' => e = .returned (.bool (g i).isNone) ∧ MapF w' m (fun x => (keepF g i y x).map (Value.int .i64)) ∧ Kept (fun x => x = m) w w' := by
  have HM := Lib.hid h
  have HI := Lib.hid hi
  clear h hi
  cases hg : g i with
  | none =>
    have hV : Hid (lookV true (.int .i64 0) ((g i).map (Value.int .i64)) = .tuple #[.int .i64 0, .bool false]) := Lib.hid (by rw [hg]; rfl)
    have hE : Hid (updF (fun x => (g x).map (Value.int .i64)) i (.int .i64 y) = fun x => (keepF g i y x).map (Value.int .i64)) := Lib.hid (by
      funext x
      rw [keepF_map, keep_none]
      rw [hg]; rfl)
    clear hg
    go_enter Try.func50, Try.ntmps50
    go_wp2_with (first | (refine wpList_lookF rfl true _ _ rfl HM.out Try.underlying3 Try.underlying73 _ (zeroInt _) i rfl rfl HI.out _ hV.out ?_) | (refine wpList_mapF rfl _ _ _ rfl HM.out Try.underlying3 Try.underlying73 i (.int .i64 y) rfl rfl rfl HI.out ?_; intro w1 hm hgr))
    go_ret
    rw [hE.out] at hm
    exact ⟨rfl, hm, Kept.of_grown hgr (fun j hj => by injection hj)⟩
  | some u =>
    have hV : Hid (lookV true (.int .i64 0) ((g i).map (Value.int .i64)) = .tuple #[.int .i64 u, .bool true]) := Lib.hid (by rw [hg]; rfl)
    have hE : Hid (keepF g i y = g) := Lib.hid (keep_some hg y)
    clear hg
    go_enter Try.func50, Try.ntmps50
    go_wp2_with (first | (refine wpList_lookF rfl true _ _ rfl HM.out Try.underlying3 Try.underlying73 _ (zeroInt _) i rfl rfl HI.out _ hV.out ?_))
    go_ret
    rw [hE.out]
    exact ⟨rfl, HM.out, Kept.refl _ _⟩
set_option maxHeartbeats 800000 in
theorem epoch_any (m : Nat) (g : Int → Option Int) (i : Int) (w : World) (h : MapF w m (fun i => (g i).map (Value.int .i64))) (hi : (Lit.int .i64 i).wf = true) :
    Calls Try.prog 37 #[.map (some m), .int .i64 i] w fun e w' => e = .returned (.int .i64 ((g i).getD (-1))) ∧ w = w' := by
  have HM := Lib.hid h
  have HI := Lib.hid hi
  clear h hi
  cases hg : g i with
  | none =>
    have hV : Hid (lookV true (.int .i64 0) ((g i).map (Value.int .i64)) = .tuple #[.int .i64 0, .bool false]) := Lib.hid (by rw [hg]; rfl)
    clear hg
    go_enter Try.func37, Try.ntmps37
    go_wp2_with (first | (refine wpList_lookF rfl true _ _ rfl HM.out Try.underlying3 Try.underlying73 _ (zeroInt _) i rfl rfl HI.out _ hV.out ?_))
    go_ret
    exact ⟨rfl, rfl⟩
  | some u =>
    have hV : Hid (lookV true (.int .i64 0) ((g i).map (Value.int .i64)) = .tuple #[.int .i64 u, .bool true]) := Lib.hid (by rw [hg]; rfl)
    clear hg
    go_enter Try.func37, Try.ntmps37
    go_wp2_with (first | (refine wpList_lookF rfl true _ _ rfl HM.out Try.underlying3 Try.underlying73 _ (zeroInt _) i rfl rfl HI.out _ hV.out ?_))
    go_ret
    exact ⟨rfl, rfl⟩
end Go.Proofs.Ythnhpmeacboljaa
