/- config.Set: which field, and what it answers. -/
import Derived.Test.YtlnpppifdobcfaaVals
import Derived.Deep.MidRow
import Derived.Laws.ResultCell
import Derived.Laws.CopyOwn
import Derived.Deep.DeepCutAuto
namespace Go.Proofs.Ytlnpppifdobcfaa
open Go.RowKit
set_option linter.unusedVariables false

theorem results_cell_row2 {P : Program} {fn : Func} {p u : Tmp} {ty : TypeId} (h : fn.results = #[.cell p ty, .tmp u]) (tmps : Array Value) (w : World) (g : Nat) (t : TypeId) (cs : Array Value) (fr : Nat × Nat) (d : TypeDesc)
    (hp : tmps.getD p undef = .pointer (some ⟨g, 0, none⟩)) (hg : w.heap[g]? = some (.cells cs t fr))
    (hu : P.underlying ty = some d) (hd : (match d with | .struct _ | .array _ _ => true | _ => false) = true) (hi : (P.info? ty).map (·.size) = some cs.size) :
    (results fn tmps).run P w = .ok (.tuple #[.agg cs, tmps.getD u undef]) w := by
  rw [results_cell_tmp h, hp]
  simp [asAddr, run_loadVar_row w g t ty cs fr d hg hu hd hi, Result.andThen]

/-- What Set answers where it serves. -/
def setVal (c : Nat → Int) (k : Nat) (v : Int) : Value := .tuple #[.agg (cellsOf (upd c k v)), .bool true]
theorem set_u {c : Nat → Int} {k : Nat} (hk : k < 20) (hi : isI k = false) (v : Int) : (cellsOf c).setIfInBounds k (.int .u64 v) = cellsOf (upd c k v) := by
  have : k = 0 ∨ k = 1 ∨ k = 2 ∨ k = 3 ∨ k = 4 ∨ k = 5 ∨ k = 6 ∨ k = 7 ∨ k = 8 ∨ k = 9 ∨ k = 10 ∨ k = 11 ∨ k = 12 ∨ k = 13 ∨ k = 14 ∨ k = 15 ∨ k = 16 ∨ k = 17 ∨ k = 18 ∨ k = 19 := by omega
  rcases this with rfl | rfl | rfl | rfl | rfl | rfl | rfl | rfl | rfl | rfl | rfl | rfl | rfl | rfl | rfl | rfl | rfl | rfl | rfl | rfl <;> first | rfl | exact absurd hi (by decide)
theorem set_i {c : Nat → Int} {k : Nat} (hk : k < 20) (hi : isI k = true) (v : Int) : (cellsOf c).setIfInBounds k (.int .i64 v) = cellsOf (upd c k v) := by
  have : k = 0 ∨ k = 1 ∨ k = 2 ∨ k = 3 ∨ k = 4 ∨ k = 5 ∨ k = 6 ∨ k = 7 ∨ k = 8 ∨ k = 9 ∨ k = 10 ∨ k = 11 ∨ k = 12 ∨ k = 13 ∨ k = 14 ∨ k = 15 ∨ k = 16 ∨ k = 17 ∨ k = 18 ∨ k = 19 := by omega
  rcases this with rfl | rfl | rfl | rfl | rfl | rfl | rfl | rfl | rfl | rfl | rfl | rfl | rfl | rfl | rfl | rfl | rfl | rfl | rfl | rfl <;> first | rfl | exact absurd hi (by decide)
theorem ents_range (bp bc k : Nat) (hk : k < 20) (j : Nat) (v : Value) (h : (ent bp bc k).toList[j]? = some v) : (ents bp bc)[k * 3 + j]? = some v := by
  match j, h with
  | 0, h =>
    rw [← h]
    have : k = 0 ∨ k = 1 ∨ k = 2 ∨ k = 3 ∨ k = 4 ∨ k = 5 ∨ k = 6 ∨ k = 7 ∨ k = 8 ∨ k = 9 ∨ k = 10 ∨ k = 11 ∨ k = 12 ∨ k = 13 ∨ k = 14 ∨ k = 15 ∨ k = 16 ∨ k = 17 ∨ k = 18 ∨ k = 19 := by omega
    rcases this with rfl | rfl | rfl | rfl | rfl | rfl | rfl | rfl | rfl | rfl | rfl | rfl | rfl | rfl | rfl | rfl | rfl | rfl | rfl | rfl <;> rfl
  | 1, h =>
    rw [← h]
    have : k = 0 ∨ k = 1 ∨ k = 2 ∨ k = 3 ∨ k = 4 ∨ k = 5 ∨ k = 6 ∨ k = 7 ∨ k = 8 ∨ k = 9 ∨ k = 10 ∨ k = 11 ∨ k = 12 ∨ k = 13 ∨ k = 14 ∨ k = 15 ∨ k = 16 ∨ k = 17 ∨ k = 18 ∨ k = 19 := by omega
    rcases this with rfl | rfl | rfl | rfl | rfl | rfl | rfl | rfl | rfl | rfl | rfl | rfl | rfl | rfl | rfl | rfl | rfl | rfl | rfl | rfl <;> rfl
  | 2, h =>
    rw [← h]
    have : k = 0 ∨ k = 1 ∨ k = 2 ∨ k = 3 ∨ k = 4 ∨ k = 5 ∨ k = 6 ∨ k = 7 ∨ k = 8 ∨ k = 9 ∨ k = 10 ∨ k = 11 ∨ k = 12 ∨ k = 13 ∨ k = 14 ∨ k = 15 ∨ k = 16 ∨ k = 17 ∨ k = 18 ∨ k = 19 := by omega
    rcases this with rfl | rfl | rfl | rfl | rfl | rfl | rfl | rfl | rfl | rfl | rfl | rfl | rfl | rfl | rfl | rfl | rfl | rfl | rfl | rfl <;> rfl
  | n + 3, h => simp [ent] at h
theorem kind_u {k : Nat} (hi : isI k = false) : kindOf k = .u64 := by unfold isI at hi; unfold kindOf; rw [if_neg (by simpa using hi)]
theorem kind_i {k : Nat} (hi : isI k = true) : kindOf k = .i64 := by unfold isI at hi; unfold kindOf; rw [if_pos (by simpa using hi)]

set_option maxHeartbeats 2000000 in
theorem set_amount (c : Nat → Int) (k : Nat) (v : Int) (w : World) (hk : k < 20) (hi : isI k = false) :
    Calls Try.prog 13 #[.agg (cellsOf c), .int .i64 ((k : Int) + 1), .int .u64 v] w fun e w' => e = .returned (setVal c k v) ∧ Below w.heap.size w w' := by
  have hw : Hid (∀ W, _) := Lib.hid (fun W => withinI_any ((k : Int) + 1) 1 20 W)
  rw [btw_yes (by omega) (by omega)] at hw
  have HI := Lib.hid hi
  have he : ent (w.heap.size + 2) w.heap.size k = #[.pointer none, .pointer (some ⟨w.heap.size, k, none⟩), .func (.func (fnum k)) #[] #[.pointer (some ⟨w.heap.size + 2, 0, none⟩)]] := by unfold ent pv qv; rw [hi]; rfl
  have HE := Lib.hid he
  clear hi he
  unfold cellsOf
  go_enter Try.func13, Try.ntmps13
  go_upto_region 4 with (first
    | (go_at_call 23
       refine (entries_any _ _).mono ?_
       rintro e w1 ⟨rfl, hb1, hbel1⟩
       have KA : Blk w1 w.heap.size 24 (cellsOf c) := ((Blk.new w 24 (cellsOf c)).alloc _).below hbel1 (by simp; omega)
       have KR : Blk w1 (w.heap.size + 1) 24 (cellsOf zeroC) := Blk.below (heap_alloc2_new w _ _) hbel1 (by simp)
       have HB : Below w.heap.size w w1 := (((Below.refl _ _).alloc (Nat.le_refl _) _).alloc (by simp) _).trans (hbel1.mono (by simp; omega))
       have hsz : w.heap.size + 1 < w1.heap.size := KR.lt
       clear hb1 hbel1)
    | (go_at_call 24; refine (hw.out _).mono ?_; rintro e w2 ⟨rfl, rfl⟩)
    | (refine wpList_store_row rfl _ _ _ rfl w1.heap.size (ents (w.heap.size + 2) w.heap.size) rfl rfl 42 _ (heap_alloc_new w1 _) info42 rfl (ents_one _ _) ?_; rw [World.setRow_alloc_new]))
  have hck : ((w1.alloc (.cells (ents (w.heap.size + 2) w.heap.size) 42)).alloc (.cells #[.pointer none, .pointer (some ⟨w.heap.size, k, none⟩), .func (.func (fnum k)) #[] #[.pointer (some ⟨w.heap.size + 2, 0, none⟩)]] 41)).cell? ⟨w.heap.size, k, none⟩ = some (.int .u64 (c k)) := (((KA.alloc _).alloc _).cell k).trans (by rw [cells_at c k hk, kind_u HI.out])
  have hfk : ((w1.alloc (.cells (ents (w.heap.size + 2) w.heap.size) 42)).alloc (.cells #[.pointer none, .pointer (some ⟨w.heap.size, k, none⟩), .func (.func (fnum k)) #[] #[.pointer (some ⟨w.heap.size + 2, 0, none⟩)]] 41)).frozen? ⟨w.heap.size, k, none⟩ = false := ((KA.alloc _).alloc _).frozen k
  have KE : World.rangeAt (w1.alloc (.cells (ents (w.heap.size + 2) w.heap.size) 42)) w1.heap.size (k * 3) [.pointer none, .pointer (some ⟨w.heap.size, k, none⟩), .func (.func (fnum k)) #[] #[.pointer (some ⟨w.heap.size + 2, 0, none⟩)]] := fun j x hx => by
    refine ((Blk.new w1 42 (ents (w.heap.size + 2) w.heap.size)).cell _).trans (ents_range _ _ k hk j x ?_)
    rw [HE.out]
    exact hx
  have KA2 : Blk (((w1.alloc (.cells (ents (w.heap.size + 2) w.heap.size) 42)).alloc (.cells #[.pointer none, .pointer (some ⟨w.heap.size, k, none⟩), .func (.func (fnum k)) #[] #[.pointer (some ⟨w.heap.size + 2, 0, none⟩)]] 41)).setCell ⟨w.heap.size, k, none⟩ (.int .u64 v)) w.heap.size 24 (cellsOf (upd c k v)) := by
    rw [← set_u hk HI.out v]
    exact ((KA.alloc _).alloc _).set_ k _
  have KR2 : Blk (((w1.alloc (.cells (ents (w.heap.size + 2) w.heap.size) 42)).alloc (.cells #[.pointer none, .pointer (some ⟨w.heap.size, k, none⟩), .func (.func (fnum k)) #[] #[.pointer (some ⟨w.heap.size + 2, 0, none⟩)]] 41)).setCell ⟨w.heap.size, k, none⟩ (.int .u64 v)) (w.heap.size + 1) 24 (cellsOf zeroC) := ((KR.alloc _).alloc _).far (by simp) _
  have HX : Below w.heap.size w (((w1.alloc (.cells (ents (w.heap.size + 2) w.heap.size) 42)).alloc (.cells #[.pointer none, .pointer (some ⟨w.heap.size, k, none⟩), .func (.func (fnum k)) #[] #[.pointer (some ⟨w.heap.size + 2, 0, none⟩)]] 41)).setCell ⟨w.heap.size, k, none⟩ (.int .u64 v)) := ((HB.alloc (by omega) _).alloc (by simp; omega) _).setCell (Nat.le_refl _) _
  go_upto_region 7 with (first
    | (refine wpList_load_mid (op := ⟨_, .load 41 _, _, _, _, _⟩) rfl 41 _ rfl w1.heap.size (k * 3) rfl [.pointer none, .pointer (some ⟨w.heap.size, k, none⟩), .func (.func (fnum k)) #[] #[.pointer (some ⟨w.heap.size + 2, 0, none⟩)]] _ KE Try.underlying41 rfl info41 ?_)
    | (refine wpList_store_row (o := ⟨_, .store 41 _ _, _, _, _, _⟩) rfl _ _ _ rfl (w1.heap.size + 1) #[.pointer none, .pointer (some ⟨w.heap.size, k, none⟩), .func (.func (fnum k)) #[] #[.pointer (some ⟨w.heap.size + 2, 0, none⟩)]] rfl rfl 41 _ (heap_alloc2_new w1 _ _) info41 rfl (by simp [Value.oneCell']) ?_; rw [setRow_alloc2]))
  generalize (((w1.alloc (.cells (ents (w.heap.size + 2) w.heap.size) 42)).alloc (.cells #[.pointer none, .pointer (some ⟨w.heap.size, k, none⟩), .func (.func (fnum k)) #[] #[.pointer (some ⟨w.heap.size + 2, 0, none⟩)]] 41)).setCell ⟨w.heap.size, k, none⟩ (.int .u64 v)) = W at KA2 KR2 HX ⊢
  clear hck hfk KE KA KR HB
  go_wp2_with (first
    | (refine wpList_load_rowG (o := ⟨_, .load 24 _, _, _, _, _⟩) rfl 24 _ rfl w.heap.size rfl 24 (cellsOf (upd c k v)) (0, 0) _ KA2 Try.underlying24 rfl info24 ?_)
    | (refine wpList_store_row (o := ⟨_, .store 24 _ _, _, _, _, _⟩) rfl _ _ _ rfl (w.heap.size + 1) (cellsOf (upd c k v)) rfl rfl 24 _ KR2 info24 rfl (cells_one _) ?_))
  exact bodyPost_ret (v := setVal c k v) (results_cell_row2 (fn := Try.f13) rfl _ _ (w.heap.size + 1) 24 (cellsOf (upd c k v)) (0, 0) _ rfl (setRow_heap _ _ _ _ _ _ KR2) Try.underlying24 rfl info24) rfl ⟨rfl, below_setRow HX (by omega) _⟩

end Go.Proofs.Ytlnpppifdobcfaa
