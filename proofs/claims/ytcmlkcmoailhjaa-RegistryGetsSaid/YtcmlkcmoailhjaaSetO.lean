/- Set. -/
import Derived.Test.YtcmlkcmoailhjaaSetV
namespace Go.Proofs.Ytcmlkcmoailhjaa
open Go Go.RowKit Go.Deep
set_option linter.unusedVariables false
set_option linter.unusedSimpArgs false

theorem exec_eqv {a : Act} {dst : Option Tmp} {yt ty : TypeId} {x y : Operand} {pos : String} {after : Array Edge} {guard : Option (Nat × Bool)} {w : World} {p q : Val} {r : Bool} (hx : a.eval x = .agg (cellsV p)) (hy : a.eval y = .agg (cellsV q)) (hr : decide (p = q) = r) :
    (execOp a.eval { dst, op := .binOp .eql 29 x y yt, type := ty, pos, after, guard }).run Try.prog w = .ok (.value (.bool r)) w := by
  simp only [execOp, hx, hy, Sem.run_bind, run_eqGuard_agg w .eql _ x y _ _ Try.eqGuardType29, Result.andThen_ok, run_eql_struct, eq_val p q w, Sem.run_pure, hr]
theorem exec_nev {a : Act} {dst : Option Tmp} {yt ty : TypeId} {x y : Operand} {pos : String} {after : Array Edge} {guard : Option (Nat × Bool)} {w : World} {p q : Val} {r : Bool} (hx : a.eval x = .agg (cellsV p)) (hy : a.eval y = .agg (cellsV q)) (hr : (!decide (p = q)) = r) :
    (execOp a.eval { dst, op := .binOp .neq 29 x y yt, type := ty, pos, after, guard }).run Try.prog w = .ok (.value (.bool r)) w := by
  simp only [execOp, hx, hy, Sem.run_bind, run_eqGuard_agg w .neq _ x y _ _ Try.eqGuardType29, Result.andThen_ok, run_neq_struct, eq_val p q w, Sem.run_pure, hr]
theorem infoP : (Try.prog.info? 23).map (·.size) = some 1 := by kernel_rfl
theorem setv_nil (i : Int) (v : Val) (w : World) : Calls Try.prog 24 #[.pointer none, .int .i64 i, .agg (cellsV v)] w fun e w' => e = .returned (.int .i64 1) ∧ Below w.heap.size w w' := by
  go_enter_defers Try.func24, Try.ntmps24
  go_wp2
  exact ⟨_, results_tmp rfl _ _ _, rfl, ((Below.refl _ _).alloc (Nat.le_refl _) _).alloc (by simp) _⟩
theorem setv_index (b n cp : Nat) (a : Option Addr) (i : Int) (v : Val) (w : World) (h1 : w.cell? ⟨b, 1, none⟩ = some (.slice a n cp)) (ho : i < 0 ∨ n ≤ i) :
    Calls Try.prog 24 #[.pointer (some ⟨b, 0, none⟩), .int .i64 i, .agg (cellsV v)] w fun e w' => e = .returned (.int .i64 7) ∧ Below w.heap.size w w' := by
  have HB : Hid (Below w.heap.size w ((w.alloc (.cells #[.pointer (some ⟨b, 0, none⟩)] 23)).alloc (.cells (cellsV v) 29))) := Lib.hid (((Below.refl _ _).alloc (Nat.le_refl _) _).alloc (by simp) _)
  have H := Lib.hid (has_out b n cp a i ((w.alloc (.cells #[.pointer (some ⟨b, 0, none⟩)] 23)).alloc (.cells (cellsV v) 29)) (cell_alloc_some _ (cell_alloc_some _ h1)) ho)
  clear h1 ho
  go_enter_defers Try.func24, Try.ntmps24
  go_wp2_with fail
  refine H.out.mono ?_
  rintro e w1 ⟨rfl, rfl⟩
  go_wp2
  exact ⟨_, results_tmp rfl _ _ _, rfl, HB.out⟩

/-- Set's way to the comparison: the validator there is loaded; two rows lie beside it. -/
theorem set_start (b cap m n cp g i : Nat) (l : List Val) (old v : Val) (w : World) (h : RegB w b m (.slice (some ⟨g, 0, none⟩) l.length cp) cap (countOf l) (activeOf l) (totalOf l)) (ho : w.ownsRow 0 29 7 (.slice (some ⟨g, 0, none⟩) l.length cp) l.length (flat l)) (hi : l[i]? = some old) : i < l.length ∧ w.rangeAt g (i * 7) old.row ∧ g ≠ b ∧ g ≠ m := by
  refine ⟨(List.getElem?_eq_some_iff.1 hi).1, ?_, ?_, ?_⟩
  · have := range_of_flat (w := w) (b := g) (off := 0) (l := l) (fun j u hu => by
      have := ho.cells rfl j u hu
      rwa [add_plain] at this) hi
    rwa [Nat.zero_add] at this
  · rintro rfl
    rcases ho.2 with ⟨h1, _⟩ | ⟨g', cp', cur, h1, _, h3, _⟩
    · cases h1
    · injection h1 with h1 _ _; injection h1 with h1; injection h1 with h1; subst h1
      have := h.1; unfold Blk at this; rw [h3] at this; injection this with this; injection this with _ h9; exact absurd h9 (by decide)
  · rintro rfl
    rcases ho.2 with ⟨h1, _⟩ | ⟨g', cp', cur, h1, _, h3, _⟩
    · cases h1
    · injection h1 with h1 _ _; injection h1 with h1; injection h1 with h1; subst h1
      obtain ⟨es, clock, h9, _⟩ := h.2; rw [h3] at h9; cases h9

set_option maxHeartbeats 1600000 in
theorem setv_same (b cap m cp g i : Nat) (l : List Val) (v : Val) (w : World) (h : RegB w b m (.slice (some ⟨g, 0, none⟩) l.length cp) cap (countOf l) (activeOf l) (totalOf l)) (ho : w.ownsRow 0 29 7 (.slice (some ⟨g, 0, none⟩) l.length cp) l.length (flat l)) (hi : l[i]? = some v) :
    Calls Try.prog 24 #[.pointer (some ⟨b, 0, none⟩), .int .i64 i, .agg (cellsV v)] w fun e w' => e = .returned (.int .i64 0) ∧ Below w.heap.size w w' := by
  obtain ⟨hil, hr, -, -⟩ := set_start b cap m l.length cp g i l v v w h ho hi
  have HB : Hid (Below w.heap.size w ((w.alloc (.cells #[.pointer (some ⟨b, 0, none⟩)] 23)).alloc (.cells (cellsV v) 29))) := Lib.hid (((Below.refl _ _).alloc (Nat.le_refl _) _).alloc (by simp) _)
  have x1 := cell_alloc_some (.cells (cellsV v) 29) (cell_alloc_some (.cells #[.pointer (some ⟨b, 0, none⟩)] 23) h.cells.2.1)
  have HR : Hid (((w.alloc (.cells #[.pointer (some ⟨b, 0, none⟩)] 23)).alloc (.cells (cellsV v) 29)).rangeAt g (i * 7) v.row) := Lib.hid (fun j u hu => cell_alloc_some _ (cell_alloc_some _ (hr j u hu)))
  have H := Lib.hid (has_in b l.length cp i _ ((w.alloc (.cells #[.pointer (some ⟨b, 0, none⟩)] 23)).alloc (.cells (cellsV v) 29)) x1 hil)
  have HE : Hid (Blk ((w.alloc (.cells #[.pointer (some ⟨b, 0, none⟩)] 23)).alloc (.cells (cellsV v) 29)) (w.heap.size + 1) 29 (cellsV v)) := Lib.hid (by have := Blk.new (w.alloc (.cells #[.pointer (some ⟨b, 0, none⟩)] 23)) 29 (cellsV v); simpa using this)
  have cR : ((w.alloc (.cells #[.pointer (some ⟨b, 0, none⟩)] 23)).alloc (.cells (cellsV v) 29)).cell? ⟨w.heap.size, 0, none⟩ = some (.pointer (some ⟨b, 0, none⟩)) := cell_alloc_some _ ((Blk.new w _ _).cell 0)
  have hi1 : ¬ (i : Int) < 0 := by omega
  have hi2 : ¬ (l.length : Int) ≤ (i : Int) := by omega
  have hi3 : (i : Int) < (l.length : Int) := by omega
  clear h ho hi hr
  go_enter_defers Try.func24, Try.ntmps24
  go_wp2_with fail
  generalize (w.alloc (.cells #[.pointer (some ⟨b, 0, none⟩)] 23)).alloc (.cells (cellsV v) 29) = W at *
  refine H.out.mono ?_
  rintro e w1 ⟨rfl, rfl⟩
  have HE2 : Hid (Blk (W.alloc (.cells (cellsV v) 29)) (w.heap.size + 1) 29 (cellsV v)) := Lib.hid (HE.out.alloc _)
  have HN2 : Hid (Blk (W.alloc (.cells (cellsV v) 29)) W.heap.size 29 (cellsV v)) := Lib.hid (Blk.new _ _ _)
  go_wp2_with (first | (refine wpList_valG (.bool true) rfl (exec_eqv rfl rfl (by simp)) ?_) | (refine wpList_load_val rfl 29 _ rfl g (i * 7) rfl v _ HR.out Try.underlying29 rfl infoV ?_) | (refine wpList_store_row rfl _ _ _ rfl W.heap.size (cellsV v) rfl rfl 29 _ (heap_alloc_new W _) infoV rfl (cellsV_one v) ?_; rw [World.setRow_alloc_new]) | (refine wpList_load_val rfl 29 _ rfl (w.heap.size + 1) 0 rfl v _ HE2.out.range Try.underlying29 rfl infoV ?_) | (refine wpList_load_val rfl 29 _ rfl W.heap.size 0 rfl v _ HN2.out.range Try.underlying29 rfl infoV ?_))
  exact ⟨_, results_tmp rfl _ _ _, rfl, HB.out.alloc HB.out.size _⟩
end Go.Proofs.Ytcmlkcmoailhjaa
