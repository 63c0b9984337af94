/- Operands as values: a size and two functions; the functions' contracts. -/
import Derived.Test.YtniehmlklbggdaaDoorInv
import Derived.Test.YtniehmlklbggdaaDoorTable
import Derived.Test.YtniehmlklbggdaaDoorBuild
import Derived.Test.YtniehmlklbggdaaDoorStructs
import Derived.Laws.EntriesVeiled
import Derived.Deep.WholeRow
namespace Go.Proofs.YtniehmlklbggdaaDoor
open Go Go.RowKit Go.Maps
set_option linter.unusedVariables false
set_option linter.unusedSimpArgs false
set_option maxRecDepth 100000

def Od.getF : Od → Nat | .ix => 68 | .tg => 70 | .am => 72
def Od.setF : Od → Nat | .ix => 69 | .tg => 71 | .am => 73
def Od.row (d : Od) : List Value := [.int .i64 (d.sz : Int), .func (.func d.getF) #[] #[], .func (.func d.setF) #[] #[]]
def cellsOd (d : Od) : Array Value := d.row.toArray
theorem Od.row_len (d : Od) : d.row.length = 3 := rfl
theorem Od.row_one (d : Od) : ∀ u ∈ d.row, u.oneCell' = true := by
  intro u hu
  simp only [Od.row, List.mem_cons, List.not_mem_nil, or_false] at hu
  rcases hu with rfl | rfl | rfl <;> rfl
theorem cellsOd_one (d : Od) : (cellsOd d).all (·.oneCell') = true := by
  refine Array.all_eq_true_iff_forall_mem.2 (fun u hu => Od.row_one d u (by simpa [cellsOd] using hu))
theorem infoOd : (Tryd.prog.info? 86).map (·.size) = some 3 := by kernel_rfl
theorem call_get (d : Od) : ∀ args w, (callFunc d.getF args).run Tryd.prog w = .ok (.enter d.getF args) w := by
  cases d
  · exact Tryd.call68
  · exact Tryd.call70
  · exact Tryd.call72
theorem call_set (d : Od) : ∀ args w, (callFunc d.setF args).run Tryd.prog w = .ok (.enter d.setF args) w := by
  cases d
  · exact Tryd.call69
  · exact Tryd.call71
  · exact Tryd.call73
theorem get_any (d : Od) (o : Oq) (w : World) : Calls Tryd.prog d.getF #[.agg (cellsOq o)] w fun e w' => e = .returned (.int .u64 (d.get o)) ∧ Below w.heap.size w w' := by
  have B0 : Hid (Below w.heap.size w (w.alloc (.cells (cellsOq o) 35))) := Lib.hid ((Below.refl _ _).alloc (Nat.le_refl _) _)
  have C := Blk.cell (Blk.new w 35 (cellsOq o))
  have hc1 : (w.alloc (.cells (cellsOq o) 35)).cell? ⟨w.heap.size, 1, none⟩ = some (.int .i64 o.ix) := C 1
  have hc2 : (w.alloc (.cells (cellsOq o) 35)).cell? ⟨w.heap.size, 2, none⟩ = some (.int .i64 o.tg) := C 2
  have hc3 : (w.alloc (.cells (cellsOq o) 35)).cell? ⟨w.heap.size, 3, none⟩ = some (.int .u64 o.am) := C 3
  clear C
  cases d
  · obtain ⟨g, hg⟩ : ∃ g, IntKind.u64.wrap o.ix = g := ⟨_, rfl⟩
    have HG := Lib.hid hg
    clear hc2 hc3
    show Calls _ 68 _ _ _
    go_enter Tryd.func68, Tryd.ntmps68
    go_wp2
    go_ret
    exact ⟨by rw [← HG.out]; rfl, B0.out⟩
  · obtain ⟨g, hg⟩ : ∃ g, IntKind.u64.wrap o.tg = g := ⟨_, rfl⟩
    have HG := Lib.hid hg
    clear hc1 hc3
    show Calls _ 70 _ _ _
    go_enter Tryd.func70, Tryd.ntmps70
    go_wp2
    go_ret
    exact ⟨by rw [← HG.out]; rfl, B0.out⟩
  · clear hc1 hc2
    show Calls _ 72 _ _ _
    go_enter Tryd.func72, Tryd.ntmps72
    go_wp2
    go_ret
    exact ⟨rfl, B0.out⟩
theorem set_any (d : Od) (o : Oq) (v : Int) (w : World) : Calls Tryd.prog d.setF #[.agg (cellsOq o), .int .u64 v] w fun e w' => e = .returned (.agg (cellsOq (d.set o v))) ∧ Below w.heap.size w w' := by
  obtain ⟨k, i, t, a⟩ := o
  cases d
  · obtain ⟨g, hg⟩ : ∃ g, IntKind.i64.wrap v = g := ⟨_, rfl⟩
    have HG := Lib.hid hg
    show Calls _ 69 #[.agg #[.int .i64 k, .int .i64 i, .int .i64 t, .int .u64 a], .int .u64 v] _ _
    go_enter Tryd.func69, Tryd.ntmps69
    go_wp2
    refine bodyPost_ret (v := .agg (cellsOq ⟨k, g, t, a⟩)) (results_cell_row (fn := Tryd.f69) rfl _ _ (w.heap.size + 1) 35 (cellsOq ⟨k, g, t, a⟩) (0, 0) _ rfl (heap_alloc2_new w _ _) Tryd.underlying35 rfl infoOq) rfl ⟨?_, ((Below.refl _ _).alloc (Nat.le_refl _) _).alloc (by simp) _⟩
    rw [← HG.out]; rfl
  · obtain ⟨g, hg⟩ : ∃ g, IntKind.i64.wrap v = g := ⟨_, rfl⟩
    have HG := Lib.hid hg
    show Calls _ 71 #[.agg #[.int .i64 k, .int .i64 i, .int .i64 t, .int .u64 a], .int .u64 v] _ _
    go_enter Tryd.func71, Tryd.ntmps71
    go_wp2
    refine bodyPost_ret (v := .agg (cellsOq ⟨k, i, g, a⟩)) (results_cell_row (fn := Tryd.f71) rfl _ _ (w.heap.size + 1) 35 (cellsOq ⟨k, i, g, a⟩) (0, 0) _ rfl (heap_alloc2_new w _ _) Tryd.underlying35 rfl infoOq) rfl ⟨?_, ((Below.refl _ _).alloc (Nat.le_refl _) _).alloc (by simp) _⟩
    rw [← HG.out]; rfl
  · show Calls _ 73 #[.agg #[.int .i64 k, .int .i64 i, .int .i64 t, .int .u64 a], .int .u64 v] _ _
    go_enter Tryd.func73, Tryd.ntmps73
    go_wp2
    exact bodyPost_ret (v := .agg (cellsOq ⟨k, i, t, v⟩)) (results_cell_row (fn := Tryd.f73) rfl _ _ (w.heap.size + 1) 35 (cellsOq ⟨k, i, t, v⟩) (0, 0) _ rfl (heap_alloc2_new w _ _) Tryd.underlying35 rfl infoOq) rfl ⟨rfl, ((Below.refl _ _).alloc (Nat.le_refl _) _).alloc (by simp) _⟩
end Go.Proofs.YtniehmlklbggdaaDoor
