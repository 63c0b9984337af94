/- Operands as values: a size and two functions; the functions' contracts. -/
import Derived.Test.YtfepfcalfhegfaaDoorInv
import Derived.Test.YtfepfcalfhegfaaDoorTable
import Derived.Test.YtfepfcalfhegfaaDoorBuild
import Derived.Test.YtfepfcalfhegfaaDoorStructs
import Derived.Laws.EntriesVeiled
import Derived.Deep.WholeRow
namespace Go.Proofs.YtfepfcalfhegfaaDoor
open Go Go.RowKit Go.Maps
set_option linter.unusedVariables false
set_option linter.unusedSimpArgs false
set_option maxRecDepth 100000

def Od.getF : Od → Nat | .ix => 33 | .tg => 35 | .am => 37
def Od.setF : Od → Nat | .ix => 34 | .tg => 36 | .am => 38
def Od.row (d : Od) : List Value := [.int .i64 (d.sz : Int), .func (.func d.getF) #[] #[], .func (.func d.setF) #[] #[]]
def cellsOd (d : Od) : Array Value := d.row.toArray
theorem Od.row_len (d : Od) : d.row.length = 3 := rfl
theorem Od.row_one (d : Od) : ∀ u ∈ d.row, u.oneCell' = true := by
  intro u hu
  simp only [Od.row, List.mem_cons, List.not_mem_nil, or_false] at hu
  rcases hu with rfl | rfl | rfl <;> rfl
theorem cellsOd_one (d : Od) : (cellsOd d).all (·.oneCell') = true := by
  refine Array.all_eq_true_iff_forall_mem.2 (fun u hu => Od.row_one d u (by simpa [cellsOd] using hu))
theorem infoOd : (Tryd.prog.info? 52).map (·.size) = some 3 := by kernel_rfl
theorem call_get (d : Od) : ∀ args w, (callFunc d.getF args).run Tryd.prog w = .ok (.enter d.getF args) w := by
  cases d
  · exact Tryd.call33
  · exact Tryd.call35
  · exact Tryd.call37
theorem call_set (d : Od) : ∀ args w, (callFunc d.setF args).run Tryd.prog w = .ok (.enter d.setF args) w := by
  cases d
  · exact Tryd.call34
  · exact Tryd.call36
  · exact Tryd.call38
theorem get_any (d : Od) (o : Oq) (w : World) : Calls Tryd.prog d.getF #[.agg (cellsOq o)] w fun e w' => e = .returned (.int .u64 (d.get o)) ∧ Below w.heap.size w w' := by
  have B0 : Hid (Below w.heap.size w (w.alloc (.cells (cellsOq o) 24))) := Lib.hid ((Below.refl _ _).alloc (Nat.le_refl _) _)
  have C := Blk.cell (Blk.new w 24 (cellsOq o))
  have hc1 : (w.alloc (.cells (cellsOq o) 24)).cell? ⟨w.heap.size, 1, none⟩ = some (.int .i64 o.ix) := C 1
  have hc2 : (w.alloc (.cells (cellsOq o) 24)).cell? ⟨w.heap.size, 2, none⟩ = some (.int .i64 o.tg) := C 2
  have hc3 : (w.alloc (.cells (cellsOq o) 24)).cell? ⟨w.heap.size, 3, none⟩ = some (.int .u64 o.am) := C 3
  clear C
  cases d
  · obtain ⟨g, hg⟩ : ∃ g, IntKind.u64.wrap o.ix = g := ⟨_, rfl⟩
    have HG := Lib.hid hg
    clear hc2 hc3
    show Calls _ 33 _ _ _
    go_enter Tryd.func33, Tryd.ntmps33
    go_wp2
    go_ret
    exact ⟨by rw [← HG.out]; rfl, B0.out⟩
  · obtain ⟨g, hg⟩ : ∃ g, IntKind.u64.wrap o.tg = g := ⟨_, rfl⟩
    have HG := Lib.hid hg
    clear hc1 hc3
    show Calls _ 35 _ _ _
    go_enter Tryd.func35, Tryd.ntmps35
    go_wp2
    go_ret
    exact ⟨by rw [← HG.out]; rfl, B0.out⟩
  · clear hc1 hc2
    show Calls _ 37 _ _ _
    go_enter Tryd.func37, Tryd.ntmps37
    go_wp2
    go_ret
    exact ⟨rfl, B0.out⟩
theorem set_any (d : Od) (o : Oq) (v : Int) (w : World) : Calls Tryd.prog d.setF #[.agg (cellsOq o), .int .u64 v] w fun e w' => e = .returned (.agg (cellsOq (d.set o v))) ∧ Below w.heap.size w w' := by
  obtain ⟨k, i, t, a⟩ := o
  cases d
  · obtain ⟨g, hg⟩ : ∃ g, IntKind.i64.wrap v = g := ⟨_, rfl⟩
    have HG := Lib.hid hg
    show Calls _ 34 #[.agg #[.int .i64 k, .int .i64 i, .int .i64 t, .int .u64 a], .int .u64 v] _ _
    go_enter Tryd.func34, Tryd.ntmps34
    go_wp2
    refine bodyPost_ret (v := .agg (cellsOq ⟨k, g, t, a⟩)) (results_cell_row (fn := Tryd.f34) rfl _ _ (w.heap.size + 1) 24 (cellsOq ⟨k, g, t, a⟩) (0, 0) _ rfl (heap_alloc2_new w _ _) Tryd.underlying24 rfl infoOq) rfl ⟨?_, ((Below.refl _ _).alloc (Nat.le_refl _) _).alloc (by simp) _⟩
    rw [← HG.out]; rfl
  · obtain ⟨g, hg⟩ : ∃ g, IntKind.i64.wrap v = g := ⟨_, rfl⟩
    have HG := Lib.hid hg
    show Calls _ 36 #[.agg #[.int .i64 k, .int .i64 i, .int .i64 t, .int .u64 a], .int .u64 v] _ _
    go_enter Tryd.func36, Tryd.ntmps36
    go_wp2
    refine bodyPost_ret (v := .agg (cellsOq ⟨k, i, g, a⟩)) (results_cell_row (fn := Tryd.f36) rfl _ _ (w.heap.size + 1) 24 (cellsOq ⟨k, i, g, a⟩) (0, 0) _ rfl (heap_alloc2_new w _ _) Tryd.underlying24 rfl infoOq) rfl ⟨?_, ((Below.refl _ _).alloc (Nat.le_refl _) _).alloc (by simp) _⟩
    rw [← HG.out]; rfl
  · show Calls _ 38 #[.agg #[.int .i64 k, .int .i64 i, .int .i64 t, .int .u64 a], .int .u64 v] _ _
    go_enter Tryd.func38, Tryd.ntmps38
    go_wp2
    exact bodyPost_ret (v := .agg (cellsOq ⟨k, i, t, v⟩)) (results_cell_row (fn := Tryd.f38) rfl _ _ (w.heap.size + 1) 24 (cellsOq ⟨k, i, t, v⟩) (0, 0) _ rfl (heap_alloc2_new w _ _) Tryd.underlying24 rfl infoOq) rfl ⟨rfl, ((Below.refl _ _).alloc (Nat.le_refl _) _).alloc (by simp) _⟩
end Go.Proofs.YtfepfcalfhegfaaDoor
