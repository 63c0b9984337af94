/- Rows of ints of one's own: two joined, one read; a sorted row of different numbers. -/
import Derived.Test.YthnhpmeacboljaaLaw
namespace Go.Proofs.Ythnhpmeacboljaa
open Go Go.RowKit Go.Deep
set_option linter.unusedVariables false
set_option linter.unusedSimpArgs false
set_option maxRecDepth 100000

theorem OwnI.cell {w : World} {base cp : Nat} {a : Option Addr} {l : List Int} (h : OwnI w base (.slice a l.length cp) l) {k : Nat} {i : Int} (hk : l[k]? = some i) : ∃ g, a = some ⟨g, 0, none⟩ ∧ w.cell? ⟨g, k, none⟩ = some (.int .i64 i) := by
  rcases h.2 with ⟨h1, h2⟩ | ⟨g, cap, cur, h1, h2, h3, h4, h5, h6⟩
  · have : l = [] := List.eq_nil_of_length_eq_zero h2
    rw [this] at hk
    simp at hk
  · injection h1 with h1 _ _
    refine ⟨g, h1, ?_⟩
    have := World.ownsRow.cells h (g := g) (by rw [h1]; rfl) k (.int .i64 i) (by rw [List.getElem?_map, hk]; rfl)
    rwa [add_plain, Nat.zero_add] at this
theorem OwnI.base {w : World} {B C : Nat} {v : Value} {l : List Int} (h : OwnI w B v l) (hC : C ≤ B) : OwnI w C v l := ownsR_base h hC
theorem arm_appM {ops : Array Oper} {rest : List Oper} {o : Oper} {c : Act} {w : World} {Q : Exit → Act → World → Prop} {base cap m : Nat} {v : Value} {l M : List Int} {p : Option Addr} {S : Nat → Prop} (H : OwnI w base v l) (hM : IntsAt w S p M) (hm : M.length = m)
    (hgd : o.guard = none) (s x : Operand) (ho : o.op = .call { callee := .builtin .append, args := #[s, x], argTypes := #[51, 51] }) (hs : c.eval s = v) (hx : c.eval x = .slice p m cap) (h63 : l.length + m ≤ 4000000) (hbase : base ≤ w.heap.size)
    (K : ∀ v' w', OwnI w' base v' (l ++ M) → w.grownBy w' v.ownBlock → (v'.ownBlock = v.ownBlock ∨ v'.ownBlock = some w.heap.size) → wpList Try.prog ops Q rest (c.put o.dst v') w') : wpList Try.prog ops Q (o :: rest) c w := by
  obtain ⟨i8, hi8, hz8, hs8, hb8⟩ := appInt
  subst hm
  refine wpList_append_src w hgd s x 51 ho base 3 i8 _ 1 8 Try.underlying51 hi8 hz8 hs8 hb8 rfl (by omega) v l.length _ hs H p M.length cap (M.map (Value.int .i64)) hx (by simp) (fun h0 => ?_) (fun u hu => ?_) (by unfold maxLen; omega) (by omega) hbase fun v' w' h1 h2 h3 => K v' w' ?_ h2 h3
  · obtain ⟨b, off, e, _, _, hc⟩ := hM h0
    refine ⟨_, e, fun j u hu => ?_⟩
    rw [List.getElem?_map] at hu
    have hj : j < M.length := by
      rcases Nat.lt_or_ge j M.length with h | h
      · exact h
      · rw [List.getElem?_eq_none h] at hu; cases hu
    rw [List.getElem?_eq_getElem hj] at hu
    injection hu with hu
    rw [add_plain, hc j hj, ← hu, List.getD_eq_getElem?_getD, List.getElem?_eq_getElem hj]
    rfl
  · obtain ⟨i, _, rfl⟩ := List.mem_map.1 hu
    rfl
  · unfold OwnI
    rw [List.length_append, List.map_append]
    exact h1
theorem srt_len (l : List Int) : (srt l).length = l.length := List.length_mergeSort _
theorem srt_ne {l : List Int} (h : l.Nodup) {j k : Nat} {x y : Int} (hx : (srt l)[k]? = some x) (hy : (srt l)[j]? = some y) (hjk : j < k) : (x == y) = false := by
  have hn : (srt l).Nodup := (List.mergeSort_perm l _).nodup_iff.2 h
  obtain ⟨lk, ek⟩ := List.getElem?_eq_some_iff.1 hx
  obtain ⟨lj, ej⟩ := List.getElem?_eq_some_iff.1 hy
  have := List.pairwise_iff_getElem.1 hn j k lj lk hjk
  rw [ek, ej] at this
  simp only [beq_eq_false_iff_ne, ne_eq]
  exact fun e => this e.symm
end Go.Proofs.Ythnhpmeacboljaa
