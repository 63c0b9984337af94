/- In the midst of Format: the receipt's box, the writer's builder; a part is added. -/
import Derived.Test.YtjbbcnepeffiaaaDoorOr
import Derived.Test.YtjbbcnepeffiaaaDoorSeqs
import Derived.Test.YtjbbcnepeffiaaaDoorStructs
import Derived.Test.YtjbbcnepeffiaaaDoorBuild
namespace Go.Proofs.YtjbbcnepeffiaaaDoor
open Go Go.RowKit
set_option linter.unusedVariables false
set_option linter.unusedSimpArgs false
set_option maxRecDepth 100000

theorem infoS : ∃ i, Tryd.prog.info? 9 = some i ∧ i.zero = some (.string ⟨#[]⟩) ∧ i.size = 1 := by
  have h : (Tryd.prog.info? 9).map (fun i => (i.zero, i.size)) = some (some (.string ⟨#[]⟩), 1) := by kernel_rfl
  cases hi : Tryd.prog.info? 9 with
  | none => rw [hi] at h; cases h
  | some i =>
    rw [hi] at h
    simp at h
    exact ⟨i, rfl, h.1, h.2⟩
theorem run_strs2 (a b : List UInt8) (w : World) : (Instr.buildSlice 65 2 #[(0, .string (bs a)), (1, .string (bs b))]).run Tryd.prog w = .ok (.slice (some ⟨w.heap.size, 0, none⟩) 2 2) (w.alloc (.cells (strs [a, b]) 9)) := by
  obtain ⟨i, hi, hz, hs⟩ := infoS
  simp [Instr.buildSlice, run_underlying Tryd.underlying65, sizeOf, typeInfo, hi, hz, hs, Instr.fill, newRow, zeroValue, go_sem, strs, Value.cells]
theorem run_strs5 (a b c d e : List UInt8) (w : World) : (Instr.buildSlice 65 5 #[(0, .string (bs a)), (1, .string (bs b)), (2, .string (bs c)), (3, .string (bs d)), (4, .string (bs e))]).run Tryd.prog w = .ok (.slice (some ⟨w.heap.size, 0, none⟩) 5 5) (w.alloc (.cells (strs [a, b, c, d, e]) 9)) := by
  obtain ⟨i, hi, hz, hs⟩ := infoS
  simp [Instr.buildSlice, run_underlying Tryd.underlying65, sizeOf, typeInfo, hi, hz, hs, Instr.fill, newRow, zeroValue, go_sem, strs, Value.cells]
theorem run_strs6 (a b c d e f : List UInt8) (w : World) : (Instr.buildSlice 65 6 #[(0, .string (bs a)), (1, .string (bs b)), (2, .string (bs c)), (3, .string (bs d)), (4, .string (bs e)), (5, .string (bs f))]).run Tryd.prog w = .ok (.slice (some ⟨w.heap.size, 0, none⟩) 6 6) (w.alloc (.cells (strs [a, b, c, d, e, f]) 9)) := by
  obtain ⟨i, hi, hz, hs⟩ := infoS
  simp [Instr.buildSlice, run_underlying Tryd.underlying65, sizeOf, typeInfo, hi, hz, hs, Instr.fill, newRow, zeroValue, go_sem, strs, Value.cells]
section
variable {o : Oper} {act : Act} {w : World} {K : Act → World → Prop} {Q : Exit → Act → World → Prop} {ops : Array Oper} {rest : List Oper}
theorem wp_strs2 (x y : Operand) (a b : List UInt8) (ho : o.op = .buildSlice 65 2 #[(0, x), (1, y)]) (hx : act.eval x = .string (bs a)) (hy : act.eval y = .string (bs b))
    (h : K (act.put o.dst (.slice (some ⟨w.heap.size, 0, none⟩) 2 2)) (w.alloc (.cells (strs [a, b]) 9))) : o.wp Tryd.prog act w K Q := by
  unfold Oper.wp execOp
  simp only [ho, List.map_toArray, List.map_cons, List.map_nil, hx, hy, Sem.run_bind, run_strs2 a b w, Result.andThen_ok, Sem.run_pure]
  exact h
theorem wpList_strs2 (hg : o.guard = none) (x y : Operand) (a b : List UInt8) (ho : o.op = .buildSlice 65 2 #[(0, x), (1, y)]) (hx : act.eval x = .string (bs a)) (hy : act.eval y = .string (bs b))
    (h : wpList Tryd.prog ops Q rest (act.put o.dst (.slice (some ⟨w.heap.size, 0, none⟩) 2 2)) (w.alloc (.cells (strs [a, b]) 9))) : wpList Tryd.prog ops Q (o :: rest) act w :=
  wpList_plain hg fun _ hK => wp_strs2 x y a b ho hx hy (hK _ _ h)
theorem wp_strs5 (x1 x2 x3 x4 x5 : Operand) (a b c d e : List UInt8) (ho : o.op = .buildSlice 65 5 #[(0, x1), (1, x2), (2, x3), (3, x4), (4, x5)]) (h1 : act.eval x1 = .string (bs a)) (h2 : act.eval x2 = .string (bs b)) (h3 : act.eval x3 = .string (bs c)) (h4 : act.eval x4 = .string (bs d)) (h5 : act.eval x5 = .string (bs e))
    (h : K (act.put o.dst (.slice (some ⟨w.heap.size, 0, none⟩) 5 5)) (w.alloc (.cells (strs [a, b, c, d, e]) 9))) : o.wp Tryd.prog act w K Q := by
  unfold Oper.wp execOp
  simp only [ho, List.map_toArray, List.map_cons, List.map_nil, h1, h2, h3, h4, h5, Sem.run_bind, run_strs5 a b c d e w, Result.andThen_ok, Sem.run_pure]
  exact h
theorem wp_strs6 (x1 x2 x3 x4 x5 x6 : Operand) (a b c d e f : List UInt8) (ho : o.op = .buildSlice 65 6 #[(0, x1), (1, x2), (2, x3), (3, x4), (4, x5), (5, x6)]) (h1 : act.eval x1 = .string (bs a)) (h2 : act.eval x2 = .string (bs b)) (h3 : act.eval x3 = .string (bs c)) (h4 : act.eval x4 = .string (bs d)) (h5 : act.eval x5 = .string (bs e)) (h6 : act.eval x6 = .string (bs f))
    (h : K (act.put o.dst (.slice (some ⟨w.heap.size, 0, none⟩) 6 6)) (w.alloc (.cells (strs [a, b, c, d, e, f]) 9))) : o.wp Tryd.prog act w K Q := by
  unfold Oper.wp execOp
  simp only [ho, List.map_toArray, List.map_cons, List.map_nil, h1, h2, h3, h4, h5, h6, Sem.run_bind, run_strs6 a b c d e f w, Result.andThen_ok, Sem.run_pure]
  exact h
end
/-- Where Format stands: the receipt's box rb, the builder tb, which holds T. -/
structure Fm (w0 w : World) (rb tb : Nat) (r : Rc) (T : List UInt8) : Prop where
  box : Blk w rb 26 (cellsRc r)
  txt : Bld tb tb T w
  bel : Below w0.heap.size w0 w
  from_ : w0.heap.size ≤ tb
section
variable {w0 w w' : World} {rb tb : Nat} {r : Rc} {T : List UInt8}
theorem Fm.size (h : Fm w0 w rb tb r T) : w0.heap.size ≤ w.heap.size := h.bel.size
theorem Fm.below (h : Fm w0 w rb tb r T) (hb : Below w.heap.size w w') : Fm w0 w' rb tb r T := ⟨h.box.below hb h.box.lt, h.txt.below hb, h.bel.trans (hb.mono h.size), h.from_⟩
theorem Fm.drew (h : Fm w0 w rb tb r T) : Fm w0 w.drew rb tb r T := h.below ((Below.refl _ _).drew)
theorem Fm.alloc (h : Fm w0 w rb tb r T) (o : Obj) : Fm w0 (w.alloc o) rb tb r T := h.below ((Below.refl _ _).alloc (Nat.le_refl _) o)
theorem Fm.wrote {T' : List UInt8} (h : Fm w0 w rb tb r T) (k : Wrote tb tb w w') (h' : Bld tb tb T' w') : Fm w0 w' rb tb r T' := ⟨k.keep h.txt h.box (by decide) (by decide), h', h.bel.trans (k.1.mono h.from_), h.from_⟩
theorem Fm.cell (h : Fm w0 w rb tb r T) (i : Nat) : w.cell? ⟨rb, i, none⟩ = (cellsRc r)[i]? := h.box.cell i
/-- A part is added: its strings were laid just now. -/
theorem Fm.add (h : Fm w0 w rb tb r T) (ss : List (List UInt8)) (n : Nat) (T' : List UInt8) (hT : T ++ ss.flatten = T') (hn : ss.length = n) (hnn : n ≤ 1000) (hsz : T'.length ≤ 140737488355328) :
    Calls Tryd.prog 38 #[.slice (some ⟨w.heap.size, 0, none⟩) n n, .pointer (some ⟨tb, 0, none⟩)] (w.alloc (.cells (strs ss) 9)) fun e w' => e = .returned (.tuple #[]) ∧ Fm w0 w' rb tb r T' := by
  subst hT
  rw [List.length_append] at hsz
  have h1 := h.alloc (.cells (strs ss) 9)
  exact (add_any tb tb T w.heap.size n n ss _ h1.txt (Blk.new w _ _) hn hnn hsz).mono fun e w' ⟨e1, e2, e3⟩ => ⟨e1, h1.wrote e3 e2⟩
theorem Fm.line (h : Fm w0 w rb tb r T) (h0 : T ≠ []) : Calls Tryd.prog 40 #[.pointer (some ⟨tb, 0, none⟩)] w fun e w' => e = .returned (.string (bs T)) ∧ Below w0.heap.size w0 w' :=
  (str_any tb tb T w h.txt h0).mono fun e w' ⟨e1, e2⟩ => ⟨e1, h.bel.trans (e2.1.mono h.from_)⟩
end
theorem kindL_len (k : Int) : (kindL k).length ≤ 11 := by
  unfold kindL
  split
  · have : ∀ j, j < 7 → (nm j).data.toList.length ≤ 11 := by decide
    exact this _ (by omega)
  · decide
theorem headL_len (r : Rc) : (headL r).length ≤ 12 := by
  have := kindL_len r.kd
  simp [headL]; omega
theorem elseL_len {r : Rc} (h : RcNums r) : (elseL r).length ≤ 100 := by
  have h1 := itoa_short h.ix
  have h2 := itoa_short h.dl
  unfold elseL
  split
  · simp [okS]; omega
  · simp [okS, byS]; omega
theorem tickL_len {r : Rc} (h : RcNums r) : (tickL r).length ≤ 100 := by
  have h1 := itoa_short h.bl
  have h2 := itoa_short h.ep
  have h3 := itoa_short h.vs
  simp [tickL, blkS, epoS, visS]; omega
theorem asgL_len {a : As} (h : FitsAs a) : (asgL a).length ≤ 100 := by
  have h1 := itoa_short (i64_of h.1)
  have h2 := itoa_short (i64_of h.2.2)
  have h3 : (letL a.cl).length = 1 := by unfold letL; split <;> rfl
  simp [asgL]; omega
theorem payL_len {p : Pm} (h : FitsPm p) : (payL p).length ≤ 100 := by
  have h1 := itoa_short (i64_of h.1)
  have h2 := u64_of h.2
  have h3 := dec_short p.am.toNat (by omega)
  have h4 : (markL p.fl).length ≤ 1 := by unfold markL; split <;> decide
  simp [payL]; omega
theorem asgsL_len {l : List As} (h : ∀ x ∈ l, FitsAs x) : (asgsL l).length ≤ l.length * 100 := by
  induction l with
  | nil => simp [asgsL]
  | cons x l ih =>
    have := ih (fun y hy => h y (by simp [hy]))
    have := asgL_len (h x (by simp))
    rw [asgsL_cons, List.length_append, List.length_cons]
    omega
theorem paysL_len {l : List Pm} (h : ∀ x ∈ l, FitsPm x) : (paysL l).length ≤ l.length * 100 := by
  induction l with
  | nil => simp [paysL]
  | cons x l ih =>
    have := ih (fun y hy => h y (by simp [hy]))
    have := payL_len (h x (by simp))
    rw [paysL_cons, List.length_append, List.length_cons]
    omega
def nameE (k : Int) : List UInt8 := if 1 ≤ k ∧ k ≤ 7 then (nm (k - 1).toNat).data.toList else []
theorem name_any (k : Int) (w : World) (h : NamesAt w) : Calls Tryd.prog 28 #[.int .i64 k] w fun e w' => e = .returned (.string (bs (nameE k))) ∧ w = w' := by
  unfold nameE
  by_cases hk : 1 ≤ k ∧ k ≤ 7
  · rw [if_pos hk]
    have := name_yes (k - 1).toNat (by omega) w h
    rwa [show (((k - 1).toNat : Nat) : Int) + 1 = k by omega] at this
  · rw [if_neg hk]
    exact name_no k (by omega) w
theorem or_any (k : Int) (pb : Nat) (w : World) (hp : Blk w pb 9 (strs [nameE k, malL])) : Calls Tryd.prog 27 #[.slice (some ⟨pb, 0, none⟩) 2 2] w fun e w' => e = .returned (.string (bs (kindL k))) ∧ w = w' := by
  by_cases hk : 1 ≤ k ∧ k ≤ 7
  · have e1 : nameE k = kindL k := by unfold nameE kindL; rw [if_pos hk, if_pos hk]
    rw [e1] at hp
    exact or_first pb 2 _ _ w hp (kindL_ne k)
  · have e1 : nameE k = [] := by unfold nameE; rw [if_neg hk]
    have e2 : kindL k = malL := by unfold kindL; rw [if_neg hk]
    rw [e1] at hp
    rw [e2]
    exact or_second pb 2 _ w hp (by decide)
end Go.Proofs.YtjbbcnepeffiaaaDoor
