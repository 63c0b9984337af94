/- The chapter's example holds. -/
import Derived.Test.YtfepfcalfhegfaaDoorEnc
import Derived.Test.YtfepfcalfhegfaaDoorDec
import Derived.Test.YtfepfcalfhegfaaDoorRefE
import Derived.Test.YtfepfcalfhegfaaDoorNames
namespace Go.Proofs.YtfepfcalfhegfaaDoor
open Go Go.RowKit
set_option linter.unusedVariables false
set_option linter.unusedSimpArgs false
set_option maxRecDepth 100000

theorem wpList_build_OqG {P : Program} {ops : Array Oper} {rest : List Oper} {op : Oper} {a : Act} {w : World} {Q : Exit → Act → World → Prop} (t : TypeId) (parts : Array (Nat × Operand)) (hw : Region.wanted op (yielded ops a.tmps) = true) (ho : op.op = .build t parts) (v : Oq)
    (hf : P.built t (parts.map fun (i, x) => (i, a.eval x)).toList = some (cellsOq v)) (h : wpList P ops Q rest (a.put op.dst (.agg (cellsOq v))) w) : wpList P ops Q (op :: rest) a w := by
  refine wpList_valG (.agg (cellsOq v)) hw ?_ h
  have e := run_build (P := P) w t (parts.map fun (i, x) => (i, a.eval x)) _ hf
  unfold execOp
  rw [ho]
  show ((Instr.build t (parts.map fun (i, x) => (i, a.eval x))) >>= fun r => pure (Next.value r)).run P w = _
  rw [Sem.run_bind, e]
  rfl
theorem bys_cells (w : World) (S : Nat → Prop) (L : List Int) (hL : AllB L) (hS : ¬ S w.heap.size) : Bys (w.alloc (.cells (L.map (Value.int .u8)).toArray 5)) S (some ⟨w.heap.size, 0, none⟩) L :=
  ⟨hL, fun _ => ⟨_, _, rfl, hS, by simp, fun j hj => by
    rw [Nat.zero_add, (Blk.new w 5 _).cell, List.getElem?_toArray, List.getElem?_map, List.getD_eq_getElem?_getD, List.getElem?_eq_getElem hj]
    rfl⟩⟩
theorem live_enc (w : World) : Calls Tryd.prog 9 #[.agg (cellsOq ⟨5, 1, 258, 0⟩)] w fun e w' => ∃ a cp, e = .returned (.tuple #[.slice a 5 cp, .bool true]) ∧ Bys w' (fun _ => False) a [5, 0, 1, 1, 2] ∧ Below w.heap.size w w' := by
  have h := encode_yes ⟨5, 1, 258, 0⟩ (by decide) (by unfold FitsOq; decide) w
  have e : encL ⟨5, 1, 258, 0⟩ = [5, 0, 1, 1, 2] := by decide +kernel
  rw [e] at h
  refine h.mono ?_
  rintro o w' ⟨v, rfl, h1, h2⟩
  obtain ⟨a, cp, rfl, _, _, _, hb⟩ := h1.bys (S := fun _ => False) (fun x hx => by simp at hx; omega) (fun _ _ h => h)
  exact ⟨a, cp, rfl, hb, h2⟩
theorem live_dec (w : World) (a : Option Addr) (h : Bys w (fun _ => False) a [9, 7]) : Calls Tryd.prog 16 #[.slice a 2 2, .int .i64 0] w fun e w' => e = .returned (.tuple #[.agg (cellsOq oqZ), .int .i64 1, .bool true]) ∧ Below w.heap.size w w' :=
  dec_any [9, 7] a 2 2 0 rfl (by omega) (by omega) (by omega) w h
theorem live_name (w : World) (h : NamesAt w) : Calls Tryd.prog 22 #[.int .i64 7] w fun e w' => e = .returned (.string (nm 6)) ∧ w = w' := name_yes 6 (by omega) w h
set_option maxHeartbeats 1600000 in
theorem alive_any (w : World) (h : NamesAt w) : Calls Tryd.prog 12 #[] w fun e w' => e = .returned (.bool true) ∧ Below w.heap.size w w' := by
  have HN := Lib.hid h
  have hn : (nm 6).toList == [116, 105, 99, 107] := by rw [ByteArray.toList_eq]; decide
  clear h
  go_enter Tryd.func12, Tryd.ntmps12
  go_wp2_with (refine wpList_build_Oq rfl 24 _ rfl ⟨5, 1, 258, 0⟩ (by kernel_rfl) ?_)
  refine (live_enc w).mono ?_
  rintro e w1 ⟨a, cp, rfl, hb, b1⟩
  have Y1 := Lib.hid hb
  have B1 := Lib.hid b1
  have Y2 := Lib.hid (bys_cells w1 (fun _ => False) [9, 7] (fun x hx => by simp at hx; omega) (fun h => h))
  have B2 := Lib.hid (B1.out.alloc B1.out.size (.cells #[.int .u8 9, .int .u8 7] 5))
  have Y3 : Hid (Bys (w1.alloc (.cells #[.int .u8 9, .int .u8 7] 5)) (fun _ => False) a [5, 0, 1, 1, 2]) := Lib.hid (Y1.out.below ((Below.refl _ _).alloc (Nat.le_refl _) _))
  clear hb b1
  go_wp2_with (fail)
  refine (live_dec _ _ Y2.out).mono ?_
  rintro e w3 ⟨rfl, b3⟩
  have B3 := Lib.hid (B2.out.trans (b3.mono B2.out.size))
  have Y4 := Lib.hid (Y3.out.below b3)
  clear b3 Y1 Y2 Y3
  go_upto_region 3 with (refine wpList_store_row rfl _ _ _ rfl w3.heap.size (cellsOq oqZ) rfl rfl 24 _ (heap_alloc_new w3 _) infoOq rfl (cellsOq_one _) ?_; rw [World.setRow_alloc_new])
  have B4 := Lib.hid (B3.out.alloc B3.out.size (.cells (cellsOq oqZ) 24))
  have K4 : Hid (Blk (w3.alloc (.cells (cellsOq oqZ) 24)) w3.heap.size 24 (cellsOq oqZ)) := Lib.hid (Blk.new w3 _ _)
  have Y5 := Lib.hid (Y4.out.below ((Below.refl _ _).alloc (Nat.le_refl _) (.cells (cellsOq oqZ) 24)))
  generalize w3.alloc (.cells (cellsOq oqZ) 24) = w4 at *
  generalize w3.heap.size = G at *
  have b5 : Below w4.heap.size w4 (w4.alloc (.cells #[.int .u8 5, .int .u8 0, .int .u8 1, .int .u8 1, .int .u8 2] 5)) := (Below.refl _ _).alloc (Nat.le_refl _) _
  have Y6 := Lib.hid (Y5.out.below b5)
  have Y7 := Lib.hid (bys_cells w4 (fun _ => False) [5, 0, 1, 1, 2] (fun x hx => by simp at hx; omega) (fun h => h))
  have K5 := Lib.hid (K4.out.below b5 K4.out.lt)
  have B5 := Lib.hid (B4.out.trans (b5.mono B4.out.size))
  clear b5 B4 K4 Y5 Y4
  go_wp2_with (fail)
  refine (equal_bytes _ _ _ _ 5 _ _ _ _ Y6.out Y7.out rfl (by omega)).mono ?_
  rintro e w6 ⟨rfl, q, hq⟩
  have B6 : Hid (Below w.heap.size w w6) := Lib.hid (by rw [hq]; exact below_drewN B5.out q)
  have K6 : Hid (Blk w6 G 24 (cellsOq oqZ)) := Lib.hid (by rw [hq]; exact K5.out.drewN q)
  have HN6 := Lib.hid (live_name w6 (HN.out.below (B6.out)))
  clear hq B5 K5 Y6 Y7
  go_wp2_with (first | (refine wpList_load_rowG rfl 24 _ rfl G rfl 24 (cellsOq oqZ) (0, 0) _ K6.out Tryd.underlying24 rfl infoOq ?_) | (refine wpList_build_OqG 24 _ rfl rfl oqZ (by kernel_rfl) ?_) | (refine wpList_valG (.bool true) rfl (exec_eqOq (p := oqZ) (q := oqZ) rfl rfl (by decide)) ?_))
  refine HN6.out.mono ?_
  rintro e w7 ⟨rfl, rfl⟩
  go_wp2
  go_ret
  exact ⟨rfl, B6.out⟩
end Go.Proofs.YtfepfcalfhegfaaDoor
