/- The walk of RegistryGets. (mkwalk.py writes this text.) -/
import Derived.Test.YtcmlkcmoailhjaaWRegistryPlays
namespace Go.Proofs.Ytcmlkcmoailhjaa
open Go Go.RowKit Go.Deep
set_option linter.unusedVariables false
set_option linter.unusedSimpArgs false

theorem get_none (b cap : Nat) (S : Nat → Prop) (i : Int) (l : List Val) (w : World) (h : Reg w b S cap l) (ho : i < 0 ∨ l.length ≤ i) :
    Calls Try.prog 21 #[.pointer (some ⟨b, 0, none⟩), .int .i64 i] w fun e w' => e = .returned (.tuple #[.agg (cellsV val0), .bool false]) ∧ Below w.heap.size w w' :=
  (get_any b cap S i l w h).mono fun e w' ⟨hb, hh⟩ => by
    rcases hh with ⟨_, h1⟩ | ⟨k, v, rfl, h1, _⟩
    · exact ⟨h1, hb⟩
    · have := (List.getElem?_eq_some_iff.1 h1).1; omega
theorem get_some (b cap i : Nat) (S : Nat → Prop) (l : List Val) (v : Val) (w : World) (h : Reg w b S cap l) (ho : l[i]? = some v) :
    Calls Try.prog 21 #[.pointer (some ⟨b, 0, none⟩), .int .i64 i] w fun e w' => e = .returned (.tuple #[.agg (cellsV v), .bool true]) ∧ Below w.heap.size w w' :=
  (get_any b cap S i l w h).mono fun e w' ⟨hb, hh⟩ => by
    have := (List.getElem?_eq_some_iff.1 ho).1
    rcases hh with ⟨h0, _⟩ | ⟨k, v', hk, h1, h2⟩
    · omega
    · obtain rfl : i = k := by omega
      obtain rfl : v = v' := by rw [ho] at h1; injection h1
      exact ⟨h2, hb⟩
section
variable {P : Program} {ops : Array Oper} {rest : List Oper} {op : Oper} {a : Act} {w : World} {Q : Exit → Act → World → Prop}
theorem wpList_load_valG (hw : Region.wanted op (yielded ops a.tmps) = true) (ty : TypeId) (x : Operand) (ho : op.op = .load ty x)
    (b o : Nat) (hx : a.eval x = .pointer (some ⟨b, o, none⟩)) (v : Val) (d : TypeDesc) (hc : w.rangeAt b o v.row)
    (hu : P.underlying ty = some d) (hd : d.isRow = true) (hi : (P.info? ty).map (·.size) = some 7)
    (h : wpList P ops Q rest (a.put op.dst (.agg (cellsV v))) w) : wpList P ops Q (op :: rest) a w := by
  unfold wpList
  rw [if_pos hw]
  exact .inl (wp_load_mid ty x ho b o hx v.row d hc hu hd hi h)
theorem wpList_build_valG (hw : Region.wanted op (yielded ops a.tmps) = true) (t : TypeId) (parts : Array (Nat × Operand)) (ho : op.op = .build t parts) (v : Val)
    (hf : P.built t (parts.map fun (i, x) => (i, a.eval x)).toList = some (cellsV v)) (h : wpList P ops Q rest (a.put op.dst (.agg (cellsV v))) w) : wpList P ops Q (op :: rest) a w := by
  unfold wpList
  rw [if_pos hw]
  exact .inl (wp_build t parts ho (by rw [hf]; rfl) (by rw [hf]; exact h))
end
set_option maxHeartbeats 1600000 in
theorem walk_RegistryGets (a0 : Int) (a1 : Option Addr) (len1 cap1 : Nat) (a2 : Int) (w : World) (w0 : (Lit.int .u8 a0).wf = true) (w1 : IsOps w a1 len1 cap1) (w2 : (Lit.int .i64 a2).wf = true) :
    Calls Try.prog 5 #[.int .u8 a0, .slice a1 len1 cap1, .int .i64 a2] w fun e w' => e = .returned (.bool true) ∧ Below w.heap.size w w' := by
  have W1 := Lib.hid w1
  have W2 := Lib.hid w2
  have hl1 : len1 ≤ 9223372036854775807 := by have := w1.1; have := w1.2.1; unfold maxLen at this; omega
  obtain ⟨c0, c1⟩ := bounds_u8 w0
  obtain ⟨cap, hcap, hcap1, hcap2⟩ : ∃ cap : Nat, a0 % 20 + 1 = (cap : Int) ∧ 1 ≤ cap ∧ cap ≤ 4096 := ⟨(a0 % 20 + 1).toNat, by omega, by omega, by omega⟩
  have HN := Lib.hid (fun w => new_any cap w hcap1 hcap2)
  clear w0 w1 w2
  go_enter Try.func5, Try.ntmps5
  go_wp2_with fail
  refine (HN.out _).mono ?_
  rintro e w1 ⟨b, S, rfl, hr, hS, hb⟩
  have H1 : Hid (Held w1 w.heap.size b cap S none []) := Lib.hid ⟨hr, Lst.nil _ _ _, hS⟩
  clear hr hS
  by_cases h60 : (60 : Int) < (len1 : Int)
  · go_wp2_with fail
    refine (alive_any _).mono ?_
    rintro e w2 ⟨rfl, hb2⟩
    have HB := Lib.hid (hb.trans (hb2.mono hb.size))
    clear hb2
    go_wp2_with fail
    go_ret
    exact ⟨rfl, HB.out⟩
  · go_wp2_with fail
    go_loopw [9, 28] (fun s9 s28 wr => ∃ (k : Nat) (S : Nat → Prop) (a : Option Addr) (cp : Nat) (l : List Val), k ≤ len1 ∧ s28 = .int .i64 k ∧ s9 = .slice a l.length cp ∧ Hid (Held wr w.heap.size b cap S a l) ∧ Below w.heap.size w wr) (fun _ s28 _ => len1 - (intOf s28).toNat)
    case atStart => exact ⟨0, S, none, 0, [], by omega, rfl, rfl, H1, hb⟩
    case round =>
      obtain ⟨k, S, a, cp, l, hk, rfl, rfl, HR, BB⟩ := hrel
      by_cases hlt : k < len1
      · obtain ⟨g, off, x, rfl, HX, -, hf⟩ := W1.out.at BB hlt
        have HR' : Hid (Held (wr.alloc (.cells (opCells x) 31)) w.heap.size b cap S a l) := Lib.hid (HR.out.alloc _)
        have BB' : Hid (Below w.heap.size w (wr.alloc (.cells (opCells x) 31))) := Lib.hid (BB.alloc BB.size _)
        have HE : Hid (Blk (wr.alloc (.cells (opCells x) 31)) wr.heap.size 31 (opCells x)) := Lib.hid (Blk.new _ _ _)
        have HF := Lib.hid hf
        have hk1 : ¬ (k : Int) < 0 := by omega
        have hk2 : ¬ (len1 : Int) ≤ (k : Int) := by omega
        have hk3 : (k : Int) < (len1 : Int) := by omega
        clear HR BB hf
        go_wp2_with (first | (refine wpList_load_op rfl 31 _ rfl g (off + k * 8) rfl x _ HX.out Try.underlying31 rfl infoO ?_) | (refine wpList_store_row rfl _ _ _ rfl wr.heap.size (opCells x) rfl rfl 31 _ (heap_alloc_new wr _) infoO rfl (opCells_one x) ?_; rw [World.setRow_alloc_new]) | (refine wpList_load_op rfl 31 _ rfl wr.heap.size 0 rfl x _ HE.out.op Try.underlying31 rfl infoO ?_))
        clear HE HX
        generalize wr.alloc (.cells (opCells x) 31) = W at *
        refine (do_held w.heap.size b cap cp S a x l w W HR'.out HF.out BB'.out BB'.out.size).mono ?_
        rintro e w2 ⟨a2', cp2, l2, S2, rfl, R2, B2⟩
        clear HR' BB' HF
        go_wp2_with fail
        go_roundw
        case rel => exact ⟨k + 1, S2, a2', cp2, l2, by omega, by go_num, rfl, R2, B2⟩
        case measure => simp [intOf]; omega
      · have hlt' : ¬ (k : Int) < (len1 : Int) := by omega
        obtain ⟨f1, f2, f3, f4, f5⟩ := HR.out.1.fits
        have HBB := Lib.hid BB
        clear f5 BB
        by_cases hi : a2 < 0 ∨ (l.length : Int) ≤ a2
        · have HG := Lib.hid (get_none b cap S a2 l wr HR.out.1 hi)
          go_wp2_with fail
          refine HG.out.mono ?_
          rintro e w3 ⟨rfl, hb3⟩
          have R3 := Lib.hid ((HR.out.below hb3).alloc (.cells (cellsV val0) 29))
          have B3 : Hid (Below w.heap.size w (w3.alloc (.cells (cellsV val0) 29))) := Lib.hid ((HBB.out.trans (hb3.mono HBB.out.size)).alloc (Nat.le_trans HBB.out.size hb3.size) _)
          have HE : Hid (Blk (w3.alloc (.cells (cellsV val0) 29)) w3.heap.size 29 (cellsV val0)) := Lib.hid (Blk.new _ _ _)
          clear hb3 HG
          by_cases hneg : a2 < 0
          · clear hi
            go_wp2_with (refine wpList_store_row rfl _ _ _ rfl w3.heap.size (cellsV val0) rfl rfl 29 _ (heap_alloc_new w3 _) infoV rfl (cellsV_one val0) ?_; rw [World.setRow_alloc_new])
            generalize w3.alloc (.cells (cellsV val0) 29) = W3 at *
            refine (alive_any _).mono ?_
            rintro e w4 ⟨rfl, hb4⟩
            have HE4 := Lib.hid (HE.out.below hb4 HE.out.lt)
            have B4 := Lib.hid (B3.out.trans (hb4.mono B3.out.size))
            clear hb4 HE B3
            go_wp2_with (first | (refine wpList_valG (.bool true) (by kernel_rfl) (exec_eqv rfl rfl (by simp)) ?_) | (refine wpList_load_valG (by kernel_rfl) 29 _ rfl w3.heap.size 0 rfl val0 _ HE4.out.range Try.underlying29 rfl infoV ?_) | (refine wpList_build_valG (by kernel_rfl) 29 _ rfl val0 (by kernel_rfl) ?_))
            go_ret
            exact ⟨rfl, B4.out⟩
          · have hge : (l.length : Int) ≤ a2 := by omega
            have hneg' : 0 ≤ a2 := by omega
            clear hi
            go_wp2_with (refine wpList_store_row rfl _ _ _ rfl w3.heap.size (cellsV val0) rfl rfl 29 _ (heap_alloc_new w3 _) infoV rfl (cellsV_one val0) ?_; rw [World.setRow_alloc_new])
            generalize w3.alloc (.cells (cellsV val0) 29) = W3 at *
            refine (alive_any _).mono ?_
            rintro e w4 ⟨rfl, hb4⟩
            have HE4 := Lib.hid (HE.out.below hb4 HE.out.lt)
            have B4 := Lib.hid (B3.out.trans (hb4.mono B3.out.size))
            clear hb4 HE B3
            go_wp2_with (first | (refine wpList_valG (.bool true) (by kernel_rfl) (exec_eqv rfl rfl (by simp)) ?_) | (refine wpList_load_valG (by kernel_rfl) 29 _ rfl w3.heap.size 0 rfl val0 _ HE4.out.range Try.underlying29 rfl infoV ?_) | (refine wpList_build_valG (by kernel_rfl) 29 _ rfl val0 (by kernel_rfl) ?_))
            go_ret
            exact ⟨rfl, B4.out⟩
        · obtain ⟨i, rfl⟩ : ∃ i : Nat, a2 = i := ⟨a2.toNat, by omega⟩
          have hil : i < l.length := by omega
          obtain ⟨v, hv⟩ : ∃ v, l[i]? = some v := ⟨_, List.getElem?_eq_getElem hil⟩
          have HG := Lib.hid (get_some b cap i S l v wr HR.out.1 hv)
          have HV := Lib.hid hv
          have hi1 : ¬ (i : Int) < 0 := by omega
          have hi2 : ¬ (l.length : Int) ≤ (i : Int) := by omega
          have hi3 : (i : Int) < (l.length : Int) := by omega
          clear hi hv
          go_wp2_with fail
          refine HG.out.mono ?_
          rintro e w3 ⟨rfl, hb3⟩
          have R3 := Lib.hid ((HR.out.below hb3).alloc (.cells (cellsV v) 29))
          have B3 : Hid (Below w.heap.size w (w3.alloc (.cells (cellsV v) 29))) := Lib.hid ((HBB.out.trans (hb3.mono HBB.out.size)).alloc (Nat.le_trans HBB.out.size hb3.size) _)
          have HE : Hid (Blk (w3.alloc (.cells (cellsV v) 29)) w3.heap.size 29 (cellsV v)) := Lib.hid (Blk.new _ _ _)
          clear hb3 HG
          go_wp2_with (refine wpList_store_row rfl _ _ _ rfl w3.heap.size (cellsV v) rfl rfl 29 _ (heap_alloc_new w3 _) infoV rfl (cellsV_one v) ?_; rw [World.setRow_alloc_new])
          generalize w3.alloc (.cells (cellsV v) 29) = W3 at *
          obtain ⟨g, off, rfl, hr⟩ := R3.out.2.1.at HV.out
          have HRg := Lib.hid hr
          clear hr
          refine wp_region_class (fun w' => Blk w' w3.heap.size 29 (cellsV v) ∧ w'.rangeAt g (off + i * 7) v.row ∧ Below w.heap.size w w') (by kernel_rfl) (by kernel_rfl) ⟨Blk.drew HE.out, HRg.out, B3.out.drew⟩ ?_
          refine q_call (.bool true) #[] (by kernel_rfl) (by kernel_rfl) Try.call10 (fun w' h => (alive_any w').mono fun e w'' ⟨he, hb⟩ => ⟨he, Blk.below h.1 hb h.1.lt, fun j u hu => (hb.cell (p := ⟨g, off + i * 7 + j, none⟩) (cell_lt (h.2.1 j u hu))).trans (h.2.1 j u hu), h.2.2.trans (hb.mono h.2.2.size)⟩) ?_
          simp only [Act.put, List.setIfInBounds_toArray, List.set_cons_zero, List.set_cons_succ]
          iterate 4 (go_big_quiet_step ((intros; rfl)))
          refine q_load_val 29 _ w3.heap.size 0 v _ (by kernel_rfl) rfl rfl (fun w h => h.1.range) Try.underlying29 rfl infoV ?_
          simp only [Act.put, List.setIfInBounds_toArray, List.set_cons_zero, List.set_cons_succ]
          iterate 3 (go_big_quiet_step ((intros; rfl)))
          refine q_load_val 29 _ g (off + i * 7) v _ (by kernel_rfl) rfl rfl (fun w h => h.2.1) Try.underlying29 rfl infoV ?_
          simp only [Act.put, List.setIfInBounds_toArray, List.set_cons_zero, List.set_cons_succ]
          refine q_val (.bool true) (by kernel_rfl) (fun w => exec_eqv rfl rfl (by simp)) ?_
          simp only [Act.put, List.setIfInBounds_toArray, List.set_cons_zero, List.set_cons_succ]
          iterate 2 (go_big_quiet_step ((intros; rfl)))
          refine wpQuiet_nil ?_
          rintro w4 ⟨-, -, B4⟩
          have HB4 := Lib.hid B4
          clear B4
          go_wp2_with fail
          go_ret
          exact ⟨rfl, HB4.out⟩
end Go.Proofs.Ytcmlkcmoailhjaa
