/- Decode. -/
import Derived.Test.YtniehmlklbggdaaDoorValid
import Derived.Test.YtniehmlklbggdaaDoorRes
import Derived.Test.YtniehmlklbggdaaDoorFuncs
namespace Go.Proofs.YtniehmlklbggdaaDoor
open Go Go.RowKit
set_option linter.unusedVariables false
set_option linter.unusedSimpArgs false
set_option maxRecDepth 100000

theorem dec_ret {Q : Ending → World → Prop} {c : Act} {w : World} {g : Nat} {o : Oq} {n : Int} {b : Bool} (h4 : c.tmps.getD 4 undef = .pointer (some ⟨g, 0, none⟩)) (h5 : c.tmps.getD 5 undef = .int .i64 n) (h6 : c.tmps.getD 6 undef = .bool b) (hd : c.defers = []) (hg : Blk w g 35 (cellsOq o))
    (h : Q (.returned (.tuple #[.agg (cellsOq o), .int .i64 n, .bool b])) w) : bodyPost Tryd.prog Tryd.f52 Q .ret c w := by
  refine bodyPost_ret (v := .tuple #[.agg (cellsOq o), .int .i64 n, .bool b]) ?_ hd h
  have := results_cell_row3 (P := Tryd.prog) (fn := Tryd.f52) rfl c.tmps w g 35 (cellsOq o) (0, 0) _ h4 hg Tryd.underlying35 rfl infoOq
  rw [h5, h6] at this
  exact this
theorem dec_out (a : Option Addr) (len cap : Nat) (at_ : Int) (h : at_ < 0 ∨ (len : Int) ≤ at_) (hl : len ≤ 9223372036854775807) (w : World) :
    Calls Tryd.prog 52 #[.slice a len cap, .int .i64 at_] w fun e w' => e = .returned (.tuple #[.agg (cellsOq oqZ), .int .i64 0, .bool false]) ∧ Below w.heap.size w w' := by
  have B0 : Hid (Below w.heap.size w (w.alloc (.cells (cellsOq oqZ) 35))) := Lib.hid ((Below.refl _ _).alloc (Nat.le_refl _) _)
  by_cases h0 : at_ < 0
  · go_enter Tryd.func52, Tryd.ntmps52
    go_wp2
    exact dec_ret rfl rfl rfl rfl (Blk.new w _ (cellsOq oqZ)) ⟨rfl, B0.out⟩
  · have h1 : (len : Int) ≤ at_ := by omega
    have hd0 : decide (at_ < 0) = false := by simpa using h0
    go_enter Tryd.func52, Tryd.ntmps52
    go_wp2
    exact dec_ret rfl rfl rfl rfl (Blk.new w _ (cellsOq oqZ)) ⟨rfl, B0.out⟩
/-- In the midst of Decode: the result's box, the reader's cell with T left to read. -/
structure Rdr (w0 w : World) (T : List Int) : Prop where
  below : Below w0.heap.size w0 w
  big : w0.heap.size + 2 ≤ w.heap.size
  box : Blk w w0.heap.size 35 (cellsOq oqZ)
  cell : ∃ blk off c : Nat, Blk w (w0.heap.size + 1) 22 #[.slice (some ⟨blk, off, none⟩) T.length c] ∧ T.length ≤ c ∧ c ≤ 9223372036854775807 ∧ Bys w (fun i => w0.heap.size ≤ i) (some ⟨blk, off, none⟩) T
theorem Rdr.up {w0 w w' : World} {T : List Int} (h : Rdr w0 w T) (hb : Below w.heap.size w w') : Rdr w0 w' T := by
  obtain ⟨blk, off, c, h1, h2, h3, h4⟩ := h.cell
  exact ⟨h.below.trans (hb.mono h.below.size), Nat.le_trans h.big hb.size, h.box.below hb h.box.lt, blk, off, c, h1.below hb h1.lt, h2, h3, h4.below hb⟩
theorem Rdr.row {w0 w : World} {T : List Int} (h : Rdr w0 w T) {g : Nat} (hg : w0.heap.size + 2 ≤ g) (cs : Array Value) : Rdr w0 (w.setRow g cs) T := by
  obtain ⟨blk, off, c, h1, h2, h3, h4⟩ := h.cell
  exact ⟨below_setRow h.below (by omega) _, by have := h.big; simpa using this, h.box.setRow_far (by omega) _, blk, off, c, h1.setRow_far (by omega) _, h2, h3,
    h4.kept (Kept.setRow (S := fun i => i = g) (Kept.refl _ _) (.inl rfl) _) fun i _ e => by omega⟩
theorem Rdr.read {w0 w : World} {T : List Int} (h : Rdr w0 w T) (n : Nat) (hn : n ≤ T.length) (h8 : n ≤ 8) :
    Calls Tryd.prog 85 #[.int .i64 n, .pointer (some ⟨w0.heap.size + 1, 0, none⟩)] w fun e w' => e = .returned (.int .u64 (valL (T.take n))) ∧ Rdr w0 w' (T.drop n) ∧ w.grownBy w' (some (w0.heap.size + 1)) := by
  obtain ⟨blk, off, c, h1, h2, h3, h4⟩ := h.cell
  refine (read_any (fun i => w0.heap.size ≤ i) (w0.heap.size + 1) blk off (Nat.le_succ _) T T.length c n w rfl h1 h2 h3 hn h8 h4).mono ?_
  rintro e w' ⟨rfl, off', hw, hb⟩
  have g : w.grownBy w' (some (w0.heap.size + 1)) := by rw [hw]; exact only_setCell (only_refl _ _) (.inl rfl) _
  have hr := h.below.grown g h.below.size (fun i hi => by injection hi with hi; omega)
  refine ⟨rfl, ⟨hr, Nat.le_trans h.big g.size, h.box.grown g (by simp), blk, off', c - n, ?_, by rw [List.length_drop]; omega, by omega, hb⟩, g⟩
  rw [hw, List.length_drop]
  have := h1.set_ 0 (.slice (some ⟨blk, off', none⟩) (T.length - n) (c - n))
  simpa using this
theorem OpsAt.any {w : World} {b : Nat} {k : Int} (h : OpsAt w b) (hwf : (Lit.int .i64 k).wf = true) : ∃ a n ok, (Instr.lookup 81 (.map (some b)) (.int .i64 k) true).run Tryd.prog w = .ok (.tuple #[.slice a n n, .bool ok]) w ∧ ((ok = true ∧ ∃ l, ods k = some l ∧ l.length = n ∧ OdL w a l) ∨ (ok = false ∧ ods k = none)) := by
  rcases ho : ods k with _ | l
  · exact ⟨none, 0, false, h.no hwf ho, .inr ⟨rfl, rfl⟩⟩
  · obtain ⟨⟨a, hl, hr⟩, _⟩ := h.yes ho
    exact ⟨a, l.length, true, hr, .inl ⟨rfl, l, rfl, rfl, hl⟩⟩
theorem val_one {L : List Int} {i : Nat} (hi : i < L.length) : valL ((L.drop i).take 1) = L.getD i 0 := by
  rw [List.drop_eq_getElem_cons hi, List.getD_eq_getElem?_getD, List.getElem?_eq_getElem hi, List.take_succ_cons, List.take_zero]
  show 256 * 0 + L[i] = L[i]
  omega
theorem fill_drop {l : List Od} {j : Nat} {d : Od} (h : l[j]? = some d) (T : List Int) (q : Oq) : fillF (l.drop j) T q = fillF (l.drop (j + 1)) (T.drop d.sz) (d.set q (valL (T.take d.sz))) := by
  obtain ⟨hj, rfl⟩ := List.getElem?_eq_some_iff.1 h
  rw [List.drop_eq_getElem_cons hj, fillF]
/-- Operands lie in no block of other things. -/
theorem OdL.off2 {w : World} {a : Option Addr} {l : List Od} {g g' : Nat} {t t' : TypeId} {o : Oq} {v : Value} (h : OdL w a l) (hg : Blk w g t (cellsOq o)) (hg' : Blk w g' t' #[v]) : LstR Od.row 3 w (fun i => i = g ∨ i = g') a l := fun h0 => by
  obtain ⟨b, off, e1, _, e3, e4⟩ := h h0
  have h1 := e4 0 _ (List.getElem?_eq_getElem h0) 1 _ rfl
  refine ⟨b, off, e1, fun hor => ?_, e3, e4⟩
  rcases hor with rfl | rfl
  · rw [hg.cell] at h1
    have hm := List.mem_of_getElem? (show o.row[off + 0 * 3 + 1]? = some _ by simpa [cellsOq] using h1)
    simp [Oq.row] at hm
  · rw [hg'.cell] at h1
    simp at h1
set_option maxHeartbeats 3200000 in
theorem dec_any (L : List Int) (a : Option Addr) (len cap at_ : Nat) (hl : L.length = len) (hcap : len ≤ cap) (hm : cap ≤ 9223372036854775807) (hat : at_ < len) (w : World) (hb : Bys w (fun _ => False) a L) :
    Calls Tryd.prog 52 #[.slice a len cap, .int .i64 at_] w fun e w' => e = .returned (.tuple #[.agg (cellsOq (decS L at_).1), .int .i64 (decS L at_).2, .bool true]) ∧ Below w.heap.size w w' := by
  obtain ⟨blk, off, rfl, _, hblk, _⟩ := hb.2 (by omega)
  have HL := Lib.hid hl
  have HK := Lib.hid (hb.bd (j := at_) (by omega))
  have B0 : Hid (Below w.heap.size w (w.alloc (.cells (cellsOq oqZ) 35))) := Lib.hid ((Below.refl _ _).alloc (Nat.le_refl _) _)
  have HZ : Hid (Blk (w.alloc (.cells (cellsOq oqZ) 35)) w.heap.size 35 (cellsOq oqZ)) := Lib.hid (Blk.new w _ _)
  have hb1 : Bys w (fun i => w.heap.size ≤ i) (some ⟨blk, off, none⟩) L := ⟨hb.1, fun h0 => by
    obtain ⟨b', off', e, _, h2, h3⟩ := hb.2 h0
    exact ⟨b', off', e, by omega, h2, h3⟩⟩
  have HB0 := Lib.hid ((hb1.below ((Below.refl _ _).alloc (Nat.le_refl _) (.cells (cellsOq oqZ) 35))).drop (b := blk) (off := off) at_ (fun _ => rfl))
  have e0 : (w.alloc (.cells (cellsOq oqZ) 35)).heap.size = w.heap.size + 1 := by simp
  have E0 := Lib.hid e0
  have hx0 : decide ((at_ : Int) < 0) = false := by simp
  have hx : ¬ (len : Int) ≤ (at_ : Int) := by omega
  have hx2 : decide (len ≤ at_) = false := by simpa using hat
  have hx3 : ¬ cap = at_ := by omega
  have hx4 : at_ ≤ len := by omega
  clear hb hb1 hl e0 hblk
  go_enter Tryd.func52, Tryd.ntmps52
  go_upto_region 3 with (fail)
  have EZ : #[Value.int .i64 0, .int .i64 0, .int .i64 0, .int .u64 0] = cellsOq oqZ := rfl
  rw [EZ]
  clear EZ
  generalize w.alloc (.cells (cellsOq oqZ) 35) = W at *
  go_wp2_with (fail)
  refine (reader_any (some ⟨blk, off + at_, none⟩) (len - at_) (cap - at_) W).mono ?_
  rintro e w1 ⟨rfl, hw1⟩
  have G1 : Hid (Blk w1 W.heap.size 22 #[.slice (some ⟨blk, off + at_, none⟩) (len - at_) (cap - at_)]) := Lib.hid (by rw [hw1]; exact Blk.new W _ _)
  have b1 : Below W.heap.size W w1 := by rw [hw1]; exact (Below.refl _ _).alloc (Nat.le_refl _) _
  have B1 := Lib.hid (B0.out.trans (b1.mono B0.out.size))
  have Z1 := Lib.hid (HZ.out.below b1 HZ.out.lt)
  have HB1 := Lib.hid (HB0.out.below b1)
  have S1 : Hid (w.heap.size + 2 ≤ w1.heap.size) := Lib.hid (by rw [hw1]; simp [E0.out])
  have HLD : Hid ((L.drop at_).length = len - at_) := Lib.hid (by rw [List.length_drop, HL.out])
  clear hw1 b1 HB0 HZ B0
  rw [E0.out] at G1 ⊢
  clear E0
  have R1 : Hid (Rdr w w1 (L.drop at_)) := Lib.hid ⟨B1.out, S1.out, Z1.out, _, _, cap - at_, by rw [HLD.out]; exact G1.out, by rw [HLD.out]; omega, by omega, HB1.out⟩
  clear G1 B1 Z1 HB1 S1
  have HR := Lib.hid (R1.out.read 1 (by rw [HLD.out]; omega) (by omega))
  rw [val_one (by rw [HL.out]; exact hat), List.drop_drop] at HR
  clear R1
  have HDK : Hid (ods (L.getD at_ 0) = none → (decS L at_).1 = oqZ ∧ (decS L at_).2 = (at_ : Int) + 1) := Lib.hid fun h => by rw [decS_none h]; exact ⟨rfl, rfl⟩
  have HDS : Hid (∀ l, ods (L.getD at_ 0) = some l → szs l + 1 ≤ len - at_ → (decS L at_).1 = fillF l (L.drop (at_ + 1)) ⟨L.getD at_ 0, 0, 0, 0⟩ ∧ (decS L at_).2 = ((at_ + (szs l + 1) : Nat) : Int)) := Lib.hid fun l h h2 => by rw [decS_some h (by rw [HL.out]; exact h2)]; exact ⟨rfl, rfl⟩
  have HDC : Hid (∀ l, ods (L.getD at_ 0) = some l → ¬ szs l + 1 ≤ len - at_ → (decS L at_).1 = oqZ ∧ (decS L at_).2 = (len : Int)) := Lib.hid fun l h h2 => by rw [decS_short h (by rw [HL.out]; exact h2)]; exact ⟨rfl, by rw [HL.out]⟩
  obtain ⟨D1, hD1⟩ : ∃ x, (decS L at_).1 = x := ⟨_, rfl⟩
  obtain ⟨D2, hD2⟩ : ∃ x, (decS L at_).2 = x := ⟨_, rfl⟩
  rw [hD1, hD2] at HDK HDS HDC
  have HD := Lib.hid (And.intro hD1 hD2)
  clear hD1 hD2
  have hkb := HK.out
  generalize L.getD at_ 0 = k at *
  have hwk : IntKind.i64.wrap k = k := by simp [IntKind.wrap, IntKind.bits, IntKind.signed]; omega
  have HWF : Hid ((Lit.int .i64 k).wf = true) := Lib.hid (WalkArith.wf_i64 (by omega))
  go_wp2_with (fail)
  refine HR.out.mono ?_
  rintro e w2 ⟨rfl, r2, g2⟩
  have R2 := Lib.hid r2
  clear r2 g2 HR hkb
  go_upto_region 5 with (first | (refine wpList_build_Oq rfl 35 _ rfl ⟨k, 0, 0, 0⟩ (by kernel_rfl) ?_) | (refine wpList_store_row rfl _ _ _ rfl w2.heap.size (cellsOq ⟨k, 0, 0, 0⟩) rfl rfl 35 _ (heap_alloc_new w2 _) infoOq rfl (cellsOq_one _) ?_; rw [World.setRow_alloc_new]))
  have K3 : Hid (Blk (w2.alloc (.cells (cellsOq ⟨k, 0, 0, 0⟩) 35)) w2.heap.size 35 (cellsOq ⟨k, 0, 0, 0⟩)) := Lib.hid (Blk.new w2 _ _)
  have R3 := Lib.hid (R2.out.up ((Below.refl _ _).alloc (Nat.le_refl _) (.cells (cellsOq ⟨k, 0, 0, 0⟩) 35)))
  have ZO : Hid (w.heap.size + 2 ≤ w2.heap.size) := Lib.hid R2.out.big
  clear R2
  simp only [Act.put]
  generalize w2.alloc (.cells (cellsOq ⟨k, 0, 0, 0⟩) 35) = W3 at *
  generalize w2.heap.size = O at *
  refine wp_region_first (fun w' => Blk w' O 35 (cellsOq ⟨k, 0, 0, 0⟩)) 8 6 [1, 2] (by kernel_rfl) (by kernel_rfl) K3.out ?_
  simp only [List.filterMap_cons, List.filterMap_nil, List.getElem?_toArray, List.getElem?_cons_zero, List.getElem?_cons_succ]
  show wpQuiet _ _ _ _ [_, _] _
  iterate 1 (go_big_quiet_step ((intros; rfl)))
  refine q_cell 3 _ _ (.int .i64 k) rfl rfl rfl (fun w h => by simp [go_sem, h]) (fun w h => Blk.cell h 0) ?_
  simp only [Act.put, List.setIfInBounds_toArray, List.set_cons_zero, List.set_cons_succ]
  refine wpQuiet_nil ?_
  refine headF_one (i := 0) (by kernel_rfl) (by omega) ?_
  refine wpOp_at rfl rfl (wp_call_at rfl #[] (by kernel_rfl) Tryd.call55 ((operands_any W3.drew).mono ?_))
  rintro e w4 ⟨b, rfl, hT, _, hb⟩
  have D4 : Hid (Below W3.heap.size W3 w4) := Lib.hid ((Below.refl _ W3).drew.trans hb)
  have HT := Lib.hid hT
  have K4 := Lib.hid (K3.out.below D4.out K3.out.lt)
  have R4 := Lib.hid (R3.out.up D4.out)
  have ZW : Hid (O < W3.heap.size) := Lib.hid K3.out.lt
  clear hb hT
  refine ⟨_, rfl, K4.out, ?_⟩
  obtain ⟨a, n, ok, hr, hcase⟩ := HT.out.any HWF.out
  have HC := Lib.hid hcase
  clear hcase
  refine headF_one (i := 3) (by kernel_rfl) (by omega) ?_
  simp only [Act.put, List.getElem_toArray, List.getElem_cons_zero, List.getElem_cons_succ, List.setIfInBounds_toArray, List.set_cons_zero, List.set_cons_succ]
  refine wpOp_at rfl rfl (wp_lookup_at rfl _ _ _ rfl rfl hr ⟨K4.out, ?_⟩)
  simp only [Act.put, List.getElem_toArray, List.getElem_cons_zero, List.getElem_cons_succ, List.setIfInBounds_toArray, List.set_cons_zero, List.set_cons_succ]
  refine headF_takes (fun w' => Blk w' O 35 (cellsOq ⟨k, 0, 0, 0⟩)) (m := 4) (f := 0) [4, 5, 6, 7] (fun _ h => h) (by kernel_rfl) K4.out ?_
  simp only [List.filterMap_cons, List.filterMap_nil, List.getElem?_toArray, List.getElem?_cons_zero, List.getElem?_cons_succ]
  show wpQuiet _ _ _ _ [_, _, _, _] _
  iterate 4 (go_big_quiet_step ((intros; rfl)))
  refine wpQuiet_nil ?_
  show Region.seqB _ _ _ _ _ = true ∧ _
  refine ⟨by kernel_rfl, ?_⟩
  simp only [Act.put, List.getElem_toArray, List.getElem_cons_zero, List.getElem_cons_succ, List.setIfInBounds_toArray, List.set_cons_zero, List.set_cons_succ, List.drop_succ_cons, List.drop_zero]
  clear hr K3 R3 HT
  go_wp2_with (fail)
  refine NoPanic.normal ?_
  rcases HC.out with ⟨rfl, l, hol, hln, hL⟩ | ⟨rfl, hno⟩
  · have HOL := Lib.hid hol
    have HLN := Lib.hid hln
    have HI := Lib.hid (ods_some hol)
    have HLL := Lib.hid hL
    have hn2 : n ≤ 2 := by rw [← hln]; exact HI.out.2.2.2
    clear hol hln hL HC HDK
    go_wp2_with (fail)
    refine (length_any l n HLN.out HI.out.2.2.1 a n w4 HLL.out hn2).mono ?_
    rintro e w5 ⟨rfl, b5⟩
    have K5 := Lib.hid (K4.out.below b5 K4.out.lt)
    have R5 := Lib.hid (R4.out.up b5)
    have L5 := Lib.hid (OdL.below HLL.out b5)
    clear b5 K4 R4 HLL
    have hz10 : szs l + 1 ≤ 11 := by have := HI.out.2.2.1; omega
    by_cases hsz : szs l + 1 ≤ len - at_
    · have HE := Lib.hid (HDS.out l HOL.out hsz)
      have HSZ : Hid (szs l ≤ (L.drop (at_ + 1)).length) := Lib.hid (by rw [List.length_drop, HL.out]; omega)
      have L6 : Hid (LstR Od.row 3 w5 (fun i => i = O ∨ i = w.heap.size + 1) a l) := Lib.hid (by
        obtain ⟨_, _, _, hg, _⟩ := R5.out.cell
        exact L5.out.off2 K5.out hg)
      clear L5 HDC HDS
      have hgt : ¬ ((len : Int) - (at_ : Int) < ((szs l + 1 : Nat) : Int)) := by omega
      have hsum : (at_ : Int) + ((szs l + 1 : Nat) : Int) ≤ 9223372036854775807 := by omega
      have HAT : Hid ((at_ : Int) + ((szs l + 1 : Nat) : Int) = ((at_ + (szs l + 1) : Nat) : Int)) := Lib.hid (by omega)
      clear hsz
      generalize szs l + 1 = z at *
      go_wp2_with (fail)
      go_loopw [13, 56] (fun p i wr => ∃ (j : Nat) (q : Oq) (T : List Int), j ≤ n ∧ i = .int .i64 j ∧ Hid (Blk wr O 35 (cellsOq q)) ∧ Hid (Rdr w wr T) ∧ Hid (fillF (l.drop j) T q = fillF l (L.drop (at_ + 1)) ⟨k, 0, 0, 0⟩) ∧ Hid (szs (l.drop j) ≤ T.length) ∧
        Hid (LstR Od.row 3 wr (fun i => i = O ∨ i = w.heap.size + 1) a l)) (fun _ i _ => n - (intOf i).toNat)
      case atStart => exact ⟨0, ⟨k, 0, 0, 0⟩, L.drop (at_ + 1), by omega, rfl, K5, R5, Lib.hid rfl, HSZ, L6⟩
      case round =>
        clear K5 R5 HSZ L6
        obtain ⟨j, q, T, hj, rfl, K7, R7, F7, Z7, L7⟩ := hrel
        by_cases hlt : j < n
        · obtain ⟨d, hd⟩ : ∃ d, l[j]? = some d := ⟨_, List.getElem?_eq_getElem (by rw [HLN.out]; exact hlt)⟩
          obtain ⟨b', off', rfl, _, hbl, hrr⟩ := L7.out.at hd
          have HEE := Lib.hid hrr
          have HDD := Lib.hid hd
          have bw : Below wr.heap.size wr (wr.alloc (.cells (cellsOd d) 86)) := (Below.refl _ _).alloc (Nat.le_refl _) _
          have N8 := Lib.hid (Blk.new wr 86 (cellsOd d))
          have K8 := Lib.hid (K7.out.below bw K7.out.lt)
          have R8 := Lib.hid (R7.out.up bw)
          have L8 := Lib.hid (LstR.below L7.out bw)
          clear hrr hbl hd bw K7 R7 L7
          go_upto_region 14 with (first | (refine arm_od (l := l) HEE.out rfl _ rfl rfl ?_) | (refine wpList_store_row rfl _ _ _ rfl wr.heap.size (cellsOd d) rfl rfl 86 _ (heap_alloc_new wr _) infoOd rfl (cellsOd_one d) ?_; rw [World.setRow_alloc_new]))
          simp only [Act.put]
          generalize wr.alloc (.cells (cellsOd d) 86) = w8 at *
          generalize wr.heap.size = E at *
          clear HEE
          have NEO : Hid (E ≠ O) := Lib.hid (N8.out.ne_ K8.out (by decide))
          have NEG : Hid (E ≠ w.heap.size + 1) := Lib.hid (by
            obtain ⟨_, _, _, hg, _⟩ := R8.out.cell
            exact N8.out.ne_ hg (by decide))
          have SZ : Hid (d.sz + szs (l.drop (j + 1)) ≤ T.length) := Lib.hid (by rw [← szs_drop HDD.out]; exact Z7.out)
          have F8 : Hid (fillF (l.drop (j + 1)) (T.drop d.sz) (d.set q (valL (T.take d.sz))) = fillF l (L.drop (at_ + 1)) ⟨k, 0, 0, 0⟩) := Lib.hid (by rw [← fill_drop HDD.out]; exact F7.out)
          clear F7 Z7
          refine wp_region_first (fun w' => Blk w' E 86 (cellsOd d) ∧ Blk w' O 35 (cellsOq q)) 8 2 [0, 1, 2, 3, 4, 5] (by kernel_rfl) (by kernel_rfl) ⟨N8.out, K8.out⟩ ?_
          simp only [List.filterMap_cons, List.filterMap_nil, List.getElem?_toArray, List.getElem?_cons_zero, List.getElem?_cons_succ]
          show wpQuiet _ _ _ _ [_, _, _, _, _, _] _
          iterate 1 (go_big_quiet_step ((intros; rfl)))
          refine q_cell 84 _ _ (.func (.func d.setF) #[] #[]) rfl rfl rfl (fun w h => by simp [go_sem, h]) (fun w h => Blk.cell h.1 2) ?_
          simp only [Act.put, List.setIfInBounds_toArray, List.set_cons_zero, List.set_cons_succ]
          refine q_load_Oq 35 _ O 0 q _ rfl rfl rfl (fun w' h => h.2.rangeOq) Tryd.underlying35 rfl infoOq ?_
          simp only [Act.put, List.setIfInBounds_toArray, List.set_cons_zero, List.set_cons_succ]
          iterate 2 (go_big_quiet_step ((intros; rfl)))
          refine q_cell 3 _ _ (.int .i64 (d.sz : Int)) rfl rfl rfl (fun w h => by simp [go_sem, h]) (fun w h => Blk.cell h.1 0) ?_
          simp only [Act.put, List.setIfInBounds_toArray, List.set_cons_zero, List.set_cons_succ]
          refine wpQuiet_nil ?_
          refine headF_one (i := 6) (by kernel_rfl) (by omega) ?_
          refine wpOp_at rfl rfl (wp_callv_at rfl rfl #[.int .i64 (d.sz : Int), .pointer (some ⟨w.heap.size + 1, 0, none⟩)] (by kernel_rfl) Tryd.call85 (((R8.out.up (Below.refl _ _).drew).read d.sz (by have := SZ.out; omega) d.sz_le).mono ?_))
          rintro e w9 ⟨rfl, r9, g9⟩
          have R9 := Lib.hid r9
          have N9 := Lib.hid (N8.out.drew.grown g9 (by have := NEG.out; simpa using this))
          have K9 := Lib.hid (K8.out.drew.grown g9 (by have := ZO.out; simp; omega))
          have L9 : Hid (LstR Od.row 3 w9 (fun i => i = O ∨ i = w.heap.size + 1) (some ⟨b', off', none⟩) l) := Lib.hid (LstR.kept (LstR.below L8.out (Below.refl _ _).drew) (Kept.of_grown g9 fun i hi => by injection hi with hi; exact .inr hi))
          clear r9 g9 R8 N8 K8 L8
          refine ⟨_, rfl, ⟨N9.out, K9.out⟩, ?_⟩
          refine headF_one (i := 7) (by kernel_rfl) (by omega) ?_
          simp only [Act.put, List.getElem_toArray, List.getElem_cons_zero, List.getElem_cons_succ, List.setIfInBounds_toArray, List.set_cons_zero, List.set_cons_succ]
          refine wpOp_at rfl rfl (wp_callv_at rfl rfl #[.agg (cellsOq q), .int .u64 (valL (T.take d.sz))] (by kernel_rfl) (call_set d) ((set_any d q _ w9).mono ?_))
          rintro e w10 ⟨rfl, b10⟩
          have R10 := Lib.hid (R9.out.up b10)
          have N10 := Lib.hid (N9.out.below b10 N9.out.lt)
          have K10 := Lib.hid (K9.out.below b10 K9.out.lt)
          have L10 := Lib.hid (LstR.below L9.out b10)
          clear b10 R9 N9 K9 L9
          refine ⟨_, rfl, ⟨N10.out, K10.out⟩, ?_⟩
          show Region.seqB _ _ _ _ _ = true ∧ _
          refine ⟨by kernel_rfl, ?_⟩
          simp only [Act.put, List.getElem_toArray, List.getElem_cons_zero, List.getElem_cons_succ, List.setIfInBounds_toArray, List.set_cons_zero, List.set_cons_succ, List.drop_succ_cons, List.drop_zero]
          go_wp2_with (refine wpList_store_row rfl _ _ _ rfl O (cellsOq (d.set q (valL (T.take d.sz)))) rfl rfl 35 _ K10.out infoOq rfl (cellsOq_one _) ?_)
          refine NoPanic.normal ?_
          go_wp2_with (fail)
          refine ⟨⟨j + 1, _, _, by omega, by go_num, Lib.hid (K10.out.setRow _), Lib.hid (R10.out.row ZO.out _), F8, Lib.hid (by have := SZ.out; rw [List.length_drop]; omega), Lib.hid (LstR.kept L10.out (Kept.setRow (S := fun i => i = O ∨ i = w.heap.size + 1) (Kept.refl _ _) (.inl (.inl rfl)) _))⟩, ?_⟩
          simp [intOf]; omega
        · obtain rfl : j = n := by omega
          clear hlt
          have hlt : ¬ j < j := by omega
          have HQ : Hid (q = D1) := Lib.hid (by
            have := F7.out
            rw [List.drop_of_length_le (by rw [HLN.out]; exact Nat.le_refl _), fillF] at this
            rw [this, HE.out.1])
          clear F7
          go_wp2_with (first | (refine wpList_load_row rfl 35 _ rfl O rfl 35 (cellsOq q) (0, 0) _ K7.out Tryd.underlying35 rfl infoOq ?_) | (refine wpList_store_row rfl _ _ _ rfl w.heap.size (cellsOq q) rfl rfl 35 _ R7.out.box infoOq rfl (cellsOq_one _) ?_))
          exact dec_ret rfl rfl rfl rfl (R7.out.box.setRow _) ⟨by rw [HD.out.1, HD.out.2, HQ.out, HE.out.2, HAT.out], below_setRow R7.out.below (Nat.le_refl _) _⟩
    · have HE := Lib.hid (HDC.out l HOL.out hsz)
      clear HDC HDS L5
      have hgt : ((len : Int) - (at_ : Int) < ((szs l + 1 : Nat) : Int)) := by omega
      clear hsz
      generalize szs l + 1 = z at *
      go_wp2_with (first | (refine wpList_build_Oq rfl 35 _ rfl oqZ (by kernel_rfl) ?_) | (refine wpList_store_row rfl _ _ _ rfl w.heap.size (cellsOq oqZ) rfl rfl 35 _ R5.out.box infoOq rfl (cellsOq_one _) ?_))
      exact dec_ret rfl rfl rfl rfl (R5.out.box.setRow _) ⟨by rw [HD.out.1, HD.out.2, HE.out.1, HE.out.2], below_setRow R5.out.below (Nat.le_refl _) _⟩
  · have HE := Lib.hid (HDK.out hno)
    clear hno HC
    have hat2 : (at_ : Int) + 1 ≤ 9223372036854775807 := by omega
    go_wp2_with (first | (refine wpList_build_Oq rfl 35 _ rfl oqZ (by kernel_rfl) ?_) | (refine wpList_store_row rfl _ _ _ rfl w.heap.size (cellsOq oqZ) rfl rfl 35 _ R4.out.box infoOq rfl (cellsOq_one _) ?_))
    exact dec_ret rfl rfl rfl rfl (R4.out.box.setRow _) ⟨by rw [HD.out.1, HD.out.2, HE.out.1, HE.out.2], below_setRow R4.out.below (Nat.le_refl _) _⟩
end Go.Proofs.YtniehmlklbggdaaDoor
