/- Due. -/
import Derived.Test.YtinndmglacfofaaPut
import Derived.Test.YtinndmglacfofaaInts
import Derived.ArgAppend
namespace Go.Proofs.Ytinndmglacfofaa
open Go Go.RowKit Go.Deep
set_option linter.unusedVariables false
set_option linter.unusedSimpArgs false

section
variable {ops : Array Oper} {rest : List Oper} {o : Oper} {a : Act} {w : World} {Q : Exit → Act → World → Prop}
/-- A slice literal of one entry. -/
theorem wpList_build1 (hgd : o.guard = none) (x : Operand) (ho : o.op = .buildSlice 43 1 #[(0, x)]) (v : Ent) (hx : a.eval x = .agg (cellsE v))
    (h : wpList Try.prog ops Q rest (a.put o.dst (.slice (some ⟨w.heap.size, 0, none⟩) 1 1)) (w.alloc (.cells (cellsE v) 46))) : wpList Try.prog ops Q (o :: rest) a w :=
  wpList_plain hgd fun _ hK => wp_buildSlice_pair 43 46 x _ (.int .i64 v.1) (.int .i64 v.2) ho hx Try.underlying43 ent_info2 (hK _ _ h)
/-- append of one entry where there is room: it is written in place. -/
theorem wpList_append_fit (hgd : o.guard = none) (s x : Operand) (ho : o.op = .call { callee := .builtin .append, args := #[s, x], argTypes := #[43, 43] })
    (g r cp q : Nat) (v : Ent) (hs : a.eval s = .slice (some ⟨g, 0, none⟩) r cp) (hx : a.eval x = .slice (some ⟨q, 0, none⟩) 1 1) (hq : ∀ j u, (rowE v)[j]? = some u → w.cell? ((⟨q, 0, none⟩ : Addr).add j) = some u) (hr : r + 1 ≤ cp) (ht : w.there g (r * 2) 2)
    (h : wpList Try.prog ops Q rest (a.put o.dst (.slice (some ⟨g, 0, none⟩) (r + 1) cp)) (w.setCells g (r * 2) (rowE v))) : wpList Try.prog ops Q (o :: rest) a w := by
  refine wpList_plain hgd fun K hK => ?_
  obtain ⟨i, hi, hz, hs2, hby⟩ := ent_app
  have hrun := run_append_room_cells (P := Try.prog) w 43 o.type 46 i Try.underlying43 hi g 0 r cp ⟨q, 0, none⟩ 1 1 (rowE v) (by rw [hs2]; rfl) hq (row_one v) hr
    (fun j hj => by rw [hs2, Nat.zero_add]; exact (ht j hj).1) (fun j hj => by rw [hs2, Nat.zero_add]; exact (ht j hj).2)
  rw [hs2, Nat.zero_add] at hrun
  unfold Oper.wp
  simp [execOp, ho, resolve, invoke, builtin, hs, hx, hrun, Result.andThen]
  exact hK _ _ h
end

theorem due_no (p : Option Addr) (ep : Int) (w : World) (h : p = none ∨ ep < 0 ∨ 1099511627776 < ep) :
    Calls Try.prog 20 #[.pointer p, .int .i64 ep] w fun e w' => e = .returned (.slice none 0 0) ∧ w = w' := by
  have H : Hid (Calls Try.prog 29 #[.pointer p, .int .i64 ep] w fun e w' => e = .returned (.tuple #[.int .i64 0, .bool false]) ∧ w = w') := Lib.hid (by
    rcases h with rfl | h
    · exact number_nil ep w
    · exact number_no p ep w h)
  clear h
  go_enter Try.func20, Try.ntmps20
  go_wp2_with fail
  refine H.out.mono ?_
  rintro e w' ⟨rfl, rfl⟩
  go_wp2_with fail
  go_ret
  exact ⟨rfl, rfl⟩

def stay (ep : Int) (l : List Ent) : List Ent := l.filter fun e => !(e.1 == ep)
def goes (ep : Int) (l : List Ent) : List Int := (l.filter fun e => e.1 == ep).map (·.2)
theorem stay_snoc (ep : Int) (l : List Ent) (x : Ent) : stay ep (l ++ [x]) = if x.1 = ep then stay ep l else stay ep l ++ [x] := by
  unfold stay
  rw [List.filter_append]
  by_cases h : x.1 = ep <;> simp [h]
theorem goes_snoc (ep : Int) (l : List Ent) (x : Ent) : goes ep (l ++ [x]) = if x.1 = ep then goes ep l ++ [x.2] else goes ep l := by
  unfold goes
  rw [List.filter_append, List.map_append]
  by_cases h : x.1 = ep <;> simp [h]
theorem stay_len (ep : Int) (l : List Ent) : (stay ep l).length ≤ l.length := List.length_filter_le _ _
theorem goes_len (ep : Int) (l : List Ent) : (goes ep l).length ≤ l.length := by unfold goes; rw [List.length_map]; exact List.length_filter_le _ _
theorem ent_snoc {l : List Ent} {k : Nat} {v : Ent} (h : l[k]? = some v) : l.take (k + 1) = l.take k ++ [v] := by
  rw [List.take_add_one, h]
  rfl
/-- Where the loop stands. -/
structure DueAt (w0 w : World) (g cp q k r : Nat) (ep : Int) (l : List Ent) (v : Value) : Prop where
  len : (stay ep (l.take k)).length = r
  row : Row w g cp q (stay ep (l.take k) ++ l.drop r)
  out : w.ownsRow w0.heap.size 3 1 v (goes ep (l.take k)).length ((goes ep (l.take k)).map (Value.int .i64))
  kept : Kept (fun i => i = g) w0 w
/-- What Due leaves. -/
def DuePost (w : World) (b B n j : Nat) (ss : List Value) (s : Value) (L : List Ent) (ep : Int) (e : Ending) (w' : World) : Prop :=
  ∃ v s', e = .returned v ∧ w'.ownsRow w.heap.size 3 1 v (goes ep L).length ((goes ep L).map (Value.int .i64)) ∧ RingP w' b B n (ss.set j s') (stay ep L) ∧ s'.ownBlock = s.ownBlock ∧ Kept (fun i => i = B ∨ s.ownBlock = some i) w w'

/-- The ring behind Due's store. -/
theorem due_ring {w w3 : World} {b B n j : Nat} {s s' : Value} {ss : List Value} {L : List Ent} {ep : Int} (h : RingP w b B n ss L) (hs : ss[j]? = some s) (hj : ep % (n : Int) = (j : Int))
    (hk : Kept (fun i => s.ownBlock = some i) w w3) (ho : w3.ownsRow 0 46 2 s' (stay ep (bk n L j)).length (flat (stay ep (bk n L j)))) (hn : s'.ownBlock = s.ownBlock) :
    RingP (w3.setCell ⟨B, j, none⟩ s') b B n (ss.set j s') (stay ep L) := by
  have hnot := h.not hs
  have hBk : w3.heap[B]? = w.heap[B]? := hk.block B h.bks.lt hnot.2
  have e1 : bk n (stay ep L) j = stay ep (bk n L j) := bk_filter n L j _
  refine h.upd hs ?_ ?_ (fun i t hij ht q hq => ?_) ?_ (fun i hi => ?_) (.inl hn) (fun x hx => h.ok x (List.mem_filter.1 hx).1)
  · rw [Below.heap_setCell _ _ _ _ h.ne]
    exact hk.block b h.own.lt hnot.1
  · have := Blk.set_ (w := w3) (g := B) (t := 43) (cs := ss.toArray) (hBk.trans h.bks) j s'
    simpa using this
  · rw [Below.heap_setCell _ _ _ _ (fun e => (h.not ht).2 (by rw [hq, e]))]
    exact hk.block q (h.lt (List.mem_of_getElem? ht) hq) (fun e => h.apart _ _ _ _ q hij ht hs hq e)
  · rw [e1]
    exact owns_same (w := w3) ho (fun q hq => Below.heap_setCell _ _ _ _ (fun e => hnot.2 (by rw [← hn, hq, e])))
  · rw [show bk n (stay ep L) i = stay ep (bk n L i) from bk_filter n L i _]
    exact bk_other hj hi L
theorem goes_bk {n j : Nat} {ep : Int} (h : ep % (n : Int) = (j : Int)) (L : List Ent) : goes ep (bk n L j) = goes ep L := by
  unfold goes
  rw [bk_epoch h]

set_option maxHeartbeats 3200000 in
theorem due_row (b B n j g cp : Nat) (ss : List Value) (L : List Ent) (ep : Int) (w : World) (h : RingP w b B n ss L) (hs : ss[j]? = some (.slice (some ⟨g, 0, none⟩) (bk n L j).length cp)) (h0 : 0 ≤ ep) (h1 : ep ≤ 1099511627776) (hj : ep % (n : Int) = (j : Int)) (hL : L.length ≤ 100000) :
    Calls Try.prog 20 #[.pointer (some ⟨b, 0, none⟩), .int .i64 ep] w (DuePost w b B n j ss (.slice (some ⟨g, 0, none⟩) (bk n L j).length cp) L ep) := by
  have hjn : j < n := by have := (List.getElem?_eq_some_iff.1 hs).1; have := h.len; omega
  have hrow := h.row j _ hs
  have hq := bk_len n L j
  obtain ⟨x0, x1⟩ := h.cells hs
  have hnot := h.not hs
  have hcp := (row_of_owns hrow).2.1
  have hcp2 := (row_of_owns hrow).2.2.1
  unfold maxLen at hcp2
  have HN := Lib.hid (number_any b n j n (some ⟨B, 0, none⟩) ep w x0 h.pos h.top h0 h1 hj)
  have hgb : g ≠ b := fun e => hnot.1 (by rw [e]; rfl)
  have hgB : g ≠ B := fun e => hnot.2 (by rw [e]; rfl)
  have hBl := h.bks.lt
  have HH := Lib.hid h
  have HS := Lib.hid hs
  have HJ := Lib.hid hj
  obtain ⟨l, hl⟩ : ∃ l, bk n L j = l := ⟨_, rfl⟩
  rw [hl] at hrow hq hcp x1 HS ⊢
  obtain ⟨q, hqe⟩ : ∃ q, l.length = q := ⟨_, rfl⟩
  rw [hqe] at hrow hq hcp x1 HS ⊢
  have H0 : Hid (DueAt w w g cp q 0 0 ep l (.slice none 0 0)) := Lib.hid ⟨rfl, by simpa [stay] using row_of_owns hrow, World.ownsRow_nil _ _ _ _, Kept.refl _ _⟩
  have HLL := Lib.hid (And.intro hl hqe)
  have hj1 : ¬ (j : Int) < 0 := by omega
  have hj2 : ¬ (n : Int) ≤ (j : Int) := by omega
  have hj3 : (j : Int) < (n : Int) := by omega
  have hn4 : n ≤ 4096 := h.top
  have X0 := Lib.hid x0
  have X1 := Lib.hid x1
  clear h hs hrow hnot hj hl hqe
  obtain ⟨i0, hi0, hz0, hs0, hb0⟩ := int_app
  go_enter Try.func20, Try.ntmps20
  go_wp2_with fail
  refine HN.out.mono ?_
  rintro e w' ⟨rfl, rfl⟩
  clear HN
  go_wp2_with fail
  go_loopw [7, 8, 35] (fun s7 s8 s35 wr => ∃ k r : Nat, r ≤ k ∧ k ≤ q ∧ s35 = .int .i64 k ∧ s8 = .slice (some ⟨g, 0, none⟩) r cp ∧ Hid (DueAt w wr g cp q k r ep l s7)) (fun _ _ s35 _ => q - (intOf s35).toNat)
  case atStart => exact ⟨0, 0, by omega, by omega, rfl, rfl, H0⟩
  case round =>
    clear H0 x0 x1
    obtain ⟨k, r, hrk, hk, rfl, rfl, HD⟩ := hrel
    by_cases hlt : k < q
    · obtain ⟨x, hx⟩ : ∃ x, l[k]? = some x := ⟨_, List.getElem?_eq_getElem (by have := HLL.out.2; omega)⟩
      have hd := HD.out
      have HRX : Hid (wr.rangeAt g (k * 2) (rowE x)) := Lib.hid (hd.row.at (by
        rw [List.getElem?_append_right (by have := hd.len; omega), hd.len, List.getElem?_drop, show r + (k - r) = k by omega]
        exact hx))
      have HE : Hid (Blk (wr.alloc (.cells (cellsE x) 46)) wr.heap.size 46 (cellsE x)) := Lib.hid (Blk.new _ _ _)
      have c0 : (wr.alloc (.cells (cellsE x) 46)).cell? ⟨wr.heap.size, 0, none⟩ = some (.int .i64 x.1) := HE.out.cell 0
      have c1 : (wr.alloc (.cells (cellsE x) 46)).cell? ⟨wr.heap.size, 1, none⟩ = some (.int .i64 x.2) := HE.out.cell 1
      have HX := Lib.hid hx
      have hk1 : ¬ (k : Int) < 0 := by omega
      have hk2 : ¬ (q : Int) ≤ (k : Int) := by omega
      have hk3 : (k : Int) < (q : Int) := by omega
      have hgl := hd.row.lt
      have hws := hd.kept.size
      have hgo := goes_len ep (l.take k)
      have hgo2 : (l.take k).length ≤ k := by rw [List.length_take]; omega
      clear hd hx
      by_cases heq : x.1 = ep
      · have hb1 : (x.1 == ep) = true := by simpa using heq
        have HEQ := Lib.hid heq
        clear heq
        go_wp2_with (first | (refine wpList_load_ent rfl 46 _ rfl g (k * 2) rfl x _ HRX.out Try.underlying46 rfl infoE ?_) | (refine wpList_store_row rfl _ _ _ rfl wr.heap.size (cellsE x) rfl rfl 46 _ (heap_alloc_new wr _) infoE rfl (cellsE_one x) ?_; rw [World.setRow_alloc_new]) | (at_builtin; (refine wpList_append_src _ rfl (.tmp 43) (.tmp 46) 27 rfl w.heap.size 3 i0 _ 1 8 Try.underlying27 hi0 hz0 hs0 hb0 rfl Nat.one_pos u7 (goes ep (l.take k)).length _ rfl ((HD.out.out.alloc _).alloc _) (some ⟨wr.heap.size + 1, 0, none⟩) 1 1 [.int .i64 x.2] rfl rfl (fun _ => ⟨_, rfl, by have := cell_one_new (wr.alloc (.cells (cellsE x) 46)) (.int .i64 x.2) 3; rwa [World.size_alloc] at this⟩) (by simp [Value.oneCell']) (by unfold maxLen; omega) (by omega) (by simp; omega) ?_; intro v1 w1 ho hg hv1)))
        have hZ : DueAt w w1 g cp q (k + 1) r ep l v1 := by
          have hd := HD.out
          have et := ent_snoc HX.out
          have k1 : Kept (fun i => u7.ownBlock = some i) wr w1 := ((Kept.refl _ wr).alloc _).alloc _ |>.trans (Kept.of_grown hg (S := fun i => u7.ownBlock = some i) (fun i hi => hi.symm)) (fun _ _ h => h)
          have hne : ∀ i, u7.ownBlock = some i → w.heap.size ≤ i := fun i hi => (hd.out.lt i hi).1
          have hgw : g < w.heap.size := by
            have := HH.out.row j _ HS.out
            exact (this.lt g rfl).2
          refine ⟨by rw [et, stay_snoc, if_pos HEQ.out]; exact hd.len, ?_, ?_, ?_⟩
          · rw [et, stay_snoc, if_pos HEQ.out]
            exact hd.row.same (k1.block g hd.row.lt (fun h => by have := hne g h; omega))
          · rw [et, goes_snoc, if_pos HEQ.out]
            simpa using ho
          · exact hd.kept.trans (k1.more (T := fun i => w.heap.size ≤ i) (fun i _ h => hne i h)) (fun i hi h => by omega)
        have HZ := Lib.hid hZ
        clear ho hg hv1 hZ HD HRX HE c0 c1
        go_wp2
        go_roundw
        case rel => exact ⟨k + 1, r, by omega, by omega, by go_num, rfl, HZ⟩
        case measure => simp [intOf]; omega
      · have hb1 : (x.1 == ep) = false := by simpa using heq
        have HEQ := Lib.hid heq
        have HT : Hid (((wr.alloc (.cells (cellsE x) 46)).alloc (.cells (cellsE x) 46)).there g (r * 2) 2 ∧ DueAt w (((wr.alloc (.cells (cellsE x) 46)).alloc (.cells (cellsE x) 46)).setCells g (r * 2) (rowE x)) g cp q (k + 1) (r + 1) ep l u7) := Lib.hid (by
          have hd := HD.out
          have et := ent_snoc HX.out
          have hB : Below wr.heap.size wr ((wr.alloc (.cells (cellsE x) 46)).alloc (.cells (cellsE x) 46)) := ((Below.refl _ _).alloc (Nat.le_refl _) _).alloc (by simp) _
          have hrow2 := hd.row.below hB
          have hrl : r < l.length := by have := HLL.out.2; omega
          have hgw : g < w.heap.size := by
            have := HH.out.row j _ HS.out
            exact (this.lt g rfl).2
          rw [List.drop_eq_getElem_cons hrl] at hrow2
          obtain ⟨t1, t2⟩ := hrow2.set hd.len x
          refine ⟨t2, ⟨by rw [et, stay_snoc, if_neg HEQ.out, List.length_append, hd.len]; rfl, ?_, ?_, ?_⟩⟩
          · rw [et, stay_snoc, if_neg HEQ.out]
            simpa using t1
          · rw [et, goes_snoc, if_neg HEQ.out]
            refine owns_same ((hd.out.alloc (.cells (cellsE x) 46)).alloc (.cells (cellsE x) 46)) (fun i hi => ?_)
            have hil := (hd.out.lt i hi).1
            have kk : Kept (fun i => i = g) ((wr.alloc (.cells (cellsE x) 46)).alloc (.cells (cellsE x) 46)) (((wr.alloc (.cells (cellsE x) 46)).alloc (.cells (cellsE x) 46)).setCells g (r * 2) (rowE x)) := Kept.setCells _ _ _ (Kept.refl _ _) (.inl rfl)
            exact kk.block i (by have := (hd.out.lt i hi).2; simp; omega) (fun e => by have e : i = g := e; omega)
          · exact Kept.setCells _ _ _ ((hd.kept.alloc _).alloc _) (.inl rfl))
        have hq2 : r + 1 ≤ cp := by omega
        clear heq
        go_wp2_with (first | (refine wpList_load_ent rfl 46 _ rfl g (k * 2) rfl x _ HRX.out Try.underlying46 rfl infoE ?_) | (refine wpList_store_row rfl _ _ _ rfl wr.heap.size (cellsE x) rfl rfl 46 _ (heap_alloc_new wr _) infoE rfl (cellsE_one x) ?_; rw [World.setRow_alloc_new]) | (refine wpList_load_ent rfl 46 _ rfl wr.heap.size 0 rfl x _ HE.out.range Try.underlying46 rfl infoE ?_) | (refine wpList_build1 rfl _ rfl x rfl ?_) | (at_builtin; refine wpList_append_fit rfl (.tmp 48) (.tmp 50) rfl g r cp (wr.alloc (.cells (cellsE x) 46)).heap.size x rfl rfl (new_row (wr.alloc (.cells (cellsE x) 46)) x 46) hq2 HT.out.1 ?_))
        go_roundw
        case rel => exact ⟨k + 1, r + 1, by omega, by omega, by go_num, rfl, Lib.hid HT.out.2⟩
        case measure => simp [intOf]; omega
    · obtain rfl : k = q := by omega
      have hd := HD.out
      have e1 := HLL.out
      have hk0 : Kept (fun i => (Value.slice (some ⟨g, 0, none⟩) k cp).ownBlock = some i) w wr := hd.kept.more (fun i _ h => by rw [h]; rfl)
      have y0 := hd.kept.cell (p := ⟨b, 0, none⟩) (fun e => hgb e.symm) X0.out
      have y1 := hd.kept.cell (p := ⟨B, j, none⟩) (fun e => hgB e.symm) X1.out
      have z1 : wr.frozen? ⟨B, j, none⟩ = false := by
        rw [hd.kept.frozen (p := ⟨B, j, none⟩) (fun e => hgB e.symm) hBl]
        exact HH.out.bks.frozen j
      have HP : Hid (DuePost w b B n j ss (.slice (some ⟨g, 0, none⟩) k cp) L ep (.returned u7) (wr.setCell ⟨B, j, none⟩ (.slice (some ⟨g, 0, none⟩) r cp))) := Lib.hid (by
        have ho := hd.out
        have hlen := hd.len
        have hrw := hd.row
        rw [List.take_of_length_le (by omega)] at ho hlen hrw
        have ho2 : wr.ownsRow 0 46 2 (.slice (some ⟨g, 0, none⟩) r cp) (stay ep (bk n L j)).length (flat (stay ep (bk n L j))) := by
          rw [e1.1, hlen]
          obtain ⟨r1, r2, r3, rest, r4, r5⟩ := hrw
          refine Row.owns (g := g) (w := wr) (cap := cp) ⟨hlen, by omega, r3, flat (l.drop r) ++ rest, ?_, ?_⟩ (Nat.zero_le _)
          · rw [List.length_append, flat_len, r4, List.length_drop, e1.2]
            omega
          · rw [← List.append_assoc, ← flat_append]
            exact r5
        refine ⟨u7, .slice (some ⟨g, 0, none⟩) r cp, rfl, ?_, due_ring HH.out HS.out HJ.out hk0 ho2 rfl, rfl, ?_⟩
        · rw [← e1.1, goes_bk HJ.out] at ho
          refine owns_same ho (fun i hi => Below.heap_setCell _ _ _ _ (fun e => ?_))
          have e : i = B := e
          have := (ho.lt i hi).1
          omega
        · exact (hk0.more (fun _ _ h => .inr h)).setCell (.inl (.inl rfl)) _)
      clear hd e1 hk0 HD
      go_wp2
      go_ret
      exact HP.out
end Go.Proofs.Ytinndmglacfofaa
