/- The walk of RegistryPlays. -/
import Derived.Test.YtcmlkcmoailhjaaLive
namespace Go.Proofs.Ytcmlkcmoailhjaa
open Go Go.RowKit Go.Deep
set_option linter.unusedVariables false
set_option linter.unusedSimpArgs false

theorem infoO : (Try.prog.info? 31).map (·.size) = some 8 := by kernel_rfl
theorem opCells_one (x : Int × Val) : (opCells x).all (·.oneCell') = true := by
  refine Array.all_eq_true_iff_forall_mem.2 (fun u hu => ?_)
  have : u ∈ opRow x := by simpa [opCells] using hu
  rcases List.mem_cons.1 this with rfl | h
  · rfl
  · exact row_one _ u h
theorem wpList_load_op {P : Program} {ops : Array Oper} {rest : List Oper} {op : Oper} {a : Act} {w : World} {Q : Exit → Act → World → Prop} (hgd : op.guard = none) (ty : TypeId) (x : Operand) (ho : op.op = .load ty x)
    (b o : Nat) (hx : a.eval x = .pointer (some ⟨b, o, none⟩)) (v : Int × Val) (d : TypeDesc) (hc : w.rangeAt b o (opRow v))
    (hu : P.underlying ty = some d) (hd : d.isRow = true) (hi : (P.info? ty).map (·.size) = some 8)
    (h : wpList P ops Q rest (a.put op.dst (.agg (opCells v))) w) : wpList P ops Q (op :: rest) a w :=
  wpList_load_mid hgd ty x ho b o hx (opRow v) d hc hu hd hi h
theorem Blk.op {w : World} {g t : Nat} {x : Int × Val} (h : Blk w g t (opCells x)) : w.rangeAt g 0 (opRow x) := fun j u hu => by
  rw [Nat.zero_add, h.cell j]
  simpa [opCells] using hu
/-- One operation, where the law's loop stands. -/
theorem IsOps.at {w wr : World} {a : Option Addr} {len cap k : Nat} (h : IsOps w a len cap) (hr : Below w.heap.size w wr) (hk : k < len) :
    ∃ b off x, a = some ⟨b, off, none⟩ ∧ Hid (wr.rangeAt b (off + k * 8) (opRow x)) ∧ (Lit.int .i64 x.1).wf = true ∧ FitsV x.2 := by
  obtain ⟨_, _, L, hL, hf, hc⟩ := h
  obtain ⟨b, off, rfl, hbl, hc⟩ := hc (by omega)
  obtain ⟨x, hx⟩ : ∃ x, L[k]? = some x := ⟨_, List.getElem?_eq_getElem (by omega)⟩
  obtain ⟨f1, f2⟩ := hf x (List.mem_of_getElem? hx)
  exact ⟨b, off, x, rfl, Lib.hid (World.rangeAt.same (hc k x hx) (hr.block b hbl)), f1, f2⟩
/-- What a law's loop keeps. -/
def Held (w : World) (L b cap : Nat) (S : Nat → Prop) (a : Option Addr) (l : List Val) : Prop := Reg w b S cap l ∧ Lst w S a l ∧ ∀ i, S i → L ≤ i
theorem Held.below {w w' : World} {L b cap : Nat} {S : Nat → Prop} {a : Option Addr} {l : List Val} (h : Held w L b cap S a l) (hb : Below w.heap.size w w') : Held w' L b cap S a l := ⟨h.1.below hb, h.2.1.below hb, h.2.2⟩
theorem Held.alloc {w : World} {L b cap : Nat} {S : Nat → Prop} {a : Option Addr} {l : List Val} (h : Held w L b cap S a l) (o : Obj) : Held (w.alloc o) L b cap S a l := ⟨h.1.alloc o, h.2.1.alloc o, h.2.2⟩
theorem Held.drewN {w : World} {L b cap : Nat} {S : Nat → Prop} {a : Option Addr} {l : List Val} (h : Held w L b cap S a l) (n : Nat) : Held (w.drewN n) L b cap S a l := h
/-- do, in a law's loop. -/
theorem do_held (L b cap cp : Nat) (S : Nat → Prop) (a : Option Addr) (x : Int × Val) (l : List Val) (w0 w : World) (h : Held w L b cap S a l) (hv : FitsV x.2) (hb : Below L w0 w) (hL : L ≤ w.heap.size) :
    Calls Try.prog 11 #[.pointer (some ⟨b, 0, none⟩), .slice a l.length cp, .int .i64 cap, .agg (opCells x)] w fun e w' =>
      ∃ a' cp' l' S', e = .returned (.tuple #[.slice a' (List.length l') cp', .bool true]) ∧ Hid (Held w' L b cap S' a' l') ∧ Below L w0 w' :=
  (do_any b cap cp S a x.1 x.2 l w h.1 h.2.1 hv).mono fun e w' ⟨a', cp', l', S', he, h1, h2, h3, h4⟩ =>
    ⟨a', cp', l', S', he, Lib.hid ⟨h1, h2, fun i hi => (h3 i hi).elim (h.2.2 i) (fun hh => by omega)⟩, Kept.below hb h4 h.2.2 hL⟩

set_option maxHeartbeats 1600000 in
theorem walk_RegistryPlays (a0 : Int) (a1 : Option Addr) (len1 cap1 : Nat) (w : World) (w0 : (Lit.int .i64 a0).wf = true) (w1 : IsOps w a1 len1 cap1) :
    Calls Try.prog 3 #[.int .i64 a0, .slice a1 len1 cap1] w fun e w' => e = .returned (.bool true) ∧ Below w.heap.size w w' := by
  have W1 := Lib.hid w1
  have hl1 : len1 ≤ 9223372036854775807 := by have := w1.1; have := w1.2.1; unfold maxLen at this; omega
  clear w0 w1
  by_cases hout : a0 < 1 ∨ 4096 < a0
  · have HNO := Lib.hid (fun w => new_none a0 w hout)
    by_cases h1 : a0 < 1
    · clear hout
      go_enter Try.func3, Try.ntmps3
      go_wp2_with fail
      refine (HNO.out _).mono ?_
      rintro e w1 ⟨rfl, rfl⟩
      go_wp2_with fail
      refine (alive_any _).mono ?_
      rintro e w1 ⟨rfl, hb⟩
      have HB := Lib.hid hb
      clear hb
      go_wp2_with fail
      go_ret
      exact ⟨rfl, HB.out⟩
    · have h2 : 4096 < a0 := by omega
      have h1 : 1 ≤ a0 := by omega
      clear hout
      go_enter Try.func3, Try.ntmps3
      go_wp2_with fail
      refine (HNO.out _).mono ?_
      rintro e w1 ⟨rfl, rfl⟩
      go_wp2_with fail
      refine (alive_any _).mono ?_
      rintro e w1 ⟨rfl, hb⟩
      have HB := Lib.hid hb
      clear hb
      go_wp2_with fail
      go_ret
      exact ⟨rfl, HB.out⟩
  · obtain ⟨cap, rfl⟩ : ∃ cap : Nat, a0 = cap := ⟨a0.toNat, by omega⟩
    have hc1 : ¬ (cap : Int) < 1 := by omega
    have hc2 : ¬ (4096 : Int) < (cap : Int) := by omega
    have HN := Lib.hid (fun w => new_any cap w (by omega) (by omega))
    clear hout
    go_enter Try.func3, Try.ntmps3
    go_wp2_with fail
    refine (HN.out _).mono ?_
    rintro e w1 ⟨b, S, rfl, hr, hS, hb⟩
    have H1 : Hid (Held w1 w.heap.size b cap S none []) := Lib.hid ⟨hr, Lst.nil _ _ _, hS⟩
    clear hr hS
    by_cases h60 : (60 : Int) < (len1 : Int)
    · go_wp2_with fail
      refine (alive_any _).mono ?_
      rintro e w2 ⟨rfl, hb2⟩
      have HB := Lib.hid (hb.trans (hb2.mono hb.size))
      clear hb2
      go_wp2_with fail
      go_ret
      exact ⟨rfl, HB.out⟩
    · go_wp2_with fail
      go_loopw [6, 31] (fun s6 s31 wr => ∃ (k : Nat) (S : Nat → Prop) (a : Option Addr) (cp : Nat) (l : List Val), k ≤ len1 ∧ s31 = .int .i64 k ∧ s6 = .slice a l.length cp ∧ Hid (Held wr w.heap.size b cap S a l) ∧ Below w.heap.size w wr) (fun _ s31 _ => len1 - (intOf s31).toNat)
      case atStart => exact ⟨0, S, none, 0, [], by omega, rfl, rfl, H1, hb⟩
      case round =>
        obtain ⟨k, S, a, cp, l, hk, rfl, rfl, HR, BB⟩ := hrel
        by_cases hlt : k < len1
        · obtain ⟨g, off, x, rfl, HX, -, hf⟩ := W1.out.at BB hlt
          have HR' : Hid (Held (wr.alloc (.cells (opCells x) 31)) w.heap.size b cap S a l) := Lib.hid (HR.out.alloc _)
          have BB' : Hid (Below w.heap.size w (wr.alloc (.cells (opCells x) 31))) := Lib.hid (BB.alloc BB.size _)
          have HE : Hid (Blk (wr.alloc (.cells (opCells x) 31)) wr.heap.size 31 (opCells x)) := Lib.hid (Blk.new _ _ _)
          have HF := Lib.hid hf
          have hk1 : ¬ (k : Int) < 0 := by omega
          have hk2 : ¬ (len1 : Int) ≤ (k : Int) := by omega
          have hk3 : (k : Int) < (len1 : Int) := by omega
          clear HR BB hf
          go_wp2_with (first | (refine wpList_load_op rfl 31 _ rfl g (off + k * 8) rfl x _ HX.out Try.underlying31 rfl infoO ?_) | (refine wpList_store_row rfl _ _ _ rfl wr.heap.size (opCells x) rfl rfl 31 _ (heap_alloc_new wr _) infoO rfl (opCells_one x) ?_; rw [World.setRow_alloc_new]) | (refine wpList_load_op rfl 31 _ rfl wr.heap.size 0 rfl x _ HE.out.op Try.underlying31 rfl infoO ?_))
          clear HE HX
          generalize wr.alloc (.cells (opCells x) 31) = W at *
          refine (do_held w.heap.size b cap cp S a x l w W HR'.out HF.out BB'.out BB'.out.size).mono ?_
          rintro e w2 ⟨a2, cp2, l2, S2, rfl, R2, B2⟩
          clear HR' BB' HF
          obtain ⟨f1, f2, f3, f4, f5⟩ := R2.out.1.fits
          have f6 := (active_le f5).2
          have F5 := Lib.hid f5
          have HB2 := Lib.hid B2
          clear f5 B2
          go_wp2_with fail
          refine (rlen R2.out.1).mono ?_
          rintro e w3 ⟨rfl, rfl⟩
          go_wp2_with fail
          refine (ractive R2.out.1).mono ?_
          rintro e w3 ⟨rfl, rfl⟩
          go_wp2_with fail
          refine (refactive_any S2 a2 cp2 l2 _ R2.out.2.1 (by omega) F5.out (by omega)).mono ?_
          rintro e w3 ⟨rfl, rfl⟩
          go_wp2_with fail
          refine (rtotal R2.out.1).mono ?_
          rintro e w3 ⟨rfl, rfl⟩
          go_wp2_with fail
          refine (reftotal_any S2 a2 cp2 l2 _ R2.out.2.1 (by omega) F5.out f4).mono ?_
          rintro e w3 ⟨rfl, hb3⟩
          have R3 := Lib.hid (R2.out.below hb3)
          have B3 := Lib.hid (HB2.out.trans (hb3.mono HB2.out.size))
          clear R2 hb3 HB2
          go_wp2_with fail
          refine (all_any b cap S2 l2 w3 R3.out.1).mono ?_
          rintro e w4 ⟨v, rfl, ho, hb4⟩
          obtain ⟨a4, cp4, rfl, -, -, hl4⟩ := owns_fresh (S := fun _ => False) ho (fun _ _ h => h)
          have L4 := Lib.hid hl4
          have R4 := Lib.hid (R3.out.below hb4)
          have B4 := Lib.hid (B3.out.trans (hb4.mono B3.out.size))
          clear R3 hb4 B3 ho hl4
          go_wp2_with fail
          refine (same_any _ _ a4 a2 cp4 cp2 l2 w4 L4.out R4.out.2.1 (by omega)).mono ?_
          rintro e w5 ⟨rfl, m, rfl⟩
          have R5 := Lib.hid (R4.out.drewN m)
          have B5 := Lib.hid (below_drewN B4.out m)
          clear R4 B4 L4
          go_wp2_with fail
          go_roundw
          case rel => exact ⟨k + 1, S2, a2, cp2, l2, by omega, by go_num, rfl, R5, B5.out⟩
          case measure => simp [intOf]; omega
        · have hlt' : ¬ (k : Int) < (len1 : Int) := by omega
          go_wp2_with fail
          refine (alive_any _).mono ?_
          rintro e w2 ⟨rfl, hb2⟩
          have HB := Lib.hid (BB.trans (hb2.mono BB.size))
          clear hb2
          go_wp2_with fail
          go_ret
          exact ⟨rfl, HB.out⟩
end Go.Proofs.Ytcmlkcmoailhjaa
