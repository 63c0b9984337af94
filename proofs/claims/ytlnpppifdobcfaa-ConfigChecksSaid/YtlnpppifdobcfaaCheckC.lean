/- config.Check: the loop over the entries. -/
import Derived.Test.YtlnpppifdobcfaaEntries
import Derived.Test.YtlnpppifdobcfaaRefCheck
import Derived.Deep.WholeRow
namespace Go.Proofs.Ytlnpppifdobcfaa
open Go.RowKit
set_option linter.unusedVariables false

/-- The closure of entry k. -/
def fnum : Nat → Nat
  | 0 => 26
  | 1 => 27
  | 2 => 28
  | 3 => 29
  | 4 => 30
  | 5 => 32
  | 6 => 33
  | 7 => 34
  | 8 => 35
  | 9 => 36
  | 10 => 37
  | 11 => 38
  | 12 => 39
  | 13 => 40
  | 14 => 41
  | 15 => 42
  | 16 => 43
  | 17 => 44
  | 18 => 45
  | 19 => 46
  | _ => 0
def isI (k : Nat) : Bool := decide (k < 2 ∨ (10 ≤ k ∧ k < 18))
def pv (bc k : Nat) : Value := if isI k then .pointer (some ⟨bc, k, none⟩) else .pointer none
def qv (bc k : Nat) : Value := if isI k then .pointer none else .pointer (some ⟨bc, k, none⟩)
/-- Entry k: three cells. -/
def ent (bp bc k : Nat) : Array Value := #[pv bc k, qv bc k, .func (.func (fnum k)) #[] #[.pointer (some ⟨bp, 0, none⟩)]]

theorem holds_any (k : Nat) (hk : k < 20) (bp bc : Nat) (c : Nat → Int) (w : World) (hp : w.cell? ⟨bp, 0, none⟩ = some (.pointer (some ⟨bc, 0, none⟩))) (hc : Blk w bc 24 (cellsOf c)) :
    Calls Try.prog (fnum k) #[.pointer (some ⟨bp, 0, none⟩)] w fun e w' => e = .returned (.bool (rightB c k)) ∧ ∃ n, w' = w.drewN n := by
  have : k = 0 ∨ k = 1 ∨ k = 2 ∨ k = 3 ∨ k = 4 ∨ k = 5 ∨ k = 6 ∨ k = 7 ∨ k = 8 ∨ k = 9 ∨ k = 10 ∨ k = 11 ∨ k = 12 ∨ k = 13 ∨ k = 14 ∨ k = 15 ∨ k = 16 ∨ k = 17 ∨ k = 18 ∨ k = 19 := by omega
  rcases this with rfl | rfl | rfl | rfl | rfl | rfl | rfl | rfl | rfl | rfl | rfl | rfl | rfl | rfl | rfl | rfl | rfl | rfl | rfl | rfl
  · exact holds0 bp bc c w hp hc
  · exact holds1 bp bc c w hp hc
  · exact holds2 bp bc c w hp hc
  · exact holds3 bp bc c w hp hc
  · exact holds4 bp bc c w hp hc
  · exact holds5 bp bc c w hp hc
  · exact holds6 bp bc c w hp hc
  · exact holds7 bp bc c w hp hc
  · exact holds8 bp bc c w hp hc
  · exact holds9 bp bc c w hp hc
  · exact holds10 bp bc c w hp hc
  · exact holds11 bp bc c w hp hc
  · exact holds12 bp bc c w hp hc
  · exact holds13 bp bc c w hp hc
  · exact holds14 bp bc c w hp hc
  · exact holds15 bp bc c w hp hc
  · exact holds16 bp bc c w hp hc
  · exact holds17 bp bc c w hp hc
  · exact holds18 bp bc c w hp hc
  · exact holds19 bp bc c w hp hc
theorem index_ent0 (bp bc : Nat) (w : World) : (Instr.index 42 (.agg (ents bp bc)) (.int .i64 (0 : Nat))).run Try.prog w = .ok (.agg (ent bp bc 0)) w := by kernel_rfl
theorem index_ent1 (bp bc : Nat) (w : World) : (Instr.index 42 (.agg (ents bp bc)) (.int .i64 (1 : Nat))).run Try.prog w = .ok (.agg (ent bp bc 1)) w := by kernel_rfl
theorem index_ent2 (bp bc : Nat) (w : World) : (Instr.index 42 (.agg (ents bp bc)) (.int .i64 (2 : Nat))).run Try.prog w = .ok (.agg (ent bp bc 2)) w := by kernel_rfl
theorem index_ent3 (bp bc : Nat) (w : World) : (Instr.index 42 (.agg (ents bp bc)) (.int .i64 (3 : Nat))).run Try.prog w = .ok (.agg (ent bp bc 3)) w := by kernel_rfl
theorem index_ent4 (bp bc : Nat) (w : World) : (Instr.index 42 (.agg (ents bp bc)) (.int .i64 (4 : Nat))).run Try.prog w = .ok (.agg (ent bp bc 4)) w := by kernel_rfl
theorem index_ent5 (bp bc : Nat) (w : World) : (Instr.index 42 (.agg (ents bp bc)) (.int .i64 (5 : Nat))).run Try.prog w = .ok (.agg (ent bp bc 5)) w := by kernel_rfl
theorem index_ent6 (bp bc : Nat) (w : World) : (Instr.index 42 (.agg (ents bp bc)) (.int .i64 (6 : Nat))).run Try.prog w = .ok (.agg (ent bp bc 6)) w := by kernel_rfl
theorem index_ent7 (bp bc : Nat) (w : World) : (Instr.index 42 (.agg (ents bp bc)) (.int .i64 (7 : Nat))).run Try.prog w = .ok (.agg (ent bp bc 7)) w := by kernel_rfl
theorem index_ent8 (bp bc : Nat) (w : World) : (Instr.index 42 (.agg (ents bp bc)) (.int .i64 (8 : Nat))).run Try.prog w = .ok (.agg (ent bp bc 8)) w := by kernel_rfl
theorem index_ent9 (bp bc : Nat) (w : World) : (Instr.index 42 (.agg (ents bp bc)) (.int .i64 (9 : Nat))).run Try.prog w = .ok (.agg (ent bp bc 9)) w := by kernel_rfl
theorem index_ent10 (bp bc : Nat) (w : World) : (Instr.index 42 (.agg (ents bp bc)) (.int .i64 (10 : Nat))).run Try.prog w = .ok (.agg (ent bp bc 10)) w := by kernel_rfl
theorem index_ent11 (bp bc : Nat) (w : World) : (Instr.index 42 (.agg (ents bp bc)) (.int .i64 (11 : Nat))).run Try.prog w = .ok (.agg (ent bp bc 11)) w := by kernel_rfl
theorem index_ent12 (bp bc : Nat) (w : World) : (Instr.index 42 (.agg (ents bp bc)) (.int .i64 (12 : Nat))).run Try.prog w = .ok (.agg (ent bp bc 12)) w := by kernel_rfl
theorem index_ent13 (bp bc : Nat) (w : World) : (Instr.index 42 (.agg (ents bp bc)) (.int .i64 (13 : Nat))).run Try.prog w = .ok (.agg (ent bp bc 13)) w := by kernel_rfl
theorem index_ent14 (bp bc : Nat) (w : World) : (Instr.index 42 (.agg (ents bp bc)) (.int .i64 (14 : Nat))).run Try.prog w = .ok (.agg (ent bp bc 14)) w := by kernel_rfl
theorem index_ent15 (bp bc : Nat) (w : World) : (Instr.index 42 (.agg (ents bp bc)) (.int .i64 (15 : Nat))).run Try.prog w = .ok (.agg (ent bp bc 15)) w := by kernel_rfl
theorem index_ent16 (bp bc : Nat) (w : World) : (Instr.index 42 (.agg (ents bp bc)) (.int .i64 (16 : Nat))).run Try.prog w = .ok (.agg (ent bp bc 16)) w := by kernel_rfl
theorem index_ent17 (bp bc : Nat) (w : World) : (Instr.index 42 (.agg (ents bp bc)) (.int .i64 (17 : Nat))).run Try.prog w = .ok (.agg (ent bp bc 17)) w := by kernel_rfl
theorem index_ent18 (bp bc : Nat) (w : World) : (Instr.index 42 (.agg (ents bp bc)) (.int .i64 (18 : Nat))).run Try.prog w = .ok (.agg (ent bp bc 18)) w := by kernel_rfl
theorem index_ent19 (bp bc : Nat) (w : World) : (Instr.index 42 (.agg (ents bp bc)) (.int .i64 (19 : Nat))).run Try.prog w = .ok (.agg (ent bp bc 19)) w := by kernel_rfl
theorem index_ent (bp bc k : Nat) (hk : k < 20) (w : World) : (Instr.index 42 (.agg (ents bp bc)) (.int .i64 k)).run Try.prog w = .ok (.agg (ent bp bc k)) w := by
  have : k = 0 ∨ k = 1 ∨ k = 2 ∨ k = 3 ∨ k = 4 ∨ k = 5 ∨ k = 6 ∨ k = 7 ∨ k = 8 ∨ k = 9 ∨ k = 10 ∨ k = 11 ∨ k = 12 ∨ k = 13 ∨ k = 14 ∨ k = 15 ∨ k = 16 ∨ k = 17 ∨ k = 18 ∨ k = 19 := by omega
  rcases this with rfl | rfl | rfl | rfl | rfl | rfl | rfl | rfl | rfl | rfl | rfl | rfl | rfl | rfl | rfl | rfl | rfl | rfl | rfl | rfl
  · exact index_ent0 bp bc w
  · exact index_ent1 bp bc w
  · exact index_ent2 bp bc w
  · exact index_ent3 bp bc w
  · exact index_ent4 bp bc w
  · exact index_ent5 bp bc w
  · exact index_ent6 bp bc w
  · exact index_ent7 bp bc w
  · exact index_ent8 bp bc w
  · exact index_ent9 bp bc w
  · exact index_ent10 bp bc w
  · exact index_ent11 bp bc w
  · exact index_ent12 bp bc w
  · exact index_ent13 bp bc w
  · exact index_ent14 bp bc w
  · exact index_ent15 bp bc w
  · exact index_ent16 bp bc w
  · exact index_ent17 bp bc w
  · exact index_ent18 bp bc w
  · exact index_ent19 bp bc w
theorem enter_any (k : Nat) (hk : k < 20) (args : Array Value) (w : World) : (callFunc (fnum k) args).run Try.prog w = .ok (.enter (fnum k) args) w := by
  have : k = 0 ∨ k = 1 ∨ k = 2 ∨ k = 3 ∨ k = 4 ∨ k = 5 ∨ k = 6 ∨ k = 7 ∨ k = 8 ∨ k = 9 ∨ k = 10 ∨ k = 11 ∨ k = 12 ∨ k = 13 ∨ k = 14 ∨ k = 15 ∨ k = 16 ∨ k = 17 ∨ k = 18 ∨ k = 19 := by omega
  rcases this with rfl | rfl | rfl | rfl | rfl | rfl | rfl | rfl | rfl | rfl | rfl | rfl | rfl | rfl | rfl | rfl | rfl | rfl | rfl | rfl
  · exact Try.call26 args w
  · exact Try.call27 args w
  · exact Try.call28 args w
  · exact Try.call29 args w
  · exact Try.call30 args w
  · exact Try.call32 args w
  · exact Try.call33 args w
  · exact Try.call34 args w
  · exact Try.call35 args w
  · exact Try.call36 args w
  · exact Try.call37 args w
  · exact Try.call38 args w
  · exact Try.call39 args w
  · exact Try.call40 args w
  · exact Try.call41 args w
  · exact Try.call42 args w
  · exact Try.call43 args w
  · exact Try.call44 args w
  · exact Try.call45 args w
  · exact Try.call46 args w
theorem ent_one (bp bc k : Nat) : (ent bp bc k).all (·.oneCell') = true := by
  unfold ent pv qv
  cases isI k <;> simp [Value.oneCell']
theorem ent_at (bp bc k : Nat) : (ent bp bc k)[2]? = some (.func (.func (fnum k)) #[] #[.pointer (some ⟨bp, 0, none⟩)]) := rfl
theorem info41 : (Try.prog.info? 41).map (·.size) = some 3 := by kernel_rfl

theorem below_drewN {B : Nat} {a w : World} (h : Below B a w) (n : Nat) : Below B a (w.drewN n) := ⟨h.os, h.tape, h.output, h.size, h.block⟩
theorem check_any (c : Nat → Int) (w : World) :
    Calls Try.prog 11 #[.agg (cellsOf c)] w fun e w' => e = .returned (.int .i64 (chk c)) ∧ Below w.heap.size w w' := by
  unfold cellsOf
  go_enter Try.func11, Try.ntmps11
  go_wp2_with (first
    | (go_at_call 23; refine (entries_any _ _).mono ?_; rintro e w1 ⟨rfl, hb1, hbel1⟩))
  go_loopw [6] (fun v wr => ∃ k : Nat, k ≤ 20 ∧ v = .int .i64 (k : Int) ∧ Before c k ∧ Blk wr w.heap.size 24 (cellsOf c) ∧ Blk wr (w.heap.size + 1) 44 #[.pointer (some ⟨w.heap.size, 0, none⟩)] ∧ Below w.heap.size w wr) (fun v _ => (21 - intOf v).toNat)
  case atStart =>
    refine ⟨0, by omega, rfl, before_zero c, (Blk.new w 24 (cellsOf c)).below hbel1 (by simp), by simpa using hb1, ((Below.refl _ _).alloc (Nat.le_refl _) _).trans (hbel1.mono (by simp))⟩
  case round =>
    obtain ⟨k, hk, rfl, hbf, hb, hp, hbel⟩ := hrel
    have hlt := hb.lt
    have hlt2 := hp.lt
    clear hb1 hbel1
    by_cases h20 : k < 20
    · have hix : ∀ W, (Instr.index 42 (.agg (ents (w.heap.size + 1) w.heap.size)) (.int .i64 k)).run Try.prog W = .ok (.agg #[pv w.heap.size k, qv w.heap.size k, .func (.func (fnum k)) #[] #[.pointer (some ⟨w.heap.size + 1, 0, none⟩)]]) W := index_ent (w.heap.size + 1) w.heap.size k h20
      have hen := enter_any k h20
      cases hr : rightB c k with
      | false =>
        have R : Hid (∀ W (hp : W.cell? ⟨w.heap.size + 1, 0, none⟩ = some (.pointer (some ⟨w.heap.size, 0, none⟩))) (hc : Blk W w.heap.size 24 (cellsOf c)), _) := Lib.hid (fun W hp hc => holds_any k h20 (w.heap.size + 1) w.heap.size c W hp hc)
        rw [hr] at R
        have H := Lib.hid (chk_at h20 hbf hr)
        clear hr
        go_wp2_with (first
          | (refine wpList_store_row rfl _ _ _ rfl wr.heap.size #[pv w.heap.size k, qv w.heap.size k, .func (.func (fnum k)) #[] #[.pointer (some ⟨w.heap.size + 1, 0, none⟩)]] rfl rfl 41 _ (heap_alloc_new wr _) info41 rfl (ent_one _ _ _) ?_; rw [World.setRow_alloc_new])
          | (refine (R.out _ ((hp.alloc _).cell 0) (hb.alloc _)).mono ?_; rintro e w1 ⟨rfl, n, rfl⟩))
        go_ret
        exact ⟨ret_int H.out.symm, below_drewN (hbel.alloc (by omega) _) n⟩
      | true =>
        have R : Hid (∀ W (hp : W.cell? ⟨w.heap.size + 1, 0, none⟩ = some (.pointer (some ⟨w.heap.size, 0, none⟩))) (hc : Blk W w.heap.size 24 (cellsOf c)), _) := Lib.hid (fun W hp hc => holds_any k h20 (w.heap.size + 1) w.heap.size c W hp hc)
        rw [hr] at R
        have H := Lib.hid (before_succ hbf hr)
        clear hr
        go_wp2_with (first
          | (refine wpList_store_row rfl _ _ _ rfl wr.heap.size #[pv w.heap.size k, qv w.heap.size k, .func (.func (fnum k)) #[] #[.pointer (some ⟨w.heap.size + 1, 0, none⟩)]] rfl rfl 41 _ (heap_alloc_new wr _) info41 rfl (ent_one _ _ _) ?_; rw [World.setRow_alloc_new])
          | (refine (R.out _ ((hp.alloc _).cell 0) (hb.alloc _)).mono ?_; rintro e w1 ⟨rfl, n, rfl⟩))
        go_roundw
        case rel => exact ⟨k + 1, by omega, by go_num, H.out, (hb.alloc _).drewN n, (hp.alloc _).drewN n, below_drewN (hbel.alloc (by omega) _) n⟩
        case measure => simp [intOf]; omega
    · obtain rfl : k = 20 := by omega
      have H := Lib.hid (chk_none hbf)
      go_wp2
      go_ret
      exact ⟨ret_int H.out.symm, hbel⟩
end Go.Proofs.Ytlnpppifdobcfaa
