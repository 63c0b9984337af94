/- Assignments in memory; slices.Equal on them; same. -/
import Derived.Test.YtkeclanbebiogaaStep
import Derived.Test.YtkeclanbebiogaaSame
import Derived.Test.YtkeclanbebiogaaClass
import Derived.Laws.Tables
import Derived.Deep.MidRow
import Derived.Outline
namespace Go.Proofs.Ytkeclanbebiogaa
open Go Go.RowKit Go.Deep
set_option linter.unusedVariables false
set_option linter.unusedSimpArgs false
set_option maxRecDepth 100000

def rowT (i c e : Int) : List Value := [.int .i64 i, .int .i64 c, .int .i64 e]
def cellsT (i c e : Int) : Array Value := (rowT i c e).toArray
theorem cellsT_one (i c e : Int) : (cellsT i c e).all (·.oneCell') = true := by
  refine Array.all_eq_true_iff_forall_mem.2 (fun u hu => ?_)
  have hu : u ∈ rowT i c e := by simpa [cellsT] using hu
  simp only [rowT, List.mem_cons, List.not_mem_nil, or_false] at hu
  rcases hu with rfl | rfl | rfl <;> rfl
theorem infoAs : (Try.prog.info? 51).map (·.size) = some 3 := by kernel_rfl
theorem infoAd : (Try.prog.info? 90).map (·.size) = some 3 := by kernel_rfl
/-- A slice of assignments that reads as l, each to the epoch ep; its block is not one of S. -/
def AAt (w : World) (S : Nat → Prop) (a : Option Addr) (ep : Int) (l : List (Int × Int)) : Prop :=
  0 < l.length → ∃ b off, a = some ⟨b, off, none⟩ ∧ ¬ S b ∧ b < w.heap.size ∧ ∀ j p, l[j]? = some p → w.rangeAt b (off + j * 3) (rowT p.1 p.2 ep)
section
variable {w w' : World} {S T : Nat → Prop} {a : Option Addr} {ep : Int} {l : List (Int × Int)}
theorem AAt.kept (h : AAt w S a ep l) (k : Kept T w w') (hT : ∀ i, i < w.heap.size → T i → S i) : AAt w' S a ep l := fun h0 => by
  obtain ⟨b, off, h1, h2, h3, h4⟩ := h h0
  exact ⟨b, off, h1, h2, Nat.lt_of_lt_of_le h3 k.size, fun j p hp i v hv => k.cell (p := ⟨b, off + j * 3 + i, none⟩) (fun ht => h2 (hT _ h3 ht)) (h4 j p hp i v hv)⟩
theorem AAt.other (h : AAt w S a ep l) (hT : ∀ i, i < w.heap.size → T i → S i) : AAt w T a ep l := fun h0 => by
  obtain ⟨b, off, h1, h2, h3, h4⟩ := h h0
  exact ⟨b, off, h1, fun ht => h2 (hT b h3 ht), h3, h4⟩
theorem AAt.below (h : AAt w S a ep l) (hb : Below w.heap.size w w') : AAt w' S a ep l := fun h0 => by
  obtain ⟨b, off, h1, h2, h3, h4⟩ := h h0
  exact ⟨b, off, h1, h2, Nat.lt_of_lt_of_le h3 hb.size, fun j p hp i v hv => (hb.cell (p := ⟨b, off + j * 3 + i, none⟩) h3).trans (h4 j p hp i v hv)⟩
theorem AAt.drewN (h : AAt w S a ep l) (n : Nat) : AAt (w.drewN n) S a ep l := h
theorem rowA_at {ep : Int} {l : List (Int × Int)} {j : Nat} {p : Int × Int} (h : l[j]? = some p) {i : Nat} (hi : i < 3) : (rowA ep l)[j * 3 + i]? = (rowT p.1 p.2 ep)[i]? := by
  induction l generalizing j with
  | nil => simp at h
  | cons x l ih =>
    have e : rowA ep (x :: l) = rowT x.1 x.2 ep ++ rowA ep l := by simp [rowA, rowT]
    rw [e]
    cases j with
    | zero =>
      simp at h
      subst h
      rw [Nat.zero_mul, Nat.zero_add, List.getElem?_append_left (by simpa [rowT] using hi)]
    | succ j =>
      simp only [List.getElem?_cons_succ] at h
      rw [List.getElem?_append_right (by simp [rowT]; omega), show (j + 1) * 3 + i - (rowT x.1 x.2 ep).length = j * 3 + i by simp [rowT]; omega]
      exact ih h
/-- An owned row of assignments reads so. -/
theorem asg_of_owns {e : TypeId} {base n c : Nat} (h : w.ownsRow base e 3 (.slice a n c) n (rowA ep l)) (hn : n = l.length) (hS : ∀ i, (Value.slice a n c).ownBlock = some i → ¬ S i) : AAt w S a ep l := fun h0 => by
  rcases h.2 with ⟨e1, e2⟩ | ⟨g, cp, cur, e1, h1, h3, _⟩
  · injection e1 with _ e3 _
    omega
  · injection e1 with e1 _ e3
    subst e1 e3
    refine ⟨g, 0, rfl, hS g rfl, (Array.getElem?_eq_some_iff.1 h3).1, fun j p hp i v hv => ?_⟩
    have hi : i < 3 := (List.getElem?_eq_some_iff.1 hv).1
    have := h.cells (g := g) rfl (j * 3 + i) v ((rowA_at hp hi).trans hv)
    rw [add_plain] at this
    simpa [Nat.add_assoc] using this
/-- One assignment, just made. -/
theorem asg_one {g : Nat} {t : TypeId} {i c : Int} (h : Blk w g t (cellsT i c ep)) (hn : ¬ S g) : AAt w S (some ⟨g, 0, none⟩) ep [(i, c)] := fun _ =>
  ⟨g, 0, rfl, hn, h.lt, fun j p hp k v hv => by
    have hj : j = 0 := by have := (List.getElem?_eq_some_iff.1 hp).1; simp at this; exact this
    subst hj
    simp at hp
    subst hp
    rw [show 0 + 0 * 3 + k = k by omega, h.cell k]
    simpa [cellsT] using hv⟩
theorem eq_same51 (i c e : Int) (w : World) : (Op.equalIn 10000 51 (.agg (cellsT i c e)) (.agg (cellsT i c e))).run Try.prog w = .ok true w :=
  equal_struct_same w (cellsT i c e) Try.underlying51 (by kernel_rfl) (fun f hf => by
    simp only [List.mem_cons, List.not_mem_nil, or_false] at hf
    rcases hf with rfl | rfl | rfl
    · exact ⟨.i64, i, Try.underlying3, rfl⟩
    · exact ⟨.i64, c, Try.underlying3, rfl⟩
    · exact ⟨.i64, e, Try.underlying3, rfl⟩)
theorem guard51 : Try.prog.eqGuardType Try.prog.depth 51 = false := by kernel_rfl
theorem q_load_asg {ops : Array Oper} {rest : List Oper} {op : Oper} {a : Act} {C : World → Prop} {Qa : Act → Prop} (ty : TypeId) (x : Operand) (b o : Nat) (i c e : Int) (d : TypeDesc) (hw : Region.wanted op (yielded ops a.tmps) = true) (ho : op.op = .load ty x) (hx : a.eval x = .pointer (some ⟨b, o, none⟩))
    (hC : ∀ w, C w → w.rangeAt b o (rowT i c e)) (hu : Try.prog.underlying ty = some d) (hd : d.isRow = true) (hi : (Try.prog.info? ty).map (·.size) = some 3)
    (h : wpQuiet Try.prog ops C Qa rest (a.put op.dst (.agg (cellsT i c e)))) : wpQuiet Try.prog ops C Qa (op :: rest) a := by
  unfold wpQuiet
  rw [if_pos hw]
  refine ⟨_, fun w hc => ?_, h⟩
  unfold Oper.quietAt execOp
  simp only [ho, hx, Instr.loadAt, Instr.sureAddr, Sem.run_bind, Sem.run_pure, Result.andThen_ok, run_loadVar_mid w b o ty (rowT i c e) d (hC w hc) hu hd hi]
  exact ⟨rfl, rfl⟩
end
set_option maxHeartbeats 800000 in
theorem equal_asg (a b : Option Addr) (n cp cq : Nat) (ep : Int) (l : List (Int × Int)) (S S2 : Nat → Prop) (w : World) (h : AAt w S a ep l) (h2 : AAt w S2 b ep l) (hl : l.length ≤ 100000) (hn : l.length = n) :
    Calls Try.prog 28 #[.slice a n cp, .slice b n cq] w fun e w' => e = .returned (.bool true) ∧ ∃ m, w' = w.drewN m := by
  have HL := Lib.hid h
  have HM := Lib.hid h2
  rw [hn] at hl
  have HN := Lib.hid hn
  clear h h2 hn
  go_enter Try.func28, Try.ntmps28
  go_wp2
  go_loopw [13] (fun s13 wr => ∃ (k m : Nat), k ≤ n ∧ s13 = .int .i64 k ∧ wr = w.drewN m) (fun s13 _ => n - (intOf s13).toNat)
  case atStart => exact ⟨0, 0, by omega, rfl, rfl⟩
  case round =>
    obtain ⟨k, m, hk, rfl, rfl⟩ := hrel
    by_cases hlt : k < n
    · obtain ⟨v, hv⟩ : ∃ v, l[k]? = some v := ⟨_, List.getElem?_eq_getElem (by have := HN.out; omega)⟩
      obtain ⟨b1, o1, rfl, _, _, r1⟩ := HL.out (by have := HN.out; omega)
      obtain ⟨b2, o2, rfl, _, _, r2⟩ := HM.out (by have := HN.out; omega)
      have R1 := Lib.hid (r1 k v hv)
      have R2 := Lib.hid (r2 k v hv)
      have hk1 : ¬ (k : Int) < 0 := by omega
      have hk2 : ¬ (n : Int) ≤ (k : Int) := by omega
      have hk3 : (k : Int) < (n : Int) := by omega
      clear hv r1 r2
      go_wp2
      refine wp_region_class (fun w' => ∃ q, w' = w.drewN q) (by kernel_rfl) (by kernel_rfl) ⟨m + 1, rfl⟩ ?_
      iterate 3 (go_big_quiet_step ((intros; rfl)))
      refine q_load_asg 51 _ b1 (o1 + k * 3) v.1 v.2 ep _ rfl rfl rfl (fun w h => by obtain ⟨q, rfl⟩ := h; exact R1.out) Try.underlying51 rfl infoAs ?_
      simp only [Act.put, List.setIfInBounds_toArray, List.set_cons_zero, List.set_cons_succ]
      iterate 3 (go_big_quiet_step ((intros; rfl)))
      refine q_load_asg 51 _ b2 (o2 + k * 3) v.1 v.2 ep _ rfl rfl rfl (fun w h => by obtain ⟨q, rfl⟩ := h; exact R2.out) Try.underlying51 rfl infoAs ?_
      simp only [Act.put, List.setIfInBounds_toArray, List.set_cons_zero, List.set_cons_succ]
      refine q_val (.bool false) rfl (fun w => exec_same_neq w rfl rfl guard51 (eq_same51 _ _ _ w)) ?_
      simp only [Act.put, List.setIfInBounds_toArray, List.set_cons_zero, List.set_cons_succ]
      refine wpQuiet_nil ?_
      intro _ hw'
      obtain ⟨q, hw''⟩ := hw'
      subst hw''
      go_wp2
      go_roundw
      case rel => exact ⟨k + 1, q, by omega, by go_num, rfl⟩
      case measure => simp [intOf]; omega
    · obtain rfl : k = n := by omega
      clear hlt
      have hlt : ¬ k < k := by omega
      go_wp2
      go_ret
      exact ⟨rfl, m, rfl⟩
theorem same1_any (i c e : Int) (w : World) : Calls Try.prog 41 #[.agg (cellsT i c e), .agg (cellsT i c e)] w fun x w' => x = .returned (.bool true) ∧ Below w.heap.size w w' := by
  have he := fun w => eq_same51 i c e w
  have HB : Hid (Below w.heap.size w ((w.alloc (.cells (cellsT i c e) 51)).alloc (.cells (cellsT i c e) 90))) := Lib.hid (((Below.refl _ _).alloc (Nat.le_refl _) _).alloc (by simp) _)
  go_enter Try.func41, Try.ntmps41
  have H1 : Hid (Blk ((w.alloc (.cells (cellsT i c e) 51)).alloc (.cells (cellsT i c e) 90)) w.heap.size 51 (cellsT i c e)) := Lib.hid ((Blk.new w _ _).alloc _)
  have H2 : Hid (Blk ((w.alloc (.cells (cellsT i c e) 51)).alloc (.cells (cellsT i c e) 90)) (w.heap.size + 1) 90 (cellsT i c e)) := Lib.hid (by have := Blk.new (w.alloc (.cells (cellsT i c e) 51)) 90 (cellsT i c e); simpa using this)
  go_wp2_with (first | (refine wpList_load_row rfl 51 _ rfl w.heap.size rfl 51 (cellsT i c e) (0, 0) _ H1.out Try.underlying51 rfl infoAs ?_) | (refine wpList_load_row rfl 90 _ rfl (w.heap.size + 1) rfl 90 (cellsT i c e) (0, 0) _ H2.out Try.underlying90 rfl infoAd ?_))
  go_ret
  exact ⟨rfl, HB.out⟩
set_option maxHeartbeats 1600000 in
theorem equalf_asg (a b : Option Addr) (n cp cq : Nat) (ep : Int) (l : List (Int × Int)) (S S2 : Nat → Prop) (w : World) (h : AAt w S a ep l) (h2 : AAt w S2 b ep l) (hl : l.length ≤ 100000) (hn : l.length = n) :
    Calls Try.prog 40 #[.slice a n cp, .slice b n cq, .func (.func 41) #[] #[]] w fun e w' => e = .returned (.bool true) ∧ Below w.heap.size w w' := by
  have HL := Lib.hid h
  have HM := Lib.hid h2
  rw [hn] at hl
  have HN := Lib.hid hn
  clear h h2 hn
  go_enter Try.func40, Try.ntmps40
  go_wp2
  go_loopw [17] (fun s17 wr => ∃ k : Nat, k ≤ n ∧ s17 = .int .i64 k ∧ Hid (Below w.heap.size w wr)) (fun s17 _ => n - (intOf s17).toNat)
  case atStart => exact ⟨0, by omega, rfl, Lib.hid (Below.refl _ _)⟩
  case round =>
    obtain ⟨k, hk, rfl, HB⟩ := hrel
    by_cases hlt : k < n
    · obtain ⟨⟨i, c⟩, hv⟩ : ∃ v, l[k]? = some v := ⟨_, List.getElem?_eq_getElem (by have := HN.out; omega)⟩
      have HW : Hid (Below wr.heap.size wr ((wr.alloc (.cells (cellsT i c ep) 51)).alloc (.cells (cellsT i c ep) 90))) := Lib.hid (((Below.refl _ _).alloc (Nat.le_refl _) _).alloc (by simp) _)
      obtain ⟨b1, o1, rfl, _, hb1, r1⟩ := HL.out (by have := HN.out; omega)
      obtain ⟨b2, o2, rfl, _, hb2, r2⟩ := HM.out (by have := HN.out; omega)
      have R1 : Hid (wr.rangeAt b1 (o1 + k * 3) (rowT i c ep)) := Lib.hid (fun j u hu => (HB.out.cell (p := ⟨b1, o1 + k * 3 + j, none⟩) hb1).trans (r1 k _ hv j u hu))
      have R2 : Hid ((wr.alloc (.cells (cellsT i c ep) 51)).rangeAt b2 (o2 + k * 3) (rowT i c ep)) := Lib.hid (fun j u hu => ((HB.out.alloc HB.out.size _).cell (p := ⟨b2, o2 + k * 3 + j, none⟩) hb2).trans (r2 k _ hv j u hu))
      have H1 : Hid (Blk ((wr.alloc (.cells (cellsT i c ep) 51)).alloc (.cells (cellsT i c ep) 90)) wr.heap.size 51 (cellsT i c ep)) := Lib.hid ((Blk.new wr _ _).alloc _)
      have H2 : Hid (Blk ((wr.alloc (.cells (cellsT i c ep) 51)).alloc (.cells (cellsT i c ep) 90)) (wr.heap.size + 1) 90 (cellsT i c ep)) := Lib.hid (by have := Blk.new (wr.alloc (.cells (cellsT i c ep) 51)) 90 (cellsT i c ep); simpa using this)
      have HS2 : Hid (((wr.alloc (.cells (cellsT i c ep) 51)).alloc (.cells #[.int .i64 0, .int .i64 0, .int .i64 0] 90)).heap[wr.heap.size + 1]? = some (.cells #[.int .i64 0, .int .i64 0, .int .i64 0] 90 (0, 0))) := Lib.hid (by have := heap_alloc_new (wr.alloc (.cells (cellsT i c ep) 51)) (.cells #[.int .i64 0, .int .i64 0, .int .i64 0] 90); simpa using this)
      clear hv r1 r2
      go_wp2_with (first
        | (refine wpList_load_mid rfl 51 _ rfl b1 (o1 + k * 3) rfl (rowT i c ep) _ R1.out Try.underlying51 rfl infoAs ?_)
        | (refine wpList_load_mid rfl 90 _ rfl b2 (o2 + k * 3) rfl (rowT i c ep) _ R2.out Try.underlying90 rfl infoAd ?_)
        | (refine wpList_store_row rfl _ _ _ rfl wr.heap.size (cellsT i c ep) rfl rfl 51 _ (heap_alloc_new wr _) infoAs rfl (cellsT_one _ _ _) ?_; rw [World.setRow_alloc_new])
        | (refine wpList_store_row rfl _ _ _ rfl (wr.heap.size + 1) (cellsT i c ep) rfl rfl 90 _ HS2.out infoAd rfl (cellsT_one _ _ _) ?_; rw [setRow_alloc2])
        | (refine wpList_load_row rfl 51 _ rfl wr.heap.size rfl 51 (cellsT i c ep) (0, 0) _ H1.out Try.underlying51 rfl infoAs ?_)
        | (refine wpList_load_row rfl 90 _ rfl (wr.heap.size + 1) rfl 90 (cellsT i c ep) (0, 0) _ H2.out Try.underlying90 rfl infoAd ?_))
      refine (same1_any i c ep _).mono ?_
      rintro e w3 ⟨rfl, hb3⟩
      have HB3 : Hid (Below w.heap.size w w3) := Lib.hid (HB.out.trans ((HW.out.trans (hb3.mono (by simp; omega))).mono HB.out.size))
      clear hb3 HS2 H1 H2 R1 R2 HW HB
      go_wp2
      go_roundw
      case rel => exact ⟨k + 1, by omega, by go_num, HB3⟩
      case measure => simp [intOf]; omega
    · obtain rfl : k = n := by omega
      clear hlt
      have hlt : ¬ k < k := by omega
      go_wp2
      go_ret
      exact ⟨rfl, HB.out⟩
theorem same_any (a b : Option Addr) (n cp cq : Nat) (ep : Int) (l : List (Int × Int)) (S S2 : Nat → Prop) (w : World) (h : AAt w S a ep l) (h2 : AAt w S2 b ep l) (hl : l.length ≤ 100000) (hn : l.length = n) :
    Calls Try.prog 16 #[.slice a n cp, .slice b n cq] w fun e w' => e = .returned (.bool true) ∧ Below w.heap.size w w' := by
  have H := Lib.hid (equalf_asg a b n cp cq ep l S S2 w h h2 hl hn)
  clear h h2 hl hn
  go_enter Try.func16, Try.ntmps16
  go_wp2_with fail
  refine H.out.mono ?_
  rintro e w' ⟨rfl, hb⟩
  have HB := Lib.hid hb
  clear hb H
  go_wp2
  go_ret
  exact ⟨rfl, HB.out⟩
end Go.Proofs.Ytkeclanbebiogaa
