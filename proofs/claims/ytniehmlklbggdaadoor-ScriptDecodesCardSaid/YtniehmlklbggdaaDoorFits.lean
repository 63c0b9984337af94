/- fits, length; Size. -/
import Derived.Test.YtniehmlklbggdaaDoorWrite
import Derived.Test.YtniehmlklbggdaaDoorFuncs
namespace Go.Proofs.YtniehmlklbggdaaDoor
open Go Go.RowKit
set_option linter.unusedVariables false
set_option linter.unusedSimpArgs false
set_option maxRecDepth 100000

theorem arm_od {ops : Array Oper} {rest : List Oper} {o : Oper} {c : Act} {w : World} {Q : Exit → Act → World → Prop} {l : List Od} {b off i : Nat} {d : Od} (hr : w.rangeAt b (off + i * 3) d.row) (hgd : o.guard = none) (x : Operand) (ho : o.op = .load 86 x) (hx : c.eval x = .pointer (some ⟨b, off + i * 3, none⟩))
    (K : wpList Tryd.prog ops Q rest (c.put o.dst (.agg (cellsOd d))) w) : wpList Tryd.prog ops Q (o :: rest) c w :=
  wpList_load_mid hgd 86 x ho b (off + i * 3) hx d.row _ hr Tryd.underlying86 rfl infoOd K
theorem szs_drop {l : List Od} {k : Nat} {d : Od} (h : l[k]? = some d) : szs (l.drop k) = d.sz + szs (l.drop (k + 1)) := by
  obtain ⟨hk, rfl⟩ := List.getElem?_eq_some_iff.1 h
  rw [List.drop_eq_getElem_cons hk, szs]
set_option maxHeartbeats 800000 in
theorem length_any (l : List Od) (len : Nat) (hl : l.length = len) (h10 : szs l ≤ 10) (a : Option Addr) (cap : Nat) (w : World) (h : OdL w a l) (hlen : len ≤ 2) :
    Calls Tryd.prog 67 #[.slice a len cap] w fun e w' => e = .returned (.int .i64 ((szs l + 1 : Nat) : Int)) ∧ Below w.heap.size w w' := by
  have H := Lib.hid h
  have HL := Lib.hid hl
  have HT := Lib.hid h10
  clear h hl h10
  go_enter Tryd.func67, Tryd.ntmps67
  go_wp2
  go_loopw [3, 5, 8] (fun v p i wr => ∃ (k y : Nat), k ≤ len ∧ i = .int .i64 k ∧ v = .int .i64 y ∧ Hid (y + szs (l.drop k) = szs l + 1) ∧ Hid (Below w.heap.size w wr)) (fun _ _ i _ => len - (intOf i).toNat)
  case atStart => exact ⟨0, 1, by omega, rfl, rfl, Lib.hid (by simp; omega), Lib.hid (Below.refl _ _)⟩
  case round =>
    obtain ⟨k, y, hk, rfl, rfl, HS, HB⟩ := hrel
    by_cases hlt : k < len
    · obtain ⟨d, hd⟩ : ∃ d, l[k]? = some d := ⟨_, List.getElem?_eq_getElem (by rw [HL.out]; exact hlt)⟩
      obtain ⟨b, off, rfl, _, hbl, hr⟩ := H.out.at hd
      have HS2 : Hid (y + d.sz + szs (l.drop (k + 1)) = szs l + 1) := Lib.hid (by have := HS.out; rw [szs_drop hd] at this; omega)
      have hy : y + d.sz ≤ 11 := by have := HS2.out; have := HT.out; omega
      have HR : Hid (wr.rangeAt b (off + k * 3) d.row) := Lib.hid (rangeAt_same hr (HB.out.block b hbl))
      obtain ⟨s, hs⟩ : ∃ s, d.sz = s := ⟨_, rfl⟩
      have hc0 : (wr.alloc (.cells (cellsOd d) 86)).cell? ⟨wr.heap.size, 0, none⟩ = some (.int .i64 (s : Int)) := by rw [← hs]; exact (Blk.new wr _ _).cell 0
      rw [hs] at hy HS2
      clear hr hbl hd hs
      go_wp2_with (first | (refine arm_od (l := l) HR.out rfl _ rfl rfl ?_) | (refine wpList_store_row rfl _ _ _ rfl wr.heap.size (cellsOd d) rfl rfl 86 _ (heap_alloc_new wr _) infoOd rfl (cellsOd_one d) ?_; rw [World.setRow_alloc_new]))
      refine ⟨⟨k + 1, y + s, by omega, by go_num, by go_num, HS2, Lib.hid (HB.out.alloc HB.out.size _)⟩, ?_⟩
      simp [intOf]; omega
    · obtain rfl : k = len := by omega
      have HE : Hid (y = szs l + 1) := Lib.hid (by have := HS.out; rw [List.drop_of_length_le (by rw [HL.out]; exact Nat.le_refl _)] at this; exact this)
      clear hlt HS
      have hlt : ¬ k < k := by omega
      go_wp2
      go_ret
      exact ⟨by rw [HE.out]; rfl, HB.out⟩

def fitB (d : Od) (o : Oq) : Bool := decide (d.get o / 2 ^ (8 * d.sz) = 0)
set_option maxHeartbeats 800000 in
theorem fits_any (d : Od) (o : Oq) (w : World) : Calls Tryd.prog 58 #[.agg (cellsOd d), .agg (cellsOq o)] w fun e w' => e = .returned (.bool (fitB d o)) ∧ Below w.heap.size w w' := by
  have HG := Lib.hid (fun w => get_any d o w)
  have HC := Lib.hid (call_get d)
  have B3 : Blk ((w.alloc (.cells (cellsOd d) 86)).alloc (.cells (cellsOq o) 35)) w.heap.size 86 (cellsOd d) := (Blk.new w _ _).alloc _
  have B5 : Blk ((w.alloc (.cells (cellsOd d) 86)).alloc (.cells (cellsOq o) 35)) (w.heap.size + 1) 35 (cellsOq o) := by
    have := Blk.new (w.alloc (.cells (cellsOd d) 86)) 35 (cellsOq o)
    rwa [show (w.alloc (.cells (cellsOd d) 86)).heap.size = w.heap.size + 1 by simp] at this
  have b0 : Below w.heap.size w ((w.alloc (.cells (cellsOd d) 86)).alloc (.cells (cellsOq o) 35)) := ((Below.refl _ _).alloc (Nat.le_refl _) _).alloc (by simp) _
  have HI : Hid (∀ w' : World, Keeps w.heap.size w.heap.size 86 (cellsOd d) w w' ∧ Keeps w.heap.size (w.heap.size + 1) 35 (cellsOq o) w w' → Calls Tryd.prog d.getF #[.agg (cellsOq o)] w' fun e w'' => e = .returned (.int .u64 (d.get o)) ∧ (Keeps w.heap.size w.heap.size 86 (cellsOd d) w w'' ∧ Keeps w.heap.size (w.heap.size + 1) 35 (cellsOq o) w w'')) :=
    Lib.hid fun w' hk => Keeps.call2 hk (HG.out w')
  have HK : Hid (Keeps w.heap.size w.heap.size 86 (cellsOd d) w ((w.alloc (.cells (cellsOd d) 86)).alloc (.cells (cellsOq o) 35)) ∧ Keeps w.heap.size (w.heap.size + 1) 35 (cellsOq o) w ((w.alloc (.cells (cellsOd d) 86)).alloc (.cells (cellsOq o) 35))) :=
    Lib.hid ⟨⟨B3, b0, b0.size⟩, ⟨B5, b0, b0.size⟩⟩
  obtain ⟨x, hx⟩ : ∃ x, d.get o = x := ⟨_, rfl⟩
  obtain ⟨f, hf⟩ : ∃ f, fitB d o = f := ⟨_, rfl⟩
  have HF : Hid (decide (x / 2 ^ (8 * d.sz) = 0) = f) := Lib.hid (by rw [← hx]; exact hf)
  rw [hf]
  rw [hx] at HI
  clear B3 B5 b0 hx hf HG
  go_enter Tryd.func58, Tryd.ntmps58
  go_upto_region 1 with (fail)
  generalize (w.alloc (.cells (cellsOd d) 86)).alloc (.cells (cellsOq o) 35) = W at *
  refine wp_region_class (fun w' => Keeps w.heap.size w.heap.size 86 (cellsOd d) w w' ∧ Keeps w.heap.size (w.heap.size + 1) 35 (cellsOq o) w w') (by kernel_rfl) (by kernel_rfl) ⟨HK.out.1.drew, HK.out.2.drew⟩ ?_
  iterate 1 (go_big_quiet_step ((intros; rfl)))
  refine q_cell 83 _ _ (.func (.func d.getF) #[] #[]) rfl rfl rfl (fun w h => by simp [go_sem, h]) (fun w h => Blk.cell h.1.1 1) ?_
  simp only [Act.put, List.setIfInBounds_toArray, List.set_cons_zero, List.set_cons_succ]
  refine q_load_Oq 35 _ (w.heap.size + 1) 0 o _ rfl rfl rfl (fun w' h => h.2.1.rangeOq) Tryd.underlying35 rfl infoOq ?_
  simp only [Act.put, List.setIfInBounds_toArray, List.set_cons_zero, List.set_cons_succ]
  refine q_callv (.int .u64 x) #[.agg (cellsOq o)] (by kernel_rfl) rfl (by kernel_rfl) HC.out HI.out ?_
  simp only [Act.put, List.setIfInBounds_toArray, List.set_cons_zero, List.set_cons_succ]
  iterate 1 (go_big_quiet_step ((intros; rfl)))
  refine q_cell 3 _ _ (.int .i64 (d.sz : Int)) rfl rfl rfl (fun w h => by simp [go_sem, h]) (fun w h => Blk.cell h.1.1 0) ?_
  simp only [Act.put, List.setIfInBounds_toArray, List.set_cons_zero, List.set_cons_succ]
  have hd8 : d.sz ≤ 8 := d.sz_le
  obtain ⟨s, hs⟩ : ∃ s, d.sz = s := ⟨_, rfl⟩
  rw [hs] at hd8 HF ⊢
  have e1 : IntKind.i64.wrap (8 * (s : Int)) = ((8 * s : Nat) : Int) := by simp [IntKind.wrap, IntKind.bits, IntKind.signed]; omega
  have e2 : Op.shift .shr .u64 x .i64 ((8 * s : Nat) : Int) = pure (.int .u64 (x / 2 ^ (8 * s))) := by
    rw [shift_shr .u64 .i64 x ((8 * s : Nat) : Int) (by omega) (by simp [IntKind.bits]; omega)]
    rfl
  refine q_val (.int .i64 ((8 * s : Nat) : Int)) rfl (fun w => by
    show ((Op.intArith .mul .i64 8 (s : Int)) >>= fun r => pure (Next.value r)).run _ _ = _
    rw [show Op.intArith .mul .i64 8 (s : Int) = pure (.int .i64 (IntKind.i64.wrap (8 * (s : Int)))) from rfl, e1]; rfl) ?_
  simp only [Act.put, List.setIfInBounds_toArray, List.set_cons_zero, List.set_cons_succ]
  refine q_val (.int .u64 (x / 2 ^ (8 * s))) rfl (fun w => by
    show ((Op.shift .shr .u64 x .i64 ((8 * s : Nat) : Int)) >>= fun r => pure (Next.value r)).run _ _ = _
    rw [e2]; rfl) ?_
  simp only [Act.put, List.setIfInBounds_toArray, List.set_cons_zero, List.set_cons_succ]
  refine q_val (.bool f) rfl (fun w => by
    rw [← HF.out]
    show ((Op.intCmp .eql (x / 2 ^ (8 * s)) 0) >>= fun r => pure (Next.value r)).run _ _ = _
    simp [go_sem]
    rfl) ?_
  simp only [Act.put, List.setIfInBounds_toArray, List.set_cons_zero, List.set_cons_succ]
  iterate 1 (go_big_quiet_step ((intros; rfl)))
  refine wpQuiet_nil ?_
  intro w5 b5
  have B5 := Lib.hid b5.1.2.1
  clear b5
  go_wp2
  go_ret
  exact ⟨rfl, B5.out⟩
/-! ### what Valid reckons -/
theorem fit_ix {o : Oq} (hf : FitsOq o) : fitB .ix o = decide (0 ≤ o.ix ∧ o.ix ≤ 65535) := by
  have h := hf.2.1
  simp [Lit.wf, IntKind.min, IntKind.max, IntKind.signed, IntKind.bits] at h
  simp only [fitB, Od.get, Od.sz, IntKind.wrap_u64]
  rw [show (2 : Int) ^ (8 * 2) = 65536 by decide]
  exact decide_eq_decide.2 (by omega)
theorem fit_tg {o : Oq} (hf : FitsOq o) : fitB .tg o = decide (0 ≤ o.tg ∧ o.tg ≤ 65535) := by
  have h := hf.2.2.1
  simp [Lit.wf, IntKind.min, IntKind.max, IntKind.signed, IntKind.bits] at h
  simp only [fitB, Od.get, Od.sz, IntKind.wrap_u64]
  rw [show (2 : Int) ^ (8 * 2) = 65536 by decide]
  exact decide_eq_decide.2 (by omega)
theorem fit_am {o : Oq} (hf : FitsOq o) : fitB .am o = true := by
  have h := u64_wf hf.2.2.2
  unfold fitB
  rw [decide_eq_true_eq]
  show o.am / 2 ^ (8 * 8) = 0
  rw [show (2 : Int) ^ (8 * 8) = 18446744073709551616 by decide]
  omega
/-- All operands fit, and what is left of the fields is zero. -/
def zerF (o : Oq) (l : List Od) : Oq := l.foldl (fun r d => d.set r 0) o
def validP (o : Oq) (l : List Od) : Bool := l.all (fun d => fitB d o) && decide (zerF o l = ⟨o.kd, 0, 0, 0⟩)
theorem idx_true (n : Int) : idxB n true = decide (0 ≤ n ∧ n ≤ 65535) := by rw [Bool.eq_iff_iff, idx_yes, decide_eq_true_eq]
theorem idx_false (n : Int) : idxB n false = decide (n = 0) := by simp [idxB]
theorem wI0 : IntKind.i64.wrap 0 = 0 := rfl
theorem validP_eq {o : Oq} {l : List Od} (hk : ods o.kd = some l) (hf : FitsOq o) : validP o l = validB o := by
  have F1 := fit_ix hf
  have F2 := fit_tg hf
  have F3 := fit_am hf
  obtain ⟨k, i, t, a⟩ := o
  simp only at hk F1 F2 F3
  have hu : ∀ d, usesB k d = l.contains d := fun d => by simp [usesB, hk]
  simp only [validP, validB, hk, hu, Option.isSome_some, Bool.true_and]
  rcases ods_cases k with ⟨rfl, e⟩ | ⟨rfl, e⟩ | ⟨rfl, e⟩ | ⟨rfl, e⟩ | ⟨rfl, e⟩ | ⟨rfl, e⟩ | ⟨rfl, e⟩ | ⟨_, e⟩
  all_goals rw [hk] at e
  all_goals first | cases e; done | (injection e with e; subst e)
  all_goals
    simp only [List.all_cons, List.all_nil, zerF, List.foldl_cons, List.foldl_nil, Od.set, wI0, F1, F2, F3, List.contains_cons, List.contains_nil, Oq.mk.injEq, true_and, and_true, show (Od.ix == Od.tg) = false from rfl, show (Od.ix == Od.am) = false from rfl, show (Od.tg == Od.ix) = false from rfl, show (Od.tg == Od.am) = false from rfl, show (Od.am == Od.ix) = false from rfl, show (Od.am == Od.tg) = false from rfl, beq_self_eq_true, Bool.or_false, Bool.or_true, Bool.false_or, Bool.true_or, Bool.and_true, Bool.true_and, idx_true, idx_false]
  all_goals
    rw [Bool.eq_iff_iff]
    simp [and_assoc]
end Go.Proofs.YtniehmlklbggdaaDoor
