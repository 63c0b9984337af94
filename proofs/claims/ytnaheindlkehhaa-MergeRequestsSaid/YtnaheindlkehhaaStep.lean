/- Step. -/
import Derived.Test.YtnaheindlkehhaaBool
namespace Go.Proofs.Ytnaheindlkehhaa
open Go Go.RowKit Go.Deep
set_option linter.unusedVariables false
set_option linter.unusedSimpArgs false
set_option maxRecDepth 100000

/-- How many pairs a step performs. -/
def stepN (c : Nat → Int) (q : List (Int × Int)) : Nat := min (c 17).toNat q.length
/-- What the step has said so far, and falses. -/
def saidL (mb : Int) (l : List Val) (q : List (Int × Int)) (k m : Nat) : List Bool := stepD mb l (q.take k) ++ List.replicate (m - k) false
theorem said_zero (mb : Int) (l : List Val) (q : List (Int × Int)) (m : Nat) : saidL mb l q 0 m = List.replicate m false := by simp [saidL, stepD]
theorem said_len (mb : Int) (l : List Val) (q : List (Int × Int)) {k m : Nat} (hk : k ≤ m) (hm : m ≤ q.length) : (saidL mb l q k m).length = m := by
  simp only [saidL, List.length_append, stepD_len, List.length_take, List.length_replicate]
  omega
theorem said_next (mb : Int) (l : List Val) (q : List (Int × Int)) {k m : Nat} {p : Int × Int} (hp : q[k]? = some p) (hk : k < m) (hm : m ≤ q.length) :
    (saidL mb l q k m).set k (decide (reqM (stepL mb l (q.take k)) p mb = 0)) = saidL mb l q (k + 1) m := by
  have hl : (stepD mb l (q.take k)).length = k := by rw [stepD_len, List.length_take]; omega
  unfold saidL
  rw [List.set_append, hl, if_neg (by omega), Nat.sub_self, takeq_snoc hp, stepD_snoc, show m - k = (m - (k + 1)) + 1 by omega, List.replicate_succ, List.set_cons_zero]
  simp
theorem said_end (mb : Int) (l : List Val) (q : List (Int × Int)) (m : Nat) : saidL mb l q m m = stepD mb l (q.take m) := by simp [saidL]

theorem owns_up {w : World} {B n : Nat} {e : TypeId} {sz : Nat} {v : Value} {xs : List Value} (h : w.ownsRow 0 e sz v n xs) (hB : ∀ k, v.ownBlock = some k → B ≤ k) : w.ownsRow B e sz v n xs := by
  refine ⟨h.1, h.2.imp id ?_⟩
  rintro ⟨g, cp, cur, rfl, h1, h2⟩
  exact ⟨g, cp, cur, rfl, hB g rfl, h2⟩
/-- What stands in the midst of a step. -/
def StepAt (w wr : World) (v : Value) (n g : Nat) (L : List Val) (B : List Bool) (c : Nat → Int) : Prop :=
  wr.ownsRow (w.heap.size + 1) 24 7 v n (flat L) ∧ BlkB wr g B ∧ v.ownBlock ≠ some g ∧ w.heap.size < g ∧ Blk wr w.heap.size 26 (cellsOf c) ∧ Below w.heap.size w wr

set_option maxHeartbeats 1600000 in
theorem step_any (a b : Option Addr) (cp cq : Nat) (l : List Val) (q : List (Int × Int)) (c : Nat → Int) (w : World) (hL : Lst w (fun _ => False) a l) (hq : Prs w (fun _ => False) b q) (hf : ∀ v ∈ l, FitsV v) (h17 : 0 ≤ c 17) (hl : l.length ≤ 60) (hql : q.length ≤ 60) :
    Calls Try.prog 17 #[.slice a l.length cp, .slice b q.length cq, .agg (cellsOf c)] w fun e w' => ∃ v g, e = .returned (.tuple #[v, .slice (some ⟨g, 0, none⟩) (stepN c q) (stepN c q)]) ∧
      w'.ownsRow w.heap.size 24 7 v l.length (flat (stepL (c 6) l (q.take (stepN c q)))) ∧ BlkB w' g (stepD (c 6) l (q.take (stepN c q))) ∧ v.ownBlock ≠ some g ∧ w.heap.size ≤ g ∧ Below w.heap.size w w' := by
  obtain ⟨m, hm⟩ : ∃ m, stepN c q = m := ⟨_, rfl⟩
  have hmq : m ≤ q.length := by rw [← hm]; exact Nat.min_le_right _ _
  have hm1 : min (c 17) (q.length : Int) = (m : Int) := by rw [← hm]; unfold stepN; omega
  have hm2 : max (0 : Int) (m : Int) = (m : Int) := by omega
  rw [hm]
  have hm60 : m ≤ 60 := by omega
  have hmk := fun w => run_make_bools m (by omega) w
  have hB : Blk (w.alloc (.cells (cellsOf c) 26)) w.heap.size 26 (cellsOf c) := Blk.new _ _ _
  have b0 : Below w.heap.size w (w.alloc (.cells (cellsOf c) 26)) := (Below.refl _ _).alloc (Nat.le_refl _) _
  have HB := Lib.hid (And.intro hB b0)
  have HC := Lib.hid (clone_any (fun _ => False) a cp l (w.alloc (.cells (cellsOf c) 26)) (hL.below b0) (by omega))
  have HQ := Lib.hid hq
  have HF := Lib.hid (fun k => stepL_fits (c 6) (q.take k) l hf)
  have HS : Hid ((w.alloc (.cells (cellsOf c) 26)).heap.size = w.heap.size + 1) := Lib.hid (by simp)
  obtain ⟨n, hn⟩ : ∃ n, l.length = n := ⟨_, rfl⟩
  obtain ⟨nq, hnq⟩ : ∃ nq, q.length = nq := ⟨_, rfl⟩
  rw [hn] at HC ⊢
  rw [hnq] at hm1 hmq ⊢
  have HN := Lib.hid (And.intro hn hnq)
  clear hB b0 hL hq hf hm hn hnq
  go_enter Try.func17, Try.ntmps17
  go_upto_region 1 with (fail)
  generalize w.alloc (.cells (cellsOf c) 26) = W at *
  go_wp2_with fail
  refine HC.out.mono ?_
  rintro e w1 ⟨v, rfl, ho, b1⟩
  have x17 : w1.cell? ⟨w.heap.size, 17, none⟩ = some (.int .i64 (c 17)) := (HB.out.1.below b1 HB.out.1.lt).cell 17
  have H1 : Hid (w1.ownsRow (w.heap.size + 1) 24 7 v n (flat l) ∧ Blk w1 w.heap.size 26 (cellsOf c) ∧ Below w.heap.size w w1) := Lib.hid ⟨HS.out ▸ ho, HB.out.1.below b1 HB.out.1.lt, HB.out.2.trans (b1.mono HB.out.2.size)⟩
  clear ho b1 HB HC HS
  go_upto_region 3 with (fail)
  have A0 : Hid (StepAt w (w1.alloc (.cells (cellsB (List.replicate m false)) 4)) v n w1.heap.size (stepL (c 6) l (q.take 0)) (saidL (c 6) l q 0 m) c) := by
    rw [said_zero]
    refine Lib.hid ⟨World.ownsRow.alloc H1.out.1 _, Blk.new _ _ _, fun e => ?_, ?_, H1.out.2.1.alloc _, H1.out.2.2.alloc H1.out.2.2.size _⟩
    · have := (H1.out.1.lt _ e).2
      omega
    · have := H1.out.2.1.lt
      exact this
  have HV : Hid (∃ a' cp', v = .slice a' n cp' ∧ ∀ k, v.ownBlock = some k → w.heap.size < k) := Lib.hid (by
    obtain ⟨a', cp', e, -, -⟩ := owns_slice (owns_base H1.out.1 (Nat.zero_le _))
    exact ⟨a', cp', e, fun k hk => by have := (H1.out.1.lt k hk).1; omega⟩)
  clear H1 x17 hmk hm1 hm2
  obtain ⟨a', cp', hv, hvk⟩ := HV.out
  have HVK := Lib.hid hvk
  clear HV hvk
  subst hv
  generalize w1.alloc (.cells (cellsB (List.replicate m false)) 4) = W2 at *
  generalize w1.heap.size = g at *
  go_wp2
  go_loopw [22] (fun s22 wr => ∃ k : Nat, k ≤ m ∧ s22 = .int .i64 k ∧ Hid (StepAt w wr (.slice a' n cp') n g (stepL (c 6) l (q.take k)) (saidL (c 6) l q k m) c)) (fun s22 _ => m - (intOf s22).toNat)
  case atStart => exact ⟨0, by omega, rfl, A0⟩
  case round =>
    obtain ⟨k, hk, rfl, HA⟩ := hrel
    clear A0
    by_cases hlt : k < m
    · obtain ⟨p, hp⟩ : ∃ p, q[k]? = some p := ⟨_, List.getElem?_eq_getElem (by have := HN.out; omega)⟩
      obtain ⟨qb, qo, rfl, hrp⟩ := (HQ.out.below HA.out.2.2.2.2.2).at hp
      have hqb : qb < w.heap.size := by
        obtain ⟨b, off, h1, h2, h3, h4⟩ := HQ.out (by have := HN.out; omega)
        injection h1 with h1
        injection h1 with h1
        omega
      have HP := Lib.hid hp
      have HR := Lib.hid (And.intro hrp (And.intro hqb hmq))
      have k1 : ¬ (k : Int) < 0 := by omega
      have k2 : ¬ (nq : Int) ≤ (k : Int) := by omega
      have k3 : (k : Int) < (nq : Int) := by omega
      have j2 : ¬ (m : Int) ≤ (k : Int) := by omega
      have j3 : (k : Int) < (m : Int) := by omega
      clear hp hrp hqb
      go_upto_region 6 with (fail)
      refine wp_region_first (fun w' => w'.rangeAt qb (qo + k * 2) (pairRow p) ∧ Blk w' w.heap.size 26 (cellsOf c)) 9 1 [0, 1, 2, 3, 4, 5, 6, 7] (by kernel_rfl) (by kernel_rfl) ⟨HR.out.1, HA.out.2.2.2.2.1⟩ ?_
      simp only [List.filterMap_cons, List.filterMap_nil, List.getElem?_toArray, List.getElem?_cons_zero, List.getElem?_cons_succ]
      show wpQuiet _ _ _ _ [_, _, _, _, _, _, _, _] _
      iterate 5 (go_big_quiet_step ((intros; rfl)))
      refine q_load_pair 37 _ qb (qo + k * 2) p _ rfl rfl rfl (fun w' h => h.1) Try.underlying37 rfl infoP ?_
      simp only [Act.put, List.setIfInBounds_toArray, List.set_cons_zero, List.set_cons_succ]
      iterate 1 (go_big_quiet_step ((intros; rfl)))
      refine q_load 26 _ w.heap.size 26 (cellsOf c) _ rfl rfl rfl (fun w' h => h.2) Try.underlying26 rfl info24 ?_
      simp only [Act.put, List.setIfInBounds_toArray, List.set_cons_zero, List.set_cons_succ]
      refine wpQuiet_nil ?_
      refine headF_one (i := 8) (by kernel_rfl) (by omega) ?_
      have HL : Hid ((stepL (c 6) l (q.take k)).length = n) := Lib.hid (by rw [stepL_len]; exact HN.out.1)
      have HPF := Lib.hid (HL.out ▸ perform_any a' (stepL (c 6) l (q.take k)) cp' p c wr.drew (by rw [HL.out]; exact owns_base HA.out.1 (Nat.zero_le _)) (HF.out k) : Calls Try.prog 33 #[.agg (cellsP p), .slice a' n cp', .agg (cellsOf c)] wr.drew fun e w' => e = .returned (.bool (decide (reqM (stepL (c 6) l (q.take k)) p (c 6) = 0))) ∧
        w'.ownsRow 0 24 7 (.slice a' n cp') n (flat (stepOne (stepL (c 6) l (q.take k)) p (c 6))) ∧ Kept (fun i => (Value.slice a' n cp').ownBlock = some i) wr.drew w')
      refine wpOp_at rfl rfl (wp_call_at rfl #[.agg (cellsP p), .slice a' n cp', .agg (cellsOf c)] (by kernel_rfl) Try.call33 (HPF.out.mono ?_))
      rintro e w2 ⟨rfl, ho, kp⟩
      have A2 : Hid (StepAt w w2 (.slice a' n cp') n g (stepL (c 6) l (q.take (k + 1))) (saidL (c 6) l q k m) c) := by
        obtain ⟨h1, h2, h3, h4, h5, h6⟩ := HA.out
        have kp' : Kept (fun i => (Value.slice a' n cp').ownBlock = some i) wr w2 := (Kept.refl _ wr).drew.trans kp (fun _ _ h => h)
        rw [takeq_snoc HP.out, stepL_snoc]
        refine Lib.hid ⟨owns_up ho (fun i hi => HVK.out i hi), Blk.kept h2 kp' (fun e => h3 e), h3, h4, h5.kept kp' (fun e => ?_), Kept.below h6.drew kp (fun i hi => Nat.le_of_lt (HVK.out i hi)) h6.size⟩
        have := HVK.out _ e
        omega
      have R2 : Hid (w2.rangeAt qb (qo + k * 2) (pairRow p)) := Lib.hid (World.rangeAt.same HR.out.1 (kp.block qb (Nat.lt_of_lt_of_le HR.out.2.1 HA.out.2.2.2.2.2.size) (fun e => by
        have := HVK.out _ e
        have := HR.out.2.1
        omega)))
      clear ho kp HPF HL HA
      have LB := said_len (c 6) l q (k := k) (m := m) (by omega) (by rw [HN.out.2]; exact hmq)
      have z1 : w2.cell? ⟨g, k, none⟩ = some (.bool ((saidL (c 6) l q k m).getD k false)) := A2.out.2.1.cell (by omega)
      have z2 : w2.frozen? ⟨g, k, none⟩ = false := A2.out.2.1.frozen k
      have SN := Lib.hid (said_next (c 6) l q (k := k) (m := m) HP.out hlt (by rw [HN.out.2]; exact hmq))
      clear LB
      generalize decide (reqM (stepL (c 6) l (q.take k)) p (c 6) = 0) = r at *
      refine ⟨_, rfl, ⟨R2.out, A2.out.2.2.2.2.1⟩, ?_⟩
      show Region.seqB _ _ _ _ _ = true ∧ _
      refine ⟨by kernel_rfl, ?_⟩
      simp only [Act.put, List.getElem_toArray, List.getElem_cons_zero, List.getElem_cons_succ, List.setIfInBounds_toArray, List.set_cons_zero, List.set_cons_succ, List.drop_succ_cons, List.drop_zero]
      go_wp2
      refine NoPanic.normal ?_
      have A3 : Hid (StepAt w (w2.setCell ⟨g, k, none⟩ (.bool r)) (.slice a' n cp') n g (stepL (c 6) l (q.take (k + 1))) (saidL (c 6) l q (k + 1) m) c) := by
        obtain ⟨h1, h2, h3, h4, h5, h6⟩ := A2.out
        rw [← SN.out]
        refine Lib.hid ⟨owns_up (owns_same (owns_base h1 (Nat.zero_le _)) (fun i hi => Below.heap_setCell w2 _ _ i (fun e => h3 (by rw [hi]; exact congrArg some e)))) (fun i hi => HVK.out i hi), h2.set k r, h3, h4, h5.far (by simp only; omega) _, h6.setCell (by simp only; omega) _⟩
      clear A2 z1 z2 R2
      generalize w2.setCell ⟨g, k, none⟩ (.bool r) = w3 at *
      go_wp2
      go_roundw
      case rel => exact ⟨k + 1, by omega, by go_num, A3⟩
      case measure => simp [intOf]; omega
    · obtain rfl : k = m := by omega
      have HZ : Hid (StepAt w wr (.slice a' n cp') n g (stepL (c 6) l (q.take k)) (stepD (c 6) l (q.take k)) c) := by
        have := HA.out
        rw [said_end] at this
        exact Lib.hid this
      clear HA hlt
      have hlt : ¬ k < k := by omega
      go_wp2
      go_ret2
      obtain ⟨h1, h2, h3, h4, h5, h6⟩ := HZ.out
      exact ⟨_, _, rfl, owns_base h1 (by omega), h2, h3, by omega, h6⟩
end Go.Proofs.Ytnaheindlkehhaa
