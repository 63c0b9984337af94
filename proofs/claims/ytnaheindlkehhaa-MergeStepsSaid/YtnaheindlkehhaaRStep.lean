/- The reference's Step. -/
import Derived.Test.YtnaheindlkehhaaMove
namespace Go.Proofs.Ytnaheindlkehhaa
open Go Go.RowKit Go.Deep
set_option linter.unusedVariables false
set_option linter.unusedSimpArgs false
set_option maxRecDepth 100000

def boolsOf (D : List Bool) : List Value := D.map Value.bool
/-- What stands in the midst of the reference's step. -/
def RSt (w wr : World) (u v : Value) (n k : Nat) (L : List Val) (D : List Bool) (c : Nat → Int) : Prop :=
  wr.ownsRow (w.heap.size + 1) 24 7 u n (flat L) ∧ wr.ownsRow (w.heap.size + 1) 4 1 v k (boolsOf D) ∧ (∀ i, u.ownBlock = some i → v.ownBlock ≠ some i) ∧ Blk wr w.heap.size 26 (cellsOf c) ∧ Below w.heap.size w wr
theorem owns_sameB {w w' : World} {B n : Nat} {e : TypeId} {sz : Nat} {s : Value} {xs : List Value} (h : w.ownsRow B e sz s n xs) (hb : ∀ i, s.ownBlock = some i → w'.heap[i]? = w.heap[i]?) : w'.ownsRow B e sz s n xs := by
  refine ⟨h.1, h.2.imp id ?_⟩
  rintro ⟨g, cp, cur, rfl, h1, h2, h3⟩
  exact ⟨g, cp, cur, rfl, h1, (hb g rfl).trans h2, h3⟩
section
variable {w wr w' : World} {u v : Value} {n k : Nat} {L : List Val} {D : List Bool} {c : Nat → Int}
theorem RSt.next (h : RSt w wr u v n k L D c) (hb : Below wr.heap.size wr w') : RSt w w' u v n k L D c :=
  ⟨owns_sameB h.1 (fun i hi => hb.block i (h.1.lt i hi).2), owns_sameB h.2.1 (fun i hi => hb.block i (h.2.1.lt i hi).2), h.2.2.1, h.2.2.2.1.below hb h.2.2.2.1.lt, h.2.2.2.2.trans (hb.mono h.2.2.2.2.size)⟩
theorem RSt.moved (h : RSt w wr u v n k L D c) {u' : Value} {L' : List Val} (hb : Below wr.heap.size wr w') (ho : w'.ownsRow wr.heap.size 24 7 u' n (flat L')) : RSt w w' u' v n k L' D c := by
  have hc := h.2.2.2.1.lt
  refine ⟨owns_base ho hc, (h.next hb).2.1, fun i hi e => ?_, (h.next hb).2.2.2.1, (h.next hb).2.2.2.2⟩
  have h1 := (ho.lt i hi).1
  have h2 := (h.2.1.lt i e).2
  omega
theorem RSt.said (h : RSt w wr u v n k L D c) {v' : Value} {b : Bool} {A : World} (hA : Below wr.heap.size wr A) (ho : w'.ownsRow (w.heap.size + 1) 4 1 v' (k + 1) (boolsOf (D ++ [b]))) (hg : A.grownBy w' v.ownBlock) (hv : v'.ownBlock = v.ownBlock ∨ v'.ownBlock = some A.heap.size) : RSt w w' u v' n (k + 1) L (D ++ [b]) c := by
  have hr : ∀ i, i < wr.heap.size → v.ownBlock ≠ some i → w'.heap[i]? = wr.heap[i]? := fun i hi hn => (hg.block i (Nat.lt_of_lt_of_le hi hA.size) (fun e => hn e.symm)).trans (hA.block i hi)
  have hz := hA.size
  refine ⟨owns_sameB h.1 (fun i hi => hr i (h.1.lt i hi).2 (h.2.2.1 i hi)), ho, fun i hi e => ?_, ?_, ?_⟩
  · rcases hv with hv | hv
    · exact h.2.2.1 i hi (hv ▸ e)
    · rw [hv] at e
      injection e with e
      have := (h.1.lt i hi).2
      omega
  · exact (hr _ h.2.2.2.1.lt (fun e => by have := (h.2.1.lt _ e).1; omega)).trans h.2.2.2.1
  · have hb := h.2.2.2.2
    exact (hb.trans (hA.mono hb.size)).grown hg (Nat.le_trans hb.size hz) (fun q hq => by have := (h.2.1.lt q hq).1; omega)
end
set_option maxHeartbeats 1600000 in
theorem refstep_any (a b : Option Addr) (cp cq : Nat) (l : List Val) (q : List (Int × Int)) (c : Nat → Int) (w : World) (hL : Lst w (fun _ => False) a l) (hq : Prs w (fun _ => False) b q) (hf : ∀ v ∈ l, FitsV v) (h17 : 0 ≤ c 17) (hl : l.length ≤ 60) (hql : q.length ≤ 60) :
    Calls Try.prog 18 #[.slice a l.length cp, .slice b q.length cq, .agg (cellsOf c)] w fun e w' => ∃ u v, e = .returned (.tuple #[u, v]) ∧
      w'.ownsRow w.heap.size 24 7 u l.length (flat (stepL (c 6) l (q.take (stepN c q)))) ∧ w'.ownsRow w.heap.size 4 1 v (stepN c q) (boolsOf (stepD (c 6) l (q.take (stepN c q)))) ∧ Below w.heap.size w w' := by
  obtain ⟨m, hm⟩ : ∃ m, stepN c q = m := ⟨_, rfl⟩
  have hmq : m ≤ q.length := by rw [← hm]; exact Nat.min_le_right _ _
  have hmc : (m : Int) ≤ c 17 := by rw [← hm]; unfold stepN; omega
  have hme : ∀ k : Nat, k = m → (k : Int) < (q.length : Int) → ¬ (k : Int) < c 17 := fun k hk h1 => by rw [hk, ← hm] at h1 ⊢; unfold stepN at h1 ⊢; omega
  rw [hm]
  have hm60 : m ≤ 60 := by omega
  have hB : Blk (w.alloc (.cells (cellsOf c) 26)) w.heap.size 26 (cellsOf c) := Blk.new _ _ _
  have b0 : Below w.heap.size w (w.alloc (.cells (cellsOf c) 26)) := (Below.refl _ _).alloc (Nat.le_refl _) _
  have HB := Lib.hid (And.intro hB b0)
  have HL := Lib.hid (hL.below b0)
  have HQ := Lib.hid hq
  have HF := Lib.hid (fun k => stepL_fits (c 6) (q.take k) l hf)
  have HLEN := Lib.hid (flat_len l)
  have HS : Hid ((w.alloc (.cells (cellsOf c) 26)).heap.size = w.heap.size + 1) := Lib.hid (by simp)
  obtain ⟨j0, hj0, hz0, hs0, hby0⟩ := val_app
  obtain ⟨n, hn⟩ : ∃ n, l.length = n := ⟨_, rfl⟩
  obtain ⟨nq, hnq⟩ : ∃ nq, q.length = nq := ⟨_, rfl⟩
  rw [hn] at HLEN hl ⊢
  rw [hnq] at hmq hme ⊢
  have HN := Lib.hid (And.intro hn hnq)
  have HE := Lib.hid (And.intro hme hmc)
  clear hB b0 hL hq hf hm hn hnq hme hmc
  go_enter Try.func18, Try.ntmps18
  go_upto_region 1 with (fail)
  generalize w.alloc (.cells (cellsOf c) 26) = W at *
  go_upto_region 2 with (at_builtin; refine wpList_append_src _ rfl (.tmp 12) (.tmp 13) 34 rfl W.heap.size 24 j0 _ 7 56 Try.underlying34 hj0 hz0 hs0 hby0 (cellsV_size _) (by omega) (.slice (some ⟨W.heap.size, 0, none⟩) 0 0) 0 [] rfl (owns_empty (Blk.new W _ _) (Nat.le_refl _)) a n cp (flat l) rfl (by rw [HLEN.out]) (fun h0 => lst_src HL.out ((Below.refl _ _).alloc (Nat.le_refl _) _) (by rw [HN.out.1]; exact h0)) flat_mem (by unfold maxLen; omega) (by omega) (by simp) ?_; intro u0 w1 ho hg hv)
  have A0 : Hid (RSt w w1 u0 (.slice none 0 0) n 0 (stepL (c 6) l (q.take 0)) (stepD (c 6) l (q.take 0)) c) := by
    have hb : Below W.heap.size W w1 := below_only ((Below.refl _ W).alloc (Nat.le_refl _) _) (g := W.heap.size) hg (by simp) (Nat.le_refl _)
    have ho' : w1.ownsRow W.heap.size 24 7 u0 n (flat l) := by simpa using ho
    refine Lib.hid ⟨HS.out ▸ ho', World.ownsRow_nil _ _ _ _, fun i _ e => by simp [Value.ownBlock] at e, HB.out.1.below hb HB.out.1.lt, HB.out.2.trans (hb.mono HB.out.2.size)⟩
  clear ho hg hv HB HL HS hj0 hz0 hs0 hby0
  obtain ⟨j0, hj0, hz0, hs0, hby0⟩ := bool_info
  go_wp2
  go_loopw [8, 9, 10] (fun s8 s9 s10 wr => ∃ (k : Nat) (a' : Option Addr) (cp' : Nat), k ≤ m ∧ s10 = .int .i64 k ∧ s8 = .slice a' n cp' ∧ Hid (RSt w wr (.slice a' n cp') s9 n k (stepL (c 6) l (q.take k)) (stepD (c 6) l (q.take k)) c)) (fun _ _ s10 _ => m - (intOf s10).toNat)
  case atStart =>
    obtain ⟨a', cp', e, -, -⟩ := owns_slice (owns_base A0.out.1 (Nat.zero_le _))
    subst e
    exact ⟨0, a', cp', by omega, rfl, rfl, A0⟩
  case round =>
    obtain ⟨k, a', cp', hk, rfl, rfl, HA⟩ := hrel
    clear A0
    have zc : wr.cell? ⟨w.heap.size, 17, none⟩ = some (.int .i64 (c 17)) := HA.out.2.2.2.1.cell 17
    by_cases hlt : k < m
    · obtain ⟨p, hp⟩ : ∃ p, q[k]? = some p := ⟨_, List.getElem?_eq_getElem (by have := HN.out; omega)⟩
      obtain ⟨qb, qo, rfl, hrp⟩ := (HQ.out.below HA.out.2.2.2.2).at hp
      have hqb : qb < wr.heap.size := by
        obtain ⟨b, off, h1, h2, h3, h4⟩ := HQ.out (by have := HN.out; omega)
        injection h1 with h1
        injection h1 with h1
        have := HA.out.2.2.2.2.size
        omega
      have HP := Lib.hid hp
      have k1 : ¬ (k : Int) < 0 := by omega
      have k2 : ¬ (nq : Int) ≤ (k : Int) := by omega
      have k3 : (k : Int) < (nq : Int) := by omega
      have d1 : decide (k < nq) = true := decide_eq_true (by omega)
      have d2 : decide ((k : Int) < c 17) = true := decide_eq_true (by have := HE.out.2; omega)
      obtain ⟨p1, p2⟩ := p
      have HR : Hid (wr.cell? ⟨qb, qo + k * 2, none⟩ = some (.int .i64 p1) ∧ wr.cell? ⟨qb, qo + k * 2 + 1, none⟩ = some (.int .i64 p2) ∧ qb < wr.heap.size) := Lib.hid ⟨hrp 0 _ rfl, hrp 1 _ rfl, hqb⟩
      clear hp hrp hqb
      -- the round
      have HLL : Hid ((stepL (c 6) l (q.take k)).length = n) := Lib.hid (by rw [stepL_len]; exact HN.out.1)
      have HLK : Hid (Lst wr (fun _ => False) a' (stepL (c 6) l (q.take k))) := Lib.hid (by have := owns_lst (S := fun _ => False) (l := (stepL (c 6) l (q.take k))) (by rw [HLL.out]; exact owns_base HA.out.1 (Nat.zero_le _)) (fun _ _ h => h); exact this)
      by_cases hr : reqM (stepL (c 6) l (q.take k)) (p1, p2) (c 6) = 0
      · obtain ⟨i, j, s, d, e, hne, hi, hj, hc⟩ := req_in hr
        simp only [Prod.mk.injEq] at e
        obtain ⟨rfl, rfl⟩ := e
        have HRQ := Lib.hid (fun w (h : Lst w (fun _ => False) a' (stepL (c 6) l (q.take k))) => refreq_any (fun _ => False) a' (stepL (c 6) l (q.take k)) cp' ((i : Int), (j : Int)) c w h (HF.out k))
        rw [hr, HLL.out] at HRQ
        have E1 : Hid (stepOne (stepL (c 6) l (q.take k)) ((i : Int), (j : Int)) (c 6) = ((stepL (c 6) l (q.take k)).set i (mvS s)).set j (mvD s d)) := Lib.hid (by unfold stepOne; rw [if_pos hr]; simp only [moveL, Int.toNat_natCast, getD_of hi, getD_of hj])
        have E2 : Hid (decide (reqM (stepL (c 6) l (q.take k)) ((i : Int), (j : Int)) (c 6) = 0) = true) := Lib.hid (decide_eq_true hr)
        have HM := Lib.hid (fun w (h : Lst w (fun _ => False) a' (stepL (c 6) l (q.take k))) => refmove_any (fun _ => False) a' (stepL (c 6) l (q.take k)) cp' i j s d w h (by rw [HLL.out]; omega) hi hj hne (HF.out k s (List.mem_of_getElem? hi)) (HF.out k d (List.mem_of_getElem? hj)) (chk_ok hc).2.2.2.2.1)
        rw [HLL.out] at HM
        clear hr hi hj hne hc
        go_upto_region 6 with (fail)
        refine wp_region_class (fun w' => Below wr.heap.size wr w') (by kernel_rfl) (by kernel_rfl) (Below.refl _ _).drew ?_
        iterate 5 (go_big_quiet_step ((intros; rfl)))
        refine q_cell 3 _ ⟨qb, qo + k * 2, none⟩ (.int .i64 i) rfl rfl rfl (fun w h => by simp [go_sem, h]) (fun w' h => (h.cell (p := ⟨qb, qo + k * 2, none⟩) HR.out.2.2).trans HR.out.1) ?_
        simp only [Act.put, List.setIfInBounds_toArray, List.set_cons_zero, List.set_cons_succ]
        iterate 4 (go_big_quiet_step ((intros; rfl)))
        refine q_cell 3 _ ⟨qb, qo + k * 2 + 1, none⟩ (.int .i64 j) rfl rfl rfl (fun w h => by simp [go_sem, h]) (fun w' h => (h.cell (p := ⟨qb, qo + k * 2 + 1, none⟩) HR.out.2.2).trans HR.out.2.1) ?_
        simp only [Act.put, List.setIfInBounds_toArray, List.set_cons_zero, List.set_cons_succ]
        refine q_load 26 _ w.heap.size 26 (cellsOf c) _ rfl rfl rfl (fun w' h => HA.out.2.2.2.1.below h HA.out.2.2.2.1.lt) Try.underlying26 rfl info24 ?_
        simp only [Act.put, List.setIfInBounds_toArray, List.set_cons_zero, List.set_cons_succ]
        refine q_call (.int .i64 0) #[.slice a' n cp', .int .i64 i, .int .i64 j, .agg (cellsOf c)] (by kernel_rfl) (by kernel_rfl) Try.call16 (fun w' h => (HRQ.out w' (HLK.out.below h)).mono fun e w'' ⟨he, hb⟩ => ⟨he, h.trans (hb.mono h.size)⟩) ?_
        simp only [Act.put, List.setIfInBounds_toArray, List.set_cons_zero, List.set_cons_succ]
        iterate 2 (go_big_quiet_step ((intros; rfl)))
        refine wpQuiet_nil ?_
        intro w2 b2
        have A2 := Lib.hid (HA.out.next b2)
        have R2 : Hid (w2.cell? ⟨qb, qo + k * 2, none⟩ = some (.int .i64 i) ∧ w2.cell? ⟨qb, qo + k * 2 + 1, none⟩ = some (.int .i64 j)) := Lib.hid ⟨(b2.cell (p := ⟨qb, qo + k * 2, none⟩) HR.out.2.2).trans HR.out.1, (b2.cell (p := ⟨qb, qo + k * 2 + 1, none⟩) HR.out.2.2).trans HR.out.2.1⟩
        clear b2 HA HRQ HLK zc HR
        go_upto_region 8 with (fail)
        refine wp_region_first (fun w' => w'.cell? ⟨qb, qo + k * 2, none⟩ = some (.int .i64 i) ∧ w'.cell? ⟨qb, qo + k * 2 + 1, none⟩ = some (.int .i64 j)) 12 1 [0, 1, 2, 3, 4, 5, 6, 7, 8, 9, 10] (by kernel_rfl) (by kernel_rfl) R2.out ?_
        simp only [List.filterMap_cons, List.filterMap_nil, List.getElem?_toArray, List.getElem?_cons_zero, List.getElem?_cons_succ]
        show wpQuiet _ _ _ _ [_, _, _, _, _, _, _, _, _, _, _] _
        iterate 5 (go_big_quiet_step ((intros; rfl)))
        refine q_cell 3 _ ⟨qb, qo + k * 2, none⟩ (.int .i64 i) rfl rfl rfl (fun w h => by simp [go_sem, h]) (fun w' h => h.1) ?_
        simp only [Act.put, List.setIfInBounds_toArray, List.set_cons_zero, List.set_cons_succ]
        iterate 4 (go_big_quiet_step ((intros; rfl)))
        refine q_cell 3 _ ⟨qb, qo + k * 2 + 1, none⟩ (.int .i64 j) rfl rfl rfl (fun w h => by simp [go_sem, h]) (fun w' h => h.2) ?_
        simp only [Act.put, List.setIfInBounds_toArray, List.set_cons_zero, List.set_cons_succ]
        refine wpQuiet_nil ?_
        have A3 : Hid (RSt w w2.drew (.slice a' n cp') u9 n k (stepL (c 6) l (q.take k)) (stepD (c 6) l (q.take k)) c) := Lib.hid (A2.out.next (Below.refl _ _).drew)
        have HK3 : Hid (Lst w2.drew (fun _ => False) a' (stepL (c 6) l (q.take k))) := Lib.hid (by have := owns_lst (S := fun _ => False) (l := (stepL (c 6) l (q.take k))) (by rw [HLL.out]; exact owns_base A3.out.1 (Nat.zero_le _)) (fun _ _ h => h); exact this)
        have R3 : Hid (qb < w2.drew.heap.size) := Lib.hid (cell_lt R2.out.1)
        refine headF_one (i := 11) (by kernel_rfl) (by omega) ?_
        refine wpOp_at rfl rfl (wp_call_at rfl #[.slice a' n cp', .int .i64 i, .int .i64 j] (by kernel_rfl) Try.call14 ((HM.out w2.drew HK3.out).mono ?_))
        rintro e w3 ⟨u, rfl, ho, b3⟩
        obtain ⟨a3, cp3, rfl, -, -⟩ := owns_slice (owns_base ho (Nat.zero_le _))
        have A4 := Lib.hid (A3.out.moved b3 ho)
        have R4 : Hid (w3.cell? ⟨qb, qo + k * 2, none⟩ = some (.int .i64 i) ∧ w3.cell? ⟨qb, qo + k * 2 + 1, none⟩ = some (.int .i64 j)) := Lib.hid ⟨(b3.cell (p := ⟨qb, qo + k * 2, none⟩) R3.out).trans R2.out.1, (b3.cell (p := ⟨qb, qo + k * 2 + 1, none⟩) R3.out).trans R2.out.2⟩
        clear ho b3 A3 A2 HK3 HM R2
        refine ⟨_, rfl, R4.out, ?_⟩
        show Region.seqB _ _ _ _ _ = true ∧ _
        refine ⟨by kernel_rfl, ?_⟩
        simp only [Act.put, List.getElem_toArray, List.getElem_cons_zero, List.getElem_cons_succ, List.setIfInBounds_toArray, List.set_cons_zero, List.set_cons_succ, List.drop_succ_cons, List.drop_zero]
        go_wp2
        refine NoPanic.normal ?_
        go_wp2_with (at_builtin; refine wpList_append_src _ rfl (.tmp 54) (.tmp 56) 42 rfl (w.heap.size + 1) 4 j0 _ 1 1 Try.underlying42 hj0 hz0 hs0 hby0 rfl Nat.one_pos u9 k (boolsOf (stepD (c 6) l (q.take k))) rfl (World.ownsRow.alloc A4.out.2.1 _) (some ⟨w3.heap.size, 0, none⟩) 1 1 [.bool true] rfl rfl (fun _ => ⟨_, rfl, cell_one_new w3 _ _⟩) (by simp [Value.oneCell']) (by unfold maxLen; omega) (by omega) (by have := A4.out.2.2.2.1.lt; simp; omega) ?_; intro v1 w8 ho hg hv)
        have A8 : Hid (RSt w w8 (.slice a3 n cp3) v1 n (k + 1) (stepL (c 6) l (q.take (k + 1))) (stepD (c 6) l (q.take (k + 1))) c) := by
          rw [takeq_snoc HP.out, stepL_snoc, stepD_snoc, E1.out, E2.out]
          exact Lib.hid (RSt.said A4.out ((Below.refl _ w3).alloc (Nat.le_refl _) _) (by rw [show boolsOf ((stepD (c 6) l (q.take k)) ++ [true]) = boolsOf (stepD (c 6) l (q.take k)) ++ [.bool true] from List.map_append]; exact ho) hg hv)
        clear ho hg hv A4
        go_wp2
        go_roundw
        case rel => exact ⟨k + 1, a3, cp3, by omega, by go_num, rfl, A8⟩
        case measure => simp [intOf]; omega
      · have hrb : (reqM (stepL (c 6) l (q.take k)) (p1, p2) (c 6) == 0) = false := by simpa using hr
        have HRQ := Lib.hid (fun w (h : Lst w (fun _ => False) a' (stepL (c 6) l (q.take k))) => refreq_any (fun _ => False) a' (stepL (c 6) l (q.take k)) cp' (p1, p2) c w h (HF.out k))
        rw [HLL.out] at HRQ
        have E1 : Hid (stepOne (stepL (c 6) l (q.take k)) (p1, p2) (c 6) = (stepL (c 6) l (q.take k))) := Lib.hid (if_neg hr)
        have E2 : Hid (decide (reqM (stepL (c 6) l (q.take k)) (p1, p2) (c 6) = 0) = false) := Lib.hid (decide_eq_false hr)
        have HRQ : Hid (∀ w, Lst w (fun _ => False) a' (stepL (c 6) l (q.take k)) → Calls Try.prog 16 #[.slice a' n cp', .int .i64 p1, .int .i64 p2, .agg (cellsOf c)] w fun e w' => e = .returned (.int .i64 (reqM (stepL (c 6) l (q.take k)) (p1, p2) (c 6))) ∧ Below w.heap.size w w') := HRQ
        obtain ⟨r, hrr⟩ : ∃ r, reqM (stepL (c 6) l (q.take k)) (p1, p2) (c 6) = r := ⟨_, rfl⟩
        rw [hrr] at HRQ hrb
        clear hr hrr
        go_upto_region 6 with (fail)
        refine wp_region_class (fun w' => Below wr.heap.size wr w') (by kernel_rfl) (by kernel_rfl) (Below.refl _ _).drew ?_
        iterate 5 (go_big_quiet_step ((intros; rfl)))
        refine q_cell 3 _ ⟨qb, qo + k * 2, none⟩ (.int .i64 p1) rfl rfl rfl (fun w h => by simp [go_sem, h]) (fun w' h => (h.cell (p := ⟨qb, qo + k * 2, none⟩) HR.out.2.2).trans HR.out.1) ?_
        simp only [Act.put, List.setIfInBounds_toArray, List.set_cons_zero, List.set_cons_succ]
        iterate 4 (go_big_quiet_step ((intros; rfl)))
        refine q_cell 3 _ ⟨qb, qo + k * 2 + 1, none⟩ (.int .i64 p2) rfl rfl rfl (fun w h => by simp [go_sem, h]) (fun w' h => (h.cell (p := ⟨qb, qo + k * 2 + 1, none⟩) HR.out.2.2).trans HR.out.2.1) ?_
        simp only [Act.put, List.setIfInBounds_toArray, List.set_cons_zero, List.set_cons_succ]
        refine q_load 26 _ w.heap.size 26 (cellsOf c) _ rfl rfl rfl (fun w' h => HA.out.2.2.2.1.below h HA.out.2.2.2.1.lt) Try.underlying26 rfl info24 ?_
        simp only [Act.put, List.setIfInBounds_toArray, List.set_cons_zero, List.set_cons_succ]
        refine q_call (.int .i64 r) #[.slice a' n cp', .int .i64 p1, .int .i64 p2, .agg (cellsOf c)] (by kernel_rfl) (by kernel_rfl) Try.call16 (fun w' h => (HRQ.out w' (HLK.out.below h)).mono fun e w'' ⟨he, hb⟩ => ⟨he, h.trans (hb.mono h.size)⟩) ?_
        simp only [Act.put, List.setIfInBounds_toArray, List.set_cons_zero, List.set_cons_succ]
        iterate 2 (go_big_quiet_step ((intros; rfl)))
        refine wpQuiet_nil ?_
        intro w2 b2
        have A2 := Lib.hid (HA.out.next b2)
        have R2 : Hid (w2.cell? ⟨qb, qo + k * 2, none⟩ = some (.int .i64 p1) ∧ w2.cell? ⟨qb, qo + k * 2 + 1, none⟩ = some (.int .i64 p2)) := Lib.hid ⟨(b2.cell (p := ⟨qb, qo + k * 2, none⟩) HR.out.2.2).trans HR.out.1, (b2.cell (p := ⟨qb, qo + k * 2 + 1, none⟩) HR.out.2.2).trans HR.out.2.1⟩
        clear b2 HA HRQ HLK zc HR
        go_wp2_with (at_builtin; refine wpList_append_src _ rfl (.tmp 54) (.tmp 56) 42 rfl (w.heap.size + 1) 4 j0 _ 1 1 Try.underlying42 hj0 hz0 hs0 hby0 rfl Nat.one_pos u9 k (boolsOf (stepD (c 6) l (q.take k))) rfl (World.ownsRow.alloc A2.out.2.1 _) (some ⟨w2.heap.size, 0, none⟩) 1 1 [.bool false] rfl rfl (fun _ => ⟨_, rfl, cell_one_new w2 _ _⟩) (by simp [Value.oneCell']) (by unfold maxLen; omega) (by omega) (by have := A2.out.2.2.2.1.lt; simp; omega) ?_; intro v1 w8 ho hg hv)
        have A8 : Hid (RSt w w8 (.slice a' n cp') v1 n (k + 1) (stepL (c 6) l (q.take (k + 1))) (stepD (c 6) l (q.take (k + 1))) c) := by
          rw [takeq_snoc HP.out, stepL_snoc, stepD_snoc, E1.out, E2.out]
          exact Lib.hid (RSt.said A2.out ((Below.refl _ w2).alloc (Nat.le_refl _) _) (by rw [show boolsOf ((stepD (c 6) l (q.take k)) ++ [false]) = boolsOf (stepD (c 6) l (q.take k)) ++ [.bool false] from List.map_append]; exact ho) hg hv)
        clear ho hg hv A2
        go_wp2
        go_roundw
        case rel => exact ⟨k + 1, a', cp', by omega, by go_num, rfl, A8⟩
        case measure => simp [intOf]; omega
    · obtain rfl : k = m := by omega
      have HZ := Lib.hid (And.intro (owns_base HA.out.1 (B := w.heap.size) (by omega)) (And.intro (owns_base HA.out.2.1 (B := w.heap.size) (by omega)) HA.out.2.2.2.2))
      by_cases hkq : k < nq
      · have d1 : decide (k < nq) = true := decide_eq_true hkq
        have d2 : decide ((k : Int) < c 17) = false := decide_eq_false (by have := HE.out.1 k rfl (by omega); omega)
        clear HA
        go_wp2
        go_ret2
        exact ⟨_, _, rfl, HZ.out⟩
      · have d1 : decide (k < nq) = false := decide_eq_false hkq
        clear HA
        go_wp2
        go_ret2
        exact ⟨_, _, rfl, HZ.out⟩
end Go.Proofs.Ytnaheindlkehhaa
