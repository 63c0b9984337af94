/- The reference's Step. -/
import Derived.Test.YtbieokgdjhkebaaReqs
namespace Go.Proofs.Ytbieokgdjhkebaa
open Go Go.RowKit Go.Deep
set_option linter.unusedVariables false
set_option linter.unusedSimpArgs false
set_option maxRecDepth 100000

set_option maxHeartbeats 3200000 in
theorem refstep_any (a b : Option Addr) (cp cq : Nat) (l : List Val) (q : List Rq) (c : Nat → Int) (w : World) (hL : Lst w (fun _ => False) a l) (hq : LstR Rq.row 2 w (fun _ => False) b q) (hf : ∀ v ∈ l, FitsV v) (hfq : ∀ r ∈ q, FitsRq r) (h5 : 0 ≤ c 5) (h16 : 0 ≤ c 16) (hl : l.length ≤ 60) (hql : q.length ≤ 60) :
    Calls Try.prog 18 #[.slice a l.length cp, .slice b q.length cq, .agg (cellsOf c)] w fun e w' => ∃ v p, e = .returned (.tuple #[v, p, .int .i64 (stepN c q)]) ∧
      w'.ownsRow w.heap.size 33 7 v l.length (flat (stepL (c 5) l (q.take (stepN c q)))) ∧ w'.ownsRow w.heap.size 51 3 p (stepP (c 5) l (q.take (stepN c q))).length (flatR Py.row (stepP (c 5) l (q.take (stepN c q)))) ∧ Below w.heap.size w w' := by
  obtain ⟨m, hm⟩ : ∃ m, stepN c q = m := ⟨_, rfl⟩
  have hmq : m ≤ q.length := by rw [← hm]; exact Nat.min_le_right _ _
  have hmc : (m : Int) ≤ c 16 := by rw [← hm]; unfold stepN; omega
  have hme : ∀ k : Nat, k = m → (k : Int) < (q.length : Int) → ¬ (k : Int) < c 16 := fun k hk h1 => by rw [hk, ← hm] at h1 ⊢; unfold stepN at h1 ⊢; omega
  rw [hm]
  have hm60 : m ≤ 60 := by omega
  have hB : Blk (w.alloc (.cells (cellsOf c) 35)) w.heap.size 35 (cellsOf c) := Blk.new _ _ _
  have b0 : Below w.heap.size w (w.alloc (.cells (cellsOf c) 35)) := (Below.refl _ _).alloc (Nat.le_refl _) _
  have HB := Lib.hid (And.intro hB b0)
  have HL := Lib.hid (hL.below b0)
  have HQ := Lib.hid hq
  have HF := Lib.hid (fun k => stepL_fits (c 5) h5 (q.take k) l (fun r hr => hfq r (List.mem_of_mem_take hr)) hf)
  have HFQ := Lib.hid hfq
  have HP := Lib.hid (fun k => stepP_len (c 5) (q.take k) l)
  have HLEN := Lib.hid (flat_len l)
  have HS : Hid ((w.alloc (.cells (cellsOf c) 35)).heap.size = w.heap.size + 1) := Lib.hid (by simp)
  obtain ⟨j0, hj0, hz0, hs0, hby0⟩ := val_app
  obtain ⟨n, hn⟩ : ∃ n, l.length = n := ⟨_, rfl⟩
  obtain ⟨nq, hnq⟩ : ∃ nq, q.length = nq := ⟨_, rfl⟩
  rw [hn] at HLEN hl ⊢
  rw [hnq] at hmq hme ⊢
  have HN := Lib.hid (And.intro hn hnq)
  have HE := Lib.hid (And.intro hme hmc)
  have H5 := Lib.hid h5
  clear hB b0 hL hq hf hfq hm hn hnq hme hmc h5 h16
  go_enter Try.func18, Try.ntmps18
  go_upto_region 1 with (fail)
  generalize w.alloc (.cells (cellsOf c) 35) = W at *
  go_upto_region 2 with (at_builtin; refine wpList_append_src _ rfl (.tmp 16) (.tmp 17) 22 rfl W.heap.size 33 j0 _ 7 56 Try.underlying22 hj0 hz0 hs0 hby0 (cellsV_size _) (by omega) (.slice (some ⟨W.heap.size, 0, none⟩) 0 0) 0 [] rfl (owns_empty (Blk.new W _ _) (Nat.le_refl _)) a n cp (flat l) rfl (by rw [HLEN.out]) (fun h0 => lst_src HL.out ((Below.refl _ _).alloc (Nat.le_refl _) _) (by rw [HN.out.1]; exact h0)) flat_mem (by unfold maxLen; omega) (by omega) (by simp) ?_; intro u0 w1 ho hg hv)
  have A0 : Hid (RSt w w1 u0 (.slice none 0 0) n (stepL (c 5) l (q.take 0)) (stepP (c 5) l (q.take 0)) c) := by
    have hb : Below W.heap.size W w1 := below_only ((Below.refl _ W).alloc (Nat.le_refl _) _) (g := W.heap.size) hg (by simp) (Nat.le_refl _)
    have ho' : w1.ownsRow W.heap.size 33 7 u0 n (flat l) := by simpa using ho
    refine Lib.hid ⟨HS.out ▸ ho', World.ownsRow_nil _ _ _ _, HB.out.1.below hb HB.out.1.lt, HB.out.2.trans (hb.mono HB.out.2.size)⟩
  clear ho hg hv HB HL HS hj0 hz0 hs0 hby0
  obtain ⟨j0, hj0, hz0, hs0, hby0⟩ := appPy
  go_wp2
  go_loopw [9, 10, 11, 12, 13, 14, 15] (fun s9 s10 s11 s12 s13 s14 s15 wr => ∃ (k : Nat) (a' : Option Addr) (cp' : Nat), k ≤ m ∧ s12 = .int .i64 k ∧ s11 = .int .i64 k ∧ s9 = .slice a' n cp' ∧ Hid (RSt w wr (.slice a' n cp') s10 n (stepL (c 5) l (q.take k)) (stepP (c 5) l (q.take k)) c)) (fun _ _ _ s12 _ _ _ _ => m - (intOf s12).toNat)
  case atStart =>
    obtain ⟨a', cp', e, -, -⟩ := owns_slice (owns_base A0.out.1 (Nat.zero_le _))
    subst e
    exact ⟨0, a', cp', by omega, rfl, rfl, rfl, A0⟩
  case round =>
    obtain ⟨k, a', cp', hk, rfl, rfl, rfl, HA⟩ := hrel
    clear A0
    have zc : wr.cell? ⟨w.heap.size, 16, none⟩ = some (.int .i64 (c 16)) := HA.out.2.2.1.cell 16
    by_cases hlt : k < m
    · obtain ⟨r, hr⟩ : ∃ r, q[k]? = some r := ⟨_, List.getElem?_eq_getElem (by have := HN.out; omega)⟩
      obtain ⟨qb, qo, rfl, -, hqb, hrp⟩ := HQ.out.at hr
      have HR := Lib.hid hr
      have R1 : Hid (wr.rangeAt qb (qo + k * 2) r.row) := Lib.hid (rangeAt_same hrp (HA.out.2.2.2.block qb hqb))
      have k1 : ¬ (k : Int) < 0 := by omega
      have k2 : ¬ (nq : Int) ≤ (k : Int) := by omega
      have k3 : (k : Int) < (nq : Int) := by omega
      have d1 : decide (k < nq) = true := decide_eq_true (by omega)
      have d2 : decide ((k : Int) < c 16) = true := decide_eq_true (by have := HE.out.2; omega)
      have A1 : Hid (RSt w (wr.alloc (.cells (cellsRq r) 25)) (.slice a' n cp') u10 n (stepL (c 5) l (q.take k)) (stepP (c 5) l (q.take k)) c ∧ Blk (wr.alloc (.cells (cellsRq r) 25)) wr.heap.size 25 (cellsRq r)) := Lib.hid ⟨HA.out.next ((Below.refl _ _).alloc (Nat.le_refl _) _), Blk.new _ _ _⟩
      have E0 : Hid (stepL (c 5) l (q.take (k + 1)) = payL (stepL (c 5) l (q.take k)) r (c 5) ∧ stepP (c 5) l (q.take (k + 1)) = stepP (c 5) l (q.take k) ++ recP r.ix (payX (stepL (c 5) l (q.take k)) r (c 5))) := Lib.hid (by rw [takeq_snoc HR.out, stepL_snoc, stepP_snoc]; exact ⟨rfl, rfl⟩)
      have HLL : Hid ((stepL (c 5) l (q.take k)).length = n ∧ (∀ v ∈ stepL (c 5) l (q.take k), FitsV v) ∧ (stepP (c 5) l (q.take k)).length ≤ 60) := Lib.hid ⟨by rw [stepL_len]; exact HN.out.1, HF.out k, by have := HP.out k; rw [List.length_take] at this; omega⟩
      have HFR := Lib.hid (HFQ.out r (List.mem_of_getElem? hr))
      obtain ⟨L1, hL1⟩ : ∃ L1, stepL (c 5) l (q.take (k + 1)) = L1 := ⟨_, rfl⟩
      obtain ⟨P1, hP1⟩ : ∃ P1, stepP (c 5) l (q.take (k + 1)) = P1 := ⟨_, rfl⟩
      rw [hL1, hP1] at E0
      have EQ := Lib.hid (And.intro hL1 hP1)
      clear hL1 hP1
      generalize stepL (c 5) l (q.take k) = L at *
      generalize stepP (c 5) l (q.take k) = P at *
      clear hr hrp HA
      go_upto_region 9 with (first | (refine wpList_load_Rq rfl 25 _ rfl qb (qo + k * 2) rfl r _ R1.out Try.underlying25 rfl infoRqF ?_) | (refine wpList_store_row rfl _ _ _ rfl wr.heap.size (cellsRq r) rfl rfl 25 _ (heap_alloc_new wr _) infoRqF rfl (cellsRq_one _) ?_; rw [World.setRow_alloc_new]))
      clear R1 zc
      generalize wr.alloc (.cells (cellsRq r) 25) = w1 at *
      generalize wr.heap.size = rb at *
      have x0 : w1.cell? ⟨rb, 0, none⟩ = some (.int .i64 r.ix) := A1.out.2.cell 0
      have x1 : w1.cell? ⟨rb, 1, none⟩ = some (.int .u64 r.am) := A1.out.2.cell 1
      cases hin : inB r L.length with
      | false =>
        have E1 : Hid (L1 = L ∧ P1 = P) := Lib.hid ⟨E0.out.1.trans (by unfold payL; rw [if_neg (by rw [hin]; simp)]), E0.out.2.trans (by unfold payX; rw [if_neg (by rw [hin]; simp)]; simp [recP])⟩
        have hin' : ¬ (0 ≤ r.ix ∧ r.ix < n) := by
          have := of_decide_eq_false hin
          rwa [HLL.out.1] at this
        have Z : Hid (RSt w w1 (.slice a' n cp') u10 n L1 P1 c) := Lib.hid (by rw [E1.out.1, E1.out.2]; exact A1.out.1)
        by_cases h1 : r.ix < 0
        · have e1 : decide (r.ix < 0) = true := decide_eq_true h1
          clear A1 E0 E1 hin hin' h1 HLL
          go_wp2
          go_roundw
          case rel => exact ⟨k + 1, a', cp', by omega, by go_num, by go_num, rfl, by rw [EQ.out.1, EQ.out.2]; exact Z⟩
          case measure => simp [intOf]; omega
        · have e1 : decide (r.ix < 0) = false := decide_eq_false h1
          have e2 : decide ((n : Int) ≤ r.ix) = true := decide_eq_true (by omega)
          clear A1 E0 E1 hin hin' h1 HLL
          go_wp2
          go_roundw
          case rel => exact ⟨k + 1, a', cp', by omega, by go_num, by go_num, rfl, by rw [EQ.out.1, EQ.out.2]; exact Z⟩
          case measure => simp [intOf]; omega
      | true =>
        obtain ⟨i, v, hi, hv⟩ := in_at hin
        obtain ⟨_, p1, p2⟩ := pay_at (c 5) hi hv
        have hil := (List.getElem?_eq_some_iff.1 hv).1
        rw [HLL.out.1] at hil
        rw [hi] at x0
        have HX := Lib.hid hi
        have fv := HLL.out.2.1 v (List.mem_of_getElem? hv)
        have pb := paid_bounds (x := r.am) fv H5.out HFR.out.am.1
        have e1 : decide ((i : Int) < 0) = false := decide_eq_false (by omega)
        have e2 : decide ((n : Int) ≤ (i : Int)) = false := decide_eq_false (by omega)
        have i1 : ¬ (i : Int) < 0 := by omega
        have i2 : ¬ (n : Int) ≤ (i : Int) := by omega
        have i3 : (i : Int) < (n : Int) := by omega
        have HAV := Lib.hid (fun w => refavail_any v c w fv H5.out)
        have HPUT := Lib.hid (fun (w : World) (h : Lst w (fun _ => False) a' L) => put_any (fun _ => False) a' cp' i v (appV v r.am (c 5)) L w h (by rw [HLL.out.1]; omega) hv)
        rw [HLL.out.1] at HPUT
        obtain ⟨p, hp⟩ : ∃ p, paidX v r.am (c 5) = p := ⟨_, rfl⟩
        obtain ⟨A, hA⟩ : ∃ A, avail v (c 5) = A := ⟨_, rfl⟩
        have hmin : (if A < r.am then A else r.am) = p := by rw [← hp, paidX, hA]
        have hmin2 : min r.am A = p := by rw [← hmin]; split <;> omega
        obtain ⟨t, ht⟩ : ∃ t, v.bal - p = t := ⟨_, rfl⟩
        have hw : IntKind.u64.wrap (v.bal - p) = t := by
          have := fv.bal
          rw [hp] at pb
          rw [ht]
          have h3 : 0 ≤ t := by omega
          have h4 : t ≤ 18446744073709551615 := by omega
          simp [IntKind.wrap, IntKind.signed, IntKind.bits]; omega
        have E : Hid (cellsV (appV v r.am (c 5)) = (cellsV v).setIfInBounds 0 (.int .u64 t)) := Lib.hid (by rw [← ht, ← hp]; rfl)
        rw [hA] at HAV
        rw [hp] at p1 pb
        have E1 : Hid (L1 = L.set i (appV v r.am (c 5)) ∧ P1 = P ++ recP r.ix p) := Lib.hid ⟨E0.out.1.trans p2, by rw [E0.out.2, p1]⟩
        obtain ⟨u, hu⟩ : ∃ u, appV v r.am (c 5) = u := ⟨_, rfl⟩
        rw [hu] at E E1 HPUT
        have HLK : Hid (Lst w1 (fun _ => False) a' L) := Lib.hid (by have := owns_lst (S := fun _ => False) (l := L) (by rw [HLL.out.1]; exact owns_base A1.out.1.1 (Nat.zero_le _)) (fun _ _ h => h); exact this)
        obtain ⟨b1, o1, rfl, r1⟩ := HLK.out.at hv
        have RV := Lib.hid r1
        have HPB := Lib.hid pb
        clear r1 hv hi hin p1 p2 E0 pb hp hA ht hu fv
        go_upto_region 11 with (first | (refine wpList_load_val rfl 33 _ rfl b1 (o1 + i * 7) rfl v _ RV.out Try.underlying33 rfl infoV ?_) | (refine wpList_store_row rfl _ _ _ rfl w1.heap.size (cellsV v) rfl rfl 33 _ (heap_alloc_new w1 _) infoV rfl (cellsV_one _) ?_; rw [World.setRow_alloc_new]))
        have A2 : Hid (RSt w (w1.alloc (.cells (cellsV v) 33)) (.slice (some ⟨b1, o1, none⟩) n cp') u10 n L P c ∧ Blk (w1.alloc (.cells (cellsV v) 33)) rb 25 (cellsRq r) ∧ Blk (w1.alloc (.cells (cellsV v) 33)) w1.heap.size 33 (cellsV v) ∧ w.heap.size < w1.heap.size ∧ ∀ i, (Value.slice (some ⟨b1, o1, none⟩) n cp').ownBlock = some i → i ≠ w1.heap.size) := Lib.hid ⟨A1.out.1.next ((Below.refl _ _).alloc (Nat.le_refl _) _), A1.out.2.alloc _, Blk.new _ _ _, A1.out.1.2.2.1.lt, fun i hi => by have := (A1.out.1.1.lt i hi).2; omega⟩
        clear A1 RV HLK x0 x1
        generalize w1.alloc (.cells (cellsV v) 33) = w2 at *
        generalize w1.heap.size = vb at *
        simp only [Act.put]
        refine wp_region_class (fun w' => Below w2.heap.size w2 w') (by kernel_rfl) (by kernel_rfl) (Below.refl _ _).drew ?_
        iterate 1 (go_big_quiet_step ((intros; rfl)))
        refine q_cell 23 _ ⟨rb, 1, none⟩ (.int .u64 r.am) rfl rfl rfl (fun w h => by simp [go_sem, h]) (fun w' h => (h.cell (p := ⟨rb, 1, none⟩) A2.out.2.1.lt).trans (A2.out.2.1.cell 1)) ?_
        simp only [Act.put, List.setIfInBounds_toArray, List.set_cons_zero, List.set_cons_succ]
        refine q_load 33 _ vb 33 (cellsV v) _ rfl rfl rfl (fun w' h => A2.out.2.2.1.below h A2.out.2.2.1.lt) Try.underlying33 rfl infoV ?_
        simp only [Act.put, List.setIfInBounds_toArray, List.set_cons_zero, List.set_cons_succ]
        refine q_load 35 _ w.heap.size 35 (cellsOf c) _ rfl rfl rfl (fun w' h => A2.out.1.2.2.1.below h A2.out.1.2.2.1.lt) Try.underlying35 rfl info24 ?_
        simp only [Act.put, List.setIfInBounds_toArray, List.set_cons_zero, List.set_cons_succ]
        refine q_call (.int .u64 A) #[.agg (cellsV v), .agg (cellsOf c)] (by kernel_rfl) (by kernel_rfl) Try.call13 (fun w' h => (HAV.out w').mono fun e w'' ⟨he, hb⟩ => ⟨he, h.trans (hb.mono h.size)⟩) ?_
        simp only [Act.put, List.setIfInBounds_toArray, List.set_cons_zero, List.set_cons_succ]
        iterate 2 (go_big_quiet_step ((intros; rfl)))
        refine wpQuiet_nil ?_
        intro w3 b3
        have A3 : Hid (RSt w w3 (.slice (some ⟨b1, o1, none⟩) n cp') u10 n L P c ∧ Blk w3 rb 25 (cellsRq r) ∧ Blk w3 vb 33 (cellsV v)) := Lib.hid ⟨A2.out.1.next b3, A2.out.2.1.below b3 A2.out.2.1.lt, A2.out.2.2.1.below b3 A2.out.2.2.1.lt⟩
        have N3 := Lib.hid A2.out.2.2.2
        clear A2 b3 HAV
        have x0 : w3.cell? ⟨vb, 0, none⟩ = some (.int .u64 v.bal) := A3.out.2.2.cell 0
        have f0 := A3.out.2.2.frozen 0
        go_upto_region 13 with (fail)
        have A4 : Hid (RSt w (w3.setCell ⟨vb, 0, none⟩ (.int .u64 t)) (.slice (some ⟨b1, o1, none⟩) n cp') u10 n L P c ∧ Blk (w3.setCell ⟨vb, 0, none⟩ (.int .u64 t)) rb 25 (cellsRq r) ∧ Blk (w3.setCell ⟨vb, 0, none⟩ (.int .u64 t)) vb 33 (cellsV u)) := Lib.hid
          ⟨A3.out.1.set A3.out.2.2 N3.out.2 (Nat.le_of_lt N3.out.1) 0 _, A3.out.2.1.far (Blk.ne_ A3.out.2.1 A3.out.2.2 (by decide)) _, by rw [E.out]; exact A3.out.2.2.set_ 0 _⟩
        clear A3 x0 f0 N3 E hw hmin hmin2
        generalize w3.setCell ⟨vb, 0, none⟩ (.int .u64 t) = w4 at *
        have HLK : Hid (Lst w4 (fun _ => False) (some ⟨b1, o1, none⟩) L) := Lib.hid (by have := owns_lst (S := fun _ => False) (l := L) (by rw [HLL.out.1]; exact owns_base A4.out.1.1 (Nat.zero_le _)) (fun _ _ h => h); exact this)
        have x0 : w4.cell? ⟨rb, 0, none⟩ = some (.int .i64 (i : Int)) := (A4.out.2.1.cell 0).trans (by rw [← HX.out]; rfl)
        go_wp2_with (first | (refine wpList_load_row rfl 33 _ rfl vb rfl 33 _ (0, 0) _ A4.out.2.2 Try.underlying33 rfl infoV ?_))
        refine (HPUT.out w4 HLK.out).mono ?_
        rintro e w5 ⟨u', rfl, ho, b5⟩
        obtain ⟨a5, cp5, rfl, -, -⟩ := owns_slice (owns_base ho (Nat.zero_le _))
        have A5 : Hid (RSt w w5 (.slice a5 n cp5) u10 n (L.set i u) P c ∧ Blk w5 rb 25 (cellsRq r)) := Lib.hid ⟨A4.out.1.moved b5 ho, A4.out.2.1.below b5 A4.out.2.1.lt⟩
        clear A4 ho b5 HLK HPUT x0
        by_cases h0 : p = 0
        · have e0 : decide (0 < p) = false := decide_eq_false (by omega)
          have Z : Hid (RSt w w5 (.slice a5 n cp5) u10 n L1 P1 c) := Lib.hid (by rw [E1.out.1, E1.out.2, recP, if_pos h0, List.append_nil]; exact A5.out.1)
          clear h0 A5 E1
          go_wp2
          go_roundw
          case rel => exact ⟨k + 1, a5, cp5, by omega, by go_num, by go_num, rfl, by rw [EQ.out.1, EQ.out.2]; exact Z⟩
          case measure => simp [intOf]; omega
        · have e0 : decide (0 < p) = true := decide_eq_true (by have := HPB.out.1; omega)
          have x0 : w5.cell? ⟨rb, 0, none⟩ = some (.int .i64 (i : Int)) := (A5.out.2.cell 0).trans (by rw [← HX.out]; rfl)
          have E2 : Hid (P1 = P ++ [⟨(i : Int), p, false⟩]) := Lib.hid (by rw [E1.out.2, recP, if_neg h0, HX.out])
          clear h0
          go_wp2_with (first | (refine wpList_build_Py rfl 51 _ rfl ⟨(i : Int), p, false⟩ (by kernel_rfl) ?_) | (refine wpList_onePy rfl _ ⟨(i : Int), p, false⟩ rfl rfl ?_) | (at_builtin; refine wpList_append_src _ rfl (.tmp 70) (.tmp 75) 42 rfl (w.heap.size + 1) 51 j0 _ 3 24 Try.underlying42 hj0 hz0 hs0 hby0 (cellsPy_size _) (by omega) u10 P.length (flatR Py.row P) rfl (World.ownsRow.alloc A5.out.1.2.1 _) (some ⟨w5.heap.size, 0, none⟩) 1 1 (Py.row ⟨(i : Int), p, false⟩) rfl rfl (fun _ => ⟨_, rfl, newR_cells w5 _ _⟩) (Py.row_one _) (by have := HLL.out.2.2; unfold maxLen; omega) (by have := HLL.out.2.2; omega) (by have := A5.out.1.2.2.1.lt; simp; omega) ?_; intro v1 w8 ho hg hv))
          have Z : Hid (RSt w w8 (.slice a5 n cp5) v1 n L1 P1 c) := Lib.hid (by
            rw [E1.out.1, E2.out]
            exact (A5.out.1.next ((Below.refl _ _).alloc (Nat.le_refl _) _)).paid ho hg)
          clear ho hg hv A5 E1 E2 x0
          go_wp2
          go_roundw
          case rel => exact ⟨k + 1, a5, cp5, by omega, by go_num, by go_num, rfl, by rw [EQ.out.1, EQ.out.2]; exact Z⟩
          case measure => simp [intOf]; omega
    · obtain rfl : k = m := by omega
      have HZ := Lib.hid (And.intro (owns_base HA.out.1 (B := w.heap.size) (by omega)) (And.intro (ownsR_base HA.out.2.1 (C := w.heap.size) (by omega)) HA.out.2.2.2))
      by_cases hkq : k < nq
      · have d1 : decide (k < nq) = true := decide_eq_true hkq
        have d2 : decide ((k : Int) < c 16) = false := decide_eq_false (by have := HE.out.1 k rfl (by omega); omega)
        clear HA
        go_wp2
        go_ret3
        exact ⟨_, _, rfl, HZ.out⟩
      · have d1 : decide (k < nq) = false := decide_eq_false hkq
        clear HA
        go_wp2
        go_ret3
        exact ⟨_, _, rfl, HZ.out⟩
end Go.Proofs.Ytbieokgdjhkebaa
