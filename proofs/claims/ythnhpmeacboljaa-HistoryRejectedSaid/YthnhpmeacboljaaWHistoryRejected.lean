/- Pairs whose receipt has an error do not matter, except for Len (written by mkrej.py). -/
import Derived.Test.YthnhpmeacboljaaOwnI
namespace Go.Proofs.Ythnhpmeacboljaa
open Go Go.RowKit Go.Deep
set_option linter.unusedVariables false
set_option linter.unusedSimpArgs false
set_option maxRecDepth 100000

/-- Two logs that keep the same. -/
structure Duo (w x : World) (b m : Nat) (s : St) (n1 n2 : Int) : Prop where
  one : ∃ T, LgAt x b T s n1
  two : ∃ T, LgAt x m T s n2
  bel : Below w.heap.size w x
theorem Duo.below {w x x' : World} {b m : Nat} {s : St} {n1 n2 : Int} (h : Duo w x b m s n1 n2) (hb : Below x.heap.size x x') : Duo w x' b m s n1 n2 :=
  ⟨h.one.imp fun _ k => k.below hb, h.two.imp fun _ k => k.below hb, h.bel.trans (hb.mono h.bel.size)⟩
theorem rowpost_lst {α : Type} {row : α → List Value} {k : Nat} {e : TypeId} {w w' : World} {l : List α} {r : Ending} (hk : ∀ v, (row v).length = k) (h : RowPost row k e w l r w') : ∃ a cp, r = .returned (.slice a l.length cp) ∧ LstR row k w' (fun _ => False) a l ∧ Below w.heap.size w w' := by
  obtain ⟨a, cp, h1, h2, h3⟩ := h
  obtain ⟨a', c', e1, -, -, l1⟩ := ownsR_lst (S := fun _ => False) hk h2 rfl (fun _ _ h => h)
  injection e1 with e1 _ e1b
  exact ⟨a, cp, h1, by rw [e1]; exact l1, h3⟩
def accL (L : List Ev) : List Ev := L.filter fun e => decide (e.r.cd = 0)
set_option maxHeartbeats 6400000 in
theorem walk_HistoryRejected (a0 : Option Addr) (len0 cap0 : Nat) (a1 : Int) (w : World) (w0 : IsPqs w a0 len0 cap0) (w1 : (Lit.int .i64 a1).wf = true) :
    Calls Try.prog 6 #[.slice a0 len0 cap0, .int .i64 a1] w fun e w' => e = .returned (.bool true) ∧ Below w.heap.size w w' := by
  obtain ⟨L, hl, -, -, hp⟩ := pairs_of w0
  have HB := Lib.hid (build_law a0 len0 cap0 L w hp hl)
  have HP := Lib.hid hp
  have HL := Lib.hid hl
  have HI := Lib.hid w1
  have HV := Lib.hid alive_any
  clear w0 hp hl w1
  go_enter Try.func6, Try.ntmps6
  go_wp2_with (fail)
  refine HB.out.mono ?_
  clear HB
  rintro e x1 (⟨hn, hf, b, rb, rfl, hb⟩ | ⟨rfl, hb⟩)
  · have H1 := Lib.hid hb.two
    have HF := Lib.hid hf
    clear hb hf
    go_wp2_with (fail)
    have H0 : Hid (x1.ownsRow w.heap.size 62 13 (.slice none 0 0) 0 (flatR Pq.row ((accL (L.take 0)).map pq)) ∧ (accL (L.take 0)).length = 0 ∧ Below x1.heap.size x1 x1) := Lib.hid ⟨⟨rfl, .inl ⟨rfl, rfl⟩⟩, rfl, Below.refl _ _⟩
    obtain ⟨n1, hn1⟩ : ∃ n1, x1.heap.size = n1 := ⟨_, rfl⟩
    have HN1 := Lib.hid hn1
    have H0' : Hid (x1.ownsRow n1 62 13 (.slice none 0 0) 0 (flatR Pq.row ((accL (L.take 0)).map pq)) ∧ (accL (L.take 0)).length = 0 ∧ Below n1 x1 x1) := Lib.hid ⟨⟨rfl, .inl ⟨rfl, rfl⟩⟩, rfl, Below.refl _ _⟩
    clear H0 hn1
    go_loopw [7, 26] (fun s7 s26 wr => ∃ (k : Nat) (a : Option Addr) (q cp : Nat), k ≤ len0 ∧ s26 = .int .i64 k ∧ s7 = .slice a q cp ∧ Hid (wr.ownsRow n1 62 13 (.slice a q cp) q (flatR Pq.row ((accL (L.take k)).map pq)) ∧ (accL (L.take k)).length = q ∧ Below n1 x1 wr)) (fun _ s26 _ => len0 - (intOf s26).toNat)
    case atStart => exact ⟨0, none, 0, 0, by omega, rfl, rfl, H0'⟩
    case round =>
      clear H0'
      obtain ⟨k, a, q, cp, hk, rfl, rfl, HA⟩ := hrel
      have HSZ : Hid (n1 ≤ wr.heap.size) := Lib.hid (by rw [← HN1.out]; exact HA.out.2.2.size)
      by_cases hlt : k < len0
      · obtain ⟨e, he⟩ : ∃ e, L[k]? = some e := ⟨_, List.getElem?_eq_getElem (by rw [HL.out]; exact hlt)⟩
        have HBW : Hid (Below w.heap.size w wr) := Lib.hid (H1.out.bel.trans (HA.out.2.2.mono (by rw [← HN1.out]; exact H1.out.bel.size)))
        obtain ⟨g, off, hga, _, _, hra⟩ := (HP.out.lst.below HBW.out).at (i := k) (v := pq e) (by rw [List.getElem?_map, he]; rfl)
        have RA := Lib.hid hra
        have HTM : Hid (accL (L.take (k + 1)) = accL (L.take k) ++ if e.r.cd = 0 then [e] else []) := Lib.hid (by
          unfold accL
          rw [List.take_add_one, he, Option.toList_some, List.filter_append]
          by_cases hc : e.r.cd = 0 <;> simp [hc])
        have HQ : Hid (q ≤ 60) := Lib.hid (by
          have h1 := List.length_filter_le (fun e : Ev => decide (e.r.cd = 0)) (L.take k)
          have h2 : (L.take k).length ≤ L.length := by rw [List.length_take]; exact Nat.min_le_right _ _
          have h3 := HA.out.2.1
          unfold accL at h3
          rw [HL.out] at h2
          omega)
        clear he hra
        rw [hga] at *
        have hki : (0 : Int) ≤ (k : Int) := by omega
        have hkn : (k : Int) < (len0 : Int) := by omega
        go_upto_region 8 with (first | (refine wpList_load_Pq rfl 62 _ rfl g (off + k * 13) rfl (pq e) _ RA.out Try.underlying62 rfl infoPq ?_) | (refine wpList_store_row rfl _ _ _ rfl wr.heap.size (cellsPq (pq e)) rfl rfl 62 _ (heap_alloc_new wr _) infoPq rfl (cellsPq_one _) ?_; rw [World.setRow_alloc_new]))
        have HA1 : Hid ((wr.alloc (.cells (cellsPq (pq e)) 62)).ownsRow n1 62 13 (.slice a q cp) q (flatR Pq.row ((accL (L.take k)).map pq)) ∧ (accL (L.take k)).length = q ∧ Below n1 x1 (wr.alloc (.cells (cellsPq (pq e)) 62)) ∧ n1 ≤ (wr.alloc (.cells (cellsPq (pq e)) 62)).heap.size) := Lib.hid ⟨ownsR_below HA.out.1 ((Below.refl _ _).alloc (Nat.le_refl _) _), HA.out.2.1, HA.out.2.2.alloc HSZ.out _, by have := HSZ.out; simp; omega⟩
        have KB : Hid (Blk (wr.alloc (.cells (cellsPq (pq e)) 62)) wr.heap.size 62 (cellsPq (pq e))) := Lib.hid (Blk.new _ _ _)
        clear HA RA hga HSZ HBW
        generalize wr.heap.size = pb at *
        generalize wr.alloc (.cells (cellsPq (pq e)) 62) = W1 at *
        clear wr
        have c5 : W1.cell? ⟨pb, 5, none⟩ = some (.int .i64 e.r.cd) := KB.out.cell 5
        by_cases hcd : e.r.cd = 0
        · have c5' : W1.cell? ⟨pb, 5, none⟩ = some (.int .i64 0) := by rw [← hcd]; exact c5
          have HTN : Hid (accL (L.take (k + 1)) = accL (L.take k) ++ [e]) := Lib.hid (by rw [HTM.out, if_pos hcd])
          have KN : Hid (Blk (W1.alloc (.cells (cellsPq (pq e)) 62)) W1.heap.size 62 (cellsPq (pq e))) := Lib.hid (Blk.new _ _ _)
          have HOW : Hid ((W1.alloc (.cells (cellsPq (pq e)) 62)).ownsRow n1 62 13 (.slice a q cp) q (flatR Pq.row ((accL (L.take k)).map pq))) := Lib.hid (ownsR_below HA1.out.1 ((Below.refl _ _).alloc (Nat.le_refl _) _))
          have HBW : Hid (Below n1 x1 (W1.alloc (.cells (cellsPq (pq e)) 62)) ∧ n1 ≤ W1.heap.size) := Lib.hid ⟨HA1.out.2.2.1.alloc HA1.out.2.2.2 _, HA1.out.2.2.2⟩
          have HAQ := Lib.hid HA1.out.2.1
          obtain ⟨i8, hi8, hz8, hs8, hb8⟩ := appPq
          clear c5 hcd HA1
          go_wp2_with (first | (refine wpList_load_Pq rfl 62 _ rfl pb 0 rfl (pq e) _ KB.out.rangePq Try.underlying62 rfl infoPq ?_) | (refine wpList_onePq rfl _ (pq e) rfl rfl ?_) | (refine wpList_append_src _ rfl _ _ 22 rfl n1 62 i8 _ 13 136 Try.underlying22 hi8 hz8 hs8 hb8 rfl (by omega) (.slice a q cp) q _ rfl HOW.out (some ⟨W1.heap.size, 0, none⟩) 1 1 (pq e).row rfl rfl (fun _ => ⟨_, rfl, fun j u hu => by rw [add_plain, Nat.zero_add]; have := KN.out.rangePq j u hu; rwa [Nat.zero_add] at this⟩) (Pq.row_one _) (by have := HQ.out; unfold maxLen; omega) (by have := HQ.out; omega) (by have := HBW.out.2; simp; omega) ?_; intro v' w4 ho4 hg4 hs4; obtain ⟨a4, c4, rfl, -, -⟩ := ownsR_slice ho4; clear hs4))
          go_roundw
          case rel =>
            refine ⟨k + 1, a4, q + 1, c4, by omega, by go_num, rfl, Lib.hid ⟨?_, ?_, ?_⟩⟩
            · rw [HTN.out, List.map_append, flatR_append]
              exact ho4
            · rw [HTN.out, List.length_append, HAQ.out]; rfl
            · exact HBW.out.1.grown hg4 (by have := HBW.out.2; simp; omega) (fun g hg => (ownsR_blk HOW.out hg).choose_spec.2)
          case measure => simp [intOf]; omega
        · have d : (e.r.cd == 0) = false := by simpa using hcd
          have HTN : Hid (accL (L.take (k + 1)) = accL (L.take k)) := Lib.hid (by rw [HTM.out, if_neg hcd, List.append_nil])
          clear hcd
          go_wp2_with (fail)
          go_roundw
          case rel =>
            refine ⟨k + 1, a, q, cp, by omega, by go_num, rfl, Lib.hid ?_⟩
            rw [HTN.out]
            exact ⟨HA1.out.1, HA1.out.2.1, HA1.out.2.2.1⟩
          case measure => simp [intOf]; omega
      · obtain rfl : k = len0 := by omega
        clear hlt
        have hlt : ¬ k < k := by omega
        have hT : L.take k = L := List.take_of_length_le (by rw [HL.out]; exact Nat.le_refl _)
        have HA2 : Hid (wr.ownsRow n1 62 13 (.slice a q cp) q (flatR Pq.row ((accL L).map pq)) ∧ (accL L).length = q ∧ Below n1 x1 wr) := Lib.hid (by have := HA.out; rwa [hT] at this)
        clear hT HA
        have H2 := Lib.hid (H1.out.below (w' := wr) (by rw [HN1.out]; exact HA2.out.2.2))
        have HPA : Hid (PairsAt wr a (accL L)) := Lib.hid (by
          obtain ⟨a', c', e1, -, -, l1⟩ := ownsR_lst (S := fun _ => False) Pq.row_len HA2.out.1 (by rw [List.length_map]; exact HA2.out.2.1) (fun _ _ h => h)
          injection e1 with e1 _ _
          refine ⟨by rw [e1]; exact l1, fun e he => ?_⟩
          have := HP.out.at_ e (List.mem_filter.1 he).1
          exact ⟨this.1.below H2.out.bel, this.2⟩)
        have HQL := Lib.hid HA2.out.2.1
        have HQ : Hid (q ≤ 60) := Lib.hid (by
          have h1 := List.length_filter_le (fun e : Ev => decide (e.r.cd = 0)) L
          have h3 := HA2.out.2.1
          unfold accL at h3
          rw [HL.out] at h1
          omega)
        have HFA : Hid (fewL (accL L)) := Lib.hid (fun e he => HF.out e (List.mem_filter.1 he).1)
        clear HA2 H1 HN1
        go_wp2_with (fail)
        refine (build_any a q cp (accL L) wr HPA.out HQL.out HQ.out).mono ?_
        rintro e x3 (⟨-, m, rm, rfl, hb⟩ | ⟨hno, -, -⟩)
        · have D3 : Hid (Duo w x3 b m (stL L) (L.length : Int) (q : Int)) := Lib.hid (by
            obtain ⟨T, h1, h2, h3⟩ := hb
            refine ⟨H2.out.lg.imp fun _ k => k.below h3, ⟨T, ?_⟩, H2.out.bel.trans (h3.mono H2.out.bel.size)⟩
            rw [HQL.out] at h1
            rw [show stL L = stL (accL L) from (stL_acc L).symm]
            exact h1)
          have HSM := Lib.hid (small_of HP.out HF.out)
          have HOD : Hid ((stL L).od.length ≤ 1000000) := Lib.hid (by have := od_le (L := L) (n := 60) (by rw [HL.out]; exact hn); omega)
          have HPL : Hid (((stL L).py a1).length ≤ 3600) := Lib.hid (by
            have h1 := py_small (fun x hx => (HSM.out x hx).2) a1
            rw [HL.out] at h1
            omega)
          clear hb H2 HPA HFA HF HP HSM
          have HEX : Hid (∀ x c n, (∃ T, LgAt x c T (stL L) n) → Calls Try.prog 9 #[.pointer (some ⟨c, 0, none⟩), .int .i64 a1] x fun e w' => e = .returned (.tuple #[.agg (cellsXv ((exitV (stL L) a1).getD xvZ)), .bool (exitV (stL L) a1).isSome]) ∧ Below x.heap.size x w') := Lib.hid (fun x c n ⟨T, hT⟩ => exitL_any c T _ _ a1 x hT HI.out)
          generalize (exitV (stL L) a1).getD xvZ = xv at *
          generalize (exitV (stL L) a1).isSome = rs at *
          go_wp2_with (fail)
          refine (HEX.out x3 b _ D3.out.one).mono ?_
          rintro e x4 ⟨rfl, hb⟩
          have D4 := Lib.hid (D3.out.below hb)
          clear hb D3
          clear x3
          go_upto_region 15 with (first | (refine wpList_store_row rfl _ _ _ rfl x4.heap.size (cellsXv xv) rfl rfl 30 _ (heap_alloc_new x4 _) infoXv rfl (cellsXv_one _) ?_; rw [World.setRow_alloc_new]))
          have D5 := Lib.hid (D4.out.below (x' := x4.alloc (.cells (cellsXv xv) 30)) ((Below.refl _ _).alloc (Nat.le_refl _) _))
          have KX5 : Hid (Blk (x4.alloc (.cells (cellsXv xv) 30)) x4.heap.size 30 (cellsXv xv)) := Lib.hid (Blk.new _ _ _)
          clear D4
          generalize x4.alloc (.cells (cellsXv xv) 30) = x5 at *
          generalize x4.heap.size = xb at *
          clear x4
          go_wp2_with (fail)
          refine (HEX.out x5 m _ D5.out.two).mono ?_
          rintro e x6 ⟨rfl, hb⟩
          have D6 := Lib.hid (D5.out.below hb)
          have KX6 := Lib.hid (KX5.out.below hb KX5.out.lt)
          clear hb D5 KX5 HEX
          clear x5
          go_upto_region 16 with (first | (refine wpList_store_row rfl _ _ _ rfl x6.heap.size (cellsXv xv) rfl rfl 30 _ (heap_alloc_new x6 _) infoXv rfl (cellsXv_one _) ?_; rw [World.setRow_alloc_new]))
          have D7 := Lib.hid (D6.out.below (x' := x6.alloc (.cells (cellsXv xv) 30)) ((Below.refl _ _).alloc (Nat.le_refl _) _))
          have KX7 := Lib.hid (KX6.out.alloc (.cells (cellsXv xv) 30))
          have KY7 : Hid (Blk (x6.alloc (.cells (cellsXv xv) 30)) x6.heap.size 30 (cellsXv xv)) := Lib.hid (Blk.new _ _ _)
          clear D6 KX6
          generalize x6.alloc (.cells (cellsXv xv) 30) = x7 at *
          generalize x6.heap.size = yb at *
          clear x6
          go_wp2_with (fail)
          refine (HV.out x7).mono ?_
          rintro e x8 ⟨rfl, hb⟩
          have D8 := Lib.hid (D7.out.below hb)
          have KX8 := Lib.hid (KX7.out.below hb KX7.out.lt)
          have KY8 := Lib.hid (KY7.out.below hb KY7.out.lt)
          clear hb D7 KX7 KY7
          clear x7
          have hrs : ∀ (t : Bool), (t == t) = true := by intro t; cases t <;> rfl
          obtain ⟨T, hT⟩ := D8.out.one
          have HPC : Hid (∀ x c n, (∃ T, LgAt x c T (stL L) n) → Calls Try.prog 13 #[.pointer (some ⟨c, 0, none⟩), .int .i64 a1] x fun e w' => RowPost Pm.row 3 41 x ((stL L).py a1) e w') := Lib.hid (fun x c n ⟨T, hT⟩ => payments_any c T _ _ a1 x hT HI.out (by have := HPL.out; omega))
          have HORD : Hid (∀ x c n k, (∃ T, LgAt x c T (stL L) n) → Calls Try.prog 18 #[.pointer (some ⟨c, 0, none⟩), .int .i64 k] x fun e w' => IntsPost x (ofCls (stL L) k) e w') := Lib.hid (fun x c n k ⟨T, hT⟩ => order_any c T _ _ k x hT HOD.out)
          have HLT : Hid (∀ x c n, (∃ T, LgAt x c T (stL L) n) → Calls Try.prog 22 #[.pointer (some ⟨c, 0, none⟩)] x fun e w' => IntsPost x (srt (lateL (stL L))) e w') := Lib.hid (fun x c n ⟨T, hT⟩ => late_any c T _ _ x hT HOD.out)
          have HCL : Hid (∀ k, (ofCls (stL L) k).length ≤ 1000000) := Lib.hid (fun k => by
            have h1 := List.length_filter_le (clsIs (stL L) k) (stL L).od
            have := HOD.out
            unfold ofCls
            omega)
          have HLL : Hid ((srt (lateL (stL L))).length ≤ 1000000) := Lib.hid (by
            rw [srt_len]
            have h1 := List.length_filter_le (lateB (stL L)) (stL L).od
            have := HOD.out
            unfold lateL
            omega)
          have HD2 : Hid (∀ n1 n2 x, Duo w x b m (stL L) n1 n2 → ∃ T, LgAt x m T (stL L) n2) := Lib.hid (fun _ _ _ h => h.two)
          clear hT T
          have hqq : ((q : Int) == (q : Int)) = true := by simp
          have HLEN : Hid (∀ x, Duo w x b m (stL L) (L.length : Int) (q : Int) → Calls Try.prog 11 #[.pointer (some ⟨m, 0, none⟩)] x fun e w' => e = .returned (.int .i64 (q : Int)) ∧ x = w') := Lib.hid (fun x h => by
            obtain ⟨T, hT⟩ := h.two
            exact len_any m T _ _ x hT)
          cases rs
          all_goals
            go_wp2_with (first | (refine wpList_load_rowG rfl 30 _ rfl xb rfl 30 (cellsXv xv) (0, 0) _ KX8.out Try.underlying30 rfl infoXv ?_) | (refine wpList_load_rowG rfl 30 _ rfl yb rfl 30 (cellsXv xv) (0, 0) _ KY8.out Try.underlying30 rfl infoXv ?_) | (refine wpList_valG (o := ⟨some 70, .binOp .eql _ _ _ _, _, _, _, _⟩) (.bool true) rfl (exec_eqXv rfl rfl (by simp)) ?_))
            refine (HPC.out x8 b _ D8.out.one).mono ?_
            intro e x9 hr
            obtain ⟨p1, c1, rfl, hq, hb⟩ := rowpost_lst Pm.row_len hr
            have L1 := Lib.hid hq
            have D9 := Lib.hid (D8.out.below hb)
            clear hr hq hb D8 KX8 KY8
            clear x8
            go_wp2_with (fail)
            refine (HPC.out x9 m _ D9.out.two).mono ?_
            intro e x10 hr
            obtain ⟨p2, c2, rfl, hq, hb⟩ := rowpost_lst Pm.row_len hr
            have L2 := Lib.hid hq
            have L3 := Lib.hid (L1.out.below hb)
            have D10 := Lib.hid (D9.out.below hb)
            clear hr hq hb D9 L1
            clear x9
            go_wp2_with (fail)
            refine (eqPay_any p1 p2 _ _ c1 c2 _ _ x10 (fun _ => False) (fun _ => False) L3.out L2.out rfl rfl (by have := HPL.out; omega) (by have := HPL.out; omega)).mono ?_
            rintro e x11 ⟨rfl, hb⟩
            have hd : decide ((stL L).py a1 = (stL L).py a1) = true := by simp
            rw [hd]
            have D11 := Lib.hid (D10.out.below hb)
            clear hb hd D10 L3 L2
            clear x10
            go_wp2_with (fail)
            refine (HORD.out x11 b _ 0 D11.out.one).mono ?_
            rintro e x12 ⟨p1, c1, rfl, ho, hb⟩
            have I1 := Lib.hid ho.at
            have D12 := Lib.hid (D11.out.below hb)
            clear ho hb D11
            clear x11
            go_wp2_with (fail)
            refine (HORD.out x12 m _ 0 D12.out.two).mono ?_
            rintro e x13 ⟨p2, c2, rfl, ho, hb⟩
            have I2 := Lib.hid ho.at
            have I3 := Lib.hid (I1.out.below hb)
            have D13 := Lib.hid (D12.out.below hb)
            clear ho hb D12 I1
            clear x12
            go_wp2_with (fail)
            refine (equal_any I3.out I2.out rfl rfl (by have := HCL.out 0; omega) (by have := HCL.out 0; omega)).mono ?_
            rintro e y13 ⟨rfl, qq, rfl⟩
            have hd : decide (ofCls (stL L) 0 = ofCls (stL L) 0) = true := by simp
            rw [hd]
            have D14 := Lib.hid (D13.out.below (below_drewN (Below.refl _ _) qq))
            clear hd D13 I3 I2
            generalize x13.drewN qq = x14 at *
            clear x13
            go_wp2_with (fail)
            refine (HORD.out x14 b _ 1 D14.out.one).mono ?_
            rintro e x15 ⟨p1, c1, rfl, ho, hb⟩
            have I1 := Lib.hid ho.at
            have D15 := Lib.hid (D14.out.below hb)
            clear ho hb D14
            clear x14
            go_wp2_with (fail)
            refine (HORD.out x15 m _ 1 D15.out.two).mono ?_
            rintro e x16 ⟨p2, c2, rfl, ho, hb⟩
            have I2 := Lib.hid ho.at
            have I3 := Lib.hid (I1.out.below hb)
            have D16 := Lib.hid (D15.out.below hb)
            clear ho hb D15 I1
            clear x15
            go_wp2_with (fail)
            refine (equal_any I3.out I2.out rfl rfl (by have := HCL.out 1; omega) (by have := HCL.out 1; omega)).mono ?_
            rintro e y16 ⟨rfl, qq, rfl⟩
            have hd : decide (ofCls (stL L) 1 = ofCls (stL L) 1) = true := by simp
            rw [hd]
            have D17 := Lib.hid (D16.out.below (below_drewN (Below.refl _ _) qq))
            clear hd D16 I3 I2
            generalize x16.drewN qq = x17 at *
            clear x16
            go_wp2_with (fail)
            refine (HLT.out x17 b _ D17.out.one).mono ?_
            rintro e x18 ⟨p1, c1, rfl, ho, hb⟩
            have I1 := Lib.hid ho.at
            have D18 := Lib.hid (D17.out.below hb)
            clear ho hb D17
            clear x17
            go_wp2_with (fail)
            refine (HLT.out x18 m _ D18.out.two).mono ?_
            rintro e x19 ⟨p2, c2, rfl, ho, hb⟩
            have I2 := Lib.hid ho.at
            have I3 := Lib.hid (I1.out.below hb)
            have D19 := Lib.hid (D18.out.below hb)
            clear ho hb D18 I1
            clear x18
            go_wp2_with (fail)
            refine (equal_any I3.out I2.out rfl rfl (by have := HLL.out; omega) (by have := HLL.out; omega)).mono ?_
            rintro e y19 ⟨rfl, qq, rfl⟩
            have hd : decide (srt (lateL (stL L)) = srt (lateL (stL L))) = true := by simp
            rw [hd]
            have D20 := Lib.hid (D19.out.below (below_drewN (Below.refl _ _) qq))
            clear hd D19 I3 I2
            generalize x19.drewN qq = x20 at *
            clear x19
            go_wp2_with (fail)
            refine (HLEN.out x20 D20.out).mono ?_
            rintro e w' ⟨rfl, rfl⟩
            go_wp2_with (fail)
            go_ret
            exact ⟨rfl, D20.out.bel⟩
        · exact (hno HFA.out).elim
  · have B1 := Lib.hid hb
    clear hb
    go_wp2_with (fail)
    refine (HV.out x1).mono ?_
    rintro e x2 ⟨rfl, hb⟩
    have B2 := Lib.hid (B1.out.trans (hb.mono B1.out.size))
    clear hb B1
    go_wp2_with (fail)
    go_ret
    exact ⟨rfl, B2.out⟩
end Go.Proofs.Ythnhpmeacboljaa
