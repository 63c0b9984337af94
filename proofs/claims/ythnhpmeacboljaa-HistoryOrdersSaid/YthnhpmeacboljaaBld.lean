/- The law's Build: the log of pairs and the reference's. -/
import Derived.Test.YthnhpmeacboljaaPr
import Derived.Test.YthnhpmeacboljaaMk
import Derived.Test.YthnhpmeacboljaaLateL
namespace Go.Proofs.Ythnhpmeacboljaa
open Go Go.RowKit Go.Deep
set_option linter.unusedVariables false
set_option linter.unusedSimpArgs false
set_option maxRecDepth 100000

/-- Both logs as they grow: the program's in blocks of T, the reference's in its block and two rows of its own. -/
structure Grow (w wr : World) (b : Nat) (T : Nat → Prop) (rb : Nat) (s : St) (n : Int) (lo : List Oq) (lr : List Rc) (oa : Option Addr) (oc : Nat) (ra : Option Addr) (rc : Nat) : Prop where
  lg : LgAt wr b T s n
  ge : ∀ i, T i → w.heap.size ≤ i
  blk : Blk wr rb 68 #[.slice oa lo.length oc, .slice ra lr.length rc]
  rge : w.heap.size ≤ rb
  nrb : ¬ T rb
  ops : wr.ownsRow w.heap.size 57 4 (.slice oa lo.length oc) lo.length (flatR Oq.row lo)
  rcs : wr.ownsRow w.heap.size 60 9 (.slice ra lr.length rc) lr.length (flatR Rc.row lr)
  nop : ∀ i, (Value.slice oa lo.length oc).ownBlock = some i → ¬ T i
  nrc : ∀ i, (Value.slice ra lr.length rc).ownBlock = some i → ¬ T i
  bel : Below w.heap.size w wr
section
variable {w wr w' w1 : World} {b rb : Nat} {T : Nat → Prop} {s s' : St} {n n' : Int} {lo : List Oq} {lr : List Rc} {oa ra : Option Addr} {oc rc : Nat}
theorem Grow.below (h : Grow w wr b T rb s n lo lr oa oc ra rc) (hb : Below wr.heap.size wr w') : Grow w w' b T rb s n lo lr oa oc ra rc :=
  { h with lg := h.lg.below hb, blk := h.blk.below hb h.blk.lt, ops := ownsR_below h.ops hb, rcs := ownsR_below h.rcs hb, bel := h.bel.trans (hb.mono h.bel.size) }
theorem Grow.add (h : Grow w wr b T rb s n lo lr oa oc ra rc) (hg : LgGo wr T w' b s' n') : ∃ T', Grow w w' b T' rb s' n' lo lr oa oc ra rc ∧ Kept T wr w' := by
  obtain ⟨T', h1, h2, h3, h4⟩ := hg
  have hno : ∀ i, i < wr.heap.size → ¬ T i → ¬ T' i := fun i hi hn ht => by
    rcases h3 i ht with h | h
    · exact hn h
    · omega
  exact ⟨T', { lg := h1
               ge := fun i hi => by
                 rcases h3 i hi with k | k
                 · exact h.ge i k
                 · exact Nat.le_trans h.bel.size k
               blk := h.blk.kept h4 h.nrb, rge := h.rge, nrb := hno rb h.blk.lt h.nrb
               ops := ownsR_kept h.ops h4 h.nop, rcs := ownsR_kept h.rcs h4 h.nrc
               nop := fun i hi => hno i (h.ops.lt i hi).2 (h.nop i hi), nrc := fun i hi => hno i (h.rcs.lt i hi).2 (h.nrc i hi)
               bel := Kept.below h.bel h4 h.ge h.bel.size }, h4⟩
theorem Grow.push_op (h : Grow w wr b T rb s n lo lr oa oc ra rc) {x : Oq} {a' : Option Addr} {c' : Nat} (hg : wr.grownBy w1 (Value.slice oa lo.length oc).ownBlock) (ho : w1.ownsRow w.heap.size 57 4 (.slice a' (lo.length + 1) c') (lo.length + 1) (flatR Oq.row lo ++ x.row))
    (hs : (Value.slice a' (lo.length + 1) c').ownBlock = (Value.slice oa lo.length oc).ownBlock ∨ (Value.slice a' (lo.length + 1) c').ownBlock = some wr.heap.size) : Grow w (w1.setCell ⟨rb, 0, none⟩ (.slice a' (lo.length + 1) c')) b T rb s n (lo ++ [x]) lr a' c' ra rc := by
  have hne : ∀ y t cs, Blk wr y t cs → t ≠ 57 → some y ≠ (Value.slice oa lo.length oc).ownBlock := fun y t cs hB ht he => by
    obtain ⟨cur, hB2, _⟩ := ownsR_blk h.ops he.symm
    exact Blk.ne_ hB hB2 ht rfl
  have hb1 : Blk w1 rb _ _ := h.blk.grown hg (hne _ _ _ h.blk (by decide))
  have hk : Kept (fun j => j = rb ∨ (Value.slice oa lo.length oc).ownBlock = some j) wr (w1.setCell ⟨rb, 0, none⟩ (.slice a' (lo.length + 1) c')) :=
    ((Kept.of_grown (S := fun j => (Value.slice oa lo.length oc).ownBlock = some j) hg fun j hj => hj.symm).more fun _ _ h => .inr h).setCell (.inl (.inl rfl)) _
  have hlen : (lo ++ [x]).length = lo.length + 1 := by simp
  refine { lg := h.lg.kept hk (fun i hi hr => ?_), ge := h.ge, blk := ?_, rge := h.rge, nrb := h.nrb, ops := ?_, rcs := ownsR_kept h.rcs hk (fun i hi hr => ?_), nop := fun i hi => ?_, nrc := h.nrc, bel := Kept.below h.bel hk (fun i hi => ?_) h.bel.size }
  · rcases hr with rfl | hr
    · exact h.nrb hi
    · exact h.nop i hr hi
  · have := hb1.set_ 0 (.slice a' (lo.length + 1) c')
    rw [hlen]
    exact this
  · rw [hlen, flatR_append, flatR_one]
    refine ownsR_same ho fun q hq => Below.heap_setCell _ _ _ _ ?_
    obtain ⟨cur, hB, _⟩ := ownsR_blk ho hq
    exact Blk.ne_ hB hb1 (by decide)
  · obtain ⟨cur, hB, _⟩ := ownsR_blk h.rcs hi
    rcases hr with rfl | hr
    · exact Blk.ne_ hB h.blk (by decide) rfl
    · exact hne _ _ _ hB (by decide) hr.symm
  · rw [hlen] at hi
    rcases hs with hs | hs
    · exact h.nop i (hs ▸ hi)
    · rw [hi] at hs
      injection hs with hs
      intro ht
      have := h.lg.lt i ht
      omega
  · rcases hi with rfl | hi
    · exact h.rge
    · exact (h.ops.lt i hi).1
theorem Grow.push_rc (h : Grow w wr b T rb s n lo lr oa oc ra rc) {x : Rc} {a' : Option Addr} {c' : Nat} (hg : wr.grownBy w1 (Value.slice ra lr.length rc).ownBlock) (ho : w1.ownsRow w.heap.size 60 9 (.slice a' (lr.length + 1) c') (lr.length + 1) (flatR Rc.row lr ++ x.row))
    (hs : (Value.slice a' (lr.length + 1) c').ownBlock = (Value.slice ra lr.length rc).ownBlock ∨ (Value.slice a' (lr.length + 1) c').ownBlock = some wr.heap.size) : Grow w (w1.setCell ⟨rb, 1, none⟩ (.slice a' (lr.length + 1) c')) b T rb s n lo (lr ++ [x]) oa oc a' c' := by
  have hne : ∀ y t cs, Blk wr y t cs → t ≠ 60 → some y ≠ (Value.slice ra lr.length rc).ownBlock := fun y t cs hB ht he => by
    obtain ⟨cur, hB2, _⟩ := ownsR_blk h.rcs he.symm
    exact Blk.ne_ hB hB2 ht rfl
  have hb1 : Blk w1 rb _ _ := h.blk.grown hg (hne _ _ _ h.blk (by decide))
  have hk : Kept (fun j => j = rb ∨ (Value.slice ra lr.length rc).ownBlock = some j) wr (w1.setCell ⟨rb, 1, none⟩ (.slice a' (lr.length + 1) c')) :=
    ((Kept.of_grown (S := fun j => (Value.slice ra lr.length rc).ownBlock = some j) hg fun j hj => hj.symm).more fun _ _ h => .inr h).setCell (.inl (.inl rfl)) _
  have hlen : (lr ++ [x]).length = lr.length + 1 := by simp
  refine { lg := h.lg.kept hk (fun i hi hr => ?_), ge := h.ge, blk := ?_, rge := h.rge, nrb := h.nrb, rcs := ?_, ops := ownsR_kept h.ops hk (fun i hi hr => ?_), nrc := fun i hi => ?_, nop := h.nop, bel := Kept.below h.bel hk (fun i hi => ?_) h.bel.size }
  · rcases hr with rfl | hr
    · exact h.nrb hi
    · exact h.nrc i hr hi
  · have := hb1.set_ 1 (.slice a' (lr.length + 1) c')
    rw [hlen]
    exact this
  · obtain ⟨cur, hB, _⟩ := ownsR_blk h.ops hi
    rcases hr with rfl | hr
    · exact Blk.ne_ hB h.blk (by decide) rfl
    · exact hne _ _ _ hB (by decide) hr.symm
  · rw [hlen, flatR_append, flatR_one]
    refine ownsR_same ho fun q hq => Below.heap_setCell _ _ _ _ ?_
    obtain ⟨cur, hB, _⟩ := ownsR_blk ho hq
    exact Blk.ne_ hB hb1 (by decide)
  · rw [hlen] at hi
    rcases hs with hs | hs
    · exact h.nrc i (hs ▸ hi)
    · rw [hi] at hs
      injection hs with hs
      intro ht
      have := h.lg.lt i ht
      omega
  · rcases hi with rfl | hi
    · exact h.rge
    · exact (h.rcs.lt i hi).1
/-- What Build leaves. -/
def BuildPost (w w' : World) (b rb : Nat) (L : List Ev) : Prop := ∃ T, LgAt w' b T (stL L) (L.length : Int) ∧ RLogAt w' rb L ∧ Below w.heap.size w w'
theorem Grow.post {L : List Ev} (h : Grow w wr b T rb (stL L) (L.length : Int) (L.map (·.o)) (L.map (·.r)) oa oc ra rc) (hr : ∀ e ∈ L, RcAt wr (fun _ => False) e.r e.la e.lp) : BuildPost w wr b rb L := by
  obtain ⟨a1, c1, e1, -, -, l1⟩ := ownsR_lst (S := fun _ => False) Oq.row_len h.ops rfl (fun _ _ h => h)
  obtain ⟨a2, c2, e2, -, -, l2⟩ := ownsR_lst (S := fun _ => False) Rc.row_len h.rcs rfl (fun _ _ h => h)
  injection e1 with e1 _ e1b
  injection e2 with e2 _ e2b
  refine ⟨T, h.lg, ⟨oa, oc, ra, rc, ?_, by rw [e1]; exact l1, by rw [e2]; exact l2, hr⟩, h.bel⟩
  have := h.blk
  rw [List.length_map, List.length_map] at this
  exact this
end
def fewL (L : List Ev) : Prop := ∀ e ∈ L, fewB e.r = true
theorem few_len {w : World} {S : Nat → Prop} {e : Ev} (h : RcAt w S e.r e.la e.lp) (hf : fewB e.r = true) : e.la.length ≤ 60 ∧ e.lp.length ≤ 60 := by
  have h1 : e.r.an ≤ 60 ∧ e.r.pn ≤ 60 := by simpa [fewB] using hf
  rw [h.an, h.pn]
  exact h1
theorem build_many (a : Option Addr) (n cp : Nat) (w : World) (hn : 60 < n) :
    Calls Try.prog 7 #[.slice a n cp] w fun e w' => e = .returned (.tuple #[.pointer none, .pointer none]) ∧ w = w' := by
  have d1 : decide ((60 : Int) < (n : Int)) = true := decide_eq_true (by omega)
  clear hn
  go_enter Try.func7, Try.ntmps7
  go_wp2_with (fail)
  go_ret2
  exact ⟨rfl, rfl⟩
set_option maxHeartbeats 6400000 in
theorem build_any (a : Option Addr) (n cp : Nat) (L : List Ev) (w : World) (h : PairsAt w a L) (hl : L.length = n) (hn : n ≤ 60) :
    Calls Try.prog 7 #[.slice a n cp] w fun e w' => (fewL L ∧ ∃ b rb, e = .returned (.tuple #[.pointer (some ⟨b, 0, none⟩), .pointer (some ⟨rb, 0, none⟩)]) ∧ BuildPost w w' b rb L) ∨ (¬ fewL L ∧ e = .returned (.tuple #[.pointer none, .pointer none]) ∧ Below w.heap.size w w') := by
  have HP := Lib.hid h
  have HL := Lib.hid hl
  have d1 : decide ((60 : Int) < (n : Int)) = false := decide_eq_false (by omega)
  clear h hl
  go_enter Try.func7, Try.ntmps7
  go_wp2_with (fail)
  refine (new_any w).mono ?_
  rintro e w1 ⟨b, rfl, T, hlg, hge, hbel⟩
  have HG0 : Hid (Grow w (w1.alloc (.cells #[.slice none 0 0, .slice none 0 0] 68)) b T w1.heap.size st0 0 [] [] none 0 none 0) := Lib.hid
    { lg := hlg.below ((Below.refl _ _).alloc (Nat.le_refl _) _), ge := hge, blk := Blk.new _ _ _, rge := hbel.size, nrb := fun ht => by have := hlg.lt _ ht; omega,
      ops := ⟨rfl, .inl ⟨rfl, rfl⟩⟩, rcs := ⟨rfl, .inl ⟨rfl, rfl⟩⟩, nop := fun i hi => (by cases hi), nrc := fun i hi => (by cases hi), bel := hbel.alloc hbel.size _ }
  clear hlg hge hbel
  go_wp2_with (fail)
  have H0 : Hid (fewL (L.take 0) ∧ ∃ T oa oc ra rc, Grow w (w1.alloc (.cells #[.slice none 0 0, .slice none 0 0] 68)) b T w1.heap.size (stL (L.take 0)) ((0 : Nat) : Int) ((L.take 0).map (·.o)) ((L.take 0).map (·.r)) oa oc ra rc) := Lib.hid ⟨fun e he => by simp at he, T, none, 0, none, 0, HG0.out⟩
  clear HG0
  generalize w1.alloc (.cells #[.slice none 0 0, .slice none 0 0] 68) = W at *
  generalize w1.heap.size = rb at *
  clear w1
  go_loopw [16] (fun i wr => ∃ k : Nat, k ≤ n ∧ i = .int .i64 k ∧ Hid (fewL (L.take k) ∧ ∃ T oa oc ra rc, Grow w wr b T rb (stL (L.take k)) (k : Int) ((L.take k).map (·.o)) ((L.take k).map (·.r)) oa oc ra rc)) (fun i _ => n - (intOf i).toNat)
  case atStart => exact ⟨0, by omega, rfl, H0⟩
  case round =>
    clear H0 T
    clear W
    obtain ⟨k, hk, rfl, HR⟩ := hrel
    obtain ⟨hfew, T, oa, oc, ra, rc, hgr⟩ := HR.out
    have HF := Lib.hid hfew
    have HG := Lib.hid hgr
    clear hfew hgr HR
    by_cases hlt : k < n
    · obtain ⟨e, he⟩ : ∃ e, L[k]? = some e := ⟨_, List.getElem?_eq_getElem (by rw [HL.out]; exact hlt)⟩
      have HE := Lib.hid he
      have HAT : Hid (∀ wx, Below w.heap.size w wx → RcAt wx (fun _ => False) e.r e.la e.lp) := Lib.hid (fun wx hb => ((HP.out.at_ e (List.mem_of_getElem? he)).1).below hb)
      have HFE : Hid (∀ T : Nat → Prop, (∀ i, T i → w.heap.size ≤ i) → ∀ wx, Below w.heap.size w wx → RcAt wx T e.r e.la e.lp) := Lib.hid (fun T hT wx hb => (((HP.out.at_ e (List.mem_of_getElem? he)).1).more (T := T) (fun i hi ht => by have := hT i ht; omega)).below hb)
      obtain ⟨g, off, hga, _, _, hra⟩ := (HP.out.lst.below HG.out.bel).at (i := k) (v := pq e) (by rw [List.getElem?_map, he]; rfl)
      have RA := Lib.hid hra
      have HTK := Lib.hid (stL_take he)
      have HTM : Hid (L.take (k + 1) = L.take k ++ [e]) := Lib.hid (by rw [List.take_add_one, he]; rfl)
      clear he hra
      rw [hga] at *
      have hki : (0 : Int) ≤ (k : Int) := by omega
      have hkn : (k : Int) < (n : Int) := by omega
      go_upto_region 7 with (first | (refine wpList_load_Pq rfl 62 _ rfl g (off + k * 13) rfl (pq e) _ RA.out Try.underlying62 rfl infoPq ?_) | (refine wpList_store_row rfl _ _ _ rfl wr.heap.size (cellsPq (pq e)) rfl rfl 62 _ (heap_alloc_new wr _) infoPq rfl (cellsPq_one _) ?_; rw [World.setRow_alloc_new]))
      have HG1 := Lib.hid (HG.out.below (w' := wr.alloc (.cells (cellsPq (pq e)) 62)) ((Below.refl _ _).alloc (Nat.le_refl _) _))
      have KB : Hid (Blk (wr.alloc (.cells (cellsPq (pq e)) 62)) wr.heap.size 62 (cellsPq (pq e))) := Lib.hid (Blk.new _ _ _)
      have HNB : Hid (¬ T wr.heap.size) := Lib.hid (fun ht => by have := HG.out.lg.lt _ ht; omega)
      clear HG RA hga
      generalize wr.heap.size = pb at *
      generalize wr.alloc (.cells (cellsPq (pq e)) 62) = W1 at *
      clear wr
      have hba : e.r.an ≤ 9223372036854775807 := by have := (HAT.out W1 HG1.out.bel).ac; unfold maxLen at this; omega
      have hbp : e.r.pn ≤ 9223372036854775807 := by have := (HAT.out W1 HG1.out.bel).pc; unfold maxLen at this; omega
      go_wp2_with (refine wpList_load_Rc rfl 60 _ rfl pb 4 rfl e.r _ KB.out.pair.2 Try.underlying60 rfl infoRc ?_)
      refine (few_any e.r W1 hba hbp).mono ?_
      rintro q w2 ⟨rfl, hb⟩
      have HG2 := Lib.hid (HG1.out.below hb)
      have KB2 := Lib.hid (KB.out.below hb KB.out.lt)
      clear hb HG1 KB
      cases hfe : fewB e.r with
      | false =>
        have HN : Hid (¬ fewL L) := Lib.hid (fun h => by
          have := h e (List.mem_of_getElem? HE.out)
          rw [hfe] at this
          cases this)
        clear hfe
        go_wp2_with (fail)
        go_ret2
        exact .inr ⟨HN.out, rfl, HG2.out.bel⟩
      | true =>
        have HFW := Lib.hid hfe
        clear hfe
        go_wp2_with (first | (refine wpList_load_Oq rfl 57 _ rfl pb 0 rfl e.o _ KB2.out.pair.1 Try.underlying57 rfl infoOq ?_) | (refine wpList_load_Rc rfl 60 _ rfl pb 4 rfl e.r _ KB2.out.pair.2 Try.underlying60 rfl infoRc ?_))
        have hmem : ∀ x ∈ L.take k, x ∈ L := fun x hx => List.mem_of_mem_take hx
        have hsm : ∀ x ∈ L.take k, x.la.length ≤ 60 ∧ x.lp.length ≤ 60 := fun x hx => few_len (HP.out.at_ x (hmem x hx)).1 (HF.out x hx)
        have hle : (L.take k).length ≤ 60 := by rw [List.length_take]; omega
        have hme := few_len (HAT.out w2 HG2.out.bel) HFW.out
        refine (add_go b T (stL (L.take k)) (k : Int) e.o e.r e.la e.lp w2 HG2.out.lg (HFE.out T HG2.out.ge w2 HG2.out.bel) (by omega) (by have := (od_ind (L.take k)).2.2; omega) (fun i => by have := py_small (fun x hx => (hsm x hx).2) i; omega) (fun i => by have := an_small (fun x hx => (hsm x hx).1) i; omega)).mono ?_
        rintro q w3 ⟨rfl, hgo⟩
        obtain ⟨T3, hg3, hk3⟩ := HG2.out.add hgo
        have HG3 : Hid (Grow w w3 b T3 rb (stL (L.take (k + 1))) ((k : Int) + 1) ((L.take k).map (·.o)) ((L.take k).map (·.r)) oa oc ra rc) := Lib.hid (by
          rw [HTK.out]
          exact hg3)
        have KB3 := Lib.hid (KB2.out.kept hk3 HNB.out)
        clear hmem hsm hle hme hgo hg3 hk3 HG2 KB2 HNB T
        clear w2 W1
        go_wp2_with (fail)
        have HG4 : Hid (Grow w w3.drew b T3 rb _ _ _ _ _ _ _ _) := Lib.hid (HG3.out.below (below_drewN (Below.refl _ _) 1))
        have KB4 : Hid (Blk w3.drew pb 62 (cellsPq (pq e))) := Lib.hid KB3.out.drew
        clear HG3 KB3
        obtain ⟨q, hq⟩ : ∃ q, ((L.take k).map (·.o)).length = q := ⟨_, rfl⟩
        have HQ := Lib.hid hq
        have HQL : Hid (q ≤ 60) := Lib.hid (by rw [← hq, List.length_map, List.length_take]; omega)
        have z1 : w3.drew.cell? ⟨rb, 0, none⟩ = some (.slice oa q oc) := by rw [← hq]; exact HG4.out.blk.cell 0
        have z2 := KB4.out.pair.1
        clear hq
        try simp only [Act.put]
        refine wp_region_first (fun w' => w'.cell? ⟨rb, 0, none⟩ = some (.slice oa q oc) ∧ w'.rangeAt pb 0 e.o.row) 9 2 [0, 1, 2, 3, 4, 5, 6] (by kernel_rfl) (by kernel_rfl) ⟨z1, z2⟩ ?_
        simp only [List.filterMap_cons, List.filterMap_nil, List.getElem?_toArray, List.getElem?_cons_zero, List.getElem?_cons_succ]
        show wpQuiet _ _ _ _ [_, _, _, _, _, _, _] _
        iterate 4 (go_big_quiet_step ((intros; rfl)))
        refine q_cell 65 _ _ (.slice oa q oc) rfl rfl rfl (fun w h => by simp [go_sem, h]) (fun w h => h.1) ?_
        simp only [Act.put, List.setIfInBounds_toArray, List.set_cons_zero, List.set_cons_succ]
        iterate 1 (go_big_quiet_step ((intros; rfl)))
        refine q_load_Oq 57 _ pb 0 e.o _ rfl rfl rfl (fun w' h => h.2) Try.underlying57 rfl infoOq ?_
        simp only [Act.put, List.setIfInBounds_toArray, List.set_cons_zero, List.set_cons_succ]
        refine wpQuiet_nil ?_
        obtain ⟨i8, hi, hz, hs1, hby⟩ := appOq
        refine headF_one (i := 7) (by kernel_rfl) (by omega) ?_
        refine wpOp_at rfl rfl (wp_oneOq (.tmp 36) e.o rfl rfl ⟨⟨cell_alloc_some _ z1, rangeAt_same z2 (Below.heap_alloc _ _ _ KB4.out.lt)⟩, ?_⟩)
        refine headF_one (i := 8) (by kernel_rfl) (by omega) ?_
        simp only [Act.put, List.getElem_toArray, List.getElem_cons_zero, List.getElem_cons_succ, List.setIfInBounds_toArray, List.set_cons_zero, List.set_cons_succ]
        have HG5 := Lib.hid (HG4.out.below (w' := w3.drew.alloc (.cells (cellsOq e.o) 57)) ((Below.refl _ _).alloc (Nat.le_refl _) _))
        have KB5 := Lib.hid (KB4.out.alloc (.cells (cellsOq e.o) 57))
        have KN : Hid (Blk (w3.drew.alloc (.cells (cellsOq e.o) 57)) w3.drew.heap.size 57 (cellsOq e.o)) := Lib.hid (Blk.new _ _ _)
        clear HG4 KB4 z1 z2
        generalize w3.drew.alloc (.cells (cellsOq e.o) 57) = W5 at *
        generalize w3.drew.heap.size = gn at *
        clear w3
        refine wpOp_at rfl rfl (wp_append_src _ (.tmp 34) (.tmp 37) 65 rfl w.heap.size 57 i8 _ 4 32 Try.underlying65 hi hz hs1 hby rfl (by omega) (.slice oa q oc) q (flatR Oq.row ((L.take k).map (·.o))) rfl (by rw [← HQ.out]; exact HG5.out.ops)
          (some ⟨gn, 0, none⟩) 1 1 e.o.row rfl rfl (fun _ => ⟨_, rfl, fun j u hu => by rw [add_plain, Nat.zero_add]; have := KN.out.rangeOq j u hu; rwa [Nat.zero_add] at this⟩) (Oq.row_one _) (by have := HQL.out; unfold maxLen; omega) (by have := HQL.out; omega) HG5.out.bel.size ?_)
        intro s' w6 ho3 hg3 hs3
        obtain ⟨a', cp', rfl, -, -⟩ := ownsR_slice ho3
        have HGN : Hid (Grow w (w6.setCell ⟨rb, 0, none⟩ (.slice a' (q + 1) cp')) b T3 rb (stL (L.take (k + 1))) ((k : Int) + 1) ((L.take k).map (·.o) ++ [e.o]) ((L.take k).map (·.r)) a' cp' ra rc) := Lib.hid (by
          have e1 := HQ.out
          subst e1
          exact HG5.out.push_op hg3 ho3 hs3)
        have hnb : ∀ x t cs, Blk W5 x t cs → t ≠ 57 → Blk w6 x t cs := fun x t cs hB ht => hB.grown hg3 (fun he => by
          obtain ⟨cur, hB2, _⟩ := ownsR_blk HG5.out.ops (i := x) (by rw [HQ.out]; exact he.symm)
          exact Blk.ne_ hB hB2 ht rfl)
        have B3 := Lib.hid (hnb _ _ _ HG5.out.blk (by decide))
        have KBN := Lib.hid (hnb _ _ _ KB5.out (by decide))
        have z1 : w6.cell? ⟨rb, 0, none⟩ = some (.slice oa q oc) := (B3.out.cell 0).trans (by rw [← HQ.out]; rfl)
        have z3 : w6.frozen? ⟨rb, 0, none⟩ = false := B3.out.frozen 0
        refine ⟨⟨z1, KBN.out.pair.1⟩, ?_⟩
        have KBM : Hid (Blk (w6.setCell ⟨rb, 0, none⟩ (.slice a' (q + 1) cp')) pb 62 (cellsPq (pq e))) := Lib.hid (KBN.out.far (p := ⟨rb, 0, none⟩) (Blk.ne_ KBN.out B3.out (by decide)) _)
        clear ho3 hg3 hs3 hi hz hs1 hby hnb B3 KBN KN HG5 KB5
        simp only [Act.put, List.getElem_toArray, List.getElem_cons_zero, List.getElem_cons_succ, List.setIfInBounds_toArray, List.set_cons_zero, List.set_cons_succ]
        show Region.seqB _ _ _ _ _ = true ∧ _
        refine ⟨by kernel_rfl, ?_⟩
        simp only [Act.put, List.getElem_toArray, List.getElem_cons_zero, List.getElem_cons_succ, List.setIfInBounds_toArray, List.set_cons_zero, List.set_cons_succ, List.drop_succ_cons, List.drop_zero]
        go_wp2
        refine NoPanic.normal ?_
        generalize w6.setCell ⟨rb, 0, none⟩ (.slice a' (q + 1) cp') = w7 at *
        have HG7 := HGN
        have KB7 := KBM
        clear HGN KBM z1 z3 HQ HQL
        clear w6 W5
        generalize a' = oa2 at *
        generalize cp' = oc2 at *
        go_wp2_with (fail)
        have HG8 : Hid (Grow w w7.drew b T3 rb _ _ _ _ _ _ _ _) := Lib.hid (HG7.out.below (below_drewN (Below.refl _ _) 1))
        have KB8 : Hid (Blk w7.drew pb 62 (cellsPq (pq e))) := Lib.hid KB7.out.drew
        clear HG7 KB7
        obtain ⟨q, hq⟩ : ∃ q, ((L.take k).map (·.r)).length = q := ⟨_, rfl⟩
        have HQ := Lib.hid hq
        have HQL : Hid (q ≤ 60) := Lib.hid (by rw [← hq, List.length_map, List.length_take]; omega)
        have z1 : w7.drew.cell? ⟨rb, 1, none⟩ = some (.slice ra q rc) := by rw [← hq]; exact HG8.out.blk.cell 1
        have z2 := KB8.out.pair.2
        clear hq
        try simp only [Act.put]
        refine wp_region_first (fun w' => w'.cell? ⟨rb, 1, none⟩ = some (.slice ra q rc) ∧ w'.rangeAt pb 4 e.r.row) 9 2 [0, 1, 2, 3, 4, 5, 6] (by kernel_rfl) (by kernel_rfl) ⟨z1, z2⟩ ?_
        simp only [List.filterMap_cons, List.filterMap_nil, List.getElem?_toArray, List.getElem?_cons_zero, List.getElem?_cons_succ]
        show wpQuiet _ _ _ _ [_, _, _, _, _, _, _] _
        iterate 4 (go_big_quiet_step ((intros; rfl)))
        refine q_cell 66 _ _ (.slice ra q rc) rfl rfl rfl (fun w h => by simp [go_sem, h]) (fun w h => h.1) ?_
        simp only [Act.put, List.setIfInBounds_toArray, List.set_cons_zero, List.set_cons_succ]
        iterate 1 (go_big_quiet_step ((intros; rfl)))
        refine q_load_Rc 60 _ pb 4 e.r _ rfl rfl rfl (fun w' h => h.2) Try.underlying60 rfl infoRc ?_
        simp only [Act.put, List.setIfInBounds_toArray, List.set_cons_zero, List.set_cons_succ]
        refine wpQuiet_nil ?_
        obtain ⟨i8, hi, hz, hs1, hby⟩ := appRc
        refine headF_one (i := 7) (by kernel_rfl) (by omega) ?_
        refine wpOp_at rfl rfl (wp_oneRc (.tmp 47) e.r rfl rfl ⟨⟨cell_alloc_some _ z1, rangeAt_same z2 (Below.heap_alloc _ _ _ KB8.out.lt)⟩, ?_⟩)
        refine headF_one (i := 8) (by kernel_rfl) (by omega) ?_
        simp only [Act.put, List.getElem_toArray, List.getElem_cons_zero, List.getElem_cons_succ, List.setIfInBounds_toArray, List.set_cons_zero, List.set_cons_succ]
        have HG9 := Lib.hid (HG8.out.below (w' := w7.drew.alloc (.cells (cellsRc e.r) 60)) ((Below.refl _ _).alloc (Nat.le_refl _) _))
        have KB9 := Lib.hid (KB8.out.alloc (.cells (cellsRc e.r) 60))
        have KN : Hid (Blk (w7.drew.alloc (.cells (cellsRc e.r) 60)) w7.drew.heap.size 60 (cellsRc e.r)) := Lib.hid (Blk.new _ _ _)
        clear HG8 KB8 z1 z2
        generalize w7.drew.alloc (.cells (cellsRc e.r) 60) = W9 at *
        generalize w7.drew.heap.size = gn at *
        clear w7
        refine wpOp_at rfl rfl (wp_append_src _ (.tmp 45) (.tmp 48) 66 rfl w.heap.size 60 i8 _ 9 104 Try.underlying66 hi hz hs1 hby rfl (by omega) (.slice ra q rc) q (flatR Rc.row ((L.take k).map (·.r))) rfl (by rw [← HQ.out]; exact HG9.out.rcs)
          (some ⟨gn, 0, none⟩) 1 1 e.r.row rfl rfl (fun _ => ⟨_, rfl, fun j u hu => by rw [add_plain, Nat.zero_add]; have := KN.out.rangeRc j u hu; rwa [Nat.zero_add] at this⟩) (Rc.row_one _) (by have := HQL.out; unfold maxLen; omega) (by have := HQL.out; omega) HG9.out.bel.size ?_)
        intro s' w10 ho3 hg3 hs3
        obtain ⟨a', cp', rfl, -, -⟩ := ownsR_slice ho3
        have HGN : Hid (Grow w (w10.setCell ⟨rb, 1, none⟩ (.slice a' (q + 1) cp')) b T3 rb (stL (L.take (k + 1))) ((k : Int) + 1) ((L.take k).map (·.o) ++ [e.o]) ((L.take k).map (·.r) ++ [e.r]) oa2 oc2 a' cp') := Lib.hid (by
          have e1 := HQ.out
          subst e1
          exact HG9.out.push_rc hg3 ho3 hs3)
        have hnb : ∀ x t cs, Blk W9 x t cs → t ≠ 60 → Blk w10 x t cs := fun x t cs hB ht => hB.grown hg3 (fun he => by
          obtain ⟨cur, hB2, _⟩ := ownsR_blk HG9.out.rcs (i := x) (by rw [HQ.out]; exact he.symm)
          exact Blk.ne_ hB hB2 ht rfl)
        have B3 := Lib.hid (hnb _ _ _ HG9.out.blk (by decide))
        have KBN := Lib.hid (hnb _ _ _ KB9.out (by decide))
        have z1 : w10.cell? ⟨rb, 1, none⟩ = some (.slice ra q rc) := (B3.out.cell 1).trans (by rw [← HQ.out]; rfl)
        have z3 : w10.frozen? ⟨rb, 1, none⟩ = false := B3.out.frozen 1
        refine ⟨⟨z1, KBN.out.pair.2⟩, ?_⟩
        have KBM : Hid (Blk (w10.setCell ⟨rb, 1, none⟩ (.slice a' (q + 1) cp')) pb 62 (cellsPq (pq e))) := Lib.hid (KBN.out.far (p := ⟨rb, 1, none⟩) (Blk.ne_ KBN.out B3.out (by decide)) _)
        clear ho3 hg3 hs3 hi hz hs1 hby hnb B3 KBN KN HG9 KB9
        simp only [Act.put, List.getElem_toArray, List.getElem_cons_zero, List.getElem_cons_succ, List.setIfInBounds_toArray, List.set_cons_zero, List.set_cons_succ]
        show Region.seqB _ _ _ _ _ = true ∧ _
        refine ⟨by kernel_rfl, ?_⟩
        simp only [Act.put, List.getElem_toArray, List.getElem_cons_zero, List.getElem_cons_succ, List.setIfInBounds_toArray, List.set_cons_zero, List.set_cons_succ, List.drop_succ_cons, List.drop_zero]
        go_wp2
        refine NoPanic.normal ?_
        generalize w10.setCell ⟨rb, 1, none⟩ (.slice a' (q + 1) cp') = w11 at *
        have HG11 := HGN
        have KB11 := KBM
        clear HGN KBM z1 z3 HQ HQL
        clear w10 W9
        go_wp2_with (fail)
        go_roundw
        case rel =>
          refine ⟨k + 1, by omega, by go_num, Lib.hid ⟨fun x hx => ?_, T3, oa2, oc2, a', cp', ?_⟩⟩
          · rw [HTM.out] at hx
            rcases List.mem_append.1 hx with hx | hx
            · exact HF.out x hx
            · rw [List.mem_singleton.1 hx]; exact HFW.out
          · have := HG11.out
            rw [show (((k + 1 : Nat)) : Int) = (k : Int) + 1 by omega, HTM.out, List.map_append, List.map_append]
            rw [HTM.out] at this
            exact this
        case measure => simp [intOf]; omega
    · obtain rfl : k = n := by omega
      clear hlt
      have hlt : ¬ k < k := by omega
      have hT : L.take k = L := List.take_of_length_le (by rw [HL.out]; exact Nat.le_refl _)
      have HD : Hid (fewL L ∧ BuildPost w wr b rb L) := Lib.hid (by
        have h1 := HF.out
        have h2 := HG.out
        rw [hT] at h1 h2
        rw [show ((k : Nat) : Int) = ((L.length : Nat) : Int) by rw [HL.out]] at h2
        exact ⟨h1, h2.post (fun e he => ((HP.out.at_ e he).1).below HG.out.bel)⟩)
      go_wp2_with (fail)
      go_ret2
      exact .inl ⟨HD.out.1, b, rb, rfl, HD.out.2⟩
end Go.Proofs.Ythnhpmeacboljaa
