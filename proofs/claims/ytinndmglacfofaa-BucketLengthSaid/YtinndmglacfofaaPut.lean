/- Put. -/
import Derived.Test.YtinndmglacfofaaNew
namespace Go.Proofs.Ytinndmglacfofaa
open Go Go.RowKit Go.Deep
set_option linter.unusedVariables false
set_option linter.unusedSimpArgs false

theorem ent_app : ∃ i, Try.prog.info? 46 = some i ∧ i.zero = some (.agg #[.int .i64 0, .int .i64 0]) ∧ i.size = 2 ∧ i.bytes = 16 := by
  have h := infoE3
  cases hi : Try.prog.info? 46 with
  | none => rw [hi] at h; cases h
  | some i =>
    rw [hi] at h
    simp at h
    exact ⟨i, rfl, h.1, h.2.1, h.2.2⟩
theorem ent_info2 : (Try.prog.info? 46).map (fun i => (i.zero, i.size)) = some (some (.agg #[.int .i64 0, .int .i64 0]), 2) := by
  obtain ⟨i, hi, h1, h2, h3⟩ := ent_app
  rw [hi]
  simp [h1, h2]
theorem new_row (w : World) (e : Ent) (t : TypeId) : ∀ j u, (rowE e)[j]? = some u → (w.alloc (.cells (cellsE e) t)).cell? ((⟨w.heap.size, 0, none⟩ : Addr).add j) = some u := fun j u hu => by
  rw [add_plain, Nat.zero_add, (Blk.new w t (cellsE e)).cell j]
  simpa [cellsE] using hu

theorem put_no (p : Option Addr) (ep it : Int) (w : World) (h : p = none ∨ ep < 0 ∨ 1099511627776 < ep) :
    Calls Try.prog 19 #[.pointer p, .int .i64 ep, .int .i64 it] w fun e w' => e = .returned (.bool false) ∧ w = w' := by
  have H : Hid (Calls Try.prog 29 #[.pointer p, .int .i64 ep] w fun e w' => e = .returned (.tuple #[.int .i64 0, .bool false]) ∧ w = w') := Lib.hid (by
    rcases h with rfl | h
    · exact number_nil ep w
    · exact number_no p ep w h)
  clear h
  go_enter Try.func19, Try.ntmps19
  go_wp2_with fail
  refine H.out.mono ?_
  rintro e w' ⟨rfl, rfl⟩
  go_wp2_with fail
  go_ret
  exact ⟨rfl, rfl⟩

/-- The ring behind Put's store. -/
theorem put_ring {w w3 : World} {b B n j : Nat} {s s' : Value} {ss : List Value} {L : List Ent} {e : Ent} (h : RingP w b B n ss L) (hs : ss[j]? = some s) (hj : e.1 % (n : Int) = (j : Int)) (he : 0 ≤ e.1 ∧ e.1 ≤ 1099511627776)
    (hk : Kept (fun i => s.ownBlock = some i) w w3) (ho : w3.ownsRow 0 46 2 s' ((bk n L j).length + 1) (flat (bk n L j) ++ rowE e)) (hn : s'.ownBlock = s.ownBlock ∨ ∃ q, s'.ownBlock = some q ∧ w.heap.size ≤ q) :
    RingP (w3.setCell ⟨B, j, none⟩ s') b B n (ss.set j s') (L ++ [e]) := by
  have hnot := h.not hs
  have hjl := (List.getElem?_eq_some_iff.1 hs).1
  have hBne : ∀ q, s'.ownBlock = some q → q ≠ B := fun q hq e => by
    rcases hn with hn | ⟨q', hn, hl⟩
    · exact hnot.2 (by rw [← hn, hq, e])
    · rw [hq] at hn
      injection hn with hn
      have := h.bks.lt
      omega
  have hBk : w3.heap[B]? = w.heap[B]? := hk.block B h.bks.lt hnot.2
  have e1 : bk n (L ++ [e]) j = bk n L j ++ [e] := by rw [bk_append, bk_one hj, if_pos rfl]
  refine h.upd hs ?_ ?_ (fun i t hij ht q hq => ?_) ?_ (fun i hi => by rw [bk_append, bk_one hj, if_neg hi, List.append_nil]) hn (fun x hx => ?_)
  · rw [Below.heap_setCell _ _ _ _ h.ne]
    exact hk.block b h.own.lt hnot.1
  · have := Blk.set_ (w := w3) (g := B) (t := 43) (cs := ss.toArray) (hBk.trans h.bks) j s'
    simpa using this
  · rw [Below.heap_setCell _ _ _ _ (fun e => (h.not ht).2 (by rw [hq, e]))]
    exact hk.block q (h.lt (List.mem_of_getElem? ht) hq) (fun e => h.apart _ _ _ _ q hij ht hs hq e)
  · rw [e1]
    refine owns_same (w := w3) ?_ (fun q hq => Below.heap_setCell _ _ _ _ (hBne q hq))
    rw [List.length_append, List.length_singleton, flat_append, flat_one]
    exact ho
  · rcases List.mem_append.1 hx with hx | hx
    · exact h.ok x hx
    · rw [List.mem_singleton.1 hx]; exact he

set_option maxHeartbeats 1600000 in
theorem put_yes (b B n j : Nat) (ss : List Value) (s : Value) (L : List Ent) (ep it : Int) (w : World) (h : RingP w b B n ss L) (hs : ss[j]? = some s) (h0 : 0 ≤ ep) (h1 : ep ≤ 1099511627776) (hj : ep % (n : Int) = (j : Int)) (hL : L.length ≤ 100000) :
    Calls Try.prog 19 #[.pointer (some ⟨b, 0, none⟩), .int .i64 ep, .int .i64 it] w fun e w' => e = .returned (.bool true) ∧ ∃ s', RingP w' b B n (ss.set j s') (L ++ [(ep, it)]) ∧ (s'.ownBlock = s.ownBlock ∨ ∃ q, s'.ownBlock = some q ∧ w.heap.size ≤ q) ∧ Kept (fun i => i = B ∨ s.ownBlock = some i) w w' := by
  have hjn : j < n := by have := (List.getElem?_eq_some_iff.1 hs).1; have := h.len; omega
  have hrow := h.row j s hs
  have hq := bk_len n L j
  obtain ⟨a, cp, rfl, hcp, hcp2⟩ := owns_slice hrow
  obtain ⟨x0, x1⟩ := h.cells hs
  have hnot := h.not hs
  have HN := Lib.hid (number_any b n j n (some ⟨B, 0, none⟩) ep w x0 h.pos h.top h0 h1 hj)
  have HLT : Hid (∀ i, (Value.slice a (bk n L j).length cp).ownBlock = some i → i < w.heap.size) := Lib.hid (fun i hi => (hrow.lt i hi).2)
  have hbl := h.own.lt
  have hBl := h.bks.lt
  have HH := Lib.hid h
  have HS := Lib.hid hs
  have HJ := Lib.hid hj
  have HR := Lib.hid hrow
  have HE := Lib.hid (And.intro h0 h1)
  have HNOT := Lib.hid hnot
  have hj1 : ¬ (j : Int) < 0 := by omega
  have hj2 : ¬ (n : Int) ≤ (j : Int) := by omega
  have hj3 : (j : Int) < (n : Int) := by omega
  obtain ⟨q, hqe⟩ : ∃ q, (bk n L j).length = q := ⟨_, rfl⟩
  rw [hqe] at hq HLT HR HNOT hcp x1
  have HQ := Lib.hid hqe
  clear h hs hrow hnot hj hqe
  rw [HQ.out] at HS ⊢
  obtain ⟨n0, hn0⟩ : ∃ k, w.heap.size = k := ⟨_, rfl⟩
  go_enter Try.func19, Try.ntmps19
  go_wp2_with fail
  refine HN.out.mono ?_
  rintro e w' ⟨rfl, rfl⟩
  go_wp2_with fail
  refine wp_region_first (fun _ => True) 18 18 [] (by kernel_rfl) (by kernel_rfl) trivial ?_
  refine wpQuiet_nil ?_
  refine headF_takes (fun w' => w'.cell? ⟨b, 0, none⟩ = some (.slice (some ⟨B, 0, none⟩) n n) ∧ w'.cell? ⟨B, j, none⟩ = some (.slice a q cp)) (m := 18) (f := 3) [0, 1, 2, 3, 4, 5, 6, 7, 8, 9, 10, 11, 12, 13, 14] (fun _ _ => trivial) (by kernel_rfl) ⟨x0, x1⟩ ?_
  simp only [List.filterMap_cons, List.filterMap_nil, List.getElem?_toArray, List.getElem?_cons_zero, List.getElem?_cons_succ]
  show wpQuiet _ _ _ _ [_, _, _, _, _, _, _, _, _, _, _, _, _, _, _] _
  iterate 3 (go_big_quiet_step ((intros; rfl)))
  refine q_cell 55 _ _ (.slice (some ⟨B, 0, none⟩) n n) rfl rfl rfl (fun w h => by simp [go_sem, h]) (fun w h => h.1) ?_
  simp only [Act.put, List.setIfInBounds_toArray, List.set_cons_zero, List.set_cons_succ]
  iterate 4 (go_big_quiet_step ((intros; rfl)))
  refine q_cell 55 _ _ (.slice (some ⟨B, 0, none⟩) n n) rfl rfl rfl (fun w h => by simp [go_sem, h]) (fun w h => h.1) ?_
  simp only [Act.put, List.setIfInBounds_toArray, List.set_cons_zero, List.set_cons_succ]
  iterate 2 (go_big_quiet_step ((intros; rfl)))
  refine q_cell 43 _ _ (.slice a q cp) rfl rfl rfl (fun w h => by simp [go_sem, h]) (fun w h => h.2) ?_
  simp only [Act.put, List.setIfInBounds_toArray, List.set_cons_zero, List.set_cons_succ]
  iterate 3 (go_big_quiet_step ((intros; rfl)))
  refine wpQuiet_nil ?_
  refine headF_one (i := 15) (by kernel_rfl) (by omega) ?_
  refine wpOp_at rfl rfl (wp_buildSlice_pair 43 46 (.tmp 31) _ (.int .i64 ep) (.int .i64 it) rfl rfl Try.underlying43 ent_info2 ⟨⟨cell_alloc_some _ x0, cell_alloc_some _ x1⟩, ?_⟩)
  refine headF_one (i := 16) (by kernel_rfl) (by omega) ?_
  simp only [Act.put, List.getElem_toArray, List.getElem_cons_zero, List.getElem_cons_succ, List.setIfInBounds_toArray, List.set_cons_zero, List.set_cons_succ]
  obtain ⟨i, hi, hz, hs2, hby⟩ := ent_app
  refine wpOp_at rfl rfl (wp_append_src _ (.tmp 28) (.tmp 32) 43 rfl 0 46 i _ 2 16 Try.underlying43 hi hz hs2 hby rfl (by omega) (.slice a q cp) q (flat (bk n L j)) rfl (World.ownsRow.alloc (w := w.drew) HR.out _)
    (some ⟨w.drew.heap.size, 0, none⟩) 1 1 (rowE (ep, it)) rfl rfl (fun _ => ⟨_, rfl, new_row w.drew (ep, it) _⟩) (row_one _) (by unfold maxLen; omega) (by omega) (by omega) ?_)
  intro s' w3 ho3 hg3 hs3
  have HK3 : Hid (Kept (fun i => (Value.slice a q cp).ownBlock = some i) w w3) := Lib.hid (((Kept.refl _ w).drew.alloc _).trans (Kept.of_grown hg3 (S := fun i => (Value.slice a q cp).ownBlock = some i) (fun i hi => hi.symm)) (fun _ _ h => h))
  have HO3 : Hid (w3.ownsRow 0 46 2 s' (q + 1) (flat (bk n L j) ++ rowE (ep, it))) := Lib.hid ho3
  have HS3 : Hid (s'.ownBlock = (Value.slice a q cp).ownBlock ∨ ∃ p, s'.ownBlock = some p ∧ w.heap.size ≤ p) := Lib.hid (hs3.imp id (fun h => ⟨_, h, by simp⟩))
  have y0 := HK3.out.cell (p := ⟨b, 0, none⟩) HNOT.out.1 x0
  have y1 := HK3.out.cell (p := ⟨B, j, none⟩) HNOT.out.2 x1
  obtain ⟨a', cp', rfl, -, -⟩ := owns_slice ho3
  refine ⟨⟨y0, y1⟩, ?_⟩
  clear ho3 hg3 hs3 hi hz hs2 hby
  simp only [Act.put, List.getElem_toArray, List.getElem_cons_zero, List.getElem_cons_succ, List.setIfInBounds_toArray, List.set_cons_zero, List.set_cons_succ]
  refine headF_takes (fun w' => w'.cell? ⟨b, 0, none⟩ = some (.slice (some ⟨B, 0, none⟩) n n) ∧ w'.cell? ⟨B, j, none⟩ = some (.slice a q cp)) (m := 1) (f := 0) [17] (fun _ h => h) (by kernel_rfl) ⟨y0, y1⟩ ?_
  simp only [List.filterMap_cons, List.filterMap_nil, List.getElem?_toArray, List.getElem?_cons_zero, List.getElem?_cons_succ]
  show wpQuiet _ _ _ _ [_] _
  iterate 1 (go_big_quiet_step ((intros; rfl)))
  refine wpQuiet_nil ?_
  show Region.seqB _ _ _ _ _ = true ∧ _
  refine ⟨by kernel_rfl, ?_⟩
  simp only [Act.put, List.getElem_toArray, List.getElem_cons_zero, List.getElem_cons_succ, List.setIfInBounds_toArray, List.set_cons_zero, List.set_cons_succ, List.drop_succ_cons, List.drop_zero]
  have z1 : w3.frozen? ⟨B, j, none⟩ = false := by
    rw [HK3.out.frozen (p := ⟨B, j, none⟩) HNOT.out.2 hBl]
    exact HH.out.bks.frozen j
  go_wp2
  refine NoPanic.normal ?_
  go_wp2
  go_ret
  refine ⟨rfl, .slice a' (q + 1) cp', ?_, HS3.out, ?_⟩
  · have hhs := HS.out
    exact put_ring HH.out hhs HJ.out HE.out HK3.out (by rw [HQ.out]; exact HO3.out) HS3.out
  · exact (HK3.out.more (fun _ _ h => .inr h)).setCell (.inl (.inl rfl)) _

/-- Put, whatever comes. -/
theorem put_any (b n : Nat) (S : Nat → Prop) (L : List Ent) (ep it : Int) (w : World) (h : Ring w b S n L) (h0 : 0 ≤ ep) (h1 : ep ≤ 1099511627776) (hL : L.length ≤ 100000) :
    Calls Try.prog 19 #[.pointer (some ⟨b, 0, none⟩), .int .i64 ep, .int .i64 it] w fun e w' => e = .returned (.bool true) ∧ ∃ S', Ring w' b S' n (L ++ [(ep, it)]) ∧ (∀ i, S' i → S i ∨ w.heap.size ≤ i) ∧ Kept S w w' := by
  obtain ⟨B, ss, hp, hS⟩ := h
  obtain ⟨j, hj⟩ : ∃ j : Nat, ep % (n : Int) = (j : Int) := ⟨(ep % (n : Int)).toNat, by have := Int.emod_nonneg ep (b := (n : Int)) (by have := hp.pos; omega); omega⟩
  have hjn : j < n := by have := Int.emod_lt_of_pos ep (b := (n : Int)) (by have := hp.pos; omega); omega
  obtain ⟨s, hs⟩ := hp.get hjn
  refine (put_yes b B n j ss s L ep it w hp hs h0 h1 hj hL).mono ?_
  rintro e w' ⟨he, s', h2, h3, h4⟩
  refine ⟨he, fun i => i = b ∨ i = B ∨ ∃ s : Value, s ∈ ss.set j s' ∧ s.ownBlock = some i, ⟨B, _, h2, fun _ => Iff.rfl⟩, ?_, h4.more (fun i _ hi => ?_)⟩
  · rintro i (rfl | rfl | ⟨t, ht, hq⟩)
    · exact .inl ((hS _).2 (.inl rfl))
    · exact .inl ((hS _).2 (.inr (.inl rfl)))
    · rcases List.mem_or_eq_of_mem_set ht with ht | rfl
      · exact .inl ((hS i).2 (.inr (.inr ⟨t, ht, hq⟩)))
      · rcases h3 with h3 | ⟨q, h3, hl⟩
        · exact .inl ((hS i).2 (.inr (.inr ⟨s, List.mem_of_getElem? hs, by rw [← h3]; exact hq⟩)))
        · rw [hq] at h3
          injection h3 with h3
          exact .inr (by omega)
  · rcases hi with rfl | hi
    · exact (hS _).2 (.inr (.inl rfl))
    · exact (hS _).2 (.inr (.inr ⟨s, List.mem_of_getElem? hs, hi⟩))
end Go.Proofs.Ytinndmglacfofaa
