/- do: an operation on a registry and on a list. (mkdo.py writes this text.) -/
import Derived.Test.YtcmlkcmoailhjaaSameV
namespace Go.Proofs.Ytcmlkcmoailhjaa
open Go Go.RowKit Go.Deep
set_option linter.unusedVariables false
set_option linter.unusedSimpArgs false

theorem Blk.opV {w : World} {g t : Nat} {x : Int × Val} (h : Blk w g t (opCells x)) : w.cell? ⟨g, 0, none⟩ = some (.int .i64 x.1) ∧ w.rangeAt g 1 x.2.row := by
  refine ⟨h.cell 0, fun j u hu => ?_⟩
  rw [h.cell (1 + j)]
  simp only [opCells, opRow, List.getElem?_toArray]
  rw [Nat.add_comm, List.getElem?_cons_succ]
  exact hu
/-- What do leaves: a list and a registry that hold the same; the law's comparison came out true. -/
def DoPost (w : World) (b cap : Nat) (S : Nat → Prop) (e : Ending) (w' : World) : Prop :=
  ∃ a' cp' l' S', e = .returned (.tuple #[.slice a' (List.length l') cp', .bool true]) ∧ Reg w' b S' cap l' ∧ Lst w' S' a' l' ∧ (∀ i, S' i → S i ∨ w.heap.size ≤ i) ∧ Kept S w w'
theorem kept_false {S : Nat → Prop} {w w' : World} (h : Kept (fun _ => False) w w') : Kept S w w' := h.more fun _ _ h => h.elim
theorem Kept.below_of {w w' : World} (h : Kept (fun _ => False) w w') : Below w.heap.size w w' := ⟨h.os, h.tape, h.output, h.size, fun i hi => h.block i hi (fun h => h)⟩
theorem addv_yes (b cap : Nat) (S : Nat → Prop) (l : List Val) (v : Val) (w : World) (h : Reg w b S cap l) (hv : FitsV v) (hl : l.length < cap) (ht : totalOf l + v.bal ≤ 18446744073709551615) :
    Calls Try.prog 23 #[.pointer (some ⟨b, 0, none⟩), .agg (cellsV v)] w fun e w' => e = .returned (.tuple #[.int .i64 l.length, .int .i64 0]) ∧ ∃ S', Reg w' b S' cap (l ++ [v]) ∧ (∀ i, S' i → S i ∨ w.heap.size ≤ i) ∧ Kept S w w' :=
  (addv_any b cap S l v w h hv).mono fun e w' hh => by
    rcases hh with ⟨h1, _⟩ | ⟨_, h1, _⟩ | ⟨_, _, h1⟩
    · omega
    · omega
    · exact h1
theorem addv_no (b cap : Nat) (S : Nat → Prop) (l : List Val) (v : Val) (w : World) (h : Reg w b S cap l) (hv : FitsV v) (hl : l.length < cap) (ht : 18446744073709551615 < totalOf l + v.bal) :
    Calls Try.prog 23 #[.pointer (some ⟨b, 0, none⟩), .agg (cellsV v)] w fun e w' => e = .returned (.tuple #[.int .i64 (-1), .int .i64 10]) ∧ Below w.heap.size w w' :=
  (addv_any b cap S l v w h hv).mono fun e w' hh => by
    rcases hh with ⟨h1, _⟩ | ⟨_, _, h1⟩ | ⟨_, h1, _⟩
    · omega
    · exact h1
    · omega
theorem addv_full' (b cap : Nat) (S : Nat → Prop) (l : List Val) (v : Val) (w : World) (h : Reg w b S cap l) (hv : FitsV v) (hl : l.length = cap) :
    Calls Try.prog 23 #[.pointer (some ⟨b, 0, none⟩), .agg (cellsV v)] w fun e w' => e = .returned (.tuple #[.int .i64 (-1), .int .i64 5]) ∧ Below w.heap.size w w' :=
  (addv_any b cap S l v w h hv).mono fun e w' hh => by
    rcases hh with ⟨_, h1⟩ | ⟨h1, _⟩ | ⟨h1, _⟩
    · exact h1
    · omega
    · omega

theorem news_kept {w w2 : World} {v : Val} {t t' : Nat} {row : Option Nat} (hg : ((w.alloc (.cells #[] t')).alloc (.cells (cellsV v) t)).grownBy w2 row) (hne : row = some w.heap.size) : ∀ j u, v.row[j]? = some u → w2.cell? ((⟨(w.alloc (.cells #[] t')).heap.size, 0, none⟩ : Addr).add j) = some u := fun j u hu => by
  have := new_cells (w.alloc (.cells #[] t')) v t j u hu
  refine hg.cell this ?_
  rw [add_plain, hne]
  simp
theorem news_kept2 {w w2 : World} {v : Val} {t t' : Nat} {row : Option Nat} (hg : ((w.alloc (.cells (cellsV v) t)).alloc (.cells #[] t')).grownBy w2 row) (hne : row = some (w.heap.size + 1)) : ∀ j u, v.row[j]? = some u → w2.cell? ((⟨w.heap.size, 0, none⟩ : Addr).add j) = some u := fun j u hu => by
  have := cell_alloc_some (.cells #[] t') (new_cells w v t j u hu)
  refine hg.cell this ?_
  rw [add_plain, hne]
  simp
theorem keep_range {w W w2 : World} {n0 : Nat} {v : Val} {row : Option Nat} (hk : Kept (fun _ => False) w W) (hg : W.grownBy w2 row) (hr : ∀ i, row = some i → w.heap.size ≤ i) (he : w.rangeAt n0 1 v.row) : Kept (fun _ => False) w w2 ∧ w2.rangeAt n0 1 v.row := by
  have hk2 := Kept.grown hk hg hr
  exact ⟨hk2, fun j u hu => hk2.cell (fun h => h) (he j u hu)⟩
theorem more_facts {w W w3 : World} {l : List Val} {v : Val} {u1 u2 : Value} {w2 : World} (ho1 : w2.ownsRow w.heap.size 29 7 u1 l.length (flat l)) (hk : Kept (fun _ => False) w W) (ho : w3.ownsRow w.heap.size 29 7 u2 (l.length + 1) (flat l ++ v.row)) (hg : W.grownBy w3 u1.ownBlock) :
    w3.ownsRow w.heap.size 29 7 u2 (l.length + 1) (flat (l ++ [v])) ∧ Kept (fun _ => False) w w3 :=
  ⟨by rw [flat_append, flat_one]; exact ho, Kept.grown hk hg (fun i hi => (ho1.lt i hi).1)⟩
theorem more_slice {w : World} {base : Nat} {l : List Val} {v : Val} {u : Value} (h : w.ownsRow base 29 7 u (l.length + 1) (flat (l ++ [v]))) : ∃ g c, u = .slice (some ⟨g, 0, none⟩) (l.length + 1) c := by
  rcases h.2 with ⟨_, h0⟩ | ⟨g, c, cur, rfl, _⟩
  · omega
  · exact ⟨g, c, rfl⟩
theorem more_len (l : List Val) (v : Val) : (l ++ [v]).length = l.length + 1 := by simp
theorem more_lst {w : World} {base g c : Nat} {S : Nat → Prop} {l : List Val} {v : Val} (h : w.ownsRow base 29 7 (.slice (some ⟨g, 0, none⟩) (l.length + 1) c) (l.length + 1) (flat (l ++ [v]))) (hS : ∀ i, base ≤ i → i < w.heap.size → ¬ S i) : Lst w S (some ⟨g, 0, none⟩) (l ++ [v]) := by
  have h2 := h
  rw [← more_len l v] at h
  exact owns_lst (cp := c) (owns_base h (Nat.zero_le _)) (fun i hi => by rw [more_len] at hi; exact hS i (h2.lt i hi).1 (h2.lt i hi).2)
/-- The reference's Fits of a list and one more. -/
theorem fits_more_any (g c : Nat) (l : List Val) (v : Val) (w : World) (r : Bool) {base : Nat} (h : w.ownsRow base 29 7 (.slice (some ⟨g, 0, none⟩) (l.length + 1) c) (l.length + 1) (flat (l ++ [v]))) (hl : l.length < 4096) (hf : ∀ x ∈ l, FitsV x) (hv : FitsV v) (hr : decide (totalOf l + v.bal ≤ 18446744073709551615) = r) :
    Calls Try.prog 22 #[.slice (some ⟨g, 0, none⟩) (l.length + 1) c] w fun e w' => e = .returned (.bool r) ∧ Below w.heap.size w w' := by
  have := fits_any (fun _ => False) (some ⟨g, 0, none⟩) c (l ++ [v]) w (more_lst h (fun _ _ _ h => h)) (by rw [more_len]; omega) (fun x hx => by
    rcases List.mem_append.1 hx with hx | hx
    · exact hf x hx
    · obtain rfl := List.mem_singleton.1 hx
      exact hv)
  have e : totalOf (l ++ [v]) = totalOf l + v.bal := by rw [total_append]; simp [totalOf]
  rw [more_len, e, hr] at this
  exact this
set_option maxHeartbeats 1600000 in
theorem do_full (b cap cp : Nat) (S : Nat → Prop) (a : Option Addr) (k : Int) (v : Val) (l : List Val) (w : World) (h : Reg w b S cap l) (hL : Lst w S a l) (hv : FitsV v) (hk : (k : Int) < 0) (hc : l.length = cap) :
    Calls Try.prog 11 #[.pointer (some ⟨b, 0, none⟩), .slice a l.length cp, .int .i64 cap, .agg (opCells (k, v))] w (DoPost w b cap S) := by
  have HR0 := Lib.hid (h.alloc (.cells (opCells (k, v)) 31))
  have HL0 := Lib.hid (hL.alloc (.cells (opCells (k, v)) 31))
  have HE : Hid (Blk (w.alloc (.cells (opCells (k, v)) 31)) w.heap.size 31 (opCells (k, v))) := Lib.hid (Blk.new _ _ _)
  have HB : Hid (Below w.heap.size w (w.alloc (.cells (opCells (k, v)) 31))) := Lib.hid ((Below.refl _ _).alloc (Nat.le_refl _) _)
  have x0 : (w.alloc (.cells (opCells (k, v)) 31)).cell? ⟨w.heap.size, 0, none⟩ = some (.int .i64 k) := HE.out.opV.1
  have hfit := h.fits
  obtain ⟨f1, f2, f3, f4, f5⟩ := hfit
  have HF := Lib.hid f5
  have HV := Lib.hid hv
  have hSn : ¬ S w.heap.size := fun hs => by have := h.lt _ hs; omega
  have hlt0 := h.lt
  have HLT := Lib.hid hlt0
  have HS0 : Hid (∀ i, S i → i < w.heap.size) := Lib.hid hlt0
  obtain ⟨v0, v1⟩ := hv.bal
  obtain ⟨n0, hn0⟩ : ∃ n, w.heap.size = n := ⟨_, rfl⟩
  rw [hn0] at HE x0 hSn
  have H := Lib.hid (addv_full' b cap S l v _ HR0.out hv hc)
  have hge : (cap : Int) ≤ (l.length : Int) := by omega
  clear hc
  clear h hL hv f5 hlt0
  go_enter Try.func11, Try.ntmps11
  go_wp2_with (refine wpList_load_val rfl 29 _ rfl n0 1 rfl v _ HE.out.opV.2 Try.underlying29 rfl infoV ?_)
  generalize (w.alloc (.cells (opCells (k, v)) 31)) = W at *
  refine H.out.mono ?_
  rintro e w1 ⟨rfl, hb⟩
  have hb1 := HB.out.trans (hb.mono HB.out.size)
  have HR1 := Lib.hid (HR0.out.below hb)
  have HL1 := Lib.hid (HL0.out.below hb)
  clear hb H HE x0
  go_wp2
  go_ret2
  exact ⟨_, _, l, S, rfl, HR1.out, HL1.out, fun i hi => .inl hi, Kept.of_below hb1⟩
set_option maxHeartbeats 1600000 in
theorem do_over (b cap cp : Nat) (S : Nat → Prop) (a : Option Addr) (k : Int) (v : Val) (l : List Val) (w : World) (h : Reg w b S cap l) (hL : Lst w S a l) (hv : FitsV v) (hk : (k : Int) < 0) (hc : l.length < cap) (ht : 18446744073709551615 < totalOf l + v.bal) :
    Calls Try.prog 11 #[.pointer (some ⟨b, 0, none⟩), .slice a l.length cp, .int .i64 cap, .agg (opCells (k, v))] w (DoPost w b cap S) := by
  have HR0 := Lib.hid (h.alloc (.cells (opCells (k, v)) 31))
  have HL0 := Lib.hid (hL.alloc (.cells (opCells (k, v)) 31))
  have HE : Hid (Blk (w.alloc (.cells (opCells (k, v)) 31)) w.heap.size 31 (opCells (k, v))) := Lib.hid (Blk.new _ _ _)
  have HB : Hid (Below w.heap.size w (w.alloc (.cells (opCells (k, v)) 31))) := Lib.hid ((Below.refl _ _).alloc (Nat.le_refl _) _)
  have x0 : (w.alloc (.cells (opCells (k, v)) 31)).cell? ⟨w.heap.size, 0, none⟩ = some (.int .i64 k) := HE.out.opV.1
  have hfit := h.fits
  obtain ⟨f1, f2, f3, f4, f5⟩ := hfit
  have HF := Lib.hid f5
  have HV := Lib.hid hv
  have hSn : ¬ S w.heap.size := fun hs => by have := h.lt _ hs; omega
  have hlt0 := h.lt
  have HLT := Lib.hid hlt0
  have HS0 : Hid (∀ i, S i → i < w.heap.size) := Lib.hid hlt0
  obtain ⟨v0, v1⟩ := hv.bal
  obtain ⟨n0, hn0⟩ : ∃ n, w.heap.size = n := ⟨_, rfl⟩
  rw [hn0] at HE x0 hSn
  have H := Lib.hid (addv_no b cap S l v _ HR0.out hv hc ht)
  have hge : ¬ (cap : Int) ≤ (l.length : Int) := by omega
  clear h hL hv f5 hlt0
  go_enter Try.func11, Try.ntmps11
  go_wp2_with (refine wpList_load_val rfl 29 _ rfl n0 1 rfl v _ HE.out.opV.2 Try.underlying29 rfl infoV ?_)
  generalize (w.alloc (.cells (opCells (k, v)) 31)) = W at *
  refine H.out.mono ?_
  rintro e w1 ⟨rfl, hb⟩
  have hKK := Lib.hid ((Kept.of_below HB.out : Kept S w W).trans (Kept.of_below hb : Kept S W w1) (fun _ _ h => h))
  have HE1 := Lib.hid (HE.out.below hb HE.out.lt)
  have HR1 := Lib.hid (HR0.out.below hb)
  have LA := Lib.hid (HL0.out.below hb)
  clear hb H HE x0
  go_wp2
  have hcl : Hid (∀ w', Below w1.heap.size w1 w' → 0 < l.length → ∃ ad, a = some ad ∧ ∀ j u, (flat l)[j]? = some u → w'.cell? (ad.add j) = some u) := Lib.hid (fun w' hb h0 => lst_src LA.out hb h0)
  have e1 : w1.rangeAt n0 1 v.row := HE1.out.opV.2
  have HE1' := Lib.hid e1
  obtain ⟨j0, hj0, hz, hs7, hby⟩ := val_app
  have HLEN := Lib.hid (flat_len l)
  refine wp_region_first (fun w' => w'.rangeAt n0 1 v.row) 7 4 [1, 3, 4] (by kernel_rfl) (by kernel_rfl) e1 ?_
  simp only [List.filterMap_cons, List.filterMap_nil, List.getElem?_toArray, List.getElem?_cons_zero, List.getElem?_cons_succ]
  show wpQuiet _ _ _ _ [_, _, _] _
  iterate 2 (go_big_quiet_step ((intros; rfl)))
  refine q_load_val 29 _ n0 1 v _ rfl rfl rfl (fun w h => h) Try.underlying29 rfl infoV ?_
  simp only [Act.put, List.setIfInBounds_toArray, List.set_cons_zero, List.set_cons_succ]
  refine wpQuiet_nil ?_
  refine headF_two (i := 0) (k := 5) (by kernel_rfl) (by omega) (by omega) ?_ ?_
  · refine wpOp_at rfl rfl (wp_buildSlice_zero 26 29 j0 rfl Try.underlying26 hj0 ⟨fun j u hu => cell_alloc_some _ (e1 j u hu), ?_⟩)
    refine headF_two (i := 2) (k := 5) (by kernel_rfl) (by omega) (by omega) ?_ ?_
    · refine wpOp_at rfl rfl (wp_append_src _ (.tmp 36) (.tmp 37) 26 rfl w1.heap.size 29 j0 _ 7 56 Try.underlying26 hj0 hz hs7 hby (cellsV_size _) (by omega) (.slice (some ⟨w1.drew.heap.size, 0, none⟩) 0 0) 0 [] rfl (owns_empty (Blk.new w1.drew _ _) (Nat.le_refl _)) a l.length cp (flat l) rfl (by rw [HLEN.out]) (hcl.out _ (((Kept.refl _ w1).drew.alloc _) : Kept (fun _ => False) w1 _).below_of) flat_mem (by unfold maxLen; omega) (by omega) ((((Kept.refl _ w1).drew.alloc _) : Kept (fun _ => False) w1 _).size) ?_)
      intro u1 w2 hown1 hgrow1 hat1
      have HG1 := Lib.hid hgrow1
      have HK1 : Hid (Kept (fun _ => False) w1 w2 ∧ w2.rangeAt n0 1 v.row) := Lib.hid (keep_range (((Kept.refl _ w1).drew.alloc _)) hgrow1 (fun i hi => by simp [Value.ownBlock] at hi; (try simp at hi); omega) e1)
      have HO1 : Hid (w2.ownsRow w1.heap.size 29 7 u1 l.length (flat l)) := Lib.hid (by simpa using hown1)
      clear hown1 hgrow1 hat1
      refine ⟨HK1.out.2, ?_⟩
      refine headF_one (i := 5) (by kernel_rfl) (by omega) ?_
      refine wpOp_at rfl rfl (wp_buildSlice_val 26 29 _ _ v rfl rfl Try.underlying26 val_info ⟨fun j u hu => cell_alloc_some _ (HK1.out.2 j u hu), ?_⟩)
      refine headF_one (i := 6) (by kernel_rfl) (by omega) ?_
      refine wpOp_at rfl rfl (wp_append_src _ (.tmp 38) (.tmp 41) 26 rfl w1.heap.size 29 j0 _ 7 56 Try.underlying26 hj0 hz hs7 hby (cellsV_size _) (by omega) u1 l.length (flat l) rfl (World.ownsRow.alloc HO1.out _) (some ⟨w2.heap.size, 0, none⟩) 1 1 v.row rfl rfl (fun _ => ⟨_, rfl, new_cells _ _ _⟩) (row_one v) (by unfold maxLen; omega) (by omega) ((HK1.out.1.alloc _ : Kept (fun _ => False) w1 _).size) ?_)
      intro u2 w3 hown2 hgrow2 hat2
      have HZ : Hid (w3.ownsRow w1.heap.size 29 7 u2 (l.length + 1) (flat (l ++ [v])) ∧ Kept (fun _ => False) w1 w3) := Lib.hid (more_facts HO1.out (HK1.out.1.alloc _) hown2 hgrow2)
      refine ⟨(keep_range (HK1.out.1.alloc _) hgrow2 (fun i hi => (HO1.out.lt i hi).1) e1).2, ?_⟩
      clear hown2 hgrow2 hat2
      obtain ⟨g2, c2, rfl⟩ := more_slice HZ.out.1
      show Region.seqB _ _ _ _ _ = true ∧ _
      refine ⟨by kernel_rfl, ?_⟩
      simp only [Act.put, List.getElem_toArray, List.getElem_cons_zero, List.getElem_cons_succ, List.setIfInBounds_toArray, List.set_cons_zero, List.set_cons_succ, List.drop_succ_cons, List.drop_zero]
      go_wp2
      refine NoPanic.normal ?_
      go_wp2_with fail
      refine (fits_more_any g2 c2 l v w3 false HZ.out.1 (by omega) HF.out HV.out (decide_eq_false (by omega))).mono ?_
      rintro e w4 ⟨rfl, hb4⟩
      have HX := Lib.hid hb4
      clear hb4
      go_wp2
      go_ret2
      exact ⟨_, _, l, S, rfl, (HR1.out.below HZ.out.2.below_of).below HX.out, (LA.out.below HZ.out.2.below_of).below HX.out, fun i hi => .inl hi, (hKK.out.trans HZ.out.2 (fun _ _ h => h.elim)).trans (Kept.of_below HX.out : Kept S w3 w4) (fun _ _ h => h)⟩
    · refine wpOp_at rfl rfl (wp_buildSlice_val 26 29 _ _ v rfl rfl Try.underlying26 val_info ⟨fun j u hu => cell_alloc_some _ (cell_alloc_some _ (e1 j u hu)), ?_⟩)
      refine headF_one (i := 2) (by kernel_rfl) (by omega) ?_
      refine wpOp_at rfl rfl (wp_append_src _ (.tmp 36) (.tmp 37) 26 rfl w1.heap.size 29 j0 _ 7 56 Try.underlying26 hj0 hz hs7 hby (cellsV_size _) (by omega) (.slice (some ⟨w1.drew.heap.size, 0, none⟩) 0 0) 0 [] rfl (owns_empty (Blk.alloc (Blk.new w1.drew _ _) _) (Nat.le_refl _)) a l.length cp (flat l) rfl (by rw [HLEN.out]) (hcl.out _ ((((Kept.refl _ w1).drew.alloc _).alloc _) : Kept (fun _ => False) w1 _).below_of) flat_mem (by unfold maxLen; omega) (by omega) (((((Kept.refl _ w1).drew.alloc _).alloc _) : Kept (fun _ => False) w1 _).size) ?_)
      intro u1 w2 hown1 hgrow1 hat1
      have HG1 := Lib.hid hgrow1
      have HK1 : Hid (Kept (fun _ => False) w1 w2 ∧ w2.rangeAt n0 1 v.row) := Lib.hid (keep_range ((((Kept.refl _ w1).drew.alloc _).alloc _)) hgrow1 (fun i hi => by simp [Value.ownBlock] at hi; (try simp at hi); omega) e1)
      have HO1 : Hid (w2.ownsRow w1.heap.size 29 7 u1 l.length (flat l)) := Lib.hid (by simpa using hown1)
      clear hown1 hgrow1 hat1
      refine ⟨HK1.out.2, ?_⟩
      refine headF_one (i := 6) (by kernel_rfl) (by omega) ?_
      refine wpOp_at rfl rfl (wp_append_src _ (.tmp 38) (.tmp 41) 26 rfl w1.heap.size 29 j0 _ 7 56 Try.underlying26 hj0 hz hs7 hby (cellsV_size _) (by omega) u1 l.length (flat l) rfl (HO1.out) (some ⟨(w1.drew.alloc (.cells #[] 29)).heap.size, 0, none⟩) 1 1 v.row rfl rfl (fun _ => ⟨_, rfl, news_kept HG1.out (by simp [Value.ownBlock])⟩) (row_one v) (by unfold maxLen; omega) (by omega) ((HK1.out.1 : Kept (fun _ => False) w1 _).size) ?_)
      intro u2 w3 hown2 hgrow2 hat2
      have HZ : Hid (w3.ownsRow w1.heap.size 29 7 u2 (l.length + 1) (flat (l ++ [v])) ∧ Kept (fun _ => False) w1 w3) := Lib.hid (more_facts HO1.out (HK1.out.1) hown2 hgrow2)
      refine ⟨(keep_range (HK1.out.1) hgrow2 (fun i hi => (HO1.out.lt i hi).1) e1).2, ?_⟩
      clear hown2 hgrow2 hat2
      obtain ⟨g2, c2, rfl⟩ := more_slice HZ.out.1
      show Region.seqB _ _ _ _ _ = true ∧ _
      refine ⟨by kernel_rfl, ?_⟩
      simp only [Act.put, List.getElem_toArray, List.getElem_cons_zero, List.getElem_cons_succ, List.setIfInBounds_toArray, List.set_cons_zero, List.set_cons_succ, List.drop_succ_cons, List.drop_zero]
      go_wp2
      refine NoPanic.normal ?_
      go_wp2_with fail
      refine (fits_more_any g2 c2 l v w3 false HZ.out.1 (by omega) HF.out HV.out (decide_eq_false (by omega))).mono ?_
      rintro e w4 ⟨rfl, hb4⟩
      have HX := Lib.hid hb4
      clear hb4
      go_wp2
      go_ret2
      exact ⟨_, _, l, S, rfl, (HR1.out.below HZ.out.2.below_of).below HX.out, (LA.out.below HZ.out.2.below_of).below HX.out, fun i hi => .inl hi, (hKK.out.trans HZ.out.2 (fun _ _ h => h.elim)).trans (Kept.of_below HX.out : Kept S w3 w4) (fun _ _ h => h)⟩
  · refine wpOp_at rfl rfl (wp_buildSlice_val 26 29 _ _ v rfl rfl Try.underlying26 val_info ⟨fun j u hu => cell_alloc_some _ (e1 j u hu), ?_⟩)
    refine headF_one (i := 0) (by kernel_rfl) (by omega) ?_
    refine wpOp_at rfl rfl (wp_buildSlice_zero 26 29 j0 rfl Try.underlying26 hj0 ⟨fun j u hu => cell_alloc_some _ (cell_alloc_some _ (e1 j u hu)), ?_⟩)
    refine headF_one (i := 2) (by kernel_rfl) (by omega) ?_
    refine wpOp_at rfl rfl (wp_append_src _ (.tmp 36) (.tmp 37) 26 rfl w1.heap.size 29 j0 _ 7 56 Try.underlying26 hj0 hz hs7 hby (cellsV_size _) (by omega) (.slice (some ⟨(w1.drew.alloc (.cells (cellsV v) 29)).heap.size, 0, none⟩) 0 0) 0 [] rfl (owns_empty (Blk.new _ _ _) (by simp)) a l.length cp (flat l) rfl (by rw [HLEN.out]) (hcl.out _ ((((Kept.refl _ w1).drew.alloc _).alloc _) : Kept (fun _ => False) w1 _).below_of) flat_mem (by unfold maxLen; omega) (by omega) (((((Kept.refl _ w1).drew.alloc _).alloc _) : Kept (fun _ => False) w1 _).size) ?_)
    intro u1 w2 hown1 hgrow1 hat1
    have HG1 := Lib.hid hgrow1
    have HK1 : Hid (Kept (fun _ => False) w1 w2 ∧ w2.rangeAt n0 1 v.row) := Lib.hid (keep_range ((((Kept.refl _ w1).drew.alloc _).alloc _)) hgrow1 (fun i hi => by simp [Value.ownBlock] at hi; (try simp at hi); omega) e1)
    have HO1 : Hid (w2.ownsRow w1.heap.size 29 7 u1 l.length (flat l)) := Lib.hid (by simpa using hown1)
    clear hown1 hgrow1 hat1
    refine ⟨HK1.out.2, ?_⟩
    refine headF_one (i := 6) (by kernel_rfl) (by omega) ?_
    refine wpOp_at rfl rfl (wp_append_src _ (.tmp 38) (.tmp 41) 26 rfl w1.heap.size 29 j0 _ 7 56 Try.underlying26 hj0 hz hs7 hby (cellsV_size _) (by omega) u1 l.length (flat l) rfl (HO1.out) (some ⟨w1.drew.heap.size, 0, none⟩) 1 1 v.row rfl rfl (fun _ => ⟨_, rfl, news_kept2 HG1.out (by simp [Value.ownBlock])⟩) (row_one v) (by unfold maxLen; omega) (by omega) ((HK1.out.1 : Kept (fun _ => False) w1 _).size) ?_)
    intro u2 w3 hown2 hgrow2 hat2
    have HZ : Hid (w3.ownsRow w1.heap.size 29 7 u2 (l.length + 1) (flat (l ++ [v])) ∧ Kept (fun _ => False) w1 w3) := Lib.hid (more_facts HO1.out (HK1.out.1) hown2 hgrow2)
    refine ⟨(keep_range (HK1.out.1) hgrow2 (fun i hi => (HO1.out.lt i hi).1) e1).2, ?_⟩
    clear hown2 hgrow2 hat2
    obtain ⟨g2, c2, rfl⟩ := more_slice HZ.out.1
    show Region.seqB _ _ _ _ _ = true ∧ _
    refine ⟨by kernel_rfl, ?_⟩
    simp only [Act.put, List.getElem_toArray, List.getElem_cons_zero, List.getElem_cons_succ, List.setIfInBounds_toArray, List.set_cons_zero, List.set_cons_succ, List.drop_succ_cons, List.drop_zero]
    go_wp2
    refine NoPanic.normal ?_
    go_wp2_with fail
    refine (fits_more_any g2 c2 l v w3 false HZ.out.1 (by omega) HF.out HV.out (decide_eq_false (by omega))).mono ?_
    rintro e w4 ⟨rfl, hb4⟩
    have HX := Lib.hid hb4
    clear hb4
    go_wp2
    go_ret2
    exact ⟨_, _, l, S, rfl, (HR1.out.below HZ.out.2.below_of).below HX.out, (LA.out.below HZ.out.2.below_of).below HX.out, fun i hi => .inl hi, (hKK.out.trans HZ.out.2 (fun _ _ h => h.elim)).trans (Kept.of_below HX.out : Kept S w3 w4) (fun _ _ h => h)⟩
set_option maxHeartbeats 1600000 in
theorem do_added (b cap cp : Nat) (S : Nat → Prop) (a : Option Addr) (k : Int) (v : Val) (l : List Val) (w : World) (h : Reg w b S cap l) (hL : Lst w S a l) (hv : FitsV v) (hk : (k : Int) < 0) (hc : l.length < cap) (ht : totalOf l + v.bal ≤ 18446744073709551615) :
    Calls Try.prog 11 #[.pointer (some ⟨b, 0, none⟩), .slice a l.length cp, .int .i64 cap, .agg (opCells (k, v))] w (DoPost w b cap S) := by
  have HR0 := Lib.hid (h.alloc (.cells (opCells (k, v)) 31))
  have HL0 := Lib.hid (hL.alloc (.cells (opCells (k, v)) 31))
  have HE : Hid (Blk (w.alloc (.cells (opCells (k, v)) 31)) w.heap.size 31 (opCells (k, v))) := Lib.hid (Blk.new _ _ _)
  have HB : Hid (Below w.heap.size w (w.alloc (.cells (opCells (k, v)) 31))) := Lib.hid ((Below.refl _ _).alloc (Nat.le_refl _) _)
  have x0 : (w.alloc (.cells (opCells (k, v)) 31)).cell? ⟨w.heap.size, 0, none⟩ = some (.int .i64 k) := HE.out.opV.1
  have hfit := h.fits
  obtain ⟨f1, f2, f3, f4, f5⟩ := hfit
  have HF := Lib.hid f5
  have HV := Lib.hid hv
  have hSn : ¬ S w.heap.size := fun hs => by have := h.lt _ hs; omega
  have hlt0 := h.lt
  have HLT := Lib.hid hlt0
  have HS0 : Hid (∀ i, S i → i < w.heap.size) := Lib.hid hlt0
  obtain ⟨v0, v1⟩ := hv.bal
  obtain ⟨n0, hn0⟩ : ∃ n, w.heap.size = n := ⟨_, rfl⟩
  rw [hn0] at HE x0 hSn
  have H := Lib.hid (addv_yes b cap S l v _ HR0.out hv hc ht)
  have hge : ¬ (cap : Int) ≤ (l.length : Int) := by omega
  clear h hL hv f5 hlt0
  go_enter Try.func11, Try.ntmps11
  go_wp2_with (refine wpList_load_val rfl 29 _ rfl n0 1 rfl v _ HE.out.opV.2 Try.underlying29 rfl infoV ?_)
  generalize (w.alloc (.cells (opCells (k, v)) 31)) = W at *
  refine H.out.mono ?_
  rintro e w1 ⟨rfl, S1, hr1, hm1, hk1⟩
  have hKK := Lib.hid ((Kept.of_below HB.out : Kept S w W).trans hk1 (fun _ _ h => h))
  have HE1 := Lib.hid (HE.out.kept hk1 hSn)
  have HR1 := Lib.hid hr1
  have hwle := HB.out.size
  have HM : Hid (∀ i, S1 i → S i ∨ w.heap.size ≤ i) := Lib.hid (fun i hi => (hm1 i hi).imp id (fun h => by omega))
  have LA := Lib.hid (HL0.out.same hk1.size (fun q hq hnq => hk1.block q hq hnq))
  clear hr1 hm1 hk1 H HE x0
  go_wp2
  have hcl : Hid (∀ w', Below w1.heap.size w1 w' → 0 < l.length → ∃ ad, a = some ad ∧ ∀ j u, (flat l)[j]? = some u → w'.cell? (ad.add j) = some u) := Lib.hid (fun w' hb h0 => lst_src LA.out hb h0)
  have e1 : w1.rangeAt n0 1 v.row := HE1.out.opV.2
  have HE1' := Lib.hid e1
  obtain ⟨j0, hj0, hz, hs7, hby⟩ := val_app
  have HLEN := Lib.hid (flat_len l)
  refine wp_region_first (fun w' => w'.rangeAt n0 1 v.row) 7 4 [1, 3, 4] (by kernel_rfl) (by kernel_rfl) e1 ?_
  simp only [List.filterMap_cons, List.filterMap_nil, List.getElem?_toArray, List.getElem?_cons_zero, List.getElem?_cons_succ]
  show wpQuiet _ _ _ _ [_, _, _] _
  iterate 2 (go_big_quiet_step ((intros; rfl)))
  refine q_load_val 29 _ n0 1 v _ rfl rfl rfl (fun w h => h) Try.underlying29 rfl infoV ?_
  simp only [Act.put, List.setIfInBounds_toArray, List.set_cons_zero, List.set_cons_succ]
  refine wpQuiet_nil ?_
  refine headF_two (i := 0) (k := 5) (by kernel_rfl) (by omega) (by omega) ?_ ?_
  · refine wpOp_at rfl rfl (wp_buildSlice_zero 26 29 j0 rfl Try.underlying26 hj0 ⟨fun j u hu => cell_alloc_some _ (e1 j u hu), ?_⟩)
    refine headF_two (i := 2) (k := 5) (by kernel_rfl) (by omega) (by omega) ?_ ?_
    · refine wpOp_at rfl rfl (wp_append_src _ (.tmp 36) (.tmp 37) 26 rfl w1.heap.size 29 j0 _ 7 56 Try.underlying26 hj0 hz hs7 hby (cellsV_size _) (by omega) (.slice (some ⟨w1.drew.heap.size, 0, none⟩) 0 0) 0 [] rfl (owns_empty (Blk.new w1.drew _ _) (Nat.le_refl _)) a l.length cp (flat l) rfl (by rw [HLEN.out]) (hcl.out _ (((Kept.refl _ w1).drew.alloc _) : Kept (fun _ => False) w1 _).below_of) flat_mem (by unfold maxLen; omega) (by omega) ((((Kept.refl _ w1).drew.alloc _) : Kept (fun _ => False) w1 _).size) ?_)
      intro u1 w2 hown1 hgrow1 hat1
      have HG1 := Lib.hid hgrow1
      have HK1 : Hid (Kept (fun _ => False) w1 w2 ∧ w2.rangeAt n0 1 v.row) := Lib.hid (keep_range (((Kept.refl _ w1).drew.alloc _)) hgrow1 (fun i hi => by simp [Value.ownBlock] at hi; (try simp at hi); omega) e1)
      have HO1 : Hid (w2.ownsRow w1.heap.size 29 7 u1 l.length (flat l)) := Lib.hid (by simpa using hown1)
      clear hown1 hgrow1 hat1
      refine ⟨HK1.out.2, ?_⟩
      refine headF_one (i := 5) (by kernel_rfl) (by omega) ?_
      refine wpOp_at rfl rfl (wp_buildSlice_val 26 29 _ _ v rfl rfl Try.underlying26 val_info ⟨fun j u hu => cell_alloc_some _ (HK1.out.2 j u hu), ?_⟩)
      refine headF_one (i := 6) (by kernel_rfl) (by omega) ?_
      refine wpOp_at rfl rfl (wp_append_src _ (.tmp 38) (.tmp 41) 26 rfl w1.heap.size 29 j0 _ 7 56 Try.underlying26 hj0 hz hs7 hby (cellsV_size _) (by omega) u1 l.length (flat l) rfl (World.ownsRow.alloc HO1.out _) (some ⟨w2.heap.size, 0, none⟩) 1 1 v.row rfl rfl (fun _ => ⟨_, rfl, new_cells _ _ _⟩) (row_one v) (by unfold maxLen; omega) (by omega) ((HK1.out.1.alloc _ : Kept (fun _ => False) w1 _).size) ?_)
      intro u2 w3 hown2 hgrow2 hat2
      have HZ : Hid (w3.ownsRow w1.heap.size 29 7 u2 (l.length + 1) (flat (l ++ [v])) ∧ Kept (fun _ => False) w1 w3) := Lib.hid (more_facts HO1.out (HK1.out.1.alloc _) hown2 hgrow2)
      refine ⟨(keep_range (HK1.out.1.alloc _) hgrow2 (fun i hi => (HO1.out.lt i hi).1) e1).2, ?_⟩
      clear hown2 hgrow2 hat2
      obtain ⟨g2, c2, rfl⟩ := more_slice HZ.out.1
      show Region.seqB _ _ _ _ _ = true ∧ _
      refine ⟨by kernel_rfl, ?_⟩
      simp only [Act.put, List.getElem_toArray, List.getElem_cons_zero, List.getElem_cons_succ, List.setIfInBounds_toArray, List.set_cons_zero, List.set_cons_succ, List.drop_succ_cons, List.drop_zero]
      go_wp2
      refine NoPanic.normal ?_
      go_wp2_with fail
      refine (fits_more_any g2 c2 l v w3 true HZ.out.1 (by omega) HF.out HV.out (decide_eq_true (by omega))).mono ?_
      rintro e w4 ⟨rfl, hb4⟩
      have HX := Lib.hid hb4
      clear hb4
      go_wp2
      go_ret2
      have hlst : Lst w3 S1 (some ⟨g2, 0, none⟩) (l ++ [v]) := more_lst HZ.out.1 (fun i hi _ hs => by have := HR1.out.lt i hs; omega)
      exact ⟨_, _, l ++ [v], S1, by rw [more_len]; rfl, (HR1.out.below HZ.out.2.below_of).below HX.out, hlst.below HX.out, HM.out, (hKK.out.trans HZ.out.2 (fun _ _ h => h.elim)).trans (Kept.of_below HX.out : Kept S w3 w4) (fun _ _ h => h)⟩
    · refine wpOp_at rfl rfl (wp_buildSlice_val 26 29 _ _ v rfl rfl Try.underlying26 val_info ⟨fun j u hu => cell_alloc_some _ (cell_alloc_some _ (e1 j u hu)), ?_⟩)
      refine headF_one (i := 2) (by kernel_rfl) (by omega) ?_
      refine wpOp_at rfl rfl (wp_append_src _ (.tmp 36) (.tmp 37) 26 rfl w1.heap.size 29 j0 _ 7 56 Try.underlying26 hj0 hz hs7 hby (cellsV_size _) (by omega) (.slice (some ⟨w1.drew.heap.size, 0, none⟩) 0 0) 0 [] rfl (owns_empty (Blk.alloc (Blk.new w1.drew _ _) _) (Nat.le_refl _)) a l.length cp (flat l) rfl (by rw [HLEN.out]) (hcl.out _ ((((Kept.refl _ w1).drew.alloc _).alloc _) : Kept (fun _ => False) w1 _).below_of) flat_mem (by unfold maxLen; omega) (by omega) (((((Kept.refl _ w1).drew.alloc _).alloc _) : Kept (fun _ => False) w1 _).size) ?_)
      intro u1 w2 hown1 hgrow1 hat1
      have HG1 := Lib.hid hgrow1
      have HK1 : Hid (Kept (fun _ => False) w1 w2 ∧ w2.rangeAt n0 1 v.row) := Lib.hid (keep_range ((((Kept.refl _ w1).drew.alloc _).alloc _)) hgrow1 (fun i hi => by simp [Value.ownBlock] at hi; (try simp at hi); omega) e1)
      have HO1 : Hid (w2.ownsRow w1.heap.size 29 7 u1 l.length (flat l)) := Lib.hid (by simpa using hown1)
      clear hown1 hgrow1 hat1
      refine ⟨HK1.out.2, ?_⟩
      refine headF_one (i := 6) (by kernel_rfl) (by omega) ?_
      refine wpOp_at rfl rfl (wp_append_src _ (.tmp 38) (.tmp 41) 26 rfl w1.heap.size 29 j0 _ 7 56 Try.underlying26 hj0 hz hs7 hby (cellsV_size _) (by omega) u1 l.length (flat l) rfl (HO1.out) (some ⟨(w1.drew.alloc (.cells #[] 29)).heap.size, 0, none⟩) 1 1 v.row rfl rfl (fun _ => ⟨_, rfl, news_kept HG1.out (by simp [Value.ownBlock])⟩) (row_one v) (by unfold maxLen; omega) (by omega) ((HK1.out.1 : Kept (fun _ => False) w1 _).size) ?_)
      intro u2 w3 hown2 hgrow2 hat2
      have HZ : Hid (w3.ownsRow w1.heap.size 29 7 u2 (l.length + 1) (flat (l ++ [v])) ∧ Kept (fun _ => False) w1 w3) := Lib.hid (more_facts HO1.out (HK1.out.1) hown2 hgrow2)
      refine ⟨(keep_range (HK1.out.1) hgrow2 (fun i hi => (HO1.out.lt i hi).1) e1).2, ?_⟩
      clear hown2 hgrow2 hat2
      obtain ⟨g2, c2, rfl⟩ := more_slice HZ.out.1
      show Region.seqB _ _ _ _ _ = true ∧ _
      refine ⟨by kernel_rfl, ?_⟩
      simp only [Act.put, List.getElem_toArray, List.getElem_cons_zero, List.getElem_cons_succ, List.setIfInBounds_toArray, List.set_cons_zero, List.set_cons_succ, List.drop_succ_cons, List.drop_zero]
      go_wp2
      refine NoPanic.normal ?_
      go_wp2_with fail
      refine (fits_more_any g2 c2 l v w3 true HZ.out.1 (by omega) HF.out HV.out (decide_eq_true (by omega))).mono ?_
      rintro e w4 ⟨rfl, hb4⟩
      have HX := Lib.hid hb4
      clear hb4
      go_wp2
      go_ret2
      have hlst : Lst w3 S1 (some ⟨g2, 0, none⟩) (l ++ [v]) := more_lst HZ.out.1 (fun i hi _ hs => by have := HR1.out.lt i hs; omega)
      exact ⟨_, _, l ++ [v], S1, by rw [more_len]; rfl, (HR1.out.below HZ.out.2.below_of).below HX.out, hlst.below HX.out, HM.out, (hKK.out.trans HZ.out.2 (fun _ _ h => h.elim)).trans (Kept.of_below HX.out : Kept S w3 w4) (fun _ _ h => h)⟩
  · refine wpOp_at rfl rfl (wp_buildSlice_val 26 29 _ _ v rfl rfl Try.underlying26 val_info ⟨fun j u hu => cell_alloc_some _ (e1 j u hu), ?_⟩)
    refine headF_one (i := 0) (by kernel_rfl) (by omega) ?_
    refine wpOp_at rfl rfl (wp_buildSlice_zero 26 29 j0 rfl Try.underlying26 hj0 ⟨fun j u hu => cell_alloc_some _ (cell_alloc_some _ (e1 j u hu)), ?_⟩)
    refine headF_one (i := 2) (by kernel_rfl) (by omega) ?_
    refine wpOp_at rfl rfl (wp_append_src _ (.tmp 36) (.tmp 37) 26 rfl w1.heap.size 29 j0 _ 7 56 Try.underlying26 hj0 hz hs7 hby (cellsV_size _) (by omega) (.slice (some ⟨(w1.drew.alloc (.cells (cellsV v) 29)).heap.size, 0, none⟩) 0 0) 0 [] rfl (owns_empty (Blk.new _ _ _) (by simp)) a l.length cp (flat l) rfl (by rw [HLEN.out]) (hcl.out _ ((((Kept.refl _ w1).drew.alloc _).alloc _) : Kept (fun _ => False) w1 _).below_of) flat_mem (by unfold maxLen; omega) (by omega) (((((Kept.refl _ w1).drew.alloc _).alloc _) : Kept (fun _ => False) w1 _).size) ?_)
    intro u1 w2 hown1 hgrow1 hat1
    have HG1 := Lib.hid hgrow1
    have HK1 : Hid (Kept (fun _ => False) w1 w2 ∧ w2.rangeAt n0 1 v.row) := Lib.hid (keep_range ((((Kept.refl _ w1).drew.alloc _).alloc _)) hgrow1 (fun i hi => by simp [Value.ownBlock] at hi; (try simp at hi); omega) e1)
    have HO1 : Hid (w2.ownsRow w1.heap.size 29 7 u1 l.length (flat l)) := Lib.hid (by simpa using hown1)
    clear hown1 hgrow1 hat1
    refine ⟨HK1.out.2, ?_⟩
    refine headF_one (i := 6) (by kernel_rfl) (by omega) ?_
    refine wpOp_at rfl rfl (wp_append_src _ (.tmp 38) (.tmp 41) 26 rfl w1.heap.size 29 j0 _ 7 56 Try.underlying26 hj0 hz hs7 hby (cellsV_size _) (by omega) u1 l.length (flat l) rfl (HO1.out) (some ⟨w1.drew.heap.size, 0, none⟩) 1 1 v.row rfl rfl (fun _ => ⟨_, rfl, news_kept2 HG1.out (by simp [Value.ownBlock])⟩) (row_one v) (by unfold maxLen; omega) (by omega) ((HK1.out.1 : Kept (fun _ => False) w1 _).size) ?_)
    intro u2 w3 hown2 hgrow2 hat2
    have HZ : Hid (w3.ownsRow w1.heap.size 29 7 u2 (l.length + 1) (flat (l ++ [v])) ∧ Kept (fun _ => False) w1 w3) := Lib.hid (more_facts HO1.out (HK1.out.1) hown2 hgrow2)
    refine ⟨(keep_range (HK1.out.1) hgrow2 (fun i hi => (HO1.out.lt i hi).1) e1).2, ?_⟩
    clear hown2 hgrow2 hat2
    obtain ⟨g2, c2, rfl⟩ := more_slice HZ.out.1
    show Region.seqB _ _ _ _ _ = true ∧ _
    refine ⟨by kernel_rfl, ?_⟩
    simp only [Act.put, List.getElem_toArray, List.getElem_cons_zero, List.getElem_cons_succ, List.setIfInBounds_toArray, List.set_cons_zero, List.set_cons_succ, List.drop_succ_cons, List.drop_zero]
    go_wp2
    refine NoPanic.normal ?_
    go_wp2_with fail
    refine (fits_more_any g2 c2 l v w3 true HZ.out.1 (by omega) HF.out HV.out (decide_eq_true (by omega))).mono ?_
    rintro e w4 ⟨rfl, hb4⟩
    have HX := Lib.hid hb4
    clear hb4
    go_wp2
    go_ret2
    have hlst : Lst w3 S1 (some ⟨g2, 0, none⟩) (l ++ [v]) := more_lst HZ.out.1 (fun i hi _ hs => by have := HR1.out.lt i hs; omega)
    exact ⟨_, _, l ++ [v], S1, by rw [more_len]; rfl, (HR1.out.below HZ.out.2.below_of).below HX.out, hlst.below HX.out, HM.out, (hKK.out.trans HZ.out.2 (fun _ _ h => h.elim)).trans (Kept.of_below HX.out : Kept S w3 w4) (fun _ _ h => h)⟩
end Go.Proofs.Ytcmlkcmoailhjaa
