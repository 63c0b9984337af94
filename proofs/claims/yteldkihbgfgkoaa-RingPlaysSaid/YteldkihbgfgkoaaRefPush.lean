/- The reference's ring: Push. -/
import Derived.Test.YteldkihbgfgkoaaRef
import Derived.Test.YteldkihbgfgkoaaAppend
import Derived.Deep.RegionHeld3
import Derived.Deep.AppendLies
import Derived.Test.YteldkihbgfgkoaaFirst
import Derived.Deep.DrawnRows
import Derived.Maps.AppendAt
import Derived.Outline
namespace Go.Proofs.Yteldkihbgfgkoaa
open Go Go.RowKit
set_option linter.unusedVariables false
attribute [local go_sem ↓] Go.wp_at_zero Go.wp_at_succ

theorem refpush_rel {S : Nat → Prop} {d size n cap g cap2 base : Nat} {A : Option Addr} {x : Int} {Lk : List Int} {wr w2 : World} (hb : Blk wr d 30 #[.slice A n cap, .int .i64 size]) (hk : Kept (fun _ => False) wr w2)
    (hown : w2.ownsRow base 3 1 (.slice (some ⟨g, 0, none⟩) (n + 1) cap2) (n + 1) (Lk.map (Value.int .i64) ++ [.int .i64 x])) (hbase : wr.heap.size ≤ base) (hl : Lk.length = n) (hn : n < size) (hS : ∀ i, S i → i < wr.heap.size) :
    RefAt (w2.setCell ⟨d, 0, none⟩ (.slice (some ⟨g, 0, none⟩) (n + 1) cap2)) S d size (Lk ++ [x]) ∧ Kept (fun i => i = d) wr (w2.setCell ⟨d, 0, none⟩ (.slice (some ⟨g, 0, none⟩) (n + 1) cap2)) := by
  have hlen : (Lk ++ [x]).length = n + 1 := by simp [hl]
  obtain ⟨hg1, hg2⟩ := hown.lt g rfl
  have hgd : g ≠ d := by have := hb.lt; omega
  have hcap : n + 1 ≤ cap2 ∧ cap2 ≤ 9223372036854775807 := by
    rcases hown.2 with ⟨h, _⟩ | ⟨g', c', cur, h, _, _, h3, h4, _⟩
    · cases h
    · injection h with _ _ h
      subst h
      unfold maxLen at h4
      omega
  refine ⟨⟨some ⟨g, 0, none⟩, cap2, ?_, ?_, by omega, hcap.2, by omega⟩, Kept.setCell (S := fun i => i = d) (hk.more fun _ _ h => h.elim) (.inl rfl) _⟩
  · rw [hlen]
    exact (hb.kept hk id).set_ 0 _
  · intro _
    refine ⟨g, 0, rfl, ?_, by simpa [World.setCell] using hg2, fun j hj => ?_⟩
    · rintro (h | h)
      · exact hgd h
      · have := hS g h; omega
    · rw [World.cell?_setCell_other _ _ _ _ (fun e => hgd (by have := congrArg Addr.block e; simpa using this.symm)), Nat.zero_add]
      have hx : (Lk.map (Value.int .i64) ++ [.int .i64 x])[j]? = some (.int .i64 ((Lk ++ [x]).getD j 0)) := by
        rw [← List.map_singleton (f := Value.int .i64) (a := x), ← List.map_append, List.getElem?_map, List.getD_eq_getElem?_getD, List.getElem?_eq_getElem hj]
        rfl
      have := hown.cells (g := g) rfl j _ hx
      rwa [add_plain, Nat.zero_add] at this
set_option maxHeartbeats 2000000 in
theorem refpush_any (S S2 : Nat → Prop) (d size capl : Nat) (a : Option Addr) (L0 ls : List Int) (w : World) (h : RefAt w S d size L0) (hl : IntsAt w (fun i => i = d ∨ S2 i) a ls) (hlen : ls.length ≤ 1000000) (hsize : size ≤ 1048576) (hS : ∀ i, S i → i < w.heap.size) :
    Calls Try.prog 28 #[.pointer (some ⟨d, 0, none⟩), .slice a ls.length capl] w fun e w' => e = .returned (.int .i64 ((min ls.length (size - L0.length) : Nat) : Int)) ∧
      RefAt w' S d size (L0 ++ ls.take (min ls.length (size - L0.length))) ∧ Kept (fun i => i = d) w w' := by
  obtain ⟨m, hm⟩ : ∃ m, min ls.length (size - L0.length) = m := ⟨_, rfl⟩
  rw [hm]
  obtain ⟨len, hll⟩ : ∃ len, ls.length = len := ⟨_, rfl⟩
  rw [hll] at hlen hm ⊢
  have hm1 : m ≤ len := by omega
  have h00 : L0.length ≤ size := by obtain ⟨_, _, _, _, _, _, h5⟩ := h; exact h5
  have hm2 : L0.length + m ≤ size := by omega
  have hm3 : m = len ∨ size ≤ L0.length + m := by omega
  have H := Lib.hid h
  have HL := Lib.hid hl
  have HLL := Lib.hid hll
  clear h hl hm hll
  go_enter Try.func28, Try.ntmps28
  go_wp2
  go_loopw [5, 6] (fun s5 s6 wr => ∃ k : Nat, k ≤ m ∧ s5 = .int .i64 k ∧ s6 = .int .i64 k ∧ Hid (RefAt wr S d size (L0 ++ ls.take k)) ∧ Hid (Kept (fun i => i = d) w wr)) (fun _ s6 _ => m - (intOf s6).toNat)
  case atStart => exact ⟨0, by omega, rfl, rfl, by simpa using H, Kept.refl _ _⟩
  case round =>
    obtain ⟨k, hk, rfl, rfl, HR, HK⟩ := hrel
    obtain ⟨Lk, hLk⟩ : ∃ Lk, L0 ++ ls.take k = Lk := ⟨_, rfl⟩
    have hlk : Lk.length = L0.length + k := by rw [← hLk]; have := HLL.out; simp; omega
    rw [hLk] at HR
    obtain ⟨A, cap, hb, hints, hc1, hc2, hc3⟩ := HR.out
    have HLk := Lib.hid hLk
    clear hLk
    rw [hlk] at hb hc1 hc3
    obtain ⟨n, hn, hn'⟩ : ∃ n, L0.length + k = n ∧ n ≤ 1048576 := ⟨_, rfl, by omega⟩
    rw [hn] at hb hc1 hc3 hlk
    have c0 : wr.cell? ⟨d, 0, none⟩ = some (.slice A n cap) := hb.cell 0
    have c1 : wr.cell? ⟨d, 1, none⟩ = some (.int .i64 size) := hb.cell 1
    have f0 := hb.frozen 0
    have HB := Lib.hid hb
    have HI := Lib.hid hints
    have HLK := Lib.hid hlk
    have HN := Lib.hid hn
    clear hb hints hlk hn
    by_cases hkl : k < len
    · by_cases hns : n < size
      · have hkm : k < m := by have := HN.out; omega
        obtain ⟨lb, lo, ha, hlS, hlb, hlc⟩ := HL.out (by have := HLL.out; omega)
        subst ha
        have hx := HK.out.cell (p := ⟨lb, lo + k, none⟩) (fun e => hlS (.inl e)) (hlc k (by have := HLL.out; omega))
        obtain ⟨x, hxe⟩ : ∃ x, ls.getD k 0 = x := ⟨_, rfl⟩
        rw [hxe] at hx
        have HXE := Lib.hid hxe
        clear hxe
        have HLS := Lib.hid hlS
        have HLC := Lib.hid hlc
        clear hlS hlc
        have i1 : (k : Int) < (len : Int) := by omega
        have i2 : (n : Int) < (size : Int) := by omega
        go_wp2
        go_quiet (fail)
        go_wp2
        obtain ⟨W, hW⟩ : ∃ W, W = wr.drewN nq := ⟨_, rfl⟩
        rw [← hW]
        have d0 : W.cell? ⟨d, 0, none⟩ = some (.slice A n cap) := by rw [hW]; exact c0
        have dx : W.cell? ⟨lb, lo + k, none⟩ = some (.int .i64 x) := by rw [hW]; exact hx
        have g0 : W.frozen? ⟨d, 0, none⟩ = false := by rw [hW]; exact f0
        have hd : d < W.heap.size := cell_lt d0
        have hlb' : lb < W.heap.size := cell_lt dx
        have i0 : (0 : Int) ≤ (k : Int) := by omega
        have HW := Lib.hid hW
        clear hW c0 hx f0 c1
        have hsrc : ∀ w', Kept (fun _ => False) W w' → 0 < n → ∃ ad, A = some ad ∧ ∀ j u, (Lk.map (Value.int .i64))[j]? = some u → w'.cell? (ad.add j) = some u := fun w' hk h0 => by
          obtain ⟨x1, x2, x3⟩ := HI.out.src
          obtain ⟨ad, e, _, hc⟩ := x3 (by rw [HLK.out]; exact h0)
          refine ⟨ad, e, fun j u hu => hk.cell (fun h => h) ?_⟩
          rw [HW.out]
          exact hc j u hu
        have HSRC := Lib.hid hsrc
        clear hsrc
        obtain ⟨j0, hj0, hz0, hz1, hz2⟩ := info_parts int_info
        refine wp_region_first (fun w' => w'.cell? ⟨d, 0, none⟩ = some (.slice A n cap) ∧ w'.cell? ⟨lb, lo + k, none⟩ = some (.int .i64 x)) 13 4 [0, 2, 3, 4, 5, 7, 8, 9, 10] (by kernel_rfl) (by kernel_rfl) ⟨d0, dx⟩ ?_
        simp only [List.filterMap_cons, List.filterMap_nil, List.getElem?_toArray, List.getElem?_cons_zero, List.getElem?_cons_succ]
        show wpQuiet _ _ _ _ [_, _, _, _, _, _, _, _, _] _
        iterate 4 (go_big_quiet_step ((intros; rfl)))
        refine q_cell 28 _ _ (.slice A n cap) rfl rfl rfl (fun w h => by simp [go_sem, h]) (fun w h => h.1) ?_
        simp only [Act.put, List.setIfInBounds_toArray, List.set_cons_zero, List.set_cons_succ]
        iterate 3 (go_big_quiet_step ((intros; rfl)))
        refine q_cell 3 _ _ (.int .i64 x) rfl rfl rfl (fun w h => by simp [go_sem, h]) (fun w h => h.2) ?_
        simp only [Act.put, List.setIfInBounds_toArray, List.set_cons_zero, List.set_cons_succ]
        refine wpQuiet_nil ?_
        have hsx : (W.drew.alloc (.cells #[.int .i64 x] 3)).heap.size = W.heap.size + 1 := by simp
        have hsz : (W.drew.alloc (.cells #[] 3)).heap.size = W.heap.size + 1 := by simp
        have hone : ∀ u ∈ Lk.map (Value.int .i64), u.oneCell' = true := fun u hu => by obtain ⟨q, _, rfl⟩ := List.mem_map.1 hu; rfl
        refine headF_two (i := 1) (k := 11) (by kernel_rfl) (by omega) (by omega) ?_ ?_
        · refine wpOp_at rfl rfl (wp_buildSlice_zero 28 3 j0 rfl Try.underlying28 hj0 ⟨⟨Lib.cell?_alloc_some _ d0, Lib.cell?_alloc_some _ dx⟩, ?_⟩)
          refine headF_two (i := 6) (k := 11) (by kernel_rfl) (by omega) (by omega) ?_ ?_
          · refine wpOp_at rfl rfl (wp_append_src _ (.tmp 26) (.tmp 30) _ rfl W.heap.size 3 j0 _ 1 8 Try.underlying28 hj0 hz0 hz1 hz2 rfl Nat.one_pos (.slice (some ⟨W.heap.size, 0, none⟩) 0 0) 0 [] rfl (owns_empty (Blk.new W.drew _ _) (by omega)) A n cap (Lk.map (Value.int .i64)) rfl (by have := HLK.out; simp; omega) (HSRC.out _ (((Kept.refl _ W).drew.alloc _))) hone (by simp only [maxLen]; omega) (by omega) (((Kept.refl _ W).drew.alloc _) : Kept (fun _ => False) W _).size ?_)
            intro v1 w1 hown1 hgrow1 hat1
            have HK1 : Hid (Kept (fun _ => False) W w1) := Lib.hid (Kept.grown (((Kept.refl _ W).drew.alloc _)) hgrow1 (fun i hi => by simp [Value.ownBlock] at hi; omega))
            refine ⟨⟨HK1.out.cell (fun h => h) d0, HK1.out.cell (fun h => h) dx⟩, ?_⟩
            refine headF_one (i := 11) (by kernel_rfl) (by omega) ?_
            refine wpOp_at rfl rfl (wp_buildSlice_one 28 3 j0 (.tmp 35) _ (.int .i64 x) rfl rfl Try.underlying28 hj0 hz0 hz1 rfl rfl ⟨⟨Lib.cell?_alloc_some _ (HK1.out.cell (fun h => h) d0), Lib.cell?_alloc_some _ (HK1.out.cell (fun h => h) dx)⟩, ?_⟩)
            refine headF_one (i := 12) (by kernel_rfl) (by omega) ?_
            refine wpOp_at rfl rfl (wp_append_lies _ (.tmp 31) (.tmp 36) _ rfl W.heap.size 3 j0 _ 1 8 Try.underlying28 hj0 hz0 hz1 hz2 rfl Nat.one_pos v1 (0 + n) ([] ++ Lk.map (Value.int .i64)) rfl (hown1.alloc _) ⟨w1.heap.size, 0, none⟩ 1 1 [.int .i64 x] rfl rfl (World.news_of_block (cs := #[.int .i64 x]) (t := 3) (fr := (0, 0)) (heap_alloc_new w1 _)) (fun u hu => by rw [List.mem_singleton.1 hu]; rfl) (by omega) (by simp only [maxLen]; omega) (by omega) (HK1.out.alloc _ : Kept (fun _ => False) W _).size _ rfl ?_)
            intro g cap2 w2 hown2 hgrow2 hat2 hlt2
            have HK2 : Hid (Kept (fun _ => False) W w2) := Lib.hid (Kept.grown (HK1.out.alloc _) hgrow2 (fun i hi => by have := (hown1.lt i hi).1; omega))
            refine ⟨⟨HK2.out.cell (fun h => h) d0, HK2.out.cell (fun h => h) dx⟩, ?_⟩
            show Region.seqB _ _ _ _ _ = true ∧ _
            refine ⟨by kernel_rfl, ?_⟩
            simp only [Act.put, List.getElem_toArray, List.getElem_cons_zero, List.getElem_cons_succ, List.setIfInBounds_toArray, List.set_cons_zero, List.set_cons_succ, List.drop_succ_cons, List.drop_zero, Nat.zero_add]
            have d2 : w2.cell? ⟨d, 0, none⟩ = some (.slice A n cap) := HK2.out.cell (fun h => h) d0
            have g2 : w2.frozen? ⟨d, 0, none⟩ = false := (HK2.out.frozen (fun h => h) hd).trans g0
            go_wp2
            simp only [Nat.zero_add, List.nil_append] at hown2
            refine NoPanic.normal ?_
            go_wp2
            go_roundw
            case rel =>
              obtain ⟨r1, r2⟩ := refpush_rel (x := x) (base := W.heap.size) HB.out ((((Kept.refl _ wr).drewN nq).more (fun _ _ h => h)).trans (show Kept (fun _ => False) (wr.drewN nq) w2 from HW.out ▸ HK2.out) (fun _ _ h => h)) hown2 (Nat.le_of_eq (by rw [HW.out]; rfl)) HLK.out hns (fun i hi => Nat.lt_of_lt_of_le (hS i hi) HK.out.size)
              refine ⟨k + 1, by omega, by go_num, by go_num, ?_, HK.out.trans r2 (fun _ _ h => h)⟩
              have e : L0 ++ ls.take (k + 1) = Lk ++ [x] := by
                rw [← HLk.out, List.take_succ_eq_append_getElem (by have := HLL.out; omega), ← HXE.out, List.getD_eq_getElem?_getD, List.getElem?_eq_getElem (by have := HLL.out; omega)]
                simp
              rw [e]
              exact r1
            case measure => simp [intOf]; omega
          · refine wpOp_at rfl rfl (wp_buildSlice_one 28 3 j0 (.tmp 35) _ (.int .i64 x) rfl rfl Try.underlying28 hj0 hz0 hz1 rfl rfl ⟨⟨Lib.cell?_alloc_some _ (Lib.cell?_alloc_some _ d0), Lib.cell?_alloc_some _ (Lib.cell?_alloc_some _ dx)⟩, ?_⟩)
            refine headF_one (i := 6) (by kernel_rfl) (by omega) ?_
            refine wpOp_at rfl rfl (wp_append_src _ (.tmp 26) (.tmp 30) _ rfl W.heap.size 3 j0 _ 1 8 Try.underlying28 hj0 hz0 hz1 hz2 rfl Nat.one_pos (.slice (some ⟨W.heap.size, 0, none⟩) 0 0) 0 [] rfl (owns_empty ((Blk.new W.drew _ _).alloc _) (by omega)) A n cap (Lk.map (Value.int .i64)) rfl (by have := HLK.out; simp; omega) (HSRC.out _ ((((Kept.refl _ W).drew.alloc _).alloc _))) hone (by simp only [maxLen]; omega) (by omega) ((((Kept.refl _ W).drew.alloc _).alloc _) : Kept (fun _ => False) W _).size ?_)
            intro v1 w1 hown1 hgrow1 hat1
            have HK1 : Hid (Kept (fun _ => False) W w1) := Lib.hid (Kept.grown ((((Kept.refl _ W).drew.alloc _).alloc _)) hgrow1 (fun i hi => by simp [Value.ownBlock] at hi; omega))
            refine ⟨⟨HK1.out.cell (fun h => h) d0, HK1.out.cell (fun h => h) dx⟩, ?_⟩
            refine headF_one (i := 12) (by kernel_rfl) (by omega) ?_
            refine wpOp_at rfl rfl (wp_append_lies _ (.tmp 31) (.tmp 36) _ rfl W.heap.size 3 j0 _ 1 8 Try.underlying28 hj0 hz0 hz1 hz2 rfl Nat.one_pos v1 (0 + n) ([] ++ Lk.map (Value.int .i64)) rfl (hown1) ⟨(W.drew.alloc (.cells #[] 3)).heap.size, 0, none⟩ 1 1 [.int .i64 x] rfl rfl (World.news_of_block (cs := #[.int .i64 x]) (t := 3) (fr := (0, 0)) ((hgrow1.block _ (by simp <;> omega) (by simp [Value.ownBlock] <;> omega)).trans (Blk.new _ _ _))) (fun u hu => by rw [List.mem_singleton.1 hu]; rfl) (by omega) (by simp only [maxLen]; omega) (by omega) (HK1.out : Kept (fun _ => False) W _).size _ rfl ?_)
            intro g cap2 w2 hown2 hgrow2 hat2 hlt2
            have HK2 : Hid (Kept (fun _ => False) W w2) := Lib.hid (Kept.grown (HK1.out) hgrow2 (fun i hi => by have := (hown1.lt i hi).1; omega))
            refine ⟨⟨HK2.out.cell (fun h => h) d0, HK2.out.cell (fun h => h) dx⟩, ?_⟩
            show Region.seqB _ _ _ _ _ = true ∧ _
            refine ⟨by kernel_rfl, ?_⟩
            simp only [Act.put, List.getElem_toArray, List.getElem_cons_zero, List.getElem_cons_succ, List.setIfInBounds_toArray, List.set_cons_zero, List.set_cons_succ, List.drop_succ_cons, List.drop_zero, Nat.zero_add]
            have d2 : w2.cell? ⟨d, 0, none⟩ = some (.slice A n cap) := HK2.out.cell (fun h => h) d0
            have g2 : w2.frozen? ⟨d, 0, none⟩ = false := (HK2.out.frozen (fun h => h) hd).trans g0
            go_wp2
            simp only [Nat.zero_add, List.nil_append] at hown2
            refine NoPanic.normal ?_
            go_wp2
            go_roundw
            case rel =>
              obtain ⟨r1, r2⟩ := refpush_rel (x := x) (base := W.heap.size) HB.out ((((Kept.refl _ wr).drewN nq).more (fun _ _ h => h)).trans (show Kept (fun _ => False) (wr.drewN nq) w2 from HW.out ▸ HK2.out) (fun _ _ h => h)) hown2 (Nat.le_of_eq (by rw [HW.out]; rfl)) HLK.out hns (fun i hi => Nat.lt_of_lt_of_le (hS i hi) HK.out.size)
              refine ⟨k + 1, by omega, by go_num, by go_num, ?_, HK.out.trans r2 (fun _ _ h => h)⟩
              have e : L0 ++ ls.take (k + 1) = Lk ++ [x] := by
                rw [← HLk.out, List.take_succ_eq_append_getElem (by have := HLL.out; omega), ← HXE.out, List.getD_eq_getElem?_getD, List.getElem?_eq_getElem (by have := HLL.out; omega)]
                simp
              rw [e]
              exact r1
            case measure => simp [intOf]; omega
        · refine wpOp_at rfl rfl (wp_buildSlice_one 28 3 j0 (.tmp 35) _ (.int .i64 x) rfl rfl Try.underlying28 hj0 hz0 hz1 rfl rfl ⟨⟨Lib.cell?_alloc_some _ d0, Lib.cell?_alloc_some _ dx⟩, ?_⟩)
          refine headF_one (i := 1) (by kernel_rfl) (by omega) ?_
          refine wpOp_at rfl rfl (wp_buildSlice_zero 28 3 j0 rfl Try.underlying28 hj0 ⟨⟨Lib.cell?_alloc_some _ (Lib.cell?_alloc_some _ d0), Lib.cell?_alloc_some _ (Lib.cell?_alloc_some _ dx)⟩, ?_⟩)
          refine headF_one (i := 6) (by kernel_rfl) (by omega) ?_
          refine wpOp_at rfl rfl (wp_append_src _ (.tmp 26) (.tmp 30) _ rfl W.heap.size 3 j0 _ 1 8 Try.underlying28 hj0 hz0 hz1 hz2 rfl Nat.one_pos (.slice (some ⟨(W.drew.alloc (.cells #[.int .i64 x] 3)).heap.size, 0, none⟩) 0 0) 0 [] rfl (owns_empty (Blk.new _ _ _) (by omega)) A n cap (Lk.map (Value.int .i64)) rfl (by have := HLK.out; simp; omega) (HSRC.out _ ((((Kept.refl _ W).drew.alloc _).alloc _))) hone (by simp only [maxLen]; omega) (by omega) ((((Kept.refl _ W).drew.alloc _).alloc _) : Kept (fun _ => False) W _).size ?_)
          intro v1 w1 hown1 hgrow1 hat1
          have HK1 : Hid (Kept (fun _ => False) W w1) := Lib.hid (Kept.grown ((((Kept.refl _ W).drew.alloc _).alloc _)) hgrow1 (fun i hi => by simp [Value.ownBlock] at hi; omega))
          refine ⟨⟨HK1.out.cell (fun h => h) d0, HK1.out.cell (fun h => h) dx⟩, ?_⟩
          refine headF_one (i := 12) (by kernel_rfl) (by omega) ?_
          refine wpOp_at rfl rfl (wp_append_lies _ (.tmp 31) (.tmp 36) _ rfl W.heap.size 3 j0 _ 1 8 Try.underlying28 hj0 hz0 hz1 hz2 rfl Nat.one_pos v1 (0 + n) ([] ++ Lk.map (Value.int .i64)) rfl (hown1) ⟨W.heap.size, 0, none⟩ 1 1 [.int .i64 x] rfl rfl (World.news_of_block (cs := #[.int .i64 x]) (t := 3) (fr := (0, 0)) ((hgrow1.block _ (by simp <;> omega) (by simp [Value.ownBlock] <;> omega)).trans ((Blk.new W.drew _ _).alloc _))) (fun u hu => by rw [List.mem_singleton.1 hu]; rfl) (by omega) (by simp only [maxLen]; omega) (by omega) (HK1.out : Kept (fun _ => False) W _).size _ rfl ?_)
          intro g cap2 w2 hown2 hgrow2 hat2 hlt2
          have HK2 : Hid (Kept (fun _ => False) W w2) := Lib.hid (Kept.grown (HK1.out) hgrow2 (fun i hi => by have := (hown1.lt i hi).1; omega))
          refine ⟨⟨HK2.out.cell (fun h => h) d0, HK2.out.cell (fun h => h) dx⟩, ?_⟩
          show Region.seqB _ _ _ _ _ = true ∧ _
          refine ⟨by kernel_rfl, ?_⟩
          simp only [Act.put, List.getElem_toArray, List.getElem_cons_zero, List.getElem_cons_succ, List.setIfInBounds_toArray, List.set_cons_zero, List.set_cons_succ, List.drop_succ_cons, List.drop_zero, Nat.zero_add]
          have d2 : w2.cell? ⟨d, 0, none⟩ = some (.slice A n cap) := HK2.out.cell (fun h => h) d0
          have g2 : w2.frozen? ⟨d, 0, none⟩ = false := (HK2.out.frozen (fun h => h) hd).trans g0
          go_wp2
          simp only [Nat.zero_add, List.nil_append] at hown2
          refine NoPanic.normal ?_
          go_wp2
          go_roundw
          case rel =>
            obtain ⟨r1, r2⟩ := refpush_rel (x := x) (base := W.heap.size) HB.out ((((Kept.refl _ wr).drewN nq).more (fun _ _ h => h)).trans (show Kept (fun _ => False) (wr.drewN nq) w2 from HW.out ▸ HK2.out) (fun _ _ h => h)) hown2 (Nat.le_of_eq (by rw [HW.out]; rfl)) HLK.out hns (fun i hi => Nat.lt_of_lt_of_le (hS i hi) HK.out.size)
            refine ⟨k + 1, by omega, by go_num, by go_num, ?_, HK.out.trans r2 (fun _ _ h => h)⟩
            have e : L0 ++ ls.take (k + 1) = Lk ++ [x] := by
              rw [← HLk.out, List.take_succ_eq_append_getElem (by have := HLL.out; omega), ← HXE.out, List.getD_eq_getElem?_getD, List.getElem?_eq_getElem (by have := HLL.out; omega)]
              simp
            rw [e]
            exact r1
          case measure => simp [intOf]; omega
      · obtain rfl : k = m := by have := HN.out; omega
        have i1 : (k : Int) < (len : Int) := by omega
        have i2 : ¬ (n : Int) < (size : Int) := by omega
        have i3 : decide (n < size) = false := by simpa using hns
        have i4 : decide (k < len) = true := by simpa using hkl
        go_wp2
        go_quiet (fail)
        go_wp2
        go_ret
        exact ⟨rfl, by rw [HLk.out]; exact HR.out.drewN _, HK.out.drewN _⟩
    · obtain rfl : k = m := by omega
      have i1 : ¬ (k : Int) < (len : Int) := by omega
      have i3 : decide (k < len) = false := by simpa using hkl
      go_wp2
      go_quiet (fail)
      go_wp2
      go_ret
      exact ⟨rfl, by rw [HLk.out]; exact HR.out.drewN _, HK.out.drewN _⟩
end Go.Proofs.Yteldkihbgfgkoaa
