/- The walk of LanesOrder. (Written by mkorder.py.) -/
import Derived.Test.YtlmjhggnecmggaaArr
import Derived.Test.YtlmjhggnecmggaaFirst
import Derived.Test.YtlmjhggnecmggaaOpen
import Derived.OpenShut
namespace Go.Proofs.Ytlmjhggnecmggaa
open Go Go.RowKit Go.OpenShut
set_option linter.unusedVariables false
set_option linter.unusedSimpArgs false

/-- What Push does, in three cases. -/
theorem push_three (n : Nat) (F V : List Int) (c x : Int) : (c = 0 ∧ errP n F V c = 0 ∧ pushF n F c x = F ++ [x] ∧ pushV n V c x = V) ∨ (c = 1 ∧ errP n F V c = 0 ∧ pushF n F c x = F ∧ pushV n V c x = V ++ [x]) ∨ ((errP n F V c == 0) = false ∧ pushF n F c x = F ∧ pushV n V c x = V) := by
  by_cases c0 : c = 0
  · subst c0
    by_cases h : F.length < n
    · exact .inl ⟨rfl, by simp [errP, h], by simp [pushF, h], by simp [pushV]⟩
    · exact .inr (.inr ⟨by simp [errP, h], by simp [pushF, h], by simp [pushV]⟩)
  · by_cases c1 : c = 1
    · subst c1
      by_cases h : V.length < n
      · exact .inr (.inl ⟨rfl, by simp [errP, h], by simp [pushF], by simp [pushV, h]⟩)
      · exact .inr (.inr ⟨by simp [errP, h], by simp [pushF], by simp [pushV, h]⟩)
    · exact .inr (.inr ⟨by simp [errP, c0, c1], by simp [pushF, c0], by simp [pushV, c1]⟩)
def Inv1 (F V : List Int) (lst : Nat → List Int) (k : Nat) : Prop := lst 0 = lst 2 ++ F ∧ lst 1 = lst 3 ++ V ∧ (lst 0).length + (lst 1).length ≤ k
def Inv2 (F V : List Int) (lst : Nat → List Int) (m j : Nat) : Prop := lst 0 = lst 2 ++ F ∧ lst 1 = lst 3 ++ V ∧ (lst 0).length + (lst 1).length ≤ 100 ∧ F.length + V.length + j ≤ m

set_option maxRecDepth 100000 in
set_option maxHeartbeats 3200000 in
theorem walk_LanesOrder (a0 : Int) (a1 : Option Addr) (len1 cap1 : Nat) (w : World) (w0 : (Lit.int .u8 a0).wf = true) (w1 : IsOps w a1 len1 cap1) :
    Calls Try.prog 5 #[.int .u8 a0, .slice a1 len1 cap1] w fun e w' => e = .returned (.bool true) ∧ Below w.heap.size w w' := by
  obtain ⟨x0, x1⟩ := bounds_u8 w0
  obtain ⟨n, hn, hn1, hn2⟩ : ∃ n : Nat, a0 + 1 = n ∧ 1 ≤ n ∧ n ≤ 256 := ⟨(a0 + 1).toNat, by omega, by omega, by omega⟩
  have W1 := Lib.hid w1
  have hl1 : len1 ≤ 9223372036854775807 := by have := w1.1; have := w1.2.1; unfold maxLen at this; omega
  have HN := Lib.hid (fun w => Own.new n w hn1 (by omega))
  obtain ⟨j0, hj0, hz0, hz1, hz2⟩ := int_app
  clear w0 w1
  go_enter Try.func5, Try.ntmps5
  go_wp2_with fail
  refine (HN.out _).mono ?_
  rintro e w1 ⟨rfl, S1, O1⟩
  clear HN
  by_cases h100 : (100 : Int) < (len1 : Int)
  · go_wp2_with fail
    refine (alive_any _).mono ?_
    rintro e w2 ⟨rfl, hb⟩
    have HB := Lib.hid (O1.out.below hb).2.2
    clear hb O1
    go_wp2_with fail
    go_ret
    exact ⟨rfl, HB.out⟩
  · have hle : len1 ≤ 100 := by omega
    go_wp2_with fail
    have P0 : Hid (Pos w ((w1.alloc (.cells #[.slice none 0 0, .slice none 0 0] 41)).alloc (.cells #[.slice none 0 0, .slice none 0 0] 41)) w.heap.size w1.heap.size (w1.heap.size + 1) n [] [] (fun _ => .slice none 0 0) (fun _ => [])) := Lib.hid
      ⟨S1, (O1.out.alloc _).alloc _, Blk.alloc (Blk.new _ _ _) _, by have := Blk.new (w1.alloc (.cells #[.slice none 0 0, .slice none 0 0] 41)) 41 #[.slice none 0 0, .slice none 0 0]; simpa using this, O1.out.2.2.size, by omega, fun h => Nat.lt_irrefl _ (O1.out.1.lt _ h), fun h => by have := O1.out.1.lt _ h; omega, fun j => World.ownsRow_nil _ _ _ _, fun j i hi => by simp [Value.ownBlock] at hi, fun j k i _ hi => by simp [Value.ownBlock] at hi⟩
    clear O1
    obtain ⟨bp, hbp⟩ : ∃ bp, w1.heap.size = bp := ⟨_, rfl⟩
    obtain ⟨bq, hbq⟩ : ∃ bq, bp + 1 = bq := ⟨_, rfl⟩
    rw [hbp, hbq] at P0
    try simp only [World.size_alloc]
    rw [hbp, hbq]
    generalize (w1.alloc (.cells #[.slice none 0 0, .slice none 0 0] 41)).alloc (.cells #[.slice none 0 0, .slice none 0 0] 41) = w2 at *
    clear hbp hbq
    go_loopw [28] (fun s28 wr => ∃ (k : Nat) (F V : List Int) (val : Nat → Value) (lst : Nat → List Int), k ≤ len1 ∧ s28 = .int .i64 k ∧ Hid (Pos w wr w.heap.size bp bq n F V val lst) ∧ Hid (Inv1 F V lst k)) (fun s28 _ => len1 - (intOf s28).toNat)
    case atStart => exact ⟨0, [], [], _, _, by omega, rfl, P0, Lib.hid ⟨rfl, rfl, by simp⟩⟩
    case round =>
      clear P0
      obtain ⟨k, F, V, val, lst, hk, rfl, P, INV⟩ := hrel
      by_cases hlt : k < len1
      · obtain ⟨lb, lo, p, c, x, rfl, y0, y1, y2⟩ := W1.out.at P.out.bel hlt
        have E0 : (wr.alloc (.cells #[.bool p, .int .i64 c, .int .i64 x] 31)).cell? ⟨wr.heap.size, 0, none⟩ = some (.bool p) := (Blk.new wr 31 #[.bool p, .int .i64 c, .int .i64 x]).cell 0
        have E1 : (wr.alloc (.cells #[.bool p, .int .i64 c, .int .i64 x] 31)).cell? ⟨wr.heap.size, 1, none⟩ = some (.int .i64 c) := (Blk.new wr 31 #[.bool p, .int .i64 c, .int .i64 x]).cell 1
        have E2 : (wr.alloc (.cells #[.bool p, .int .i64 c, .int .i64 x] 31)).cell? ⟨wr.heap.size, 2, none⟩ = some (.int .i64 x) := (Blk.new wr 31 #[.bool p, .int .i64 c, .int .i64 x]).cell 2
        cases p
        · have HP := P.out.push (.cells #[.bool false, .int .i64 c, .int .i64 x] 31) c x
          rcases push_three n F V c x with ⟨rfl, e1, e2, e3⟩ | ⟨rfl, e1, e2, e3⟩ | ⟨e1, e2, e3⟩
          · rw [e1, e2, e3] at HP
            have HPP := Lib.hid HP
            clear HP e1 e2 e3
            go_wp2_with fail
            refine HPP.out.mono ?_
            rintro e w3 ⟨rfl, P3, hbox⟩
            clear HPP
            have HB3 : Hid (Blk w3 wr.heap.size 31 #[.bool false, .int .i64 0, .int .i64 x]) := Lib.hid (hbox.out _ _ (Blk.new _ _ _))
            have HNE := Lib.hid (P.out.bound 0 wr.heap.size (Nat.le_refl _))
            have hl2 : (lst 0).length ≤ 100 := by have := INV.out.2.2; omega
            have E1' := HB3.out.cell 1
            have E2' := HB3.out.cell 2
            clear hbox P E0 E1 E2 y0 y1 y2
            go_wp2_with fail
            have C := Lib.hid P3.out.cells
            have D0 : Hid (Blk w3.drew wr.heap.size 31 #[.bool false, .int .i64 0, .int .i64 x] ∧ w3.drew.cell? ⟨bp, 0, none⟩ = some (val 0)) := Lib.hid ⟨Blk.drew HB3.out, C.out.1⟩
            have P4 : Hid (Pos w w3.drew w.heap.size bp bq n (F ++ [x]) V val lst) := Lib.hid (P3.out.drewN 1)
            clear C E1' E2' HB3 P3
            refine wp_region_first (fun w' => Blk w' wr.heap.size 31 #[.bool false, .int .i64 0, .int .i64 x] ∧ w'.cell? ⟨bp, 0, none⟩ = some (val 0)) 10 2 [0, 1, 2, 3, 4, 5, 6, 7] (by kernel_rfl) (by kernel_rfl) D0.out ?_
            simp only [List.filterMap_cons, List.filterMap_nil, List.getElem?_toArray, List.getElem?_cons_zero, List.getElem?_cons_succ]
            show wpQuiet _ _ _ _ [_, _, _, _, _, _, _, _] _
            iterate 1 (go_big_quiet_step ((intros; rfl)))
            refine q_cell 3 _ _ (.int .i64 0) rfl rfl rfl (fun w h => by simp [go_sem, h]) (fun w h => Blk.cell h.1 1) ?_
            simp only [Act.put, List.setIfInBounds_toArray, List.set_cons_zero, List.set_cons_succ]
            iterate 1 (go_big_quiet_step ((intros; rfl)))
            refine q_cell 3 _ _ (.int .i64 0) rfl rfl rfl (fun w h => by simp [go_sem, h]) (fun w h => Blk.cell h.1 1) ?_
            simp only [Act.put, List.setIfInBounds_toArray, List.set_cons_zero, List.set_cons_succ]
            iterate 1 (go_big_quiet_step ((intros; rfl)))
            refine q_cell 27 _ _ (val 0) rfl rfl rfl (fun w h => by simp [go_sem, h]) (fun w h => h.2) ?_
            simp only [Act.put, List.setIfInBounds_toArray, List.set_cons_zero, List.set_cons_succ]
            iterate 1 (go_big_quiet_step ((intros; rfl)))
            refine q_cell 3 _ _ (.int .i64 x) rfl rfl rfl (fun w h => by simp [go_sem, h]) (fun w h => Blk.cell h.1 2) ?_
            simp only [Act.put, List.setIfInBounds_toArray, List.set_cons_zero, List.set_cons_succ]
            refine wpQuiet_nil ?_
            refine headF_one (i := 8) (by kernel_rfl) (by omega) ?_
            refine wpOp_at rfl rfl (wp_buildSlice_one 27 3 j0 (.tmp 81) _ (.int .i64 x) rfl rfl Try.underlying27 hj0 hz0 hz1 rfl rfl ⟨⟨D0.out.1.alloc _, Lib.cell?_alloc_some _ D0.out.2⟩, ?_⟩)
            refine headF_one (i := 9) (by kernel_rfl) (by omega) ?_
            refine wpOp_at rfl rfl (wp_append_src _ (.tmp 79) (.tmp 82) _ rfl (bq + 1) 3 j0 _ 1 8 Try.underlying27 hj0 hz0 hz1 hz2 rfl Nat.one_pos (val 0) (lst 0).length ((lst 0).map (Value.int .i64)) rfl ((P4.out.alloc _).row 0) (some ⟨w3.drew.heap.size, 0, none⟩) 1 1 [.int .i64 x] rfl rfl (fun _ => ⟨_, rfl, World.news_of_block (cs := #[.int .i64 x]) (t := 3) (fr := (0, 0)) (heap_alloc_new w3.drew _)⟩) (fun u hu => by rw [List.mem_singleton.1 hu]; rfl) (by simp only [maxLen]; omega) (by omega) (P4.out.alloc _).lt ?_)
            intro v5 w5 ho5 hg5 ha5
            obtain ⟨a5, cp5, rfl⟩ := owns_any ho5
            have P6 : Hid (Pos w (w5.setCell ⟨bp, 0, none⟩ (.slice a5 ((lst 0).length + 1) cp5)) w.heap.size bp bq n (F ++ [x]) V (upd val 0 (.slice a5 ((lst 0).length + 1) cp5)) (upd lst 0 (lst 0 ++ [x]))) := Lib.hid (P4.out.app (m := 0) (by omega) ho5 hg5 ha5)
            have z0 : w5.cell? ⟨bp, 0, none⟩ = some (val 0) := (P4.out.ready (m := 0) (by omega) _ hg5).1
            have z1 : w5.frozen? ⟨bp, 0, none⟩ = false := (P4.out.ready (m := 0) (by omega) _ hg5).2
            refine ⟨⟨P4.out.box (m := 0) D0.out.1 HNE.out _ hg5, z0⟩, ?_⟩
            clear ho5 hg5 ha5 P4 D0
            show Region.seqB _ _ _ _ _ = true ∧ _
            refine ⟨by kernel_rfl, ?_⟩
            simp only [Act.put, List.getElem_toArray, List.getElem_cons_zero, List.getElem_cons_succ, List.setIfInBounds_toArray, List.set_cons_zero, List.set_cons_succ, List.drop_succ_cons, List.drop_zero]
            go_wp2_with fail
            refine NoPanic.normal ?_
            go_wp2_with fail
            go_roundw
            case rel => exact ⟨k + 1, _, _, _, _, by omega, by go_num, P6, Lib.hid (by
              have := INV.out
              refine ⟨by simp [upd, this.1], by simp [upd, this.2.1], ?_⟩
              have h2 := this.2.2
              simp [upd]
              omega)⟩
            case measure => simp [intOf]; omega
          · rw [e1, e2, e3] at HP
            have HPP := Lib.hid HP
            clear HP e1 e2 e3
            go_wp2_with fail
            refine HPP.out.mono ?_
            rintro e w3 ⟨rfl, P3, hbox⟩
            clear HPP
            have HB3 : Hid (Blk w3 wr.heap.size 31 #[.bool false, .int .i64 1, .int .i64 x]) := Lib.hid (hbox.out _ _ (Blk.new _ _ _))
            have HNE := Lib.hid (P.out.bound 1 wr.heap.size (Nat.le_refl _))
            have hl2 : (lst 1).length ≤ 100 := by have := INV.out.2.2; omega
            have E1' := HB3.out.cell 1
            have E2' := HB3.out.cell 2
            clear hbox P E0 E1 E2 y0 y1 y2
            go_wp2_with fail
            have C := Lib.hid P3.out.cells
            have D0 : Hid (Blk w3.drew wr.heap.size 31 #[.bool false, .int .i64 1, .int .i64 x] ∧ w3.drew.cell? ⟨bp, 1, none⟩ = some (val 1)) := Lib.hid ⟨Blk.drew HB3.out, C.out.2.1⟩
            have P4 : Hid (Pos w w3.drew w.heap.size bp bq n F (V ++ [x]) val lst) := Lib.hid (P3.out.drewN 1)
            clear C E1' E2' HB3 P3
            refine wp_region_first (fun w' => Blk w' wr.heap.size 31 #[.bool false, .int .i64 1, .int .i64 x] ∧ w'.cell? ⟨bp, 1, none⟩ = some (val 1)) 10 2 [0, 1, 2, 3, 4, 5, 6, 7] (by kernel_rfl) (by kernel_rfl) D0.out ?_
            simp only [List.filterMap_cons, List.filterMap_nil, List.getElem?_toArray, List.getElem?_cons_zero, List.getElem?_cons_succ]
            show wpQuiet _ _ _ _ [_, _, _, _, _, _, _, _] _
            iterate 1 (go_big_quiet_step ((intros; rfl)))
            refine q_cell 3 _ _ (.int .i64 1) rfl rfl rfl (fun w h => by simp [go_sem, h]) (fun w h => Blk.cell h.1 1) ?_
            simp only [Act.put, List.setIfInBounds_toArray, List.set_cons_zero, List.set_cons_succ]
            iterate 1 (go_big_quiet_step ((intros; rfl)))
            refine q_cell 3 _ _ (.int .i64 1) rfl rfl rfl (fun w h => by simp [go_sem, h]) (fun w h => Blk.cell h.1 1) ?_
            simp only [Act.put, List.setIfInBounds_toArray, List.set_cons_zero, List.set_cons_succ]
            iterate 1 (go_big_quiet_step ((intros; rfl)))
            refine q_cell 27 _ _ (val 1) rfl rfl rfl (fun w h => by simp [go_sem, h]) (fun w h => h.2) ?_
            simp only [Act.put, List.setIfInBounds_toArray, List.set_cons_zero, List.set_cons_succ]
            iterate 1 (go_big_quiet_step ((intros; rfl)))
            refine q_cell 3 _ _ (.int .i64 x) rfl rfl rfl (fun w h => by simp [go_sem, h]) (fun w h => Blk.cell h.1 2) ?_
            simp only [Act.put, List.setIfInBounds_toArray, List.set_cons_zero, List.set_cons_succ]
            refine wpQuiet_nil ?_
            refine headF_one (i := 8) (by kernel_rfl) (by omega) ?_
            refine wpOp_at rfl rfl (wp_buildSlice_one 27 3 j0 (.tmp 81) _ (.int .i64 x) rfl rfl Try.underlying27 hj0 hz0 hz1 rfl rfl ⟨⟨D0.out.1.alloc _, Lib.cell?_alloc_some _ D0.out.2⟩, ?_⟩)
            refine headF_one (i := 9) (by kernel_rfl) (by omega) ?_
            refine wpOp_at rfl rfl (wp_append_src _ (.tmp 79) (.tmp 82) _ rfl (bq + 1) 3 j0 _ 1 8 Try.underlying27 hj0 hz0 hz1 hz2 rfl Nat.one_pos (val 1) (lst 1).length ((lst 1).map (Value.int .i64)) rfl ((P4.out.alloc _).row 1) (some ⟨w3.drew.heap.size, 0, none⟩) 1 1 [.int .i64 x] rfl rfl (fun _ => ⟨_, rfl, World.news_of_block (cs := #[.int .i64 x]) (t := 3) (fr := (0, 0)) (heap_alloc_new w3.drew _)⟩) (fun u hu => by rw [List.mem_singleton.1 hu]; rfl) (by simp only [maxLen]; omega) (by omega) (P4.out.alloc _).lt ?_)
            intro v5 w5 ho5 hg5 ha5
            obtain ⟨a5, cp5, rfl⟩ := owns_any ho5
            have P6 : Hid (Pos w (w5.setCell ⟨bp, 1, none⟩ (.slice a5 ((lst 1).length + 1) cp5)) w.heap.size bp bq n F (V ++ [x]) (upd val 1 (.slice a5 ((lst 1).length + 1) cp5)) (upd lst 1 (lst 1 ++ [x]))) := Lib.hid (P4.out.app (m := 1) (by omega) ho5 hg5 ha5)
            have z0 : w5.cell? ⟨bp, 1, none⟩ = some (val 1) := (P4.out.ready (m := 1) (by omega) _ hg5).1
            have z1 : w5.frozen? ⟨bp, 1, none⟩ = false := (P4.out.ready (m := 1) (by omega) _ hg5).2
            refine ⟨⟨P4.out.box (m := 1) D0.out.1 HNE.out _ hg5, z0⟩, ?_⟩
            clear ho5 hg5 ha5 P4 D0
            show Region.seqB _ _ _ _ _ = true ∧ _
            refine ⟨by kernel_rfl, ?_⟩
            simp only [Act.put, List.getElem_toArray, List.getElem_cons_zero, List.getElem_cons_succ, List.setIfInBounds_toArray, List.set_cons_zero, List.set_cons_succ, List.drop_succ_cons, List.drop_zero]
            go_wp2_with fail
            refine NoPanic.normal ?_
            go_wp2_with fail
            go_roundw
            case rel => exact ⟨k + 1, _, _, _, _, by omega, by go_num, P6, Lib.hid (by
              have := INV.out
              refine ⟨by simp [upd, this.1], by simp [upd, this.2.1], ?_⟩
              have h2 := this.2.2
              simp [upd]
              omega)⟩
            case measure => simp [intOf]; omega
          · rw [e2, e3] at HP
            obtain ⟨r, hr⟩ : ∃ r, errP n F V c = r := ⟨_, rfl⟩
            rw [hr] at HP e1
            have HPP := Lib.hid HP
            clear HP e2 e3 hr
            go_wp2_with fail
            refine HPP.out.mono ?_
            rintro e w3 ⟨rfl, P3, hbox⟩
            clear HPP hbox P E0 E1 E2 y0 y1 y2
            go_wp2_with fail
            go_roundw
            case rel => exact ⟨k + 1, _, _, _, _, by omega, by go_num, P3, Lib.hid ⟨INV.out.1, INV.out.2.1, Nat.le_succ_of_le INV.out.2.2⟩⟩
            case measure => simp [intOf]; omega
        · have P2 := Lib.hid (P.out.alloc (.cells #[.bool true, .int .i64 c, .int .i64 x] 31))
          rcases F with _ | ⟨y, F⟩
          · rcases V with _ | ⟨y, V⟩
            · have HP := Lib.hid P2.out.pop
              rw [show hdI [] [] = 0 from rfl, show hdC [] [] = 0 from rfl, show hdB [] [] = false from rfl] at HP
              go_wp2_with fail
              refine HP.out.mono ?_
              rintro e w3 ⟨rfl, P3⟩
              clear HP P P2 E0 E1 E2 y0 y1 y2
              go_wp2_with fail
              go_roundw
              case rel => exact ⟨k + 1, _, _, _, _, by omega, by go_num, P3, Lib.hid ⟨INV.out.1, INV.out.2.1, Nat.le_succ_of_le INV.out.2.2⟩⟩
              case measure => simp [intOf]; omega
            · have HP := Lib.hid P2.out.pop
              rw [show hdI [] (y :: V) = y from rfl, show hdC [] (y :: V) = 1 from rfl, show hdB [] (y :: V) = true from rfl, show popF ([] : List Int) = [] from rfl, show popV [] (y :: V) = V from rfl] at HP
              go_wp2_with fail
              refine HP.out.mono ?_
              rintro e w3 ⟨rfl, P3⟩
              clear HP P P2 E0 E1 E2 y0 y1 y2
              have C := Lib.hid P3.out.cells
              have hl2 : (lst 3).length ≤ 100 := by have := INV.out.1; have := INV.out.2.1; have := INV.out.2.2; have := congrArg List.length INV.out.2.1; simp at this; omega
              have c0 : w3.cell? ⟨bq, 1, none⟩ = some (val 3) := C.out.2.2.2.1
              clear C
              go_wp2_with (at_builtin; refine wpList_append_src _ rfl (.tmp 52) (.tmp 54) _ rfl (bq + 1) 3 j0 _ 1 8 Try.underlying27 hj0 hz0 hz1 hz2 rfl Nat.one_pos (val 3) (lst 3).length ((lst 3).map (Value.int .i64)) rfl ((P3.out.alloc _).row 3) (some ⟨w3.heap.size, 0, none⟩) 1 1 [.int .i64 y] rfl rfl (fun _ => ⟨_, rfl, World.news_of_block (cs := #[.int .i64 y]) (t := 3) (fr := (0, 0)) (heap_alloc_new w3 _)⟩) (fun u hu => by rw [List.mem_singleton.1 hu]; rfl) (by simp only [maxLen]; omega) (by omega) (P3.out.alloc _).lt ?_; intro v5 w5 ho5 hg5 ha5; obtain ⟨a5, cp5, rfl⟩ := owns_any ho5; have P6 : Hid (Pos w (w5.setCell ⟨bq, 1, none⟩ (.slice a5 ((lst 3).length + 1) cp5)) w.heap.size bp bq n [] V (upd val 3 (.slice a5 ((lst 3).length + 1) cp5)) (upd lst 3 (lst 3 ++ [y]))) := Lib.hid (P3.out.app (m := 3) (by omega) ho5 hg5 ha5); have z0 : w5.cell? ⟨bq, 1, none⟩ = some (val 3) := (P3.out.ready (m := 3) (by omega) _ hg5).1; have z1 : w5.frozen? ⟨bq, 1, none⟩ = false := (P3.out.ready (m := 3) (by omega) _ hg5).2; clear ho5 hg5 ha5 c0)
              go_roundw
              case rel => exact ⟨k + 1, _, _, _, _, by omega, by go_num, P6, Lib.hid (by
                have := INV.out
                refine ⟨by simp [upd, this.1], by simp [upd, this.2.1], ?_⟩
                have h2 := this.2.2
                simp [upd]
                omega)⟩
              case measure => simp [intOf]; omega
          · have HP := Lib.hid P2.out.pop
            rw [show hdI (y :: F) V = y from rfl, show hdC (y :: F) V = 0 from rfl, show hdB (y :: F) V = true from rfl, show popF (y :: F) = F from rfl, show popV (y :: F) V = V from rfl] at HP
            go_wp2_with fail
            refine HP.out.mono ?_
            rintro e w3 ⟨rfl, P3⟩
            clear HP P P2 E0 E1 E2 y0 y1 y2
            have C := Lib.hid P3.out.cells
            have hl2 : (lst 2).length ≤ 100 := by have := INV.out.1; have := INV.out.2.1; have := INV.out.2.2; have := congrArg List.length INV.out.1; simp at this; omega
            have c0 : w3.cell? ⟨bq, 0, none⟩ = some (val 2) := C.out.2.2.1
            clear C
            go_wp2_with (at_builtin; refine wpList_append_src _ rfl (.tmp 52) (.tmp 54) _ rfl (bq + 1) 3 j0 _ 1 8 Try.underlying27 hj0 hz0 hz1 hz2 rfl Nat.one_pos (val 2) (lst 2).length ((lst 2).map (Value.int .i64)) rfl ((P3.out.alloc _).row 2) (some ⟨w3.heap.size, 0, none⟩) 1 1 [.int .i64 y] rfl rfl (fun _ => ⟨_, rfl, World.news_of_block (cs := #[.int .i64 y]) (t := 3) (fr := (0, 0)) (heap_alloc_new w3 _)⟩) (fun u hu => by rw [List.mem_singleton.1 hu]; rfl) (by simp only [maxLen]; omega) (by omega) (P3.out.alloc _).lt ?_; intro v5 w5 ho5 hg5 ha5; obtain ⟨a5, cp5, rfl⟩ := owns_any ho5; have P6 : Hid (Pos w (w5.setCell ⟨bq, 0, none⟩ (.slice a5 ((lst 2).length + 1) cp5)) w.heap.size bp bq n F V (upd val 2 (.slice a5 ((lst 2).length + 1) cp5)) (upd lst 2 (lst 2 ++ [y]))) := Lib.hid (P3.out.app (m := 2) (by omega) ho5 hg5 ha5); have z0 : w5.cell? ⟨bq, 0, none⟩ = some (val 2) := (P3.out.ready (m := 2) (by omega) _ hg5).1; have z1 : w5.frozen? ⟨bq, 0, none⟩ = false := (P3.out.ready (m := 2) (by omega) _ hg5).2; clear ho5 hg5 ha5 c0)
            go_roundw
            case rel => exact ⟨k + 1, _, _, _, _, by omega, by go_num, P6, Lib.hid (by
              have := INV.out
              refine ⟨by simp [upd, this.1], by simp [upd, this.2.1], ?_⟩
              have h2 := this.2.2
              simp [upd]
              omega)⟩
            case measure => simp [intOf]; omega
      · obtain rfl : k = len1 := by omega
        clear hlt
        have hlt : ¬ k < k := by omega
        go_wp2_with fail
        go_loopw [88] (fun s88 wr => ∃ (j : Nat) (F V : List Int) (val : Nat → Value) (lst : Nat → List Int), j ≤ k ∧ s88 = .int .i64 j ∧ Hid (Pos w wr w.heap.size bp bq n F V val lst) ∧ Hid (Inv2 F V lst k j)) (fun s88 _ => k - (intOf s88).toNat)
        case atStart => exact ⟨0, F, V, val, lst, by omega, rfl, P, Lib.hid ⟨INV.out.1, INV.out.2.1, by have := INV.out.2.2; omega, by have h1 := congrArg List.length INV.out.1; have h2 := congrArg List.length INV.out.2.1; have h3 := INV.out.2.2; simp at h1 h2; omega⟩⟩
        case round =>
          clear P INV F V val lst
          obtain ⟨j, F, V, val, lst, hj, rfl, P, INV⟩ := hrel
          by_cases hjk : j < k
          · rcases F with _ | ⟨y, F⟩
            · rcases V with _ | ⟨y, V⟩
              · have HP := Lib.hid P.out.pop
                rw [show hdI [] [] = 0 from rfl, show hdC [] [] = 0 from rfl, show hdB [] [] = false from rfl] at HP
                go_wp2_with fail
                refine HP.out.mono ?_
                rintro e w3 ⟨rfl, P3⟩
                clear HP P
                go_wp2_with fail
                go_roundw
                case rel => exact ⟨j + 1, _, _, _, _, by omega, by go_num, P3, Lib.hid ⟨INV.out.1, INV.out.2.1, INV.out.2.2.1, by simp [popF, popV]; omega⟩⟩
                case measure => simp [intOf]; omega
              · have HP := Lib.hid P.out.pop
                rw [show hdI [] (y :: V) = y from rfl, show hdC [] (y :: V) = 1 from rfl, show hdB [] (y :: V) = true from rfl, show popF ([] : List Int) = [] from rfl, show popV [] (y :: V) = V from rfl] at HP
                go_wp2_with fail
                refine HP.out.mono ?_
                rintro e w3 ⟨rfl, P3⟩
                clear HP P
                have C := Lib.hid P3.out.cells
                have hl2 : (lst 3).length ≤ 100 := by have := INV.out.1; have := INV.out.2.1; have := INV.out.2.2; have := congrArg List.length INV.out.2.1; simp at this; omega
                have c0 : w3.cell? ⟨bq, 1, none⟩ = some (val 3) := C.out.2.2.2.1
                clear C
                go_wp2_with (at_builtin; refine wpList_append_src _ rfl (.tmp 108) (.tmp 110) _ rfl (bq + 1) 3 j0 _ 1 8 Try.underlying27 hj0 hz0 hz1 hz2 rfl Nat.one_pos (val 3) (lst 3).length ((lst 3).map (Value.int .i64)) rfl ((P3.out.alloc _).row 3) (some ⟨w3.heap.size, 0, none⟩) 1 1 [.int .i64 y] rfl rfl (fun _ => ⟨_, rfl, World.news_of_block (cs := #[.int .i64 y]) (t := 3) (fr := (0, 0)) (heap_alloc_new w3 _)⟩) (fun u hu => by rw [List.mem_singleton.1 hu]; rfl) (by simp only [maxLen]; omega) (by omega) (P3.out.alloc _).lt ?_; intro v5 w5 ho5 hg5 ha5; obtain ⟨a5, cp5, rfl⟩ := owns_any ho5; have P6 : Hid (Pos w (w5.setCell ⟨bq, 1, none⟩ (.slice a5 ((lst 3).length + 1) cp5)) w.heap.size bp bq n [] V (upd val 3 (.slice a5 ((lst 3).length + 1) cp5)) (upd lst 3 (lst 3 ++ [y]))) := Lib.hid (P3.out.app (m := 3) (by omega) ho5 hg5 ha5); have z0 : w5.cell? ⟨bq, 1, none⟩ = some (val 3) := (P3.out.ready (m := 3) (by omega) _ hg5).1; have z1 : w5.frozen? ⟨bq, 1, none⟩ = false := (P3.out.ready (m := 3) (by omega) _ hg5).2; clear ho5 hg5 ha5 c0)
                go_roundw
                case rel => exact ⟨j + 1, _, _, _, _, by omega, by go_num, P6, Lib.hid (by
                  have := INV.out
                  refine ⟨by simp [upd, this.1], by simp [upd, this.2.1], by simpa [upd] using this.2.2.1, ?_⟩
                  have h2 := this.2.2.2
                  simp at h2
                  simp
                  omega)⟩
                case measure => simp [intOf]; omega
            · have HP := Lib.hid P.out.pop
              rw [show hdI (y :: F) V = y from rfl, show hdC (y :: F) V = 0 from rfl, show hdB (y :: F) V = true from rfl, show popF (y :: F) = F from rfl, show popV (y :: F) V = V from rfl] at HP
              go_wp2_with fail
              refine HP.out.mono ?_
              rintro e w3 ⟨rfl, P3⟩
              clear HP P
              have C := Lib.hid P3.out.cells
              have hl2 : (lst 2).length ≤ 100 := by have := INV.out.1; have := INV.out.2.1; have := INV.out.2.2; have := congrArg List.length INV.out.1; simp at this; omega
              have c0 : w3.cell? ⟨bq, 0, none⟩ = some (val 2) := C.out.2.2.1
              clear C
              go_wp2_with (at_builtin; refine wpList_append_src _ rfl (.tmp 108) (.tmp 110) _ rfl (bq + 1) 3 j0 _ 1 8 Try.underlying27 hj0 hz0 hz1 hz2 rfl Nat.one_pos (val 2) (lst 2).length ((lst 2).map (Value.int .i64)) rfl ((P3.out.alloc _).row 2) (some ⟨w3.heap.size, 0, none⟩) 1 1 [.int .i64 y] rfl rfl (fun _ => ⟨_, rfl, World.news_of_block (cs := #[.int .i64 y]) (t := 3) (fr := (0, 0)) (heap_alloc_new w3 _)⟩) (fun u hu => by rw [List.mem_singleton.1 hu]; rfl) (by simp only [maxLen]; omega) (by omega) (P3.out.alloc _).lt ?_; intro v5 w5 ho5 hg5 ha5; obtain ⟨a5, cp5, rfl⟩ := owns_any ho5; have P6 : Hid (Pos w (w5.setCell ⟨bq, 0, none⟩ (.slice a5 ((lst 2).length + 1) cp5)) w.heap.size bp bq n F V (upd val 2 (.slice a5 ((lst 2).length + 1) cp5)) (upd lst 2 (lst 2 ++ [y]))) := Lib.hid (P3.out.app (m := 2) (by omega) ho5 hg5 ha5); have z0 : w5.cell? ⟨bq, 0, none⟩ = some (val 2) := (P3.out.ready (m := 2) (by omega) _ hg5).1; have z1 : w5.frozen? ⟨bq, 0, none⟩ = false := (P3.out.ready (m := 2) (by omega) _ hg5).2; clear ho5 hg5 ha5 c0)
              go_roundw
              case rel => exact ⟨j + 1, _, _, _, _, by omega, by go_num, P6, Lib.hid (by
                have := INV.out
                refine ⟨by simp [upd, this.1], by simp [upd, this.2.1], by simpa [upd] using this.2.2.1, ?_⟩
                have h2 := this.2.2.2
                simp at h2
                simp
                omega)⟩
              case measure => simp [intOf]; omega
          · obtain rfl : j = k := by omega
            clear hjk
            have hjk : ¬ j < j := by omega
            obtain ⟨hF, hV⟩ : F = [] ∧ V = [] := by
              have := INV.out.2.2.2
              exact ⟨List.eq_nil_of_length_eq_zero (by omega), List.eq_nil_of_length_eq_zero (by omega)⟩
            subst hF hV
            have I0 : Hid (lst 0 = lst 2) := Lib.hid (by have := INV.out.1; rwa [List.append_nil] at this)
            have I1 : Hid (lst 1 = lst 3) := Lib.hid (by have := INV.out.2.1; rwa [List.append_nil] at this)
            have IL : Hid ((lst 2).length ≤ 100 ∧ (lst 3).length ≤ 100) := Lib.hid (by have := INV.out.2.2.1; rw [I0.out, I1.out] at this; omega)
            clear INV
            go_wp2_with fail
            refine (alive_any _).mono ?_
            rintro e w4 ⟨rfl, hb⟩
            have P4 := Lib.hid (P.out.below hb)
            clear hb P
            obtain ⟨A0, C0, e0, _, _, _, i0⟩ := ints_of_owns (S := fun _ => False) (P4.out.row 0) (fun _ _ h => h)
            obtain ⟨A1, C1, e1, _, _, _, i1⟩ := ints_of_owns (S := fun _ => False) (P4.out.row 1) (fun _ _ h => h)
            obtain ⟨A2, C2, e2, _, _, _, i2⟩ := ints_of_owns (S := fun _ => False) (P4.out.row 2) (fun _ _ h => h)
            obtain ⟨A3, C3, e3, _, _, _, i3⟩ := ints_of_owns (S := fun _ => False) (P4.out.row 3) (fun _ _ h => h)
            obtain ⟨q0, hq0⟩ : ∃ q, (lst 2).length = q := ⟨_, rfl⟩
            obtain ⟨q1, hq1⟩ : ∃ q, (lst 3).length = q := ⟨_, rfl⟩
            rw [I0.out, hq0] at e0
            rw [hq0] at e2
            rw [I1.out, hq1] at e1
            rw [hq1] at e3
            rw [I0.out] at i0
            rw [I1.out] at i1
            have HE0 : Hid (Calls Try.prog 16 #[.slice A0 q0 C0, .slice A2 q0 C2] w4 fun e w' => e = .returned (.bool true) ∧ ∃ q, w' = w4.drewN q) := Lib.hid (equal_same i0 i2 hq0 (by have := IL.out.1; omega))
            have J1 := Lib.hid i1
            have J3 := Lib.hid i3
            have HQ1 : Hid ((lst 3).length = q1 ∧ q1 ≤ 100) := Lib.hid ⟨hq1, by have := IL.out.2; omega⟩
            have c0 : w4.cell? ⟨bp, 0, none⟩ = some (.slice A0 q0 C0) := by rw [← e0]; exact P4.out.cells.1
            have c2 : w4.cell? ⟨bq, 0, none⟩ = some (.slice A2 q0 C2) := by rw [← e2]; exact P4.out.cells.2.2.1
            have X1 : Hid (w4.cell? ⟨bp, 1, none⟩ = some (.slice A1 q1 C1) ∧ w4.cell? ⟨bq, 1, none⟩ = some (.slice A3 q1 C3)) := Lib.hid ⟨by rw [← e1]; exact P4.out.cells.2.1, by rw [← e3]; exact P4.out.cells.2.2.2.1⟩
            clear i0 i1 i2 i3 e0 e1 e2 e3 hq0 hq1 I0 I1 IL
            go_wp2_with fail
            refine HE0.out.mono ?_
            rintro e w5 ⟨rfl, z, hz⟩
            have c1 : w5.cell? ⟨bp, 1, none⟩ = some (.slice A1 q1 C1) := by rw [hz]; exact X1.out.1
            have c3 : w5.cell? ⟨bq, 1, none⟩ = some (.slice A3 q1 C3) := by rw [hz]; exact X1.out.2
            have HE1 : Hid (Calls Try.prog 16 #[.slice A1 q1 C1, .slice A3 q1 C3] w5 fun e w' => e = .returned (.bool true) ∧ ∃ q, w' = w5.drewN q) := Lib.hid (equal_same (S2 := fun _ => False) (by rw [hz]; exact J1.out.drewN z) (by rw [hz]; exact J3.out.drewN z) HQ1.out.1 (by have := HQ1.out.2; omega))
            have HB5 : Hid (Below w.heap.size w w5) := by rw [hz]; exact Lib.hid (below_drewN P4.out.bel z)
            clear hz HE0 c0 c2 X1 J1 J3 P4
            go_wp2_with fail
            refine HE1.out.mono ?_
            rintro e w6 ⟨rfl, z2, hz⟩
            have HB6 : Hid (Below w.heap.size w w6) := by rw [hz]; exact Lib.hid (below_drewN HB5.out z2)
            clear hz HE1 c1 c3 HB5
            go_wp2_with fail
            go_ret
            exact ⟨rfl, HB6.out⟩
end Go.Proofs.Ytlmjhggnecmggaa
