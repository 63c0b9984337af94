/- The walk of RegistryIndices. (mkidx.py writes this text.) -/
import Derived.Test.YtcmlkcmoailhjaaWRegistryGets
import Derived.Deep.CutRange
namespace Go.Proofs.Ytcmlkcmoailhjaa
open Go Go.RowKit Go.Deep
set_option linter.unusedVariables false
set_option linter.unusedSimpArgs false

theorem wpOp_skip {P : Program} {ops : Array Oper} {Q : Exit → Act → World → Prop} {i : Nat} {o : Oper} {K : Act → World → Prop} {a : Act} {w : World} (ho : ops[i]? = some o) (hg : Region.wanted o (yielded ops a.tmps) = false) (h : K (a.put o.dst undef) w) : wpOp P ops Q i K a w := by
  unfold wpOp
  rw [ho]
  simp only [hg, Bool.false_eq_true, if_false]
  exact h
theorem wpList_append_srcG {P : Program} (w : World) {ops : Array Oper} {rest : List Oper} {o : Oper} {a : Act} {Q : Exit → Act → World → Prop} (hw : Region.wanted o (yielded ops a.tmps) = true) (s x : Operand) (t : TypeId)
    (ho : o.op = .call { callee := .builtin .append, args := #[s, x], argTypes := #[t, t] })
    (base : Nat) (e : TypeId) (i : TypeInfo) (z : Value) (size bytes : Nat) (ht : P.underlying t = some (.slice e)) (hi : P.info? e = some i) (hz : i.zero = some z)
    (hsize : i.size = size) (hby : i.bytes = bytes) (hzs : z.cells.size = size) (hsz : 0 < size)
    (v : Value) (n : Nat) (xs : List Value) (hs : a.eval s = v) (hown : w.ownsRow base e size v n xs)
    (A : Option Addr) (m c : Nat) (news : List Value) (hx : a.eval x = .slice A m c) (hl : news.length = m * size) (hr : 0 < m → ∃ ad, A = some ad ∧ ∀ j u, news[j]? = some u → w.cell? (ad.add j) = some u) (h1 : ∀ u ∈ news, u.oneCell' = true)
    (h63 : n + m ≤ maxLen) (hbytes : (n + m) * bytes ≤ 140737488355328) (hbase : base ≤ w.heap.size)
    (h : ∀ v' w', w'.ownsRow base e size v' (n + m) (xs ++ news) → w.grownBy w' v.ownBlock → (v'.ownBlock = v.ownBlock ∨ v'.ownBlock = some w.heap.size) → wpList P ops Q rest (a.put o.dst v') w') : wpList P ops Q (o :: rest) a w := by
  unfold wpList
  rw [if_pos hw]
  exact .inl (wp_append_src w s x t ho base e i z size bytes ht hi hz hsize hby hzs hsz v n xs hs hown A m c news hx hl hr h1 h63 hbytes hbase h)
theorem keep_range0 {w W w2 : World} {n0 : Nat} {v : Val} {row : Option Nat} (hk : Kept (fun _ => False) w W) (hg : W.grownBy w2 row) (hr : ∀ i, row = some i → w.heap.size ≤ i) (he : w.rangeAt n0 0 v.row) : Kept (fun _ => False) w w2 ∧ w2.rangeAt n0 0 v.row := by
  have hk2 := Kept.grown hk hg hr
  exact ⟨hk2, fun j u hu => hk2.cell (fun h => h) (he j u hu)⟩
theorem all_at (b cap n : Nat) (S : Nat → Prop) (l : List Val) (w : World) (h : Reg w b S cap l) (hn : l.length = n) :
    Calls Try.prog 18 #[.pointer (some ⟨b, 0, none⟩)] w fun e w' => ∃ a cp, e = .returned (.slice a n cp) ∧ Hid (Lst w' (fun _ => False) a l) ∧ Below w.heap.size w w' :=
  (all_any b cap S l w h).mono fun e w' ⟨v, he, ho, hb⟩ => by
    obtain ⟨a, cp, rfl, -, -, hl⟩ := owns_fresh (S := fun _ => False) ho (fun _ _ h => h)
    exact ⟨a, cp, by rw [he, hn], Lib.hid hl, hb⟩
theorem same_at (S T : Nat → Prop) (a b : Option Addr) (cp cq n : Nat) (l : List Val) (w : World) (h : Lst w S a l) (h2 : Lst w T b l) (hl : n ≤ 4096) (hn : l.length = n) :
    Calls Try.prog 17 #[.slice a n cp, .slice b n cq] w fun e w' => e = .returned (.bool true) ∧ ∃ m, w' = w.drewN m := by
  subst hn
  exact same_any S T a b cp cq l w h h2 hl
theorem put_at' (S : Nat → Prop) (a : Option Addr) (cp i n : Nat) (old v : Val) (l : List Val) (w : World) (h : Lst w S a l) (hl : n ≤ 4096) (hn : l.length = n) (hi : l[i]? = some old) :
    Calls Try.prog 25 #[.slice a n cp, .int .i64 i, .agg (cellsV v)] w fun e w' => ∃ g c, e = .returned (.slice (some ⟨g, 0, none⟩) n c) ∧ Lst w' (fun i => i < w.heap.size) (some ⟨g, 0, none⟩) (l.set i v) ∧ Below w.heap.size w w' := by
  subst hn
  exact put_at S a cp i old v l w h hl hi
theorem addv_step (b n k : Nat) (S : Nat → Prop) (l : List Val) (x : Val) (w : World) (h : Reg w b S n (l.take k)) (hx : l[k]? = some x) (hn : l.length = n) (hf : ∀ v ∈ l, FitsV v) (ht : totalOf l ≤ 18446744073709551615) :
    Calls Try.prog 23 #[.pointer (some ⟨b, 0, none⟩), .agg (cellsV x)] w fun e w' => e = .returned (.tuple #[.int .i64 k, .int .i64 0]) ∧ ∃ S', Reg w' b S' n (l.take (k + 1)) ∧ (∀ i, S' i → S i ∨ w.heap.size ≤ i) ∧ Kept S w w' := by
  have hk := (List.getElem?_eq_some_iff.1 hx).1
  have e : (l.take k).length = k := by rw [List.length_take]; omega
  have h3 := total_append (l.take (k + 1)) (l.drop (k + 1))
  rw [List.take_append_drop, take_snoc hx, total_append (l.take k) [x]] at h3
  have h4 : totalOf [x] = x.bal := by simp [totalOf]
  have h2 := total_nonneg (l := l.drop (k + 1)) (fun v hv => hf v (List.mem_of_mem_drop hv))
  have := addv_yes b n S (l.take k) x w h (hf x (List.mem_of_getElem? hx)) (by omega) (by omega)
  rw [e, ← take_snoc hx] at this
  exact this

set_option maxHeartbeats 6400000 in
theorem walk_RegistryIndices (a0 : Option Addr) (len0 cap0 : Nat) (a1 : Int) (a2 : Val) (w : World) (w0 : IsVals w a0 len0 cap0) (w1 : (Lit.int .u8 a1).wf = true) (w2 : FitsV a2) :
    Calls Try.prog 6 #[.slice a0 len0 cap0, .int .u8 a1, .agg (cellsV a2)] w fun e w' => e = .returned (.bool true) ∧ Below w.heap.size w w' := by
  have hl0 : len0 ≤ 9223372036854775807 := by have := w0.1; have := w0.2.1; unfold maxLen at this; omega
  obtain ⟨-, -, l, hn, hf, hL⟩ := w0
  obtain ⟨c0, c1⟩ := bounds_u8 w1
  have HE : Hid (Blk (w.alloc (.cells (cellsV a2) 29)) w.heap.size 29 (cellsV a2)) := Lib.hid (Blk.new _ _ _)
  have HK : Hid (Kept (fun _ => False) w (w.alloc (.cells (cellsV a2) 29))) := Lib.hid ((Kept.refl _ w).alloc _)
  have hL := hL.more (T := fun i => w.heap.size ≤ i) (fun i hi ht => by omega)
  have HL := Lib.hid (hL.alloc (.cells (cellsV a2) 29))
  have HN := Lib.hid hn
  have HF := Lib.hid hf
  have HF2 := Lib.hid w2
  have hv0 := w2.bal
  have hlt := total_nonneg hf
  obtain ⟨n0, hn0⟩ : ∃ n, w.heap.size = n := ⟨_, rfl⟩
  have HN0 := Lib.hid hn0
  rw [hn0] at HE
  clear hn hf hL w1 w2
  by_cases hz : len0 = 0
  · have hz1 : ((len0 : Int) == 0) = true := by simp; omega
    clear hz
    go_enter Try.func6, Try.ntmps6
    go_wp2
    generalize w.alloc (.cells (cellsV a2) 29) = W at *
    have e1 : W.rangeAt n0 0 a2.row := HE.out.range
    go_cut [33] from 16 to 33 (fun s33 wx => s33 = .bool true ∧ Hid (Kept (fun _ => False) W wx))
    case first =>
      refine wp_region_first (fun w' => w'.rangeAt n0 0 a2.row) 14 3 [0, 1, 2, 3, 4, 5, 6, 7, 8, 10, 12] (by kernel_rfl) (by kernel_rfl) e1 ?_
      simp only [List.filterMap_cons, List.filterMap_nil, List.getElem?_toArray, List.getElem?_cons_zero, List.getElem?_cons_succ]
      show wpQuiet _ _ _ _ [_, _, _, _, _, _, _, _, _, _, _] _
      iterate 4 (go_big_quiet_step ((intros; rfl)))
      refine q_skip (by kernel_rfl) ?_
      simp only [Act.put, List.setIfInBounds_toArray, List.set_cons_zero, List.set_cons_succ]
      refine q_skip (by kernel_rfl) ?_
      simp only [Act.put, List.setIfInBounds_toArray, List.set_cons_zero, List.set_cons_succ]
      refine q_skip (by kernel_rfl) ?_
      simp only [Act.put, List.setIfInBounds_toArray, List.set_cons_zero, List.set_cons_succ]
      iterate 2 (go_big_quiet_step ((intros; rfl)))
      refine q_skip (by kernel_rfl) ?_
      simp only [Act.put, List.setIfInBounds_toArray, List.set_cons_zero, List.set_cons_succ]
      refine q_skip (by kernel_rfl) ?_
      simp only [Act.put, List.setIfInBounds_toArray, List.set_cons_zero, List.set_cons_succ]
      refine wpQuiet_nil ?_
      refine headF_two (i := 9) (k := 13) (by kernel_rfl) (by omega) (by omega) ?_ ?_
      · refine wpOp_skip rfl (by kernel_rfl) ⟨e1, ?_⟩
        refine headF_two (i := 11) (k := 13) (by kernel_rfl) (by omega) (by omega) ?_ ?_
        · refine wpOp_skip rfl (by kernel_rfl) ⟨e1, ?_⟩
          refine headF_one (i := 13) (by kernel_rfl) (by omega) ?_
          refine wpOp_skip rfl (by kernel_rfl) ⟨e1, ?_⟩
          show Region.seqB _ _ _ _ _ = true ∧ _
          refine ⟨by kernel_rfl, ?_⟩
          simp only [Act.put, List.getElem_toArray, List.getElem_cons_zero, List.getElem_cons_succ, List.setIfInBounds_toArray, List.set_cons_zero, List.set_cons_succ, List.drop_succ_cons, List.drop_zero]
          go_wp2
          refine NoPanic.normal ?_
          go_wp2_with fail
          go_meet
          exact ⟨rfl, Lib.hid ((Kept.refl _ W).drew)⟩
        · refine wpOp_skip rfl (by kernel_rfl) ⟨e1, ?_⟩
          refine headF_one (i := 11) (by kernel_rfl) (by omega) ?_
          refine wpOp_skip rfl (by kernel_rfl) ⟨e1, ?_⟩
          show Region.seqB _ _ _ _ _ = true ∧ _
          refine ⟨by kernel_rfl, ?_⟩
          simp only [Act.put, List.getElem_toArray, List.getElem_cons_zero, List.getElem_cons_succ, List.setIfInBounds_toArray, List.set_cons_zero, List.set_cons_succ, List.drop_succ_cons, List.drop_zero]
          go_wp2
          refine NoPanic.normal ?_
          go_wp2_with fail
          go_meet
          exact ⟨rfl, Lib.hid ((Kept.refl _ W).drew)⟩
      · refine wpOp_skip rfl (by kernel_rfl) ⟨e1, ?_⟩
        refine headF_one (i := 9) (by kernel_rfl) (by omega) ?_
        refine wpOp_skip rfl (by kernel_rfl) ⟨e1, ?_⟩
        refine headF_one (i := 11) (by kernel_rfl) (by omega) ?_
        refine wpOp_skip rfl (by kernel_rfl) ⟨e1, ?_⟩
        show Region.seqB _ _ _ _ _ = true ∧ _
        refine ⟨by kernel_rfl, ?_⟩
        simp only [Act.put, List.getElem_toArray, List.getElem_cons_zero, List.getElem_cons_succ, List.setIfInBounds_toArray, List.set_cons_zero, List.set_cons_succ, List.drop_succ_cons, List.drop_zero]
        go_wp2
        refine NoPanic.normal ?_
        go_wp2_with fail
        go_meet
        exact ⟨rfl, Lib.hid ((Kept.refl _ W).drew)⟩
    case rest =>
      obtain ⟨rfl, HC⟩ := hcut
      replace HC := Lib.hid (HK.out.trans HC.out (fun _ _ h => h))
      go_wp2_with fail
      refine (alive_any _).mono ?_
      rintro e w5 ⟨rfl, hb5⟩
      have HB5 := Lib.hid (HC.out.below_of.trans (hb5.mono HC.out.size))
      clear hb5
      go_wp2_with fail
      go_ret
      exact ⟨rfl, HB5.out⟩
  · have hz1 : ((len0 : Int) == 0) = false := by simp; omega
    by_cases h40 : (40 : Int) < (len0 : Int)
    · clear hz
      go_enter Try.func6, Try.ntmps6
      go_wp2
      generalize w.alloc (.cells (cellsV a2) 29) = W at *
      have e1 : W.rangeAt n0 0 a2.row := HE.out.range
      go_cut [33] from 16 to 33 (fun s33 wx => s33 = .bool true ∧ Hid (Kept (fun _ => False) W wx))
      case first =>
        refine wp_region_first (fun w' => w'.rangeAt n0 0 a2.row) 14 3 [0, 1, 2, 3, 4, 5, 6, 7, 8, 10, 12] (by kernel_rfl) (by kernel_rfl) e1 ?_
        simp only [List.filterMap_cons, List.filterMap_nil, List.getElem?_toArray, List.getElem?_cons_zero, List.getElem?_cons_succ]
        show wpQuiet _ _ _ _ [_, _, _, _, _, _, _, _, _, _, _] _
        iterate 9 (go_big_quiet_step ((intros; rfl)))
        refine q_skip (by kernel_rfl) ?_
        simp only [Act.put, List.setIfInBounds_toArray, List.set_cons_zero, List.set_cons_succ]
        refine q_skip (by kernel_rfl) ?_
        simp only [Act.put, List.setIfInBounds_toArray, List.set_cons_zero, List.set_cons_succ]
        refine wpQuiet_nil ?_
        refine headF_two (i := 9) (k := 13) (by kernel_rfl) (by omega) (by omega) ?_ ?_
        · refine wpOp_skip rfl (by kernel_rfl) ⟨e1, ?_⟩
          refine headF_two (i := 11) (k := 13) (by kernel_rfl) (by omega) (by omega) ?_ ?_
          · refine wpOp_skip rfl (by kernel_rfl) ⟨e1, ?_⟩
            refine headF_one (i := 13) (by kernel_rfl) (by omega) ?_
            refine wpOp_skip rfl (by kernel_rfl) ⟨e1, ?_⟩
            show Region.seqB _ _ _ _ _ = true ∧ _
            refine ⟨by kernel_rfl, ?_⟩
            simp only [Act.put, List.getElem_toArray, List.getElem_cons_zero, List.getElem_cons_succ, List.setIfInBounds_toArray, List.set_cons_zero, List.set_cons_succ, List.drop_succ_cons, List.drop_zero]
            go_wp2
            refine NoPanic.normal ?_
            go_wp2_with fail
            go_meet
            exact ⟨rfl, Lib.hid ((Kept.refl _ W).drew)⟩
          · refine wpOp_skip rfl (by kernel_rfl) ⟨e1, ?_⟩
            refine headF_one (i := 11) (by kernel_rfl) (by omega) ?_
            refine wpOp_skip rfl (by kernel_rfl) ⟨e1, ?_⟩
            show Region.seqB _ _ _ _ _ = true ∧ _
            refine ⟨by kernel_rfl, ?_⟩
            simp only [Act.put, List.getElem_toArray, List.getElem_cons_zero, List.getElem_cons_succ, List.setIfInBounds_toArray, List.set_cons_zero, List.set_cons_succ, List.drop_succ_cons, List.drop_zero]
            go_wp2
            refine NoPanic.normal ?_
            go_wp2_with fail
            go_meet
            exact ⟨rfl, Lib.hid ((Kept.refl _ W).drew)⟩
        · refine wpOp_skip rfl (by kernel_rfl) ⟨e1, ?_⟩
          refine headF_one (i := 9) (by kernel_rfl) (by omega) ?_
          refine wpOp_skip rfl (by kernel_rfl) ⟨e1, ?_⟩
          refine headF_one (i := 11) (by kernel_rfl) (by omega) ?_
          refine wpOp_skip rfl (by kernel_rfl) ⟨e1, ?_⟩
          show Region.seqB _ _ _ _ _ = true ∧ _
          refine ⟨by kernel_rfl, ?_⟩
          simp only [Act.put, List.getElem_toArray, List.getElem_cons_zero, List.getElem_cons_succ, List.setIfInBounds_toArray, List.set_cons_zero, List.set_cons_succ, List.drop_succ_cons, List.drop_zero]
          go_wp2
          refine NoPanic.normal ?_
          go_wp2_with fail
          go_meet
          exact ⟨rfl, Lib.hid ((Kept.refl _ W).drew)⟩
      case rest =>
        obtain ⟨rfl, HC⟩ := hcut
        replace HC := Lib.hid (HK.out.trans HC.out (fun _ _ h => h))
        go_wp2_with fail
        refine (alive_any _).mono ?_
        rintro e w5 ⟨rfl, hb5⟩
        have HB5 := Lib.hid (HC.out.below_of.trans (hb5.mono HC.out.size))
        clear hb5
        go_wp2_with fail
        go_ret
        exact ⟨rfl, HB5.out⟩
    · by_cases ht : totalOf l + a2.bal ≤ 18446744073709551615
      · go_enter Try.func6, Try.ntmps6
        go_wp2
        generalize w.alloc (.cells (cellsV a2) 29) = W at *
        have e1 : W.rangeAt n0 0 a2.row := HE.out.range
        go_cut [33] from 16 to 33 (fun s33 wx => s33 = .bool false ∧ Hid (Kept (fun _ => False) W wx))
        case first =>
          refine wp_region_first (fun w' => w'.rangeAt n0 0 a2.row) 14 3 [0, 1, 2, 3, 4, 5, 6, 7, 8, 10, 12] (by kernel_rfl) (by kernel_rfl) e1 ?_
          simp only [List.filterMap_cons, List.filterMap_nil, List.getElem?_toArray, List.getElem?_cons_zero, List.getElem?_cons_succ]
          show wpQuiet _ _ _ _ [_, _, _, _, _, _, _, _, _, _, _] _
          have hcl : Hid (∀ w', Below W.heap.size W w' → 0 < len0 → ∃ ad, a0 = some ad ∧ ∀ j u, (flat l)[j]? = some u → w'.cell? (ad.add j) = some u) := Lib.hid (fun w' hb h0 => lst_src HL.out hb (by rw [HN.out]; exact h0))
          obtain ⟨j0, hj0, hz0, hs7, hby⟩ := val_app
          have HLEN : Hid ((flat l).length = len0 * 7) := Lib.hid (by rw [flat_len, HN.out])
          have h41 : decide ((40 : Int) < (len0 : Int)) = false := by simp; omega
          iterate 10 (go_big_quiet_step ((intros; rfl)))
          refine q_load_val 29 _ n0 0 a2 _ (by kernel_rfl) rfl rfl (fun w h => h) Try.underlying29 rfl infoV ?_
          simp only [Act.put, List.setIfInBounds_toArray, List.set_cons_zero, List.set_cons_succ]
          refine wpQuiet_nil ?_
          refine headF_two (i := 9) (k := 13) (by kernel_rfl) (by omega) (by omega) ?_ ?_
          · refine wpOp_atG rfl (by kernel_rfl) (wp_buildSlice_zero 26 29 j0 rfl Try.underlying26 hj0 ⟨fun j u hu => cell_alloc_some _ (e1 j u hu), ?_⟩)
            refine headF_two (i := 11) (k := 13) (by kernel_rfl) (by omega) (by omega) ?_ ?_
            · refine wpOp_atG rfl (by kernel_rfl) (wp_append_src _ (.tmp 25) (.tmp 26) 26 rfl W.heap.size 29 j0 _ 7 56 Try.underlying26 hj0 hz0 hs7 hby (cellsV_size _) (by omega) (.slice (some ⟨W.drew.heap.size, 0, none⟩) 0 0) 0 [] rfl (owns_empty (Blk.new W.drew _ _) (Nat.le_refl _)) a0 len0 cap0 (flat l) rfl (by rw [HLEN.out]) (hcl.out _ (((Kept.refl _ W).drew.alloc _) : Kept (fun _ => False) W _).below_of) flat_mem (by unfold maxLen; omega) (by omega) ((((Kept.refl _ W).drew.alloc _) : Kept (fun _ => False) W _).size) ?_)
              intro u1 w2 hown1 hgrow1 hat1
              have HG1 := Lib.hid hgrow1
              have HK1 : Hid (Kept (fun _ => False) W w2 ∧ w2.rangeAt n0 0 a2.row) := Lib.hid (keep_range0 (((Kept.refl _ W).drew.alloc _)) hgrow1 (fun i hi => by simp [Value.ownBlock] at hi; (try simp at hi); omega) e1)
              have HO1 : Hid (w2.ownsRow W.heap.size 29 7 u1 len0 (flat l)) := Lib.hid (by simpa using hown1)
              clear hown1 hgrow1 hat1
              refine ⟨HK1.out.2, ?_⟩
              refine headF_one (i := 13) (by kernel_rfl) (by omega) ?_
              refine wpOp_atG rfl (by kernel_rfl) (wp_buildSlice_val 26 29 _ _ a2 rfl rfl Try.underlying26 val_info ⟨fun j u hu => cell_alloc_some _ (HK1.out.2 j u hu), ?_⟩)
              show Region.seqB _ _ _ _ _ = true ∧ _
              refine ⟨by kernel_rfl, ?_⟩
              simp only [Act.put, List.getElem_toArray, List.getElem_cons_zero, List.getElem_cons_succ, List.setIfInBounds_toArray, List.set_cons_zero, List.set_cons_succ, List.drop_succ_cons, List.drop_zero]
              refine wpList_append_srcG _ (by kernel_rfl) (.tmp 27) (.tmp 29) 26 rfl W.heap.size 29 j0 _ 7 56 Try.underlying26 hj0 hz0 hs7 hby (cellsV_size _) (by omega) u1 len0 (flat l) rfl (World.ownsRow.alloc HO1.out _) (some ⟨w2.heap.size, 0, none⟩) 1 1 a2.row rfl rfl (fun _ => ⟨_, rfl, new_cells _ _ _⟩) (row_one a2) (by unfold maxLen; omega) (by omega) ((HK1.out.1.alloc _ : Kept (fun _ => False) W _).size) ?_
              intro u2 w3 hown2 hgrow2 hat2
              have HZ : Hid (w3.ownsRow W.heap.size 29 7 u2 (len0 + 1) (flat (l ++ [a2])) ∧ Kept (fun _ => False) W w3) := Lib.hid (HN.out ▸ more_facts (l := l) (v := a2) (HN.out ▸ HO1.out) (HK1.out.1.alloc _) (HN.out ▸ hown2) hgrow2)
              clear hown2 hgrow2 hat2
              obtain ⟨g2, c2, rfl⟩ : ∃ g c, u2 = .slice (some ⟨g, 0, none⟩) (len0 + 1) c := HN.out ▸ more_slice (HN.out ▸ HZ.out.1)
              go_wp2_with fail
              refine (show Calls Try.prog 22 #[.slice (some ⟨g2, 0, none⟩) (len0 + 1) c2] w3 fun e w' => e = .returned (.bool true) ∧ Below w3.heap.size w3 w' from HN.out ▸ fits_more_any g2 c2 l a2 w3 true (HN.out ▸ HZ.out.1) (by have := HN.out; omega) HF.out HF2.out (decide_eq_true (by omega))).mono ?_
              rintro e w4 ⟨rfl, hb4⟩
              have HX := Lib.hid (HZ.out.2.trans (Kept.of_below hb4 : Kept (fun _ => False) w3 w4) (fun _ _ h => h))
              clear hb4
              go_wp2
              refine NoPanic.normal ?_
              go_wp2_with fail
              go_meet
              exact ⟨rfl, HX⟩
            · refine wpOp_atG rfl (by kernel_rfl) (wp_buildSlice_val 26 29 _ _ a2 rfl rfl Try.underlying26 val_info ⟨fun j u hu => cell_alloc_some _ (cell_alloc_some _ (e1 j u hu)), ?_⟩)
              refine headF_one (i := 11) (by kernel_rfl) (by omega) ?_
              refine wpOp_atG rfl (by kernel_rfl) (wp_append_src _ (.tmp 25) (.tmp 26) 26 rfl W.heap.size 29 j0 _ 7 56 Try.underlying26 hj0 hz0 hs7 hby (cellsV_size _) (by omega) (.slice (some ⟨W.drew.heap.size, 0, none⟩) 0 0) 0 [] rfl (owns_empty (Blk.alloc (Blk.new W.drew _ _) _) (Nat.le_refl _)) a0 len0 cap0 (flat l) rfl (by rw [HLEN.out]) (hcl.out _ ((((Kept.refl _ W).drew.alloc _).alloc _) : Kept (fun _ => False) W _).below_of) flat_mem (by unfold maxLen; omega) (by omega) (((((Kept.refl _ W).drew.alloc _).alloc _) : Kept (fun _ => False) W _).size) ?_)
              intro u1 w2 hown1 hgrow1 hat1
              have HG1 := Lib.hid hgrow1
              have HK1 : Hid (Kept (fun _ => False) W w2 ∧ w2.rangeAt n0 0 a2.row) := Lib.hid (keep_range0 ((((Kept.refl _ W).drew.alloc _).alloc _)) hgrow1 (fun i hi => by simp [Value.ownBlock] at hi; (try simp at hi); omega) e1)
              have HO1 : Hid (w2.ownsRow W.heap.size 29 7 u1 len0 (flat l)) := Lib.hid (by simpa using hown1)
              clear hown1 hgrow1 hat1
              refine ⟨HK1.out.2, ?_⟩
              show Region.seqB _ _ _ _ _ = true ∧ _
              refine ⟨by kernel_rfl, ?_⟩
              simp only [Act.put, List.getElem_toArray, List.getElem_cons_zero, List.getElem_cons_succ, List.setIfInBounds_toArray, List.set_cons_zero, List.set_cons_succ, List.drop_succ_cons, List.drop_zero]
              refine wpList_append_srcG _ (by kernel_rfl) (.tmp 27) (.tmp 29) 26 rfl W.heap.size 29 j0 _ 7 56 Try.underlying26 hj0 hz0 hs7 hby (cellsV_size _) (by omega) u1 len0 (flat l) rfl (HO1.out) (some ⟨(W.drew.alloc (.cells #[] 29)).heap.size, 0, none⟩) 1 1 a2.row rfl rfl (fun _ => ⟨_, rfl, news_kept HG1.out (by simp [Value.ownBlock])⟩) (row_one a2) (by unfold maxLen; omega) (by omega) ((HK1.out.1 : Kept (fun _ => False) W _).size) ?_
              intro u2 w3 hown2 hgrow2 hat2
              have HZ : Hid (w3.ownsRow W.heap.size 29 7 u2 (len0 + 1) (flat (l ++ [a2])) ∧ Kept (fun _ => False) W w3) := Lib.hid (HN.out ▸ more_facts (l := l) (v := a2) (HN.out ▸ HO1.out) (HK1.out.1) (HN.out ▸ hown2) hgrow2)
              clear hown2 hgrow2 hat2
              obtain ⟨g2, c2, rfl⟩ : ∃ g c, u2 = .slice (some ⟨g, 0, none⟩) (len0 + 1) c := HN.out ▸ more_slice (HN.out ▸ HZ.out.1)
              go_wp2_with fail
              refine (show Calls Try.prog 22 #[.slice (some ⟨g2, 0, none⟩) (len0 + 1) c2] w3 fun e w' => e = .returned (.bool true) ∧ Below w3.heap.size w3 w' from HN.out ▸ fits_more_any g2 c2 l a2 w3 true (HN.out ▸ HZ.out.1) (by have := HN.out; omega) HF.out HF2.out (decide_eq_true (by omega))).mono ?_
              rintro e w4 ⟨rfl, hb4⟩
              have HX := Lib.hid (HZ.out.2.trans (Kept.of_below hb4 : Kept (fun _ => False) w3 w4) (fun _ _ h => h))
              clear hb4
              go_wp2
              refine NoPanic.normal ?_
              go_wp2_with fail
              go_meet
              exact ⟨rfl, HX⟩
          · refine wpOp_atG rfl (by kernel_rfl) (wp_buildSlice_val 26 29 _ _ a2 rfl rfl Try.underlying26 val_info ⟨fun j u hu => cell_alloc_some _ (e1 j u hu), ?_⟩)
            refine headF_one (i := 9) (by kernel_rfl) (by omega) ?_
            refine wpOp_atG rfl (by kernel_rfl) (wp_buildSlice_zero 26 29 j0 rfl Try.underlying26 hj0 ⟨fun j u hu => cell_alloc_some _ (cell_alloc_some _ (e1 j u hu)), ?_⟩)
            refine headF_one (i := 11) (by kernel_rfl) (by omega) ?_
            refine wpOp_atG rfl (by kernel_rfl) (wp_append_src _ (.tmp 25) (.tmp 26) 26 rfl W.heap.size 29 j0 _ 7 56 Try.underlying26 hj0 hz0 hs7 hby (cellsV_size _) (by omega) (.slice (some ⟨(W.drew.alloc (.cells (cellsV a2) 29)).heap.size, 0, none⟩) 0 0) 0 [] rfl (owns_empty (Blk.new _ _ _) (by simp)) a0 len0 cap0 (flat l) rfl (by rw [HLEN.out]) (hcl.out _ ((((Kept.refl _ W).drew.alloc _).alloc _) : Kept (fun _ => False) W _).below_of) flat_mem (by unfold maxLen; omega) (by omega) (((((Kept.refl _ W).drew.alloc _).alloc _) : Kept (fun _ => False) W _).size) ?_)
            intro u1 w2 hown1 hgrow1 hat1
            have HG1 := Lib.hid hgrow1
            have HK1 : Hid (Kept (fun _ => False) W w2 ∧ w2.rangeAt n0 0 a2.row) := Lib.hid (keep_range0 ((((Kept.refl _ W).drew.alloc _).alloc _)) hgrow1 (fun i hi => by simp [Value.ownBlock] at hi; (try simp at hi); omega) e1)
            have HO1 : Hid (w2.ownsRow W.heap.size 29 7 u1 len0 (flat l)) := Lib.hid (by simpa using hown1)
            clear hown1 hgrow1 hat1
            refine ⟨HK1.out.2, ?_⟩
            show Region.seqB _ _ _ _ _ = true ∧ _
            refine ⟨by kernel_rfl, ?_⟩
            simp only [Act.put, List.getElem_toArray, List.getElem_cons_zero, List.getElem_cons_succ, List.setIfInBounds_toArray, List.set_cons_zero, List.set_cons_succ, List.drop_succ_cons, List.drop_zero]
            refine wpList_append_srcG _ (by kernel_rfl) (.tmp 27) (.tmp 29) 26 rfl W.heap.size 29 j0 _ 7 56 Try.underlying26 hj0 hz0 hs7 hby (cellsV_size _) (by omega) u1 len0 (flat l) rfl (HO1.out) (some ⟨W.drew.heap.size, 0, none⟩) 1 1 a2.row rfl rfl (fun _ => ⟨_, rfl, news_kept2 HG1.out (by simp [Value.ownBlock])⟩) (row_one a2) (by unfold maxLen; omega) (by omega) ((HK1.out.1 : Kept (fun _ => False) W _).size) ?_
            intro u2 w3 hown2 hgrow2 hat2
            have HZ : Hid (w3.ownsRow W.heap.size 29 7 u2 (len0 + 1) (flat (l ++ [a2])) ∧ Kept (fun _ => False) W w3) := Lib.hid (HN.out ▸ more_facts (l := l) (v := a2) (HN.out ▸ HO1.out) (HK1.out.1) (HN.out ▸ hown2) hgrow2)
            clear hown2 hgrow2 hat2
            obtain ⟨g2, c2, rfl⟩ : ∃ g c, u2 = .slice (some ⟨g, 0, none⟩) (len0 + 1) c := HN.out ▸ more_slice (HN.out ▸ HZ.out.1)
            go_wp2_with fail
            refine (show Calls Try.prog 22 #[.slice (some ⟨g2, 0, none⟩) (len0 + 1) c2] w3 fun e w' => e = .returned (.bool true) ∧ Below w3.heap.size w3 w' from HN.out ▸ fits_more_any g2 c2 l a2 w3 true (HN.out ▸ HZ.out.1) (by have := HN.out; omega) HF.out HF2.out (decide_eq_true (by omega))).mono ?_
            rintro e w4 ⟨rfl, hb4⟩
            have HX := Lib.hid (HZ.out.2.trans (Kept.of_below hb4 : Kept (fun _ => False) w3 w4) (fun _ _ h => h))
            clear hb4
            go_wp2
            refine NoPanic.normal ?_
            go_wp2_with fail
            go_meet
            exact ⟨rfl, HX⟩
        case rest =>
          obtain ⟨rfl, HC⟩ := hcut
          have HKC := Lib.hid (HK.out.trans HC.out (fun _ _ h => h))
          have E1 := Lib.hid (HE.out.kept HC.out (fun h => h))
          have L1 := Lib.hid (HL.out.below HC.out.below_of)
          have HTT : Hid (totalOf l ≤ 18446744073709551615) := Lib.hid (by omega)
          have hsz0 := HKC.out.size
          have HNW := Lib.hid (fun w => new_any len0 w (by omega) (by omega))
          have hpos : 0 < len0 := by omega
          clear HC HK HE HL e1
          go_wp2_with fail
          refine (HNW.out _).mono ?_
          rintro e w1 ⟨b, S, rfl, hr, hS, hb⟩
          have R1 : Hid (Reg w1 b S len0 (l.take 0)) := Lib.hid hr
          have E2 := Lib.hid (E1.out.below hb E1.out.lt)
          have L2 := Lib.hid (L1.out.below hb)
          have B2 := Lib.hid (HKC.out.below_of.trans (hb.mono hsz0))
          have hnl : n0 < wc.heap.size := E1.out.lt
          have S1 : Hid (∀ i, S i → n0 < i ∧ w.heap.size ≤ i) := Lib.hid (fun i hi => by have := hS i hi; omega)
          clear hr hS hb E1 L1 HKC
          go_wp2_with fail
          go_loopw [8, 42] (fun s8 s42 wr => ∃ (k : Nat) (S : Nat → Prop), k ≤ len0 ∧ s42 = .int .i64 k ∧ Hid (Reg wr b S len0 (l.take k) ∧ Lst wr (fun i => w.heap.size ≤ i) a0 l ∧ Blk wr n0 29 (cellsV a2)) ∧ Hid (∀ i, S i → n0 < i ∧ w.heap.size ≤ i) ∧ Hid (Below w.heap.size w wr)) (fun _ s42 _ => len0 - (intOf s42).toNat)
          case atStart => exact ⟨0, S, by omega, rfl, Lib.hid ⟨R1.out, L2.out, E2.out⟩, S1, B2⟩
          case round =>
            obtain ⟨k, S, hk, rfl, HR, HS, BB⟩ := hrel
            clear R1 E2 L2 B2 S1
            by_cases hkl : k < len0
            · obtain ⟨x, hx⟩ : ∃ x, l[k]? = some x := ⟨_, List.getElem?_eq_getElem (by have := HN.out; omega)⟩
              obtain ⟨g, off, rfl, hrg⟩ := HR.out.2.1.at hx
              have HX := Lib.hid hrg
              have HA := Lib.hid (addv_step b len0 k S l x (wr.alloc (.cells (cellsV x) 29)) (HR.out.1.alloc _) hx HN.out HF.out HTT.out)
              have HR' : Hid (Lst (wr.alloc (.cells (cellsV x) 29)) (fun i => w.heap.size ≤ i) (some ⟨g, off, none⟩) l ∧ Blk (wr.alloc (.cells (cellsV x) 29)) n0 29 (cellsV a2)) := Lib.hid ⟨HR.out.2.1.alloc _, HR.out.2.2.alloc _⟩
              have BB' : Hid (Below w.heap.size w (wr.alloc (.cells (cellsV x) 29))) := Lib.hid (BB.out.alloc BB.out.size _)
              have HE : Hid (Blk (wr.alloc (.cells (cellsV x) 29)) wr.heap.size 29 (cellsV x)) := Lib.hid (Blk.new _ _ _)
              have hk1 : ¬ (k : Int) < 0 := by omega
              have hk2 : ¬ (len0 : Int) ≤ (k : Int) := by omega
              have hk3 : (k : Int) < (len0 : Int) := by omega
              clear HR BB hx hrg
              go_wp2_with (first | (refine wpList_load_val rfl 29 _ rfl g (off + k * 7) rfl x _ HX.out Try.underlying29 rfl infoV ?_) | (refine wpList_store_row rfl _ _ _ rfl wr.heap.size (cellsV x) rfl rfl 29 _ (heap_alloc_new wr _) infoV rfl (cellsV_one x) ?_; rw [World.setRow_alloc_new]) | (refine wpList_load_val rfl 29 _ rfl wr.heap.size 0 rfl x _ HE.out.range Try.underlying29 rfl infoV ?_))
              clear HE HX
              generalize wr.alloc (.cells (cellsV x) 29) = W at *
              refine HA.out.mono ?_
              rintro e w2 ⟨rfl, S2, hr2, hm2, hk4⟩
              have hW1 := BB'.out.size
              have hn0W : n0 < W.heap.size := HR'.out.2.lt
              have R2 : Hid (Reg w2 b S2 len0 (l.take (k + 1)) ∧ Lst w2 (fun i => w.heap.size ≤ i) (some ⟨g, off, none⟩) l ∧ Blk w2 n0 29 (cellsV a2)) :=
                Lib.hid ⟨hr2, HR'.out.1.same hk4.size (fun q hq hnq => hk4.block q hq (fun hs => hnq (HS.out q hs).2)), HR'.out.2.kept hk4 (fun hs => by have := (HS.out _ hs).1; omega)⟩
              have S2' : Hid (∀ i, S2 i → n0 < i ∧ w.heap.size ≤ i) := Lib.hid (fun i hi => (hm2 i hi).elim (HS.out i) (fun h => by omega))
              have B2 : Hid (Below w.heap.size w w2) := Lib.hid (Kept.below BB'.out hk4 (fun i hi => (HS.out i hi).2) BB'.out.size)
              clear hr2 hm2 hk4 HA HR' BB' HS
              go_wp2_with fail
              go_roundw
              case rel => exact ⟨k + 1, S2, by omega, by go_num, R2, S2', B2⟩
              case measure => simp [intOf]; omega
            · have hkl' : ¬ (k : Int) < (len0 : Int) := by omega
              obtain rfl : k = len0 := by omega
              have HEND : Hid (Reg wr b S k l ∧ Lst wr (fun i => w.heap.size ≤ i) a0 l ∧ Blk wr n0 29 (cellsV a2)) := Lib.hid ⟨by have := HR.out.1; rwa [List.take_of_length_le (by rw [HN.out]; exact Nat.le_refl _)] at this, HR.out.2⟩
              clear HR
              obtain ⟨q, hq, hq1⟩ : ∃ q : Nat, a1 % (k : Int) = (q : Int) ∧ q < k := ⟨(a1 % (k : Int)).toNat, by have := Int.emod_nonneg a1 (show (k : Int) ≠ 0 by omega); omega, by have := Int.emod_lt_of_pos a1 (show (0 : Int) < (k : Int) by omega); have := Int.emod_nonneg a1 (show (k : Int) ≠ 0 by omega); omega⟩
              obtain ⟨old, hold⟩ : ∃ old, l[q]? = some old := ⟨_, List.getElem?_eq_getElem (by have := HN.out; omega)⟩
              have HOLD := Lib.hid hold
              have hob := HF.out old (List.mem_of_getElem? hold)
              have hobb := hob.bal
              clear hold hob
              go_wp2_with (refine wpList_load_val rfl 29 _ rfl n0 0 rfl a2 _ HEND.out.2.2.range Try.underlying29 rfl infoV ?_)
              refine (addv_full' b k S l a2 wr HEND.out.1 HF2.out HN.out).mono ?_
              rintro e w2 ⟨rfl, hb⟩
              have R2 := Lib.hid (And.intro (HEND.out.1.below hb) (And.intro (HEND.out.2.1.below hb) (HEND.out.2.2.below hb HEND.out.2.2.lt)))
              have B2 := Lib.hid (BB.out.trans (hb.mono BB.out.size))
              clear hb HEND BB
              go_wp2_with (refine wpList_load_val rfl 29 _ rfl n0 0 rfl a2 _ R2.out.2.2.range Try.underlying29 rfl infoV ?_)
              refine (setv_at b k q S l old a2 w2 R2.out.1 HF2.out HOLD.out (by omega)).mono ?_
              rintro e w3 ⟨rfl, hr3, hk3⟩
              have R3 : Hid (Reg w3 b S k (l.set q a2) ∧ Lst w3 (fun i => w.heap.size ≤ i) a0 l ∧ Blk w3 n0 29 (cellsV a2)) := Lib.hid ⟨hr3, R2.out.2.1.same hk3.size (fun j hj hnj => hk3.block j hj (fun hs => hnj (HS.out j hs).2)), R2.out.2.2.kept hk3 (fun hs => by have := (HS.out _ hs).1; omega)⟩
              have B3 : Hid (Below w.heap.size w w3) := Lib.hid (Kept.below B2.out hk3 (fun i hi => (HS.out i hi).2) B2.out.size)
              have HLS : Hid ((l.set q a2).length = k) := Lib.hid (by rw [List.length_set]; exact HN.out)
              clear hr3 hk3 R2 B2
              go_wp2_with fail
              refine wp_region_first (fun _ => True) 15 15 [] (by kernel_rfl) (by kernel_rfl) trivial ?_
              refine wpQuiet_nil ?_
              refine headF_one (i := 0) (by kernel_rfl) (by omega) ?_
              refine wpOp_at rfl rfl (wp_call_at rfl #[] (by kernel_rfl) Try.call10 ((alive_any _).mono ?_))
              rintro e w5 ⟨rfl, hb5⟩
              have R5 := Lib.hid (And.intro ((R3.out.1.drewN 1).below hb5) (And.intro (Lst.below (w := w3.drew) R3.out.2.1 hb5) (Blk.below (w := w3.drew) R3.out.2.2 hb5 R3.out.2.2.lt)))
              have B5 := Lib.hid (B3.out.drew.trans (hb5.mono B3.out.size))
              refine ⟨_, rfl, trivial, ?_⟩
              clear hb5 R3 B3
              have e5 : w5.rangeAt n0 0 a2.row := R5.out.2.2.range
              simp only [Act.put, List.getElem_toArray, List.getElem_cons_zero, List.getElem_cons_succ, List.setIfInBounds_toArray, List.set_cons_zero, List.set_cons_succ]
              refine headF_takes (fun w' => w'.rangeAt n0 0 a2.row) (m := 14) (f := 1) [1, 2, 3, 4, 5, 6, 7, 8, 9, 10, 12, 13, 14] (fun _ _ => trivial) (by kernel_rfl) e5 ?_
              simp only [List.filterMap_cons, List.filterMap_nil, List.getElem?_toArray, List.getElem?_cons_zero, List.getElem?_cons_succ]
              show wpQuiet _ _ _ _ [_, _, _, _, _, _, _, _, _, _, _, _, _] _
              iterate 12 (go_big_quiet_step ((intros; rfl)))
              refine q_load_val 29 _ n0 0 a2 _ (by kernel_rfl) rfl rfl (fun w h => h) Try.underlying29 rfl infoV ?_
              simp only [Act.put, List.setIfInBounds_toArray, List.set_cons_zero, List.set_cons_succ]
              refine wpQuiet_nil ?_
              refine headF_one (i := 11) (by kernel_rfl) (by omega) ?_
              refine wpOp_atG rfl (by kernel_rfl) (wp_call_at rfl #[.pointer (some ⟨b, 0, none⟩)] (by kernel_rfl) Try.call18 ((all_at b k k S (l.set q a2) w5 R5.out.1 HLS.out).mono ?_))
              rintro e w6 ⟨a6, cp6, rfl, L6, hb6⟩
              have R6 := Lib.hid (R5.out.2.1.below hb6)
              have B6 := Lib.hid (B5.out.trans (hb6.mono B5.out.size))
              refine ⟨_, rfl, (R5.out.2.2.below hb6 R5.out.2.2.lt).range, ?_⟩
              clear hb6 R5 B5 e5
              show Region.seqB _ _ _ _ _ = true ∧ _
              refine ⟨by kernel_rfl, ?_⟩
              simp only [Act.put, List.getElem_toArray, List.getElem_cons_zero, List.getElem_cons_succ, List.setIfInBounds_toArray, List.set_cons_zero, List.set_cons_succ, List.drop_succ_cons, List.drop_zero]
              go_wp2_with fail
              refine (put_at' _ a0 cap0 q k old a2 l w6 R6.out (by omega) HN.out HOLD.out).mono ?_
              rintro e w7 ⟨g7, c7, rfl, hl7, hb7⟩
              have L7 := Lib.hid hl7
              have L6' := Lib.hid (L6.out.below hb7)
              have B7 := Lib.hid (B6.out.trans (hb7.mono B6.out.size))
              clear hl7 hb7 L6 B6 R6
              go_wp2_with fail
              refine (same_at _ _ a6 (some ⟨g7, 0, none⟩) cp6 c7 k (l.set q a2) w7 L6'.out L7.out (by omega) HLS.out).mono ?_
              rintro e w8 ⟨rfl, m8, rfl⟩
              have B8 := Lib.hid (below_drewN B7.out m8)
              clear B7 L7 L6'
              go_wp2
              refine NoPanic.normal ?_
              go_wp2_with fail
              go_ret
              exact ⟨rfl, B8.out⟩
      · go_enter Try.func6, Try.ntmps6
        go_wp2
        generalize w.alloc (.cells (cellsV a2) 29) = W at *
        have e1 : W.rangeAt n0 0 a2.row := HE.out.range
        go_cut [33] from 16 to 33 (fun s33 wx => s33 = .bool true ∧ Hid (Kept (fun _ => False) W wx))
        case first =>
          refine wp_region_first (fun w' => w'.rangeAt n0 0 a2.row) 14 3 [0, 1, 2, 3, 4, 5, 6, 7, 8, 10, 12] (by kernel_rfl) (by kernel_rfl) e1 ?_
          simp only [List.filterMap_cons, List.filterMap_nil, List.getElem?_toArray, List.getElem?_cons_zero, List.getElem?_cons_succ]
          show wpQuiet _ _ _ _ [_, _, _, _, _, _, _, _, _, _, _] _
          have hcl : Hid (∀ w', Below W.heap.size W w' → 0 < len0 → ∃ ad, a0 = some ad ∧ ∀ j u, (flat l)[j]? = some u → w'.cell? (ad.add j) = some u) := Lib.hid (fun w' hb h0 => lst_src HL.out hb (by rw [HN.out]; exact h0))
          obtain ⟨j0, hj0, hz0, hs7, hby⟩ := val_app
          have HLEN : Hid ((flat l).length = len0 * 7) := Lib.hid (by rw [flat_len, HN.out])
          have h41 : decide ((40 : Int) < (len0 : Int)) = false := by simp; omega
          iterate 10 (go_big_quiet_step ((intros; rfl)))
          refine q_load_val 29 _ n0 0 a2 _ (by kernel_rfl) rfl rfl (fun w h => h) Try.underlying29 rfl infoV ?_
          simp only [Act.put, List.setIfInBounds_toArray, List.set_cons_zero, List.set_cons_succ]
          refine wpQuiet_nil ?_
          refine headF_two (i := 9) (k := 13) (by kernel_rfl) (by omega) (by omega) ?_ ?_
          · refine wpOp_atG rfl (by kernel_rfl) (wp_buildSlice_zero 26 29 j0 rfl Try.underlying26 hj0 ⟨fun j u hu => cell_alloc_some _ (e1 j u hu), ?_⟩)
            refine headF_two (i := 11) (k := 13) (by kernel_rfl) (by omega) (by omega) ?_ ?_
            · refine wpOp_atG rfl (by kernel_rfl) (wp_append_src _ (.tmp 25) (.tmp 26) 26 rfl W.heap.size 29 j0 _ 7 56 Try.underlying26 hj0 hz0 hs7 hby (cellsV_size _) (by omega) (.slice (some ⟨W.drew.heap.size, 0, none⟩) 0 0) 0 [] rfl (owns_empty (Blk.new W.drew _ _) (Nat.le_refl _)) a0 len0 cap0 (flat l) rfl (by rw [HLEN.out]) (hcl.out _ (((Kept.refl _ W).drew.alloc _) : Kept (fun _ => False) W _).below_of) flat_mem (by unfold maxLen; omega) (by omega) ((((Kept.refl _ W).drew.alloc _) : Kept (fun _ => False) W _).size) ?_)
              intro u1 w2 hown1 hgrow1 hat1
              have HG1 := Lib.hid hgrow1
              have HK1 : Hid (Kept (fun _ => False) W w2 ∧ w2.rangeAt n0 0 a2.row) := Lib.hid (keep_range0 (((Kept.refl _ W).drew.alloc _)) hgrow1 (fun i hi => by simp [Value.ownBlock] at hi; (try simp at hi); omega) e1)
              have HO1 : Hid (w2.ownsRow W.heap.size 29 7 u1 len0 (flat l)) := Lib.hid (by simpa using hown1)
              clear hown1 hgrow1 hat1
              refine ⟨HK1.out.2, ?_⟩
              refine headF_one (i := 13) (by kernel_rfl) (by omega) ?_
              refine wpOp_atG rfl (by kernel_rfl) (wp_buildSlice_val 26 29 _ _ a2 rfl rfl Try.underlying26 val_info ⟨fun j u hu => cell_alloc_some _ (HK1.out.2 j u hu), ?_⟩)
              show Region.seqB _ _ _ _ _ = true ∧ _
              refine ⟨by kernel_rfl, ?_⟩
              simp only [Act.put, List.getElem_toArray, List.getElem_cons_zero, List.getElem_cons_succ, List.setIfInBounds_toArray, List.set_cons_zero, List.set_cons_succ, List.drop_succ_cons, List.drop_zero]
              refine wpList_append_srcG _ (by kernel_rfl) (.tmp 27) (.tmp 29) 26 rfl W.heap.size 29 j0 _ 7 56 Try.underlying26 hj0 hz0 hs7 hby (cellsV_size _) (by omega) u1 len0 (flat l) rfl (World.ownsRow.alloc HO1.out _) (some ⟨w2.heap.size, 0, none⟩) 1 1 a2.row rfl rfl (fun _ => ⟨_, rfl, new_cells _ _ _⟩) (row_one a2) (by unfold maxLen; omega) (by omega) ((HK1.out.1.alloc _ : Kept (fun _ => False) W _).size) ?_
              intro u2 w3 hown2 hgrow2 hat2
              have HZ : Hid (w3.ownsRow W.heap.size 29 7 u2 (len0 + 1) (flat (l ++ [a2])) ∧ Kept (fun _ => False) W w3) := Lib.hid (HN.out ▸ more_facts (l := l) (v := a2) (HN.out ▸ HO1.out) (HK1.out.1.alloc _) (HN.out ▸ hown2) hgrow2)
              clear hown2 hgrow2 hat2
              obtain ⟨g2, c2, rfl⟩ : ∃ g c, u2 = .slice (some ⟨g, 0, none⟩) (len0 + 1) c := HN.out ▸ more_slice (HN.out ▸ HZ.out.1)
              go_wp2_with fail
              refine (show Calls Try.prog 22 #[.slice (some ⟨g2, 0, none⟩) (len0 + 1) c2] w3 fun e w' => e = .returned (.bool false) ∧ Below w3.heap.size w3 w' from HN.out ▸ fits_more_any g2 c2 l a2 w3 false (HN.out ▸ HZ.out.1) (by have := HN.out; omega) HF.out HF2.out (decide_eq_false (by omega))).mono ?_
              rintro e w4 ⟨rfl, hb4⟩
              have HX := Lib.hid (HZ.out.2.trans (Kept.of_below hb4 : Kept (fun _ => False) w3 w4) (fun _ _ h => h))
              clear hb4
              go_wp2
              refine NoPanic.normal ?_
              go_wp2_with fail
              go_meet
              exact ⟨rfl, HX⟩
            · refine wpOp_atG rfl (by kernel_rfl) (wp_buildSlice_val 26 29 _ _ a2 rfl rfl Try.underlying26 val_info ⟨fun j u hu => cell_alloc_some _ (cell_alloc_some _ (e1 j u hu)), ?_⟩)
              refine headF_one (i := 11) (by kernel_rfl) (by omega) ?_
              refine wpOp_atG rfl (by kernel_rfl) (wp_append_src _ (.tmp 25) (.tmp 26) 26 rfl W.heap.size 29 j0 _ 7 56 Try.underlying26 hj0 hz0 hs7 hby (cellsV_size _) (by omega) (.slice (some ⟨W.drew.heap.size, 0, none⟩) 0 0) 0 [] rfl (owns_empty (Blk.alloc (Blk.new W.drew _ _) _) (Nat.le_refl _)) a0 len0 cap0 (flat l) rfl (by rw [HLEN.out]) (hcl.out _ ((((Kept.refl _ W).drew.alloc _).alloc _) : Kept (fun _ => False) W _).below_of) flat_mem (by unfold maxLen; omega) (by omega) (((((Kept.refl _ W).drew.alloc _).alloc _) : Kept (fun _ => False) W _).size) ?_)
              intro u1 w2 hown1 hgrow1 hat1
              have HG1 := Lib.hid hgrow1
              have HK1 : Hid (Kept (fun _ => False) W w2 ∧ w2.rangeAt n0 0 a2.row) := Lib.hid (keep_range0 ((((Kept.refl _ W).drew.alloc _).alloc _)) hgrow1 (fun i hi => by simp [Value.ownBlock] at hi; (try simp at hi); omega) e1)
              have HO1 : Hid (w2.ownsRow W.heap.size 29 7 u1 len0 (flat l)) := Lib.hid (by simpa using hown1)
              clear hown1 hgrow1 hat1
              refine ⟨HK1.out.2, ?_⟩
              show Region.seqB _ _ _ _ _ = true ∧ _
              refine ⟨by kernel_rfl, ?_⟩
              simp only [Act.put, List.getElem_toArray, List.getElem_cons_zero, List.getElem_cons_succ, List.setIfInBounds_toArray, List.set_cons_zero, List.set_cons_succ, List.drop_succ_cons, List.drop_zero]
              refine wpList_append_srcG _ (by kernel_rfl) (.tmp 27) (.tmp 29) 26 rfl W.heap.size 29 j0 _ 7 56 Try.underlying26 hj0 hz0 hs7 hby (cellsV_size _) (by omega) u1 len0 (flat l) rfl (HO1.out) (some ⟨(W.drew.alloc (.cells #[] 29)).heap.size, 0, none⟩) 1 1 a2.row rfl rfl (fun _ => ⟨_, rfl, news_kept HG1.out (by simp [Value.ownBlock])⟩) (row_one a2) (by unfold maxLen; omega) (by omega) ((HK1.out.1 : Kept (fun _ => False) W _).size) ?_
              intro u2 w3 hown2 hgrow2 hat2
              have HZ : Hid (w3.ownsRow W.heap.size 29 7 u2 (len0 + 1) (flat (l ++ [a2])) ∧ Kept (fun _ => False) W w3) := Lib.hid (HN.out ▸ more_facts (l := l) (v := a2) (HN.out ▸ HO1.out) (HK1.out.1) (HN.out ▸ hown2) hgrow2)
              clear hown2 hgrow2 hat2
              obtain ⟨g2, c2, rfl⟩ : ∃ g c, u2 = .slice (some ⟨g, 0, none⟩) (len0 + 1) c := HN.out ▸ more_slice (HN.out ▸ HZ.out.1)
              go_wp2_with fail
              refine (show Calls Try.prog 22 #[.slice (some ⟨g2, 0, none⟩) (len0 + 1) c2] w3 fun e w' => e = .returned (.bool false) ∧ Below w3.heap.size w3 w' from HN.out ▸ fits_more_any g2 c2 l a2 w3 false (HN.out ▸ HZ.out.1) (by have := HN.out; omega) HF.out HF2.out (decide_eq_false (by omega))).mono ?_
              rintro e w4 ⟨rfl, hb4⟩
              have HX := Lib.hid (HZ.out.2.trans (Kept.of_below hb4 : Kept (fun _ => False) w3 w4) (fun _ _ h => h))
              clear hb4
              go_wp2
              refine NoPanic.normal ?_
              go_wp2_with fail
              go_meet
              exact ⟨rfl, HX⟩
          · refine wpOp_atG rfl (by kernel_rfl) (wp_buildSlice_val 26 29 _ _ a2 rfl rfl Try.underlying26 val_info ⟨fun j u hu => cell_alloc_some _ (e1 j u hu), ?_⟩)
            refine headF_one (i := 9) (by kernel_rfl) (by omega) ?_
            refine wpOp_atG rfl (by kernel_rfl) (wp_buildSlice_zero 26 29 j0 rfl Try.underlying26 hj0 ⟨fun j u hu => cell_alloc_some _ (cell_alloc_some _ (e1 j u hu)), ?_⟩)
            refine headF_one (i := 11) (by kernel_rfl) (by omega) ?_
            refine wpOp_atG rfl (by kernel_rfl) (wp_append_src _ (.tmp 25) (.tmp 26) 26 rfl W.heap.size 29 j0 _ 7 56 Try.underlying26 hj0 hz0 hs7 hby (cellsV_size _) (by omega) (.slice (some ⟨(W.drew.alloc (.cells (cellsV a2) 29)).heap.size, 0, none⟩) 0 0) 0 [] rfl (owns_empty (Blk.new _ _ _) (by simp)) a0 len0 cap0 (flat l) rfl (by rw [HLEN.out]) (hcl.out _ ((((Kept.refl _ W).drew.alloc _).alloc _) : Kept (fun _ => False) W _).below_of) flat_mem (by unfold maxLen; omega) (by omega) (((((Kept.refl _ W).drew.alloc _).alloc _) : Kept (fun _ => False) W _).size) ?_)
            intro u1 w2 hown1 hgrow1 hat1
            have HG1 := Lib.hid hgrow1
            have HK1 : Hid (Kept (fun _ => False) W w2 ∧ w2.rangeAt n0 0 a2.row) := Lib.hid (keep_range0 ((((Kept.refl _ W).drew.alloc _).alloc _)) hgrow1 (fun i hi => by simp [Value.ownBlock] at hi; (try simp at hi); omega) e1)
            have HO1 : Hid (w2.ownsRow W.heap.size 29 7 u1 len0 (flat l)) := Lib.hid (by simpa using hown1)
            clear hown1 hgrow1 hat1
            refine ⟨HK1.out.2, ?_⟩
            show Region.seqB _ _ _ _ _ = true ∧ _
            refine ⟨by kernel_rfl, ?_⟩
            simp only [Act.put, List.getElem_toArray, List.getElem_cons_zero, List.getElem_cons_succ, List.setIfInBounds_toArray, List.set_cons_zero, List.set_cons_succ, List.drop_succ_cons, List.drop_zero]
            refine wpList_append_srcG _ (by kernel_rfl) (.tmp 27) (.tmp 29) 26 rfl W.heap.size 29 j0 _ 7 56 Try.underlying26 hj0 hz0 hs7 hby (cellsV_size _) (by omega) u1 len0 (flat l) rfl (HO1.out) (some ⟨W.drew.heap.size, 0, none⟩) 1 1 a2.row rfl rfl (fun _ => ⟨_, rfl, news_kept2 HG1.out (by simp [Value.ownBlock])⟩) (row_one a2) (by unfold maxLen; omega) (by omega) ((HK1.out.1 : Kept (fun _ => False) W _).size) ?_
            intro u2 w3 hown2 hgrow2 hat2
            have HZ : Hid (w3.ownsRow W.heap.size 29 7 u2 (len0 + 1) (flat (l ++ [a2])) ∧ Kept (fun _ => False) W w3) := Lib.hid (HN.out ▸ more_facts (l := l) (v := a2) (HN.out ▸ HO1.out) (HK1.out.1) (HN.out ▸ hown2) hgrow2)
            clear hown2 hgrow2 hat2
            obtain ⟨g2, c2, rfl⟩ : ∃ g c, u2 = .slice (some ⟨g, 0, none⟩) (len0 + 1) c := HN.out ▸ more_slice (HN.out ▸ HZ.out.1)
            go_wp2_with fail
            refine (show Calls Try.prog 22 #[.slice (some ⟨g2, 0, none⟩) (len0 + 1) c2] w3 fun e w' => e = .returned (.bool false) ∧ Below w3.heap.size w3 w' from HN.out ▸ fits_more_any g2 c2 l a2 w3 false (HN.out ▸ HZ.out.1) (by have := HN.out; omega) HF.out HF2.out (decide_eq_false (by omega))).mono ?_
            rintro e w4 ⟨rfl, hb4⟩
            have HX := Lib.hid (HZ.out.2.trans (Kept.of_below hb4 : Kept (fun _ => False) w3 w4) (fun _ _ h => h))
            clear hb4
            go_wp2
            refine NoPanic.normal ?_
            go_wp2_with fail
            go_meet
            exact ⟨rfl, HX⟩
        case rest =>
          obtain ⟨rfl, HC⟩ := hcut
          replace HC := Lib.hid (HK.out.trans HC.out (fun _ _ h => h))
          go_wp2_with fail
          refine (alive_any _).mono ?_
          rintro e w5 ⟨rfl, hb5⟩
          have HB5 := Lib.hid (HC.out.below_of.trans (hb5.mono HC.out.size))
          clear hb5
          go_wp2_with fail
          go_ret
          exact ⟨rfl, HB5.out⟩
end Go.Proofs.Ytcmlkcmoailhjaa
