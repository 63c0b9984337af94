/- Parse, the reference's. -/
import Derived.Test.YtniehmlklbggdaaDoorRSplit
import Derived.Test.YtniehmlklbggdaaDoorRefs
import Derived.Test.YtniehmlklbggdaaDoorMem
import Derived.Test.YtniehmlklbggdaaDoorFields
namespace Go.Proofs.YtniehmlklbggdaaDoor
open Go Go.RowKit GwStr
set_option linter.unusedVariables false
set_option linter.unusedSimpArgs false
set_option maxRecDepth 100000

theorem rparse_ret {Q : Ending → World → Prop} {c : Act} {w : World} {g : Nat} {o : Oq} {b : Bool} (h4 : c.tmps.getD 2 undef = .pointer (some ⟨g, 0, none⟩)) (h5 : c.tmps.getD 3 undef = .bool b) (hd : c.defers = []) (hg : Blk w g 35 (cellsOq o))
    (h : Q (.returned (.tuple #[.agg (cellsOq o), .bool b])) w) : bodyPost Tryd.prog Tryd.f20 Q .ret c w := by
  refine bodyPost_ret (v := .tuple #[.agg (cellsOq o), .bool b]) ?_ hd h
  have := results_cell_row2 (P := Tryd.prog) (fn := Tryd.f20) rfl c.tmps w g 35 (cellsOq o) (0, 0) _ h4 hg Tryd.underlying35 rfl infoOq
  rw [h5] at this
  exact this
/-- The reference has not met its kind before number j. -/
def NotYet (W0 : List UInt8) (WS : List (List UInt8)) (j : Nat) : Prop := ∀ i, i < j → ∀ ds, ods ((i : Int) + 1) = some ds → ¬ (nm i = bs W0 ∧ WS.length = ds.length)
theorem notYet_end {W0 : List UInt8} {WS : List (List UInt8)} (h : NotYet W0 WS 7) : parW (W0 :: WS) = none := by
  simp only [parW]
  cases ho : ods ((posN (bs W0) : Nat) : Int) with
  | none => rfl
  | some ds =>
    simp only
    have h7 := ods_some ho
    obtain ⟨i, hi⟩ : ∃ i, posN (bs W0) = i + 1 := ⟨posN (bs W0) - 1, by omega⟩
    have hn := ((posN_iff (bs W0)).2 i (by omega)).2 hi
    rw [if_neg]
    intro hl
    refine h i (by omega) ds ?_ ⟨hn, hl⟩
    rw [hi] at ho
    exact ho
theorem notYet_next {W0 : List UInt8} {WS : List (List UInt8)} {j : Nat} {ds : List Od} (h : NotYet W0 WS j) (ho : ods ((j : Int) + 1) = some ds) (hn : ¬ (nm j = bs W0 ∧ WS.length = ds.length)) : NotYet W0 WS (j + 1) := by
  intro i hi es he
  rcases Nat.lt_or_ge i j with h1 | h1
  · exact h i h1 es he
  · obtain rfl : i = j := by omega
    rw [ho] at he
    injection he with he
    subst he
    exact hn
theorem met_here {W0 : List UInt8} {WS : List (List UInt8)} {j : Nat} (hj : j < 7) {ds : List Od} (ho : ods ((j : Int) + 1) = some ds) (hn : nm j = bs W0) (hl : WS.length = ds.length) : parW (W0 :: WS) = fillW ds WS ⟨(j : Int) + 1, 0, 0, 0⟩ := by
  have hp := ((posN_iff (bs W0)).2 j hj).1 hn
  have e : ((posN (bs W0) : Nat) : Int) = (j : Int) + 1 := by omega
  simp only [parW]
  rw [e, ho]
  simp only
  rw [if_pos hl]
theorem fillW_step {ds : List Od} {ws : List (List UInt8)} {p : Nat} {d : Od} {v : List UInt8} (hd : ds[p]? = some d) (hv : ws[p]? = some v) (q : Oq) : fillW (ds.drop p) (ws.drop p) q = if refOk v = true ∧ ¬ (d ≠ .am ∧ 65535 < refN v) then fillW (ds.drop (p + 1)) (ws.drop (p + 1)) (d.set q (refN v)) else none := by
  obtain ⟨h1, rfl⟩ := List.getElem?_eq_some_iff.1 hd
  obtain ⟨h2, rfl⟩ := List.getElem?_eq_some_iff.1 hv
  rw [List.drop_eq_getElem_cons h1, List.drop_eq_getElem_cons h2, fillW]
theorem flat_len {d : List UInt8} : ∀ {ws : List (List UInt8)}, d ∈ ws → d.length ≤ (ws.flatMap (32 :: ·)).length
  | x :: xs, hd => by
    simp only [List.flatMap_cons, List.length_append, List.length_cons]
    rcases List.mem_cons.1 hd with rfl | hd
    · omega
    · have := flat_len hd
      omega
theorem ods_kind {j : Nat} (h : j < 7) : ∃ ds, ods ((j : Int) + 1) = some ds := by
  rcases ods_cases ((j : Int) + 1) with ⟨_, e⟩ | ⟨_, e⟩ | ⟨_, e⟩ | ⟨_, e⟩ | ⟨_, e⟩ | ⟨_, e⟩ | ⟨_, e⟩ | ⟨h, _⟩
  all_goals first | exact ⟨_, e⟩ | omega
set_option maxHeartbeats 3200000 in
theorem refparse_line (s : ByteArray) (w : World) (hs : s.size ≤ 90000) :
    Calls Tryd.prog 20 #[.string s] w fun e w' => e = .returned (.tuple #[.agg (cellsOq (parD s.data.toList)), .bool (parL s.data.toList).isSome]) ∧ Below w.heap.size w w' := by
  have B0 : Hid (Below w.heap.size w (w.alloc (.cells (cellsOq oqZ) 35))) := Lib.hid ((Below.refl _ _).alloc (Nat.le_refl _) _)
  have K0 : Hid (Blk (w.alloc (.cells (cellsOq oqZ) 35)) w.heap.size 35 (cellsOq oqZ)) := Lib.hid (Blk.new w _ _)
  have hz : cellsOq oqZ = #[.int .i64 0, .int .i64 0, .int .i64 0, .int .u64 0] := rfl
  rw [hz] at B0 K0
  have HSP := Lib.hid (fun w => refsplit_any s 32 w hs)
  rw [show ((32 : UInt8).toNat : Int) = 32 from rfl] at HSP
  have HPD : Hid (parD s.data.toList = (parL s.data.toList).getD oqZ) := Lib.hid rfl
  obtain ⟨W0, WS, hW⟩ := spl_ne (c := 32) s.data.toList []
  have HPL : Hid (parL s.data.toList = parW (W0 :: WS)) := Lib.hid (by rw [parL, hW])
  rw [hW] at HSP
  generalize parD s.data.toList = PD at *
  generalize parL s.data.toList = PL at *
  have HWL : Hid (∀ d ∈ W0 :: WS, d.length ≤ 90000) := Lib.hid (by
    intro d hd
    have hj := spl_join s.data.toList [] W0 WS hW
    have hz : s.data.toList.length = s.size := by simp
    rw [List.nil_append] at hj
    have hl := congrArg List.length hj
    rw [hz, List.length_append] at hl
    rcases List.mem_cons.1 hd with rfl | hd
    · omega
    · have := flat_len hd
      omega)
  clear hz hW
  go_enter Tryd.func20, Tryd.ntmps20
  go_upto_region 1 with (fail)
  generalize w.alloc (.cells #[.int .i64 0, .int .i64 0, .int .i64 0, .int .u64 0] 35) = W at *
  go_wp2_with (fail)
  refine (HSP.out W).mono ?_
  rintro e w1 ⟨v, n, rfl, hn, ho, b1⟩
  have B1 := Lib.hid (B0.out.trans (b1.mono B0.out.size))
  have K1 := Lib.hid (K0.out.below b1 K0.out.lt)
  obtain ⟨g, cp, rfl, hcp, _⟩ := ho.at_ (j := 0) (d := W0) rfl
  have O1 := Lib.hid ho
  have HNN : Hid (WS.length + 1 = n) := Lib.hid (by have := ho.len; simpa using this)
  clear b1 ho B0 K0 hn
  go_wp2_with (fail)
  go_loopw [5] (fun i wr => ∃ j : Nat, j ≤ 7 ∧ i = .int .i64 ((j : Int) + 1) ∧ Hid (NotYet W0 WS j) ∧ Hid (OwnS wr W.heap.size (.slice (some ⟨g, 0, none⟩) n cp) n (W0 :: WS)) ∧ Hid (Blk wr w.heap.size 35 #[.int .i64 0, .int .i64 0, .int .i64 0, .int .u64 0]) ∧ Hid (Below w.heap.size w wr)) (fun i _ => 8 - (intOf i).toNat)
  case atStart => exact ⟨0, by omega, rfl, Lib.hid (fun i hi => by omega), O1, K1, B1⟩
  case round =>
    clear B1 K1 O1
    obtain ⟨j, hj, rfl, HNY, O2, K2, B2⟩ := hrel
    by_cases hlt : j < 7
    · obtain ⟨ds, hds⟩ := ods_kind hlt
      have HDS := Lib.hid hds
      have HOP := Lib.hid (fun w => refops_yes ((j : Int) + 1) ds hds w)
      have hj7 : (j : Int) + 1 ≤ 7 := by omega
      have hj0 : (0 : Int) ≤ (j : Int) := by omega
      obtain ⟨m, hm⟩ : ∃ m, ds.length = m := ⟨_, rfl⟩
      have HM := Lib.hid hm
      have hsz : (strL ds).size = m := by rw [strL_size, hm]
      have HI : Hid (∀ (p : Nat) (d : Od), ds[p]? = some d → ∀ w : World, (Instr.index 9 (.string (strL ds)) (.int .i64 (p : Int))).run Tryd.prog w = .ok (.int .u8 (d.ch.toNat : Int)) w) := Lib.hid fun p d hd w => strL_at hd w
      have hm2 : m ≤ 2 := by rw [← hm]; exact (ods_some hds).2.2.2
      generalize strL ds = SO at *
      have HLT := Lib.hid hlt
      clear hds hm hlt
      go_wp2_with (fail)
      refine (HOP.out wr).mono ?_
      rintro e w2 ⟨rfl, rfl⟩
      clear HOP
      go_wp2_with (fail)
      obtain ⟨g', cp', e0, hcp', hw0⟩ := O2.out.at_ (j := 0) (d := W0) rfl
      injection e0 with e0 _ ec
      subst ec
      injection e0 with e0
      injection e0 with e0 _ _
      subst e0
      have HC0 := Lib.hid hw0
      have hn1 : (0 : Int) < (n : Int) := by have := HNN.out; omega
      have hn2 : ¬ (n : Int) ≤ 0 := by omega
      have hsub : IntKind.i64.wrap ((j : Int) + 1 - 1) = (j : Int) := by rw [Int.add_sub_cancel]; exact IntWalk.i64_in _ (by omega)
      have hadd : IntKind.i64.wrap ((m : Int) + 1) = (m : Int) + 1 := IntWalk.i64_in _ (by omega)
      have hj7' : (j : Int) < 7 := by have := HLT.out; omega
      clear hw0 hcp'
      refine wp_region_whole (fun w' => w'.cell? ⟨g, 0, none⟩ = some (.string (bs W0))) 12 [1, 2, 5, 6, 7] (by kernel_rfl) (by kernel_rfl) HC0.out ?_
      simp only [List.filterMap_cons, List.filterMap_nil, List.getElem?_toArray, List.getElem?_cons_zero, List.getElem?_cons_succ]
      show wpQuiet _ _ _ _ [_, _, _, _, _] _
      iterate 4 (go_big_quiet_step ((intros; rfl)))
      refine q_cell 9 _ _ (.string (bs W0)) rfl rfl rfl (fun w h => by simp [go_sem, h]) (fun w h => by simpa using h) ?_
      simp only [Act.put, List.setIfInBounds_toArray, List.set_cons_zero, List.set_cons_succ]
      refine wpQuiet_nil ?_
      refine headF_one (i := 0) (by kernel_rfl) (by simp) ?_
      refine wpOp_at rfl rfl (wp_call_at rfl #[] (by kernel_rfl) Tryd.call39 ((refnames_any wr.drew).mono ?_))
      rintro e w2 ⟨b, rfl, _, hT, hb⟩
      have D2 : Hid (Below wr.heap.size wr w2) := Lib.hid ((Below.refl _ wr).drew.trans hb)
      have HT := Lib.hid hT
      have K3 := Lib.hid (K2.out.below D2.out K2.out.lt)
      have B3 := Lib.hid (B2.out.trans (D2.out.mono B2.out.size))
      have O3 := Lib.hid (O2.out.below D2.out)
      have hnc : w2.cell? ⟨b, j, none⟩ = some (.string (nm j)) := by rw [HT.out.cell j]; exact nmC_at j HLT.out
      have hw2 : w2.cell? ⟨g, 0, none⟩ = some (.string (bs W0)) := (D2.out.cell (p := ⟨g, 0, none⟩) (block_lt_of_cell HC0.out)).trans HC0.out
      clear hb hT K2 B2 O2 HC0
      refine ⟨_, rfl, hw2, ?_⟩
      simp only [Act.put, List.getElem_toArray, List.getElem_cons_zero, List.getElem_cons_succ, List.setIfInBounds_toArray, List.set_cons_zero, List.set_cons_succ]
      by_cases hne : nm j = bs W0
      · have hb1 : ((nm j).toList == (bs W0).toList) = true := by rw [hne]; exact str_eq _
        have hb2 : ((nm j).toList != (bs W0).toList) = false := by rw [hne]; simp
        by_cases hlen : WS.length = ds.length
        · have hnm : n = m + 1 := by have := HNN.out; have := HM.out; omega
          have hq1 : ((n : Int) != (m : Int) + 1) = false := by rw [hnm]; simp
          have hq2 : ((n : Int) == (m : Int) + 1) = true := by rw [hnm]; simp
          have HMET : Hid (PL = fillW ds WS ⟨(j : Int) + 1, 0, 0, 0⟩) := Lib.hid (by rw [HPL.out]; exact met_here HLT.out HDS.out hne hlen)
          have HNM := Lib.hid hnm
          have HWSL := Lib.hid hlen
          clear hnm hlen
          refine headF_takesW (fun w' => w'.cell? ⟨b, j, none⟩ = some (.string (nm j)) ∧ w'.cell? ⟨g, 0, none⟩ = some (.string (bs W0))) (m := 11) (f := 0) [3, 4, 8, 9, 10, 11, 12, 13, 14, 15, 16] (fun _ h => h.2) (by kernel_rfl) ⟨hnc, hw2⟩ ?_
          simp only [List.filterMap_cons, List.filterMap_nil, List.getElem?_toArray, List.getElem?_cons_zero, List.getElem?_cons_succ]
          show wpQuiet _ _ _ _ [_, _, _, _, _, _, _, _, _, _, _] _
          iterate 1 (go_big_quiet_step ((intros; rfl)))
          refine q_cell 9 _ _ (.string (nm j)) rfl rfl rfl (fun w h => by simp [go_sem, h]) (fun w h => by simpa using h.1) ?_
          simp only [Act.put, List.setIfInBounds_toArray, List.set_cons_zero, List.set_cons_succ]
          iterate 9 (go_big_quiet_step ((intros; rfl)))
          refine wpQuiet_nil ?_
          show Region.ready _ _ _ = [] ∧ _
          refine ⟨by kernel_rfl, NoPanic.normal ?_⟩
          clear hnc hw2 hb1 hb2 hq1 hq2 hne
          have ba : Below w2.heap.size w2 (w2.alloc (.cells #[.int .i64 ((j : Int) + 1), .int .i64 0, .int .i64 0, .int .u64 0] 35)) := (Below.refl _ _).alloc (Nat.le_refl _) _
          have B4 := Lib.hid (B3.out.trans (ba.mono B3.out.size))
          have K4 := Lib.hid (K3.out.below ba K3.out.lt)
          have O4 := Lib.hid (O3.out.below ba)
          have Q4 : Hid (Blk (w2.alloc (.cells #[.int .i64 ((j : Int) + 1), .int .i64 0, .int .i64 0, .int .u64 0] 35)) w2.heap.size 35 (cellsOq ⟨(j : Int) + 1, 0, 0, 0⟩)) := Lib.hid (Blk.new w2 _ _)
          have ZH : Hid (w.heap.size < w2.heap.size) := Lib.hid K3.out.lt
          clear ba B3 K3 O3
          go_wp2_with (fail)
          generalize w2.alloc (.cells #[.int .i64 ((j : Int) + 1), .int .i64 0, .int .i64 0, .int .u64 0] 35) = w4 at *
          generalize w2.heap.size = h at *
          go_loopw [8] (fun i wr => ∃ (p : Nat) (q : Oq), p ≤ m ∧ i = .int .i64 p ∧ Hid (PL = fillW (ds.drop p) (WS.drop p) q) ∧ Hid (Blk wr h 35 (cellsOq q)) ∧ Hid (OwnS wr W.heap.size (.slice (some ⟨g, 0, none⟩) n cp) n (W0 :: WS)) ∧ Hid (Blk wr w.heap.size 35 #[.int .i64 0, .int .i64 0, .int .i64 0, .int .u64 0]) ∧ Hid (Below w.heap.size w wr)) (fun i _ => m - (intOf i).toNat)
          case atStart => exact ⟨0, _, by omega, rfl, HMET, Q4, O4, K4, B4⟩
          case round =>
            clear Q4 O4 K4 B4
            obtain ⟨p, q, hp, rfl, HF, Q5, O5, K5, B5⟩ := hrel
            by_cases hpm : p < m
            · obtain ⟨d, hd⟩ : ∃ d, ds[p]? = some d := ⟨_, List.getElem?_eq_getElem (by have := HM.out; omega)⟩
              obtain ⟨v, hv⟩ : ∃ v, WS[p]? = some v := ⟨_, List.getElem?_eq_getElem (by have := HM.out; have := HWSL.out; omega)⟩
              obtain ⟨g', cp2, e0, hcp2, hcv⟩ := O5.out.at_ (j := p + 1) (d := v) (by simpa using hv)
              injection e0 with e0 _ ec
              subst ec
              injection e0 with e0
              injection e0 with e0 _ _
              subst e0
              have hidx := HI.out p d hd
              have HFS := Lib.hid (HF.out.trans (fillW_step hd hv q))
              have hvl : v.length ≤ 90000 := HWL.out v (List.mem_cons_of_mem _ (List.mem_of_getElem? hv))
              have HRP := Lib.hid (fun w => refparse_any (bs v) w (Nat.le_trans (show (bs v).size ≤ 90000 from hvl) (by omega)))
              rw [show (bs v).data.toList = v from rfl] at HRP
              have hrn := refN_lt v
              obtain ⟨x, hx⟩ : ∃ x, refN v = x := ⟨_, rfl⟩
              rw [hx] at HRP HFS hrn
              have hp1 : (p : Int) + 1 < (n : Int) := by have := HNM.out; omega
              have hp2 : ¬ (n : Int) ≤ (p : Int) + 1 := by omega
              have hp0 : (0 : Int) ≤ (p : Int) + 1 := by omega
              have hq3 := Q5.out.frozen 3
              have hq2 := Q5.out.frozen 2
              have hq1 := Q5.out.frozen 1
              have hy3 : wr.cell? ⟨h, 3, none⟩ = some (.int .u64 q.am) := Q5.out.cell 3
              have hy2 : wr.cell? ⟨h, 2, none⟩ = some (.int .i64 q.tg) := Q5.out.cell 2
              have hy1 : wr.cell? ⟨h, 1, none⟩ = some (.int .i64 q.ix) := Q5.out.cell 1
              have HRN := Lib.hid hrn
              clear hd hv hvl hx hcp2 hrn
              rcases hok : refOk v with _ | _
              · rw [hok] at HRP
                have HPN : Hid (PL = none) := Lib.hid (by rw [HFS.out, hok]; simp)
                clear hok
                go_wp2_with (fail)
                refine (HRP.out wr).mono ?_
                rintro e w5 ⟨rfl, rfl⟩
                go_wp2_with (first | (refine wpList_build_Oq rfl 35 _ rfl oqZ (by kernel_rfl) ?_) | (refine wpList_store_row rfl _ _ _ rfl w.heap.size (cellsOq oqZ) rfl rfl 35 _ K5.out infoOq rfl (cellsOq_one _) ?_))
                exact rparse_ret rfl rfl rfl (K5.out.setRow _) ⟨by rw [HPD.out, HPN.out]; rfl, below_setRow B5.out (Nat.le_refl _) _⟩
              · rw [hok] at HRP HFS
                clear hok
                cases d with
                | am =>
                  have hidx2 : ∀ w : World, (Instr.index 9 (.string SO) (.int .i64 (p : Int))).run Tryd.prog w = .ok (.int .u8 97) w := hidx
                  have HFN : Hid (PL = fillW (ds.drop (p + 1)) (WS.drop (p + 1)) (Od.am.set q x)) := Lib.hid (by rw [HFS.out, if_pos ⟨rfl, fun h => h.1 rfl⟩])
                  clear hidx
                  go_wp2_with (fail)
                  refine (HRP.out wr).mono ?_
                  rintro e w5 ⟨rfl, rfl⟩
                  go_wp2_with (fail)
                  go_roundw
                  case rel => exact ⟨p + 1, _, by omega, by go_num, HFN, Lib.hid (Q5.out.set_ 3 _), Lib.hid (ownsR_same O5.out fun i hi => Below.heap_setCell _ _ _ i (by obtain ⟨cur, h1, _⟩ := ownsR_blk O5.out hi; exact h1.ne_ Q5.out (by decide))), Lib.hid (K5.out.far (fun e => Nat.ne_of_lt ZH.out e) _), Lib.hid (B5.out.setCell (Nat.le_of_lt ZH.out) _)⟩
                  case measure => simp [intOf]; omega
                | ix =>
                  have hidx2 : ∀ w : World, (Instr.index 9 (.string SO) (.int .i64 (p : Int))).run Tryd.prog w = .ok (.int .u8 105) w := hidx
                  clear hidx
                  by_cases hbig : 65535 < x
                  · have hg : (65535 : Int) < (x : Int) := by omega
                    have hgd : decide ((65535 : Int) < (x : Int)) = true := by simpa using hg
                    have HPN : Hid (PL = none) := Lib.hid (by rw [HFS.out, if_neg (fun h => h.2 ⟨by decide, hbig⟩)])
                    clear hbig
                    go_wp2_with (fail)
                    refine (HRP.out wr).mono ?_
                    rintro e w5 ⟨rfl, rfl⟩
                    go_wp2_with (first | (refine wpList_build_Oq rfl 35 _ rfl oqZ (by kernel_rfl) ?_) | (refine wpList_store_row rfl _ _ _ rfl w.heap.size (cellsOq oqZ) rfl rfl 35 _ K5.out infoOq rfl (cellsOq_one _) ?_))
                    exact rparse_ret rfl rfl rfl (K5.out.setRow _) ⟨by rw [HPD.out, HPN.out]; rfl, below_setRow B5.out (Nat.le_refl _) _⟩
                  · have hg : ¬ (65535 : Int) < (x : Int) := by omega
                    have hgd : decide ((65535 : Int) < (x : Int)) = false := by simpa using hg
                    have HFN : Hid (PL = fillW (ds.drop (p + 1)) (WS.drop (p + 1)) ⟨q.kd, (x : Int), q.tg, q.am⟩) := Lib.hid (by rw [HFS.out, if_pos ⟨rfl, fun h => hbig h.2⟩, Od.set, wI (by omega) (by omega)])
                    have hwx : IntKind.i64.wrap (x : Int) = (x : Int) := wI (by omega) (by omega)
                    clear hbig
                    go_wp2_with (fail)
                    refine (HRP.out wr).mono ?_
                    rintro e w5 ⟨rfl, rfl⟩
                    go_wp2_with (fail)
                    go_roundw
                    case rel => exact ⟨p + 1, _, by omega, by go_num, HFN, Lib.hid (Q5.out.set_ 1 _), Lib.hid (ownsR_same O5.out fun i hi => Below.heap_setCell _ _ _ i (by obtain ⟨cur, h1, _⟩ := ownsR_blk O5.out hi; exact h1.ne_ Q5.out (by decide))), Lib.hid (K5.out.far (fun e => Nat.ne_of_lt ZH.out e) _), Lib.hid (B5.out.setCell (Nat.le_of_lt ZH.out) _)⟩
                    case measure => simp [intOf]; omega
                | tg =>
                  have hidx2 : ∀ w : World, (Instr.index 9 (.string SO) (.int .i64 (p : Int))).run Tryd.prog w = .ok (.int .u8 116) w := hidx
                  clear hidx
                  by_cases hbig : 65535 < x
                  · have hg : (65535 : Int) < (x : Int) := by omega
                    have hgd : decide ((65535 : Int) < (x : Int)) = true := by simpa using hg
                    have HPN : Hid (PL = none) := Lib.hid (by rw [HFS.out, if_neg (fun h => h.2 ⟨by decide, hbig⟩)])
                    clear hbig
                    go_wp2_with (fail)
                    refine (HRP.out wr).mono ?_
                    rintro e w5 ⟨rfl, rfl⟩
                    go_wp2_with (first | (refine wpList_build_Oq rfl 35 _ rfl oqZ (by kernel_rfl) ?_) | (refine wpList_store_row rfl _ _ _ rfl w.heap.size (cellsOq oqZ) rfl rfl 35 _ K5.out infoOq rfl (cellsOq_one _) ?_))
                    exact rparse_ret rfl rfl rfl (K5.out.setRow _) ⟨by rw [HPD.out, HPN.out]; rfl, below_setRow B5.out (Nat.le_refl _) _⟩
                  · have hg : ¬ (65535 : Int) < (x : Int) := by omega
                    have hgd : decide ((65535 : Int) < (x : Int)) = false := by simpa using hg
                    have HFN : Hid (PL = fillW (ds.drop (p + 1)) (WS.drop (p + 1)) ⟨q.kd, q.ix, (x : Int), q.am⟩) := Lib.hid (by rw [HFS.out, if_pos ⟨rfl, fun h => hbig h.2⟩, Od.set, wI (by omega) (by omega)])
                    have hwx : IntKind.i64.wrap (x : Int) = (x : Int) := wI (by omega) (by omega)
                    clear hbig
                    go_wp2_with (fail)
                    refine (HRP.out wr).mono ?_
                    rintro e w5 ⟨rfl, rfl⟩
                    go_wp2_with (fail)
                    go_roundw
                    case rel => exact ⟨p + 1, _, by omega, by go_num, HFN, Lib.hid (Q5.out.set_ 2 _), Lib.hid (ownsR_same O5.out fun i hi => Below.heap_setCell _ _ _ i (by obtain ⟨cur, h1, _⟩ := ownsR_blk O5.out hi; exact h1.ne_ Q5.out (by decide))), Lib.hid (K5.out.far (fun e => Nat.ne_of_lt ZH.out e) _), Lib.hid (B5.out.setCell (Nat.le_of_lt ZH.out) _)⟩
                    case measure => simp [intOf]; omega
            · obtain rfl : p = m := by omega
              have HPS : Hid (PL = some q) := Lib.hid (by rw [HF.out, List.drop_of_length_le (l := ds) (by rw [HM.out]; exact Nat.le_refl _), fillW])
              clear hpm
              have hpm : ¬ p < p := by omega
              go_wp2_with (first | (refine wpList_load_row rfl 35 _ rfl h rfl 35 (cellsOq q) (0, 0) _ Q5.out Tryd.underlying35 rfl infoOq ?_) | (refine wpList_store_row rfl _ _ _ rfl w.heap.size (cellsOq q) rfl rfl 35 _ K5.out infoOq rfl (cellsOq_one _) ?_))
              exact rparse_ret rfl rfl rfl (K5.out.setRow _) ⟨by rw [HPD.out, HPS.out]; rfl, below_setRow B5.out (Nat.le_refl _) _⟩
        · have hnm : ¬ n = m + 1 := by have := HNN.out; have := HM.out; omega
          have hq1 : ((n : Int) != (m : Int) + 1) = true := by simp; omega
          have hq2 : ((n : Int) == (m : Int) + 1) = false := by simp; omega
          have HNX := Lib.hid (notYet_next HNY.out HDS.out (fun h => hlen h.2))
          clear hnm hlen
          refine headF_takesW (fun w' => w'.cell? ⟨b, j, none⟩ = some (.string (nm j)) ∧ w'.cell? ⟨g, 0, none⟩ = some (.string (bs W0))) (m := 11) (f := 0) [3, 4, 8, 9, 10, 11, 12, 13, 14, 15, 16] (fun _ h => h.2) (by kernel_rfl) ⟨hnc, hw2⟩ ?_
          simp only [List.filterMap_cons, List.filterMap_nil, List.getElem?_toArray, List.getElem?_cons_zero, List.getElem?_cons_succ]
          show wpQuiet _ _ _ _ [_, _, _, _, _, _, _, _, _, _, _] _
          iterate 1 (go_big_quiet_step ((intros; rfl)))
          refine q_cell 9 _ _ (.string (nm j)) rfl rfl rfl (fun w h => by simp [go_sem, h]) (fun w h => by simpa using h.1) ?_
          simp only [Act.put, List.setIfInBounds_toArray, List.set_cons_zero, List.set_cons_succ]
          iterate 9 (go_big_quiet_step ((intros; rfl)))
          refine wpQuiet_nil ?_
          show Region.ready _ _ _ = [] ∧ _
          refine ⟨by kernel_rfl, NoPanic.normal ?_⟩
          clear hnc hw2 hb1 hb2 hq1 hq2 hne
          go_wp2_with (fail)
          go_roundw
          case rel => exact ⟨j + 1, by have := HLT.out; omega, by go_num, HNX, O3, K3, B3⟩
          case measure => have := HLT.out; simp [intOf]; omega
      · have hb1 := str_ne hne
        have hb2 : ((nm j).toList != (bs W0).toList) = true := by simpa using hb1
        have HNX := Lib.hid (notYet_next HNY.out HDS.out (fun h => hne h.1))
        refine headF_takesW (fun w' => w'.cell? ⟨b, j, none⟩ = some (.string (nm j)) ∧ w'.cell? ⟨g, 0, none⟩ = some (.string (bs W0))) (m := 11) (f := 0) [3, 4, 8, 9, 10, 11, 12, 13, 14, 15, 16] (fun _ h => h.2) (by kernel_rfl) ⟨hnc, hw2⟩ ?_
        simp only [List.filterMap_cons, List.filterMap_nil, List.getElem?_toArray, List.getElem?_cons_zero, List.getElem?_cons_succ]
        show wpQuiet _ _ _ _ [_, _, _, _, _, _, _, _, _, _, _] _
        iterate 1 (go_big_quiet_step ((intros; rfl)))
        refine q_cell 9 _ _ (.string (nm j)) rfl rfl rfl (fun w h => by simp [go_sem, h]) (fun w h => by simpa using h.1) ?_
        simp only [Act.put, List.setIfInBounds_toArray, List.set_cons_zero, List.set_cons_succ]
        iterate 9 (go_big_quiet_step ((intros; rfl)))
        refine wpQuiet_nil ?_
        show Region.ready _ _ _ = [] ∧ _
        refine ⟨by kernel_rfl, NoPanic.normal ?_⟩
        clear hnc hw2 hb1 hb2 hne
        go_wp2_with (fail)
        go_roundw
        case rel => exact ⟨j + 1, by have := HLT.out; omega, by go_num, HNX, O3, K3, B3⟩
        case measure => have := HLT.out; simp [intOf]; omega
    · obtain rfl : j = 7 := by omega
      have HPN : Hid (PL = none) := Lib.hid (by rw [HPL.out]; exact notYet_end HNY.out)
      clear hlt
      go_wp2_with (first | (refine wpList_build_Oq rfl 35 _ rfl oqZ (by kernel_rfl) ?_) | (refine wpList_store_row rfl _ _ _ rfl w.heap.size (cellsOq oqZ) rfl rfl 35 _ K2.out infoOq rfl (cellsOq_one _) ?_))
      exact rparse_ret rfl rfl rfl (K2.out.setRow _) ⟨by rw [HPD.out, HPN.out]; rfl, below_setRow B2.out (Nat.le_refl _) _⟩
end Go.Proofs.YtniehmlklbggdaaDoor
