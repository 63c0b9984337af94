/- The reference's Decode. -/
import Derived.Test.YtniehmlklbggdaaDoorRefs
import Derived.Test.YtniehmlklbggdaaDoorRead
import Derived.Test.YtniehmlklbggdaaDoorRes
namespace Go.Proofs.YtniehmlklbggdaaDoor
open Go Go.RowKit
set_option linter.unusedVariables false
set_option linter.unusedSimpArgs false
set_option maxRecDepth 100000

theorem fill_dropR {l : List Od} {j : Nat} {d : Od} (h : l[j]? = some d) {T : List Int} {q : Oq} : fillF (l.drop j) T q = fillF (l.drop (j + 1)) (T.drop d.sz) (d.set q (valL (T.take d.sz))) := by
  obtain ⟨hj, rfl⟩ := List.getElem?_eq_some_iff.1 h
  rw [List.drop_eq_getElem_cons hj, fillF]
theorem below_setC {w wr : World} (h : Below w.heap.size w wr) {f : Nat} {u : Value} : Below w.heap.size w (wr.setCell ⟨w.heap.size + 1, f, none⟩ u) :=
  h.grown (only_setCell (only_refl wr (some (w.heap.size + 1))) (.inl rfl) u) h.size fun i hi => by injection hi with hi; omega
theorem rdec_ret {Q : Ending → World → Prop} {c : Act} {w : World} {g : Nat} {o : Oq} {n : Int} {b : Bool} (h4 : c.tmps.getD 4 undef = .pointer (some ⟨g, 0, none⟩)) (h5 : c.tmps.getD 5 undef = .int .i64 n) (h6 : c.tmps.getD 6 undef = .bool b) (hd : c.defers = []) (hg : Blk w g 35 (cellsOq o))
    (h : Q (.returned (.tuple #[.agg (cellsOq o), .int .i64 n, .bool b])) w) : bodyPost Tryd.prog Tryd.f27 Q .ret c w := by
  refine bodyPost_ret (v := .tuple #[.agg (cellsOq o), .int .i64 n, .bool b]) ?_ hd h
  have := results_cell_row3 (P := Tryd.prog) (fn := Tryd.f27) rfl c.tmps w g 35 (cellsOq o) (0, 0) _ h4 hg Tryd.underlying35 rfl infoOq
  rw [h5, h6] at this
  exact this
theorem refdec_out (a : Option Addr) (len cap : Nat) (at_ : Int) (h : at_ < 0 ∨ (len : Int) ≤ at_) (hl : len ≤ 9223372036854775807) (w : World) :
    Calls Tryd.prog 27 #[.slice a len cap, .int .i64 at_] w fun e w' => e = .returned (.tuple #[.agg (cellsOq oqZ), .int .i64 0, .bool false]) ∧ Below w.heap.size w w' := by
  have B0 : Hid (Below w.heap.size w (w.alloc (.cells (cellsOq oqZ) 35))) := Lib.hid ((Below.refl _ _).alloc (Nat.le_refl _) _)
  by_cases h0 : at_ < 0
  · go_enter Tryd.func27, Tryd.ntmps27
    go_wp2
    exact rdec_ret rfl rfl rfl rfl (Blk.new w _ (cellsOq oqZ)) ⟨rfl, B0.out⟩
  · have h1 : (len : Int) ≤ at_ := by omega
    have hd0 : decide (at_ < 0) = false := by simpa using h0
    go_enter Tryd.func27, Tryd.ntmps27
    go_wp2
    exact rdec_ret rfl rfl rfl rfl (Blk.new w _ (cellsOq oqZ)) ⟨rfl, B0.out⟩
set_option maxHeartbeats 3200000 in
theorem refdec_any (L : List Int) (a : Option Addr) (len cap at_ : Nat) (hl : L.length = len) (hcap : len ≤ cap) (hm : cap ≤ 9223372036854775807) (hat : at_ < len) (hlm : len ≤ 100000) (w : World) (hb : Bys w (fun _ => False) a L) :
    Calls Tryd.prog 27 #[.slice a len cap, .int .i64 at_] w fun e w' => e = .returned (.tuple #[.agg (cellsOq (decS L at_).1), .int .i64 (decS L at_).2, .bool true]) ∧ Below w.heap.size w w' := by
  obtain ⟨blk, off, rfl, _, hblk, hcs⟩ := hb.2 (by omega)
  have HB := Lib.hid hb
  have HL := Lib.hid hl
  have HK := Lib.hid (hb.bd (j := at_) (by omega))
  have hb0 : Below w.heap.size w (w.alloc (.cells (cellsOq oqZ) 35)) := (Below.refl _ _).alloc (Nat.le_refl _) _
  have B0 := Lib.hid hb0
  have HZ : Hid (Blk (w.alloc (.cells (cellsOq oqZ) 35)) w.heap.size 35 (cellsOq oqZ)) := Lib.hid (Blk.new w _ _)
  have hcell : (w.alloc (.cells (cellsOq oqZ) 35)).cell? ⟨blk, off + at_, none⟩ = some (.int .u8 (L.getD at_ 0)) := (hb0.cell (p := ⟨blk, off + at_, none⟩) hblk).trans (hcs at_ (by omega))
  have E0 : Hid ((w.alloc (.cells (cellsOq oqZ) 35)).heap.size = w.heap.size + 1) := Lib.hid (by simp)
  have hx0 : decide ((at_ : Int) < 0) = false := by simp
  have hx2 : decide (len ≤ at_) = false := by simpa using hat
  have HDK : Hid (ods (L.getD at_ 0) = none → (decS L at_).1 = oqZ ∧ (decS L at_).2 = (at_ : Int) + 1) := Lib.hid fun h => by rw [decS_none h]; exact ⟨rfl, rfl⟩
  have HDS : Hid (∀ l, ods (L.getD at_ 0) = some l → szs l + 1 ≤ len - at_ → (decS L at_).1 = fillF l (L.drop (at_ + 1)) ⟨L.getD at_ 0, 0, 0, 0⟩ ∧ (decS L at_).2 = ((at_ + (szs l + 1) : Nat) : Int)) := Lib.hid fun l h h2 => by rw [decS_some h (by rw [HL.out]; exact h2)]; exact ⟨rfl, rfl⟩
  have HDC : Hid (∀ l, ods (L.getD at_ 0) = some l → ¬ szs l + 1 ≤ len - at_ → (decS L at_).1 = oqZ ∧ (decS L at_).2 = (len : Int)) := Lib.hid fun l h h2 => by rw [decS_short h (by rw [HL.out]; exact h2)]; exact ⟨rfl, by rw [HL.out]⟩
  obtain ⟨D1, hD1⟩ : ∃ x, (decS L at_).1 = x := ⟨_, rfl⟩
  obtain ⟨D2, hD2⟩ : ∃ x, (decS L at_).2 = x := ⟨_, rfl⟩
  rw [hD1, hD2] at HDK HDS HDC
  have HD := Lib.hid (And.intro hD1 hD2)
  clear hD1 hD2 hcs hb hb0 hl
  have hkb := HK.out
  generalize L.getD at_ 0 = k at *
  have hwk : IntKind.i64.wrap k = k := by simp [IntKind.wrap, IntKind.bits, IntKind.signed]; omega
  have HSZ := Lib.hid (fun w => refsize_any k w)
  have HKZ : Hid (ods k = none → sizeK k = 0) := Lib.hid fun h => by simp [sizeK, h]
  have HKS : Hid (∀ l, ods k = some l → sizeK k = szs l + 1) := Lib.hid fun l h => by simp [sizeK, h]
  go_enter Tryd.func27, Tryd.ntmps27
  go_upto_region 3 with (fail)
  have EZ : #[Value.int .i64 0, .int .i64 0, .int .i64 0, .int .u64 0] = cellsOq oqZ := rfl
  rw [EZ]
  clear EZ
  generalize w.alloc (.cells (cellsOq oqZ) 35) = W at *
  go_wp2_with (fail)
  refine (HSZ.out W).mono ?_
  rintro e w1 ⟨rfl, rfl⟩
  clear HSZ hcell
  rcases ho : ods k with _ | l
  · rw [HKZ.out ho]
    have HE := Lib.hid (HDK.out ho)
    clear ho HDK HDS HDC HKZ HKS
    go_wp2_with (first | (refine wpList_build_Oq rfl 35 _ rfl oqZ (by kernel_rfl) ?_) | (refine wpList_store_row rfl _ _ _ rfl w.heap.size (cellsOq oqZ) rfl rfl 35 _ HZ.out infoOq rfl (cellsOq_one _) ?_))
    exact rdec_ret rfl rfl rfl rfl (HZ.out.setRow _) ⟨by rw [HD.out.1, HD.out.2, HE.out.1, HE.out.2], below_setRow B0.out (Nat.le_refl _) _⟩
  · rw [HKS.out l ho]
    have HOO := Lib.hid (fun w => refops_yes k l ho w)
    have HI := Lib.hid (ods_some ho)
    have hz0 : ¬ szs l + 1 = 0 := by omega
    have hz10 : szs l + 1 ≤ 11 := by have := HI.out.2.2.1; omega
    by_cases hsz : szs l + 1 ≤ len - at_
    · have HE := Lib.hid (HDS.out l ho hsz)
      have HZZ : Hid (szs l + 1 ≤ len - at_) := Lib.hid hsz
      obtain ⟨n, hn⟩ : ∃ n, l.length = n := ⟨_, rfl⟩
      have HN := Lib.hid hn
      have hn2 : n ≤ 2 := by rw [← hn]; exact HI.out.2.2.2
      have HX : Hid (∀ (j : Nat) (d : Od), l[j]? = some d → ∀ w : World, (Instr.index 9 (.string (strL l)) (.int .i64 (j : Int))).run Tryd.prog w = .ok (.int .u8 (d.ch.toNat : Int)) w) := Lib.hid fun j d hd w => strL_at hd w
      have hsS : (strL l).size = n := by rw [strL_size, hn]
      have hlt0 : ¬ ((len : Int) - (at_ : Int) < ((szs l + 1 : Nat) : Int)) := by omega
      obtain ⟨z, hz⟩ : ∃ z, szs l + 1 = z := ⟨_, rfl⟩
      have HZE := Lib.hid hz
      rw [hz] at hz0 hz10 hlt0 ⊢
      generalize strL l = S at *
      clear ho hn hsz hz HDK HDS HDC HKZ HKS hkb
      go_upto_region 11 with (first | (refine wpList_build_Oq rfl 35 _ rfl ⟨k, 0, 0, 0⟩ (by kernel_rfl) ?_) | (refine wpList_store_row rfl _ _ _ rfl W.heap.size (cellsOq ⟨k, 0, 0, 0⟩) rfl rfl 35 _ (heap_alloc_new W _) infoOq rfl (cellsOq_one _) ?_; rw [World.setRow_alloc_new]))
      have K2 : Hid (Blk (W.alloc (.cells (cellsOq ⟨k, 0, 0, 0⟩) 35)) W.heap.size 35 (cellsOq ⟨k, 0, 0, 0⟩)) := Lib.hid (Blk.new W _ _)
      have B2 := Lib.hid (B0.out.alloc B0.out.size (.cells (cellsOq ⟨k, 0, 0, 0⟩) 35))
      have Z2 := Lib.hid (HZ.out.alloc (.cells (cellsOq ⟨k, 0, 0, 0⟩) 35))
      rw [E0.out] at K2 ⊢
      clear B0 HZ
      generalize W.alloc (.cells (cellsOq ⟨k, 0, 0, 0⟩) 35) = w2 at *
      go_wp2_with (fail)
      refine (HOO.out w2).mono ?_
      rintro e w3 ⟨rfl, rfl⟩
      clear HOO
      go_wp2_with (fail)
      go_loopw [10, 12] (fun p i wr => ∃ (j nx : Nat) (q : Oq), j ≤ n ∧ i = .int .i64 j ∧ p = .int .i64 nx ∧ Hid (Blk wr (w.heap.size + 1) 35 (cellsOq q)) ∧ Hid (Blk wr w.heap.size 35 (cellsOq oqZ)) ∧ Hid (fillF (l.drop j) (L.drop nx) q = D1) ∧ Hid (nx + szs (l.drop j) = at_ + 1 + szs l) ∧ Hid (Below w.heap.size w wr)) (fun _ i _ => n - (intOf i).toNat)
      case atStart => exact ⟨0, at_ + 1, ⟨k, 0, 0, 0⟩, by omega, rfl, by go_num, K2, Z2, Lib.hid HE.out.1.symm, Lib.hid rfl, B2⟩
      case round =>
        clear K2 Z2 B2
        obtain ⟨j, nx, q, hj, rfl, rfl, K4, H4, F4, Z4, B4⟩ := hrel
        by_cases hlt : j < n
        · obtain ⟨d, hd⟩ : ∃ d, l[j]? = some d := ⟨_, List.getElem?_eq_getElem (by rw [HN.out]; exact hlt)⟩
          have hidx := HX.out j d hd
          have HDD := Lib.hid hd
          have hzt : at_ + 1 + szs l ≤ len := by have := HZZ.out; omega
          clear hd HX
          cases d with
        | ix =>
          have hidx2 : ∀ w : World, (Instr.index 9 (.string S) (.int .i64 (j : Int))).run Tryd.prog w = .ok (.int .u8 105) w := hidx
          have hx : wr.cell? ⟨w.heap.size + 1, 1, none⟩ = some (.int .i64 q.ix) := K4.out.cell 1
          have hxf : wr.frozen? ⟨w.heap.size + 1, 1, none⟩ = false := K4.out.frozen 1
          have hnx : nx + 2 ≤ len := by have := Z4.out; rw [szs_dropR HDD.out] at this; simp only [Od.sz] at this; omega
          have hcn : ¬ cap = nx := by omega
          obtain ⟨ex, hex⟩ : ∃ ex, nx + 2 = ex := ⟨_, rfl⟩
          have hexi : (nx : Int) + 2 = (ex : Int) := by omega
          have hee : ex - nx = 2 := by omega
          have hel : ex ≤ len := by omega
          have hec : ex ≤ cap := by omega
          have hne : nx ≤ ex := by omega
          have HBV : Hid (Bys wr (fun _ => False) (some ⟨blk, off + nx, none⟩) ((L.drop nx).take 2)) := Lib.hid (((HB.out.below B4.out).drop (b := blk) (off := off) nx (fun _ => rfl)).take 2)
          have HLV : Hid (((L.drop nx).take 2).length = 2) := Lib.hid (by rw [List.length_take, List.length_drop, HL.out]; omega)
          have FN : Hid (fillF (l.drop (j + 1)) (L.drop ex) (Od.ix.set q (valL ((L.drop nx).take 2))) = D1) := Lib.hid (by rw [← F4.out, fill_dropR HDD.out, List.drop_drop, ← hex]; rfl)
          have ZN : Hid (ex + szs (l.drop (j + 1)) = at_ + 1 + szs l) := Lib.hid (by have := Z4.out; rw [szs_dropR HDD.out] at this; simp only [Od.sz] at this; omega)
          have HVA := Lib.hid (value_any (some ⟨blk, off + nx, none⟩) ((L.drop nx).take 2) 2 (cap - nx) wr HLV.out (by omega) HBV.out)
          generalize valL ((L.drop nx).take 2) = v at *
          obtain ⟨g, hg⟩ : ∃ g, IntKind.i64.wrap v = g := ⟨_, rfl⟩
          have HG := Lib.hid hg
          clear hidx hex hnx HBV HLV F4
          go_wp2_with (fail)
          refine HVA.out.mono ?_
          rintro e w5 ⟨rfl, rfl⟩
          clear HVA
          go_wp2_with (fail)
          refine ⟨⟨j + 1, ex, Od.ix.set q v, by omega, by go_num, rfl, Lib.hid ?_, Lib.hid (H4.out.far (by simp) _), FN, ZN, Lib.hid (below_setC B4.out)⟩, ?_⟩
          · have := K4.out.set_ 1 (.int .i64 g)
            exact (by rw [show Od.ix.set q v = _ from rfl]; simp only [Od.set, HG.out]; exact this)
          · simp [intOf]; omega
        | tg =>
          have hidx2 : ∀ w : World, (Instr.index 9 (.string S) (.int .i64 (j : Int))).run Tryd.prog w = .ok (.int .u8 116) w := hidx
          have hx : wr.cell? ⟨w.heap.size + 1, 2, none⟩ = some (.int .i64 q.tg) := K4.out.cell 2
          have hxf : wr.frozen? ⟨w.heap.size + 1, 2, none⟩ = false := K4.out.frozen 2
          have hnx : nx + 2 ≤ len := by have := Z4.out; rw [szs_dropR HDD.out] at this; simp only [Od.sz] at this; omega
          have hcn : ¬ cap = nx := by omega
          obtain ⟨ex, hex⟩ : ∃ ex, nx + 2 = ex := ⟨_, rfl⟩
          have hexi : (nx : Int) + 2 = (ex : Int) := by omega
          have hee : ex - nx = 2 := by omega
          have hel : ex ≤ len := by omega
          have hec : ex ≤ cap := by omega
          have hne : nx ≤ ex := by omega
          have HBV : Hid (Bys wr (fun _ => False) (some ⟨blk, off + nx, none⟩) ((L.drop nx).take 2)) := Lib.hid (((HB.out.below B4.out).drop (b := blk) (off := off) nx (fun _ => rfl)).take 2)
          have HLV : Hid (((L.drop nx).take 2).length = 2) := Lib.hid (by rw [List.length_take, List.length_drop, HL.out]; omega)
          have FN : Hid (fillF (l.drop (j + 1)) (L.drop ex) (Od.tg.set q (valL ((L.drop nx).take 2))) = D1) := Lib.hid (by rw [← F4.out, fill_dropR HDD.out, List.drop_drop, ← hex]; rfl)
          have ZN : Hid (ex + szs (l.drop (j + 1)) = at_ + 1 + szs l) := Lib.hid (by have := Z4.out; rw [szs_dropR HDD.out] at this; simp only [Od.sz] at this; omega)
          have HVA := Lib.hid (value_any (some ⟨blk, off + nx, none⟩) ((L.drop nx).take 2) 2 (cap - nx) wr HLV.out (by omega) HBV.out)
          generalize valL ((L.drop nx).take 2) = v at *
          obtain ⟨g, hg⟩ : ∃ g, IntKind.i64.wrap v = g := ⟨_, rfl⟩
          have HG := Lib.hid hg
          clear hidx hex hnx HBV HLV F4
          go_wp2_with (fail)
          refine HVA.out.mono ?_
          rintro e w5 ⟨rfl, rfl⟩
          clear HVA
          go_wp2_with (fail)
          refine ⟨⟨j + 1, ex, Od.tg.set q v, by omega, by go_num, rfl, Lib.hid ?_, Lib.hid (H4.out.far (by simp) _), FN, ZN, Lib.hid (below_setC B4.out)⟩, ?_⟩
          · have := K4.out.set_ 2 (.int .i64 g)
            exact (by rw [show Od.tg.set q v = _ from rfl]; simp only [Od.set, HG.out]; exact this)
          · simp [intOf]; omega
        | am =>
          have hidx2 : ∀ w : World, (Instr.index 9 (.string S) (.int .i64 (j : Int))).run Tryd.prog w = .ok (.int .u8 97) w := hidx
          have hx : wr.cell? ⟨w.heap.size + 1, 3, none⟩ = some (.int .u64 q.am) := K4.out.cell 3
          have hxf : wr.frozen? ⟨w.heap.size + 1, 3, none⟩ = false := K4.out.frozen 3
          have hnx : nx + 8 ≤ len := by have := Z4.out; rw [szs_dropR HDD.out] at this; simp only [Od.sz] at this; omega
          have hcn : ¬ cap = nx := by omega
          obtain ⟨ex, hex⟩ : ∃ ex, nx + 8 = ex := ⟨_, rfl⟩
          have hexi : (nx : Int) + 8 = (ex : Int) := by omega
          have hee : ex - nx = 8 := by omega
          have hel : ex ≤ len := by omega
          have hec : ex ≤ cap := by omega
          have hne : nx ≤ ex := by omega
          have HBV : Hid (Bys wr (fun _ => False) (some ⟨blk, off + nx, none⟩) ((L.drop nx).take 8)) := Lib.hid (((HB.out.below B4.out).drop (b := blk) (off := off) nx (fun _ => rfl)).take 8)
          have HLV : Hid (((L.drop nx).take 8).length = 8) := Lib.hid (by rw [List.length_take, List.length_drop, HL.out]; omega)
          have FN : Hid (fillF (l.drop (j + 1)) (L.drop ex) (Od.am.set q (valL ((L.drop nx).take 8))) = D1) := Lib.hid (by rw [← F4.out, fill_dropR HDD.out, List.drop_drop, ← hex]; rfl)
          have ZN : Hid (ex + szs (l.drop (j + 1)) = at_ + 1 + szs l) := Lib.hid (by have := Z4.out; rw [szs_dropR HDD.out] at this; simp only [Od.sz] at this; omega)
          have HVA := Lib.hid (value_any (some ⟨blk, off + nx, none⟩) ((L.drop nx).take 8) 8 (cap - nx) wr HLV.out (by omega) HBV.out)
          generalize valL ((L.drop nx).take 8) = v at *
          clear hidx hex hnx HBV HLV F4
          go_wp2_with (fail)
          refine HVA.out.mono ?_
          rintro e w5 ⟨rfl, rfl⟩
          clear HVA
          go_wp2_with (fail)
          refine ⟨⟨j + 1, ex, Od.am.set q v, by omega, by go_num, rfl, Lib.hid ?_, Lib.hid (H4.out.far (by simp) _), FN, ZN, Lib.hid (below_setC B4.out)⟩, ?_⟩
          · have := K4.out.set_ 3 (.int .u64 v)
            exact this
          · simp [intOf]; omega
        · obtain rfl : j = n := by omega
          clear hlt
          have hlt : ¬ j < j := by omega
          have HQ : Hid (q = D1) := Lib.hid (by
            have := F4.out
            rwa [List.drop_of_length_le (by rw [HN.out]; exact Nat.le_refl _), fillF] at this)
          have HNX : Hid ((nx : Int) = D2) := Lib.hid (by
            have := Z4.out
            rw [List.drop_of_length_le (by rw [HN.out]; exact Nat.le_refl _), szs] at this
            rw [HE.out.2]; omega)
          clear F4 Z4
          go_wp2_with (first | (refine wpList_load_row rfl 35 _ rfl (w.heap.size + 1) rfl 35 (cellsOq q) (0, 0) _ K4.out Tryd.underlying35 rfl infoOq ?_) | (refine wpList_store_row rfl _ _ _ rfl w.heap.size (cellsOq q) rfl rfl 35 _ H4.out infoOq rfl (cellsOq_one _) ?_))
          exact rdec_ret rfl rfl rfl rfl (H4.out.setRow _) ⟨by rw [HD.out.1, HD.out.2, HQ.out, ← HNX.out], below_setRow B4.out (Nat.le_refl _) _⟩
    · have HE := Lib.hid (HDC.out l ho hsz)
      have hlt0 : ((len : Int) - (at_ : Int) < ((szs l + 1 : Nat) : Int)) := by omega
      clear ho HDK HDS HDC HKZ HKS hsz HOO
      generalize szs l + 1 = z at *
      go_wp2_with (first | (refine wpList_build_Oq rfl 35 _ rfl oqZ (by kernel_rfl) ?_) | (refine wpList_store_row rfl _ _ _ rfl w.heap.size (cellsOq oqZ) rfl rfl 35 _ HZ.out infoOq rfl (cellsOq_one _) ?_))
      exact rdec_ret rfl rfl rfl rfl (HZ.out.setRow _) ⟨by rw [HD.out.1, HD.out.2, HE.out.1, HE.out.2], below_setRow B0.out (Nat.le_refl _) _⟩
end Go.Proofs.YtniehmlklbggdaaDoor
