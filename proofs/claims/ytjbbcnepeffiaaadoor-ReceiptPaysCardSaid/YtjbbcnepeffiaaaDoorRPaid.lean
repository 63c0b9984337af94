/- Paid, the reference's. -/
import Derived.Test.YtjbbcnepeffiaaaDoorPaid
import Derived.Test.YtjbbcnepeffiaaaDoorAppend
import Derived.Test.YtjbbcnepeffiaaaDoorStructs
namespace Go.Proofs.YtjbbcnepeffiaaaDoor
open Go Go.RowKit Go.Deep
set_option linter.unusedVariables false
set_option linter.unusedSimpArgs false
set_option maxRecDepth 100000

/-- A slice of amounts of one's own. -/
def OwnU (w : World) (B : Nat) (v : Value) (L : List Int) : Prop := w.ownsRow B 33 1 v L.length (L.map (Value.int .u64))
theorem appU : ∃ i, Tryd.prog.info? 33 = some i ∧ i.zero = some (.int .u64 0) ∧ i.size = 1 ∧ i.bytes = 8 := by
  have h : (Tryd.prog.info? 33).map (fun i => (i.zero, i.size, i.bytes)) = some (some (.int .u64 0), 1, 8) := by kernel_rfl
  cases hi : Tryd.prog.info? 33 with
  | none => rw [hi] at h; cases h
  | some i =>
    rw [hi] at h
    simp at h
    exact ⟨i, rfl, h.1, h.2.1, h.2.2⟩
theorem sumTo_take (L : List Int) : ∀ k, sumTo L k = sI (L.take k)
  | 0 => rfl
  | k + 1 => by
    rw [sumTo, sumTo_take L k]
    rcases Nat.lt_or_ge k L.length with h | h
    · rw [List.take_add_one, List.getElem?_eq_getElem h, sI_append, List.getD_eq_getElem?_getD, List.getElem?_eq_getElem h]
      simp [sI]
    · rw [List.take_of_length_le (by omega), List.take_of_length_le (by omega), List.getD_eq_getElem?_getD, List.getElem?_eq_none h]
      simp
theorem refadd_any (B : Nat) (v : Value) (L : List Int) (w : World) (h : OwnU w B v L) (hz : ∀ x ∈ L, 0 ≤ x ∧ x ≤ 18446744073709551615) :
    Calls Tryd.prog 25 #[v] w fun e w' => e = .returned (.tuple #[.int .u64 (if sI L ≤ 18446744073709551615 then sI L else 0), .bool (decide (sI L ≤ 18446744073709551615))]) ∧ Below w.heap.size w w' := by
  have hs : sumTo L L.length = sI L := by rw [sumTo_take, List.take_length]
  have e1 : addQ L L.length = if sI L ≤ 18446744073709551615 then sI L else 0 := by unfold addQ; rw [hs]
  have e2 : addOk L L.length = decide (sI L ≤ 18446744073709551615) := by unfold addOk; rw [hs]
  rw [← e1, ← e2]
  have hW : OwnU w B v L := h
  rcases h.2 with ⟨rfl, h0⟩ | ⟨g, cp, cur, rfl, h1, h2, h3, h4, h5⟩
  · have hl : L = [] := List.eq_nil_of_length_eq_zero h0
    subst hl
    exact (refadd_none none 0 w).mono fun e w' ⟨a, b⟩ => ⟨a, b ▸ Below.refl _ _⟩
  · refine (refadd_row g 0 L.length cp L w (by unfold maxLen at h4; omega) (fun i hi => ?_) (fun i => ?_)).mono fun e w' ⟨a, n, b⟩ => ⟨a, by rw [b]; exact below_drewN (Below.refl _ _) n⟩
    · have := hW.cells (g := g) rfl i (.int .u64 (L.getD i 0)) (by rw [List.getElem?_map, List.getD_eq_getElem?_getD, List.getElem?_eq_getElem hi]; rfl)
      rwa [add_plain] at this
    · rw [List.getD_eq_getElem?_getD]
      rcases Nat.lt_or_ge i L.length with hi | hi
      · rw [List.getElem?_eq_getElem hi]
        exact hz _ (List.getElem_mem hi)
      · rw [List.getElem?_eq_none hi]
        exact ⟨by simp, by simp⟩
theorem amsL_len {w : World} {l : List Rc} {P : List (List Pm)} (h : PaysAt w l P) (hl : l.length ≤ 1000) {k : Nat} {p : List Pm} (hp : P[k]? = some p) (j : Nat) : (amsL (P.take k) ++ amL (p.take j)).length ≤ 2000000 := by
  have h1 : ∀ k, (amsL (P.take k)).length ≤ k * 1000 := by
    intro k
    induction k with
    | zero => simp [amsL]
    | succ k ih =>
      rcases Nat.lt_or_ge k P.length with hk | hk
      · have hq := List.getElem?_eq_getElem hk
        rw [amsL_snoc hq, List.length_append]
        have := (h.2 k _ _ (List.getElem?_eq_getElem (by rw [← h.1]; exact hk)) hq).2
        simp only [amL, List.length_map]
        omega
      · rw [List.take_of_length_le (by omega)] at ih ⊢
        omega
  have hk : k < P.length := (List.getElem?_eq_some_iff.1 hp).1
  have hk2 : k < l.length := by rw [← h.1]; exact hk
  have h2 := h1 k
  have h3 := (h.2 k _ p (List.getElem?_eq_getElem hk2) hp).2
  have h4 : (p.take j).length ≤ p.length := List.length_take_le' _ _
  simp only [List.length_append, amL, List.length_map]
  omega
set_option maxHeartbeats 3200000 in
theorem refpaid_any (a : Option Addr) (n c : Nat) (l : List Rc) (P : List (List Pm)) (w : World) (hl : LstR Rc.row 9 w (fun _ => False) a l) (hn : l.length = n) (hP : PaysAt w l P) (hb : n ≤ 1000) :
    Calls Tryd.prog 17 #[.slice a n c] w fun e w' => e = .returned (.tuple #[.int .u64 (paidQ P), .bool (paidOk P)]) ∧ Below w.heap.size w w' := by
  have HL := Lib.hid hl
  have HN := Lib.hid hn
  have HP := Lib.hid hP
  have HB := Lib.hid hb
  obtain ⟨i0, hi0, hz0, hs0, hb0⟩ := appU
  clear hl hn hP
  go_enter Tryd.func17, Tryd.ntmps17
  go_wp2
  go_loopw [4, 5] (fun v i wr => ∃ k : Nat, k ≤ n ∧ i = .int .i64 k ∧ Hid (OwnU wr w.heap.size v (amsL (P.take k))) ∧ Hid (Below w.heap.size w wr)) (fun _ i _ => n - (intOf i).toNat)
  case atStart => exact ⟨0, by omega, rfl, Lib.hid ⟨rfl, .inl ⟨rfl, rfl⟩⟩, Lib.hid (Below.refl _ _)⟩
  case round =>
    obtain ⟨k, hk, rfl, O0, B0⟩ := hrel
    by_cases hlt : k < n
    · obtain ⟨v, hv⟩ : ∃ v, l[k]? = some v := ⟨_, List.getElem?_eq_getElem (by rw [HN.out]; exact hlt)⟩
      obtain ⟨p, hp⟩ : ∃ p, P[k]? = some p := ⟨_, List.getElem?_eq_getElem (by rw [HP.out.1, HN.out]; exact hlt)⟩
      obtain ⟨⟨la, hr⟩, hpl⟩ := HP.out.2 k v p hv hp
      obtain ⟨b, off, rfl, _, hbl, hrg⟩ := HL.out.at hv
      have HR := Lib.hid hr
      have HPK := Lib.hid hp
      obtain ⟨pa, hpa⟩ : ∃ pa, v.pa = pa := ⟨_, rfl⟩
      obtain ⟨pn, hpn⟩ : ∃ pn, v.pn = pn := ⟨_, rfl⟩
      obtain ⟨pc, hpc⟩ : ∃ pc, v.pc = pc := ⟨_, rfl⟩
      have HC : Hid (∀ w', Below w.heap.size w w' → w'.cell? ⟨b, off + k * 9 + 7, none⟩ = some (.slice pa pn pc)) := Lib.hid (fun w' hb => by
        rw [← hpa, ← hpn, ← hpc]
        exact rangeAt_same hrg (hb.block b hbl) 7 _ rfl)
      have HLP : Hid (LstR Pm.row 3 w (fun _ => False) pa p ∧ p.length = pn) := Lib.hid ⟨by rw [← hpa]; exact hr.pay, by rw [← hpn]; exact hr.pn⟩
      have hpnb : pn ≤ 1000 := by rw [← HLP.out.2]; exact hpl
      have O1 : Hid (OwnU wr w.heap.size _ (amsL (P.take k) ++ amL (p.take 0))) := Lib.hid (by simpa [amL] using O0.out)
      clear hrg hr hv hp hpa hpn hpc hpl hbl O0
      go_wp2_with (fail)
      go_loopw [4, 6] (fun v i wr => ∃ j : Nat, j ≤ pn ∧ i = .int .i64 j ∧ Hid (OwnU wr w.heap.size v (amsL (P.take k) ++ amL (p.take j))) ∧ Hid (Below w.heap.size w wr)) (fun _ i _ => pn - (intOf i).toNat)
      case atStart => exact ⟨0, by omega, rfl, O1, B0⟩
      case round =>
        clear O1 B0
        obtain ⟨j, hj, rfl, O2, B2⟩ := hrel
        have cS := HC.out _ B2.out
        by_cases hjl : j < pn
        · obtain ⟨x, hx⟩ : ∃ x, p[j]? = some x := ⟨_, List.getElem?_eq_getElem (by rw [HLP.out.2]; exact hjl)⟩
          obtain ⟨pb, po, rfl, _, hbl, hrg⟩ := HLP.out.1.at hx
          have cA : wr.cell? ⟨pb, po + j * 3 + 1, none⟩ = some (.int .u64 x.am) := rangeAt_same hrg (B2.out.block pb hbl) 1 _ rfl
          have HX := Lib.hid hx
          have HLE := Lib.hid (amsL_len HP.out (by rw [HN.out]; exact HB.out) HPK.out j)
          have O3 : Hid ((wr.alloc (.cells #[.int .u64 x.am] 33)).ownsRow w.heap.size 33 1 _ (amsL (P.take k) ++ amL (p.take j)).length ((amsL (P.take k) ++ amL (p.take j)).map (Value.int .u64))) := Lib.hid (O2.out.alloc _)
          have B3 : Hid (Below w.heap.size w (wr.alloc (.cells #[.int .u64 x.am] 33))) := Lib.hid (B2.out.alloc B2.out.size _)
          have BK : Hid (Blk (wr.alloc (.cells #[.int .u64 x.am] 33)) wr.heap.size 33 #[.int .u64 x.am]) := Lib.hid (Blk.new _ _ _)
          have HSZ := Lib.hid B3.out.size
          have HE : Hid (amsL (P.take k) ++ amL (p.take (j + 1)) = (amsL (P.take k) ++ amL (p.take j)) ++ [x.am]) := Lib.hid (by rw [amL_snoc hx, List.append_assoc])
          obtain ⟨L1, hL1⟩ : ∃ L1, amsL (P.take k) ++ amL (p.take (j + 1)) = L1 := ⟨_, rfl⟩
          rw [hL1] at HE
          have HL1 := Lib.hid hL1
          clear hrg hx hbl hL1 O2
          generalize amsL (P.take k) ++ amL (p.take j) = L0 at *
          go_wp2_with (at_builtin; refine wpList_append_src _ rfl _ _ 55 rfl w.heap.size 33 i0 (.int .u64 0) 1 8 Tryd.underlying55 hi0 hz0 hs0 hb0 rfl (by decide) _ L0.length (L0.map (Value.int .u64)) rfl O3.out (some ⟨wr.heap.size, 0, none⟩) 1 1 [.int .u64 x.am] rfl rfl (fun _ => ⟨_, rfl, fun q u hq => by rw [add_plain, BK.out.cell]; simpa using hq⟩) (fun u hu => by rw [List.mem_singleton.1 hu]; rfl) (by have := HLE.out; unfold maxLen; omega) (by have := HLE.out; omega) HSZ.out ?_)
          intro v' w4 ho hg _
          have O4 : Hid (OwnU w4 w.heap.size v' L1) := Lib.hid (by rw [HE.out]; unfold OwnU; simpa using ho)
          have B4 : Hid (Below w.heap.size w w4) := Lib.hid (B3.out.grown hg HSZ.out (fun q hq => (O3.out.lt q hq).1))
          clear ho hg cS cA O3 B3 BK B2 HSZ
          go_wp2
          go_roundw
          case rel => exact ⟨j + 1, by omega, by go_num, by rw [HL1.out]; exact O4, B4⟩
          case measure => simp [intOf]; omega
        · obtain rfl : j = pn := by omega
          have HE : Hid (amsL (P.take (k + 1)) = amsL (P.take k) ++ amL (p.take j)) := Lib.hid (by rw [amsL_snoc HPK.out, List.take_of_length_le (l := p) (by rw [HLP.out.2]; exact Nat.le_refl _)])
          clear hjl
          have hjl : ¬ j < j := by omega
          go_wp2_with (fail)
          go_roundw
          case rel => exact ⟨k + 1, by omega, by go_num, by rw [HE.out]; exact O2, B2⟩
          case measure => simp [intOf]; omega
    · obtain rfl : k = n := by omega
      have O5 : Hid (OwnU wr w.heap.size _ (amsL P)) := Lib.hid (by
        have h := O0.out
        rwa [List.take_of_length_le (by rw [HP.out.1, HN.out]; exact Nat.le_refl _)] at h)
      have HNN := Lib.hid (ams_nonneg HP.out)
      clear hlt O0
      have hlt : ¬ k < k := by omega
      go_wp2_with (fail)
      refine (refadd_any _ _ (amsL P) wr O5.out HNN.out).mono ?_
      rintro e w6 ⟨rfl, b6⟩
      have B6 := Lib.hid (B0.out.trans (b6.mono B0.out.size))
      have HQ : Hid ((if sI (amsL P) ≤ 18446744073709551615 then sI (amsL P) else 0) = paidQ P ∧ decide (sI (amsL P) ≤ 18446744073709551615) = paidOk P) := Lib.hid ⟨rfl, rfl⟩
      rw [HQ.out.1, HQ.out.2]
      clear b6 HQ
      go_wp2_with (fail)
      go_ret2
      exact ⟨rfl, B6.out⟩
end Go.Proofs.YtjbbcnepeffiaaaDoor
