/- The reference's log in memory; first (written by mkrf1.py). -/
import Derived.Test.YthnhpmeacboljaaPayL
namespace Go.Proofs.Ythnhpmeacboljaa
open Go Go.RowKit Go.Deep
set_option linter.unusedVariables false
set_option linter.unusedSimpArgs false
set_option maxRecDepth 100000

def cellsRL (oa : Option Addr) (n oc : Nat) (ra : Option Addr) (rc : Nat) : Array Value := #[.slice oa n oc, .slice ra n rc]
/-- The reference's log at block rb. -/
structure RLg (w : World) (rb : Nat) (L : List Ev) (oa : Option Addr) (oc : Nat) (ra : Option Addr) (rc : Nat) : Prop where
  blk : Blk w rb 68 (cellsRL oa L.length oc ra rc)
  ops : LstR Oq.row 4 w (fun _ => False) oa (L.map (·.o))
  rcs : LstR Rc.row 9 w (fun _ => False) ra (L.map (·.r))
  at_ : ∀ e ∈ L, RcAt w (fun _ => False) e.r e.la e.lp
def RLogAt (w : World) (rb : Nat) (L : List Ev) : Prop := ∃ oa oc ra rc, RLg w rb L oa oc ra rc
section
variable {w w' : World} {rb : Nat} {L : List Ev} {oa ra : Option Addr} {oc rc : Nat}
theorem RLg.below (h : RLg w rb L oa oc ra rc) (hb : Below w.heap.size w w') : RLg w' rb L oa oc ra rc :=
  ⟨h.blk.below hb h.blk.lt, h.ops.below hb, h.rcs.below hb, fun e he => (h.at_ e he).below hb⟩
theorem RLogAt.below (h : RLogAt w rb L) (hb : Below w.heap.size w w') : RLogAt w' rb L := by
  obtain ⟨oa, oc, ra, rc, h⟩ := h
  exact ⟨oa, oc, ra, rc, h.below hb⟩
/-- An operation's and a receipt's cells. -/
theorem RLg.op (h : RLg w rb L oa oc ra rc) {k : Nat} {e : Ev} (hk : L[k]? = some e) : ∃ g off, oa = some ⟨g, off, none⟩ ∧ w.rangeAt g (off + k * 4) e.o.row := by
  obtain ⟨g, off, h1, _, _, h4⟩ := h.ops.at (i := k) (v := e.o) (by rw [List.getElem?_map, hk]; rfl)
  exact ⟨g, off, h1, h4⟩
theorem RLg.rcp (h : RLg w rb L oa oc ra rc) {k : Nat} {e : Ev} (hk : L[k]? = some e) : ∃ g off, ra = some ⟨g, off, none⟩ ∧ w.rangeAt g (off + k * 9) e.r.row := by
  obtain ⟨g, off, h1, _, _, h4⟩ := h.rcs.at (i := k) (v := e.r) (by rw [List.getElem?_map, hk]; rfl)
  exact ⟨g, off, h1, h4⟩
end
theorem range0 {w : World} {g off : Nat} {cs : List Value} {v : Value} (h : w.rangeAt g off cs) (hv : cs[0]? = some v) : w.cell? ⟨g, off, none⟩ = some v := h 0 v hv
set_option maxHeartbeats 3200000 in
theorem first_any (rb : Nat) (L : List Ev) (i : Int) (w : World) (h : RLogAt w rb L) (hl : L.length ≤ 1000000) :
    Calls Try.prog 28 #[.pointer (some ⟨rb, 0, none⟩), .int .i64 i] w fun e w' => e = .returned (.int .i64 (firstZ L i)) ∧ w = w' := by
  obtain ⟨oa, oc, ra, rc, hL⟩ := h
  have HL := Lib.hid hL
  clear hL
  obtain ⟨n, hn⟩ : ∃ n, L.length = n := ⟨_, rfl⟩
  have HN := Lib.hid hn
  have y0 : w.cell? ⟨rb, 0, none⟩ = some (.slice oa n oc) := by rw [← hn]; exact HL.out.blk.cell 0
  have y1 : w.cell? ⟨rb, 1, none⟩ = some (.slice ra n rc) := by rw [← hn]; exact HL.out.blk.cell 1
  rw [hn] at hl
  clear hn
  go_enter Try.func28, Try.ntmps28
  go_wp2_with (fail)
  go_loopw [5] (fun s5 wr => ∃ k : Nat, k ≤ n ∧ s5 = .int .i64 k ∧ Hid (∀ (j : Nat) (e : Ev), j < k → L[j]? = some e → recB i e = false) ∧ w = wr) (fun s5 _ => n - (intOf s5).toNat)
  case atStart => exact ⟨0, by omega, rfl, Lib.hid (fun j e hj => by omega), rfl⟩
  case round =>
    obtain ⟨k, hk, rfl, HP, rfl⟩ := hrel
    by_cases hlt : k < n
    · obtain ⟨e, he⟩ : ∃ e, L[k]? = some e := ⟨_, List.getElem?_eq_getElem (by rw [HN.out]; exact hlt)⟩
      have HE := Lib.hid he
      obtain ⟨g1, o1, h1, r1⟩ := HL.out.op he
      obtain ⟨g2, o2, h2, r2⟩ := HL.out.rcp he
      subst h1 h2
      have hki : (0 : Int) ≤ (k : Int) := by omega
      have hkn : (k : Int) < (n : Int) := by omega
      have hk1 : ¬ (k : Int) < 0 := by omega
      have hk2 : ¬ (n : Int) ≤ (k : Int) := by omega
      have x0 : w.cell? ⟨g1, o1 + k * 4, none⟩ = some (.int .i64 e.o.kd) := range0 r1 rfl
      have x1 : w.cell? ⟨g2, o2 + k * 9 + 1, none⟩ = some (.int .i64 e.r.cd) := r2 1 _ rfl
      have x2 : w.cell? ⟨g2, o2 + k * 9 + 2, none⟩ = some (.int .i64 e.r.ix) := r2 2 _ rfl
      have HR : Hid (recB i e = (decide (e.r.cd = 0) && decide (e.r.ix = i) && (clsK e.o.kd).isSome)) := Lib.hid rfl
      clear he r1 r2
      generalize e.o.kd = kd at *
      generalize e.r.cd = cd at *
      generalize e.r.ix = ix at *
      by_cases d1 : cd = 0
      · subst d1
        by_cases d2 : ix = i
        · have d2' := d2.symm
          subst d2'
          by_cases d3 : kd = 2
          · subst d3

            have HT : Hid (recB i e = true) := Lib.hid (by rw [HR.out]; simp [clsK, *])
            clear HR
            go_wp2_with (fail)
            go_ret
            refine ⟨?_, rfl⟩
            exact ret_int (firstZ_some HE.out HT.out HP.out).1.symm
          · have b3 : (kd == 2) = false := by simpa using d3
            by_cases d4 : kd = 3
            · subst d4

              have HT : Hid (recB i e = true) := Lib.hid (by rw [HR.out]; simp [clsK, *])
              clear HR
              go_wp2_with (fail)
              go_ret
              refine ⟨?_, rfl⟩
              exact ret_int (firstZ_some HE.out HT.out HP.out).1.symm
            · have b4 : (kd == 3) = false := by simpa using d4
              by_cases d5 : kd = 4
              · subst d5

                have HT : Hid (recB i e = true) := Lib.hid (by rw [HR.out]; simp [clsK, *])
                clear HR
                go_wp2_with (fail)
                go_ret
                refine ⟨?_, rfl⟩
                exact ret_int (firstZ_some HE.out HT.out HP.out).1.symm
              · have b5 : (kd == 4) = false := by simpa using d5

                have HT : Hid (recB i e = false) := Lib.hid (by rw [HR.out]; simp [clsK, *])
                clear HR
                go_wp2_with (fail)
                go_roundw
                case rel =>
                  refine ⟨k + 1, by omega, by go_num, Lib.hid (fun j e' hj hj' => ?_), trivial⟩
                  by_cases hjk : j = k
                  · subst hjk
                    rw [HE.out] at hj'
                    injection hj' with hj'
                    rw [← hj']
                    exact HT.out
                  · exact HP.out j e' (by omega) hj'
                case measure => simp [intOf]; omega
        · have b2 : (ix == i) = false := by simpa using d2

          have HT : Hid (recB i e = false) := Lib.hid (by rw [HR.out]; simp [clsK, *])
          clear HR
          go_wp2_with (fail)
          go_roundw
          case rel =>
            refine ⟨k + 1, by omega, by go_num, Lib.hid (fun j e' hj hj' => ?_), trivial⟩
            by_cases hjk : j = k
            · subst hjk
              rw [HE.out] at hj'
              injection hj' with hj'
              rw [← hj']
              exact HT.out
            · exact HP.out j e' (by omega) hj'
          case measure => simp [intOf]; omega
      · have b1 : (cd == 0) = false := by simpa using d1

        have HT : Hid (recB i e = false) := Lib.hid (by rw [HR.out]; simp [clsK, *])
        clear HR
        go_wp2_with (fail)
        go_roundw
        case rel =>
          refine ⟨k + 1, by omega, by go_num, Lib.hid (fun j e' hj hj' => ?_), trivial⟩
          by_cases hjk : j = k
          · subst hjk
            rw [HE.out] at hj'
            injection hj' with hj'
            rw [← hj']
            exact HT.out
          · exact HP.out j e' (by omega) hj'
        case measure => simp [intOf]; omega
    · obtain rfl : k = n := by omega
      clear hlt
      have hlt : ¬ k < k := by omega
      have HF : Hid (firstZ L i = -1) := Lib.hid (firstZ_none (fun j e he => HP.out j e (by rw [← HN.out]; exact (List.getElem?_eq_some_iff.1 he).1) he)).1
      go_wp2_with (fail)
      go_ret
      exact ⟨ret_int HF.out.symm, rfl⟩
end Go.Proofs.Ythnhpmeacboljaa
