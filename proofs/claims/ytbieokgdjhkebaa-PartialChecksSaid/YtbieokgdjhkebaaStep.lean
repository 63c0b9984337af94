/- Step. -/
import Derived.Test.YtbieokgdjhkebaaCollect
import Derived.Test.YtbieokgdjhkebaaWhole
namespace Go.Proofs.Ytbieokgdjhkebaa
open Go Go.RowKit Go.Deep
set_option linter.unusedVariables false
set_option linter.unusedSimpArgs false
set_option maxRecDepth 100000

set_option maxHeartbeats 1600000 in
theorem step_any (a b : Option Addr) (cp cq : Nat) (l : List Val) (q : List Rq) (c : Nat → Int) (w : World) (hL : Lst w (fun _ => False) a l) (hq : LstR Rq.row 2 w (fun _ => False) b q) (hf : ∀ v ∈ l, FitsV v) (hfq : ∀ r ∈ q, FitsRq r) (h5 : 0 ≤ c 5) (h16 : 0 ≤ c 16) (hl : l.length ≤ 60) (hql : q.length ≤ 60) (hcq : q.length ≤ cq) :
    Calls Try.prog 16 #[.slice a l.length cp, .slice b q.length cq, .agg (cellsOf c)] w fun e w' => ∃ v p, e = .returned (.tuple #[v, p, .int .i64 (stepN c q)]) ∧
      w'.ownsRow w.heap.size 33 7 v l.length (flat (stepL (c 5) l (q.take (stepN c q)))) ∧ w'.ownsRow w.heap.size 51 3 p (stepP (c 5) l (q.take (stepN c q))).length (flatR Py.row (stepP (c 5) l (q.take (stepN c q)))) ∧ Below w.heap.size w w' := by
  obtain ⟨m, hm⟩ : ∃ m, stepN c q = m := ⟨_, rfl⟩
  have hmq : m ≤ q.length := by rw [← hm]; exact Nat.min_le_right _ _
  have hm1 : min (c 16) (q.length : Int) = (m : Int) := by rw [← hm]; unfold stepN; omega
  have hm2 : max (0 : Int) (m : Int) = (m : Int) := by omega
  rw [hm]
  have hm60 : m ≤ 60 := by omega
  have hmc : m ≤ cq := by omega
  have hB : Blk (w.alloc (.cells (cellsOf c) 35)) w.heap.size 35 (cellsOf c) := Blk.new _ _ _
  have b0 : Below w.heap.size w (w.alloc (.cells (cellsOf c) 35)) := (Below.refl _ _).alloc (Nat.le_refl _) _
  have HB := Lib.hid (And.intro hB b0)
  have HC := Lib.hid (clone_any (fun _ => False) a cp l (w.alloc (.cells (cellsOf c) 35)) (hL.below b0) (by omega))
  have HQ := Lib.hid hq
  have HF := Lib.hid (fun k => stepL_fits (c 5) h5 (q.take k) l (fun r hr => hfq r (List.mem_of_mem_take hr)) hf)
  have HFQ := Lib.hid hfq
  have HP := Lib.hid (fun k => stepP_len (c 5) (q.take k) l)
  have HS : Hid ((w.alloc (.cells (cellsOf c) 35)).heap.size = w.heap.size + 1) := Lib.hid (by simp)
  obtain ⟨n, hn⟩ : ∃ n, l.length = n := ⟨_, rfl⟩
  obtain ⟨nq, hnq⟩ : ∃ nq, q.length = nq := ⟨_, rfl⟩
  rw [hn] at HC ⊢
  rw [hnq] at hm1 hmq ⊢
  have HN := Lib.hid (And.intro hn hnq)
  have hmf : ∀ (fn : Fn) (first cap : Array Value) (w : World), (Instr.makeFunc fn first cap).run Try.prog w = .ok (.func fn first cap) w := fun _ _ _ _ => rfl
  clear hB b0 hL hq hf hfq hm hn hnq hcq
  go_enter Try.func16, Try.ntmps16
  go_upto_region 1 with (fail)
  generalize w.alloc (.cells (cellsOf c) 35) = W at *
  go_wp2_with fail
  refine HC.out.mono ?_
  rintro e w1 ⟨v, rfl, ho, b1⟩
  obtain ⟨a', cp', rfl, -, -⟩ := owns_slice (owns_base ho (Nat.zero_le _))
  have H1 : Hid (w1.ownsRow (w.heap.size + 1) 33 7 (.slice a' n cp') n (flat l) ∧ Blk w1 w.heap.size 35 (cellsOf c) ∧ Below w.heap.size w w1) := Lib.hid ⟨HS.out ▸ ho, HB.out.1.below b1 HB.out.1.lt, HB.out.2.trans (b1.mono HB.out.2.size)⟩
  clear ho b1 HB HC HS
  go_upto_region 2 with (fail)
  have H2 : Hid ((w1.alloc (.cells #[.slice a' n cp'] 22)).ownsRow (w.heap.size + 1) 33 7 (.slice a' n cp') n (flat l) ∧ Blk (w1.alloc (.cells #[.slice a' n cp'] 22)) w.heap.size 35 (cellsOf c) ∧ Below w.heap.size w (w1.alloc (.cells #[.slice a' n cp'] 22)) ∧
      Blk (w1.alloc (.cells #[.slice a' n cp'] 22)) w1.heap.size 22 #[.slice a' n cp'] ∧ w.heap.size < w1.heap.size) := Lib.hid ⟨World.ownsRow.alloc H1.out.1 _, H1.out.2.1.alloc _, H1.out.2.2.alloc H1.out.2.2.size _, Blk.new _ _ _, H1.out.2.1.lt⟩
  clear H1
  generalize w1.alloc (.cells #[.slice a' n cp'] 22) = w2 at *
  generalize w1.heap.size = g9 at *
  have x16 : w2.cell? ⟨w.heap.size, 16, none⟩ = some (.int .i64 (c 16)) := H2.out.2.1.cell 16
  go_upto_region 5 with (fail)
  have A0 : Hid (Sp w (w2.alloc (.cells #[.slice none 0 0] 42)) g9 w2.heap.size a' n cp' (.slice none 0 0) (stepL (c 5) l (q.take 0)) (stepP (c 5) l (q.take 0)) c) := Lib.hid
    { cfg := H2.out.2.1.alloc _, aft := H2.out.2.2.2.1.alloc _, pay := Blk.new _ _ _, own := World.ownsRow.alloc H2.out.1 _, pys := World.ownsRow_nil _ _ _ _, n9 := H2.out.2.2.2.2, n11 := H2.out.2.1.lt, below := H2.out.2.2.1.alloc H2.out.2.2.1.size _ }
  clear H2 x16 hm1 hm2 hmf
  generalize w2.alloc (.cells #[.slice none 0 0] 42) = w3 at *
  generalize w2.heap.size = g11 at *
  go_wp2
  go_loopw [14, 28] (fun s14 s28 wr => ∃ (k : Nat) (v : Value), k ≤ m ∧ s28 = .int .i64 k ∧ Hid (Sp w wr g9 g11 a' n cp' v (stepL (c 5) l (q.take k)) (stepP (c 5) l (q.take k)) c)) (fun _ s28 _ => m - (intOf s28).toNat)
  case atStart => exact ⟨0, _, by omega, rfl, A0⟩
  case round =>
    obtain ⟨k, v, hk, rfl, HA⟩ := hrel
    clear A0
    by_cases hlt : k < m
    · obtain ⟨r, hr⟩ : ∃ r, q[k]? = some r := ⟨_, List.getElem?_eq_getElem (by have := HN.out; omega)⟩
      obtain ⟨qb, qo, rfl, -, hqb, hrp⟩ := HQ.out.at hr
      have HR := Lib.hid hr
      have R1 : Hid (wr.rangeAt qb (qo + k * 2) r.row) := Lib.hid (rangeAt_same hrp (HA.out.below.block qb hqb))
      have k1 : ¬ (k : Int) < 0 := by omega
      have k2 : ¬ (m : Int) ≤ (k : Int) := by omega
      have k3 : (k : Int) < (m : Int) := by omega
      have HCO : Hid (∀ w1, Sp w w1 g9 g11 a' n cp' v (stepL (c 5) l (q.take k)) (stepP (c 5) l (q.take k)) c → Calls Try.prog 27 #[.agg (cellsRq r), .pointer (some ⟨g11, 0, none⟩), .pointer (some ⟨g9, 0, none⟩), .pointer (some ⟨w.heap.size, 0, none⟩)] w1 fun e w' => e = .returned (.tuple #[]) ∧ ∃ v', Sp w w' g9 g11 a' n cp' v' (stepL (c 5) l (q.take (k + 1))) (stepP (c 5) l (q.take (k + 1))) c) := Lib.hid (fun w1 h => by
        rw [takeq_snoc HR.out, stepL_snoc, stepP_snoc]
        refine collect_any w w1 g9 g11 a' n cp' v _ _ c r h (by rw [stepL_len]; exact HN.out.1) (HF.out k) (HFQ.out r (List.mem_of_getElem? HR.out)) h5 ?_
        have := HP.out k
        rw [List.length_take] at this
        omega)
      have A1 := Lib.hid (HA.out.next ((Below.refl _ wr).alloc (Nat.le_refl _) (.cells (cellsRq r) 29)))
      clear hr hrp HA
      go_wp2_with (first | (refine wpList_load_Rq rfl 29 _ rfl qb (qo + k * 2) rfl r _ R1.out Try.underlying29 rfl infoRq ?_) | (refine wpList_store_row rfl _ _ _ rfl wr.heap.size (cellsRq r) rfl rfl 29 _ (heap_alloc_new wr _) infoRq rfl (cellsRq_one _) ?_; rw [World.setRow_alloc_new]) | (refine wpList_load_row rfl 29 _ rfl wr.heap.size rfl 29 _ (0, 0) _ (heap_alloc_new wr _) Try.underlying29 rfl infoRq ?_))
      refine (HCO.out _ A1.out).mono ?_
      rintro e w8 ⟨rfl, v', hA8⟩
      have A8 := Lib.hid hA8
      clear hA8 A1 R1 HCO
      go_wp2
      go_roundw
      case rel => exact ⟨k + 1, v', by omega, by go_num, A8⟩
      case measure => simp [intOf]; omega
    · obtain rfl : k = m := by omega
      clear hlt
      have hlt : ¬ k < k := by omega
      have y9 : wr.cell? ⟨g9, 0, none⟩ = some (.slice a' n cp') := HA.out.aft.cell 0
      have y11 : wr.cell? ⟨g11, 0, none⟩ = some v := HA.out.pay.cell 0
      go_wp2
      go_quiet (fail)
      go_wp2
      go_ret3
      exact ⟨_, _, rfl, owns_base HA.out.own (by omega), ownsR_base HA.out.pys (by omega), below_drewN HA.out.below _⟩
end Go.Proofs.Ytbieokgdjhkebaa
