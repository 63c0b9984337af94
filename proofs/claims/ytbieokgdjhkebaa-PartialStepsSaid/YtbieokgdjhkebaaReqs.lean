/- The law's requests; the reference's Step. -/
import Derived.Test.YtbieokgdjhkebaaPay
namespace Go.Proofs.Ytbieokgdjhkebaa
open Go Go.RowKit Go.Deep
set_option linter.unusedVariables false
set_option linter.unusedSimpArgs false
set_option maxRecDepth 100000

set_option maxHeartbeats 800000 in
theorem requests_any (b : Option Addr) (cq : Nat) (q : List Rq) (w : World) (hq : LstR Rq.row 2 w (fun _ => False) b q) (hql : q.length ≤ 4096) :
    Calls Try.prog 17 #[.slice b q.length cq] w fun e w' => ∃ v, e = .returned v ∧ w'.ownsRow w.heap.size 29 2 v q.length (flatR Rq.row q) ∧ Below w.heap.size w w' := by
  have HQ := Lib.hid hq
  obtain ⟨n, hn⟩ : ∃ n, q.length = n := ⟨_, rfl⟩
  rw [hn] at hql ⊢
  have HN := Lib.hid hn
  obtain ⟨j0, hj0, hz0, hs0, hby0⟩ := appRq
  clear hq hn
  go_enter Try.func17, Try.ntmps17
  go_wp2
  go_loopw [3, 5, 8] (fun s3 s5 s8 wr => ∃ k : Nat, k ≤ n ∧ s8 = .int .i64 k ∧ Hid (wr.ownsRow w.heap.size 29 2 s3 k (flatR Rq.row (q.take k))) ∧ Below w.heap.size w wr) (fun _ _ s8 _ => n - (intOf s8).toNat)
  case atStart => exact ⟨0, by omega, rfl, Lib.hid (World.ownsRow_nil _ _ _ _), Below.refl _ _⟩
  case round =>
    obtain ⟨k, hk, rfl, HO, BR⟩ := hrel
    by_cases hlt : k < n
    · obtain ⟨r, hr⟩ : ∃ r, q[k]? = some r := ⟨_, List.getElem?_eq_getElem (by have := HN.out; omega)⟩
      obtain ⟨qb, qo, rfl, -, hqb, hrp⟩ := HQ.out.at hr
      have HR := Lib.hid hr
      have R1 : Hid (wr.rangeAt qb (qo + k * 2) r.row) := Lib.hid (rangeAt_same hrp (BR.block qb hqb))
      have k1 : ¬ (k : Int) < 0 := by omega
      have k2 : ¬ (n : Int) ≤ (k : Int) := by omega
      have k3 : (k : Int) < (n : Int) := by omega
      have A1 : Hid ((wr.alloc (.cells (cellsRq r) 25)).ownsRow w.heap.size 29 2 u3 k (flatR Rq.row (q.take k)) ∧ Below w.heap.size w (wr.alloc (.cells (cellsRq r) 25)) ∧ Blk (wr.alloc (.cells (cellsRq r) 25)) wr.heap.size 25 (cellsRq r)) := Lib.hid ⟨World.ownsRow.alloc HO.out _, BR.alloc BR.size _, Blk.new _ _ _⟩
      clear hr hrp HO BR
      go_upto_region 5 with (first | (refine wpList_load_Rq rfl 25 _ rfl qb (qo + k * 2) rfl r _ R1.out Try.underlying25 rfl infoRqF ?_) | (refine wpList_store_row rfl _ _ _ rfl wr.heap.size (cellsRq r) rfl rfl 25 _ (heap_alloc_new wr _) infoRqF rfl (cellsRq_one _) ?_; rw [World.setRow_alloc_new]))
      clear R1
      generalize wr.alloc (.cells (cellsRq r) 25) = w1 at *
      generalize wr.heap.size = rb at *
      go_wp2_with (first | (refine wpList_load_row rfl 25 _ rfl rb rfl 25 _ (0, 0) _ A1.out.2.2 Try.underlying25 rfl infoRqF ?_) | (refine wpList_oneRq rfl _ r rfl rfl ?_) | (at_builtin; refine wpList_append_src _ rfl (.tmp 12) (.tmp 14) 45 rfl w.heap.size 29 j0 _ 2 16 Try.underlying45 hj0 hz0 hs0 hby0 (cellsRq_size _) (by omega) u3 k (flatR Rq.row (q.take k)) rfl (World.ownsRow.alloc A1.out.1 _) (some ⟨w1.heap.size, 0, none⟩) 1 1 (Rq.row r) rfl rfl (fun _ => ⟨_, rfl, newR_cells w1 _ _⟩) (Rq.row_one _) (by unfold maxLen; omega) (by omega) (by have := A1.out.2.1.size; simp; omega) ?_; intro v1 w8 ho hg hv))
      have Z : Hid (w8.ownsRow w.heap.size 29 2 v1 (k + 1) (flatR Rq.row (q.take (k + 1))) ∧ Below w.heap.size w w8) := Lib.hid ⟨by rw [takeq_snoc HR.out, flatR_append, flatR_one]; exact ho, (A1.out.2.1.alloc A1.out.2.1.size _).grown hg (by have := A1.out.2.1.size; simp; omega) (fun i hi => (A1.out.1.lt i hi).1)⟩
      clear ho hg hv A1
      go_wp2
      go_roundw
      case rel => exact ⟨k + 1, by omega, by go_num, Lib.hid Z.out.1, Z.out.2⟩
      case measure => simp [intOf]; omega
    · obtain rfl : k = n := by omega
      have Z : Hid (wr.ownsRow w.heap.size 29 2 u3 k (flatR Rq.row q)) := Lib.hid (by
        have := HO.out
        rwa [List.take_of_length_le (by rw [HN.out]; exact Nat.le_refl _)] at this)
      clear hlt HO
      have hlt : ¬ k < k := by omega
      go_wp2
      go_ret
      exact ⟨_, rfl, Z.out, BR⟩
/-- What stands in the midst of the reference's step. -/
def RSt (w wr : World) (u v : Value) (n : Nat) (L : List Val) (P : List Py) (c : Nat → Int) : Prop :=
  wr.ownsRow (w.heap.size + 1) 33 7 u n (flat L) ∧ wr.ownsRow (w.heap.size + 1) 51 3 v P.length (flatR Py.row P) ∧ Blk wr w.heap.size 35 (cellsOf c) ∧ Below w.heap.size w wr
section
variable {w wr w' : World} {u v : Value} {n : Nat} {L : List Val} {P : List Py} {c : Nat → Int}
theorem RSt.next (h : RSt w wr u v n L P c) (hb : Below wr.heap.size wr w') : RSt w w' u v n L P c :=
  ⟨ownsR_below h.1 hb, ownsR_below h.2.1 hb, h.2.2.1.below hb h.2.2.1.lt, h.2.2.2.trans (hb.mono h.2.2.2.size)⟩
theorem RSt.moved (h : RSt w wr u v n L P c) {u' : Value} {L' : List Val} (hb : Below wr.heap.size wr w') (ho : w'.ownsRow wr.heap.size 33 7 u' n (flat L')) : RSt w w' u' v n L' P c :=
  ⟨owns_base ho h.2.2.1.lt, (h.next hb).2⟩
/-- A cell of a validator's box is stored to. -/
theorem RSt.set (h : RSt w wr u v n L P c) {b : Nat} {cs : Array Value} (hb : Blk wr b 33 cs) (hne : ∀ i, u.ownBlock = some i → i ≠ b) (hge : w.heap.size ≤ b) (j : Nat) (x : Value) : RSt w (wr.setCell ⟨b, j, none⟩ x) u v n L P c := by
  refine ⟨ownsR_same h.1 (fun i hi => Below.heap_setCell wr _ _ i (hne i hi)), ownsR_same h.2.1 (fun i hi => ?_), h.2.2.1.far (Blk.ne_ h.2.2.1 hb (by decide)) _, h.2.2.2.setCell hge _⟩
  obtain ⟨cur, h1, _⟩ := ownsR_blk h.2.1 hi
  exact Below.heap_setCell wr _ _ i (Blk.ne_ h1 hb (by decide))
theorem RSt.paid (h : RSt w wr u v n L P c) {v' : Value} {p : Py} (ho : w'.ownsRow (w.heap.size + 1) 51 3 v' (P.length + 1) (flatR Py.row P ++ Py.row p)) (hg : wr.grownBy w' v.ownBlock) : RSt w w' u v' n L (P ++ [p]) c := by
  have k : Kept (fun i => v.ownBlock = some i) wr w' := Kept.of_grown hg (fun i hi => hi.symm)
  have np : ∀ {b t : Nat} {cs : Array Value}, Blk wr b t cs → t ≠ 51 → ¬ v.ownBlock = some b := fun hb ht e => by
    obtain ⟨cur, h1, _⟩ := ownsR_blk h.2.1 e
    exact Blk.ne_ hb h1 ht rfl
  refine ⟨ownsR_kept h.1 k (fun i hi => ?_), by rw [List.length_append, flatR_append, flatR_one]; exact ho, h.2.2.1.kept k (np h.2.2.1 (by decide)), Kept.below h.2.2.2 k (fun i hi => ?_) h.2.2.2.size⟩
  · obtain ⟨cur, h1, _⟩ := ownsR_blk h.1 hi
    exact np h1 (by decide)
  · obtain ⟨cur, _, h1⟩ := ownsR_blk h.2.1 hi
    omega
end
end Go.Proofs.Ytbieokgdjhkebaa
