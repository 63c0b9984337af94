/- Part 10 of 29: L08Iter L08Len. -/
import Derived.Test.YtobgbcdgffgdhaaGreatZu07
import Derived.LoopIn
import Derived.LoopNIn
import Derived.OwnWalkIn
import Derived.RangeFuncBox
import Derived.Shelf.Abstract
import Derived.TacticsInMore
namespace Go.Proofs.YtobgbcdgffgdhaaGreat
set_option linter.unusedVariables false
set_option linter.unusedSimpArgs false
section
open Go Go.RowKit Go.Deep Go.Shelf
attribute [local go_sem] Oper.semAt_some
def upto (m k : Nat) : List (Fin m) := (List.finRange m).take k
theorem upto_succ {m k : Nat} (h : k < m) : upto m (k + 1) = upto m k ++ [⟨k, h⟩] := by
 unfold upto
 rw [List.take_add_one]
 simp [h]
theorem upto_len {m k : Nat} (h : k ≤ m) : (upto m k).length = k := by simp [upto]; omega
set_option maxRecDepth 100000 in
set_option maxHeartbeats 2000000 in
theorem values1_in (F : Fence) (n : Nat) (hf : F.fn 211) (hro : F.round = none) (hn : 1 ≤ n) (l Bs n₀ B m : Nat) (f : Nat → Value) (hm : m ≤ 4096) (hb : B < n₀) (J Jx : List (Fin m) → World → Prop)
  (hY : ∀ pre (x : Fin m) W, J pre W → pre.length < m → YieldAt F (n - 1) Tryz.prog l #[f x.1] W fun e W' =>
   (e = .returned (.bool true) ∧ J (pre ++ [x]) W' ∧ Below n₀ W W') ∨ (e = .returned (.bool false) ∧ Jx (pre ++ [x]) W'))
  (W : World) (hBs : W.cell? ⟨Bs, 0, none⟩ = some (.slice (some ⟨B, 0, none⟩) m m)) (hc : ∀ j, j < m → W.cell? ⟨B, j, none⟩ = some (f j)) (h0 : J [] W) :
  CallsIn F n Tryz.prog 211 #[.func (.yield l) #[] #[], .pointer (some ⟨Bs, 0, none⟩)] W fun e W' => (∃ v, e = .returned v) ∧
   ((∃ ys, ys = upto m m ∧ J ys W') ∨ (∃ pre, (∃ k, k ≤ m ∧ pre = upto m k) ∧ Jx pre W')) := by
 refine callsIn_of_wp Tryz.func211 rfl hf ?_ hro
 simp only [Tryz.ntmps211, List.size_toArray, List.length_cons, List.length_nil, Nat.reduceAdd, Nat.reduceSub, Array.replicate_succ, Array.replicate_zero, List.push_toArray, List.append_toArray, List.nil_append, List.cons_append]
 gi_wp2
 gi_loopw [7] (fun i wr => ∃ k : Nat, k ≤ m ∧ i = .int .i64 k ∧ J (upto m k) wr ∧ Below n₀ W wr)
  (fun i _ => m - (intOf i).toNat)
 case atStart => exact ⟨0, Nat.zero_le _, rfl, h0, Below.refl _ _⟩
 case round =>
  obtain ⟨k, hk, rfl, hJs, hnx⟩ := hrel
  have hcx : k < m → wr.cell? ⟨B, k, none⟩ = some (f k) := fun h => (hnx.cell (p := ⟨B, k, none⟩) hb).trans (hc k h)
  by_cases hlt : k < m
  ·obtain ⟨fn, tmps, assign, body, hy, hR⟩ := hY _ ⟨k, hlt⟩ wr hJs (by rw [upto_len hk]; exact hlt)
   dsimp only at hy
   have hcx' := hcx hlt
   clear hcx hc
   gi_wp2
   refine hR.mono ?_
   rintro e W3 (⟨rfl, hJ3, hk3⟩ | ⟨rfl, hJx3⟩)
   ·gi_wp2
    go_roundw
    case rel => exact ⟨k + 1, by omega, by simp, by rw [upto_succ hlt]; exact hJ3, hnx.trans hk3⟩
    case measure => simp [intOf]; omega
   ·gi_wp2
    refine bodyPost_ret (results_none rfl _ _ _) rfl ?_
    exact ⟨⟨_, rfl⟩, .inr ⟨_, ⟨k + 1, by omega, (upto_succ hlt).symm⟩, hJx3⟩⟩
  ·obtain rfl : k = m := by omega
   clear hcx hc
   gi_wp2
   go_end0
   exact ⟨⟨_, rfl⟩, .inl ⟨_, rfl, hJs⟩⟩
set_option maxHeartbeats 1000000 in
theorem values_in (F : Fence) (n : Nat) (hf : F.fn 143) (hro : F.round = none) (a : Option Addr) (len cap : Nat) (w : World) :
  CallsIn F n Tryz.prog 143 #[.slice a len cap] w fun e w' => e = .returned (.func (.func 211) #[] #[.pointer (some ⟨w.heap.size, 0, none⟩)]) ∧ w' = w.alloc (.cells #[.slice a len cap] 189) := by
 refine callsIn_of_wp Tryz.func143 rfl hf ?_ hro
 simp only [Tryz.ntmps143, List.size_toArray, List.length_cons, List.length_nil, Nat.reduceAdd, Nat.reduceSub, Array.replicate_succ, Array.replicate_zero, List.push_toArray, List.append_toArray, List.nil_append, List.cons_append]
 gi_wp2
 go_ret
 exact ⟨rfl, rfl⟩
set_option maxHeartbeats 1000000 in
theorem each_in (F : Fence) (n : Nat) (h1 : F.fn 98) (hf : F.fn 143) (hro : F.round = none) (hn : 1 ≤ n) (b len cap : Nat) (a : Option Addr) (w : World) (hc : w.cell? ⟨b, 0, none⟩ = some (.slice a len cap)) :
  CallsIn F n Tryz.prog 98 #[.pointer (some ⟨b, 0, none⟩)] w fun e w' => e = .returned (.func (.func 211) #[] #[.pointer (some ⟨w.heap.size, 0, none⟩)]) ∧ w' = w.alloc (.cells #[.slice a len cap] 189) := by
 refine callsIn_of_wp Tryz.func98 rfl h1 ?_ hro
 simp only [Tryz.ntmps98, List.size_toArray, List.length_cons, List.length_nil, Nat.reduceAdd, Nat.reduceSub, Array.replicate_succ, Array.replicate_zero, List.push_toArray, List.append_toArray, List.nil_append, List.cons_append]
 gi_wp2_with (gi_at_call 143; refine (values_in F (n - 1) hf hro _ _ _ _).mono ?_; rintro e w' ⟨rfl, rfl⟩)
 go_ret
 exact ⟨rfl, rfl⟩
def nth (ss : List Value) (j : Nat) : Value := ss.getD j (.slice none 0 0)
theorem nth_of {ss : List Value} {j : Nat} {s : Value} (h : ss[j]? = some s) : nth ss j = s := by simp [nth, List.getD_eq_getElem?_getD, h]
theorem buckets_stops (F : Fence) (n : Nat) (hf : F.fn 211) (hro : F.round = none) (hn : 1 ≤ n) (Bs n₀ b B m : Nat) (ss : List Value) (L : List Ent) (w : World) (hBs : Bs < w.heap.size) (hn₀ : n₀ ≤ w.heap.size)
  (hc : w.cell? ⟨Bs, 0, none⟩ = some (.slice (some ⟨B, 0, none⟩) m m)) (hp : RingP w b B m ss L) (hB : B < n₀) :
  SeqStopsK F n Tryz.prog 211 #[.pointer (some ⟨Bs, 0, none⟩)] (fun x : Fin m => #[nth ss x.1]) (Below n₀) (fun ys => ys = upto m m) (fun pre => ∃ k, k ≤ m ∧ pre = upto m k) m w := fun l J Jx W hW _ _ hY h0 =>
 values1_in F n hf hro hn l Bs n₀ B m (nth ss) hp.top hB J Jx hY W ((hW.cell (p := ⟨Bs, 0, none⟩) hBs).trans hc) (fun j hj => by
  obtain ⟨s, hs⟩ := hp.get hj
  rw [nth_of hs]
  exact (hW.cell (p := ⟨B, j, none⟩) hp.bks.lt).trans (hp.cells hs).2) h0
end
section
open Go Go.RowKit Go.Deep Go.Shelf
attribute [local go_sem] Oper.semAt_some
def sumN {m : Nat} (c : Nat → Nat) (l : List (Fin m)) : Nat := (l.map fun x => c x.1).sum
theorem sumN_snoc {m : Nat} (c : Nat → Nat) (l : List (Fin m)) (x : Fin m) : sumN c (l ++ [x]) = sumN c l + c x.1 := by simp [sumN]
theorem sumN_le {m : Nat} (c : Nat → Nat) (M : Nat) (h : ∀ j, c j ≤ M) (l : List (Fin m)) : sumN c l ≤ l.length * M := by
 induction l with
 | nil => simp [sumN]
 | cons x l ih =>
  have := h x.1
  simp only [sumN, List.map_cons, List.sum_cons, List.length_cons, Nat.add_mul, Nat.one_mul] at ih ⊢
  omega
theorem sumN_add {m : Nat} (c d : Nat → Nat) (l : List (Fin m)) : sumN (fun j => c j + d j) l = sumN c l + sumN d l := by
 induction l with
 | nil => rfl
 | cons x l ih => simp only [sumN, List.map_cons, List.sum_cons] at ih ⊢; omega
theorem sumN_zero {m : Nat} (l : List (Fin m)) : sumN (fun _ => 0) l = 0 := by
 induction l with
 | nil => rfl
 | cons x l ih => simpa [sumN] using ih
theorem sumN_one {m : Nat} (q : Nat) : ∀ k, k ≤ m → sumN (fun j => if q = j then 1 else 0) (upto m k) = if q < k then 1 else 0
 | 0, _ => by simp [sumN, upto]
 | k + 1, h => by
  rw [upto_succ (by omega), sumN_snoc, sumN_one q k (by omega)]
  by_cases h1 : q < k
  ·have : ¬ q = k := by omega
   simp [h1, this]; omega
  ·by_cases h2 : q = k <;> simp [h1, h2] <;> omega
theorem sum_bk (n : Nat) (hn : 1 ≤ n) : ∀ L : List Ent, sumN (fun j => (bk n L j).length) (upto n n) = L.length
 | [] => sumN_zero _
 | e :: L => by
  obtain ⟨q, hq⟩ : ∃ q : Nat, e.1 % (n : Int) = (q : Int) := ⟨(e.1 % (n : Int)).toNat, by have := Int.emod_nonneg e.1 (b := (n : Int)) (by omega); omega⟩
  have hqn : q < n := by have := Int.emod_lt_of_pos e.1 (b := (n : Int)) (by omega); omega
  have hf : (fun j => (bk n (e :: L) j).length) = fun j => (if q = j then 1 else 0) + (bk n L j).length := by
   funext j
   unfold bk
   by_cases h : q = j
   ·subst h
    rw [List.filter_cons_of_pos (by simp [hq])]
    simp; omega
   ·rw [List.filter_cons_of_neg (by simp [hq]; omega)]
    simp [h]
  rw [hf, sumN_add, sumN_one q n (Nat.le_refl _), sum_bk n hn L, if_pos hqn]
  simp; omega
set_option maxRecDepth 100000 in
set_option maxHeartbeats 2000000 in
theorem len_in (F : Fence) (n : Nat) (h12 : F.fn 51) (h25 : F.fn 98) (h30 : F.fn 143) (h33 : F.fn 211) (hro : F.round = none) (hn : 4 ≤ n) (b B m : Nat) (ss : List Value) (L : List Ent) (w : World) (hp : RingP w b B m ss L) (hL : L.length ≤ 100000) :
  CallsIn F n Tryz.prog 51 #[.pointer (some ⟨b, 0, none⟩)] w fun e W' => e = .returned (.int .i64 L.length) ∧ Below w.heap.size w W' := by
 have h1 : 1 ≤ n := by omega
 refine callsIn_of_wp_marks Tryz.func51 rfl h12 ?_ hro
 have x0 := cell_alloc_some (.cells #[.int .i64 0] 3) (hp.own.cell 0)
 simp only [Tryz.ntmps51, List.size_toArray, List.length_cons, List.length_nil, Nat.reduceAdd, Nat.reduceSub, Array.replicate_succ, Array.replicate_zero, List.push_toArray, List.append_toArray, List.nil_append, List.cons_append]
 gi_wp2_with (gi_at_call 98; refine (each_in F (n - 1) h25 h30 hro (by omega) b m m (some ⟨B, 0, none⟩) _ x0).mono ?_; rintro e w' ⟨rfl, rfl⟩)
 have bS := Boxed.new w 3 (.int .i64 0)
 have bN := Boxed.new (w.alloc (.cells #[.int .i64 0] 3)) 189 (.slice (some ⟨B, 0, none⟩) m m)
 rw [World.size_alloc] at bN
 have hB0 : Below w.heap.size w ((w.alloc (.cells #[.int .i64 0] 3)).alloc (.cells #[.slice (some ⟨B, 0, none⟩) m m] 189)) := ((Below.refl _ w).alloc (Nat.le_refl _) _).alloc (by simp) _
 have hp2 : RingP ((w.alloc (.cells #[.int .i64 0] 3)).alloc (.cells #[.slice (some ⟨B, 0, none⟩) m m] 189)) b B m ss L := hp.same (hB0.block _ hp.own.lt) (hB0.block _ hp.bks.lt) (fun s hs i hi => hB0.block _ (hp.lt hs hi))
 refine wpIn_rangeFunc_ownG hro h1 (gf := 211) (lb := #[.pointer (some ⟨w.heap.size + 1, 0, none⟩)]) rfl h33 (enters_of Tryz.func211 (by kernel_rfl) rfl)
  (buckets_stops F (n - 1) h33 hro (by omega) (w.heap.size + 1) w.heap.size b B m ss L _ (by simp) (by simp; omega) bN.cell hp2 hp.bks.lt) belowK_t (belowK_b (by simp; omega)) (Below.refl _ _) (fun _ => rfl)
  (fun pre W => (W.cell? ⟨w.heap.size, 0, none⟩ = some (.int .i64 (sumN (fun j => (bk m L j).length) pre)) ∧ W.frozen? ⟨w.heap.size, 0, none⟩ = false) ∧ Below w.heap.size w W)
  (fun _ _ _ => False)
  (OwnFrom.and (Own.from (fun s A B row hs hg hr => ⟨cell_kept hs.1 hg hr, (frozen_kept hs.1 hg hr).trans hs.2⟩) _) (ownFrom_below (Nat.le_refl _) (by simp; omega)))
  (fun _ _ _ _ _ hs _ _ => hs)
  ⟨⟨(bS.alloc _).cell, (bS.alloc _).frozen⟩, hB0⟩
  (fun x => { tmps := #[.pointer (some ⟨b, 0, none⟩), undef, .int .i64 0, .pointer (some ⟨w.heap.size, 0, none⟩), nth ss x.1, .pointer (some ⟨b, 0, none⟩), .func (.func 211) #[] #[.pointer (some ⟨w.heap.size + 1, 0, none⟩)], nth ss x.1, undef, undef, undef, undef, undef], defers := [] }) ?assign ?body ?done ?stop
 case assign =>
  intro l x W K hK
  gi_wp2
  exact hK
 case body =>
  rintro l pre x W ⟨⟨hc, hf⟩, hB⟩ hpl
  obtain ⟨s, hs⟩ := hp.get x.2
  have hq := bk_len m L x.1
  obtain ⟨a, cp, rfl, hcp, hcp2⟩ := owns_slice_08 (hp.row x.1 s hs)
  have hnt := nth_of hs
  have hsum := sumN_le (fun j => (bk m L j).length) 100000 (fun j => Nat.le_trans (bk_len m L j) hL) pre
  have htop := hp.top
  have hsn := sumN_snoc (fun j => (bk m L j).length) pre x
  obtain ⟨q, hqe⟩ := named ((bk m L x.1).length)
  obtain ⟨t, hte⟩ : ∃ t, sumN (fun j => (bk m L j).length) pre = t := ⟨_, rfl⟩
  try dsimp only at hsn
  rw [hqe, hte] at hsn
  rw [hqe] at hnt hq hcp
  rw [hte] at hc hsum
  have hpl2 : pre.length * 100000 ≤ 4096 * 100000 := Nat.mul_le_mul_right _ (by omega)
  have HSN := Lib.hid hsn
  clear hsn hs hqe hte
  unfold maxLen at hcp2
  try dsimp only
  rw [hnt]
  gi_wp2
  exact ⟨(KeepsOthers.setCell _ _ _).from _, (Below.refl w.heap.size W).setCell (p := ⟨w.heap.size, 0, none⟩) (Nat.le_refl _) _, ⟨by rw [HSN.out]; exact World.cell?_setCell_same' _ _ _ (by rw [hc]; rfl), by rw [World.frozen?_setCell]; exact hf⟩, hB.setCell (p := ⟨w.heap.size, 0, none⟩) (Nat.le_refl _) _⟩
 case done =>
  rintro D ys W hD rfl ⟨⟨hc, _⟩, hB⟩ hK
  rw [sum_bk m hp.pos] at hc
  gi_wp2
  refine ⟨by simp, .inl ⟨_, _, rfl, run_takeDeferred hK, ?_⟩⟩
  exact ⟨_, results_tmp rfl _ _ _, rfl, hB.trans (belowK_b (w := w) (Nat.le_refl _) W D _ _ (by simp at hD; omega) hK rfl rfl)⟩
 case stop =>
  rintro D c pre W _ _ h _
  exact h.elim
theorem len_any_08 (b n : Nat) (S : Nat → Prop) (L : List Ent) (w : World) (h : Ring w b S n L) (hL : L.length ≤ 100000) :
  CallB 51 #[.pointer (some ⟨b, 0, none⟩)] w (.int .i64 L.length) := by
 obtain ⟨B, ss, hp, -⟩ := h
 exact callsIn_wide.1 (len_in Fence.wide 4 trivial trivial trivial trivial rfl (Nat.le_refl _) b B n ss L w hp hL)
end
end Go.Proofs.YtobgbcdgffgdhaaGreat
